/- What HeadApart reaches of my texts, part 4. -/
import Derived.Test.YtnccblhdokplkaaHeadApartC
set_option maxRecDepth 100000
set_option maxRecDepth 100000
namespace Go.Proofs.Ytnccblhdokplkaa
open Go.RowKit

theorem hapart_law {a b c d a' b' c' d' : Int} (h1 : headOk a b c d) (h2 : headOk a' b' c' d') : (((textOf (wrB a b c d [])).toList == (textOf (wrB a' b' c' d' [])).toList) == sameI [a, b, c, d] [a', b', c', d']) = true := by
  rw [wrB_yes h1, wrB_yes h2, List.append_nil, List.append_nil, textOf_beq (tenB_lt _ _ _ _) (tenB_lt _ _ _ _)]
  unfold sameI
  rw [beq_iff_eq]
  refine decide_eq_decide.2 ⟨fun h => ?_, fun h => ?_⟩
  · obtain ⟨rfl, rfl, rfl, rfl⟩ := ten_inj (head_lim h1) (head_lim h2) h; rfl
  · simp only [List.cons.injEq, and_true] at h
    obtain ⟨rfl, rfl, rfl, rfl⟩ := h; rfl
theorem hapart_seq {a b c d a' b' c' d' : Int} (h1 : seqOk a b c d) (h2 : seqOk a' b' c' d') : (((textOf (opB a b c d)).toList == (textOf (opB a' b' c' d')).toList) == sameI [a, b, c, d] [a', b', c', d']) = true := by
  rw [show opB a b c d = tenB a b c d from if_pos h1, show opB a' b' c' d' = tenB a' b' c' d' from if_pos h2, textOf_beq (tenB_lt _ _ _ _) (tenB_lt _ _ _ _)]
  unfold sameI
  rw [beq_iff_eq]
  refine decide_eq_decide.2 ⟨fun h => ?_, fun h => ?_⟩
  · obtain ⟨rfl, rfl, rfl, rfl⟩ := ten_inj (seq_lim h1) (seq_lim h2) h; rfl
  · simp only [List.cons.injEq, and_true] at h
    obtain ⟨rfl, rfl, rfl, rfl⟩ := h; rfl
theorem tmod10 (c : Nat) : Int.tmod (c : Int) 10 = ((c % 10 : Nat) : Int) := by rw [Int.tmod_eq_emod_of_nonneg (by omega)]; omega
set_option maxHeartbeats 4000000 in
set_option maxRecDepth 100000 in
theorem hapart_walk (K Q D F K2 Q2 D2 F2 W H R B W2 H2 R2 B2 : Int) (v : Value) (l : List Nat) (c : Nat) (T_b : Nat → Prop) (w0 : World) (hc : c < 256) (h_b : Byt w0 T_b v (l)) :
    Calls Try.prog 7 #[.agg #[.int .i64 (K), .int .i64 (Q), .int .i64 (D), .int .i64 (F)], .agg #[.int .i64 (K2), .int .i64 (Q2), .int .i64 (D2), .int .i64 (F2)], .agg #[.int .i64 (W), .int .i64 (H), .int .i64 (R), .int .i64 (B)], .agg #[.int .i64 (W2), .int .i64 (H2), .int .i64 (R2), .int .i64 (B2)], v, .int .u8 (((c : Nat) : Int))] w0 fun e w' => e = .returned (.bool true) ∧ Kept (fun _ => False) w0 w' := by
  refine calls_wq (args := [.agg #[.int .i64 (K), .int .i64 (Q), .int .i64 (D), .int .i64 (F)], .agg #[.int .i64 (K2), .int .i64 (Q2), .int .i64 (D2), .int .i64 (F2)], .agg #[.int .i64 (W), .int .i64 (H), .int .i64 (R), .int .i64 (B)], .agg #[.int .i64 (W2), .int .i64 (H2), .int .i64 (R2), .int .i64 (B2)], v, .int .u8 (((c : Nat) : Int))]) 134 Try.func7 rfl rfl (Nat.le_of_ble_eq_true rfl) ?_
  have K0 := Kept.refl (fun _ => False) w0
  have hle := wrB_le K Q D F []
  have hop := opB_le W H R B
  have g_b := Grew.refl w0 T_b
  refine wq_seq ?_
  refine wq_region ?_
  refine wl_box_stc (vs := [.int .i64 (K), .int .i64 (Q), .int .i64 (D), .int .i64 (F)]) rfl rfl rfl rfl fun p1 w2 B4 g5 k3 => ?_
  have gr6 : Grew w0 noB (onB p1) := Grew.new K0 g5
  have ap7 : Apart (onB p1) (T_b) := Apart.new g5 (h_b).live
  have B8 := h_b.all k3 Apart.none
  have K9 := K0.trans k3 (fun _ _ x => x.elim)
  refine wl_box_stc (vs := [.int .i64 (K2), .int .i64 (Q2), .int .i64 (D2), .int .i64 (F2)]) rfl rfl rfl rfl fun p10 w11 B13 g14 k12 => ?_
  have gr15 : Grew w0 noB (onB p10) := Grew.new K9 g14
  have ap16 : Apart (onB p10) (T_b) := Apart.new g14 (B8).live
  have ap17 : Apart (onB p10) (onB p1) := Apart.new g14 (onB_live (B4).lt)
  have B18 := B8.all k12 Apart.none
  have B19 := B4.all k12 id
  have K20 := K9.trans k12 (fun _ _ x => x.elim)
  refine wl_box_stc (vs := [.int .i64 (W), .int .i64 (H), .int .i64 (R), .int .i64 (B)]) rfl rfl rfl rfl fun p21 w22 B24 g25 k23 => ?_
  have gr26 : Grew w0 noB (onB p21) := Grew.new K20 g25
  have ap27 : Apart (onB p21) (T_b) := Apart.new g25 (B18).live
  have ap28 : Apart (onB p21) (onB p1) := Apart.new g25 (onB_live (B19).lt)
  have ap29 : Apart (onB p21) (onB p10) := Apart.new g25 (onB_live (B13).lt)
  have B30 := B18.all k23 Apart.none
  have B31 := B19.all k23 id
  have B32 := B13.all k23 id
  have K33 := K20.trans k23 (fun _ _ x => x.elim)
  refine wl_box_stc (vs := [.int .i64 (W2), .int .i64 (H2), .int .i64 (R2), .int .i64 (B2)]) rfl rfl rfl rfl fun p34 w35 B37 g38 k36 => ?_
  have gr39 : Grew w0 noB (onB p34) := Grew.new K33 g38
  have ap40 : Apart (onB p34) (T_b) := Apart.new g38 (B30).live
  have ap41 : Apart (onB p34) (onB p1) := Apart.new g38 (onB_live (B31).lt)
  have ap42 : Apart (onB p34) (onB p10) := Apart.new g38 (onB_live (B32).lt)
  have ap43 : Apart (onB p34) (onB p21) := Apart.new g38 (onB_live (B24).lt)
  have B44 := B30.all k36 Apart.none
  have B45 := B31.all k36 id
  have B46 := B32.all k36 id
  have B47 := B24.all k36 id
  have K48 := K33.trans k36 (fun _ _ x => x.elim)
  refine wl_v (.bool false) rfl rfl (y_asg rfl rfl ⟨rfl, rfl⟩) ?_
  refine wl_nil fun F49 hF50 => ?_
  have s51 : F49 4 = v := (hF50 4).trans rfl
  have s52 : F49 5 = .int .u8 (((c : Nat) : Int)) := (hF50 5).trans rfl
  have s53 : F49 134 = undef := (hF50 134).trans rfl
  have s54 : F49 6 = .pointer (some ⟨p1, 0, none⟩) := (hF50 6).trans rfl
  have s55 : F49 7 = .pointer (some ⟨p10, 0, none⟩) := (hF50 7).trans rfl
  have s56 : F49 8 = .pointer (some ⟨p21, 0, none⟩) := (hF50 8).trans rfl
  have s57 : F49 9 = .pointer (some ⟨p34, 0, none⟩) := (hF50 9).trans rfl
  clear hF50
  refine then_normal ?_
  refine wq_seq ?_
  refine wq_region ?_
  refine wl_call (R := fun v_ w_ => v_ = .bool true ∧ Kept (fun _ => False) w35 w_) rfl rfl (y_cs rfl rfl rfl (fun _ _ => by kernel_rfl) (ev_func _) vsN (hawake_any   _   ) (fun e_ w_ h_ => ⟨_, h_.1, rfl, h_.2⟩)) ?_
  rintro _ w58 ⟨rfl, k59⟩
  have B60 := B44.all k59 Apart.none
  have B61 := B45.all k59 id
  have B62 := B46.all k59 id
  have B63 := B47.all k59 id
  have B64 := B37.all k59 id
  have K65 := K48.trans k59 (fun _ _ x => x.elim)
  refine wl_v (.bool true) rfl rfl (y_asg rfl rfl ⟨rfl, rfl⟩) ?_
  refine wl_nil fun F66 hF67 => ?_
  have s68 : F66 4 = v := (hF67 4).trans s51
  have s69 : F66 5 = .int .u8 (((c : Nat) : Int)) := (hF67 5).trans s52
  have s70 : F66 134 = undef := (hF67 134).trans s53
  have s71 : F66 6 = .pointer (some ⟨p1, 0, none⟩) := (hF67 6).trans s54
  have s72 : F66 7 = .pointer (some ⟨p10, 0, none⟩) := (hF67 7).trans s55
  have s73 : F66 8 = .pointer (some ⟨p21, 0, none⟩) := (hF67 8).trans s56
  have s74 : F66 9 = .pointer (some ⟨p34, 0, none⟩) := (hF67 9).trans s57
  have s75 : F66 13 = .bool true := (hF67 13).trans rfl
  clear hF67
  refine then_normal ?_
  refine wq_seq ?_
  refine wq_seq ?_
  refine wq_region ?_
  refine wl_v (v) rfl rfl (y_mov rfl s68 ⟨rfl, rfl⟩) ?_
  refine wl_v (.int .i64 ((((l).length : Nat) : Int))) rfl rfl (y_lenV rfl rfl rfl B60 ⟨rfl, rfl⟩) ?_
  refine wl_v (.bool (decide ((300) < ((((l).length : Nat) : Int))))) rfl rfl (y_gtr rfl rfl rfl rfl ⟨rfl, rfl⟩) ?_
  refine wl_nil fun F76 hF77 => ?_
  have s78 : F76 4 = v := (hF77 4).trans s68
  have s79 : F76 5 = .int .u8 (((c : Nat) : Int)) := (hF77 5).trans s69
  have s80 : F76 134 = undef := (hF77 134).trans s70
  have s81 : F76 6 = .pointer (some ⟨p1, 0, none⟩) := (hF77 6).trans s71
  have s82 : F76 7 = .pointer (some ⟨p10, 0, none⟩) := (hF77 7).trans s72
  have s83 : F76 8 = .pointer (some ⟨p21, 0, none⟩) := (hF77 8).trans s73
  have s84 : F76 9 = .pointer (some ⟨p34, 0, none⟩) := (hF77 9).trans s74
  have s85 : F76 13 = .bool true := (hF77 13).trans s75
  have s86 : F76 32 = .bool (decide ((300) < ((((l).length : Nat) : Int)))) := (hF77 32).trans rfl
  clear hF77
  refine then_normal ?_
  refine wq_cond s86 (fun c87 => ?_) (fun c87 => ?_)
  · replace c87 := of_decide_eq_true c87
    refine wq_seq ?_
    refine wq_region ?_
    refine wl_v (.bool true) rfl rfl (y_mov rfl s85 ⟨rfl, rfl⟩) ?_
    refine wl_v (.bool true) rfl rfl (y_asg rfl rfl ⟨rfl, rfl⟩) ?_
    refine wl_nil fun F88 hF89 => ?_
    have s90 : F88 134 = undef := (hF89 134).trans s80
    have s91 : F88 12 = .bool true := (hF89 12).trans rfl
    clear hF89
    refine then_normal ?_
    refine wq_ret ?_
    refine then_ret ?_
    exact end_tmp (v := .bool true) s90 rfl rfl s91 ⟨rfl, K65⟩
  · replace c87 := of_decide_eq_false c87
    refine wq_skip ?_
    refine then_normal ?_
    refine wq_seq ?_
    refine wq_region ?_
    refine wl_v (.agg #[.int .i64 (K), .int .i64 (Q), .int .i64 (D), .int .i64 (F)]) rfl rfl (y_load_stc stcT_head rfl s81 B61 ⟨rfl, rfl⟩) ?_
    refine wl_call (R := fun v_ w_ => ∃ (v92 : Value) (T95 : Nat → Prop), .tuple #[v92, .int .i64 (headE (K) (Q) (D) (F))] = v_ ∧ Kept (fun _ => False) w58 w_ ∧ (Owb w_ T95 v92 ((wrB (K) (Q) (D) (F) ([]))) ∧ Grew w58 noB T95)) rfl rfl (y_cs rfl rfl rfl (fun _ _ => by kernel_rfl) (ev_func _) (vsC rfl (vsC rfl vsN)) (hd_write (K) (Q) (D) (F) (.slice none 0 0) ([]) (noB) _ (by decide) (Byt.nil _) ) (fun e_ w_ h_ => by obtain ⟨v92_, T95_, he_, hr_⟩ := h_; exact ⟨_, he_, v92_, T95_, rfl, hr_⟩)) ?_
    rintro _ w93 ⟨v92, T95, rfl, k94, ⟨B96, g97⟩⟩
    have B98 := B60.all k94 Apart.none
    have B99 := B61.all k94 id
    have B100 := B62.all k94 id
    have B101 := B63.all k94 id
    have B102 := B64.all k94 id
    have K103 := K65.trans k94 (fun _ _ x => x.elim)
    have gr104 : Grew w0 noB (T95) := Grew.new K65 g97
    have ap105 : Apart (T95) (T_b) := Apart.new g97 (B60).live
    have ap106 : Apart (T95) (onB p1) := Apart.new g97 (onB_live (B61).lt)
    have ap107 : Apart (T95) (onB p10) := Apart.new g97 (onB_live (B62).lt)
    have ap108 : Apart (T95) (onB p21) := Apart.new g97 (onB_live (B63).lt)
    have ap109 : Apart (T95) (onB p34) := Apart.new g97 (onB_live (B64).lt)
    refine wl_v (.tuple #[v92, .int .i64 (headE (K) (Q) (D) (F))]) rfl rfl (y_mov rfl rfl ⟨rfl, rfl⟩) ?_
    refine wl_v (v92) rfl rfl (y_ext rfl rfl rfl ⟨rfl, rfl⟩) ?_
    refine wl_v (.int .i64 (headE (K) (Q) (D) (F))) rfl rfl (y_ext rfl rfl rfl ⟨rfl, rfl⟩) ?_
    refine wl_v (v92) rfl rfl (y_asg rfl rfl ⟨rfl, rfl⟩) ?_
    refine wl_v (.int .i64 (headE (K) (Q) (D) (F))) rfl rfl (y_asg rfl rfl ⟨rfl, rfl⟩) ?_
    refine wl_nil fun F110 hF111 => ?_
    have s112 : F110 4 = v := (hF111 4).trans s78
    have s113 : F110 5 = .int .u8 (((c : Nat) : Int)) := (hF111 5).trans s79
    have s114 : F110 134 = undef := (hF111 134).trans s80
    have s115 : F110 6 = .pointer (some ⟨p1, 0, none⟩) := (hF111 6).trans s81
    have s116 : F110 7 = .pointer (some ⟨p10, 0, none⟩) := (hF111 7).trans s82
    have s117 : F110 8 = .pointer (some ⟨p21, 0, none⟩) := (hF111 8).trans s83
    have s118 : F110 9 = .pointer (some ⟨p34, 0, none⟩) := (hF111 9).trans s84
    have s119 : F110 13 = .bool true := (hF111 13).trans s85
    have s120 : F110 14 = v92 := (hF111 14).trans rfl
    have s121 : F110 15 = .int .i64 (headE (K) (Q) (D) (F)) := (hF111 15).trans rfl
    clear hF111
    refine then_normal ?_
    refine wq_seq ?_
    refine wq_region ?_
    refine wl_v (.agg #[.int .i64 (K2), .int .i64 (Q2), .int .i64 (D2), .int .i64 (F2)]) rfl rfl (y_load_stc stcT_head rfl s116 B100 ⟨rfl, rfl⟩) ?_
    refine wl_call (R := fun v_ w_ => ∃ (v122 : Value) (T125 : Nat → Prop), .tuple #[v122, .int .i64 (headE (K2) (Q2) (D2) (F2))] = v_ ∧ Kept (fun _ => False) w93 w_ ∧ (Owb w_ T125 v122 ((wrB (K2) (Q2) (D2) (F2) ([]))) ∧ Grew w93 noB T125)) rfl rfl (y_cs rfl rfl rfl (fun _ _ => by kernel_rfl) (ev_func _) (vsC rfl (vsC rfl vsN)) (hd_write (K2) (Q2) (D2) (F2) (.slice none 0 0) ([]) (noB) _ (by decide) (Byt.nil _) ) (fun e_ w_ h_ => by obtain ⟨v122_, T125_, he_, hr_⟩ := h_; exact ⟨_, he_, v122_, T125_, rfl, hr_⟩)) ?_
    rintro _ w123 ⟨v122, T125, rfl, k124, ⟨B126, g127⟩⟩
    have B128 := B98.all k124 Apart.none
    have B129 := B99.all k124 id
    have B130 := B100.all k124 id
    have B131 := B101.all k124 id
    have B132 := B102.all k124 id
    have B133 := B96.all k124 Apart.none
    have K134 := K103.trans k124 (fun _ _ x => x.elim)
    have gr135 : Grew w0 noB (T125) := Grew.new K103 g127
    have ap136 : Apart (T125) (T_b) := Apart.new g127 (B98).live
    have ap137 : Apart (T125) (onB p1) := Apart.new g127 (onB_live (B99).lt)
    have ap138 : Apart (T125) (onB p10) := Apart.new g127 (onB_live (B100).lt)
    have ap139 : Apart (T125) (onB p21) := Apart.new g127 (onB_live (B101).lt)
    have ap140 : Apart (T125) (onB p34) := Apart.new g127 (onB_live (B102).lt)
    have ap141 : Apart (T125) (T95) := Apart.new g127 (B96).live
    refine wl_v (.tuple #[v122, .int .i64 (headE (K2) (Q2) (D2) (F2))]) rfl rfl (y_mov rfl rfl ⟨rfl, rfl⟩) ?_
    refine wl_v (v122) rfl rfl (y_ext rfl rfl rfl ⟨rfl, rfl⟩) ?_
    refine wl_v (.int .i64 (headE (K2) (Q2) (D2) (F2))) rfl rfl (y_ext rfl rfl rfl ⟨rfl, rfl⟩) ?_
    refine wl_v (v122) rfl rfl (y_asg rfl rfl ⟨rfl, rfl⟩) ?_
    refine wl_v (.int .i64 (headE (K2) (Q2) (D2) (F2))) rfl rfl (y_asg rfl rfl ⟨rfl, rfl⟩) ?_
    refine wl_nil fun F142 hF143 => ?_
    have s144 : F142 4 = v := (hF143 4).trans s112
    have s145 : F142 5 = .int .u8 (((c : Nat) : Int)) := (hF143 5).trans s113
    have s146 : F142 134 = undef := (hF143 134).trans s114
    have s147 : F142 6 = .pointer (some ⟨p1, 0, none⟩) := (hF143 6).trans s115
    have s148 : F142 7 = .pointer (some ⟨p10, 0, none⟩) := (hF143 7).trans s116
    have s149 : F142 8 = .pointer (some ⟨p21, 0, none⟩) := (hF143 8).trans s117
    have s150 : F142 9 = .pointer (some ⟨p34, 0, none⟩) := (hF143 9).trans s118
    have s151 : F142 13 = .bool true := (hF143 13).trans s119
    have s152 : F142 14 = v92 := (hF143 14).trans s120
    have s153 : F142 15 = .int .i64 (headE (K) (Q) (D) (F)) := (hF143 15).trans s121
    have s154 : F142 16 = v122 := (hF143 16).trans rfl
    have s155 : F142 17 = .int .i64 (headE (K2) (Q2) (D2) (F2)) := (hF143 17).trans rfl
    clear hF143
    refine then_normal ?_
    refine wq_seq ?_
    refine wq_region ?_
    refine wl_v (.agg #[.int .i64 (W), .int .i64 (H), .int .i64 (R), .int .i64 (B)]) rfl rfl (y_load_stc stcT_seq rfl s149 B131 ⟨rfl, rfl⟩) ?_
    refine wl_call (R := fun v_ w_ => ∃ (v156 : Value) (T159 : Nat → Prop), .tuple #[v156, .int .i64 (seqE (W) (H) (R) (B))] = v_ ∧ Kept (fun _ => False) w123 w_ ∧ (Owb w_ T159 v156 ((opB (W) (H) (R) (B))) ∧ Grew w123 noB T159)) rfl rfl (y_cs rfl rfl rfl (fun _ _ => by kernel_rfl) (ev_func _) (vsC rfl vsN) (hd_open (W) (H) (R) (B)  _   ) (fun e_ w_ h_ => by obtain ⟨v156_, T159_, he_, hr_⟩ := h_; exact ⟨_, he_, v156_, T159_, rfl, hr_⟩)) ?_
    rintro _ w157 ⟨v156, T159, rfl, k158, ⟨B160, g161⟩⟩
    have B162 := B128.all k158 Apart.none
    have B163 := B129.all k158 id
    have B164 := B130.all k158 id
    have B165 := B131.all k158 id
    have B166 := B132.all k158 id
    have B167 := B133.all k158 Apart.none
    have B168 := B126.all k158 Apart.none
    have K169 := K134.trans k158 (fun _ _ x => x.elim)
    have gr170 : Grew w0 noB (T159) := Grew.new K134 g161
    have ap171 : Apart (T159) (T_b) := Apart.new g161 (B128).live
    have ap172 : Apart (T159) (onB p1) := Apart.new g161 (onB_live (B129).lt)
    have ap173 : Apart (T159) (onB p10) := Apart.new g161 (onB_live (B130).lt)
    have ap174 : Apart (T159) (onB p21) := Apart.new g161 (onB_live (B131).lt)
    have ap175 : Apart (T159) (onB p34) := Apart.new g161 (onB_live (B132).lt)
    have ap176 : Apart (T159) (T95) := Apart.new g161 (B133).live
    have ap177 : Apart (T159) (T125) := Apart.new g161 (B126).live
    refine wl_v (.tuple #[v156, .int .i64 (seqE (W) (H) (R) (B))]) rfl rfl (y_mov rfl rfl ⟨rfl, rfl⟩) ?_
    refine wl_v (v156) rfl rfl (y_ext rfl rfl rfl ⟨rfl, rfl⟩) ?_
    refine wl_v (.int .i64 (seqE (W) (H) (R) (B))) rfl rfl (y_ext rfl rfl rfl ⟨rfl, rfl⟩) ?_
    refine wl_v (v156) rfl rfl (y_asg rfl rfl ⟨rfl, rfl⟩) ?_
    refine wl_v (.int .i64 (seqE (W) (H) (R) (B))) rfl rfl (y_asg rfl rfl ⟨rfl, rfl⟩) ?_
    refine wl_nil fun F178 hF179 => ?_
    have s180 : F178 4 = v := (hF179 4).trans s144
    have s181 : F178 5 = .int .u8 (((c : Nat) : Int)) := (hF179 5).trans s145
    have s182 : F178 134 = undef := (hF179 134).trans s146
    have s183 : F178 6 = .pointer (some ⟨p1, 0, none⟩) := (hF179 6).trans s147
    have s184 : F178 7 = .pointer (some ⟨p10, 0, none⟩) := (hF179 7).trans s148
    have s185 : F178 8 = .pointer (some ⟨p21, 0, none⟩) := (hF179 8).trans s149
    have s186 : F178 9 = .pointer (some ⟨p34, 0, none⟩) := (hF179 9).trans s150
    have s187 : F178 13 = .bool true := (hF179 13).trans s151
    have s188 : F178 14 = v92 := (hF179 14).trans s152
    have s189 : F178 15 = .int .i64 (headE (K) (Q) (D) (F)) := (hF179 15).trans s153
    have s190 : F178 16 = v122 := (hF179 16).trans s154
    have s191 : F178 17 = .int .i64 (headE (K2) (Q2) (D2) (F2)) := (hF179 17).trans s155
    have s192 : F178 18 = v156 := (hF179 18).trans rfl
    have s193 : F178 19 = .int .i64 (seqE (W) (H) (R) (B)) := (hF179 19).trans rfl
    clear hF179
    refine then_normal ?_
    refine wq_seq ?_
    refine wq_region ?_
    refine wl_v (.agg #[.int .i64 (W2), .int .i64 (H2), .int .i64 (R2), .int .i64 (B2)]) rfl rfl (y_load_stc stcT_seq rfl s186 B166 ⟨rfl, rfl⟩) ?_
    refine wl_call (R := fun v_ w_ => ∃ (v194 : Value) (T197 : Nat → Prop), .tuple #[v194, .int .i64 (seqE (W2) (H2) (R2) (B2))] = v_ ∧ Kept (fun _ => False) w157 w_ ∧ (Owb w_ T197 v194 ((opB (W2) (H2) (R2) (B2))) ∧ Grew w157 noB T197)) rfl rfl (y_cs rfl rfl rfl (fun _ _ => by kernel_rfl) (ev_func _) (vsC rfl vsN) (hd_open (W2) (H2) (R2) (B2)  _   ) (fun e_ w_ h_ => by obtain ⟨v194_, T197_, he_, hr_⟩ := h_; exact ⟨_, he_, v194_, T197_, rfl, hr_⟩)) ?_
    rintro _ w195 ⟨v194, T197, rfl, k196, ⟨B198, g199⟩⟩
    have B200 := B162.all k196 Apart.none
    have B201 := B163.all k196 id
    have B202 := B164.all k196 id
    have B203 := B165.all k196 id
    have B204 := B166.all k196 id
    have B205 := B167.all k196 Apart.none
    have B206 := B168.all k196 Apart.none
    have B207 := B160.all k196 Apart.none
    have K208 := K169.trans k196 (fun _ _ x => x.elim)
    have gr209 : Grew w0 noB (T197) := Grew.new K169 g199
    have ap210 : Apart (T197) (T_b) := Apart.new g199 (B162).live
    have ap211 : Apart (T197) (onB p1) := Apart.new g199 (onB_live (B163).lt)
    have ap212 : Apart (T197) (onB p10) := Apart.new g199 (onB_live (B164).lt)
    have ap213 : Apart (T197) (onB p21) := Apart.new g199 (onB_live (B165).lt)
    have ap214 : Apart (T197) (onB p34) := Apart.new g199 (onB_live (B166).lt)
    have ap215 : Apart (T197) (T95) := Apart.new g199 (B167).live
    have ap216 : Apart (T197) (T125) := Apart.new g199 (B168).live
    have ap217 : Apart (T197) (T159) := Apart.new g199 (B160).live
    refine wl_v (.tuple #[v194, .int .i64 (seqE (W2) (H2) (R2) (B2))]) rfl rfl (y_mov rfl rfl ⟨rfl, rfl⟩) ?_
    refine wl_v (v194) rfl rfl (y_ext rfl rfl rfl ⟨rfl, rfl⟩) ?_
    refine wl_v (.int .i64 (seqE (W2) (H2) (R2) (B2))) rfl rfl (y_ext rfl rfl rfl ⟨rfl, rfl⟩) ?_
    refine wl_v (v194) rfl rfl (y_asg rfl rfl ⟨rfl, rfl⟩) ?_
    refine wl_v (.int .i64 (seqE (W2) (H2) (R2) (B2))) rfl rfl (y_asg rfl rfl ⟨rfl, rfl⟩) ?_
    refine wl_nil fun F218 hF219 => ?_
    have s220 : F218 4 = v := (hF219 4).trans s180
    have s221 : F218 5 = .int .u8 (((c : Nat) : Int)) := (hF219 5).trans s181
    have s222 : F218 134 = undef := (hF219 134).trans s182
    have s223 : F218 6 = .pointer (some ⟨p1, 0, none⟩) := (hF219 6).trans s183
    have s224 : F218 7 = .pointer (some ⟨p10, 0, none⟩) := (hF219 7).trans s184
    have s225 : F218 8 = .pointer (some ⟨p21, 0, none⟩) := (hF219 8).trans s185
    have s226 : F218 9 = .pointer (some ⟨p34, 0, none⟩) := (hF219 9).trans s186
    have s227 : F218 13 = .bool true := (hF219 13).trans s187
    have s228 : F218 14 = v92 := (hF219 14).trans s188
    have s229 : F218 15 = .int .i64 (headE (K) (Q) (D) (F)) := (hF219 15).trans s189
    have s230 : F218 16 = v122 := (hF219 16).trans s190
    have s231 : F218 17 = .int .i64 (headE (K2) (Q2) (D2) (F2)) := (hF219 17).trans s191
    have s232 : F218 18 = v156 := (hF219 18).trans s192
    have s233 : F218 19 = .int .i64 (seqE (W) (H) (R) (B)) := (hF219 19).trans s193
    have s234 : F218 20 = v194 := (hF219 20).trans rfl
    have s235 : F218 21 = .int .i64 (seqE (W2) (H2) (R2) (B2)) := (hF219 21).trans rfl
    clear hF219
    refine then_normal ?_
    refine wq_seq ?_
    refine wq_region ?_
    refine wl_v (v92) rfl rfl (y_mov rfl s228 ⟨rfl, rfl⟩) ?_
    refine wl_v (.int .u8 (((c : Nat) : Int))) rfl rfl (y_mov rfl s221 ⟨rfl, rfl⟩) ?_
    refine wl_v (.int .i64 (((c : Nat) : Int))) rfl rfl (y_convR rfl rfl Try.underlying5 Try.underlying3 (i64_i rfl (by omega)) ⟨rfl, rfl⟩) ?_
    refine wl_v (.int .i64 ((((c % 10) : Nat) : Int))) rfl rfl (y_rem rfl rfl rfl (by first | decide | omega) (tmod10 c) ⟨rfl, rfl⟩) ?_
    refine wl_v (v92) rfl rfl (y_mov rfl s228 ⟨rfl, rfl⟩) ?_
    refine wl_v (.int .i64 (((((wrB (K) (Q) (D) (F) ([]))).length : Nat) : Int))) rfl rfl (y_lenV rfl rfl rfl (B205).byt ⟨rfl, rfl⟩) ?_
    refine wl_v (.int .i64 ((((min (c % 10) (wrB K Q D F []).length) : Nat) : Int))) rfl rfl (y_minR rfl rfl rfl ((by omega)) ⟨rfl, rfl⟩) ?_
    refine wl_v (subV (v92) (0) ((min (c % 10) (wrB K Q D F []).length)) (capV (v92))) rfl rfl (y_cutH ((min (c % 10) (wrB K Q D F []).length)) rfl rfl rfl (by omega) (B205).byt (by omega) ⟨rfl, rfl⟩) ?_
    refine wl_call (R := fun v_ w_ => ∃ (v236 : Value) (T239 : Nat → Prop), .tuple #[.agg #[.int .i64 (rdH t0 ((((wrB (K) (Q) (D) (F) ([]))).drop (0)).take (((min (c % 10) (wrB K Q D F []).length)) - (0)))), .int .i64 (rdH t1 ((((wrB (K) (Q) (D) (F) ([]))).drop (0)).take (((min (c % 10) (wrB K Q D F []).length)) - (0)))), .int .i64 (rdH t2 ((((wrB (K) (Q) (D) (F) ([]))).drop (0)).take (((min (c % 10) (wrB K Q D F []).length)) - (0)))), .int .i64 (rdH t3 ((((wrB (K) (Q) (D) (F) ([]))).drop (0)).take (((min (c % 10) (wrB K Q D F []).length)) - (0))))], v236, .int .i64 (rdE ((((wrB (K) (Q) (D) (F) ([]))).drop (0)).take (((min (c % 10) (wrB K Q D F []).length)) - (0))))] = v_ ∧ Kept (fun _ => False) w195 w_ ∧ (Owb w_ T239 v236 ((rdP ((((wrB (K) (Q) (D) (F) ([]))).drop (0)).take (((min (c % 10) (wrB K Q D F []).length)) - (0))))) ∧ Grew w195 noB T239)) rfl rfl (y_cs rfl rfl rfl (fun _ _ => by kernel_rfl) (ev_func _) (vsC rfl vsN) (hd_read (subV (v92) (0) ((min (c % 10) (wrB K Q D F []).length)) (capV (v92))) ((((wrB (K) (Q) (D) (F) ([]))).drop (0)).take (((min (c % 10) (wrB K Q D F []).length)) - (0))) (T95) _ (by simp; omega) (((B205).byt).sub (i := 0) (j := (min (c % 10) (wrB K Q D F []).length)) (m := capV (v92)) (by omega) (by have hc_ := ((B205).byt).cap; omega) (by omega) (by have hc_ := ((B205).byt).cap; omega)) ) (fun e_ w_ h_ => by obtain ⟨v236_, T239_, he_, hr_⟩ := h_; exact ⟨_, he_, v236_, T239_, rfl, hr_⟩)) ?_
    rintro _ w237 ⟨v236, T239, rfl, k238, ⟨B240, g241⟩⟩
    have B242 := B200.all k238 Apart.none
    have B243 := B201.all k238 id
    have B244 := B202.all k238 id
    have B245 := B203.all k238 id
    have B246 := B204.all k238 id
    have B247 := B205.all k238 Apart.none
    have B248 := B206.all k238 Apart.none
    have B249 := B207.all k238 Apart.none
    have B250 := B198.all k238 Apart.none
    have K251 := K208.trans k238 (fun _ _ x => x.elim)
    have gr252 : Grew w0 noB (T239) := Grew.new K208 g241
    have ap253 : Apart (T239) (T_b) := Apart.new g241 (B200).live
    have ap254 : Apart (T239) (onB p1) := Apart.new g241 (onB_live (B201).lt)
    have ap255 : Apart (T239) (onB p10) := Apart.new g241 (onB_live (B202).lt)
    have ap256 : Apart (T239) (onB p21) := Apart.new g241 (onB_live (B203).lt)
    have ap257 : Apart (T239) (onB p34) := Apart.new g241 (onB_live (B204).lt)
    have ap258 : Apart (T239) (T95) := Apart.new g241 (B205).live
    have ap259 : Apart (T239) (T125) := Apart.new g241 (B206).live
    have ap260 : Apart (T239) (T159) := Apart.new g241 (B207).live
    have ap261 : Apart (T239) (T197) := Apart.new g241 (B198).live
    refine wl_v (.tuple #[.agg #[.int .i64 (rdH t0 ((((wrB (K) (Q) (D) (F) ([]))).drop (0)).take (((min (c % 10) (wrB K Q D F []).length)) - (0)))), .int .i64 (rdH t1 ((((wrB (K) (Q) (D) (F) ([]))).drop (0)).take (((min (c % 10) (wrB K Q D F []).length)) - (0)))), .int .i64 (rdH t2 ((((wrB (K) (Q) (D) (F) ([]))).drop (0)).take (((min (c % 10) (wrB K Q D F []).length)) - (0)))), .int .i64 (rdH t3 ((((wrB (K) (Q) (D) (F) ([]))).drop (0)).take (((min (c % 10) (wrB K Q D F []).length)) - (0))))], v236, .int .i64 (rdE ((((wrB (K) (Q) (D) (F) ([]))).drop (0)).take (((min (c % 10) (wrB K Q D F []).length)) - (0))))]) rfl rfl (y_mov rfl rfl ⟨rfl, rfl⟩) ?_
    refine wl_v (.agg #[.int .i64 (rdH t0 ((((wrB (K) (Q) (D) (F) ([]))).drop (0)).take (((min (c % 10) (wrB K Q D F []).length)) - (0)))), .int .i64 (rdH t1 ((((wrB (K) (Q) (D) (F) ([]))).drop (0)).take (((min (c % 10) (wrB K Q D F []).length)) - (0)))), .int .i64 (rdH t2 ((((wrB (K) (Q) (D) (F) ([]))).drop (0)).take (((min (c % 10) (wrB K Q D F []).length)) - (0)))), .int .i64 (rdH t3 ((((wrB (K) (Q) (D) (F) ([]))).drop (0)).take (((min (c % 10) (wrB K Q D F []).length)) - (0))))]) rfl rfl (y_ext rfl rfl rfl ⟨rfl, rfl⟩) ?_
    refine wl_v (v236) rfl rfl (y_ext rfl rfl rfl ⟨rfl, rfl⟩) ?_
    refine wl_v (.int .i64 (rdE ((((wrB (K) (Q) (D) (F) ([]))).drop (0)).take (((min (c % 10) (wrB K Q D F []).length)) - (0))))) rfl rfl (y_ext rfl rfl rfl ⟨rfl, rfl⟩) ?_
    refine wl_alloc_stc (n := 4) (vs := [.int .i64 (0), .int .i64 (0), .int .i64 (0), .int .i64 (0)]) rfl rfl rfl (by kernel_rfl) fun p262 w263 B265 g266 k264 => ?_
    have gr267 : Grew w0 noB (onB p262) := Grew.new K251 g266
    have ap268 : Apart (onB p262) (T_b) := Apart.new g266 (B242).live
    have ap269 : Apart (onB p262) (onB p1) := Apart.new g266 (onB_live (B243).lt)
    have ap270 : Apart (onB p262) (onB p10) := Apart.new g266 (onB_live (B244).lt)
    have ap271 : Apart (onB p262) (onB p21) := Apart.new g266 (onB_live (B245).lt)
    have ap272 : Apart (onB p262) (onB p34) := Apart.new g266 (onB_live (B246).lt)
    have ap273 : Apart (onB p262) (T95) := Apart.new g266 (B247).live
    have ap274 : Apart (onB p262) (T125) := Apart.new g266 (B248).live
    have ap275 : Apart (onB p262) (T159) := Apart.new g266 (B249).live
    have ap276 : Apart (onB p262) (T197) := Apart.new g266 (B250).live
    have ap277 : Apart (onB p262) (T239) := Apart.new g266 (B240).live
    have B278 := B242.all k264 Apart.none
    have B279 := B243.all k264 id
    have B280 := B244.all k264 id
    have B281 := B245.all k264 id
    have B282 := B246.all k264 id
    have B283 := B247.all k264 Apart.none
    have B284 := B248.all k264 Apart.none
    have B285 := B249.all k264 Apart.none
    have B286 := B250.all k264 Apart.none
    have B287 := B240.all k264 Apart.none
    have K288 := K251.trans k264 (fun _ _ x => x.elim)
    refine wl_store_stc (us := [.int .i64 (rdH t0 ((((wrB (K) (Q) (D) (F) ([]))).drop (0)).take (((min (c % 10) (wrB K Q D F []).length)) - (0)))), .int .i64 (rdH t1 ((((wrB (K) (Q) (D) (F) ([]))).drop (0)).take (((min (c % 10) (wrB K Q D F []).length)) - (0)))), .int .i64 (rdH t2 ((((wrB (K) (Q) (D) (F) ([]))).drop (0)).take (((min (c % 10) (wrB K Q D F []).length)) - (0)))), .int .i64 (rdH t3 ((((wrB (K) (Q) (D) (F) ([]))).drop (0)).take (((min (c % 10) (wrB K Q D F []).length)) - (0))))]) stcT_head rfl rfl rfl rfl rfl B265 rfl (oneI rfl (oneI rfl (oneI rfl (oneI rfl oneN)))) fun w289 B290 k291 => ?_
    have B292 := B278.all k291 (fun i h x => (((ap268).symm) i h x))
    have B293 := B279.all k291 (fun x => (((ap269).symm) p1 rfl x))
    have B294 := B280.all k291 (fun x => (((ap270).symm) p10 rfl x))
    have B295 := B281.all k291 (fun x => (((ap271).symm) p21 rfl x))
    have B296 := B282.all k291 (fun x => (((ap272).symm) p34 rfl x))
    have B297 := B283.all k291 (fun i h x => (((ap273).symm) i h x))
    have B298 := B284.all k291 (fun i h x => (((ap274).symm) i h x))
    have B299 := B285.all k291 (fun i h x => (((ap275).symm) i h x))
    have B300 := B286.all k291 (fun i h x => (((ap276).symm) i h x))
    have B301 := B287.all k291 (fun i h x => (((ap277).symm) i h x))
    have K302 := K288.trans k291 (Grew.ok (S := fun _ => False) gr267 noB_le)
    refine wl_v (v236) rfl rfl (y_asg rfl rfl ⟨rfl, rfl⟩) ?_
    refine wl_v (.int .i64 (rdE ((((wrB (K) (Q) (D) (F) ([]))).drop (0)).take (((min (c % 10) (wrB K Q D F []).length)) - (0))))) rfl rfl (y_asg rfl rfl ⟨rfl, rfl⟩) ?_
    refine wl_nil fun F303 hF304 => ?_
    have s305 : F303 4 = v := (hF304 4).trans s220
    have s306 : F303 134 = undef := (hF304 134).trans s222
    have s307 : F303 6 = .pointer (some ⟨p1, 0, none⟩) := (hF304 6).trans s223
    have s308 : F303 7 = .pointer (some ⟨p10, 0, none⟩) := (hF304 7).trans s224
    have s309 : F303 8 = .pointer (some ⟨p21, 0, none⟩) := (hF304 8).trans s225
    have s310 : F303 9 = .pointer (some ⟨p34, 0, none⟩) := (hF304 9).trans s226
    have s311 : F303 13 = .bool true := (hF304 13).trans s227
    have s312 : F303 14 = v92 := (hF304 14).trans s228
    have s313 : F303 15 = .int .i64 (headE (K) (Q) (D) (F)) := (hF304 15).trans s229
    have s314 : F303 16 = v122 := (hF304 16).trans s230
    have s315 : F303 17 = .int .i64 (headE (K2) (Q2) (D2) (F2)) := (hF304 17).trans s231
    have s316 : F303 18 = v156 := (hF304 18).trans s232
    have s317 : F303 19 = .int .i64 (seqE (W) (H) (R) (B)) := (hF304 19).trans s233
    have s318 : F303 20 = v194 := (hF304 20).trans s234
    have s319 : F303 21 = .int .i64 (seqE (W2) (H2) (R2) (B2)) := (hF304 21).trans s235
    have s320 : F303 24 = .int .i64 (rdE ((((wrB (K) (Q) (D) (F) ([]))).drop (0)).take (((min (c % 10) (wrB K Q D F []).length)) - (0)))) := (hF304 24).trans rfl
    clear hF304
    refine then_normal ?_
    refine wq_seq ?_
    by_cases d321 : (headE (K) (Q) (D) (F)) ≠ (0)
    · skip
      refine wq_said [some 67, some 68, some 69, some 70, some 71, some 72, some 73, some 74, some 75, some 76, some 77, some 78, some 79, some 80, some 81, some 82, some 83, some 25] [Pd.eq (.int .i64 (headE (K) (Q) (D) (F))), Pd.eq (.bool true), Pd.eq (.bool true), Pd.eq undef, Pd.eq undef, Pd.eq (.bool true), Pd.eq (.bool true), Pd.eq undef, Pd.eq undef, Pd.eq undef, Pd.eq undef, Pd.eq undef, Pd.eq undef, Pd.eq undef, Pd.eq undef, Pd.eq undef, Pd.eq (.bool true), Pd.eq (.bool true)] (by kernel_rfl) (by kernel_rfl) ?_ ?_
      · refine stepsF_cons ?_ ?_
        · refine StepF.one rfl fun F_ w_ hR hout hD => ?_
          exact (y_mov rfl ((hout 15 rfl (by decide)).trans s313) ⟨rfl, Kept.refl _ _⟩)
        refine stepsF_cons ?_ ?_
        · refine StepF.one rfl fun F_ w_ hR hout hD => ?_
          have g67 : F_ 67 = .int .i64 (headE (K) (Q) (D) (F)) := (hD.get 0 rfl rfl rfl)
          exact (y_neqI rfl g67 rfl (decide_eq_true d321) ⟨rfl, Kept.refl _ _⟩)
        refine stepsF_cons ?_ ?_
        · refine StepF.one rfl fun F_ w_ hR hout hD => ?_
          have g68 : F_ 68 = .bool true := (hD.get 0 rfl rfl rfl)
          exact (y_mov rfl g68 ⟨rfl, Kept.refl _ _⟩)
        refine stepsF_cons ?_ ?_
        · refine StepF.unless 2 false 69 rfl rfl fun F_ w_ hR hout hD => ?_
          have g69 : F_ 69 = .bool true := (hD.get 0 rfl rfl rfl)
          exact ⟨Or.inl g69, rfl⟩
        refine stepsF_cons ?_ ?_
        · refine StepF.unless 2 false 69 rfl rfl fun F_ w_ hR hout hD => ?_
          have g69 : F_ 69 = .bool true := (hD.get 1 rfl rfl rfl)
          exact ⟨Or.inl g69, rfl⟩
        refine stepsF_cons ?_ ?_
        · refine StepF.one rfl fun F_ w_ hR hout hD => ?_
          have g69 : F_ 69 = .bool true := (hD.get 0 rfl rfl rfl)
          exact (y_pickT rfl g69 rfl ⟨rfl, Kept.refl _ _⟩)
        refine stepsF_cons ?_ ?_
        · refine StepF.one rfl fun F_ w_ hR hout hD => ?_
          have g72 : F_ 72 = .bool true := (hD.get 0 rfl rfl rfl)
          exact (y_mov rfl g72 ⟨rfl, Kept.refl _ _⟩)
        refine stepsF_cons ?_ ?_
        · refine StepF.unless 6 false 73 rfl rfl fun F_ w_ hR hout hD => ?_
          have g73 : F_ 73 = .bool true := (hD.get 0 rfl rfl rfl)
          exact ⟨Or.inl g73, rfl⟩
        refine stepsF_cons ?_ ?_
        · refine StepF.unless 6 false 73 rfl rfl fun F_ w_ hR hout hD => ?_
          have g73 : F_ 73 = .bool true := (hD.get 1 rfl rfl rfl)
          exact ⟨Or.inl g73, rfl⟩
        refine stepsF_cons ?_ ?_
        · refine StepF.unless 6 false 73 rfl rfl fun F_ w_ hR hout hD => ?_
          have g73 : F_ 73 = .bool true := (hD.get 0 rfl rfl rfl)
          exact ⟨Or.inl g73, rfl⟩
        refine stepsF_cons ?_ ?_
        · refine StepF.unless 6 false 73 rfl rfl fun F_ w_ hR hout hD => ?_
          have g73 : F_ 73 = .bool true := (hD.get 1 rfl rfl rfl)
          exact ⟨Or.inl g73, rfl⟩
        refine stepsF_cons ?_ ?_
        · refine StepF.unless 6 false 73 rfl rfl fun F_ w_ hR hout hD => ?_
          have g73 : F_ 73 = .bool true := (hD.get 2 rfl rfl rfl)
          exact ⟨Or.inl g73, rfl⟩
        refine stepsF_cons ?_ ?_
        · refine StepF.unless 6 false 73 rfl rfl fun F_ w_ hR hout hD => ?_
          have g73 : F_ 73 = .bool true := (hD.get 0 rfl rfl rfl)
          exact ⟨Or.inl g73, rfl⟩
        refine stepsF_cons ?_ ?_
        · refine StepF.unless 6 false 73 rfl rfl fun F_ w_ hR hout hD => ?_
          have g73 : F_ 73 = .bool true := (hD.get 0 rfl rfl rfl)
          exact ⟨Or.inl g73, rfl⟩
        refine stepsF_cons ?_ ?_
        · refine StepF.unless 6 false 73 rfl rfl fun F_ w_ hR hout hD => ?_
          have g73 : F_ 73 = .bool true := (hD.get 2 rfl rfl rfl)
          exact ⟨Or.inl g73, rfl⟩
        refine stepsF_cons ?_ ?_
        · refine StepF.unless 6 false 73 rfl rfl fun F_ w_ hR hout hD => ?_
          have g73 : F_ 73 = .bool true := (hD.get 2 rfl rfl rfl)
          exact ⟨Or.inl g73, rfl⟩
        refine stepsF_cons ?_ ?_
        · refine StepF.one rfl fun F_ w_ hR hout hD => ?_
          have g73 : F_ 73 = .bool true := (hD.get 0 rfl rfl rfl)
          exact (y_pickT rfl g73 rfl ⟨rfl, Kept.refl _ _⟩)
        refine stepsF_cons ?_ ?_
        · refine StepF.one rfl fun F_ w_ hR hout hD => ?_
          have g83 : F_ 83 = .bool true := (hD.get 0 rfl rfl rfl)
          exact (y_asg rfl g83 ⟨rfl, Kept.refl _ _⟩)
        exact stepsF_nil
      intro v322 F323 w324 k325 G326 hF327
      have B329 := B292.all k325 Apart.none
      have B330 := B293.all k325 id
      have B331 := B294.all k325 id
      have B332 := B295.all k325 id
      have B333 := B296.all k325 id
      have B334 := B297.all k325 Apart.none
      have B335 := B298.all k325 Apart.none
      have B336 := B299.all k325 Apart.none
      have B337 := B300.all k325 Apart.none
      have B338 := B301.all k325 Apart.none
      have B339 := B290.all k325 id
      have K340 := K302.trans k325 (fun _ _ x => x.elim)
      have s341 : F323 4 = v := (hF327 4).trans s305
      have s342 : F323 134 = undef := (hF327 134).trans s306
      have s343 : F323 8 = .pointer (some ⟨p21, 0, none⟩) := (hF327 8).trans s309
      have s344 : F323 9 = .pointer (some ⟨p34, 0, none⟩) := (hF327 9).trans s310
      have s345 : F323 13 = .bool true := (hF327 13).trans s311
      have s346 : F323 18 = v156 := (hF327 18).trans s316
      have s347 : F323 19 = .int .i64 (seqE (W) (H) (R) (B)) := (hF327 19).trans s317
      have s348 : F323 20 = v194 := (hF327 20).trans s318
      have s349 : F323 21 = .int .i64 (seqE (W2) (H2) (R2) (B2)) := (hF327 21).trans s319
      have s350 : F323 24 = .int .i64 (rdE ((((wrB (K) (Q) (D) (F) ([]))).drop (0)).take (((min (c % 10) (wrB K Q D F []).length)) - (0)))) := (hF327 24).trans s320
      have s351 : F323 25 = .bool true := (hF327 25).trans (G326 17 (by decide))
      clear G326 hF327
      refine then_normal ?_
      refine wq_seq ?_
      by_cases d352 : (seqE (W) (H) (R) (B)) ≠ (0)
      · skip
        refine wq_said [some 84, some 85, some 86, some 87, some 88, some 89, some 90, some 91, some 92, some 93, some 94, some 95, some 96, some 97, some 98, some 99, some 100, some 26] [Pd.eq (.int .i64 (seqE (W) (H) (R) (B))), Pd.eq (.bool true), Pd.eq (.bool true), Pd.eq undef, Pd.eq undef, Pd.eq (.bool true), Pd.eq (.bool true), Pd.eq undef, Pd.eq undef, Pd.eq undef, Pd.eq undef, Pd.eq undef, Pd.eq undef, Pd.eq undef, Pd.eq undef, Pd.eq undef, Pd.eq (.bool true), Pd.eq (.bool true)] (by kernel_rfl) (by kernel_rfl) ?_ ?_
        · refine stepsF_cons ?_ ?_
          · refine StepF.one rfl fun F_ w_ hR hout hD => ?_
            exact (y_mov rfl ((hout 19 rfl (by decide)).trans s347) ⟨rfl, Kept.refl _ _⟩)
          refine stepsF_cons ?_ ?_
          · refine StepF.one rfl fun F_ w_ hR hout hD => ?_
            have g84 : F_ 84 = .int .i64 (seqE (W) (H) (R) (B)) := (hD.get 0 rfl rfl rfl)
            exact (y_neqI rfl g84 rfl (decide_eq_true d352) ⟨rfl, Kept.refl _ _⟩)
          refine stepsF_cons ?_ ?_
          · refine StepF.one rfl fun F_ w_ hR hout hD => ?_
            have g85 : F_ 85 = .bool true := (hD.get 0 rfl rfl rfl)
            exact (y_mov rfl g85 ⟨rfl, Kept.refl _ _⟩)
          refine stepsF_cons ?_ ?_
          · refine StepF.unless 2 false 86 rfl rfl fun F_ w_ hR hout hD => ?_
            have g86 : F_ 86 = .bool true := (hD.get 0 rfl rfl rfl)
            exact ⟨Or.inl g86, rfl⟩
          refine stepsF_cons ?_ ?_
          · refine StepF.unless 2 false 86 rfl rfl fun F_ w_ hR hout hD => ?_
            have g86 : F_ 86 = .bool true := (hD.get 1 rfl rfl rfl)
            exact ⟨Or.inl g86, rfl⟩
          refine stepsF_cons ?_ ?_
          · refine StepF.one rfl fun F_ w_ hR hout hD => ?_
            have g86 : F_ 86 = .bool true := (hD.get 0 rfl rfl rfl)
            exact (y_pickT rfl g86 rfl ⟨rfl, Kept.refl _ _⟩)
          refine stepsF_cons ?_ ?_
          · refine StepF.one rfl fun F_ w_ hR hout hD => ?_
            have g89 : F_ 89 = .bool true := (hD.get 0 rfl rfl rfl)
            exact (y_mov rfl g89 ⟨rfl, Kept.refl _ _⟩)
          refine stepsF_cons ?_ ?_
          · refine StepF.unless 6 false 90 rfl rfl fun F_ w_ hR hout hD => ?_
            have g90 : F_ 90 = .bool true := (hD.get 0 rfl rfl rfl)
            exact ⟨Or.inl g90, rfl⟩
          refine stepsF_cons ?_ ?_
          · refine StepF.unless 6 false 90 rfl rfl fun F_ w_ hR hout hD => ?_
            have g90 : F_ 90 = .bool true := (hD.get 1 rfl rfl rfl)
            exact ⟨Or.inl g90, rfl⟩
          refine stepsF_cons ?_ ?_
          · refine StepF.unless 6 false 90 rfl rfl fun F_ w_ hR hout hD => ?_
            have g90 : F_ 90 = .bool true := (hD.get 0 rfl rfl rfl)
            exact ⟨Or.inl g90, rfl⟩
          refine stepsF_cons ?_ ?_
          · refine StepF.unless 6 false 90 rfl rfl fun F_ w_ hR hout hD => ?_
            have g90 : F_ 90 = .bool true := (hD.get 1 rfl rfl rfl)
            exact ⟨Or.inl g90, rfl⟩
          refine stepsF_cons ?_ ?_
          · refine StepF.unless 6 false 90 rfl rfl fun F_ w_ hR hout hD => ?_
            have g90 : F_ 90 = .bool true := (hD.get 2 rfl rfl rfl)
            exact ⟨Or.inl g90, rfl⟩
          refine stepsF_cons ?_ ?_
          · refine StepF.unless 6 false 90 rfl rfl fun F_ w_ hR hout hD => ?_
            have g90 : F_ 90 = .bool true := (hD.get 0 rfl rfl rfl)
            exact ⟨Or.inl g90, rfl⟩
          refine stepsF_cons ?_ ?_
          · refine StepF.unless 6 false 90 rfl rfl fun F_ w_ hR hout hD => ?_
            have g90 : F_ 90 = .bool true := (hD.get 0 rfl rfl rfl)
            exact ⟨Or.inl g90, rfl⟩
          refine stepsF_cons ?_ ?_
          · refine StepF.unless 6 false 90 rfl rfl fun F_ w_ hR hout hD => ?_
            have g90 : F_ 90 = .bool true := (hD.get 2 rfl rfl rfl)
            exact ⟨Or.inl g90, rfl⟩
          refine stepsF_cons ?_ ?_
          · refine StepF.unless 6 false 90 rfl rfl fun F_ w_ hR hout hD => ?_
            have g90 : F_ 90 = .bool true := (hD.get 2 rfl rfl rfl)
            exact ⟨Or.inl g90, rfl⟩
          refine stepsF_cons ?_ ?_
          · refine StepF.one rfl fun F_ w_ hR hout hD => ?_
            have g90 : F_ 90 = .bool true := (hD.get 0 rfl rfl rfl)
            exact (y_pickT rfl g90 rfl ⟨rfl, Kept.refl _ _⟩)
          refine stepsF_cons ?_ ?_
          · refine StepF.one rfl fun F_ w_ hR hout hD => ?_
            have g100 : F_ 100 = .bool true := (hD.get 0 rfl rfl rfl)
            exact (y_asg rfl g100 ⟨rfl, Kept.refl _ _⟩)
          exact stepsF_nil
        intro v353 F354 w355 k356 G357 hF358
        have B360 := B329.all k356 Apart.none
        have B361 := B330.all k356 id
        have B362 := B331.all k356 id
        have B363 := B332.all k356 id
        have B364 := B333.all k356 id
        have B365 := B334.all k356 Apart.none
        have B366 := B335.all k356 Apart.none
        have B367 := B336.all k356 Apart.none
        have B368 := B337.all k356 Apart.none
        have B369 := B338.all k356 Apart.none
        have B370 := B339.all k356 id
        have K371 := K340.trans k356 (fun _ _ x => x.elim)
        have s372 : F354 4 = v := (hF358 4).trans s341
        have s373 : F354 134 = undef := (hF358 134).trans s342
        have s374 : F354 13 = .bool true := (hF358 13).trans s345
        have s375 : F354 18 = v156 := (hF358 18).trans s346
        have s376 : F354 19 = .int .i64 (seqE (W) (H) (R) (B)) := (hF358 19).trans s347
        have s377 : F354 24 = .int .i64 (rdE ((((wrB (K) (Q) (D) (F) ([]))).drop (0)).take (((min (c % 10) (wrB K Q D F []).length)) - (0)))) := (hF358 24).trans s350
        have s378 : F354 25 = .bool true := (hF358 25).trans s351
        have s379 : F354 26 = .bool true := (hF358 26).trans (G357 17 (by decide))
        clear G357 hF358
        refine then_normal ?_
        refine wq_seq ?_
        refine wq_region ?_
        refine wl_builtB0 rfl rfl rfl fun v380 w381 T385 B383 g384 k382 => ?_
        have gr386 : Grew w0 noB (T385) := Grew.new K371 g384
        have ap387 : Apart (T385) (T_b) := Apart.new g384 (B360).live
        have ap388 : Apart (T385) (onB p1) := Apart.new g384 (onB_live (B361).lt)
        have ap389 : Apart (T385) (onB p10) := Apart.new g384 (onB_live (B362).lt)
        have ap390 : Apart (T385) (onB p21) := Apart.new g384 (onB_live (B363).lt)
        have ap391 : Apart (T385) (onB p34) := Apart.new g384 (onB_live (B364).lt)
        have ap392 : Apart (T385) (T95) := Apart.new g384 (B365).live
        have ap393 : Apart (T385) (T125) := Apart.new g384 (B366).live
        have ap394 : Apart (T385) (T159) := Apart.new g384 (B367).live
        have ap395 : Apart (T385) (T197) := Apart.new g384 (B368).live
        have ap396 : Apart (T385) (T239) := Apart.new g384 (B369).live
        have ap397 : Apart (T385) (onB p262) := Apart.new g384 (onB_live (B370).lt)
        have B398 := B360.all k382 Apart.none
        have B399 := B361.all k382 id
        have B400 := B362.all k382 id
        have B401 := B363.all k382 id
        have B402 := B364.all k382 id
        have B403 := B365.all k382 Apart.none
        have B404 := B366.all k382 Apart.none
        have B405 := B367.all k382 Apart.none
        have B406 := B368.all k382 Apart.none
        have B407 := B369.all k382 Apart.none
        have B408 := B370.all k382 id
        have K409 := K371.trans k382 (fun _ _ x => x.elim)
        refine wl_v (v156) rfl rfl (y_mov rfl s375 ⟨rfl, rfl⟩) ?_
        refine wl_appendB rfl rfl rfl rfl rfl rfl B383 (B405).byt (by first | omega | (simp; done) | (simp; omega)) fun v410 w411 T415 B413 g414 k412 => ?_
        have gr416 := Grew.trans gr386 K409 g414
        have ap417 : Apart T415 (T_b) := (ap387).grew g414 (B398).live
        have ap418 : Apart T415 (onB p1) := (ap388).grew g414 (onB_live (B399).lt)
        have ap419 : Apart T415 (onB p10) := (ap389).grew g414 (onB_live (B400).lt)
        have ap420 : Apart T415 (onB p21) := (ap390).grew g414 (onB_live (B401).lt)
        have ap421 : Apart T415 (onB p34) := (ap391).grew g414 (onB_live (B402).lt)
        have ap422 : Apart T415 (T95) := (ap392).grew g414 (B403).live
        have ap423 : Apart T415 (T125) := (ap393).grew g414 (B404).live
        have ap424 : Apart T415 (T159) := (ap394).grew g414 (B405).live
        have ap425 : Apart T415 (T197) := (ap395).grew g414 (B406).live
        have ap426 : Apart T415 (T239) := (ap396).grew g414 (B407).live
        have ap427 : Apart T415 (onB p262) := (ap397).grew g414 (onB_live (B408).lt)
        have B428 := B398.all k412 (fun i h x => (((ap387).symm) i h x))
        have B429 := B399.all k412 (fun x => (((ap388).symm) p1 rfl x))
        have B430 := B400.all k412 (fun x => (((ap389).symm) p10 rfl x))
        have B431 := B401.all k412 (fun x => (((ap390).symm) p21 rfl x))
        have B432 := B402.all k412 (fun x => (((ap391).symm) p34 rfl x))
        have B433 := B403.all k412 (fun i h x => (((ap392).symm) i h x))
        have B434 := B404.all k412 (fun i h x => (((ap393).symm) i h x))
        have B435 := B405.all k412 (fun i h x => (((ap394).symm) i h x))
        have B436 := B406.all k412 (fun i h x => (((ap395).symm) i h x))
        have B437 := B407.all k412 (fun i h x => (((ap396).symm) i h x))
        have B438 := B408.all k412 (fun x => (((ap397).symm) p262 rfl x))
        have K439 := K409.trans k412 (Grew.ok (S := fun _ => False) gr386 noB_le)
        refine wl_v (v) rfl rfl (y_mov rfl s372 ⟨rfl, rfl⟩) ?_
        refine wl_appendB rfl rfl rfl rfl rfl rfl B413 B428 (by first | omega | (simp; done) | (simp; omega)) fun v440 w441 T445 B443 g444 k442 => ?_
        have gr446 := Grew.trans gr416 K439 g444
        have ap447 : Apart T445 (T_b) := (ap417).grew g444 (B428).live
        have ap448 : Apart T445 (onB p1) := (ap418).grew g444 (onB_live (B429).lt)
        have ap449 : Apart T445 (onB p10) := (ap419).grew g444 (onB_live (B430).lt)
        have ap450 : Apart T445 (onB p21) := (ap420).grew g444 (onB_live (B431).lt)
        have ap451 : Apart T445 (onB p34) := (ap421).grew g444 (onB_live (B432).lt)
        have ap452 : Apart T445 (T95) := (ap422).grew g444 (B433).live
        have ap453 : Apart T445 (T125) := (ap423).grew g444 (B434).live
        have ap454 : Apart T445 (T159) := (ap424).grew g444 (B435).live
        have ap455 : Apart T445 (T197) := (ap425).grew g444 (B436).live
        have ap456 : Apart T445 (T239) := (ap426).grew g444 (B437).live
        have ap457 : Apart T445 (onB p262) := (ap427).grew g444 (onB_live (B438).lt)
        have B458 := B428.all k442 (fun i h x => (((ap417).symm) i h x))
        have B459 := B429.all k442 (fun x => (((ap418).symm) p1 rfl x))
        have B460 := B430.all k442 (fun x => (((ap419).symm) p10 rfl x))
        have B461 := B431.all k442 (fun x => (((ap420).symm) p21 rfl x))
        have B462 := B432.all k442 (fun x => (((ap421).symm) p34 rfl x))
        have B463 := B433.all k442 (fun i h x => (((ap422).symm) i h x))
        have B464 := B434.all k442 (fun i h x => (((ap423).symm) i h x))
        have B465 := B435.all k442 (fun i h x => (((ap424).symm) i h x))
        have B466 := B436.all k442 (fun i h x => (((ap425).symm) i h x))
        have B467 := B437.all k442 (fun i h x => (((ap426).symm) i h x))
        have B468 := B438.all k442 (fun x => (((ap427).symm) p262 rfl x))
        have K469 := K439.trans k442 (Grew.ok (S := fun _ => False) gr416 noB_le)
        refine wl_call (R := fun v_ w_ => v_ = .tuple #[.agg #[.int .i64 (od t0 (((([] : List Nat)) ++ ((opB (W) (H) (R) (B)))) ++ (l))), .int .i64 (od t1 (((([] : List Nat)) ++ ((opB (W) (H) (R) (B)))) ++ (l))), .int .i64 (od t2 (((([] : List Nat)) ++ ((opB (W) (H) (R) (B)))) ++ (l))), .int .i64 (od t3 (((([] : List Nat)) ++ ((opB (W) (H) (R) (B)))) ++ (l)))], .int .i64 (odE (((([] : List Nat)) ++ ((opB (W) (H) (R) (B)))) ++ (l)))] ∧ Kept (fun _ => False) w441 w_) rfl rfl (y_cs rfl rfl rfl (fun _ _ => by kernel_rfl) (ev_func _) (vsC rfl vsN) (hd_opened (v440) (((([] : List Nat)) ++ ((opB (W) (H) (R) (B)))) ++ (l)) (T445) _  (B443).byt ) (fun e_ w_ h_ => ⟨_, h_.1, rfl, h_.2⟩)) ?_
        rintro _ w470 ⟨rfl, k471⟩
        have B472 := B458.all k471 Apart.none
        have B473 := B459.all k471 id
        have B474 := B460.all k471 id
        have B475 := B461.all k471 id
        have B476 := B462.all k471 id
        have B477 := B463.all k471 Apart.none
        have B478 := B464.all k471 Apart.none
        have B479 := B465.all k471 Apart.none
        have B480 := B466.all k471 Apart.none
        have B481 := B467.all k471 Apart.none
        have B482 := B468.all k471 id
        have B483 := B443.all k471 Apart.none
        have K484 := K469.trans k471 (fun _ _ x => x.elim)
        refine wl_v (.tuple #[.agg #[.int .i64 (od t0 (((([] : List Nat)) ++ ((opB (W) (H) (R) (B)))) ++ (l))), .int .i64 (od t1 (((([] : List Nat)) ++ ((opB (W) (H) (R) (B)))) ++ (l))), .int .i64 (od t2 (((([] : List Nat)) ++ ((opB (W) (H) (R) (B)))) ++ (l))), .int .i64 (od t3 (((([] : List Nat)) ++ ((opB (W) (H) (R) (B)))) ++ (l)))], .int .i64 (odE (((([] : List Nat)) ++ ((opB (W) (H) (R) (B)))) ++ (l)))]) rfl rfl (y_mov rfl rfl ⟨rfl, rfl⟩) ?_
        refine wl_v (.agg #[.int .i64 (od t0 (((([] : List Nat)) ++ ((opB (W) (H) (R) (B)))) ++ (l))), .int .i64 (od t1 (((([] : List Nat)) ++ ((opB (W) (H) (R) (B)))) ++ (l))), .int .i64 (od t2 (((([] : List Nat)) ++ ((opB (W) (H) (R) (B)))) ++ (l))), .int .i64 (od t3 (((([] : List Nat)) ++ ((opB (W) (H) (R) (B)))) ++ (l)))]) rfl rfl (y_ext rfl rfl rfl ⟨rfl, rfl⟩) ?_
        refine wl_v (.int .i64 (odE (((([] : List Nat)) ++ ((opB (W) (H) (R) (B)))) ++ (l)))) rfl rfl (y_ext rfl rfl rfl ⟨rfl, rfl⟩) ?_
        refine wl_alloc_stc (n := 4) (vs := [.int .i64 (0), .int .i64 (0), .int .i64 (0), .int .i64 (0)]) rfl rfl rfl (by kernel_rfl) fun p485 w486 B488 g489 k487 => ?_
        have gr490 : Grew w0 noB (onB p485) := Grew.new K484 g489
        have ap491 : Apart (onB p485) (T_b) := Apart.new g489 (B472).live
        have ap492 : Apart (onB p485) (onB p1) := Apart.new g489 (onB_live (B473).lt)
        have ap493 : Apart (onB p485) (onB p10) := Apart.new g489 (onB_live (B474).lt)
        have ap494 : Apart (onB p485) (onB p21) := Apart.new g489 (onB_live (B475).lt)
        have ap495 : Apart (onB p485) (onB p34) := Apart.new g489 (onB_live (B476).lt)
        have ap496 : Apart (onB p485) (T95) := Apart.new g489 (B477).live
        have ap497 : Apart (onB p485) (T125) := Apart.new g489 (B478).live
        have ap498 : Apart (onB p485) (T159) := Apart.new g489 (B479).live
        have ap499 : Apart (onB p485) (T197) := Apart.new g489 (B480).live
        have ap500 : Apart (onB p485) (T239) := Apart.new g489 (B481).live
        have ap501 : Apart (onB p485) (onB p262) := Apart.new g489 (onB_live (B482).lt)
        have ap502 : Apart (onB p485) (T445) := Apart.new g489 (B483).live
        have B503 := B472.all k487 Apart.none
        have B504 := B473.all k487 id
        have B505 := B474.all k487 id
        have B506 := B475.all k487 id
        have B507 := B476.all k487 id
        have B508 := B477.all k487 Apart.none
        have B509 := B478.all k487 Apart.none
        have B510 := B479.all k487 Apart.none
        have B511 := B480.all k487 Apart.none
        have B512 := B481.all k487 Apart.none
        have B513 := B482.all k487 id
        have B514 := B483.all k487 Apart.none
        have K515 := K484.trans k487 (fun _ _ x => x.elim)
        refine wl_store_stc (us := [.int .i64 (od t0 (((([] : List Nat)) ++ ((opB (W) (H) (R) (B)))) ++ (l))), .int .i64 (od t1 (((([] : List Nat)) ++ ((opB (W) (H) (R) (B)))) ++ (l))), .int .i64 (od t2 (((([] : List Nat)) ++ ((opB (W) (H) (R) (B)))) ++ (l))), .int .i64 (od t3 (((([] : List Nat)) ++ ((opB (W) (H) (R) (B)))) ++ (l)))]) stcT_seq rfl rfl rfl rfl rfl B488 rfl (oneI rfl (oneI rfl (oneI rfl (oneI rfl oneN)))) fun w516 B517 k518 => ?_
        have B519 := B503.all k518 (fun i h x => (((ap491).symm) i h x))
        have B520 := B504.all k518 (fun x => (((ap492).symm) p1 rfl x))
        have B521 := B505.all k518 (fun x => (((ap493).symm) p10 rfl x))
        have B522 := B506.all k518 (fun x => (((ap494).symm) p21 rfl x))
        have B523 := B507.all k518 (fun x => (((ap495).symm) p34 rfl x))
        have B524 := B508.all k518 (fun i h x => (((ap496).symm) i h x))
        have B525 := B509.all k518 (fun i h x => (((ap497).symm) i h x))
        have B526 := B510.all k518 (fun i h x => (((ap498).symm) i h x))
        have B527 := B511.all k518 (fun i h x => (((ap499).symm) i h x))
        have B528 := B512.all k518 (fun i h x => (((ap500).symm) i h x))
        have B529 := B513.all k518 (fun x => (((ap501).symm) p262 rfl x))
        have B530 := B514.all k518 (fun i h x => (((ap502).symm) i h x))
        have K531 := K515.trans k518 (Grew.ok (S := fun _ => False) gr490 noB_le)
        refine wl_v (.int .i64 (odE (((([] : List Nat)) ++ ((opB (W) (H) (R) (B)))) ++ (l)))) rfl rfl (y_asg rfl rfl ⟨rfl, rfl⟩) ?_
        refine wl_nil fun F532 hF533 => ?_
        have s534 : F532 4 = v := (hF533 4).trans s372
        have s535 : F532 134 = undef := (hF533 134).trans s373
        have s536 : F532 13 = .bool true := (hF533 13).trans s374
        have s537 : F532 19 = .int .i64 (seqE (W) (H) (R) (B)) := (hF533 19).trans s376
        have s538 : F532 24 = .int .i64 (rdE ((((wrB (K) (Q) (D) (F) ([]))).drop (0)).take (((min (c % 10) (wrB K Q D F []).length)) - (0)))) := (hF533 24).trans s377
        have s539 : F532 25 = .bool true := (hF533 25).trans s378
        have s540 : F532 26 = .bool true := (hF533 26).trans s379
        have s541 : F532 28 = .int .i64 (odE (((([] : List Nat)) ++ ((opB (W) (H) (R) (B)))) ++ (l))) := (hF533 28).trans rfl
        clear hF533
        refine then_normal ?_
        refine wq_seq ?_
        by_cases d542 : ((((l).length : Nat) : Int)) = (0)
        · skip
          refine wq_region ?_
          refine wl_v (.bool true) rfl rfl (y_mov rfl s536 ⟨rfl, rfl⟩) ?_
          refine wl_v (.bool true) rfl rfl (y_mov rfl rfl ⟨rfl, rfl⟩) ?_
          refine wl_vw (.bool true) 1 true 111 rfl rfl rfl rfl rfl (y_mov rfl s539 ⟨rfl, rfl⟩) ?_
          refine wl_v (.bool true) rfl rfl (y_pickT rfl rfl rfl ⟨rfl, rfl⟩) ?_
          refine wl_v (.bool true) rfl rfl (y_mov rfl rfl ⟨rfl, rfl⟩) ?_
          refine wl_vw (.bool true) 4 true 114 rfl rfl rfl rfl rfl (y_mov rfl s540 ⟨rfl, rfl⟩) ?_
          refine wl_v (.bool true) rfl rfl (y_pickT rfl rfl rfl ⟨rfl, rfl⟩) ?_
          refine wl_v (.bool true) rfl rfl (y_mov rfl rfl ⟨rfl, rfl⟩) ?_
          refine wl_vw (.int .i64 (rdE ((((wrB (K) (Q) (D) (F) ([]))).drop (0)).take (((min (c % 10) (wrB K Q D F []).length)) - (0))))) 7 true 117 rfl rfl rfl rfl rfl (y_mov rfl s538 ⟨rfl, rfl⟩) ?_
          refine wl_vw (.bool true) 7 true 117 rfl rfl rfl rfl rfl (y_eqlI rfl rfl rfl (decide_eq_true (rd_short (by simp; omega))) ⟨rfl, rfl⟩) ?_
          refine wl_v (.bool true) rfl rfl (y_pickT rfl rfl rfl ⟨rfl, rfl⟩) ?_
          refine wl_v (.bool true) rfl rfl (y_mov rfl rfl ⟨rfl, rfl⟩) ?_
          refine wl_vw (v) 11 true 121 rfl rfl rfl rfl rfl (y_mov rfl s534 ⟨rfl, rfl⟩) ?_
          refine wl_vw (.int .i64 ((((l).length : Nat) : Int))) 11 true 121 rfl rfl rfl rfl rfl (y_lenV rfl rfl rfl B519 ⟨rfl, rfl⟩) ?_
          refine wl_vw (.bool true) 11 true 121 rfl rfl rfl rfl rfl (y_eqlI rfl rfl rfl (decide_eq_true d542) ⟨rfl, rfl⟩) ?_
          refine wl_vw (.bool true) 11 true 121 rfl rfl rfl rfl rfl (y_mov rfl rfl ⟨rfl, rfl⟩) ?_
          refine wl_unless 15 false 125 rfl rfl rfl (Or.inl rfl) rfl ?_
          refine wl_unless 15 false 125 rfl rfl rfl (Or.inl rfl) rfl ?_
          refine wl_vw (.bool true) 11 true 121 rfl rfl rfl rfl rfl (y_pickT rfl rfl rfl ⟨rfl, rfl⟩) ?_
          refine wl_vw (.bool true) 11 true 121 rfl rfl rfl rfl rfl (y_mov rfl rfl ⟨rfl, rfl⟩) ?_
          refine wl_unless 19 false 129 rfl rfl rfl (Or.inl rfl) rfl ?_
          refine wl_unless 19 false 129 rfl rfl rfl (Or.inl rfl) rfl ?_
          refine wl_vw (.bool true) 11 true 121 rfl rfl rfl rfl rfl (y_pickT rfl rfl rfl ⟨rfl, rfl⟩) ?_
          refine wl_v (.bool true) rfl rfl (y_pickT rfl rfl rfl ⟨rfl, rfl⟩) ?_
          refine wl_v (.bool true) rfl rfl (y_asg rfl rfl ⟨rfl, rfl⟩) ?_
          refine wl_nil fun F543 hF544 => ?_
          have s545 : F543 134 = undef := (hF544 134).trans s535
          have s546 : F543 12 = .bool true := (hF544 12).trans rfl
          clear hF544
          refine then_normal ?_
          refine wq_ret ?_
          exact end_tmp (v := .bool true) s545 rfl rfl s546 ⟨rfl, K531⟩
        · skip
          refine wq_region ?_
          refine wl_v (.bool true) rfl rfl (y_mov rfl s536 ⟨rfl, rfl⟩) ?_
          refine wl_v (.bool true) rfl rfl (y_mov rfl rfl ⟨rfl, rfl⟩) ?_
          refine wl_vw (.bool true) 1 true 111 rfl rfl rfl rfl rfl (y_mov rfl s539 ⟨rfl, rfl⟩) ?_
          refine wl_v (.bool true) rfl rfl (y_pickT rfl rfl rfl ⟨rfl, rfl⟩) ?_
          refine wl_v (.bool true) rfl rfl (y_mov rfl rfl ⟨rfl, rfl⟩) ?_
          refine wl_vw (.bool true) 4 true 114 rfl rfl rfl rfl rfl (y_mov rfl s540 ⟨rfl, rfl⟩) ?_
          refine wl_v (.bool true) rfl rfl (y_pickT rfl rfl rfl ⟨rfl, rfl⟩) ?_
          refine wl_v (.bool true) rfl rfl (y_mov rfl rfl ⟨rfl, rfl⟩) ?_
          refine wl_vw (.int .i64 (rdE ((((wrB (K) (Q) (D) (F) ([]))).drop (0)).take (((min (c % 10) (wrB K Q D F []).length)) - (0))))) 7 true 117 rfl rfl rfl rfl rfl (y_mov rfl s538 ⟨rfl, rfl⟩) ?_
          refine wl_vw (.bool true) 7 true 117 rfl rfl rfl rfl rfl (y_eqlI rfl rfl rfl (decide_eq_true (rd_short (by simp; omega))) ⟨rfl, rfl⟩) ?_
          refine wl_v (.bool true) rfl rfl (y_pickT rfl rfl rfl ⟨rfl, rfl⟩) ?_
          refine wl_v (.bool true) rfl rfl (y_mov rfl rfl ⟨rfl, rfl⟩) ?_
          refine wl_vw (v) 11 true 121 rfl rfl rfl rfl rfl (y_mov rfl s534 ⟨rfl, rfl⟩) ?_
          refine wl_vw (.int .i64 ((((l).length : Nat) : Int))) 11 true 121 rfl rfl rfl rfl rfl (y_lenV rfl rfl rfl B519 ⟨rfl, rfl⟩) ?_
          refine wl_vw (.bool false) 11 true 121 rfl rfl rfl rfl rfl (y_eqlI rfl rfl rfl (decide_eq_false d542) ⟨rfl, rfl⟩) ?_
          refine wl_vw (.bool false) 11 true 121 rfl rfl rfl rfl rfl (y_mov rfl rfl ⟨rfl, rfl⟩) ?_
          refine wl_vw (.int .i64 (seqE (W) (H) (R) (B))) 15 false 125 rfl rfl rfl rfl rfl (y_mov rfl s537 ⟨rfl, rfl⟩) ?_
          refine wl_vw (.bool true) 15 false 125 rfl rfl rfl rfl rfl (y_neqI rfl rfl rfl (decide_eq_true d352) ⟨rfl, rfl⟩) ?_
          refine wl_vw (.bool true) 11 true 121 rfl rfl rfl rfl rfl (y_pickF rfl rfl rfl ⟨rfl, rfl⟩) ?_
          refine wl_vw (.bool true) 11 true 121 rfl rfl rfl rfl rfl (y_mov rfl rfl ⟨rfl, rfl⟩) ?_
          refine wl_unless 19 false 129 rfl rfl rfl (Or.inl rfl) rfl ?_
          refine wl_unless 19 false 129 rfl rfl rfl (Or.inl rfl) rfl ?_
          refine wl_vw (.bool true) 11 true 121 rfl rfl rfl rfl rfl (y_pickT rfl rfl rfl ⟨rfl, rfl⟩) ?_
          refine wl_v (.bool true) rfl rfl (y_pickT rfl rfl rfl ⟨rfl, rfl⟩) ?_
          refine wl_v (.bool true) rfl rfl (y_asg rfl rfl ⟨rfl, rfl⟩) ?_
          refine wl_nil fun F547 hF548 => ?_
          have s549 : F547 134 = undef := (hF548 134).trans s535
          have s550 : F547 12 = .bool true := (hF548 12).trans rfl
          clear hF548
          refine then_normal ?_
          refine wq_ret ?_
          exact end_tmp (v := .bool true) s549 rfl rfl s550 ⟨rfl, K531⟩
      · skip
        by_cases d551 : (seqE (W2) (H2) (R2) (B2)) ≠ (0)
        · skip
          refine wq_said [some 84, some 85, some 86, some 87, some 88, some 89, some 90, some 91, some 92, some 93, some 94, some 95, some 96, some 97, some 98, some 99, some 100, some 26] [Pd.eq (.int .i64 (seqE (W) (H) (R) (B))), Pd.eq (.bool false), Pd.eq (.bool false), Pd.eq (.int .i64 (seqE (W2) (H2) (R2) (B2))), Pd.eq (.bool true), Pd.eq (.bool true), Pd.eq (.bool true), Pd.eq undef, Pd.eq undef, Pd.eq undef, Pd.eq undef, Pd.eq undef, Pd.eq undef, Pd.eq undef, Pd.eq undef, Pd.eq undef, Pd.eq (.bool true), Pd.eq (.bool true)] (by kernel_rfl) (by kernel_rfl) ?_ ?_
          · refine stepsF_cons ?_ ?_
            · refine StepF.one rfl fun F_ w_ hR hout hD => ?_
              exact (y_mov rfl ((hout 19 rfl (by decide)).trans s347) ⟨rfl, Kept.refl _ _⟩)
            refine stepsF_cons ?_ ?_
            · refine StepF.one rfl fun F_ w_ hR hout hD => ?_
              have g84 : F_ 84 = .int .i64 (seqE (W) (H) (R) (B)) := (hD.get 0 rfl rfl rfl)
              exact (y_neqI rfl g84 rfl (decide_eq_false d352) ⟨rfl, Kept.refl _ _⟩)
            refine stepsF_cons ?_ ?_
            · refine StepF.one rfl fun F_ w_ hR hout hD => ?_
              have g85 : F_ 85 = .bool false := (hD.get 0 rfl rfl rfl)
              exact (y_mov rfl g85 ⟨rfl, Kept.refl _ _⟩)
            refine stepsF_cons ?_ ?_
            · refine StepF.when 2 false 86 rfl rfl fun F_ w_ hR hout hD => ?_
              have g86 : F_ 86 = .bool false := (hD.get 0 rfl rfl rfl)
              exact ⟨g86, (y_mov rfl ((hout 21 rfl (by decide)).trans s349) ⟨rfl, Kept.refl _ _⟩)⟩
            refine stepsF_cons ?_ ?_
            · refine StepF.when 2 false 86 rfl rfl fun F_ w_ hR hout hD => ?_
              have g86 : F_ 86 = .bool false := (hD.get 1 rfl rfl rfl)
              have g87 : F_ 87 = .int .i64 (seqE (W2) (H2) (R2) (B2)) := (hD.get 0 rfl rfl rfl)
              exact ⟨g86, (y_neqI rfl g87 rfl (decide_eq_true d551) ⟨rfl, Kept.refl _ _⟩)⟩
            refine stepsF_cons ?_ ?_
            · refine StepF.one rfl fun F_ w_ hR hout hD => ?_
              have g86 : F_ 86 = .bool false := (hD.get 0 rfl rfl rfl)
              have g88 : F_ 88 = .bool true := (hD.get 1 rfl rfl rfl)
              exact (y_pickF rfl g86 g88 ⟨rfl, Kept.refl _ _⟩)
            refine stepsF_cons ?_ ?_
            · refine StepF.one rfl fun F_ w_ hR hout hD => ?_
              have g89 : F_ 89 = .bool true := (hD.get 0 rfl rfl rfl)
              exact (y_mov rfl g89 ⟨rfl, Kept.refl _ _⟩)
            refine stepsF_cons ?_ ?_
            · refine StepF.unless 6 false 90 rfl rfl fun F_ w_ hR hout hD => ?_
              have g90 : F_ 90 = .bool true := (hD.get 0 rfl rfl rfl)
              exact ⟨Or.inl g90, rfl⟩
            refine stepsF_cons ?_ ?_
            · refine StepF.unless 6 false 90 rfl rfl fun F_ w_ hR hout hD => ?_
              have g90 : F_ 90 = .bool true := (hD.get 1 rfl rfl rfl)
              exact ⟨Or.inl g90, rfl⟩
            refine stepsF_cons ?_ ?_
            · refine StepF.unless 6 false 90 rfl rfl fun F_ w_ hR hout hD => ?_
              have g90 : F_ 90 = .bool true := (hD.get 0 rfl rfl rfl)
              exact ⟨Or.inl g90, rfl⟩
            refine stepsF_cons ?_ ?_
            · refine StepF.unless 6 false 90 rfl rfl fun F_ w_ hR hout hD => ?_
              have g90 : F_ 90 = .bool true := (hD.get 1 rfl rfl rfl)
              exact ⟨Or.inl g90, rfl⟩
            refine stepsF_cons ?_ ?_
            · refine StepF.unless 6 false 90 rfl rfl fun F_ w_ hR hout hD => ?_
              have g90 : F_ 90 = .bool true := (hD.get 2 rfl rfl rfl)
              exact ⟨Or.inl g90, rfl⟩
            refine stepsF_cons ?_ ?_
            · refine StepF.unless 6 false 90 rfl rfl fun F_ w_ hR hout hD => ?_
              have g90 : F_ 90 = .bool true := (hD.get 0 rfl rfl rfl)
              exact ⟨Or.inl g90, rfl⟩
            refine stepsF_cons ?_ ?_
            · refine StepF.unless 6 false 90 rfl rfl fun F_ w_ hR hout hD => ?_
              have g90 : F_ 90 = .bool true := (hD.get 0 rfl rfl rfl)
              exact ⟨Or.inl g90, rfl⟩
            refine stepsF_cons ?_ ?_
            · refine StepF.unless 6 false 90 rfl rfl fun F_ w_ hR hout hD => ?_
              have g90 : F_ 90 = .bool true := (hD.get 2 rfl rfl rfl)
              exact ⟨Or.inl g90, rfl⟩
            refine stepsF_cons ?_ ?_
            · refine StepF.unless 6 false 90 rfl rfl fun F_ w_ hR hout hD => ?_
              have g90 : F_ 90 = .bool true := (hD.get 2 rfl rfl rfl)
              exact ⟨Or.inl g90, rfl⟩
            refine stepsF_cons ?_ ?_
            · refine StepF.one rfl fun F_ w_ hR hout hD => ?_
              have g90 : F_ 90 = .bool true := (hD.get 0 rfl rfl rfl)
              exact (y_pickT rfl g90 rfl ⟨rfl, Kept.refl _ _⟩)
            refine stepsF_cons ?_ ?_
            · refine StepF.one rfl fun F_ w_ hR hout hD => ?_
              have g100 : F_ 100 = .bool true := (hD.get 0 rfl rfl rfl)
              exact (y_asg rfl g100 ⟨rfl, Kept.refl _ _⟩)
            exact stepsF_nil
          intro v552 F553 w554 k555 G556 hF557
          have B559 := B329.all k555 Apart.none
          have B560 := B330.all k555 id
          have B561 := B331.all k555 id
          have B562 := B332.all k555 id
          have B563 := B333.all k555 id
          have B564 := B334.all k555 Apart.none
          have B565 := B335.all k555 Apart.none
          have B566 := B336.all k555 Apart.none
          have B567 := B337.all k555 Apart.none
          have B568 := B338.all k555 Apart.none
          have B569 := B339.all k555 id
          have K570 := K340.trans k555 (fun _ _ x => x.elim)
          have s571 : F553 4 = v := (hF557 4).trans s341
          have s572 : F553 134 = undef := (hF557 134).trans s342
          have s573 : F553 13 = .bool true := (hF557 13).trans s345
          have s574 : F553 18 = v156 := (hF557 18).trans s346
          have s575 : F553 19 = .int .i64 (seqE (W) (H) (R) (B)) := (hF557 19).trans s347
          have s576 : F553 24 = .int .i64 (rdE ((((wrB (K) (Q) (D) (F) ([]))).drop (0)).take (((min (c % 10) (wrB K Q D F []).length)) - (0)))) := (hF557 24).trans s350
          have s577 : F553 25 = .bool true := (hF557 25).trans s351
          have s578 : F553 26 = .bool true := (hF557 26).trans (G556 17 (by decide))
          clear G556 hF557
          refine then_normal ?_
          refine wq_seq ?_
          refine wq_region ?_
          refine wl_builtB0 rfl rfl rfl fun v579 w580 T584 B582 g583 k581 => ?_
          have gr585 : Grew w0 noB (T584) := Grew.new K570 g583
          have ap586 : Apart (T584) (T_b) := Apart.new g583 (B559).live
          have ap587 : Apart (T584) (onB p1) := Apart.new g583 (onB_live (B560).lt)
          have ap588 : Apart (T584) (onB p10) := Apart.new g583 (onB_live (B561).lt)
          have ap589 : Apart (T584) (onB p21) := Apart.new g583 (onB_live (B562).lt)
          have ap590 : Apart (T584) (onB p34) := Apart.new g583 (onB_live (B563).lt)
          have ap591 : Apart (T584) (T95) := Apart.new g583 (B564).live
          have ap592 : Apart (T584) (T125) := Apart.new g583 (B565).live
          have ap593 : Apart (T584) (T159) := Apart.new g583 (B566).live
          have ap594 : Apart (T584) (T197) := Apart.new g583 (B567).live
          have ap595 : Apart (T584) (T239) := Apart.new g583 (B568).live
          have ap596 : Apart (T584) (onB p262) := Apart.new g583 (onB_live (B569).lt)
          have B597 := B559.all k581 Apart.none
          have B598 := B560.all k581 id
          have B599 := B561.all k581 id
          have B600 := B562.all k581 id
          have B601 := B563.all k581 id
          have B602 := B564.all k581 Apart.none
          have B603 := B565.all k581 Apart.none
          have B604 := B566.all k581 Apart.none
          have B605 := B567.all k581 Apart.none
          have B606 := B568.all k581 Apart.none
          have B607 := B569.all k581 id
          have K608 := K570.trans k581 (fun _ _ x => x.elim)
          refine wl_v (v156) rfl rfl (y_mov rfl s574 ⟨rfl, rfl⟩) ?_
          refine wl_appendB rfl rfl rfl rfl rfl rfl B582 (B604).byt (by first | omega | (simp; done) | (simp; omega)) fun v609 w610 T614 B612 g613 k611 => ?_
          have gr615 := Grew.trans gr585 K608 g613
          have ap616 : Apart T614 (T_b) := (ap586).grew g613 (B597).live
          have ap617 : Apart T614 (onB p1) := (ap587).grew g613 (onB_live (B598).lt)
          have ap618 : Apart T614 (onB p10) := (ap588).grew g613 (onB_live (B599).lt)
          have ap619 : Apart T614 (onB p21) := (ap589).grew g613 (onB_live (B600).lt)
          have ap620 : Apart T614 (onB p34) := (ap590).grew g613 (onB_live (B601).lt)
          have ap621 : Apart T614 (T95) := (ap591).grew g613 (B602).live
          have ap622 : Apart T614 (T125) := (ap592).grew g613 (B603).live
          have ap623 : Apart T614 (T159) := (ap593).grew g613 (B604).live
          have ap624 : Apart T614 (T197) := (ap594).grew g613 (B605).live
          have ap625 : Apart T614 (T239) := (ap595).grew g613 (B606).live
          have ap626 : Apart T614 (onB p262) := (ap596).grew g613 (onB_live (B607).lt)
          have B627 := B597.all k611 (fun i h x => (((ap586).symm) i h x))
          have B628 := B598.all k611 (fun x => (((ap587).symm) p1 rfl x))
          have B629 := B599.all k611 (fun x => (((ap588).symm) p10 rfl x))
          have B630 := B600.all k611 (fun x => (((ap589).symm) p21 rfl x))
          have B631 := B601.all k611 (fun x => (((ap590).symm) p34 rfl x))
          have B632 := B602.all k611 (fun i h x => (((ap591).symm) i h x))
          have B633 := B603.all k611 (fun i h x => (((ap592).symm) i h x))
          have B634 := B604.all k611 (fun i h x => (((ap593).symm) i h x))
          have B635 := B605.all k611 (fun i h x => (((ap594).symm) i h x))
          have B636 := B606.all k611 (fun i h x => (((ap595).symm) i h x))
          have B637 := B607.all k611 (fun x => (((ap596).symm) p262 rfl x))
          have K638 := K608.trans k611 (Grew.ok (S := fun _ => False) gr585 noB_le)
          refine wl_v (v) rfl rfl (y_mov rfl s571 ⟨rfl, rfl⟩) ?_
          refine wl_appendB rfl rfl rfl rfl rfl rfl B612 B627 (by first | omega | (simp; done) | (simp; omega)) fun v639 w640 T644 B642 g643 k641 => ?_
          have gr645 := Grew.trans gr615 K638 g643
          have ap646 : Apart T644 (T_b) := (ap616).grew g643 (B627).live
          have ap647 : Apart T644 (onB p1) := (ap617).grew g643 (onB_live (B628).lt)
          have ap648 : Apart T644 (onB p10) := (ap618).grew g643 (onB_live (B629).lt)
          have ap649 : Apart T644 (onB p21) := (ap619).grew g643 (onB_live (B630).lt)
          have ap650 : Apart T644 (onB p34) := (ap620).grew g643 (onB_live (B631).lt)
          have ap651 : Apart T644 (T95) := (ap621).grew g643 (B632).live
          have ap652 : Apart T644 (T125) := (ap622).grew g643 (B633).live
          have ap653 : Apart T644 (T159) := (ap623).grew g643 (B634).live
          have ap654 : Apart T644 (T197) := (ap624).grew g643 (B635).live
          have ap655 : Apart T644 (T239) := (ap625).grew g643 (B636).live
          have ap656 : Apart T644 (onB p262) := (ap626).grew g643 (onB_live (B637).lt)
          have B657 := B627.all k641 (fun i h x => (((ap616).symm) i h x))
          have B658 := B628.all k641 (fun x => (((ap617).symm) p1 rfl x))
          have B659 := B629.all k641 (fun x => (((ap618).symm) p10 rfl x))
          have B660 := B630.all k641 (fun x => (((ap619).symm) p21 rfl x))
          have B661 := B631.all k641 (fun x => (((ap620).symm) p34 rfl x))
          have B662 := B632.all k641 (fun i h x => (((ap621).symm) i h x))
          have B663 := B633.all k641 (fun i h x => (((ap622).symm) i h x))
          have B664 := B634.all k641 (fun i h x => (((ap623).symm) i h x))
          have B665 := B635.all k641 (fun i h x => (((ap624).symm) i h x))
          have B666 := B636.all k641 (fun i h x => (((ap625).symm) i h x))
          have B667 := B637.all k641 (fun x => (((ap626).symm) p262 rfl x))
          have K668 := K638.trans k641 (Grew.ok (S := fun _ => False) gr615 noB_le)
          refine wl_call (R := fun v_ w_ => v_ = .tuple #[.agg #[.int .i64 (od t0 (((([] : List Nat)) ++ ((opB (W) (H) (R) (B)))) ++ (l))), .int .i64 (od t1 (((([] : List Nat)) ++ ((opB (W) (H) (R) (B)))) ++ (l))), .int .i64 (od t2 (((([] : List Nat)) ++ ((opB (W) (H) (R) (B)))) ++ (l))), .int .i64 (od t3 (((([] : List Nat)) ++ ((opB (W) (H) (R) (B)))) ++ (l)))], .int .i64 (odE (((([] : List Nat)) ++ ((opB (W) (H) (R) (B)))) ++ (l)))] ∧ Kept (fun _ => False) w640 w_) rfl rfl (y_cs rfl rfl rfl (fun _ _ => by kernel_rfl) (ev_func _) (vsC rfl vsN) (hd_opened (v639) (((([] : List Nat)) ++ ((opB (W) (H) (R) (B)))) ++ (l)) (T644) _  (B642).byt ) (fun e_ w_ h_ => ⟨_, h_.1, rfl, h_.2⟩)) ?_
          rintro _ w669 ⟨rfl, k670⟩
          have B671 := B657.all k670 Apart.none
          have B672 := B658.all k670 id
          have B673 := B659.all k670 id
          have B674 := B660.all k670 id
          have B675 := B661.all k670 id
          have B676 := B662.all k670 Apart.none
          have B677 := B663.all k670 Apart.none
          have B678 := B664.all k670 Apart.none
          have B679 := B665.all k670 Apart.none
          have B680 := B666.all k670 Apart.none
          have B681 := B667.all k670 id
          have B682 := B642.all k670 Apart.none
          have K683 := K668.trans k670 (fun _ _ x => x.elim)
          refine wl_v (.tuple #[.agg #[.int .i64 (od t0 (((([] : List Nat)) ++ ((opB (W) (H) (R) (B)))) ++ (l))), .int .i64 (od t1 (((([] : List Nat)) ++ ((opB (W) (H) (R) (B)))) ++ (l))), .int .i64 (od t2 (((([] : List Nat)) ++ ((opB (W) (H) (R) (B)))) ++ (l))), .int .i64 (od t3 (((([] : List Nat)) ++ ((opB (W) (H) (R) (B)))) ++ (l)))], .int .i64 (odE (((([] : List Nat)) ++ ((opB (W) (H) (R) (B)))) ++ (l)))]) rfl rfl (y_mov rfl rfl ⟨rfl, rfl⟩) ?_
          refine wl_v (.agg #[.int .i64 (od t0 (((([] : List Nat)) ++ ((opB (W) (H) (R) (B)))) ++ (l))), .int .i64 (od t1 (((([] : List Nat)) ++ ((opB (W) (H) (R) (B)))) ++ (l))), .int .i64 (od t2 (((([] : List Nat)) ++ ((opB (W) (H) (R) (B)))) ++ (l))), .int .i64 (od t3 (((([] : List Nat)) ++ ((opB (W) (H) (R) (B)))) ++ (l)))]) rfl rfl (y_ext rfl rfl rfl ⟨rfl, rfl⟩) ?_
          refine wl_v (.int .i64 (odE (((([] : List Nat)) ++ ((opB (W) (H) (R) (B)))) ++ (l)))) rfl rfl (y_ext rfl rfl rfl ⟨rfl, rfl⟩) ?_
          refine wl_alloc_stc (n := 4) (vs := [.int .i64 (0), .int .i64 (0), .int .i64 (0), .int .i64 (0)]) rfl rfl rfl (by kernel_rfl) fun p684 w685 B687 g688 k686 => ?_
          have gr689 : Grew w0 noB (onB p684) := Grew.new K683 g688
          have ap690 : Apart (onB p684) (T_b) := Apart.new g688 (B671).live
          have ap691 : Apart (onB p684) (onB p1) := Apart.new g688 (onB_live (B672).lt)
          have ap692 : Apart (onB p684) (onB p10) := Apart.new g688 (onB_live (B673).lt)
          have ap693 : Apart (onB p684) (onB p21) := Apart.new g688 (onB_live (B674).lt)
          have ap694 : Apart (onB p684) (onB p34) := Apart.new g688 (onB_live (B675).lt)
          have ap695 : Apart (onB p684) (T95) := Apart.new g688 (B676).live
          have ap696 : Apart (onB p684) (T125) := Apart.new g688 (B677).live
          have ap697 : Apart (onB p684) (T159) := Apart.new g688 (B678).live
          have ap698 : Apart (onB p684) (T197) := Apart.new g688 (B679).live
          have ap699 : Apart (onB p684) (T239) := Apart.new g688 (B680).live
          have ap700 : Apart (onB p684) (onB p262) := Apart.new g688 (onB_live (B681).lt)
          have ap701 : Apart (onB p684) (T644) := Apart.new g688 (B682).live
          have B702 := B671.all k686 Apart.none
          have B703 := B672.all k686 id
          have B704 := B673.all k686 id
          have B705 := B674.all k686 id
          have B706 := B675.all k686 id
          have B707 := B676.all k686 Apart.none
          have B708 := B677.all k686 Apart.none
          have B709 := B678.all k686 Apart.none
          have B710 := B679.all k686 Apart.none
          have B711 := B680.all k686 Apart.none
          have B712 := B681.all k686 id
          have B713 := B682.all k686 Apart.none
          have K714 := K683.trans k686 (fun _ _ x => x.elim)
          refine wl_store_stc (us := [.int .i64 (od t0 (((([] : List Nat)) ++ ((opB (W) (H) (R) (B)))) ++ (l))), .int .i64 (od t1 (((([] : List Nat)) ++ ((opB (W) (H) (R) (B)))) ++ (l))), .int .i64 (od t2 (((([] : List Nat)) ++ ((opB (W) (H) (R) (B)))) ++ (l))), .int .i64 (od t3 (((([] : List Nat)) ++ ((opB (W) (H) (R) (B)))) ++ (l)))]) stcT_seq rfl rfl rfl rfl rfl B687 rfl (oneI rfl (oneI rfl (oneI rfl (oneI rfl oneN)))) fun w715 B716 k717 => ?_
          have B718 := B702.all k717 (fun i h x => (((ap690).symm) i h x))
          have B719 := B703.all k717 (fun x => (((ap691).symm) p1 rfl x))
          have B720 := B704.all k717 (fun x => (((ap692).symm) p10 rfl x))
          have B721 := B705.all k717 (fun x => (((ap693).symm) p21 rfl x))
          have B722 := B706.all k717 (fun x => (((ap694).symm) p34 rfl x))
          have B723 := B707.all k717 (fun i h x => (((ap695).symm) i h x))
          have B724 := B708.all k717 (fun i h x => (((ap696).symm) i h x))
          have B725 := B709.all k717 (fun i h x => (((ap697).symm) i h x))
          have B726 := B710.all k717 (fun i h x => (((ap698).symm) i h x))
          have B727 := B711.all k717 (fun i h x => (((ap699).symm) i h x))
          have B728 := B712.all k717 (fun x => (((ap700).symm) p262 rfl x))
          have B729 := B713.all k717 (fun i h x => (((ap701).symm) i h x))
          have K730 := K714.trans k717 (Grew.ok (S := fun _ => False) gr689 noB_le)
          refine wl_v (.int .i64 (odE (((([] : List Nat)) ++ ((opB (W) (H) (R) (B)))) ++ (l)))) rfl rfl (y_asg rfl rfl ⟨rfl, rfl⟩) ?_
          refine wl_nil fun F731 hF732 => ?_
          have s733 : F731 4 = v := (hF732 4).trans s571
          have s734 : F731 134 = undef := (hF732 134).trans s572
          have s735 : F731 13 = .bool true := (hF732 13).trans s573
          have s736 : F731 19 = .int .i64 (seqE (W) (H) (R) (B)) := (hF732 19).trans s575
          have s737 : F731 24 = .int .i64 (rdE ((((wrB (K) (Q) (D) (F) ([]))).drop (0)).take (((min (c % 10) (wrB K Q D F []).length)) - (0)))) := (hF732 24).trans s576
          have s738 : F731 25 = .bool true := (hF732 25).trans s577
          have s739 : F731 26 = .bool true := (hF732 26).trans s578
          have s740 : F731 28 = .int .i64 (odE (((([] : List Nat)) ++ ((opB (W) (H) (R) (B)))) ++ (l))) := (hF732 28).trans rfl
          clear hF732
          refine then_normal ?_
          refine wq_seq ?_
          by_cases d741 : ((((l).length : Nat) : Int)) = (0)
          · skip
            refine wq_region ?_
            refine wl_v (.bool true) rfl rfl (y_mov rfl s735 ⟨rfl, rfl⟩) ?_
            refine wl_v (.bool true) rfl rfl (y_mov rfl rfl ⟨rfl, rfl⟩) ?_
            refine wl_vw (.bool true) 1 true 111 rfl rfl rfl rfl rfl (y_mov rfl s738 ⟨rfl, rfl⟩) ?_
            refine wl_v (.bool true) rfl rfl (y_pickT rfl rfl rfl ⟨rfl, rfl⟩) ?_
            refine wl_v (.bool true) rfl rfl (y_mov rfl rfl ⟨rfl, rfl⟩) ?_
            refine wl_vw (.bool true) 4 true 114 rfl rfl rfl rfl rfl (y_mov rfl s739 ⟨rfl, rfl⟩) ?_
            refine wl_v (.bool true) rfl rfl (y_pickT rfl rfl rfl ⟨rfl, rfl⟩) ?_
            refine wl_v (.bool true) rfl rfl (y_mov rfl rfl ⟨rfl, rfl⟩) ?_
            refine wl_vw (.int .i64 (rdE ((((wrB (K) (Q) (D) (F) ([]))).drop (0)).take (((min (c % 10) (wrB K Q D F []).length)) - (0))))) 7 true 117 rfl rfl rfl rfl rfl (y_mov rfl s737 ⟨rfl, rfl⟩) ?_
            refine wl_vw (.bool true) 7 true 117 rfl rfl rfl rfl rfl (y_eqlI rfl rfl rfl (decide_eq_true (rd_short (by simp; omega))) ⟨rfl, rfl⟩) ?_
            refine wl_v (.bool true) rfl rfl (y_pickT rfl rfl rfl ⟨rfl, rfl⟩) ?_
            refine wl_v (.bool true) rfl rfl (y_mov rfl rfl ⟨rfl, rfl⟩) ?_
            refine wl_vw (v) 11 true 121 rfl rfl rfl rfl rfl (y_mov rfl s733 ⟨rfl, rfl⟩) ?_
            refine wl_vw (.int .i64 ((((l).length : Nat) : Int))) 11 true 121 rfl rfl rfl rfl rfl (y_lenV rfl rfl rfl B718 ⟨rfl, rfl⟩) ?_
            refine wl_vw (.bool true) 11 true 121 rfl rfl rfl rfl rfl (y_eqlI rfl rfl rfl (decide_eq_true d741) ⟨rfl, rfl⟩) ?_
            refine wl_vw (.bool true) 11 true 121 rfl rfl rfl rfl rfl (y_mov rfl rfl ⟨rfl, rfl⟩) ?_
            refine wl_unless 15 false 125 rfl rfl rfl (Or.inl rfl) rfl ?_
            refine wl_unless 15 false 125 rfl rfl rfl (Or.inl rfl) rfl ?_
            refine wl_vw (.bool true) 11 true 121 rfl rfl rfl rfl rfl (y_pickT rfl rfl rfl ⟨rfl, rfl⟩) ?_
            refine wl_vw (.bool true) 11 true 121 rfl rfl rfl rfl rfl (y_mov rfl rfl ⟨rfl, rfl⟩) ?_
            refine wl_unless 19 false 129 rfl rfl rfl (Or.inl rfl) rfl ?_
            refine wl_unless 19 false 129 rfl rfl rfl (Or.inl rfl) rfl ?_
            refine wl_vw (.bool true) 11 true 121 rfl rfl rfl rfl rfl (y_pickT rfl rfl rfl ⟨rfl, rfl⟩) ?_
            refine wl_v (.bool true) rfl rfl (y_pickT rfl rfl rfl ⟨rfl, rfl⟩) ?_
            refine wl_v (.bool true) rfl rfl (y_asg rfl rfl ⟨rfl, rfl⟩) ?_
            refine wl_nil fun F742 hF743 => ?_
            have s744 : F742 134 = undef := (hF743 134).trans s734
            have s745 : F742 12 = .bool true := (hF743 12).trans rfl
            clear hF743
            refine then_normal ?_
            refine wq_ret ?_
            exact end_tmp (v := .bool true) s744 rfl rfl s745 ⟨rfl, K730⟩
          · skip
            refine wq_region ?_
            refine wl_v (.bool true) rfl rfl (y_mov rfl s735 ⟨rfl, rfl⟩) ?_
            refine wl_v (.bool true) rfl rfl (y_mov rfl rfl ⟨rfl, rfl⟩) ?_
            refine wl_vw (.bool true) 1 true 111 rfl rfl rfl rfl rfl (y_mov rfl s738 ⟨rfl, rfl⟩) ?_
            refine wl_v (.bool true) rfl rfl (y_pickT rfl rfl rfl ⟨rfl, rfl⟩) ?_
            refine wl_v (.bool true) rfl rfl (y_mov rfl rfl ⟨rfl, rfl⟩) ?_
            refine wl_vw (.bool true) 4 true 114 rfl rfl rfl rfl rfl (y_mov rfl s739 ⟨rfl, rfl⟩) ?_
            refine wl_v (.bool true) rfl rfl (y_pickT rfl rfl rfl ⟨rfl, rfl⟩) ?_
            refine wl_v (.bool true) rfl rfl (y_mov rfl rfl ⟨rfl, rfl⟩) ?_
            refine wl_vw (.int .i64 (rdE ((((wrB (K) (Q) (D) (F) ([]))).drop (0)).take (((min (c % 10) (wrB K Q D F []).length)) - (0))))) 7 true 117 rfl rfl rfl rfl rfl (y_mov rfl s737 ⟨rfl, rfl⟩) ?_
            refine wl_vw (.bool true) 7 true 117 rfl rfl rfl rfl rfl (y_eqlI rfl rfl rfl (decide_eq_true (rd_short (by simp; omega))) ⟨rfl, rfl⟩) ?_
            refine wl_v (.bool true) rfl rfl (y_pickT rfl rfl rfl ⟨rfl, rfl⟩) ?_
            refine wl_v (.bool true) rfl rfl (y_mov rfl rfl ⟨rfl, rfl⟩) ?_
            refine wl_vw (v) 11 true 121 rfl rfl rfl rfl rfl (y_mov rfl s733 ⟨rfl, rfl⟩) ?_
            refine wl_vw (.int .i64 ((((l).length : Nat) : Int))) 11 true 121 rfl rfl rfl rfl rfl (y_lenV rfl rfl rfl B718 ⟨rfl, rfl⟩) ?_
            refine wl_vw (.bool false) 11 true 121 rfl rfl rfl rfl rfl (y_eqlI rfl rfl rfl (decide_eq_false d741) ⟨rfl, rfl⟩) ?_
            refine wl_vw (.bool false) 11 true 121 rfl rfl rfl rfl rfl (y_mov rfl rfl ⟨rfl, rfl⟩) ?_
            refine wl_vw (.int .i64 (seqE (W) (H) (R) (B))) 15 false 125 rfl rfl rfl rfl rfl (y_mov rfl s736 ⟨rfl, rfl⟩) ?_
            refine wl_vw (.bool false) 15 false 125 rfl rfl rfl rfl rfl (y_neqI rfl rfl rfl (decide_eq_false d352) ⟨rfl, rfl⟩) ?_
            refine wl_vw (.bool false) 11 true 121 rfl rfl rfl rfl rfl (y_pickF rfl rfl rfl ⟨rfl, rfl⟩) ?_
            refine wl_vw (.bool false) 11 true 121 rfl rfl rfl rfl rfl (y_mov rfl rfl ⟨rfl, rfl⟩) ?_
            refine wl_vw (.int .i64 (odE (((([] : List Nat)) ++ ((opB (W) (H) (R) (B)))) ++ (l)))) 19 false 129 rfl rfl rfl rfl rfl (y_mov rfl s740 ⟨rfl, rfl⟩) ?_
            refine wl_vw (.bool true) 19 false 129 rfl rfl rfl rfl rfl (y_eqlI rfl rfl rfl (decide_eq_true (od_long (by have h := opB_len (seqE_iff.1 (show seqE W H R B = 0 by first | assumption | (apply Decidable.byContradiction; assumption))); rw [List.nil_append, List.length_append]; omega))) ⟨rfl, rfl⟩) ?_
            refine wl_vw (.bool true) 11 true 121 rfl rfl rfl rfl rfl (y_pickF rfl rfl rfl ⟨rfl, rfl⟩) ?_
            refine wl_v (.bool true) rfl rfl (y_pickT rfl rfl rfl ⟨rfl, rfl⟩) ?_
            refine wl_v (.bool true) rfl rfl (y_asg rfl rfl ⟨rfl, rfl⟩) ?_
            refine wl_nil fun F746 hF747 => ?_
            have s748 : F746 134 = undef := (hF747 134).trans s734
            have s749 : F746 12 = .bool true := (hF747 12).trans rfl
            clear hF747
            refine then_normal ?_
            refine wq_ret ?_
            exact end_tmp (v := .bool true) s748 rfl rfl s749 ⟨rfl, K730⟩
        · skip
          refine wq_said [some 84, some 85, some 86, some 87, some 88, some 89, some 90, some 91, some 92, some 93, some 94, some 95, some 96, some 97, some 98, some 99, some 100, some 26] [Pd.eq (.int .i64 (seqE (W) (H) (R) (B))), Pd.eq (.bool false), Pd.eq (.bool false), Pd.eq (.int .i64 (seqE (W2) (H2) (R2) (B2))), Pd.eq (.bool false), Pd.eq (.bool false), Pd.eq (.bool false), Pd.eq (v156), Pd.eq (.string (textOf ((opB (W) (H) (R) (B))))), Pd.eq (v194), Pd.eq (.string (textOf ((opB (W2) (H2) (R2) (B2))))), Pd.eq (.bool ((textOf ((opB (W) (H) (R) (B)))).toList == (textOf ((opB (W2) (H2) (R2) (B2)))).toList)), Pd.eq (.agg #[.int .i64 (W), .int .i64 (H), .int .i64 (R), .int .i64 (B)]), Pd.eq (.agg #[.int .i64 (W2), .int .i64 (H2), .int .i64 (R2), .int .i64 (B2)]), Pd.eq (.bool (sameI [W, H, R, B] [W2, H2, R2, B2])), Pd.eq (.bool true), Pd.eq (.bool true), Pd.eq (.bool true)] (by kernel_rfl) (by kernel_rfl) ?_ ?_
          · refine stepsF_cons ?_ ?_
            · refine StepF.one rfl fun F_ w_ hR hout hD => ?_
              exact (y_mov rfl ((hout 19 rfl (by decide)).trans s347) ⟨rfl, Kept.refl _ _⟩)
            refine stepsF_cons ?_ ?_
            · refine StepF.one rfl fun F_ w_ hR hout hD => ?_
              have g84 : F_ 84 = .int .i64 (seqE (W) (H) (R) (B)) := (hD.get 0 rfl rfl rfl)
              exact (y_neqI rfl g84 rfl (decide_eq_false d352) ⟨rfl, Kept.refl _ _⟩)
            refine stepsF_cons ?_ ?_
            · refine StepF.one rfl fun F_ w_ hR hout hD => ?_
              have g85 : F_ 85 = .bool false := (hD.get 0 rfl rfl rfl)
              exact (y_mov rfl g85 ⟨rfl, Kept.refl _ _⟩)
            refine stepsF_cons ?_ ?_
            · refine StepF.when 2 false 86 rfl rfl fun F_ w_ hR hout hD => ?_
              have g86 : F_ 86 = .bool false := (hD.get 0 rfl rfl rfl)
              exact ⟨g86, (y_mov rfl ((hout 21 rfl (by decide)).trans s349) ⟨rfl, Kept.refl _ _⟩)⟩
            refine stepsF_cons ?_ ?_
            · refine StepF.when 2 false 86 rfl rfl fun F_ w_ hR hout hD => ?_
              have g86 : F_ 86 = .bool false := (hD.get 1 rfl rfl rfl)
              have g87 : F_ 87 = .int .i64 (seqE (W2) (H2) (R2) (B2)) := (hD.get 0 rfl rfl rfl)
              exact ⟨g86, (y_neqI rfl g87 rfl (decide_eq_false d551) ⟨rfl, Kept.refl _ _⟩)⟩
            refine stepsF_cons ?_ ?_
            · refine StepF.one rfl fun F_ w_ hR hout hD => ?_
              have g86 : F_ 86 = .bool false := (hD.get 0 rfl rfl rfl)
              have g88 : F_ 88 = .bool false := (hD.get 1 rfl rfl rfl)
              exact (y_pickF rfl g86 g88 ⟨rfl, Kept.refl _ _⟩)
            refine stepsF_cons ?_ ?_
            · refine StepF.one rfl fun F_ w_ hR hout hD => ?_
              have g89 : F_ 89 = .bool false := (hD.get 0 rfl rfl rfl)
              exact (y_mov rfl g89 ⟨rfl, Kept.refl _ _⟩)
            refine stepsF_cons ?_ ?_
            · refine StepF.when 6 false 90 rfl rfl fun F_ w_ hR hout hD => ?_
              have g90 : F_ 90 = .bool false := (hD.get 0 rfl rfl rfl)
              exact ⟨g90, (y_mov rfl ((hout 18 rfl (by decide)).trans s346) ⟨rfl, Kept.refl _ _⟩)⟩
            refine stepsF_cons ?_ ?_
            · refine StepF.when 6 false 90 rfl rfl fun F_ w_ hR hout hD => ?_
              have g90 : F_ 90 = .bool false := (hD.get 1 rfl rfl rfl)
              have g91 : F_ 91 = v156 := (hD.get 0 rfl rfl rfl)
              exact ⟨g90, (y_text rfl (bytes_at g91 ((B336.all hR Apart.none)).byt) ⟨rfl, Kept.refl _ _⟩)⟩
            refine stepsF_cons ?_ ?_
            · refine StepF.when 6 false 90 rfl rfl fun F_ w_ hR hout hD => ?_
              have g90 : F_ 90 = .bool false := (hD.get 0 rfl rfl rfl)
              exact ⟨g90, (y_mov rfl ((hout 20 rfl (by decide)).trans s348) ⟨rfl, Kept.refl _ _⟩)⟩
            refine stepsF_cons ?_ ?_
            · refine StepF.when 6 false 90 rfl rfl fun F_ w_ hR hout hD => ?_
              have g90 : F_ 90 = .bool false := (hD.get 1 rfl rfl rfl)
              have g93 : F_ 93 = v194 := (hD.get 0 rfl rfl rfl)
              exact ⟨g90, (y_text rfl (bytes_at g93 ((B337.all hR Apart.none)).byt) ⟨rfl, Kept.refl _ _⟩)⟩
            refine stepsF_cons ?_ ?_
            · refine StepF.when 6 false 90 rfl rfl fun F_ w_ hR hout hD => ?_
              have g90 : F_ 90 = .bool false := (hD.get 2 rfl rfl rfl)
              have g92 : F_ 92 = .string (textOf ((opB (W) (H) (R) (B)))) := (hD.get 0 rfl rfl rfl)
              have g94 : F_ 94 = .string (textOf ((opB (W2) (H2) (R2) (B2)))) := (hD.get 1 rfl rfl rfl)
              exact ⟨g90, (y_eqlS rfl g92 g94 rfl ⟨rfl, Kept.refl _ _⟩)⟩
            refine stepsF_cons ?_ ?_
            · refine StepF.when 6 false 90 rfl rfl fun F_ w_ hR hout hD => ?_
              have g90 : F_ 90 = .bool false := (hD.get 0 rfl rfl rfl)
              exact ⟨g90, (y_load_stc stcT_seq rfl ((hout 8 rfl (by decide)).trans s343) (B332.all hR id) ⟨rfl, Kept.refl _ _⟩)⟩
            refine stepsF_cons ?_ ?_
            · refine StepF.when 6 false 90 rfl rfl fun F_ w_ hR hout hD => ?_
              have g90 : F_ 90 = .bool false := (hD.get 0 rfl rfl rfl)
              exact ⟨g90, (y_load_stc stcT_seq rfl ((hout 9 rfl (by decide)).trans s344) (B333.all hR id) ⟨rfl, Kept.refl _ _⟩)⟩
            refine stepsF_cons ?_ ?_
            · refine StepF.when 6 false 90 rfl rfl fun F_ w_ hR hout hD => ?_
              have g90 : F_ 90 = .bool false := (hD.get 2 rfl rfl rfl)
              have g96 : F_ 96 = .agg #[.int .i64 (W), .int .i64 (H), .int .i64 (R), .int .i64 (B)] := (hD.get 0 rfl rfl rfl)
              have g97 : F_ 97 = .agg #[.int .i64 (W2), .int .i64 (H2), .int .i64 (R2), .int .i64 (B2)] := (hD.get 1 rfl rfl rfl)
              exact ⟨g90, (y_eqlSI (xs := [W, H, R, B]) (ys := [W2, H2, R2, B2]) structI_seq rfl g96 g97 rfl rfl rfl ⟨rfl, Kept.refl _ _⟩)⟩
            refine stepsF_cons ?_ ?_
            · refine StepF.when 6 false 90 rfl rfl fun F_ w_ hR hout hD => ?_
              have g90 : F_ 90 = .bool false := (hD.get 2 rfl rfl rfl)
              have g95 : F_ 95 = .bool ((textOf ((opB (W) (H) (R) (B)))).toList == (textOf ((opB (W2) (H2) (R2) (B2)))).toList) := (hD.get 0 rfl rfl rfl)
              have g98 : F_ 98 = .bool (sameI [W, H, R, B] [W2, H2, R2, B2]) := (hD.get 1 rfl rfl rfl)
              exact ⟨g90, (y_eqlB rfl g95 g98 Try.underlying4 (hapart_seq (seqE_iff.1 (by first | assumption | (apply Decidable.byContradiction; assumption))) (seqE_iff.1 (by first | assumption | (apply Decidable.byContradiction; assumption)))) ⟨rfl, Kept.refl _ _⟩)⟩
            refine stepsF_cons ?_ ?_
            · refine StepF.one rfl fun F_ w_ hR hout hD => ?_
              have g90 : F_ 90 = .bool false := (hD.get 0 rfl rfl rfl)
              have g99 : F_ 99 = .bool true := (hD.get 1 rfl rfl rfl)
              exact (y_pickF rfl g90 g99 ⟨rfl, Kept.refl _ _⟩)
            refine stepsF_cons ?_ ?_
            · refine StepF.one rfl fun F_ w_ hR hout hD => ?_
              have g100 : F_ 100 = .bool true := (hD.get 0 rfl rfl rfl)
              exact (y_asg rfl g100 ⟨rfl, Kept.refl _ _⟩)
            exact stepsF_nil
          intro v750 F751 w752 k753 G754 hF755
          have B757 := B329.all k753 Apart.none
          have B758 := B330.all k753 id
          have B759 := B331.all k753 id
          have B760 := B332.all k753 id
          have B761 := B333.all k753 id
          have B762 := B334.all k753 Apart.none
          have B763 := B335.all k753 Apart.none
          have B764 := B336.all k753 Apart.none
          have B765 := B337.all k753 Apart.none
          have B766 := B338.all k753 Apart.none
          have B767 := B339.all k753 id
          have K768 := K340.trans k753 (fun _ _ x => x.elim)
          have s769 : F751 4 = v := (hF755 4).trans s341
          have s770 : F751 134 = undef := (hF755 134).trans s342
          have s771 : F751 13 = .bool true := (hF755 13).trans s345
          have s772 : F751 18 = v156 := (hF755 18).trans s346
          have s773 : F751 19 = .int .i64 (seqE (W) (H) (R) (B)) := (hF755 19).trans s347
          have s774 : F751 24 = .int .i64 (rdE ((((wrB (K) (Q) (D) (F) ([]))).drop (0)).take (((min (c % 10) (wrB K Q D F []).length)) - (0)))) := (hF755 24).trans s350
          have s775 : F751 25 = .bool true := (hF755 25).trans s351
          have s776 : F751 26 = .bool true := (hF755 26).trans (G754 17 (by decide))
          clear G754 hF755
          refine then_normal ?_
          refine wq_seq ?_
          refine wq_region ?_
          refine wl_builtB0 rfl rfl rfl fun v777 w778 T782 B780 g781 k779 => ?_
          have gr783 : Grew w0 noB (T782) := Grew.new K768 g781
          have ap784 : Apart (T782) (T_b) := Apart.new g781 (B757).live
          have ap785 : Apart (T782) (onB p1) := Apart.new g781 (onB_live (B758).lt)
          have ap786 : Apart (T782) (onB p10) := Apart.new g781 (onB_live (B759).lt)
          have ap787 : Apart (T782) (onB p21) := Apart.new g781 (onB_live (B760).lt)
          have ap788 : Apart (T782) (onB p34) := Apart.new g781 (onB_live (B761).lt)
          have ap789 : Apart (T782) (T95) := Apart.new g781 (B762).live
          have ap790 : Apart (T782) (T125) := Apart.new g781 (B763).live
          have ap791 : Apart (T782) (T159) := Apart.new g781 (B764).live
          have ap792 : Apart (T782) (T197) := Apart.new g781 (B765).live
          have ap793 : Apart (T782) (T239) := Apart.new g781 (B766).live
          have ap794 : Apart (T782) (onB p262) := Apart.new g781 (onB_live (B767).lt)
          have B795 := B757.all k779 Apart.none
          have B796 := B758.all k779 id
          have B797 := B759.all k779 id
          have B798 := B760.all k779 id
          have B799 := B761.all k779 id
          have B800 := B762.all k779 Apart.none
          have B801 := B763.all k779 Apart.none
          have B802 := B764.all k779 Apart.none
          have B803 := B765.all k779 Apart.none
          have B804 := B766.all k779 Apart.none
          have B805 := B767.all k779 id
          have K806 := K768.trans k779 (fun _ _ x => x.elim)
          refine wl_v (v156) rfl rfl (y_mov rfl s772 ⟨rfl, rfl⟩) ?_
          refine wl_appendB rfl rfl rfl rfl rfl rfl B780 (B802).byt (by first | omega | (simp; done) | (simp; omega)) fun v807 w808 T812 B810 g811 k809 => ?_
          have gr813 := Grew.trans gr783 K806 g811
          have ap814 : Apart T812 (T_b) := (ap784).grew g811 (B795).live
          have ap815 : Apart T812 (onB p1) := (ap785).grew g811 (onB_live (B796).lt)
          have ap816 : Apart T812 (onB p10) := (ap786).grew g811 (onB_live (B797).lt)
          have ap817 : Apart T812 (onB p21) := (ap787).grew g811 (onB_live (B798).lt)
          have ap818 : Apart T812 (onB p34) := (ap788).grew g811 (onB_live (B799).lt)
          have ap819 : Apart T812 (T95) := (ap789).grew g811 (B800).live
          have ap820 : Apart T812 (T125) := (ap790).grew g811 (B801).live
          have ap821 : Apart T812 (T159) := (ap791).grew g811 (B802).live
          have ap822 : Apart T812 (T197) := (ap792).grew g811 (B803).live
          have ap823 : Apart T812 (T239) := (ap793).grew g811 (B804).live
          have ap824 : Apart T812 (onB p262) := (ap794).grew g811 (onB_live (B805).lt)
          have B825 := B795.all k809 (fun i h x => (((ap784).symm) i h x))
          have B826 := B796.all k809 (fun x => (((ap785).symm) p1 rfl x))
          have B827 := B797.all k809 (fun x => (((ap786).symm) p10 rfl x))
          have B828 := B798.all k809 (fun x => (((ap787).symm) p21 rfl x))
          have B829 := B799.all k809 (fun x => (((ap788).symm) p34 rfl x))
          have B830 := B800.all k809 (fun i h x => (((ap789).symm) i h x))
          have B831 := B801.all k809 (fun i h x => (((ap790).symm) i h x))
          have B832 := B802.all k809 (fun i h x => (((ap791).symm) i h x))
          have B833 := B803.all k809 (fun i h x => (((ap792).symm) i h x))
          have B834 := B804.all k809 (fun i h x => (((ap793).symm) i h x))
          have B835 := B805.all k809 (fun x => (((ap794).symm) p262 rfl x))
          have K836 := K806.trans k809 (Grew.ok (S := fun _ => False) gr783 noB_le)
          refine wl_v (v) rfl rfl (y_mov rfl s769 ⟨rfl, rfl⟩) ?_
          refine wl_appendB rfl rfl rfl rfl rfl rfl B810 B825 (by first | omega | (simp; done) | (simp; omega)) fun v837 w838 T842 B840 g841 k839 => ?_
          have gr843 := Grew.trans gr813 K836 g841
          have ap844 : Apart T842 (T_b) := (ap814).grew g841 (B825).live
          have ap845 : Apart T842 (onB p1) := (ap815).grew g841 (onB_live (B826).lt)
          have ap846 : Apart T842 (onB p10) := (ap816).grew g841 (onB_live (B827).lt)
          have ap847 : Apart T842 (onB p21) := (ap817).grew g841 (onB_live (B828).lt)
          have ap848 : Apart T842 (onB p34) := (ap818).grew g841 (onB_live (B829).lt)
          have ap849 : Apart T842 (T95) := (ap819).grew g841 (B830).live
          have ap850 : Apart T842 (T125) := (ap820).grew g841 (B831).live
          have ap851 : Apart T842 (T159) := (ap821).grew g841 (B832).live
          have ap852 : Apart T842 (T197) := (ap822).grew g841 (B833).live
          have ap853 : Apart T842 (T239) := (ap823).grew g841 (B834).live
          have ap854 : Apart T842 (onB p262) := (ap824).grew g841 (onB_live (B835).lt)
          have B855 := B825.all k839 (fun i h x => (((ap814).symm) i h x))
          have B856 := B826.all k839 (fun x => (((ap815).symm) p1 rfl x))
          have B857 := B827.all k839 (fun x => (((ap816).symm) p10 rfl x))
          have B858 := B828.all k839 (fun x => (((ap817).symm) p21 rfl x))
          have B859 := B829.all k839 (fun x => (((ap818).symm) p34 rfl x))
          have B860 := B830.all k839 (fun i h x => (((ap819).symm) i h x))
          have B861 := B831.all k839 (fun i h x => (((ap820).symm) i h x))
          have B862 := B832.all k839 (fun i h x => (((ap821).symm) i h x))
          have B863 := B833.all k839 (fun i h x => (((ap822).symm) i h x))
          have B864 := B834.all k839 (fun i h x => (((ap823).symm) i h x))
          have B865 := B835.all k839 (fun x => (((ap824).symm) p262 rfl x))
          have K866 := K836.trans k839 (Grew.ok (S := fun _ => False) gr813 noB_le)
          refine wl_call (R := fun v_ w_ => v_ = .tuple #[.agg #[.int .i64 (od t0 (((([] : List Nat)) ++ ((opB (W) (H) (R) (B)))) ++ (l))), .int .i64 (od t1 (((([] : List Nat)) ++ ((opB (W) (H) (R) (B)))) ++ (l))), .int .i64 (od t2 (((([] : List Nat)) ++ ((opB (W) (H) (R) (B)))) ++ (l))), .int .i64 (od t3 (((([] : List Nat)) ++ ((opB (W) (H) (R) (B)))) ++ (l)))], .int .i64 (odE (((([] : List Nat)) ++ ((opB (W) (H) (R) (B)))) ++ (l)))] ∧ Kept (fun _ => False) w838 w_) rfl rfl (y_cs rfl rfl rfl (fun _ _ => by kernel_rfl) (ev_func _) (vsC rfl vsN) (hd_opened (v837) (((([] : List Nat)) ++ ((opB (W) (H) (R) (B)))) ++ (l)) (T842) _  (B840).byt ) (fun e_ w_ h_ => ⟨_, h_.1, rfl, h_.2⟩)) ?_
          rintro _ w867 ⟨rfl, k868⟩
          have B869 := B855.all k868 Apart.none
          have B870 := B856.all k868 id
          have B871 := B857.all k868 id
          have B872 := B858.all k868 id
          have B873 := B859.all k868 id
          have B874 := B860.all k868 Apart.none
          have B875 := B861.all k868 Apart.none
          have B876 := B862.all k868 Apart.none
          have B877 := B863.all k868 Apart.none
          have B878 := B864.all k868 Apart.none
          have B879 := B865.all k868 id
          have B880 := B840.all k868 Apart.none
          have K881 := K866.trans k868 (fun _ _ x => x.elim)
          refine wl_v (.tuple #[.agg #[.int .i64 (od t0 (((([] : List Nat)) ++ ((opB (W) (H) (R) (B)))) ++ (l))), .int .i64 (od t1 (((([] : List Nat)) ++ ((opB (W) (H) (R) (B)))) ++ (l))), .int .i64 (od t2 (((([] : List Nat)) ++ ((opB (W) (H) (R) (B)))) ++ (l))), .int .i64 (od t3 (((([] : List Nat)) ++ ((opB (W) (H) (R) (B)))) ++ (l)))], .int .i64 (odE (((([] : List Nat)) ++ ((opB (W) (H) (R) (B)))) ++ (l)))]) rfl rfl (y_mov rfl rfl ⟨rfl, rfl⟩) ?_
          refine wl_v (.agg #[.int .i64 (od t0 (((([] : List Nat)) ++ ((opB (W) (H) (R) (B)))) ++ (l))), .int .i64 (od t1 (((([] : List Nat)) ++ ((opB (W) (H) (R) (B)))) ++ (l))), .int .i64 (od t2 (((([] : List Nat)) ++ ((opB (W) (H) (R) (B)))) ++ (l))), .int .i64 (od t3 (((([] : List Nat)) ++ ((opB (W) (H) (R) (B)))) ++ (l)))]) rfl rfl (y_ext rfl rfl rfl ⟨rfl, rfl⟩) ?_
          refine wl_v (.int .i64 (odE (((([] : List Nat)) ++ ((opB (W) (H) (R) (B)))) ++ (l)))) rfl rfl (y_ext rfl rfl rfl ⟨rfl, rfl⟩) ?_
          refine wl_alloc_stc (n := 4) (vs := [.int .i64 (0), .int .i64 (0), .int .i64 (0), .int .i64 (0)]) rfl rfl rfl (by kernel_rfl) fun p882 w883 B885 g886 k884 => ?_
          have gr887 : Grew w0 noB (onB p882) := Grew.new K881 g886
          have ap888 : Apart (onB p882) (T_b) := Apart.new g886 (B869).live
          have ap889 : Apart (onB p882) (onB p1) := Apart.new g886 (onB_live (B870).lt)
          have ap890 : Apart (onB p882) (onB p10) := Apart.new g886 (onB_live (B871).lt)
          have ap891 : Apart (onB p882) (onB p21) := Apart.new g886 (onB_live (B872).lt)
          have ap892 : Apart (onB p882) (onB p34) := Apart.new g886 (onB_live (B873).lt)
          have ap893 : Apart (onB p882) (T95) := Apart.new g886 (B874).live
          have ap894 : Apart (onB p882) (T125) := Apart.new g886 (B875).live
          have ap895 : Apart (onB p882) (T159) := Apart.new g886 (B876).live
          have ap896 : Apart (onB p882) (T197) := Apart.new g886 (B877).live
          have ap897 : Apart (onB p882) (T239) := Apart.new g886 (B878).live
          have ap898 : Apart (onB p882) (onB p262) := Apart.new g886 (onB_live (B879).lt)
          have ap899 : Apart (onB p882) (T842) := Apart.new g886 (B880).live
          have B900 := B869.all k884 Apart.none
          have B901 := B870.all k884 id
          have B902 := B871.all k884 id
          have B903 := B872.all k884 id
          have B904 := B873.all k884 id
          have B905 := B874.all k884 Apart.none
          have B906 := B875.all k884 Apart.none
          have B907 := B876.all k884 Apart.none
          have B908 := B877.all k884 Apart.none
          have B909 := B878.all k884 Apart.none
          have B910 := B879.all k884 id
          have B911 := B880.all k884 Apart.none
          have K912 := K881.trans k884 (fun _ _ x => x.elim)
          refine wl_store_stc (us := [.int .i64 (od t0 (((([] : List Nat)) ++ ((opB (W) (H) (R) (B)))) ++ (l))), .int .i64 (od t1 (((([] : List Nat)) ++ ((opB (W) (H) (R) (B)))) ++ (l))), .int .i64 (od t2 (((([] : List Nat)) ++ ((opB (W) (H) (R) (B)))) ++ (l))), .int .i64 (od t3 (((([] : List Nat)) ++ ((opB (W) (H) (R) (B)))) ++ (l)))]) stcT_seq rfl rfl rfl rfl rfl B885 rfl (oneI rfl (oneI rfl (oneI rfl (oneI rfl oneN)))) fun w913 B914 k915 => ?_
          have B916 := B900.all k915 (fun i h x => (((ap888).symm) i h x))
          have B917 := B901.all k915 (fun x => (((ap889).symm) p1 rfl x))
          have B918 := B902.all k915 (fun x => (((ap890).symm) p10 rfl x))
          have B919 := B903.all k915 (fun x => (((ap891).symm) p21 rfl x))
          have B920 := B904.all k915 (fun x => (((ap892).symm) p34 rfl x))
          have B921 := B905.all k915 (fun i h x => (((ap893).symm) i h x))
          have B922 := B906.all k915 (fun i h x => (((ap894).symm) i h x))
          have B923 := B907.all k915 (fun i h x => (((ap895).symm) i h x))
          have B924 := B908.all k915 (fun i h x => (((ap896).symm) i h x))
          have B925 := B909.all k915 (fun i h x => (((ap897).symm) i h x))
          have B926 := B910.all k915 (fun x => (((ap898).symm) p262 rfl x))
          have B927 := B911.all k915 (fun i h x => (((ap899).symm) i h x))
          have K928 := K912.trans k915 (Grew.ok (S := fun _ => False) gr887 noB_le)
          refine wl_v (.int .i64 (odE (((([] : List Nat)) ++ ((opB (W) (H) (R) (B)))) ++ (l)))) rfl rfl (y_asg rfl rfl ⟨rfl, rfl⟩) ?_
          refine wl_nil fun F929 hF930 => ?_
          have s931 : F929 4 = v := (hF930 4).trans s769
          have s932 : F929 134 = undef := (hF930 134).trans s770
          have s933 : F929 13 = .bool true := (hF930 13).trans s771
          have s934 : F929 19 = .int .i64 (seqE (W) (H) (R) (B)) := (hF930 19).trans s773
          have s935 : F929 24 = .int .i64 (rdE ((((wrB (K) (Q) (D) (F) ([]))).drop (0)).take (((min (c % 10) (wrB K Q D F []).length)) - (0)))) := (hF930 24).trans s774
          have s936 : F929 25 = .bool true := (hF930 25).trans s775
          have s937 : F929 26 = .bool true := (hF930 26).trans s776
          have s938 : F929 28 = .int .i64 (odE (((([] : List Nat)) ++ ((opB (W) (H) (R) (B)))) ++ (l))) := (hF930 28).trans rfl
          clear hF930
          refine then_normal ?_
          refine wq_seq ?_
          by_cases d939 : ((((l).length : Nat) : Int)) = (0)
          · skip
            refine wq_region ?_
            refine wl_v (.bool true) rfl rfl (y_mov rfl s933 ⟨rfl, rfl⟩) ?_
            refine wl_v (.bool true) rfl rfl (y_mov rfl rfl ⟨rfl, rfl⟩) ?_
            refine wl_vw (.bool true) 1 true 111 rfl rfl rfl rfl rfl (y_mov rfl s936 ⟨rfl, rfl⟩) ?_
            refine wl_v (.bool true) rfl rfl (y_pickT rfl rfl rfl ⟨rfl, rfl⟩) ?_
            refine wl_v (.bool true) rfl rfl (y_mov rfl rfl ⟨rfl, rfl⟩) ?_
            refine wl_vw (.bool true) 4 true 114 rfl rfl rfl rfl rfl (y_mov rfl s937 ⟨rfl, rfl⟩) ?_
            refine wl_v (.bool true) rfl rfl (y_pickT rfl rfl rfl ⟨rfl, rfl⟩) ?_
            refine wl_v (.bool true) rfl rfl (y_mov rfl rfl ⟨rfl, rfl⟩) ?_
            refine wl_vw (.int .i64 (rdE ((((wrB (K) (Q) (D) (F) ([]))).drop (0)).take (((min (c % 10) (wrB K Q D F []).length)) - (0))))) 7 true 117 rfl rfl rfl rfl rfl (y_mov rfl s935 ⟨rfl, rfl⟩) ?_
            refine wl_vw (.bool true) 7 true 117 rfl rfl rfl rfl rfl (y_eqlI rfl rfl rfl (decide_eq_true (rd_short (by simp; omega))) ⟨rfl, rfl⟩) ?_
            refine wl_v (.bool true) rfl rfl (y_pickT rfl rfl rfl ⟨rfl, rfl⟩) ?_
            refine wl_v (.bool true) rfl rfl (y_mov rfl rfl ⟨rfl, rfl⟩) ?_
            refine wl_vw (v) 11 true 121 rfl rfl rfl rfl rfl (y_mov rfl s931 ⟨rfl, rfl⟩) ?_
            refine wl_vw (.int .i64 ((((l).length : Nat) : Int))) 11 true 121 rfl rfl rfl rfl rfl (y_lenV rfl rfl rfl B916 ⟨rfl, rfl⟩) ?_
            refine wl_vw (.bool true) 11 true 121 rfl rfl rfl rfl rfl (y_eqlI rfl rfl rfl (decide_eq_true d939) ⟨rfl, rfl⟩) ?_
            refine wl_vw (.bool true) 11 true 121 rfl rfl rfl rfl rfl (y_mov rfl rfl ⟨rfl, rfl⟩) ?_
            refine wl_unless 15 false 125 rfl rfl rfl (Or.inl rfl) rfl ?_
            refine wl_unless 15 false 125 rfl rfl rfl (Or.inl rfl) rfl ?_
            refine wl_vw (.bool true) 11 true 121 rfl rfl rfl rfl rfl (y_pickT rfl rfl rfl ⟨rfl, rfl⟩) ?_
            refine wl_vw (.bool true) 11 true 121 rfl rfl rfl rfl rfl (y_mov rfl rfl ⟨rfl, rfl⟩) ?_
            refine wl_unless 19 false 129 rfl rfl rfl (Or.inl rfl) rfl ?_
            refine wl_unless 19 false 129 rfl rfl rfl (Or.inl rfl) rfl ?_
            refine wl_vw (.bool true) 11 true 121 rfl rfl rfl rfl rfl (y_pickT rfl rfl rfl ⟨rfl, rfl⟩) ?_
            refine wl_v (.bool true) rfl rfl (y_pickT rfl rfl rfl ⟨rfl, rfl⟩) ?_
            refine wl_v (.bool true) rfl rfl (y_asg rfl rfl ⟨rfl, rfl⟩) ?_
            refine wl_nil fun F940 hF941 => ?_
            have s942 : F940 134 = undef := (hF941 134).trans s932
            have s943 : F940 12 = .bool true := (hF941 12).trans rfl
            clear hF941
            refine then_normal ?_
            refine wq_ret ?_
            exact end_tmp (v := .bool true) s942 rfl rfl s943 ⟨rfl, K928⟩
          · skip
            refine wq_region ?_
            refine wl_v (.bool true) rfl rfl (y_mov rfl s933 ⟨rfl, rfl⟩) ?_
            refine wl_v (.bool true) rfl rfl (y_mov rfl rfl ⟨rfl, rfl⟩) ?_
            refine wl_vw (.bool true) 1 true 111 rfl rfl rfl rfl rfl (y_mov rfl s936 ⟨rfl, rfl⟩) ?_
            refine wl_v (.bool true) rfl rfl (y_pickT rfl rfl rfl ⟨rfl, rfl⟩) ?_
            refine wl_v (.bool true) rfl rfl (y_mov rfl rfl ⟨rfl, rfl⟩) ?_
            refine wl_vw (.bool true) 4 true 114 rfl rfl rfl rfl rfl (y_mov rfl s937 ⟨rfl, rfl⟩) ?_
            refine wl_v (.bool true) rfl rfl (y_pickT rfl rfl rfl ⟨rfl, rfl⟩) ?_
            refine wl_v (.bool true) rfl rfl (y_mov rfl rfl ⟨rfl, rfl⟩) ?_
            refine wl_vw (.int .i64 (rdE ((((wrB (K) (Q) (D) (F) ([]))).drop (0)).take (((min (c % 10) (wrB K Q D F []).length)) - (0))))) 7 true 117 rfl rfl rfl rfl rfl (y_mov rfl s935 ⟨rfl, rfl⟩) ?_
            refine wl_vw (.bool true) 7 true 117 rfl rfl rfl rfl rfl (y_eqlI rfl rfl rfl (decide_eq_true (rd_short (by simp; omega))) ⟨rfl, rfl⟩) ?_
            refine wl_v (.bool true) rfl rfl (y_pickT rfl rfl rfl ⟨rfl, rfl⟩) ?_
            refine wl_v (.bool true) rfl rfl (y_mov rfl rfl ⟨rfl, rfl⟩) ?_
            refine wl_vw (v) 11 true 121 rfl rfl rfl rfl rfl (y_mov rfl s931 ⟨rfl, rfl⟩) ?_
            refine wl_vw (.int .i64 ((((l).length : Nat) : Int))) 11 true 121 rfl rfl rfl rfl rfl (y_lenV rfl rfl rfl B916 ⟨rfl, rfl⟩) ?_
            refine wl_vw (.bool false) 11 true 121 rfl rfl rfl rfl rfl (y_eqlI rfl rfl rfl (decide_eq_false d939) ⟨rfl, rfl⟩) ?_
            refine wl_vw (.bool false) 11 true 121 rfl rfl rfl rfl rfl (y_mov rfl rfl ⟨rfl, rfl⟩) ?_
            refine wl_vw (.int .i64 (seqE (W) (H) (R) (B))) 15 false 125 rfl rfl rfl rfl rfl (y_mov rfl s934 ⟨rfl, rfl⟩) ?_
            refine wl_vw (.bool false) 15 false 125 rfl rfl rfl rfl rfl (y_neqI rfl rfl rfl (decide_eq_false d352) ⟨rfl, rfl⟩) ?_
            refine wl_vw (.bool false) 11 true 121 rfl rfl rfl rfl rfl (y_pickF rfl rfl rfl ⟨rfl, rfl⟩) ?_
            refine wl_vw (.bool false) 11 true 121 rfl rfl rfl rfl rfl (y_mov rfl rfl ⟨rfl, rfl⟩) ?_
            refine wl_vw (.int .i64 (odE (((([] : List Nat)) ++ ((opB (W) (H) (R) (B)))) ++ (l)))) 19 false 129 rfl rfl rfl rfl rfl (y_mov rfl s938 ⟨rfl, rfl⟩) ?_
            refine wl_vw (.bool true) 19 false 129 rfl rfl rfl rfl rfl (y_eqlI rfl rfl rfl (decide_eq_true (od_long (by have h := opB_len (seqE_iff.1 (show seqE W H R B = 0 by first | assumption | (apply Decidable.byContradiction; assumption))); rw [List.nil_append, List.length_append]; omega))) ⟨rfl, rfl⟩) ?_
            refine wl_vw (.bool true) 11 true 121 rfl rfl rfl rfl rfl (y_pickF rfl rfl rfl ⟨rfl, rfl⟩) ?_
            refine wl_v (.bool true) rfl rfl (y_pickT rfl rfl rfl ⟨rfl, rfl⟩) ?_
            refine wl_v (.bool true) rfl rfl (y_asg rfl rfl ⟨rfl, rfl⟩) ?_
            refine wl_nil fun F944 hF945 => ?_
            have s946 : F944 134 = undef := (hF945 134).trans s932
            have s947 : F944 12 = .bool true := (hF945 12).trans rfl
            clear hF945
            refine then_normal ?_
            refine wq_ret ?_
            exact end_tmp (v := .bool true) s946 rfl rfl s947 ⟨rfl, K928⟩
    · skip
      by_cases d948 : (headE (K2) (Q2) (D2) (F2)) ≠ (0)
      · skip
        refine wq_said [some 67, some 68, some 69, some 70, some 71, some 72, some 73, some 74, some 75, some 76, some 77, some 78, some 79, some 80, some 81, some 82, some 83, some 25] [Pd.eq (.int .i64 (headE (K) (Q) (D) (F))), Pd.eq (.bool false), Pd.eq (.bool false), Pd.eq (.int .i64 (headE (K2) (Q2) (D2) (F2))), Pd.eq (.bool true), Pd.eq (.bool true), Pd.eq (.bool true), Pd.eq undef, Pd.eq undef, Pd.eq undef, Pd.eq undef, Pd.eq undef, Pd.eq undef, Pd.eq undef, Pd.eq undef, Pd.eq undef, Pd.eq (.bool true), Pd.eq (.bool true)] (by kernel_rfl) (by kernel_rfl) ?_ ?_
        · refine stepsF_cons ?_ ?_
          · refine StepF.one rfl fun F_ w_ hR hout hD => ?_
            exact (y_mov rfl ((hout 15 rfl (by decide)).trans s313) ⟨rfl, Kept.refl _ _⟩)
          refine stepsF_cons ?_ ?_
          · refine StepF.one rfl fun F_ w_ hR hout hD => ?_
            have g67 : F_ 67 = .int .i64 (headE (K) (Q) (D) (F)) := (hD.get 0 rfl rfl rfl)
            exact (y_neqI rfl g67 rfl (decide_eq_false d321) ⟨rfl, Kept.refl _ _⟩)
          refine stepsF_cons ?_ ?_
          · refine StepF.one rfl fun F_ w_ hR hout hD => ?_
            have g68 : F_ 68 = .bool false := (hD.get 0 rfl rfl rfl)
            exact (y_mov rfl g68 ⟨rfl, Kept.refl _ _⟩)
          refine stepsF_cons ?_ ?_
          · refine StepF.when 2 false 69 rfl rfl fun F_ w_ hR hout hD => ?_
            have g69 : F_ 69 = .bool false := (hD.get 0 rfl rfl rfl)
            exact ⟨g69, (y_mov rfl ((hout 17 rfl (by decide)).trans s315) ⟨rfl, Kept.refl _ _⟩)⟩
          refine stepsF_cons ?_ ?_
          · refine StepF.when 2 false 69 rfl rfl fun F_ w_ hR hout hD => ?_
            have g69 : F_ 69 = .bool false := (hD.get 1 rfl rfl rfl)
            have g70 : F_ 70 = .int .i64 (headE (K2) (Q2) (D2) (F2)) := (hD.get 0 rfl rfl rfl)
            exact ⟨g69, (y_neqI rfl g70 rfl (decide_eq_true d948) ⟨rfl, Kept.refl _ _⟩)⟩
          refine stepsF_cons ?_ ?_
          · refine StepF.one rfl fun F_ w_ hR hout hD => ?_
            have g69 : F_ 69 = .bool false := (hD.get 0 rfl rfl rfl)
            have g71 : F_ 71 = .bool true := (hD.get 1 rfl rfl rfl)
            exact (y_pickF rfl g69 g71 ⟨rfl, Kept.refl _ _⟩)
          refine stepsF_cons ?_ ?_
          · refine StepF.one rfl fun F_ w_ hR hout hD => ?_
            have g72 : F_ 72 = .bool true := (hD.get 0 rfl rfl rfl)
            exact (y_mov rfl g72 ⟨rfl, Kept.refl _ _⟩)
          refine stepsF_cons ?_ ?_
          · refine StepF.unless 6 false 73 rfl rfl fun F_ w_ hR hout hD => ?_
            have g73 : F_ 73 = .bool true := (hD.get 0 rfl rfl rfl)
            exact ⟨Or.inl g73, rfl⟩
          refine stepsF_cons ?_ ?_
          · refine StepF.unless 6 false 73 rfl rfl fun F_ w_ hR hout hD => ?_
            have g73 : F_ 73 = .bool true := (hD.get 1 rfl rfl rfl)
            exact ⟨Or.inl g73, rfl⟩
          refine stepsF_cons ?_ ?_
          · refine StepF.unless 6 false 73 rfl rfl fun F_ w_ hR hout hD => ?_
            have g73 : F_ 73 = .bool true := (hD.get 0 rfl rfl rfl)
            exact ⟨Or.inl g73, rfl⟩
          refine stepsF_cons ?_ ?_
          · refine StepF.unless 6 false 73 rfl rfl fun F_ w_ hR hout hD => ?_
            have g73 : F_ 73 = .bool true := (hD.get 1 rfl rfl rfl)
            exact ⟨Or.inl g73, rfl⟩
          refine stepsF_cons ?_ ?_
          · refine StepF.unless 6 false 73 rfl rfl fun F_ w_ hR hout hD => ?_
            have g73 : F_ 73 = .bool true := (hD.get 2 rfl rfl rfl)
            exact ⟨Or.inl g73, rfl⟩
          refine stepsF_cons ?_ ?_
          · refine StepF.unless 6 false 73 rfl rfl fun F_ w_ hR hout hD => ?_
            have g73 : F_ 73 = .bool true := (hD.get 0 rfl rfl rfl)
            exact ⟨Or.inl g73, rfl⟩
          refine stepsF_cons ?_ ?_
          · refine StepF.unless 6 false 73 rfl rfl fun F_ w_ hR hout hD => ?_
            have g73 : F_ 73 = .bool true := (hD.get 0 rfl rfl rfl)
            exact ⟨Or.inl g73, rfl⟩
          refine stepsF_cons ?_ ?_
          · refine StepF.unless 6 false 73 rfl rfl fun F_ w_ hR hout hD => ?_
            have g73 : F_ 73 = .bool true := (hD.get 2 rfl rfl rfl)
            exact ⟨Or.inl g73, rfl⟩
          refine stepsF_cons ?_ ?_
          · refine StepF.unless 6 false 73 rfl rfl fun F_ w_ hR hout hD => ?_
            have g73 : F_ 73 = .bool true := (hD.get 2 rfl rfl rfl)
            exact ⟨Or.inl g73, rfl⟩
          refine stepsF_cons ?_ ?_
          · refine StepF.one rfl fun F_ w_ hR hout hD => ?_
            have g73 : F_ 73 = .bool true := (hD.get 0 rfl rfl rfl)
            exact (y_pickT rfl g73 rfl ⟨rfl, Kept.refl _ _⟩)
          refine stepsF_cons ?_ ?_
          · refine StepF.one rfl fun F_ w_ hR hout hD => ?_
            have g83 : F_ 83 = .bool true := (hD.get 0 rfl rfl rfl)
            exact (y_asg rfl g83 ⟨rfl, Kept.refl _ _⟩)
          exact stepsF_nil
        intro v949 F950 w951 k952 G953 hF954
        have B956 := B292.all k952 Apart.none
        have B957 := B293.all k952 id
        have B958 := B294.all k952 id
        have B959 := B295.all k952 id
        have B960 := B296.all k952 id
        have B961 := B297.all k952 Apart.none
        have B962 := B298.all k952 Apart.none
        have B963 := B299.all k952 Apart.none
        have B964 := B300.all k952 Apart.none
        have B965 := B301.all k952 Apart.none
        have B966 := B290.all k952 id
        have K967 := K302.trans k952 (fun _ _ x => x.elim)
        have s968 : F950 4 = v := (hF954 4).trans s305
        have s969 : F950 134 = undef := (hF954 134).trans s306
        have s970 : F950 8 = .pointer (some ⟨p21, 0, none⟩) := (hF954 8).trans s309
        have s971 : F950 9 = .pointer (some ⟨p34, 0, none⟩) := (hF954 9).trans s310
        have s972 : F950 13 = .bool true := (hF954 13).trans s311
        have s973 : F950 18 = v156 := (hF954 18).trans s316
        have s974 : F950 19 = .int .i64 (seqE (W) (H) (R) (B)) := (hF954 19).trans s317
        have s975 : F950 20 = v194 := (hF954 20).trans s318
        have s976 : F950 21 = .int .i64 (seqE (W2) (H2) (R2) (B2)) := (hF954 21).trans s319
        have s977 : F950 24 = .int .i64 (rdE ((((wrB (K) (Q) (D) (F) ([]))).drop (0)).take (((min (c % 10) (wrB K Q D F []).length)) - (0)))) := (hF954 24).trans s320
        have s978 : F950 25 = .bool true := (hF954 25).trans (G953 17 (by decide))
        clear G953 hF954
        refine then_normal ?_
        refine wq_seq ?_
        by_cases d979 : (seqE (W) (H) (R) (B)) ≠ (0)
        · skip
          refine wq_said [some 84, some 85, some 86, some 87, some 88, some 89, some 90, some 91, some 92, some 93, some 94, some 95, some 96, some 97, some 98, some 99, some 100, some 26] [Pd.eq (.int .i64 (seqE (W) (H) (R) (B))), Pd.eq (.bool true), Pd.eq (.bool true), Pd.eq undef, Pd.eq undef, Pd.eq (.bool true), Pd.eq (.bool true), Pd.eq undef, Pd.eq undef, Pd.eq undef, Pd.eq undef, Pd.eq undef, Pd.eq undef, Pd.eq undef, Pd.eq undef, Pd.eq undef, Pd.eq (.bool true), Pd.eq (.bool true)] (by kernel_rfl) (by kernel_rfl) ?_ ?_
          · refine stepsF_cons ?_ ?_
            · refine StepF.one rfl fun F_ w_ hR hout hD => ?_
              exact (y_mov rfl ((hout 19 rfl (by decide)).trans s974) ⟨rfl, Kept.refl _ _⟩)
            refine stepsF_cons ?_ ?_
            · refine StepF.one rfl fun F_ w_ hR hout hD => ?_
              have g84 : F_ 84 = .int .i64 (seqE (W) (H) (R) (B)) := (hD.get 0 rfl rfl rfl)
              exact (y_neqI rfl g84 rfl (decide_eq_true d979) ⟨rfl, Kept.refl _ _⟩)
            refine stepsF_cons ?_ ?_
            · refine StepF.one rfl fun F_ w_ hR hout hD => ?_
              have g85 : F_ 85 = .bool true := (hD.get 0 rfl rfl rfl)
              exact (y_mov rfl g85 ⟨rfl, Kept.refl _ _⟩)
            refine stepsF_cons ?_ ?_
            · refine StepF.unless 2 false 86 rfl rfl fun F_ w_ hR hout hD => ?_
              have g86 : F_ 86 = .bool true := (hD.get 0 rfl rfl rfl)
              exact ⟨Or.inl g86, rfl⟩
            refine stepsF_cons ?_ ?_
            · refine StepF.unless 2 false 86 rfl rfl fun F_ w_ hR hout hD => ?_
              have g86 : F_ 86 = .bool true := (hD.get 1 rfl rfl rfl)
              exact ⟨Or.inl g86, rfl⟩
            refine stepsF_cons ?_ ?_
            · refine StepF.one rfl fun F_ w_ hR hout hD => ?_
              have g86 : F_ 86 = .bool true := (hD.get 0 rfl rfl rfl)
              exact (y_pickT rfl g86 rfl ⟨rfl, Kept.refl _ _⟩)
            refine stepsF_cons ?_ ?_
            · refine StepF.one rfl fun F_ w_ hR hout hD => ?_
              have g89 : F_ 89 = .bool true := (hD.get 0 rfl rfl rfl)
              exact (y_mov rfl g89 ⟨rfl, Kept.refl _ _⟩)
            refine stepsF_cons ?_ ?_
            · refine StepF.unless 6 false 90 rfl rfl fun F_ w_ hR hout hD => ?_
              have g90 : F_ 90 = .bool true := (hD.get 0 rfl rfl rfl)
              exact ⟨Or.inl g90, rfl⟩
            refine stepsF_cons ?_ ?_
            · refine StepF.unless 6 false 90 rfl rfl fun F_ w_ hR hout hD => ?_
              have g90 : F_ 90 = .bool true := (hD.get 1 rfl rfl rfl)
              exact ⟨Or.inl g90, rfl⟩
            refine stepsF_cons ?_ ?_
            · refine StepF.unless 6 false 90 rfl rfl fun F_ w_ hR hout hD => ?_
              have g90 : F_ 90 = .bool true := (hD.get 0 rfl rfl rfl)
              exact ⟨Or.inl g90, rfl⟩
            refine stepsF_cons ?_ ?_
            · refine StepF.unless 6 false 90 rfl rfl fun F_ w_ hR hout hD => ?_
              have g90 : F_ 90 = .bool true := (hD.get 1 rfl rfl rfl)
              exact ⟨Or.inl g90, rfl⟩
            refine stepsF_cons ?_ ?_
            · refine StepF.unless 6 false 90 rfl rfl fun F_ w_ hR hout hD => ?_
              have g90 : F_ 90 = .bool true := (hD.get 2 rfl rfl rfl)
              exact ⟨Or.inl g90, rfl⟩
            refine stepsF_cons ?_ ?_
            · refine StepF.unless 6 false 90 rfl rfl fun F_ w_ hR hout hD => ?_
              have g90 : F_ 90 = .bool true := (hD.get 0 rfl rfl rfl)
              exact ⟨Or.inl g90, rfl⟩
            refine stepsF_cons ?_ ?_
            · refine StepF.unless 6 false 90 rfl rfl fun F_ w_ hR hout hD => ?_
              have g90 : F_ 90 = .bool true := (hD.get 0 rfl rfl rfl)
              exact ⟨Or.inl g90, rfl⟩
            refine stepsF_cons ?_ ?_
            · refine StepF.unless 6 false 90 rfl rfl fun F_ w_ hR hout hD => ?_
              have g90 : F_ 90 = .bool true := (hD.get 2 rfl rfl rfl)
              exact ⟨Or.inl g90, rfl⟩
            refine stepsF_cons ?_ ?_
            · refine StepF.unless 6 false 90 rfl rfl fun F_ w_ hR hout hD => ?_
              have g90 : F_ 90 = .bool true := (hD.get 2 rfl rfl rfl)
              exact ⟨Or.inl g90, rfl⟩
            refine stepsF_cons ?_ ?_
            · refine StepF.one rfl fun F_ w_ hR hout hD => ?_
              have g90 : F_ 90 = .bool true := (hD.get 0 rfl rfl rfl)
              exact (y_pickT rfl g90 rfl ⟨rfl, Kept.refl _ _⟩)
            refine stepsF_cons ?_ ?_
            · refine StepF.one rfl fun F_ w_ hR hout hD => ?_
              have g100 : F_ 100 = .bool true := (hD.get 0 rfl rfl rfl)
              exact (y_asg rfl g100 ⟨rfl, Kept.refl _ _⟩)
            exact stepsF_nil
          intro v980 F981 w982 k983 G984 hF985
          have B987 := B956.all k983 Apart.none
          have B988 := B957.all k983 id
          have B989 := B958.all k983 id
          have B990 := B959.all k983 id
          have B991 := B960.all k983 id
          have B992 := B961.all k983 Apart.none
          have B993 := B962.all k983 Apart.none
          have B994 := B963.all k983 Apart.none
          have B995 := B964.all k983 Apart.none
          have B996 := B965.all k983 Apart.none
          have B997 := B966.all k983 id
          have K998 := K967.trans k983 (fun _ _ x => x.elim)
          have s999 : F981 4 = v := (hF985 4).trans s968
          have s1000 : F981 134 = undef := (hF985 134).trans s969
          have s1001 : F981 13 = .bool true := (hF985 13).trans s972
          have s1002 : F981 18 = v156 := (hF985 18).trans s973
          have s1003 : F981 19 = .int .i64 (seqE (W) (H) (R) (B)) := (hF985 19).trans s974
          have s1004 : F981 24 = .int .i64 (rdE ((((wrB (K) (Q) (D) (F) ([]))).drop (0)).take (((min (c % 10) (wrB K Q D F []).length)) - (0)))) := (hF985 24).trans s977
          have s1005 : F981 25 = .bool true := (hF985 25).trans s978
          have s1006 : F981 26 = .bool true := (hF985 26).trans (G984 17 (by decide))
          clear G984 hF985
          refine then_normal ?_
          refine wq_seq ?_
          refine wq_region ?_
          refine wl_builtB0 rfl rfl rfl fun v1007 w1008 T1012 B1010 g1011 k1009 => ?_
          have gr1013 : Grew w0 noB (T1012) := Grew.new K998 g1011
          have ap1014 : Apart (T1012) (T_b) := Apart.new g1011 (B987).live
          have ap1015 : Apart (T1012) (onB p1) := Apart.new g1011 (onB_live (B988).lt)
          have ap1016 : Apart (T1012) (onB p10) := Apart.new g1011 (onB_live (B989).lt)
          have ap1017 : Apart (T1012) (onB p21) := Apart.new g1011 (onB_live (B990).lt)
          have ap1018 : Apart (T1012) (onB p34) := Apart.new g1011 (onB_live (B991).lt)
          have ap1019 : Apart (T1012) (T95) := Apart.new g1011 (B992).live
          have ap1020 : Apart (T1012) (T125) := Apart.new g1011 (B993).live
          have ap1021 : Apart (T1012) (T159) := Apart.new g1011 (B994).live
          have ap1022 : Apart (T1012) (T197) := Apart.new g1011 (B995).live
          have ap1023 : Apart (T1012) (T239) := Apart.new g1011 (B996).live
          have ap1024 : Apart (T1012) (onB p262) := Apart.new g1011 (onB_live (B997).lt)
          have B1025 := B987.all k1009 Apart.none
          have B1026 := B988.all k1009 id
          have B1027 := B989.all k1009 id
          have B1028 := B990.all k1009 id
          have B1029 := B991.all k1009 id
          have B1030 := B992.all k1009 Apart.none
          have B1031 := B993.all k1009 Apart.none
          have B1032 := B994.all k1009 Apart.none
          have B1033 := B995.all k1009 Apart.none
          have B1034 := B996.all k1009 Apart.none
          have B1035 := B997.all k1009 id
          have K1036 := K998.trans k1009 (fun _ _ x => x.elim)
          refine wl_v (v156) rfl rfl (y_mov rfl s1002 ⟨rfl, rfl⟩) ?_
          refine wl_appendB rfl rfl rfl rfl rfl rfl B1010 (B1032).byt (by first | omega | (simp; done) | (simp; omega)) fun v1037 w1038 T1042 B1040 g1041 k1039 => ?_
          have gr1043 := Grew.trans gr1013 K1036 g1041
          have ap1044 : Apart T1042 (T_b) := (ap1014).grew g1041 (B1025).live
          have ap1045 : Apart T1042 (onB p1) := (ap1015).grew g1041 (onB_live (B1026).lt)
          have ap1046 : Apart T1042 (onB p10) := (ap1016).grew g1041 (onB_live (B1027).lt)
          have ap1047 : Apart T1042 (onB p21) := (ap1017).grew g1041 (onB_live (B1028).lt)
          have ap1048 : Apart T1042 (onB p34) := (ap1018).grew g1041 (onB_live (B1029).lt)
          have ap1049 : Apart T1042 (T95) := (ap1019).grew g1041 (B1030).live
          have ap1050 : Apart T1042 (T125) := (ap1020).grew g1041 (B1031).live
          have ap1051 : Apart T1042 (T159) := (ap1021).grew g1041 (B1032).live
          have ap1052 : Apart T1042 (T197) := (ap1022).grew g1041 (B1033).live
          have ap1053 : Apart T1042 (T239) := (ap1023).grew g1041 (B1034).live
          have ap1054 : Apart T1042 (onB p262) := (ap1024).grew g1041 (onB_live (B1035).lt)
          have B1055 := B1025.all k1039 (fun i h x => (((ap1014).symm) i h x))
          have B1056 := B1026.all k1039 (fun x => (((ap1015).symm) p1 rfl x))
          have B1057 := B1027.all k1039 (fun x => (((ap1016).symm) p10 rfl x))
          have B1058 := B1028.all k1039 (fun x => (((ap1017).symm) p21 rfl x))
          have B1059 := B1029.all k1039 (fun x => (((ap1018).symm) p34 rfl x))
          have B1060 := B1030.all k1039 (fun i h x => (((ap1019).symm) i h x))
          have B1061 := B1031.all k1039 (fun i h x => (((ap1020).symm) i h x))
          have B1062 := B1032.all k1039 (fun i h x => (((ap1021).symm) i h x))
          have B1063 := B1033.all k1039 (fun i h x => (((ap1022).symm) i h x))
          have B1064 := B1034.all k1039 (fun i h x => (((ap1023).symm) i h x))
          have B1065 := B1035.all k1039 (fun x => (((ap1024).symm) p262 rfl x))
          have K1066 := K1036.trans k1039 (Grew.ok (S := fun _ => False) gr1013 noB_le)
          refine wl_v (v) rfl rfl (y_mov rfl s999 ⟨rfl, rfl⟩) ?_
          refine wl_appendB rfl rfl rfl rfl rfl rfl B1040 B1055 (by first | omega | (simp; done) | (simp; omega)) fun v1067 w1068 T1072 B1070 g1071 k1069 => ?_
          have gr1073 := Grew.trans gr1043 K1066 g1071
          have ap1074 : Apart T1072 (T_b) := (ap1044).grew g1071 (B1055).live
          have ap1075 : Apart T1072 (onB p1) := (ap1045).grew g1071 (onB_live (B1056).lt)
          have ap1076 : Apart T1072 (onB p10) := (ap1046).grew g1071 (onB_live (B1057).lt)
          have ap1077 : Apart T1072 (onB p21) := (ap1047).grew g1071 (onB_live (B1058).lt)
          have ap1078 : Apart T1072 (onB p34) := (ap1048).grew g1071 (onB_live (B1059).lt)
          have ap1079 : Apart T1072 (T95) := (ap1049).grew g1071 (B1060).live
          have ap1080 : Apart T1072 (T125) := (ap1050).grew g1071 (B1061).live
          have ap1081 : Apart T1072 (T159) := (ap1051).grew g1071 (B1062).live
          have ap1082 : Apart T1072 (T197) := (ap1052).grew g1071 (B1063).live
          have ap1083 : Apart T1072 (T239) := (ap1053).grew g1071 (B1064).live
          have ap1084 : Apart T1072 (onB p262) := (ap1054).grew g1071 (onB_live (B1065).lt)
          have B1085 := B1055.all k1069 (fun i h x => (((ap1044).symm) i h x))
          have B1086 := B1056.all k1069 (fun x => (((ap1045).symm) p1 rfl x))
          have B1087 := B1057.all k1069 (fun x => (((ap1046).symm) p10 rfl x))
          have B1088 := B1058.all k1069 (fun x => (((ap1047).symm) p21 rfl x))
          have B1089 := B1059.all k1069 (fun x => (((ap1048).symm) p34 rfl x))
          have B1090 := B1060.all k1069 (fun i h x => (((ap1049).symm) i h x))
          have B1091 := B1061.all k1069 (fun i h x => (((ap1050).symm) i h x))
          have B1092 := B1062.all k1069 (fun i h x => (((ap1051).symm) i h x))
          have B1093 := B1063.all k1069 (fun i h x => (((ap1052).symm) i h x))
          have B1094 := B1064.all k1069 (fun i h x => (((ap1053).symm) i h x))
          have B1095 := B1065.all k1069 (fun x => (((ap1054).symm) p262 rfl x))
          have K1096 := K1066.trans k1069 (Grew.ok (S := fun _ => False) gr1043 noB_le)
          refine wl_call (R := fun v_ w_ => v_ = .tuple #[.agg #[.int .i64 (od t0 (((([] : List Nat)) ++ ((opB (W) (H) (R) (B)))) ++ (l))), .int .i64 (od t1 (((([] : List Nat)) ++ ((opB (W) (H) (R) (B)))) ++ (l))), .int .i64 (od t2 (((([] : List Nat)) ++ ((opB (W) (H) (R) (B)))) ++ (l))), .int .i64 (od t3 (((([] : List Nat)) ++ ((opB (W) (H) (R) (B)))) ++ (l)))], .int .i64 (odE (((([] : List Nat)) ++ ((opB (W) (H) (R) (B)))) ++ (l)))] ∧ Kept (fun _ => False) w1068 w_) rfl rfl (y_cs rfl rfl rfl (fun _ _ => by kernel_rfl) (ev_func _) (vsC rfl vsN) (hd_opened (v1067) (((([] : List Nat)) ++ ((opB (W) (H) (R) (B)))) ++ (l)) (T1072) _  (B1070).byt ) (fun e_ w_ h_ => ⟨_, h_.1, rfl, h_.2⟩)) ?_
          rintro _ w1097 ⟨rfl, k1098⟩
          have B1099 := B1085.all k1098 Apart.none
          have B1100 := B1086.all k1098 id
          have B1101 := B1087.all k1098 id
          have B1102 := B1088.all k1098 id
          have B1103 := B1089.all k1098 id
          have B1104 := B1090.all k1098 Apart.none
          have B1105 := B1091.all k1098 Apart.none
          have B1106 := B1092.all k1098 Apart.none
          have B1107 := B1093.all k1098 Apart.none
          have B1108 := B1094.all k1098 Apart.none
          have B1109 := B1095.all k1098 id
          have B1110 := B1070.all k1098 Apart.none
          have K1111 := K1096.trans k1098 (fun _ _ x => x.elim)
          refine wl_v (.tuple #[.agg #[.int .i64 (od t0 (((([] : List Nat)) ++ ((opB (W) (H) (R) (B)))) ++ (l))), .int .i64 (od t1 (((([] : List Nat)) ++ ((opB (W) (H) (R) (B)))) ++ (l))), .int .i64 (od t2 (((([] : List Nat)) ++ ((opB (W) (H) (R) (B)))) ++ (l))), .int .i64 (od t3 (((([] : List Nat)) ++ ((opB (W) (H) (R) (B)))) ++ (l)))], .int .i64 (odE (((([] : List Nat)) ++ ((opB (W) (H) (R) (B)))) ++ (l)))]) rfl rfl (y_mov rfl rfl ⟨rfl, rfl⟩) ?_
          refine wl_v (.agg #[.int .i64 (od t0 (((([] : List Nat)) ++ ((opB (W) (H) (R) (B)))) ++ (l))), .int .i64 (od t1 (((([] : List Nat)) ++ ((opB (W) (H) (R) (B)))) ++ (l))), .int .i64 (od t2 (((([] : List Nat)) ++ ((opB (W) (H) (R) (B)))) ++ (l))), .int .i64 (od t3 (((([] : List Nat)) ++ ((opB (W) (H) (R) (B)))) ++ (l)))]) rfl rfl (y_ext rfl rfl rfl ⟨rfl, rfl⟩) ?_
          refine wl_v (.int .i64 (odE (((([] : List Nat)) ++ ((opB (W) (H) (R) (B)))) ++ (l)))) rfl rfl (y_ext rfl rfl rfl ⟨rfl, rfl⟩) ?_
          refine wl_alloc_stc (n := 4) (vs := [.int .i64 (0), .int .i64 (0), .int .i64 (0), .int .i64 (0)]) rfl rfl rfl (by kernel_rfl) fun p1112 w1113 B1115 g1116 k1114 => ?_
          have gr1117 : Grew w0 noB (onB p1112) := Grew.new K1111 g1116
          have ap1118 : Apart (onB p1112) (T_b) := Apart.new g1116 (B1099).live
          have ap1119 : Apart (onB p1112) (onB p1) := Apart.new g1116 (onB_live (B1100).lt)
          have ap1120 : Apart (onB p1112) (onB p10) := Apart.new g1116 (onB_live (B1101).lt)
          have ap1121 : Apart (onB p1112) (onB p21) := Apart.new g1116 (onB_live (B1102).lt)
          have ap1122 : Apart (onB p1112) (onB p34) := Apart.new g1116 (onB_live (B1103).lt)
          have ap1123 : Apart (onB p1112) (T95) := Apart.new g1116 (B1104).live
          have ap1124 : Apart (onB p1112) (T125) := Apart.new g1116 (B1105).live
          have ap1125 : Apart (onB p1112) (T159) := Apart.new g1116 (B1106).live
          have ap1126 : Apart (onB p1112) (T197) := Apart.new g1116 (B1107).live
          have ap1127 : Apart (onB p1112) (T239) := Apart.new g1116 (B1108).live
          have ap1128 : Apart (onB p1112) (onB p262) := Apart.new g1116 (onB_live (B1109).lt)
          have ap1129 : Apart (onB p1112) (T1072) := Apart.new g1116 (B1110).live
          have B1130 := B1099.all k1114 Apart.none
          have B1131 := B1100.all k1114 id
          have B1132 := B1101.all k1114 id
          have B1133 := B1102.all k1114 id
          have B1134 := B1103.all k1114 id
          have B1135 := B1104.all k1114 Apart.none
          have B1136 := B1105.all k1114 Apart.none
          have B1137 := B1106.all k1114 Apart.none
          have B1138 := B1107.all k1114 Apart.none
          have B1139 := B1108.all k1114 Apart.none
          have B1140 := B1109.all k1114 id
          have B1141 := B1110.all k1114 Apart.none
          have K1142 := K1111.trans k1114 (fun _ _ x => x.elim)
          refine wl_store_stc (us := [.int .i64 (od t0 (((([] : List Nat)) ++ ((opB (W) (H) (R) (B)))) ++ (l))), .int .i64 (od t1 (((([] : List Nat)) ++ ((opB (W) (H) (R) (B)))) ++ (l))), .int .i64 (od t2 (((([] : List Nat)) ++ ((opB (W) (H) (R) (B)))) ++ (l))), .int .i64 (od t3 (((([] : List Nat)) ++ ((opB (W) (H) (R) (B)))) ++ (l)))]) stcT_seq rfl rfl rfl rfl rfl B1115 rfl (oneI rfl (oneI rfl (oneI rfl (oneI rfl oneN)))) fun w1143 B1144 k1145 => ?_
          have B1146 := B1130.all k1145 (fun i h x => (((ap1118).symm) i h x))
          have B1147 := B1131.all k1145 (fun x => (((ap1119).symm) p1 rfl x))
          have B1148 := B1132.all k1145 (fun x => (((ap1120).symm) p10 rfl x))
          have B1149 := B1133.all k1145 (fun x => (((ap1121).symm) p21 rfl x))
          have B1150 := B1134.all k1145 (fun x => (((ap1122).symm) p34 rfl x))
          have B1151 := B1135.all k1145 (fun i h x => (((ap1123).symm) i h x))
          have B1152 := B1136.all k1145 (fun i h x => (((ap1124).symm) i h x))
          have B1153 := B1137.all k1145 (fun i h x => (((ap1125).symm) i h x))
          have B1154 := B1138.all k1145 (fun i h x => (((ap1126).symm) i h x))
          have B1155 := B1139.all k1145 (fun i h x => (((ap1127).symm) i h x))
          have B1156 := B1140.all k1145 (fun x => (((ap1128).symm) p262 rfl x))
          have B1157 := B1141.all k1145 (fun i h x => (((ap1129).symm) i h x))
          have K1158 := K1142.trans k1145 (Grew.ok (S := fun _ => False) gr1117 noB_le)
          refine wl_v (.int .i64 (odE (((([] : List Nat)) ++ ((opB (W) (H) (R) (B)))) ++ (l)))) rfl rfl (y_asg rfl rfl ⟨rfl, rfl⟩) ?_
          refine wl_nil fun F1159 hF1160 => ?_
          have s1161 : F1159 4 = v := (hF1160 4).trans s999
          have s1162 : F1159 134 = undef := (hF1160 134).trans s1000
          have s1163 : F1159 13 = .bool true := (hF1160 13).trans s1001
          have s1164 : F1159 19 = .int .i64 (seqE (W) (H) (R) (B)) := (hF1160 19).trans s1003
          have s1165 : F1159 24 = .int .i64 (rdE ((((wrB (K) (Q) (D) (F) ([]))).drop (0)).take (((min (c % 10) (wrB K Q D F []).length)) - (0)))) := (hF1160 24).trans s1004
          have s1166 : F1159 25 = .bool true := (hF1160 25).trans s1005
          have s1167 : F1159 26 = .bool true := (hF1160 26).trans s1006
          have s1168 : F1159 28 = .int .i64 (odE (((([] : List Nat)) ++ ((opB (W) (H) (R) (B)))) ++ (l))) := (hF1160 28).trans rfl
          clear hF1160
          refine then_normal ?_
          refine wq_seq ?_
          by_cases d1169 : ((((l).length : Nat) : Int)) = (0)
          · skip
            refine wq_region ?_
            refine wl_v (.bool true) rfl rfl (y_mov rfl s1163 ⟨rfl, rfl⟩) ?_
            refine wl_v (.bool true) rfl rfl (y_mov rfl rfl ⟨rfl, rfl⟩) ?_
            refine wl_vw (.bool true) 1 true 111 rfl rfl rfl rfl rfl (y_mov rfl s1166 ⟨rfl, rfl⟩) ?_
            refine wl_v (.bool true) rfl rfl (y_pickT rfl rfl rfl ⟨rfl, rfl⟩) ?_
            refine wl_v (.bool true) rfl rfl (y_mov rfl rfl ⟨rfl, rfl⟩) ?_
            refine wl_vw (.bool true) 4 true 114 rfl rfl rfl rfl rfl (y_mov rfl s1167 ⟨rfl, rfl⟩) ?_
            refine wl_v (.bool true) rfl rfl (y_pickT rfl rfl rfl ⟨rfl, rfl⟩) ?_
            refine wl_v (.bool true) rfl rfl (y_mov rfl rfl ⟨rfl, rfl⟩) ?_
            refine wl_vw (.int .i64 (rdE ((((wrB (K) (Q) (D) (F) ([]))).drop (0)).take (((min (c % 10) (wrB K Q D F []).length)) - (0))))) 7 true 117 rfl rfl rfl rfl rfl (y_mov rfl s1165 ⟨rfl, rfl⟩) ?_
            refine wl_vw (.bool true) 7 true 117 rfl rfl rfl rfl rfl (y_eqlI rfl rfl rfl (decide_eq_true (rd_short (by simp; omega))) ⟨rfl, rfl⟩) ?_
            refine wl_v (.bool true) rfl rfl (y_pickT rfl rfl rfl ⟨rfl, rfl⟩) ?_
            refine wl_v (.bool true) rfl rfl (y_mov rfl rfl ⟨rfl, rfl⟩) ?_
            refine wl_vw (v) 11 true 121 rfl rfl rfl rfl rfl (y_mov rfl s1161 ⟨rfl, rfl⟩) ?_
            refine wl_vw (.int .i64 ((((l).length : Nat) : Int))) 11 true 121 rfl rfl rfl rfl rfl (y_lenV rfl rfl rfl B1146 ⟨rfl, rfl⟩) ?_
            refine wl_vw (.bool true) 11 true 121 rfl rfl rfl rfl rfl (y_eqlI rfl rfl rfl (decide_eq_true d1169) ⟨rfl, rfl⟩) ?_
            refine wl_vw (.bool true) 11 true 121 rfl rfl rfl rfl rfl (y_mov rfl rfl ⟨rfl, rfl⟩) ?_
            refine wl_unless 15 false 125 rfl rfl rfl (Or.inl rfl) rfl ?_
            refine wl_unless 15 false 125 rfl rfl rfl (Or.inl rfl) rfl ?_
            refine wl_vw (.bool true) 11 true 121 rfl rfl rfl rfl rfl (y_pickT rfl rfl rfl ⟨rfl, rfl⟩) ?_
            refine wl_vw (.bool true) 11 true 121 rfl rfl rfl rfl rfl (y_mov rfl rfl ⟨rfl, rfl⟩) ?_
            refine wl_unless 19 false 129 rfl rfl rfl (Or.inl rfl) rfl ?_
            refine wl_unless 19 false 129 rfl rfl rfl (Or.inl rfl) rfl ?_
            refine wl_vw (.bool true) 11 true 121 rfl rfl rfl rfl rfl (y_pickT rfl rfl rfl ⟨rfl, rfl⟩) ?_
            refine wl_v (.bool true) rfl rfl (y_pickT rfl rfl rfl ⟨rfl, rfl⟩) ?_
            refine wl_v (.bool true) rfl rfl (y_asg rfl rfl ⟨rfl, rfl⟩) ?_
            refine wl_nil fun F1170 hF1171 => ?_
            have s1172 : F1170 134 = undef := (hF1171 134).trans s1162
            have s1173 : F1170 12 = .bool true := (hF1171 12).trans rfl
            clear hF1171
            refine then_normal ?_
            refine wq_ret ?_
            exact end_tmp (v := .bool true) s1172 rfl rfl s1173 ⟨rfl, K1158⟩
          · skip
            refine wq_region ?_
            refine wl_v (.bool true) rfl rfl (y_mov rfl s1163 ⟨rfl, rfl⟩) ?_
            refine wl_v (.bool true) rfl rfl (y_mov rfl rfl ⟨rfl, rfl⟩) ?_
            refine wl_vw (.bool true) 1 true 111 rfl rfl rfl rfl rfl (y_mov rfl s1166 ⟨rfl, rfl⟩) ?_
            refine wl_v (.bool true) rfl rfl (y_pickT rfl rfl rfl ⟨rfl, rfl⟩) ?_
            refine wl_v (.bool true) rfl rfl (y_mov rfl rfl ⟨rfl, rfl⟩) ?_
            refine wl_vw (.bool true) 4 true 114 rfl rfl rfl rfl rfl (y_mov rfl s1167 ⟨rfl, rfl⟩) ?_
            refine wl_v (.bool true) rfl rfl (y_pickT rfl rfl rfl ⟨rfl, rfl⟩) ?_
            refine wl_v (.bool true) rfl rfl (y_mov rfl rfl ⟨rfl, rfl⟩) ?_
            refine wl_vw (.int .i64 (rdE ((((wrB (K) (Q) (D) (F) ([]))).drop (0)).take (((min (c % 10) (wrB K Q D F []).length)) - (0))))) 7 true 117 rfl rfl rfl rfl rfl (y_mov rfl s1165 ⟨rfl, rfl⟩) ?_
            refine wl_vw (.bool true) 7 true 117 rfl rfl rfl rfl rfl (y_eqlI rfl rfl rfl (decide_eq_true (rd_short (by simp; omega))) ⟨rfl, rfl⟩) ?_
            refine wl_v (.bool true) rfl rfl (y_pickT rfl rfl rfl ⟨rfl, rfl⟩) ?_
            refine wl_v (.bool true) rfl rfl (y_mov rfl rfl ⟨rfl, rfl⟩) ?_
            refine wl_vw (v) 11 true 121 rfl rfl rfl rfl rfl (y_mov rfl s1161 ⟨rfl, rfl⟩) ?_
            refine wl_vw (.int .i64 ((((l).length : Nat) : Int))) 11 true 121 rfl rfl rfl rfl rfl (y_lenV rfl rfl rfl B1146 ⟨rfl, rfl⟩) ?_
            refine wl_vw (.bool false) 11 true 121 rfl rfl rfl rfl rfl (y_eqlI rfl rfl rfl (decide_eq_false d1169) ⟨rfl, rfl⟩) ?_
            refine wl_vw (.bool false) 11 true 121 rfl rfl rfl rfl rfl (y_mov rfl rfl ⟨rfl, rfl⟩) ?_
            refine wl_vw (.int .i64 (seqE (W) (H) (R) (B))) 15 false 125 rfl rfl rfl rfl rfl (y_mov rfl s1164 ⟨rfl, rfl⟩) ?_
            refine wl_vw (.bool true) 15 false 125 rfl rfl rfl rfl rfl (y_neqI rfl rfl rfl (decide_eq_true d979) ⟨rfl, rfl⟩) ?_
            refine wl_vw (.bool true) 11 true 121 rfl rfl rfl rfl rfl (y_pickF rfl rfl rfl ⟨rfl, rfl⟩) ?_
            refine wl_vw (.bool true) 11 true 121 rfl rfl rfl rfl rfl (y_mov rfl rfl ⟨rfl, rfl⟩) ?_
            refine wl_unless 19 false 129 rfl rfl rfl (Or.inl rfl) rfl ?_
            refine wl_unless 19 false 129 rfl rfl rfl (Or.inl rfl) rfl ?_
            refine wl_vw (.bool true) 11 true 121 rfl rfl rfl rfl rfl (y_pickT rfl rfl rfl ⟨rfl, rfl⟩) ?_
            refine wl_v (.bool true) rfl rfl (y_pickT rfl rfl rfl ⟨rfl, rfl⟩) ?_
            refine wl_v (.bool true) rfl rfl (y_asg rfl rfl ⟨rfl, rfl⟩) ?_
            refine wl_nil fun F1174 hF1175 => ?_
            have s1176 : F1174 134 = undef := (hF1175 134).trans s1162
            have s1177 : F1174 12 = .bool true := (hF1175 12).trans rfl
            clear hF1175
            refine then_normal ?_
            refine wq_ret ?_
            exact end_tmp (v := .bool true) s1176 rfl rfl s1177 ⟨rfl, K1158⟩
        · skip
          by_cases d1178 : (seqE (W2) (H2) (R2) (B2)) ≠ (0)
          · skip
            refine wq_said [some 84, some 85, some 86, some 87, some 88, some 89, some 90, some 91, some 92, some 93, some 94, some 95, some 96, some 97, some 98, some 99, some 100, some 26] [Pd.eq (.int .i64 (seqE (W) (H) (R) (B))), Pd.eq (.bool false), Pd.eq (.bool false), Pd.eq (.int .i64 (seqE (W2) (H2) (R2) (B2))), Pd.eq (.bool true), Pd.eq (.bool true), Pd.eq (.bool true), Pd.eq undef, Pd.eq undef, Pd.eq undef, Pd.eq undef, Pd.eq undef, Pd.eq undef, Pd.eq undef, Pd.eq undef, Pd.eq undef, Pd.eq (.bool true), Pd.eq (.bool true)] (by kernel_rfl) (by kernel_rfl) ?_ ?_
            · refine stepsF_cons ?_ ?_
              · refine StepF.one rfl fun F_ w_ hR hout hD => ?_
                exact (y_mov rfl ((hout 19 rfl (by decide)).trans s974) ⟨rfl, Kept.refl _ _⟩)
              refine stepsF_cons ?_ ?_
              · refine StepF.one rfl fun F_ w_ hR hout hD => ?_
                have g84 : F_ 84 = .int .i64 (seqE (W) (H) (R) (B)) := (hD.get 0 rfl rfl rfl)
                exact (y_neqI rfl g84 rfl (decide_eq_false d979) ⟨rfl, Kept.refl _ _⟩)
              refine stepsF_cons ?_ ?_
              · refine StepF.one rfl fun F_ w_ hR hout hD => ?_
                have g85 : F_ 85 = .bool false := (hD.get 0 rfl rfl rfl)
                exact (y_mov rfl g85 ⟨rfl, Kept.refl _ _⟩)
              refine stepsF_cons ?_ ?_
              · refine StepF.when 2 false 86 rfl rfl fun F_ w_ hR hout hD => ?_
                have g86 : F_ 86 = .bool false := (hD.get 0 rfl rfl rfl)
                exact ⟨g86, (y_mov rfl ((hout 21 rfl (by decide)).trans s976) ⟨rfl, Kept.refl _ _⟩)⟩
              refine stepsF_cons ?_ ?_
              · refine StepF.when 2 false 86 rfl rfl fun F_ w_ hR hout hD => ?_
                have g86 : F_ 86 = .bool false := (hD.get 1 rfl rfl rfl)
                have g87 : F_ 87 = .int .i64 (seqE (W2) (H2) (R2) (B2)) := (hD.get 0 rfl rfl rfl)
                exact ⟨g86, (y_neqI rfl g87 rfl (decide_eq_true d1178) ⟨rfl, Kept.refl _ _⟩)⟩
              refine stepsF_cons ?_ ?_
              · refine StepF.one rfl fun F_ w_ hR hout hD => ?_
                have g86 : F_ 86 = .bool false := (hD.get 0 rfl rfl rfl)
                have g88 : F_ 88 = .bool true := (hD.get 1 rfl rfl rfl)
                exact (y_pickF rfl g86 g88 ⟨rfl, Kept.refl _ _⟩)
              refine stepsF_cons ?_ ?_
              · refine StepF.one rfl fun F_ w_ hR hout hD => ?_
                have g89 : F_ 89 = .bool true := (hD.get 0 rfl rfl rfl)
                exact (y_mov rfl g89 ⟨rfl, Kept.refl _ _⟩)
              refine stepsF_cons ?_ ?_
              · refine StepF.unless 6 false 90 rfl rfl fun F_ w_ hR hout hD => ?_
                have g90 : F_ 90 = .bool true := (hD.get 0 rfl rfl rfl)
                exact ⟨Or.inl g90, rfl⟩
              refine stepsF_cons ?_ ?_
              · refine StepF.unless 6 false 90 rfl rfl fun F_ w_ hR hout hD => ?_
                have g90 : F_ 90 = .bool true := (hD.get 1 rfl rfl rfl)
                exact ⟨Or.inl g90, rfl⟩
              refine stepsF_cons ?_ ?_
              · refine StepF.unless 6 false 90 rfl rfl fun F_ w_ hR hout hD => ?_
                have g90 : F_ 90 = .bool true := (hD.get 0 rfl rfl rfl)
                exact ⟨Or.inl g90, rfl⟩
              refine stepsF_cons ?_ ?_
              · refine StepF.unless 6 false 90 rfl rfl fun F_ w_ hR hout hD => ?_
                have g90 : F_ 90 = .bool true := (hD.get 1 rfl rfl rfl)
                exact ⟨Or.inl g90, rfl⟩
              refine stepsF_cons ?_ ?_
              · refine StepF.unless 6 false 90 rfl rfl fun F_ w_ hR hout hD => ?_
                have g90 : F_ 90 = .bool true := (hD.get 2 rfl rfl rfl)
                exact ⟨Or.inl g90, rfl⟩
              refine stepsF_cons ?_ ?_
              · refine StepF.unless 6 false 90 rfl rfl fun F_ w_ hR hout hD => ?_
                have g90 : F_ 90 = .bool true := (hD.get 0 rfl rfl rfl)
                exact ⟨Or.inl g90, rfl⟩
              refine stepsF_cons ?_ ?_
              · refine StepF.unless 6 false 90 rfl rfl fun F_ w_ hR hout hD => ?_
                have g90 : F_ 90 = .bool true := (hD.get 0 rfl rfl rfl)
                exact ⟨Or.inl g90, rfl⟩
              refine stepsF_cons ?_ ?_
              · refine StepF.unless 6 false 90 rfl rfl fun F_ w_ hR hout hD => ?_
                have g90 : F_ 90 = .bool true := (hD.get 2 rfl rfl rfl)
                exact ⟨Or.inl g90, rfl⟩
              refine stepsF_cons ?_ ?_
              · refine StepF.unless 6 false 90 rfl rfl fun F_ w_ hR hout hD => ?_
                have g90 : F_ 90 = .bool true := (hD.get 2 rfl rfl rfl)
                exact ⟨Or.inl g90, rfl⟩
              refine stepsF_cons ?_ ?_
              · refine StepF.one rfl fun F_ w_ hR hout hD => ?_
                have g90 : F_ 90 = .bool true := (hD.get 0 rfl rfl rfl)
                exact (y_pickT rfl g90 rfl ⟨rfl, Kept.refl _ _⟩)
              refine stepsF_cons ?_ ?_
              · refine StepF.one rfl fun F_ w_ hR hout hD => ?_
                have g100 : F_ 100 = .bool true := (hD.get 0 rfl rfl rfl)
                exact (y_asg rfl g100 ⟨rfl, Kept.refl _ _⟩)
              exact stepsF_nil
            intro v1179 F1180 w1181 k1182 G1183 hF1184
            have B1186 := B956.all k1182 Apart.none
            have B1187 := B957.all k1182 id
            have B1188 := B958.all k1182 id
            have B1189 := B959.all k1182 id
            have B1190 := B960.all k1182 id
            have B1191 := B961.all k1182 Apart.none
            have B1192 := B962.all k1182 Apart.none
            have B1193 := B963.all k1182 Apart.none
            have B1194 := B964.all k1182 Apart.none
            have B1195 := B965.all k1182 Apart.none
            have B1196 := B966.all k1182 id
            have K1197 := K967.trans k1182 (fun _ _ x => x.elim)
            have s1198 : F1180 4 = v := (hF1184 4).trans s968
            have s1199 : F1180 134 = undef := (hF1184 134).trans s969
            have s1200 : F1180 13 = .bool true := (hF1184 13).trans s972
            have s1201 : F1180 18 = v156 := (hF1184 18).trans s973
            have s1202 : F1180 19 = .int .i64 (seqE (W) (H) (R) (B)) := (hF1184 19).trans s974
            have s1203 : F1180 24 = .int .i64 (rdE ((((wrB (K) (Q) (D) (F) ([]))).drop (0)).take (((min (c % 10) (wrB K Q D F []).length)) - (0)))) := (hF1184 24).trans s977
            have s1204 : F1180 25 = .bool true := (hF1184 25).trans s978
            have s1205 : F1180 26 = .bool true := (hF1184 26).trans (G1183 17 (by decide))
            clear G1183 hF1184
            refine then_normal ?_
            refine wq_seq ?_
            refine wq_region ?_
            refine wl_builtB0 rfl rfl rfl fun v1206 w1207 T1211 B1209 g1210 k1208 => ?_
            have gr1212 : Grew w0 noB (T1211) := Grew.new K1197 g1210
            have ap1213 : Apart (T1211) (T_b) := Apart.new g1210 (B1186).live
            have ap1214 : Apart (T1211) (onB p1) := Apart.new g1210 (onB_live (B1187).lt)
            have ap1215 : Apart (T1211) (onB p10) := Apart.new g1210 (onB_live (B1188).lt)
            have ap1216 : Apart (T1211) (onB p21) := Apart.new g1210 (onB_live (B1189).lt)
            have ap1217 : Apart (T1211) (onB p34) := Apart.new g1210 (onB_live (B1190).lt)
            have ap1218 : Apart (T1211) (T95) := Apart.new g1210 (B1191).live
            have ap1219 : Apart (T1211) (T125) := Apart.new g1210 (B1192).live
            have ap1220 : Apart (T1211) (T159) := Apart.new g1210 (B1193).live
            have ap1221 : Apart (T1211) (T197) := Apart.new g1210 (B1194).live
            have ap1222 : Apart (T1211) (T239) := Apart.new g1210 (B1195).live
            have ap1223 : Apart (T1211) (onB p262) := Apart.new g1210 (onB_live (B1196).lt)
            have B1224 := B1186.all k1208 Apart.none
            have B1225 := B1187.all k1208 id
            have B1226 := B1188.all k1208 id
            have B1227 := B1189.all k1208 id
            have B1228 := B1190.all k1208 id
            have B1229 := B1191.all k1208 Apart.none
            have B1230 := B1192.all k1208 Apart.none
            have B1231 := B1193.all k1208 Apart.none
            have B1232 := B1194.all k1208 Apart.none
            have B1233 := B1195.all k1208 Apart.none
            have B1234 := B1196.all k1208 id
            have K1235 := K1197.trans k1208 (fun _ _ x => x.elim)
            refine wl_v (v156) rfl rfl (y_mov rfl s1201 ⟨rfl, rfl⟩) ?_
            refine wl_appendB rfl rfl rfl rfl rfl rfl B1209 (B1231).byt (by first | omega | (simp; done) | (simp; omega)) fun v1236 w1237 T1241 B1239 g1240 k1238 => ?_
            have gr1242 := Grew.trans gr1212 K1235 g1240
            have ap1243 : Apart T1241 (T_b) := (ap1213).grew g1240 (B1224).live
            have ap1244 : Apart T1241 (onB p1) := (ap1214).grew g1240 (onB_live (B1225).lt)
            have ap1245 : Apart T1241 (onB p10) := (ap1215).grew g1240 (onB_live (B1226).lt)
            have ap1246 : Apart T1241 (onB p21) := (ap1216).grew g1240 (onB_live (B1227).lt)
            have ap1247 : Apart T1241 (onB p34) := (ap1217).grew g1240 (onB_live (B1228).lt)
            have ap1248 : Apart T1241 (T95) := (ap1218).grew g1240 (B1229).live
            have ap1249 : Apart T1241 (T125) := (ap1219).grew g1240 (B1230).live
            have ap1250 : Apart T1241 (T159) := (ap1220).grew g1240 (B1231).live
            have ap1251 : Apart T1241 (T197) := (ap1221).grew g1240 (B1232).live
            have ap1252 : Apart T1241 (T239) := (ap1222).grew g1240 (B1233).live
            have ap1253 : Apart T1241 (onB p262) := (ap1223).grew g1240 (onB_live (B1234).lt)
            have B1254 := B1224.all k1238 (fun i h x => (((ap1213).symm) i h x))
            have B1255 := B1225.all k1238 (fun x => (((ap1214).symm) p1 rfl x))
            have B1256 := B1226.all k1238 (fun x => (((ap1215).symm) p10 rfl x))
            have B1257 := B1227.all k1238 (fun x => (((ap1216).symm) p21 rfl x))
            have B1258 := B1228.all k1238 (fun x => (((ap1217).symm) p34 rfl x))
            have B1259 := B1229.all k1238 (fun i h x => (((ap1218).symm) i h x))
            have B1260 := B1230.all k1238 (fun i h x => (((ap1219).symm) i h x))
            have B1261 := B1231.all k1238 (fun i h x => (((ap1220).symm) i h x))
            have B1262 := B1232.all k1238 (fun i h x => (((ap1221).symm) i h x))
            have B1263 := B1233.all k1238 (fun i h x => (((ap1222).symm) i h x))
            have B1264 := B1234.all k1238 (fun x => (((ap1223).symm) p262 rfl x))
            have K1265 := K1235.trans k1238 (Grew.ok (S := fun _ => False) gr1212 noB_le)
            refine wl_v (v) rfl rfl (y_mov rfl s1198 ⟨rfl, rfl⟩) ?_
            refine wl_appendB rfl rfl rfl rfl rfl rfl B1239 B1254 (by first | omega | (simp; done) | (simp; omega)) fun v1266 w1267 T1271 B1269 g1270 k1268 => ?_
            have gr1272 := Grew.trans gr1242 K1265 g1270
            have ap1273 : Apart T1271 (T_b) := (ap1243).grew g1270 (B1254).live
            have ap1274 : Apart T1271 (onB p1) := (ap1244).grew g1270 (onB_live (B1255).lt)
            have ap1275 : Apart T1271 (onB p10) := (ap1245).grew g1270 (onB_live (B1256).lt)
            have ap1276 : Apart T1271 (onB p21) := (ap1246).grew g1270 (onB_live (B1257).lt)
            have ap1277 : Apart T1271 (onB p34) := (ap1247).grew g1270 (onB_live (B1258).lt)
            have ap1278 : Apart T1271 (T95) := (ap1248).grew g1270 (B1259).live
            have ap1279 : Apart T1271 (T125) := (ap1249).grew g1270 (B1260).live
            have ap1280 : Apart T1271 (T159) := (ap1250).grew g1270 (B1261).live
            have ap1281 : Apart T1271 (T197) := (ap1251).grew g1270 (B1262).live
            have ap1282 : Apart T1271 (T239) := (ap1252).grew g1270 (B1263).live
            have ap1283 : Apart T1271 (onB p262) := (ap1253).grew g1270 (onB_live (B1264).lt)
            have B1284 := B1254.all k1268 (fun i h x => (((ap1243).symm) i h x))
            have B1285 := B1255.all k1268 (fun x => (((ap1244).symm) p1 rfl x))
            have B1286 := B1256.all k1268 (fun x => (((ap1245).symm) p10 rfl x))
            have B1287 := B1257.all k1268 (fun x => (((ap1246).symm) p21 rfl x))
            have B1288 := B1258.all k1268 (fun x => (((ap1247).symm) p34 rfl x))
            have B1289 := B1259.all k1268 (fun i h x => (((ap1248).symm) i h x))
            have B1290 := B1260.all k1268 (fun i h x => (((ap1249).symm) i h x))
            have B1291 := B1261.all k1268 (fun i h x => (((ap1250).symm) i h x))
            have B1292 := B1262.all k1268 (fun i h x => (((ap1251).symm) i h x))
            have B1293 := B1263.all k1268 (fun i h x => (((ap1252).symm) i h x))
            have B1294 := B1264.all k1268 (fun x => (((ap1253).symm) p262 rfl x))
            have K1295 := K1265.trans k1268 (Grew.ok (S := fun _ => False) gr1242 noB_le)
            refine wl_call (R := fun v_ w_ => v_ = .tuple #[.agg #[.int .i64 (od t0 (((([] : List Nat)) ++ ((opB (W) (H) (R) (B)))) ++ (l))), .int .i64 (od t1 (((([] : List Nat)) ++ ((opB (W) (H) (R) (B)))) ++ (l))), .int .i64 (od t2 (((([] : List Nat)) ++ ((opB (W) (H) (R) (B)))) ++ (l))), .int .i64 (od t3 (((([] : List Nat)) ++ ((opB (W) (H) (R) (B)))) ++ (l)))], .int .i64 (odE (((([] : List Nat)) ++ ((opB (W) (H) (R) (B)))) ++ (l)))] ∧ Kept (fun _ => False) w1267 w_) rfl rfl (y_cs rfl rfl rfl (fun _ _ => by kernel_rfl) (ev_func _) (vsC rfl vsN) (hd_opened (v1266) (((([] : List Nat)) ++ ((opB (W) (H) (R) (B)))) ++ (l)) (T1271) _  (B1269).byt ) (fun e_ w_ h_ => ⟨_, h_.1, rfl, h_.2⟩)) ?_
            rintro _ w1296 ⟨rfl, k1297⟩
            have B1298 := B1284.all k1297 Apart.none
            have B1299 := B1285.all k1297 id
            have B1300 := B1286.all k1297 id
            have B1301 := B1287.all k1297 id
            have B1302 := B1288.all k1297 id
            have B1303 := B1289.all k1297 Apart.none
            have B1304 := B1290.all k1297 Apart.none
            have B1305 := B1291.all k1297 Apart.none
            have B1306 := B1292.all k1297 Apart.none
            have B1307 := B1293.all k1297 Apart.none
            have B1308 := B1294.all k1297 id
            have B1309 := B1269.all k1297 Apart.none
            have K1310 := K1295.trans k1297 (fun _ _ x => x.elim)
            refine wl_v (.tuple #[.agg #[.int .i64 (od t0 (((([] : List Nat)) ++ ((opB (W) (H) (R) (B)))) ++ (l))), .int .i64 (od t1 (((([] : List Nat)) ++ ((opB (W) (H) (R) (B)))) ++ (l))), .int .i64 (od t2 (((([] : List Nat)) ++ ((opB (W) (H) (R) (B)))) ++ (l))), .int .i64 (od t3 (((([] : List Nat)) ++ ((opB (W) (H) (R) (B)))) ++ (l)))], .int .i64 (odE (((([] : List Nat)) ++ ((opB (W) (H) (R) (B)))) ++ (l)))]) rfl rfl (y_mov rfl rfl ⟨rfl, rfl⟩) ?_
            refine wl_v (.agg #[.int .i64 (od t0 (((([] : List Nat)) ++ ((opB (W) (H) (R) (B)))) ++ (l))), .int .i64 (od t1 (((([] : List Nat)) ++ ((opB (W) (H) (R) (B)))) ++ (l))), .int .i64 (od t2 (((([] : List Nat)) ++ ((opB (W) (H) (R) (B)))) ++ (l))), .int .i64 (od t3 (((([] : List Nat)) ++ ((opB (W) (H) (R) (B)))) ++ (l)))]) rfl rfl (y_ext rfl rfl rfl ⟨rfl, rfl⟩) ?_
            refine wl_v (.int .i64 (odE (((([] : List Nat)) ++ ((opB (W) (H) (R) (B)))) ++ (l)))) rfl rfl (y_ext rfl rfl rfl ⟨rfl, rfl⟩) ?_
            refine wl_alloc_stc (n := 4) (vs := [.int .i64 (0), .int .i64 (0), .int .i64 (0), .int .i64 (0)]) rfl rfl rfl (by kernel_rfl) fun p1311 w1312 B1314 g1315 k1313 => ?_
            have gr1316 : Grew w0 noB (onB p1311) := Grew.new K1310 g1315
            have ap1317 : Apart (onB p1311) (T_b) := Apart.new g1315 (B1298).live
            have ap1318 : Apart (onB p1311) (onB p1) := Apart.new g1315 (onB_live (B1299).lt)
            have ap1319 : Apart (onB p1311) (onB p10) := Apart.new g1315 (onB_live (B1300).lt)
            have ap1320 : Apart (onB p1311) (onB p21) := Apart.new g1315 (onB_live (B1301).lt)
            have ap1321 : Apart (onB p1311) (onB p34) := Apart.new g1315 (onB_live (B1302).lt)
            have ap1322 : Apart (onB p1311) (T95) := Apart.new g1315 (B1303).live
            have ap1323 : Apart (onB p1311) (T125) := Apart.new g1315 (B1304).live
            have ap1324 : Apart (onB p1311) (T159) := Apart.new g1315 (B1305).live
            have ap1325 : Apart (onB p1311) (T197) := Apart.new g1315 (B1306).live
            have ap1326 : Apart (onB p1311) (T239) := Apart.new g1315 (B1307).live
            have ap1327 : Apart (onB p1311) (onB p262) := Apart.new g1315 (onB_live (B1308).lt)
            have ap1328 : Apart (onB p1311) (T1271) := Apart.new g1315 (B1309).live
            have B1329 := B1298.all k1313 Apart.none
            have B1330 := B1299.all k1313 id
            have B1331 := B1300.all k1313 id
            have B1332 := B1301.all k1313 id
            have B1333 := B1302.all k1313 id
            have B1334 := B1303.all k1313 Apart.none
            have B1335 := B1304.all k1313 Apart.none
            have B1336 := B1305.all k1313 Apart.none
            have B1337 := B1306.all k1313 Apart.none
            have B1338 := B1307.all k1313 Apart.none
            have B1339 := B1308.all k1313 id
            have B1340 := B1309.all k1313 Apart.none
            have K1341 := K1310.trans k1313 (fun _ _ x => x.elim)
            refine wl_store_stc (us := [.int .i64 (od t0 (((([] : List Nat)) ++ ((opB (W) (H) (R) (B)))) ++ (l))), .int .i64 (od t1 (((([] : List Nat)) ++ ((opB (W) (H) (R) (B)))) ++ (l))), .int .i64 (od t2 (((([] : List Nat)) ++ ((opB (W) (H) (R) (B)))) ++ (l))), .int .i64 (od t3 (((([] : List Nat)) ++ ((opB (W) (H) (R) (B)))) ++ (l)))]) stcT_seq rfl rfl rfl rfl rfl B1314 rfl (oneI rfl (oneI rfl (oneI rfl (oneI rfl oneN)))) fun w1342 B1343 k1344 => ?_
            have B1345 := B1329.all k1344 (fun i h x => (((ap1317).symm) i h x))
            have B1346 := B1330.all k1344 (fun x => (((ap1318).symm) p1 rfl x))
            have B1347 := B1331.all k1344 (fun x => (((ap1319).symm) p10 rfl x))
            have B1348 := B1332.all k1344 (fun x => (((ap1320).symm) p21 rfl x))
            have B1349 := B1333.all k1344 (fun x => (((ap1321).symm) p34 rfl x))
            have B1350 := B1334.all k1344 (fun i h x => (((ap1322).symm) i h x))
            have B1351 := B1335.all k1344 (fun i h x => (((ap1323).symm) i h x))
            have B1352 := B1336.all k1344 (fun i h x => (((ap1324).symm) i h x))
            have B1353 := B1337.all k1344 (fun i h x => (((ap1325).symm) i h x))
            have B1354 := B1338.all k1344 (fun i h x => (((ap1326).symm) i h x))
            have B1355 := B1339.all k1344 (fun x => (((ap1327).symm) p262 rfl x))
            have B1356 := B1340.all k1344 (fun i h x => (((ap1328).symm) i h x))
            have K1357 := K1341.trans k1344 (Grew.ok (S := fun _ => False) gr1316 noB_le)
            refine wl_v (.int .i64 (odE (((([] : List Nat)) ++ ((opB (W) (H) (R) (B)))) ++ (l)))) rfl rfl (y_asg rfl rfl ⟨rfl, rfl⟩) ?_
            refine wl_nil fun F1358 hF1359 => ?_
            have s1360 : F1358 4 = v := (hF1359 4).trans s1198
            have s1361 : F1358 134 = undef := (hF1359 134).trans s1199
            have s1362 : F1358 13 = .bool true := (hF1359 13).trans s1200
            have s1363 : F1358 19 = .int .i64 (seqE (W) (H) (R) (B)) := (hF1359 19).trans s1202
            have s1364 : F1358 24 = .int .i64 (rdE ((((wrB (K) (Q) (D) (F) ([]))).drop (0)).take (((min (c % 10) (wrB K Q D F []).length)) - (0)))) := (hF1359 24).trans s1203
            have s1365 : F1358 25 = .bool true := (hF1359 25).trans s1204
            have s1366 : F1358 26 = .bool true := (hF1359 26).trans s1205
            have s1367 : F1358 28 = .int .i64 (odE (((([] : List Nat)) ++ ((opB (W) (H) (R) (B)))) ++ (l))) := (hF1359 28).trans rfl
            clear hF1359
            refine then_normal ?_
            refine wq_seq ?_
            by_cases d1368 : ((((l).length : Nat) : Int)) = (0)
            · skip
              refine wq_region ?_
              refine wl_v (.bool true) rfl rfl (y_mov rfl s1362 ⟨rfl, rfl⟩) ?_
              refine wl_v (.bool true) rfl rfl (y_mov rfl rfl ⟨rfl, rfl⟩) ?_
              refine wl_vw (.bool true) 1 true 111 rfl rfl rfl rfl rfl (y_mov rfl s1365 ⟨rfl, rfl⟩) ?_
              refine wl_v (.bool true) rfl rfl (y_pickT rfl rfl rfl ⟨rfl, rfl⟩) ?_
              refine wl_v (.bool true) rfl rfl (y_mov rfl rfl ⟨rfl, rfl⟩) ?_
              refine wl_vw (.bool true) 4 true 114 rfl rfl rfl rfl rfl (y_mov rfl s1366 ⟨rfl, rfl⟩) ?_
              refine wl_v (.bool true) rfl rfl (y_pickT rfl rfl rfl ⟨rfl, rfl⟩) ?_
              refine wl_v (.bool true) rfl rfl (y_mov rfl rfl ⟨rfl, rfl⟩) ?_
              refine wl_vw (.int .i64 (rdE ((((wrB (K) (Q) (D) (F) ([]))).drop (0)).take (((min (c % 10) (wrB K Q D F []).length)) - (0))))) 7 true 117 rfl rfl rfl rfl rfl (y_mov rfl s1364 ⟨rfl, rfl⟩) ?_
              refine wl_vw (.bool true) 7 true 117 rfl rfl rfl rfl rfl (y_eqlI rfl rfl rfl (decide_eq_true (rd_short (by simp; omega))) ⟨rfl, rfl⟩) ?_
              refine wl_v (.bool true) rfl rfl (y_pickT rfl rfl rfl ⟨rfl, rfl⟩) ?_
              refine wl_v (.bool true) rfl rfl (y_mov rfl rfl ⟨rfl, rfl⟩) ?_
              refine wl_vw (v) 11 true 121 rfl rfl rfl rfl rfl (y_mov rfl s1360 ⟨rfl, rfl⟩) ?_
              refine wl_vw (.int .i64 ((((l).length : Nat) : Int))) 11 true 121 rfl rfl rfl rfl rfl (y_lenV rfl rfl rfl B1345 ⟨rfl, rfl⟩) ?_
              refine wl_vw (.bool true) 11 true 121 rfl rfl rfl rfl rfl (y_eqlI rfl rfl rfl (decide_eq_true d1368) ⟨rfl, rfl⟩) ?_
              refine wl_vw (.bool true) 11 true 121 rfl rfl rfl rfl rfl (y_mov rfl rfl ⟨rfl, rfl⟩) ?_
              refine wl_unless 15 false 125 rfl rfl rfl (Or.inl rfl) rfl ?_
              refine wl_unless 15 false 125 rfl rfl rfl (Or.inl rfl) rfl ?_
              refine wl_vw (.bool true) 11 true 121 rfl rfl rfl rfl rfl (y_pickT rfl rfl rfl ⟨rfl, rfl⟩) ?_
              refine wl_vw (.bool true) 11 true 121 rfl rfl rfl rfl rfl (y_mov rfl rfl ⟨rfl, rfl⟩) ?_
              refine wl_unless 19 false 129 rfl rfl rfl (Or.inl rfl) rfl ?_
              refine wl_unless 19 false 129 rfl rfl rfl (Or.inl rfl) rfl ?_
              refine wl_vw (.bool true) 11 true 121 rfl rfl rfl rfl rfl (y_pickT rfl rfl rfl ⟨rfl, rfl⟩) ?_
              refine wl_v (.bool true) rfl rfl (y_pickT rfl rfl rfl ⟨rfl, rfl⟩) ?_
              refine wl_v (.bool true) rfl rfl (y_asg rfl rfl ⟨rfl, rfl⟩) ?_
              refine wl_nil fun F1369 hF1370 => ?_
              have s1371 : F1369 134 = undef := (hF1370 134).trans s1361
              have s1372 : F1369 12 = .bool true := (hF1370 12).trans rfl
              clear hF1370
              refine then_normal ?_
              refine wq_ret ?_
              exact end_tmp (v := .bool true) s1371 rfl rfl s1372 ⟨rfl, K1357⟩
            · skip
              refine wq_region ?_
              refine wl_v (.bool true) rfl rfl (y_mov rfl s1362 ⟨rfl, rfl⟩) ?_
              refine wl_v (.bool true) rfl rfl (y_mov rfl rfl ⟨rfl, rfl⟩) ?_
              refine wl_vw (.bool true) 1 true 111 rfl rfl rfl rfl rfl (y_mov rfl s1365 ⟨rfl, rfl⟩) ?_
              refine wl_v (.bool true) rfl rfl (y_pickT rfl rfl rfl ⟨rfl, rfl⟩) ?_
              refine wl_v (.bool true) rfl rfl (y_mov rfl rfl ⟨rfl, rfl⟩) ?_
              refine wl_vw (.bool true) 4 true 114 rfl rfl rfl rfl rfl (y_mov rfl s1366 ⟨rfl, rfl⟩) ?_
              refine wl_v (.bool true) rfl rfl (y_pickT rfl rfl rfl ⟨rfl, rfl⟩) ?_
              refine wl_v (.bool true) rfl rfl (y_mov rfl rfl ⟨rfl, rfl⟩) ?_
              refine wl_vw (.int .i64 (rdE ((((wrB (K) (Q) (D) (F) ([]))).drop (0)).take (((min (c % 10) (wrB K Q D F []).length)) - (0))))) 7 true 117 rfl rfl rfl rfl rfl (y_mov rfl s1364 ⟨rfl, rfl⟩) ?_
              refine wl_vw (.bool true) 7 true 117 rfl rfl rfl rfl rfl (y_eqlI rfl rfl rfl (decide_eq_true (rd_short (by simp; omega))) ⟨rfl, rfl⟩) ?_
              refine wl_v (.bool true) rfl rfl (y_pickT rfl rfl rfl ⟨rfl, rfl⟩) ?_
              refine wl_v (.bool true) rfl rfl (y_mov rfl rfl ⟨rfl, rfl⟩) ?_
              refine wl_vw (v) 11 true 121 rfl rfl rfl rfl rfl (y_mov rfl s1360 ⟨rfl, rfl⟩) ?_
              refine wl_vw (.int .i64 ((((l).length : Nat) : Int))) 11 true 121 rfl rfl rfl rfl rfl (y_lenV rfl rfl rfl B1345 ⟨rfl, rfl⟩) ?_
              refine wl_vw (.bool false) 11 true 121 rfl rfl rfl rfl rfl (y_eqlI rfl rfl rfl (decide_eq_false d1368) ⟨rfl, rfl⟩) ?_
              refine wl_vw (.bool false) 11 true 121 rfl rfl rfl rfl rfl (y_mov rfl rfl ⟨rfl, rfl⟩) ?_
              refine wl_vw (.int .i64 (seqE (W) (H) (R) (B))) 15 false 125 rfl rfl rfl rfl rfl (y_mov rfl s1363 ⟨rfl, rfl⟩) ?_
              refine wl_vw (.bool false) 15 false 125 rfl rfl rfl rfl rfl (y_neqI rfl rfl rfl (decide_eq_false d979) ⟨rfl, rfl⟩) ?_
              refine wl_vw (.bool false) 11 true 121 rfl rfl rfl rfl rfl (y_pickF rfl rfl rfl ⟨rfl, rfl⟩) ?_
              refine wl_vw (.bool false) 11 true 121 rfl rfl rfl rfl rfl (y_mov rfl rfl ⟨rfl, rfl⟩) ?_
              refine wl_vw (.int .i64 (odE (((([] : List Nat)) ++ ((opB (W) (H) (R) (B)))) ++ (l)))) 19 false 129 rfl rfl rfl rfl rfl (y_mov rfl s1367 ⟨rfl, rfl⟩) ?_
              refine wl_vw (.bool true) 19 false 129 rfl rfl rfl rfl rfl (y_eqlI rfl rfl rfl (decide_eq_true (od_long (by have h := opB_len (seqE_iff.1 (show seqE W H R B = 0 by first | assumption | (apply Decidable.byContradiction; assumption))); rw [List.nil_append, List.length_append]; omega))) ⟨rfl, rfl⟩) ?_
              refine wl_vw (.bool true) 11 true 121 rfl rfl rfl rfl rfl (y_pickF rfl rfl rfl ⟨rfl, rfl⟩) ?_
              refine wl_v (.bool true) rfl rfl (y_pickT rfl rfl rfl ⟨rfl, rfl⟩) ?_
              refine wl_v (.bool true) rfl rfl (y_asg rfl rfl ⟨rfl, rfl⟩) ?_
              refine wl_nil fun F1373 hF1374 => ?_
              have s1375 : F1373 134 = undef := (hF1374 134).trans s1361
              have s1376 : F1373 12 = .bool true := (hF1374 12).trans rfl
              clear hF1374
              refine then_normal ?_
              refine wq_ret ?_
              exact end_tmp (v := .bool true) s1375 rfl rfl s1376 ⟨rfl, K1357⟩
          · skip
            refine wq_said [some 84, some 85, some 86, some 87, some 88, some 89, some 90, some 91, some 92, some 93, some 94, some 95, some 96, some 97, some 98, some 99, some 100, some 26] [Pd.eq (.int .i64 (seqE (W) (H) (R) (B))), Pd.eq (.bool false), Pd.eq (.bool false), Pd.eq (.int .i64 (seqE (W2) (H2) (R2) (B2))), Pd.eq (.bool false), Pd.eq (.bool false), Pd.eq (.bool false), Pd.eq (v156), Pd.eq (.string (textOf ((opB (W) (H) (R) (B))))), Pd.eq (v194), Pd.eq (.string (textOf ((opB (W2) (H2) (R2) (B2))))), Pd.eq (.bool ((textOf ((opB (W) (H) (R) (B)))).toList == (textOf ((opB (W2) (H2) (R2) (B2)))).toList)), Pd.eq (.agg #[.int .i64 (W), .int .i64 (H), .int .i64 (R), .int .i64 (B)]), Pd.eq (.agg #[.int .i64 (W2), .int .i64 (H2), .int .i64 (R2), .int .i64 (B2)]), Pd.eq (.bool (sameI [W, H, R, B] [W2, H2, R2, B2])), Pd.eq (.bool true), Pd.eq (.bool true), Pd.eq (.bool true)] (by kernel_rfl) (by kernel_rfl) ?_ ?_
            · refine stepsF_cons ?_ ?_
              · refine StepF.one rfl fun F_ w_ hR hout hD => ?_
                exact (y_mov rfl ((hout 19 rfl (by decide)).trans s974) ⟨rfl, Kept.refl _ _⟩)
              refine stepsF_cons ?_ ?_
              · refine StepF.one rfl fun F_ w_ hR hout hD => ?_
                have g84 : F_ 84 = .int .i64 (seqE (W) (H) (R) (B)) := (hD.get 0 rfl rfl rfl)
                exact (y_neqI rfl g84 rfl (decide_eq_false d979) ⟨rfl, Kept.refl _ _⟩)
              refine stepsF_cons ?_ ?_
              · refine StepF.one rfl fun F_ w_ hR hout hD => ?_
                have g85 : F_ 85 = .bool false := (hD.get 0 rfl rfl rfl)
                exact (y_mov rfl g85 ⟨rfl, Kept.refl _ _⟩)
              refine stepsF_cons ?_ ?_
              · refine StepF.when 2 false 86 rfl rfl fun F_ w_ hR hout hD => ?_
                have g86 : F_ 86 = .bool false := (hD.get 0 rfl rfl rfl)
                exact ⟨g86, (y_mov rfl ((hout 21 rfl (by decide)).trans s976) ⟨rfl, Kept.refl _ _⟩)⟩
              refine stepsF_cons ?_ ?_
              · refine StepF.when 2 false 86 rfl rfl fun F_ w_ hR hout hD => ?_
                have g86 : F_ 86 = .bool false := (hD.get 1 rfl rfl rfl)
                have g87 : F_ 87 = .int .i64 (seqE (W2) (H2) (R2) (B2)) := (hD.get 0 rfl rfl rfl)
                exact ⟨g86, (y_neqI rfl g87 rfl (decide_eq_false d1178) ⟨rfl, Kept.refl _ _⟩)⟩
              refine stepsF_cons ?_ ?_
              · refine StepF.one rfl fun F_ w_ hR hout hD => ?_
                have g86 : F_ 86 = .bool false := (hD.get 0 rfl rfl rfl)
                have g88 : F_ 88 = .bool false := (hD.get 1 rfl rfl rfl)
                exact (y_pickF rfl g86 g88 ⟨rfl, Kept.refl _ _⟩)
              refine stepsF_cons ?_ ?_
              · refine StepF.one rfl fun F_ w_ hR hout hD => ?_
                have g89 : F_ 89 = .bool false := (hD.get 0 rfl rfl rfl)
                exact (y_mov rfl g89 ⟨rfl, Kept.refl _ _⟩)
              refine stepsF_cons ?_ ?_
              · refine StepF.when 6 false 90 rfl rfl fun F_ w_ hR hout hD => ?_
                have g90 : F_ 90 = .bool false := (hD.get 0 rfl rfl rfl)
                exact ⟨g90, (y_mov rfl ((hout 18 rfl (by decide)).trans s973) ⟨rfl, Kept.refl _ _⟩)⟩
              refine stepsF_cons ?_ ?_
              · refine StepF.when 6 false 90 rfl rfl fun F_ w_ hR hout hD => ?_
                have g90 : F_ 90 = .bool false := (hD.get 1 rfl rfl rfl)
                have g91 : F_ 91 = v156 := (hD.get 0 rfl rfl rfl)
                exact ⟨g90, (y_text rfl (bytes_at g91 ((B963.all hR Apart.none)).byt) ⟨rfl, Kept.refl _ _⟩)⟩
              refine stepsF_cons ?_ ?_
              · refine StepF.when 6 false 90 rfl rfl fun F_ w_ hR hout hD => ?_
                have g90 : F_ 90 = .bool false := (hD.get 0 rfl rfl rfl)
                exact ⟨g90, (y_mov rfl ((hout 20 rfl (by decide)).trans s975) ⟨rfl, Kept.refl _ _⟩)⟩
              refine stepsF_cons ?_ ?_
              · refine StepF.when 6 false 90 rfl rfl fun F_ w_ hR hout hD => ?_
                have g90 : F_ 90 = .bool false := (hD.get 1 rfl rfl rfl)
                have g93 : F_ 93 = v194 := (hD.get 0 rfl rfl rfl)
                exact ⟨g90, (y_text rfl (bytes_at g93 ((B964.all hR Apart.none)).byt) ⟨rfl, Kept.refl _ _⟩)⟩
              refine stepsF_cons ?_ ?_
              · refine StepF.when 6 false 90 rfl rfl fun F_ w_ hR hout hD => ?_
                have g90 : F_ 90 = .bool false := (hD.get 2 rfl rfl rfl)
                have g92 : F_ 92 = .string (textOf ((opB (W) (H) (R) (B)))) := (hD.get 0 rfl rfl rfl)
                have g94 : F_ 94 = .string (textOf ((opB (W2) (H2) (R2) (B2)))) := (hD.get 1 rfl rfl rfl)
                exact ⟨g90, (y_eqlS rfl g92 g94 rfl ⟨rfl, Kept.refl _ _⟩)⟩
              refine stepsF_cons ?_ ?_
              · refine StepF.when 6 false 90 rfl rfl fun F_ w_ hR hout hD => ?_
                have g90 : F_ 90 = .bool false := (hD.get 0 rfl rfl rfl)
                exact ⟨g90, (y_load_stc stcT_seq rfl ((hout 8 rfl (by decide)).trans s970) (B959.all hR id) ⟨rfl, Kept.refl _ _⟩)⟩
              refine stepsF_cons ?_ ?_
              · refine StepF.when 6 false 90 rfl rfl fun F_ w_ hR hout hD => ?_
                have g90 : F_ 90 = .bool false := (hD.get 0 rfl rfl rfl)
                exact ⟨g90, (y_load_stc stcT_seq rfl ((hout 9 rfl (by decide)).trans s971) (B960.all hR id) ⟨rfl, Kept.refl _ _⟩)⟩
              refine stepsF_cons ?_ ?_
              · refine StepF.when 6 false 90 rfl rfl fun F_ w_ hR hout hD => ?_
                have g90 : F_ 90 = .bool false := (hD.get 2 rfl rfl rfl)
                have g96 : F_ 96 = .agg #[.int .i64 (W), .int .i64 (H), .int .i64 (R), .int .i64 (B)] := (hD.get 0 rfl rfl rfl)
                have g97 : F_ 97 = .agg #[.int .i64 (W2), .int .i64 (H2), .int .i64 (R2), .int .i64 (B2)] := (hD.get 1 rfl rfl rfl)
                exact ⟨g90, (y_eqlSI (xs := [W, H, R, B]) (ys := [W2, H2, R2, B2]) structI_seq rfl g96 g97 rfl rfl rfl ⟨rfl, Kept.refl _ _⟩)⟩
              refine stepsF_cons ?_ ?_
              · refine StepF.when 6 false 90 rfl rfl fun F_ w_ hR hout hD => ?_
                have g90 : F_ 90 = .bool false := (hD.get 2 rfl rfl rfl)
                have g95 : F_ 95 = .bool ((textOf ((opB (W) (H) (R) (B)))).toList == (textOf ((opB (W2) (H2) (R2) (B2)))).toList) := (hD.get 0 rfl rfl rfl)
                have g98 : F_ 98 = .bool (sameI [W, H, R, B] [W2, H2, R2, B2]) := (hD.get 1 rfl rfl rfl)
                exact ⟨g90, (y_eqlB rfl g95 g98 Try.underlying4 (hapart_seq (seqE_iff.1 (by first | assumption | (apply Decidable.byContradiction; assumption))) (seqE_iff.1 (by first | assumption | (apply Decidable.byContradiction; assumption)))) ⟨rfl, Kept.refl _ _⟩)⟩
              refine stepsF_cons ?_ ?_
              · refine StepF.one rfl fun F_ w_ hR hout hD => ?_
                have g90 : F_ 90 = .bool false := (hD.get 0 rfl rfl rfl)
                have g99 : F_ 99 = .bool true := (hD.get 1 rfl rfl rfl)
                exact (y_pickF rfl g90 g99 ⟨rfl, Kept.refl _ _⟩)
              refine stepsF_cons ?_ ?_
              · refine StepF.one rfl fun F_ w_ hR hout hD => ?_
                have g100 : F_ 100 = .bool true := (hD.get 0 rfl rfl rfl)
                exact (y_asg rfl g100 ⟨rfl, Kept.refl _ _⟩)
              exact stepsF_nil
            intro v1377 F1378 w1379 k1380 G1381 hF1382
            have B1384 := B956.all k1380 Apart.none
            have B1385 := B957.all k1380 id
            have B1386 := B958.all k1380 id
            have B1387 := B959.all k1380 id
            have B1388 := B960.all k1380 id
            have B1389 := B961.all k1380 Apart.none
            have B1390 := B962.all k1380 Apart.none
            have B1391 := B963.all k1380 Apart.none
            have B1392 := B964.all k1380 Apart.none
            have B1393 := B965.all k1380 Apart.none
            have B1394 := B966.all k1380 id
            have K1395 := K967.trans k1380 (fun _ _ x => x.elim)
            have s1396 : F1378 4 = v := (hF1382 4).trans s968
            have s1397 : F1378 134 = undef := (hF1382 134).trans s969
            have s1398 : F1378 13 = .bool true := (hF1382 13).trans s972
            have s1399 : F1378 18 = v156 := (hF1382 18).trans s973
            have s1400 : F1378 19 = .int .i64 (seqE (W) (H) (R) (B)) := (hF1382 19).trans s974
            have s1401 : F1378 24 = .int .i64 (rdE ((((wrB (K) (Q) (D) (F) ([]))).drop (0)).take (((min (c % 10) (wrB K Q D F []).length)) - (0)))) := (hF1382 24).trans s977
            have s1402 : F1378 25 = .bool true := (hF1382 25).trans s978
            have s1403 : F1378 26 = .bool true := (hF1382 26).trans (G1381 17 (by decide))
            clear G1381 hF1382
            refine then_normal ?_
            refine wq_seq ?_
            refine wq_region ?_
            refine wl_builtB0 rfl rfl rfl fun v1404 w1405 T1409 B1407 g1408 k1406 => ?_
            have gr1410 : Grew w0 noB (T1409) := Grew.new K1395 g1408
            have ap1411 : Apart (T1409) (T_b) := Apart.new g1408 (B1384).live
            have ap1412 : Apart (T1409) (onB p1) := Apart.new g1408 (onB_live (B1385).lt)
            have ap1413 : Apart (T1409) (onB p10) := Apart.new g1408 (onB_live (B1386).lt)
            have ap1414 : Apart (T1409) (onB p21) := Apart.new g1408 (onB_live (B1387).lt)
            have ap1415 : Apart (T1409) (onB p34) := Apart.new g1408 (onB_live (B1388).lt)
            have ap1416 : Apart (T1409) (T95) := Apart.new g1408 (B1389).live
            have ap1417 : Apart (T1409) (T125) := Apart.new g1408 (B1390).live
            have ap1418 : Apart (T1409) (T159) := Apart.new g1408 (B1391).live
            have ap1419 : Apart (T1409) (T197) := Apart.new g1408 (B1392).live
            have ap1420 : Apart (T1409) (T239) := Apart.new g1408 (B1393).live
            have ap1421 : Apart (T1409) (onB p262) := Apart.new g1408 (onB_live (B1394).lt)
            have B1422 := B1384.all k1406 Apart.none
            have B1423 := B1385.all k1406 id
            have B1424 := B1386.all k1406 id
            have B1425 := B1387.all k1406 id
            have B1426 := B1388.all k1406 id
            have B1427 := B1389.all k1406 Apart.none
            have B1428 := B1390.all k1406 Apart.none
            have B1429 := B1391.all k1406 Apart.none
            have B1430 := B1392.all k1406 Apart.none
            have B1431 := B1393.all k1406 Apart.none
            have B1432 := B1394.all k1406 id
            have K1433 := K1395.trans k1406 (fun _ _ x => x.elim)
            refine wl_v (v156) rfl rfl (y_mov rfl s1399 ⟨rfl, rfl⟩) ?_
            refine wl_appendB rfl rfl rfl rfl rfl rfl B1407 (B1429).byt (by first | omega | (simp; done) | (simp; omega)) fun v1434 w1435 T1439 B1437 g1438 k1436 => ?_
            have gr1440 := Grew.trans gr1410 K1433 g1438
            have ap1441 : Apart T1439 (T_b) := (ap1411).grew g1438 (B1422).live
            have ap1442 : Apart T1439 (onB p1) := (ap1412).grew g1438 (onB_live (B1423).lt)
            have ap1443 : Apart T1439 (onB p10) := (ap1413).grew g1438 (onB_live (B1424).lt)
            have ap1444 : Apart T1439 (onB p21) := (ap1414).grew g1438 (onB_live (B1425).lt)
            have ap1445 : Apart T1439 (onB p34) := (ap1415).grew g1438 (onB_live (B1426).lt)
            have ap1446 : Apart T1439 (T95) := (ap1416).grew g1438 (B1427).live
            have ap1447 : Apart T1439 (T125) := (ap1417).grew g1438 (B1428).live
            have ap1448 : Apart T1439 (T159) := (ap1418).grew g1438 (B1429).live
            have ap1449 : Apart T1439 (T197) := (ap1419).grew g1438 (B1430).live
            have ap1450 : Apart T1439 (T239) := (ap1420).grew g1438 (B1431).live
            have ap1451 : Apart T1439 (onB p262) := (ap1421).grew g1438 (onB_live (B1432).lt)
            have B1452 := B1422.all k1436 (fun i h x => (((ap1411).symm) i h x))
            have B1453 := B1423.all k1436 (fun x => (((ap1412).symm) p1 rfl x))
            have B1454 := B1424.all k1436 (fun x => (((ap1413).symm) p10 rfl x))
            have B1455 := B1425.all k1436 (fun x => (((ap1414).symm) p21 rfl x))
            have B1456 := B1426.all k1436 (fun x => (((ap1415).symm) p34 rfl x))
            have B1457 := B1427.all k1436 (fun i h x => (((ap1416).symm) i h x))
            have B1458 := B1428.all k1436 (fun i h x => (((ap1417).symm) i h x))
            have B1459 := B1429.all k1436 (fun i h x => (((ap1418).symm) i h x))
            have B1460 := B1430.all k1436 (fun i h x => (((ap1419).symm) i h x))
            have B1461 := B1431.all k1436 (fun i h x => (((ap1420).symm) i h x))
            have B1462 := B1432.all k1436 (fun x => (((ap1421).symm) p262 rfl x))
            have K1463 := K1433.trans k1436 (Grew.ok (S := fun _ => False) gr1410 noB_le)
            refine wl_v (v) rfl rfl (y_mov rfl s1396 ⟨rfl, rfl⟩) ?_
            refine wl_appendB rfl rfl rfl rfl rfl rfl B1437 B1452 (by first | omega | (simp; done) | (simp; omega)) fun v1464 w1465 T1469 B1467 g1468 k1466 => ?_
            have gr1470 := Grew.trans gr1440 K1463 g1468
            have ap1471 : Apart T1469 (T_b) := (ap1441).grew g1468 (B1452).live
            have ap1472 : Apart T1469 (onB p1) := (ap1442).grew g1468 (onB_live (B1453).lt)
            have ap1473 : Apart T1469 (onB p10) := (ap1443).grew g1468 (onB_live (B1454).lt)
            have ap1474 : Apart T1469 (onB p21) := (ap1444).grew g1468 (onB_live (B1455).lt)
            have ap1475 : Apart T1469 (onB p34) := (ap1445).grew g1468 (onB_live (B1456).lt)
            have ap1476 : Apart T1469 (T95) := (ap1446).grew g1468 (B1457).live
            have ap1477 : Apart T1469 (T125) := (ap1447).grew g1468 (B1458).live
            have ap1478 : Apart T1469 (T159) := (ap1448).grew g1468 (B1459).live
            have ap1479 : Apart T1469 (T197) := (ap1449).grew g1468 (B1460).live
            have ap1480 : Apart T1469 (T239) := (ap1450).grew g1468 (B1461).live
            have ap1481 : Apart T1469 (onB p262) := (ap1451).grew g1468 (onB_live (B1462).lt)
            have B1482 := B1452.all k1466 (fun i h x => (((ap1441).symm) i h x))
            have B1483 := B1453.all k1466 (fun x => (((ap1442).symm) p1 rfl x))
            have B1484 := B1454.all k1466 (fun x => (((ap1443).symm) p10 rfl x))
            have B1485 := B1455.all k1466 (fun x => (((ap1444).symm) p21 rfl x))
            have B1486 := B1456.all k1466 (fun x => (((ap1445).symm) p34 rfl x))
            have B1487 := B1457.all k1466 (fun i h x => (((ap1446).symm) i h x))
            have B1488 := B1458.all k1466 (fun i h x => (((ap1447).symm) i h x))
            have B1489 := B1459.all k1466 (fun i h x => (((ap1448).symm) i h x))
            have B1490 := B1460.all k1466 (fun i h x => (((ap1449).symm) i h x))
            have B1491 := B1461.all k1466 (fun i h x => (((ap1450).symm) i h x))
            have B1492 := B1462.all k1466 (fun x => (((ap1451).symm) p262 rfl x))
            have K1493 := K1463.trans k1466 (Grew.ok (S := fun _ => False) gr1440 noB_le)
            refine wl_call (R := fun v_ w_ => v_ = .tuple #[.agg #[.int .i64 (od t0 (((([] : List Nat)) ++ ((opB (W) (H) (R) (B)))) ++ (l))), .int .i64 (od t1 (((([] : List Nat)) ++ ((opB (W) (H) (R) (B)))) ++ (l))), .int .i64 (od t2 (((([] : List Nat)) ++ ((opB (W) (H) (R) (B)))) ++ (l))), .int .i64 (od t3 (((([] : List Nat)) ++ ((opB (W) (H) (R) (B)))) ++ (l)))], .int .i64 (odE (((([] : List Nat)) ++ ((opB (W) (H) (R) (B)))) ++ (l)))] ∧ Kept (fun _ => False) w1465 w_) rfl rfl (y_cs rfl rfl rfl (fun _ _ => by kernel_rfl) (ev_func _) (vsC rfl vsN) (hd_opened (v1464) (((([] : List Nat)) ++ ((opB (W) (H) (R) (B)))) ++ (l)) (T1469) _  (B1467).byt ) (fun e_ w_ h_ => ⟨_, h_.1, rfl, h_.2⟩)) ?_
            rintro _ w1494 ⟨rfl, k1495⟩
            have B1496 := B1482.all k1495 Apart.none
            have B1497 := B1483.all k1495 id
            have B1498 := B1484.all k1495 id
            have B1499 := B1485.all k1495 id
            have B1500 := B1486.all k1495 id
            have B1501 := B1487.all k1495 Apart.none
            have B1502 := B1488.all k1495 Apart.none
            have B1503 := B1489.all k1495 Apart.none
            have B1504 := B1490.all k1495 Apart.none
            have B1505 := B1491.all k1495 Apart.none
            have B1506 := B1492.all k1495 id
            have B1507 := B1467.all k1495 Apart.none
            have K1508 := K1493.trans k1495 (fun _ _ x => x.elim)
            refine wl_v (.tuple #[.agg #[.int .i64 (od t0 (((([] : List Nat)) ++ ((opB (W) (H) (R) (B)))) ++ (l))), .int .i64 (od t1 (((([] : List Nat)) ++ ((opB (W) (H) (R) (B)))) ++ (l))), .int .i64 (od t2 (((([] : List Nat)) ++ ((opB (W) (H) (R) (B)))) ++ (l))), .int .i64 (od t3 (((([] : List Nat)) ++ ((opB (W) (H) (R) (B)))) ++ (l)))], .int .i64 (odE (((([] : List Nat)) ++ ((opB (W) (H) (R) (B)))) ++ (l)))]) rfl rfl (y_mov rfl rfl ⟨rfl, rfl⟩) ?_
            refine wl_v (.agg #[.int .i64 (od t0 (((([] : List Nat)) ++ ((opB (W) (H) (R) (B)))) ++ (l))), .int .i64 (od t1 (((([] : List Nat)) ++ ((opB (W) (H) (R) (B)))) ++ (l))), .int .i64 (od t2 (((([] : List Nat)) ++ ((opB (W) (H) (R) (B)))) ++ (l))), .int .i64 (od t3 (((([] : List Nat)) ++ ((opB (W) (H) (R) (B)))) ++ (l)))]) rfl rfl (y_ext rfl rfl rfl ⟨rfl, rfl⟩) ?_
            refine wl_v (.int .i64 (odE (((([] : List Nat)) ++ ((opB (W) (H) (R) (B)))) ++ (l)))) rfl rfl (y_ext rfl rfl rfl ⟨rfl, rfl⟩) ?_
            refine wl_alloc_stc (n := 4) (vs := [.int .i64 (0), .int .i64 (0), .int .i64 (0), .int .i64 (0)]) rfl rfl rfl (by kernel_rfl) fun p1509 w1510 B1512 g1513 k1511 => ?_
            have gr1514 : Grew w0 noB (onB p1509) := Grew.new K1508 g1513
            have ap1515 : Apart (onB p1509) (T_b) := Apart.new g1513 (B1496).live
            have ap1516 : Apart (onB p1509) (onB p1) := Apart.new g1513 (onB_live (B1497).lt)
            have ap1517 : Apart (onB p1509) (onB p10) := Apart.new g1513 (onB_live (B1498).lt)
            have ap1518 : Apart (onB p1509) (onB p21) := Apart.new g1513 (onB_live (B1499).lt)
            have ap1519 : Apart (onB p1509) (onB p34) := Apart.new g1513 (onB_live (B1500).lt)
            have ap1520 : Apart (onB p1509) (T95) := Apart.new g1513 (B1501).live
            have ap1521 : Apart (onB p1509) (T125) := Apart.new g1513 (B1502).live
            have ap1522 : Apart (onB p1509) (T159) := Apart.new g1513 (B1503).live
            have ap1523 : Apart (onB p1509) (T197) := Apart.new g1513 (B1504).live
            have ap1524 : Apart (onB p1509) (T239) := Apart.new g1513 (B1505).live
            have ap1525 : Apart (onB p1509) (onB p262) := Apart.new g1513 (onB_live (B1506).lt)
            have ap1526 : Apart (onB p1509) (T1469) := Apart.new g1513 (B1507).live
            have B1527 := B1496.all k1511 Apart.none
            have B1528 := B1497.all k1511 id
            have B1529 := B1498.all k1511 id
            have B1530 := B1499.all k1511 id
            have B1531 := B1500.all k1511 id
            have B1532 := B1501.all k1511 Apart.none
            have B1533 := B1502.all k1511 Apart.none
            have B1534 := B1503.all k1511 Apart.none
            have B1535 := B1504.all k1511 Apart.none
            have B1536 := B1505.all k1511 Apart.none
            have B1537 := B1506.all k1511 id
            have B1538 := B1507.all k1511 Apart.none
            have K1539 := K1508.trans k1511 (fun _ _ x => x.elim)
            refine wl_store_stc (us := [.int .i64 (od t0 (((([] : List Nat)) ++ ((opB (W) (H) (R) (B)))) ++ (l))), .int .i64 (od t1 (((([] : List Nat)) ++ ((opB (W) (H) (R) (B)))) ++ (l))), .int .i64 (od t2 (((([] : List Nat)) ++ ((opB (W) (H) (R) (B)))) ++ (l))), .int .i64 (od t3 (((([] : List Nat)) ++ ((opB (W) (H) (R) (B)))) ++ (l)))]) stcT_seq rfl rfl rfl rfl rfl B1512 rfl (oneI rfl (oneI rfl (oneI rfl (oneI rfl oneN)))) fun w1540 B1541 k1542 => ?_
            have B1543 := B1527.all k1542 (fun i h x => (((ap1515).symm) i h x))
            have B1544 := B1528.all k1542 (fun x => (((ap1516).symm) p1 rfl x))
            have B1545 := B1529.all k1542 (fun x => (((ap1517).symm) p10 rfl x))
            have B1546 := B1530.all k1542 (fun x => (((ap1518).symm) p21 rfl x))
            have B1547 := B1531.all k1542 (fun x => (((ap1519).symm) p34 rfl x))
            have B1548 := B1532.all k1542 (fun i h x => (((ap1520).symm) i h x))
            have B1549 := B1533.all k1542 (fun i h x => (((ap1521).symm) i h x))
            have B1550 := B1534.all k1542 (fun i h x => (((ap1522).symm) i h x))
            have B1551 := B1535.all k1542 (fun i h x => (((ap1523).symm) i h x))
            have B1552 := B1536.all k1542 (fun i h x => (((ap1524).symm) i h x))
            have B1553 := B1537.all k1542 (fun x => (((ap1525).symm) p262 rfl x))
            have B1554 := B1538.all k1542 (fun i h x => (((ap1526).symm) i h x))
            have K1555 := K1539.trans k1542 (Grew.ok (S := fun _ => False) gr1514 noB_le)
            refine wl_v (.int .i64 (odE (((([] : List Nat)) ++ ((opB (W) (H) (R) (B)))) ++ (l)))) rfl rfl (y_asg rfl rfl ⟨rfl, rfl⟩) ?_
            refine wl_nil fun F1556 hF1557 => ?_
            have s1558 : F1556 4 = v := (hF1557 4).trans s1396
            have s1559 : F1556 134 = undef := (hF1557 134).trans s1397
            have s1560 : F1556 13 = .bool true := (hF1557 13).trans s1398
            have s1561 : F1556 19 = .int .i64 (seqE (W) (H) (R) (B)) := (hF1557 19).trans s1400
            have s1562 : F1556 24 = .int .i64 (rdE ((((wrB (K) (Q) (D) (F) ([]))).drop (0)).take (((min (c % 10) (wrB K Q D F []).length)) - (0)))) := (hF1557 24).trans s1401
            have s1563 : F1556 25 = .bool true := (hF1557 25).trans s1402
            have s1564 : F1556 26 = .bool true := (hF1557 26).trans s1403
            have s1565 : F1556 28 = .int .i64 (odE (((([] : List Nat)) ++ ((opB (W) (H) (R) (B)))) ++ (l))) := (hF1557 28).trans rfl
            clear hF1557
            refine then_normal ?_
            refine wq_seq ?_
            by_cases d1566 : ((((l).length : Nat) : Int)) = (0)
            · skip
              refine wq_region ?_
              refine wl_v (.bool true) rfl rfl (y_mov rfl s1560 ⟨rfl, rfl⟩) ?_
              refine wl_v (.bool true) rfl rfl (y_mov rfl rfl ⟨rfl, rfl⟩) ?_
              refine wl_vw (.bool true) 1 true 111 rfl rfl rfl rfl rfl (y_mov rfl s1563 ⟨rfl, rfl⟩) ?_
              refine wl_v (.bool true) rfl rfl (y_pickT rfl rfl rfl ⟨rfl, rfl⟩) ?_
              refine wl_v (.bool true) rfl rfl (y_mov rfl rfl ⟨rfl, rfl⟩) ?_
              refine wl_vw (.bool true) 4 true 114 rfl rfl rfl rfl rfl (y_mov rfl s1564 ⟨rfl, rfl⟩) ?_
              refine wl_v (.bool true) rfl rfl (y_pickT rfl rfl rfl ⟨rfl, rfl⟩) ?_
              refine wl_v (.bool true) rfl rfl (y_mov rfl rfl ⟨rfl, rfl⟩) ?_
              refine wl_vw (.int .i64 (rdE ((((wrB (K) (Q) (D) (F) ([]))).drop (0)).take (((min (c % 10) (wrB K Q D F []).length)) - (0))))) 7 true 117 rfl rfl rfl rfl rfl (y_mov rfl s1562 ⟨rfl, rfl⟩) ?_
              refine wl_vw (.bool true) 7 true 117 rfl rfl rfl rfl rfl (y_eqlI rfl rfl rfl (decide_eq_true (rd_short (by simp; omega))) ⟨rfl, rfl⟩) ?_
              refine wl_v (.bool true) rfl rfl (y_pickT rfl rfl rfl ⟨rfl, rfl⟩) ?_
              refine wl_v (.bool true) rfl rfl (y_mov rfl rfl ⟨rfl, rfl⟩) ?_
              refine wl_vw (v) 11 true 121 rfl rfl rfl rfl rfl (y_mov rfl s1558 ⟨rfl, rfl⟩) ?_
              refine wl_vw (.int .i64 ((((l).length : Nat) : Int))) 11 true 121 rfl rfl rfl rfl rfl (y_lenV rfl rfl rfl B1543 ⟨rfl, rfl⟩) ?_
              refine wl_vw (.bool true) 11 true 121 rfl rfl rfl rfl rfl (y_eqlI rfl rfl rfl (decide_eq_true d1566) ⟨rfl, rfl⟩) ?_
              refine wl_vw (.bool true) 11 true 121 rfl rfl rfl rfl rfl (y_mov rfl rfl ⟨rfl, rfl⟩) ?_
              refine wl_unless 15 false 125 rfl rfl rfl (Or.inl rfl) rfl ?_
              refine wl_unless 15 false 125 rfl rfl rfl (Or.inl rfl) rfl ?_
              refine wl_vw (.bool true) 11 true 121 rfl rfl rfl rfl rfl (y_pickT rfl rfl rfl ⟨rfl, rfl⟩) ?_
              refine wl_vw (.bool true) 11 true 121 rfl rfl rfl rfl rfl (y_mov rfl rfl ⟨rfl, rfl⟩) ?_
              refine wl_unless 19 false 129 rfl rfl rfl (Or.inl rfl) rfl ?_
              refine wl_unless 19 false 129 rfl rfl rfl (Or.inl rfl) rfl ?_
              refine wl_vw (.bool true) 11 true 121 rfl rfl rfl rfl rfl (y_pickT rfl rfl rfl ⟨rfl, rfl⟩) ?_
              refine wl_v (.bool true) rfl rfl (y_pickT rfl rfl rfl ⟨rfl, rfl⟩) ?_
              refine wl_v (.bool true) rfl rfl (y_asg rfl rfl ⟨rfl, rfl⟩) ?_
              refine wl_nil fun F1567 hF1568 => ?_
              have s1569 : F1567 134 = undef := (hF1568 134).trans s1559
              have s1570 : F1567 12 = .bool true := (hF1568 12).trans rfl
              clear hF1568
              refine then_normal ?_
              refine wq_ret ?_
              exact end_tmp (v := .bool true) s1569 rfl rfl s1570 ⟨rfl, K1555⟩
            · skip
              refine wq_region ?_
              refine wl_v (.bool true) rfl rfl (y_mov rfl s1560 ⟨rfl, rfl⟩) ?_
              refine wl_v (.bool true) rfl rfl (y_mov rfl rfl ⟨rfl, rfl⟩) ?_
              refine wl_vw (.bool true) 1 true 111 rfl rfl rfl rfl rfl (y_mov rfl s1563 ⟨rfl, rfl⟩) ?_
              refine wl_v (.bool true) rfl rfl (y_pickT rfl rfl rfl ⟨rfl, rfl⟩) ?_
              refine wl_v (.bool true) rfl rfl (y_mov rfl rfl ⟨rfl, rfl⟩) ?_
              refine wl_vw (.bool true) 4 true 114 rfl rfl rfl rfl rfl (y_mov rfl s1564 ⟨rfl, rfl⟩) ?_
              refine wl_v (.bool true) rfl rfl (y_pickT rfl rfl rfl ⟨rfl, rfl⟩) ?_
              refine wl_v (.bool true) rfl rfl (y_mov rfl rfl ⟨rfl, rfl⟩) ?_
              refine wl_vw (.int .i64 (rdE ((((wrB (K) (Q) (D) (F) ([]))).drop (0)).take (((min (c % 10) (wrB K Q D F []).length)) - (0))))) 7 true 117 rfl rfl rfl rfl rfl (y_mov rfl s1562 ⟨rfl, rfl⟩) ?_
              refine wl_vw (.bool true) 7 true 117 rfl rfl rfl rfl rfl (y_eqlI rfl rfl rfl (decide_eq_true (rd_short (by simp; omega))) ⟨rfl, rfl⟩) ?_
              refine wl_v (.bool true) rfl rfl (y_pickT rfl rfl rfl ⟨rfl, rfl⟩) ?_
              refine wl_v (.bool true) rfl rfl (y_mov rfl rfl ⟨rfl, rfl⟩) ?_
              refine wl_vw (v) 11 true 121 rfl rfl rfl rfl rfl (y_mov rfl s1558 ⟨rfl, rfl⟩) ?_
              refine wl_vw (.int .i64 ((((l).length : Nat) : Int))) 11 true 121 rfl rfl rfl rfl rfl (y_lenV rfl rfl rfl B1543 ⟨rfl, rfl⟩) ?_
              refine wl_vw (.bool false) 11 true 121 rfl rfl rfl rfl rfl (y_eqlI rfl rfl rfl (decide_eq_false d1566) ⟨rfl, rfl⟩) ?_
              refine wl_vw (.bool false) 11 true 121 rfl rfl rfl rfl rfl (y_mov rfl rfl ⟨rfl, rfl⟩) ?_
              refine wl_vw (.int .i64 (seqE (W) (H) (R) (B))) 15 false 125 rfl rfl rfl rfl rfl (y_mov rfl s1561 ⟨rfl, rfl⟩) ?_
              refine wl_vw (.bool false) 15 false 125 rfl rfl rfl rfl rfl (y_neqI rfl rfl rfl (decide_eq_false d979) ⟨rfl, rfl⟩) ?_
              refine wl_vw (.bool false) 11 true 121 rfl rfl rfl rfl rfl (y_pickF rfl rfl rfl ⟨rfl, rfl⟩) ?_
              refine wl_vw (.bool false) 11 true 121 rfl rfl rfl rfl rfl (y_mov rfl rfl ⟨rfl, rfl⟩) ?_
              refine wl_vw (.int .i64 (odE (((([] : List Nat)) ++ ((opB (W) (H) (R) (B)))) ++ (l)))) 19 false 129 rfl rfl rfl rfl rfl (y_mov rfl s1565 ⟨rfl, rfl⟩) ?_
              refine wl_vw (.bool true) 19 false 129 rfl rfl rfl rfl rfl (y_eqlI rfl rfl rfl (decide_eq_true (od_long (by have h := opB_len (seqE_iff.1 (show seqE W H R B = 0 by first | assumption | (apply Decidable.byContradiction; assumption))); rw [List.nil_append, List.length_append]; omega))) ⟨rfl, rfl⟩) ?_
              refine wl_vw (.bool true) 11 true 121 rfl rfl rfl rfl rfl (y_pickF rfl rfl rfl ⟨rfl, rfl⟩) ?_
              refine wl_v (.bool true) rfl rfl (y_pickT rfl rfl rfl ⟨rfl, rfl⟩) ?_
              refine wl_v (.bool true) rfl rfl (y_asg rfl rfl ⟨rfl, rfl⟩) ?_
              refine wl_nil fun F1571 hF1572 => ?_
              have s1573 : F1571 134 = undef := (hF1572 134).trans s1559
              have s1574 : F1571 12 = .bool true := (hF1572 12).trans rfl
              clear hF1572
              refine then_normal ?_
              refine wq_ret ?_
              exact end_tmp (v := .bool true) s1573 rfl rfl s1574 ⟨rfl, K1555⟩
      · skip
        refine wq_said [some 67, some 68, some 69, some 70, some 71, some 72, some 73, some 74, some 75, some 76, some 77, some 78, some 79, some 80, some 81, some 82, some 83, some 25] [Pd.eq (.int .i64 (headE (K) (Q) (D) (F))), Pd.eq (.bool false), Pd.eq (.bool false), Pd.eq (.int .i64 (headE (K2) (Q2) (D2) (F2))), Pd.eq (.bool false), Pd.eq (.bool false), Pd.eq (.bool false), Pd.eq (v92), Pd.eq (.string (textOf ((wrB (K) (Q) (D) (F) ([]))))), Pd.eq (v122), Pd.eq (.string (textOf ((wrB (K2) (Q2) (D2) (F2) ([]))))), Pd.eq (.bool ((textOf ((wrB (K) (Q) (D) (F) ([])))).toList == (textOf ((wrB (K2) (Q2) (D2) (F2) ([])))).toList)), Pd.eq (.agg #[.int .i64 (K), .int .i64 (Q), .int .i64 (D), .int .i64 (F)]), Pd.eq (.agg #[.int .i64 (K2), .int .i64 (Q2), .int .i64 (D2), .int .i64 (F2)]), Pd.eq (.bool (sameI [K, Q, D, F] [K2, Q2, D2, F2])), Pd.eq (.bool true), Pd.eq (.bool true), Pd.eq (.bool true)] (by kernel_rfl) (by kernel_rfl) ?_ ?_
        · refine stepsF_cons ?_ ?_
          · refine StepF.one rfl fun F_ w_ hR hout hD => ?_
            exact (y_mov rfl ((hout 15 rfl (by decide)).trans s313) ⟨rfl, Kept.refl _ _⟩)
          refine stepsF_cons ?_ ?_
          · refine StepF.one rfl fun F_ w_ hR hout hD => ?_
            have g67 : F_ 67 = .int .i64 (headE (K) (Q) (D) (F)) := (hD.get 0 rfl rfl rfl)
            exact (y_neqI rfl g67 rfl (decide_eq_false d321) ⟨rfl, Kept.refl _ _⟩)
          refine stepsF_cons ?_ ?_
          · refine StepF.one rfl fun F_ w_ hR hout hD => ?_
            have g68 : F_ 68 = .bool false := (hD.get 0 rfl rfl rfl)
            exact (y_mov rfl g68 ⟨rfl, Kept.refl _ _⟩)
          refine stepsF_cons ?_ ?_
          · refine StepF.when 2 false 69 rfl rfl fun F_ w_ hR hout hD => ?_
            have g69 : F_ 69 = .bool false := (hD.get 0 rfl rfl rfl)
            exact ⟨g69, (y_mov rfl ((hout 17 rfl (by decide)).trans s315) ⟨rfl, Kept.refl _ _⟩)⟩
          refine stepsF_cons ?_ ?_
          · refine StepF.when 2 false 69 rfl rfl fun F_ w_ hR hout hD => ?_
            have g69 : F_ 69 = .bool false := (hD.get 1 rfl rfl rfl)
            have g70 : F_ 70 = .int .i64 (headE (K2) (Q2) (D2) (F2)) := (hD.get 0 rfl rfl rfl)
            exact ⟨g69, (y_neqI rfl g70 rfl (decide_eq_false d948) ⟨rfl, Kept.refl _ _⟩)⟩
          refine stepsF_cons ?_ ?_
          · refine StepF.one rfl fun F_ w_ hR hout hD => ?_
            have g69 : F_ 69 = .bool false := (hD.get 0 rfl rfl rfl)
            have g71 : F_ 71 = .bool false := (hD.get 1 rfl rfl rfl)
            exact (y_pickF rfl g69 g71 ⟨rfl, Kept.refl _ _⟩)
          refine stepsF_cons ?_ ?_
          · refine StepF.one rfl fun F_ w_ hR hout hD => ?_
            have g72 : F_ 72 = .bool false := (hD.get 0 rfl rfl rfl)
            exact (y_mov rfl g72 ⟨rfl, Kept.refl _ _⟩)
          refine stepsF_cons ?_ ?_
          · refine StepF.when 6 false 73 rfl rfl fun F_ w_ hR hout hD => ?_
            have g73 : F_ 73 = .bool false := (hD.get 0 rfl rfl rfl)
            exact ⟨g73, (y_mov rfl ((hout 14 rfl (by decide)).trans s312) ⟨rfl, Kept.refl _ _⟩)⟩
          refine stepsF_cons ?_ ?_
          · refine StepF.when 6 false 73 rfl rfl fun F_ w_ hR hout hD => ?_
            have g73 : F_ 73 = .bool false := (hD.get 1 rfl rfl rfl)
            have g74 : F_ 74 = v92 := (hD.get 0 rfl rfl rfl)
            exact ⟨g73, (y_text rfl (bytes_at g74 ((B297.all hR Apart.none)).byt) ⟨rfl, Kept.refl _ _⟩)⟩
          refine stepsF_cons ?_ ?_
          · refine StepF.when 6 false 73 rfl rfl fun F_ w_ hR hout hD => ?_
            have g73 : F_ 73 = .bool false := (hD.get 0 rfl rfl rfl)
            exact ⟨g73, (y_mov rfl ((hout 16 rfl (by decide)).trans s314) ⟨rfl, Kept.refl _ _⟩)⟩
          refine stepsF_cons ?_ ?_
          · refine StepF.when 6 false 73 rfl rfl fun F_ w_ hR hout hD => ?_
            have g73 : F_ 73 = .bool false := (hD.get 1 rfl rfl rfl)
            have g76 : F_ 76 = v122 := (hD.get 0 rfl rfl rfl)
            exact ⟨g73, (y_text rfl (bytes_at g76 ((B298.all hR Apart.none)).byt) ⟨rfl, Kept.refl _ _⟩)⟩
          refine stepsF_cons ?_ ?_
          · refine StepF.when 6 false 73 rfl rfl fun F_ w_ hR hout hD => ?_
            have g73 : F_ 73 = .bool false := (hD.get 2 rfl rfl rfl)
            have g75 : F_ 75 = .string (textOf ((wrB (K) (Q) (D) (F) ([])))) := (hD.get 0 rfl rfl rfl)
            have g77 : F_ 77 = .string (textOf ((wrB (K2) (Q2) (D2) (F2) ([])))) := (hD.get 1 rfl rfl rfl)
            exact ⟨g73, (y_eqlS rfl g75 g77 rfl ⟨rfl, Kept.refl _ _⟩)⟩
          refine stepsF_cons ?_ ?_
          · refine StepF.when 6 false 73 rfl rfl fun F_ w_ hR hout hD => ?_
            have g73 : F_ 73 = .bool false := (hD.get 0 rfl rfl rfl)
            exact ⟨g73, (y_load_stc stcT_head rfl ((hout 6 rfl (by decide)).trans s307) (B293.all hR id) ⟨rfl, Kept.refl _ _⟩)⟩
          refine stepsF_cons ?_ ?_
          · refine StepF.when 6 false 73 rfl rfl fun F_ w_ hR hout hD => ?_
            have g73 : F_ 73 = .bool false := (hD.get 0 rfl rfl rfl)
            exact ⟨g73, (y_load_stc stcT_head rfl ((hout 7 rfl (by decide)).trans s308) (B294.all hR id) ⟨rfl, Kept.refl _ _⟩)⟩
          refine stepsF_cons ?_ ?_
          · refine StepF.when 6 false 73 rfl rfl fun F_ w_ hR hout hD => ?_
            have g73 : F_ 73 = .bool false := (hD.get 2 rfl rfl rfl)
            have g79 : F_ 79 = .agg #[.int .i64 (K), .int .i64 (Q), .int .i64 (D), .int .i64 (F)] := (hD.get 0 rfl rfl rfl)
            have g80 : F_ 80 = .agg #[.int .i64 (K2), .int .i64 (Q2), .int .i64 (D2), .int .i64 (F2)] := (hD.get 1 rfl rfl rfl)
            exact ⟨g73, (y_eqlSI (xs := [K, Q, D, F]) (ys := [K2, Q2, D2, F2]) structI_head rfl g79 g80 rfl rfl rfl ⟨rfl, Kept.refl _ _⟩)⟩
          refine stepsF_cons ?_ ?_
          · refine StepF.when 6 false 73 rfl rfl fun F_ w_ hR hout hD => ?_
            have g73 : F_ 73 = .bool false := (hD.get 2 rfl rfl rfl)
            have g78 : F_ 78 = .bool ((textOf ((wrB (K) (Q) (D) (F) ([])))).toList == (textOf ((wrB (K2) (Q2) (D2) (F2) ([])))).toList) := (hD.get 0 rfl rfl rfl)
            have g81 : F_ 81 = .bool (sameI [K, Q, D, F] [K2, Q2, D2, F2]) := (hD.get 1 rfl rfl rfl)
            exact ⟨g73, (y_eqlB rfl g78 g81 Try.underlying4 (hapart_law (headE_iff.1 (by first | assumption | (apply Decidable.byContradiction; assumption))) (headE_iff.1 (by first | assumption | (apply Decidable.byContradiction; assumption)))) ⟨rfl, Kept.refl _ _⟩)⟩
          refine stepsF_cons ?_ ?_
          · refine StepF.one rfl fun F_ w_ hR hout hD => ?_
            have g73 : F_ 73 = .bool false := (hD.get 0 rfl rfl rfl)
            have g82 : F_ 82 = .bool true := (hD.get 1 rfl rfl rfl)
            exact (y_pickF rfl g73 g82 ⟨rfl, Kept.refl _ _⟩)
          refine stepsF_cons ?_ ?_
          · refine StepF.one rfl fun F_ w_ hR hout hD => ?_
            have g83 : F_ 83 = .bool true := (hD.get 0 rfl rfl rfl)
            exact (y_asg rfl g83 ⟨rfl, Kept.refl _ _⟩)
          exact stepsF_nil
        intro v1575 F1576 w1577 k1578 G1579 hF1580
        have B1582 := B292.all k1578 Apart.none
        have B1583 := B293.all k1578 id
        have B1584 := B294.all k1578 id
        have B1585 := B295.all k1578 id
        have B1586 := B296.all k1578 id
        have B1587 := B297.all k1578 Apart.none
        have B1588 := B298.all k1578 Apart.none
        have B1589 := B299.all k1578 Apart.none
        have B1590 := B300.all k1578 Apart.none
        have B1591 := B301.all k1578 Apart.none
        have B1592 := B290.all k1578 id
        have K1593 := K302.trans k1578 (fun _ _ x => x.elim)
        have s1594 : F1576 4 = v := (hF1580 4).trans s305
        have s1595 : F1576 134 = undef := (hF1580 134).trans s306
        have s1596 : F1576 8 = .pointer (some ⟨p21, 0, none⟩) := (hF1580 8).trans s309
        have s1597 : F1576 9 = .pointer (some ⟨p34, 0, none⟩) := (hF1580 9).trans s310
        have s1598 : F1576 13 = .bool true := (hF1580 13).trans s311
        have s1599 : F1576 18 = v156 := (hF1580 18).trans s316
        have s1600 : F1576 19 = .int .i64 (seqE (W) (H) (R) (B)) := (hF1580 19).trans s317
        have s1601 : F1576 20 = v194 := (hF1580 20).trans s318
        have s1602 : F1576 21 = .int .i64 (seqE (W2) (H2) (R2) (B2)) := (hF1580 21).trans s319
        have s1603 : F1576 24 = .int .i64 (rdE ((((wrB (K) (Q) (D) (F) ([]))).drop (0)).take (((min (c % 10) (wrB K Q D F []).length)) - (0)))) := (hF1580 24).trans s320
        have s1604 : F1576 25 = .bool true := (hF1580 25).trans (G1579 17 (by decide))
        clear G1579 hF1580
        refine then_normal ?_
        refine wq_seq ?_
        by_cases d1605 : (seqE (W) (H) (R) (B)) ≠ (0)
        · skip
          refine wq_said [some 84, some 85, some 86, some 87, some 88, some 89, some 90, some 91, some 92, some 93, some 94, some 95, some 96, some 97, some 98, some 99, some 100, some 26] [Pd.eq (.int .i64 (seqE (W) (H) (R) (B))), Pd.eq (.bool true), Pd.eq (.bool true), Pd.eq undef, Pd.eq undef, Pd.eq (.bool true), Pd.eq (.bool true), Pd.eq undef, Pd.eq undef, Pd.eq undef, Pd.eq undef, Pd.eq undef, Pd.eq undef, Pd.eq undef, Pd.eq undef, Pd.eq undef, Pd.eq (.bool true), Pd.eq (.bool true)] (by kernel_rfl) (by kernel_rfl) ?_ ?_
          · refine stepsF_cons ?_ ?_
            · refine StepF.one rfl fun F_ w_ hR hout hD => ?_
              exact (y_mov rfl ((hout 19 rfl (by decide)).trans s1600) ⟨rfl, Kept.refl _ _⟩)
            refine stepsF_cons ?_ ?_
            · refine StepF.one rfl fun F_ w_ hR hout hD => ?_
              have g84 : F_ 84 = .int .i64 (seqE (W) (H) (R) (B)) := (hD.get 0 rfl rfl rfl)
              exact (y_neqI rfl g84 rfl (decide_eq_true d1605) ⟨rfl, Kept.refl _ _⟩)
            refine stepsF_cons ?_ ?_
            · refine StepF.one rfl fun F_ w_ hR hout hD => ?_
              have g85 : F_ 85 = .bool true := (hD.get 0 rfl rfl rfl)
              exact (y_mov rfl g85 ⟨rfl, Kept.refl _ _⟩)
            refine stepsF_cons ?_ ?_
            · refine StepF.unless 2 false 86 rfl rfl fun F_ w_ hR hout hD => ?_
              have g86 : F_ 86 = .bool true := (hD.get 0 rfl rfl rfl)
              exact ⟨Or.inl g86, rfl⟩
            refine stepsF_cons ?_ ?_
            · refine StepF.unless 2 false 86 rfl rfl fun F_ w_ hR hout hD => ?_
              have g86 : F_ 86 = .bool true := (hD.get 1 rfl rfl rfl)
              exact ⟨Or.inl g86, rfl⟩
            refine stepsF_cons ?_ ?_
            · refine StepF.one rfl fun F_ w_ hR hout hD => ?_
              have g86 : F_ 86 = .bool true := (hD.get 0 rfl rfl rfl)
              exact (y_pickT rfl g86 rfl ⟨rfl, Kept.refl _ _⟩)
            refine stepsF_cons ?_ ?_
            · refine StepF.one rfl fun F_ w_ hR hout hD => ?_
              have g89 : F_ 89 = .bool true := (hD.get 0 rfl rfl rfl)
              exact (y_mov rfl g89 ⟨rfl, Kept.refl _ _⟩)
            refine stepsF_cons ?_ ?_
            · refine StepF.unless 6 false 90 rfl rfl fun F_ w_ hR hout hD => ?_
              have g90 : F_ 90 = .bool true := (hD.get 0 rfl rfl rfl)
              exact ⟨Or.inl g90, rfl⟩
            refine stepsF_cons ?_ ?_
            · refine StepF.unless 6 false 90 rfl rfl fun F_ w_ hR hout hD => ?_
              have g90 : F_ 90 = .bool true := (hD.get 1 rfl rfl rfl)
              exact ⟨Or.inl g90, rfl⟩
            refine stepsF_cons ?_ ?_
            · refine StepF.unless 6 false 90 rfl rfl fun F_ w_ hR hout hD => ?_
              have g90 : F_ 90 = .bool true := (hD.get 0 rfl rfl rfl)
              exact ⟨Or.inl g90, rfl⟩
            refine stepsF_cons ?_ ?_
            · refine StepF.unless 6 false 90 rfl rfl fun F_ w_ hR hout hD => ?_
              have g90 : F_ 90 = .bool true := (hD.get 1 rfl rfl rfl)
              exact ⟨Or.inl g90, rfl⟩
            refine stepsF_cons ?_ ?_
            · refine StepF.unless 6 false 90 rfl rfl fun F_ w_ hR hout hD => ?_
              have g90 : F_ 90 = .bool true := (hD.get 2 rfl rfl rfl)
              exact ⟨Or.inl g90, rfl⟩
            refine stepsF_cons ?_ ?_
            · refine StepF.unless 6 false 90 rfl rfl fun F_ w_ hR hout hD => ?_
              have g90 : F_ 90 = .bool true := (hD.get 0 rfl rfl rfl)
              exact ⟨Or.inl g90, rfl⟩
            refine stepsF_cons ?_ ?_
            · refine StepF.unless 6 false 90 rfl rfl fun F_ w_ hR hout hD => ?_
              have g90 : F_ 90 = .bool true := (hD.get 0 rfl rfl rfl)
              exact ⟨Or.inl g90, rfl⟩
            refine stepsF_cons ?_ ?_
            · refine StepF.unless 6 false 90 rfl rfl fun F_ w_ hR hout hD => ?_
              have g90 : F_ 90 = .bool true := (hD.get 2 rfl rfl rfl)
              exact ⟨Or.inl g90, rfl⟩
            refine stepsF_cons ?_ ?_
            · refine StepF.unless 6 false 90 rfl rfl fun F_ w_ hR hout hD => ?_
              have g90 : F_ 90 = .bool true := (hD.get 2 rfl rfl rfl)
              exact ⟨Or.inl g90, rfl⟩
            refine stepsF_cons ?_ ?_
            · refine StepF.one rfl fun F_ w_ hR hout hD => ?_
              have g90 : F_ 90 = .bool true := (hD.get 0 rfl rfl rfl)
              exact (y_pickT rfl g90 rfl ⟨rfl, Kept.refl _ _⟩)
            refine stepsF_cons ?_ ?_
            · refine StepF.one rfl fun F_ w_ hR hout hD => ?_
              have g100 : F_ 100 = .bool true := (hD.get 0 rfl rfl rfl)
              exact (y_asg rfl g100 ⟨rfl, Kept.refl _ _⟩)
            exact stepsF_nil
          intro v1606 F1607 w1608 k1609 G1610 hF1611
          have B1613 := B1582.all k1609 Apart.none
          have B1614 := B1583.all k1609 id
          have B1615 := B1584.all k1609 id
          have B1616 := B1585.all k1609 id
          have B1617 := B1586.all k1609 id
          have B1618 := B1587.all k1609 Apart.none
          have B1619 := B1588.all k1609 Apart.none
          have B1620 := B1589.all k1609 Apart.none
          have B1621 := B1590.all k1609 Apart.none
          have B1622 := B1591.all k1609 Apart.none
          have B1623 := B1592.all k1609 id
          have K1624 := K1593.trans k1609 (fun _ _ x => x.elim)
          have s1625 : F1607 4 = v := (hF1611 4).trans s1594
          have s1626 : F1607 134 = undef := (hF1611 134).trans s1595
          have s1627 : F1607 13 = .bool true := (hF1611 13).trans s1598
          have s1628 : F1607 18 = v156 := (hF1611 18).trans s1599
          have s1629 : F1607 19 = .int .i64 (seqE (W) (H) (R) (B)) := (hF1611 19).trans s1600
          have s1630 : F1607 24 = .int .i64 (rdE ((((wrB (K) (Q) (D) (F) ([]))).drop (0)).take (((min (c % 10) (wrB K Q D F []).length)) - (0)))) := (hF1611 24).trans s1603
          have s1631 : F1607 25 = .bool true := (hF1611 25).trans s1604
          have s1632 : F1607 26 = .bool true := (hF1611 26).trans (G1610 17 (by decide))
          clear G1610 hF1611
          refine then_normal ?_
          refine wq_seq ?_
          refine wq_region ?_
          refine wl_builtB0 rfl rfl rfl fun v1633 w1634 T1638 B1636 g1637 k1635 => ?_
          have gr1639 : Grew w0 noB (T1638) := Grew.new K1624 g1637
          have ap1640 : Apart (T1638) (T_b) := Apart.new g1637 (B1613).live
          have ap1641 : Apart (T1638) (onB p1) := Apart.new g1637 (onB_live (B1614).lt)
          have ap1642 : Apart (T1638) (onB p10) := Apart.new g1637 (onB_live (B1615).lt)
          have ap1643 : Apart (T1638) (onB p21) := Apart.new g1637 (onB_live (B1616).lt)
          have ap1644 : Apart (T1638) (onB p34) := Apart.new g1637 (onB_live (B1617).lt)
          have ap1645 : Apart (T1638) (T95) := Apart.new g1637 (B1618).live
          have ap1646 : Apart (T1638) (T125) := Apart.new g1637 (B1619).live
          have ap1647 : Apart (T1638) (T159) := Apart.new g1637 (B1620).live
          have ap1648 : Apart (T1638) (T197) := Apart.new g1637 (B1621).live
          have ap1649 : Apart (T1638) (T239) := Apart.new g1637 (B1622).live
          have ap1650 : Apart (T1638) (onB p262) := Apart.new g1637 (onB_live (B1623).lt)
          have B1651 := B1613.all k1635 Apart.none
          have B1652 := B1614.all k1635 id
          have B1653 := B1615.all k1635 id
          have B1654 := B1616.all k1635 id
          have B1655 := B1617.all k1635 id
          have B1656 := B1618.all k1635 Apart.none
          have B1657 := B1619.all k1635 Apart.none
          have B1658 := B1620.all k1635 Apart.none
          have B1659 := B1621.all k1635 Apart.none
          have B1660 := B1622.all k1635 Apart.none
          have B1661 := B1623.all k1635 id
          have K1662 := K1624.trans k1635 (fun _ _ x => x.elim)
          refine wl_v (v156) rfl rfl (y_mov rfl s1628 ⟨rfl, rfl⟩) ?_
          refine wl_appendB rfl rfl rfl rfl rfl rfl B1636 (B1658).byt (by first | omega | (simp; done) | (simp; omega)) fun v1663 w1664 T1668 B1666 g1667 k1665 => ?_
          have gr1669 := Grew.trans gr1639 K1662 g1667
          have ap1670 : Apart T1668 (T_b) := (ap1640).grew g1667 (B1651).live
          have ap1671 : Apart T1668 (onB p1) := (ap1641).grew g1667 (onB_live (B1652).lt)
          have ap1672 : Apart T1668 (onB p10) := (ap1642).grew g1667 (onB_live (B1653).lt)
          have ap1673 : Apart T1668 (onB p21) := (ap1643).grew g1667 (onB_live (B1654).lt)
          have ap1674 : Apart T1668 (onB p34) := (ap1644).grew g1667 (onB_live (B1655).lt)
          have ap1675 : Apart T1668 (T95) := (ap1645).grew g1667 (B1656).live
          have ap1676 : Apart T1668 (T125) := (ap1646).grew g1667 (B1657).live
          have ap1677 : Apart T1668 (T159) := (ap1647).grew g1667 (B1658).live
          have ap1678 : Apart T1668 (T197) := (ap1648).grew g1667 (B1659).live
          have ap1679 : Apart T1668 (T239) := (ap1649).grew g1667 (B1660).live
          have ap1680 : Apart T1668 (onB p262) := (ap1650).grew g1667 (onB_live (B1661).lt)
          have B1681 := B1651.all k1665 (fun i h x => (((ap1640).symm) i h x))
          have B1682 := B1652.all k1665 (fun x => (((ap1641).symm) p1 rfl x))
          have B1683 := B1653.all k1665 (fun x => (((ap1642).symm) p10 rfl x))
          have B1684 := B1654.all k1665 (fun x => (((ap1643).symm) p21 rfl x))
          have B1685 := B1655.all k1665 (fun x => (((ap1644).symm) p34 rfl x))
          have B1686 := B1656.all k1665 (fun i h x => (((ap1645).symm) i h x))
          have B1687 := B1657.all k1665 (fun i h x => (((ap1646).symm) i h x))
          have B1688 := B1658.all k1665 (fun i h x => (((ap1647).symm) i h x))
          have B1689 := B1659.all k1665 (fun i h x => (((ap1648).symm) i h x))
          have B1690 := B1660.all k1665 (fun i h x => (((ap1649).symm) i h x))
          have B1691 := B1661.all k1665 (fun x => (((ap1650).symm) p262 rfl x))
          have K1692 := K1662.trans k1665 (Grew.ok (S := fun _ => False) gr1639 noB_le)
          refine wl_v (v) rfl rfl (y_mov rfl s1625 ⟨rfl, rfl⟩) ?_
          refine wl_appendB rfl rfl rfl rfl rfl rfl B1666 B1681 (by first | omega | (simp; done) | (simp; omega)) fun v1693 w1694 T1698 B1696 g1697 k1695 => ?_
          have gr1699 := Grew.trans gr1669 K1692 g1697
          have ap1700 : Apart T1698 (T_b) := (ap1670).grew g1697 (B1681).live
          have ap1701 : Apart T1698 (onB p1) := (ap1671).grew g1697 (onB_live (B1682).lt)
          have ap1702 : Apart T1698 (onB p10) := (ap1672).grew g1697 (onB_live (B1683).lt)
          have ap1703 : Apart T1698 (onB p21) := (ap1673).grew g1697 (onB_live (B1684).lt)
          have ap1704 : Apart T1698 (onB p34) := (ap1674).grew g1697 (onB_live (B1685).lt)
          have ap1705 : Apart T1698 (T95) := (ap1675).grew g1697 (B1686).live
          have ap1706 : Apart T1698 (T125) := (ap1676).grew g1697 (B1687).live
          have ap1707 : Apart T1698 (T159) := (ap1677).grew g1697 (B1688).live
          have ap1708 : Apart T1698 (T197) := (ap1678).grew g1697 (B1689).live
          have ap1709 : Apart T1698 (T239) := (ap1679).grew g1697 (B1690).live
          have ap1710 : Apart T1698 (onB p262) := (ap1680).grew g1697 (onB_live (B1691).lt)
          have B1711 := B1681.all k1695 (fun i h x => (((ap1670).symm) i h x))
          have B1712 := B1682.all k1695 (fun x => (((ap1671).symm) p1 rfl x))
          have B1713 := B1683.all k1695 (fun x => (((ap1672).symm) p10 rfl x))
          have B1714 := B1684.all k1695 (fun x => (((ap1673).symm) p21 rfl x))
          have B1715 := B1685.all k1695 (fun x => (((ap1674).symm) p34 rfl x))
          have B1716 := B1686.all k1695 (fun i h x => (((ap1675).symm) i h x))
          have B1717 := B1687.all k1695 (fun i h x => (((ap1676).symm) i h x))
          have B1718 := B1688.all k1695 (fun i h x => (((ap1677).symm) i h x))
          have B1719 := B1689.all k1695 (fun i h x => (((ap1678).symm) i h x))
          have B1720 := B1690.all k1695 (fun i h x => (((ap1679).symm) i h x))
          have B1721 := B1691.all k1695 (fun x => (((ap1680).symm) p262 rfl x))
          have K1722 := K1692.trans k1695 (Grew.ok (S := fun _ => False) gr1669 noB_le)
          refine wl_call (R := fun v_ w_ => v_ = .tuple #[.agg #[.int .i64 (od t0 (((([] : List Nat)) ++ ((opB (W) (H) (R) (B)))) ++ (l))), .int .i64 (od t1 (((([] : List Nat)) ++ ((opB (W) (H) (R) (B)))) ++ (l))), .int .i64 (od t2 (((([] : List Nat)) ++ ((opB (W) (H) (R) (B)))) ++ (l))), .int .i64 (od t3 (((([] : List Nat)) ++ ((opB (W) (H) (R) (B)))) ++ (l)))], .int .i64 (odE (((([] : List Nat)) ++ ((opB (W) (H) (R) (B)))) ++ (l)))] ∧ Kept (fun _ => False) w1694 w_) rfl rfl (y_cs rfl rfl rfl (fun _ _ => by kernel_rfl) (ev_func _) (vsC rfl vsN) (hd_opened (v1693) (((([] : List Nat)) ++ ((opB (W) (H) (R) (B)))) ++ (l)) (T1698) _  (B1696).byt ) (fun e_ w_ h_ => ⟨_, h_.1, rfl, h_.2⟩)) ?_
          rintro _ w1723 ⟨rfl, k1724⟩
          have B1725 := B1711.all k1724 Apart.none
          have B1726 := B1712.all k1724 id
          have B1727 := B1713.all k1724 id
          have B1728 := B1714.all k1724 id
          have B1729 := B1715.all k1724 id
          have B1730 := B1716.all k1724 Apart.none
          have B1731 := B1717.all k1724 Apart.none
          have B1732 := B1718.all k1724 Apart.none
          have B1733 := B1719.all k1724 Apart.none
          have B1734 := B1720.all k1724 Apart.none
          have B1735 := B1721.all k1724 id
          have B1736 := B1696.all k1724 Apart.none
          have K1737 := K1722.trans k1724 (fun _ _ x => x.elim)
          refine wl_v (.tuple #[.agg #[.int .i64 (od t0 (((([] : List Nat)) ++ ((opB (W) (H) (R) (B)))) ++ (l))), .int .i64 (od t1 (((([] : List Nat)) ++ ((opB (W) (H) (R) (B)))) ++ (l))), .int .i64 (od t2 (((([] : List Nat)) ++ ((opB (W) (H) (R) (B)))) ++ (l))), .int .i64 (od t3 (((([] : List Nat)) ++ ((opB (W) (H) (R) (B)))) ++ (l)))], .int .i64 (odE (((([] : List Nat)) ++ ((opB (W) (H) (R) (B)))) ++ (l)))]) rfl rfl (y_mov rfl rfl ⟨rfl, rfl⟩) ?_
          refine wl_v (.agg #[.int .i64 (od t0 (((([] : List Nat)) ++ ((opB (W) (H) (R) (B)))) ++ (l))), .int .i64 (od t1 (((([] : List Nat)) ++ ((opB (W) (H) (R) (B)))) ++ (l))), .int .i64 (od t2 (((([] : List Nat)) ++ ((opB (W) (H) (R) (B)))) ++ (l))), .int .i64 (od t3 (((([] : List Nat)) ++ ((opB (W) (H) (R) (B)))) ++ (l)))]) rfl rfl (y_ext rfl rfl rfl ⟨rfl, rfl⟩) ?_
          refine wl_v (.int .i64 (odE (((([] : List Nat)) ++ ((opB (W) (H) (R) (B)))) ++ (l)))) rfl rfl (y_ext rfl rfl rfl ⟨rfl, rfl⟩) ?_
          refine wl_alloc_stc (n := 4) (vs := [.int .i64 (0), .int .i64 (0), .int .i64 (0), .int .i64 (0)]) rfl rfl rfl (by kernel_rfl) fun p1738 w1739 B1741 g1742 k1740 => ?_
          have gr1743 : Grew w0 noB (onB p1738) := Grew.new K1737 g1742
          have ap1744 : Apart (onB p1738) (T_b) := Apart.new g1742 (B1725).live
          have ap1745 : Apart (onB p1738) (onB p1) := Apart.new g1742 (onB_live (B1726).lt)
          have ap1746 : Apart (onB p1738) (onB p10) := Apart.new g1742 (onB_live (B1727).lt)
          have ap1747 : Apart (onB p1738) (onB p21) := Apart.new g1742 (onB_live (B1728).lt)
          have ap1748 : Apart (onB p1738) (onB p34) := Apart.new g1742 (onB_live (B1729).lt)
          have ap1749 : Apart (onB p1738) (T95) := Apart.new g1742 (B1730).live
          have ap1750 : Apart (onB p1738) (T125) := Apart.new g1742 (B1731).live
          have ap1751 : Apart (onB p1738) (T159) := Apart.new g1742 (B1732).live
          have ap1752 : Apart (onB p1738) (T197) := Apart.new g1742 (B1733).live
          have ap1753 : Apart (onB p1738) (T239) := Apart.new g1742 (B1734).live
          have ap1754 : Apart (onB p1738) (onB p262) := Apart.new g1742 (onB_live (B1735).lt)
          have ap1755 : Apart (onB p1738) (T1698) := Apart.new g1742 (B1736).live
          have B1756 := B1725.all k1740 Apart.none
          have B1757 := B1726.all k1740 id
          have B1758 := B1727.all k1740 id
          have B1759 := B1728.all k1740 id
          have B1760 := B1729.all k1740 id
          have B1761 := B1730.all k1740 Apart.none
          have B1762 := B1731.all k1740 Apart.none
          have B1763 := B1732.all k1740 Apart.none
          have B1764 := B1733.all k1740 Apart.none
          have B1765 := B1734.all k1740 Apart.none
          have B1766 := B1735.all k1740 id
          have B1767 := B1736.all k1740 Apart.none
          have K1768 := K1737.trans k1740 (fun _ _ x => x.elim)
          refine wl_store_stc (us := [.int .i64 (od t0 (((([] : List Nat)) ++ ((opB (W) (H) (R) (B)))) ++ (l))), .int .i64 (od t1 (((([] : List Nat)) ++ ((opB (W) (H) (R) (B)))) ++ (l))), .int .i64 (od t2 (((([] : List Nat)) ++ ((opB (W) (H) (R) (B)))) ++ (l))), .int .i64 (od t3 (((([] : List Nat)) ++ ((opB (W) (H) (R) (B)))) ++ (l)))]) stcT_seq rfl rfl rfl rfl rfl B1741 rfl (oneI rfl (oneI rfl (oneI rfl (oneI rfl oneN)))) fun w1769 B1770 k1771 => ?_
          have B1772 := B1756.all k1771 (fun i h x => (((ap1744).symm) i h x))
          have B1773 := B1757.all k1771 (fun x => (((ap1745).symm) p1 rfl x))
          have B1774 := B1758.all k1771 (fun x => (((ap1746).symm) p10 rfl x))
          have B1775 := B1759.all k1771 (fun x => (((ap1747).symm) p21 rfl x))
          have B1776 := B1760.all k1771 (fun x => (((ap1748).symm) p34 rfl x))
          have B1777 := B1761.all k1771 (fun i h x => (((ap1749).symm) i h x))
          have B1778 := B1762.all k1771 (fun i h x => (((ap1750).symm) i h x))
          have B1779 := B1763.all k1771 (fun i h x => (((ap1751).symm) i h x))
          have B1780 := B1764.all k1771 (fun i h x => (((ap1752).symm) i h x))
          have B1781 := B1765.all k1771 (fun i h x => (((ap1753).symm) i h x))
          have B1782 := B1766.all k1771 (fun x => (((ap1754).symm) p262 rfl x))
          have B1783 := B1767.all k1771 (fun i h x => (((ap1755).symm) i h x))
          have K1784 := K1768.trans k1771 (Grew.ok (S := fun _ => False) gr1743 noB_le)
          refine wl_v (.int .i64 (odE (((([] : List Nat)) ++ ((opB (W) (H) (R) (B)))) ++ (l)))) rfl rfl (y_asg rfl rfl ⟨rfl, rfl⟩) ?_
          refine wl_nil fun F1785 hF1786 => ?_
          have s1787 : F1785 4 = v := (hF1786 4).trans s1625
          have s1788 : F1785 134 = undef := (hF1786 134).trans s1626
          have s1789 : F1785 13 = .bool true := (hF1786 13).trans s1627
          have s1790 : F1785 19 = .int .i64 (seqE (W) (H) (R) (B)) := (hF1786 19).trans s1629
          have s1791 : F1785 24 = .int .i64 (rdE ((((wrB (K) (Q) (D) (F) ([]))).drop (0)).take (((min (c % 10) (wrB K Q D F []).length)) - (0)))) := (hF1786 24).trans s1630
          have s1792 : F1785 25 = .bool true := (hF1786 25).trans s1631
          have s1793 : F1785 26 = .bool true := (hF1786 26).trans s1632
          have s1794 : F1785 28 = .int .i64 (odE (((([] : List Nat)) ++ ((opB (W) (H) (R) (B)))) ++ (l))) := (hF1786 28).trans rfl
          clear hF1786
          refine then_normal ?_
          refine wq_seq ?_
          by_cases d1795 : ((((l).length : Nat) : Int)) = (0)
          · skip
            refine wq_region ?_
            refine wl_v (.bool true) rfl rfl (y_mov rfl s1789 ⟨rfl, rfl⟩) ?_
            refine wl_v (.bool true) rfl rfl (y_mov rfl rfl ⟨rfl, rfl⟩) ?_
            refine wl_vw (.bool true) 1 true 111 rfl rfl rfl rfl rfl (y_mov rfl s1792 ⟨rfl, rfl⟩) ?_
            refine wl_v (.bool true) rfl rfl (y_pickT rfl rfl rfl ⟨rfl, rfl⟩) ?_
            refine wl_v (.bool true) rfl rfl (y_mov rfl rfl ⟨rfl, rfl⟩) ?_
            refine wl_vw (.bool true) 4 true 114 rfl rfl rfl rfl rfl (y_mov rfl s1793 ⟨rfl, rfl⟩) ?_
            refine wl_v (.bool true) rfl rfl (y_pickT rfl rfl rfl ⟨rfl, rfl⟩) ?_
            refine wl_v (.bool true) rfl rfl (y_mov rfl rfl ⟨rfl, rfl⟩) ?_
            refine wl_vw (.int .i64 (rdE ((((wrB (K) (Q) (D) (F) ([]))).drop (0)).take (((min (c % 10) (wrB K Q D F []).length)) - (0))))) 7 true 117 rfl rfl rfl rfl rfl (y_mov rfl s1791 ⟨rfl, rfl⟩) ?_
            refine wl_vw (.bool true) 7 true 117 rfl rfl rfl rfl rfl (y_eqlI rfl rfl rfl (decide_eq_true (rd_short (by simp; omega))) ⟨rfl, rfl⟩) ?_
            refine wl_v (.bool true) rfl rfl (y_pickT rfl rfl rfl ⟨rfl, rfl⟩) ?_
            refine wl_v (.bool true) rfl rfl (y_mov rfl rfl ⟨rfl, rfl⟩) ?_
            refine wl_vw (v) 11 true 121 rfl rfl rfl rfl rfl (y_mov rfl s1787 ⟨rfl, rfl⟩) ?_
            refine wl_vw (.int .i64 ((((l).length : Nat) : Int))) 11 true 121 rfl rfl rfl rfl rfl (y_lenV rfl rfl rfl B1772 ⟨rfl, rfl⟩) ?_
            refine wl_vw (.bool true) 11 true 121 rfl rfl rfl rfl rfl (y_eqlI rfl rfl rfl (decide_eq_true d1795) ⟨rfl, rfl⟩) ?_
            refine wl_vw (.bool true) 11 true 121 rfl rfl rfl rfl rfl (y_mov rfl rfl ⟨rfl, rfl⟩) ?_
            refine wl_unless 15 false 125 rfl rfl rfl (Or.inl rfl) rfl ?_
            refine wl_unless 15 false 125 rfl rfl rfl (Or.inl rfl) rfl ?_
            refine wl_vw (.bool true) 11 true 121 rfl rfl rfl rfl rfl (y_pickT rfl rfl rfl ⟨rfl, rfl⟩) ?_
            refine wl_vw (.bool true) 11 true 121 rfl rfl rfl rfl rfl (y_mov rfl rfl ⟨rfl, rfl⟩) ?_
            refine wl_unless 19 false 129 rfl rfl rfl (Or.inl rfl) rfl ?_
            refine wl_unless 19 false 129 rfl rfl rfl (Or.inl rfl) rfl ?_
            refine wl_vw (.bool true) 11 true 121 rfl rfl rfl rfl rfl (y_pickT rfl rfl rfl ⟨rfl, rfl⟩) ?_
            refine wl_v (.bool true) rfl rfl (y_pickT rfl rfl rfl ⟨rfl, rfl⟩) ?_
            refine wl_v (.bool true) rfl rfl (y_asg rfl rfl ⟨rfl, rfl⟩) ?_
            refine wl_nil fun F1796 hF1797 => ?_
            have s1798 : F1796 134 = undef := (hF1797 134).trans s1788
            have s1799 : F1796 12 = .bool true := (hF1797 12).trans rfl
            clear hF1797
            refine then_normal ?_
            refine wq_ret ?_
            exact end_tmp (v := .bool true) s1798 rfl rfl s1799 ⟨rfl, K1784⟩
          · skip
            refine wq_region ?_
            refine wl_v (.bool true) rfl rfl (y_mov rfl s1789 ⟨rfl, rfl⟩) ?_
            refine wl_v (.bool true) rfl rfl (y_mov rfl rfl ⟨rfl, rfl⟩) ?_
            refine wl_vw (.bool true) 1 true 111 rfl rfl rfl rfl rfl (y_mov rfl s1792 ⟨rfl, rfl⟩) ?_
            refine wl_v (.bool true) rfl rfl (y_pickT rfl rfl rfl ⟨rfl, rfl⟩) ?_
            refine wl_v (.bool true) rfl rfl (y_mov rfl rfl ⟨rfl, rfl⟩) ?_
            refine wl_vw (.bool true) 4 true 114 rfl rfl rfl rfl rfl (y_mov rfl s1793 ⟨rfl, rfl⟩) ?_
            refine wl_v (.bool true) rfl rfl (y_pickT rfl rfl rfl ⟨rfl, rfl⟩) ?_
            refine wl_v (.bool true) rfl rfl (y_mov rfl rfl ⟨rfl, rfl⟩) ?_
            refine wl_vw (.int .i64 (rdE ((((wrB (K) (Q) (D) (F) ([]))).drop (0)).take (((min (c % 10) (wrB K Q D F []).length)) - (0))))) 7 true 117 rfl rfl rfl rfl rfl (y_mov rfl s1791 ⟨rfl, rfl⟩) ?_
            refine wl_vw (.bool true) 7 true 117 rfl rfl rfl rfl rfl (y_eqlI rfl rfl rfl (decide_eq_true (rd_short (by simp; omega))) ⟨rfl, rfl⟩) ?_
            refine wl_v (.bool true) rfl rfl (y_pickT rfl rfl rfl ⟨rfl, rfl⟩) ?_
            refine wl_v (.bool true) rfl rfl (y_mov rfl rfl ⟨rfl, rfl⟩) ?_
            refine wl_vw (v) 11 true 121 rfl rfl rfl rfl rfl (y_mov rfl s1787 ⟨rfl, rfl⟩) ?_
            refine wl_vw (.int .i64 ((((l).length : Nat) : Int))) 11 true 121 rfl rfl rfl rfl rfl (y_lenV rfl rfl rfl B1772 ⟨rfl, rfl⟩) ?_
            refine wl_vw (.bool false) 11 true 121 rfl rfl rfl rfl rfl (y_eqlI rfl rfl rfl (decide_eq_false d1795) ⟨rfl, rfl⟩) ?_
            refine wl_vw (.bool false) 11 true 121 rfl rfl rfl rfl rfl (y_mov rfl rfl ⟨rfl, rfl⟩) ?_
            refine wl_vw (.int .i64 (seqE (W) (H) (R) (B))) 15 false 125 rfl rfl rfl rfl rfl (y_mov rfl s1790 ⟨rfl, rfl⟩) ?_
            refine wl_vw (.bool true) 15 false 125 rfl rfl rfl rfl rfl (y_neqI rfl rfl rfl (decide_eq_true d1605) ⟨rfl, rfl⟩) ?_
            refine wl_vw (.bool true) 11 true 121 rfl rfl rfl rfl rfl (y_pickF rfl rfl rfl ⟨rfl, rfl⟩) ?_
            refine wl_vw (.bool true) 11 true 121 rfl rfl rfl rfl rfl (y_mov rfl rfl ⟨rfl, rfl⟩) ?_
            refine wl_unless 19 false 129 rfl rfl rfl (Or.inl rfl) rfl ?_
            refine wl_unless 19 false 129 rfl rfl rfl (Or.inl rfl) rfl ?_
            refine wl_vw (.bool true) 11 true 121 rfl rfl rfl rfl rfl (y_pickT rfl rfl rfl ⟨rfl, rfl⟩) ?_
            refine wl_v (.bool true) rfl rfl (y_pickT rfl rfl rfl ⟨rfl, rfl⟩) ?_
            refine wl_v (.bool true) rfl rfl (y_asg rfl rfl ⟨rfl, rfl⟩) ?_
            refine wl_nil fun F1800 hF1801 => ?_
            have s1802 : F1800 134 = undef := (hF1801 134).trans s1788
            have s1803 : F1800 12 = .bool true := (hF1801 12).trans rfl
            clear hF1801
            refine then_normal ?_
            refine wq_ret ?_
            exact end_tmp (v := .bool true) s1802 rfl rfl s1803 ⟨rfl, K1784⟩
        · skip
          by_cases d1804 : (seqE (W2) (H2) (R2) (B2)) ≠ (0)
          · skip
            refine wq_said [some 84, some 85, some 86, some 87, some 88, some 89, some 90, some 91, some 92, some 93, some 94, some 95, some 96, some 97, some 98, some 99, some 100, some 26] [Pd.eq (.int .i64 (seqE (W) (H) (R) (B))), Pd.eq (.bool false), Pd.eq (.bool false), Pd.eq (.int .i64 (seqE (W2) (H2) (R2) (B2))), Pd.eq (.bool true), Pd.eq (.bool true), Pd.eq (.bool true), Pd.eq undef, Pd.eq undef, Pd.eq undef, Pd.eq undef, Pd.eq undef, Pd.eq undef, Pd.eq undef, Pd.eq undef, Pd.eq undef, Pd.eq (.bool true), Pd.eq (.bool true)] (by kernel_rfl) (by kernel_rfl) ?_ ?_
            · refine stepsF_cons ?_ ?_
              · refine StepF.one rfl fun F_ w_ hR hout hD => ?_
                exact (y_mov rfl ((hout 19 rfl (by decide)).trans s1600) ⟨rfl, Kept.refl _ _⟩)
              refine stepsF_cons ?_ ?_
              · refine StepF.one rfl fun F_ w_ hR hout hD => ?_
                have g84 : F_ 84 = .int .i64 (seqE (W) (H) (R) (B)) := (hD.get 0 rfl rfl rfl)
                exact (y_neqI rfl g84 rfl (decide_eq_false d1605) ⟨rfl, Kept.refl _ _⟩)
              refine stepsF_cons ?_ ?_
              · refine StepF.one rfl fun F_ w_ hR hout hD => ?_
                have g85 : F_ 85 = .bool false := (hD.get 0 rfl rfl rfl)
                exact (y_mov rfl g85 ⟨rfl, Kept.refl _ _⟩)
              refine stepsF_cons ?_ ?_
              · refine StepF.when 2 false 86 rfl rfl fun F_ w_ hR hout hD => ?_
                have g86 : F_ 86 = .bool false := (hD.get 0 rfl rfl rfl)
                exact ⟨g86, (y_mov rfl ((hout 21 rfl (by decide)).trans s1602) ⟨rfl, Kept.refl _ _⟩)⟩
              refine stepsF_cons ?_ ?_
              · refine StepF.when 2 false 86 rfl rfl fun F_ w_ hR hout hD => ?_
                have g86 : F_ 86 = .bool false := (hD.get 1 rfl rfl rfl)
                have g87 : F_ 87 = .int .i64 (seqE (W2) (H2) (R2) (B2)) := (hD.get 0 rfl rfl rfl)
                exact ⟨g86, (y_neqI rfl g87 rfl (decide_eq_true d1804) ⟨rfl, Kept.refl _ _⟩)⟩
              refine stepsF_cons ?_ ?_
              · refine StepF.one rfl fun F_ w_ hR hout hD => ?_
                have g86 : F_ 86 = .bool false := (hD.get 0 rfl rfl rfl)
                have g88 : F_ 88 = .bool true := (hD.get 1 rfl rfl rfl)
                exact (y_pickF rfl g86 g88 ⟨rfl, Kept.refl _ _⟩)
              refine stepsF_cons ?_ ?_
              · refine StepF.one rfl fun F_ w_ hR hout hD => ?_
                have g89 : F_ 89 = .bool true := (hD.get 0 rfl rfl rfl)
                exact (y_mov rfl g89 ⟨rfl, Kept.refl _ _⟩)
              refine stepsF_cons ?_ ?_
              · refine StepF.unless 6 false 90 rfl rfl fun F_ w_ hR hout hD => ?_
                have g90 : F_ 90 = .bool true := (hD.get 0 rfl rfl rfl)
                exact ⟨Or.inl g90, rfl⟩
              refine stepsF_cons ?_ ?_
              · refine StepF.unless 6 false 90 rfl rfl fun F_ w_ hR hout hD => ?_
                have g90 : F_ 90 = .bool true := (hD.get 1 rfl rfl rfl)
                exact ⟨Or.inl g90, rfl⟩
              refine stepsF_cons ?_ ?_
              · refine StepF.unless 6 false 90 rfl rfl fun F_ w_ hR hout hD => ?_
                have g90 : F_ 90 = .bool true := (hD.get 0 rfl rfl rfl)
                exact ⟨Or.inl g90, rfl⟩
              refine stepsF_cons ?_ ?_
              · refine StepF.unless 6 false 90 rfl rfl fun F_ w_ hR hout hD => ?_
                have g90 : F_ 90 = .bool true := (hD.get 1 rfl rfl rfl)
                exact ⟨Or.inl g90, rfl⟩
              refine stepsF_cons ?_ ?_
              · refine StepF.unless 6 false 90 rfl rfl fun F_ w_ hR hout hD => ?_
                have g90 : F_ 90 = .bool true := (hD.get 2 rfl rfl rfl)
                exact ⟨Or.inl g90, rfl⟩
              refine stepsF_cons ?_ ?_
              · refine StepF.unless 6 false 90 rfl rfl fun F_ w_ hR hout hD => ?_
                have g90 : F_ 90 = .bool true := (hD.get 0 rfl rfl rfl)
                exact ⟨Or.inl g90, rfl⟩
              refine stepsF_cons ?_ ?_
              · refine StepF.unless 6 false 90 rfl rfl fun F_ w_ hR hout hD => ?_
                have g90 : F_ 90 = .bool true := (hD.get 0 rfl rfl rfl)
                exact ⟨Or.inl g90, rfl⟩
              refine stepsF_cons ?_ ?_
              · refine StepF.unless 6 false 90 rfl rfl fun F_ w_ hR hout hD => ?_
                have g90 : F_ 90 = .bool true := (hD.get 2 rfl rfl rfl)
                exact ⟨Or.inl g90, rfl⟩
              refine stepsF_cons ?_ ?_
              · refine StepF.unless 6 false 90 rfl rfl fun F_ w_ hR hout hD => ?_
                have g90 : F_ 90 = .bool true := (hD.get 2 rfl rfl rfl)
                exact ⟨Or.inl g90, rfl⟩
              refine stepsF_cons ?_ ?_
              · refine StepF.one rfl fun F_ w_ hR hout hD => ?_
                have g90 : F_ 90 = .bool true := (hD.get 0 rfl rfl rfl)
                exact (y_pickT rfl g90 rfl ⟨rfl, Kept.refl _ _⟩)
              refine stepsF_cons ?_ ?_
              · refine StepF.one rfl fun F_ w_ hR hout hD => ?_
                have g100 : F_ 100 = .bool true := (hD.get 0 rfl rfl rfl)
                exact (y_asg rfl g100 ⟨rfl, Kept.refl _ _⟩)
              exact stepsF_nil
            intro v1805 F1806 w1807 k1808 G1809 hF1810
            have B1812 := B1582.all k1808 Apart.none
            have B1813 := B1583.all k1808 id
            have B1814 := B1584.all k1808 id
            have B1815 := B1585.all k1808 id
            have B1816 := B1586.all k1808 id
            have B1817 := B1587.all k1808 Apart.none
            have B1818 := B1588.all k1808 Apart.none
            have B1819 := B1589.all k1808 Apart.none
            have B1820 := B1590.all k1808 Apart.none
            have B1821 := B1591.all k1808 Apart.none
            have B1822 := B1592.all k1808 id
            have K1823 := K1593.trans k1808 (fun _ _ x => x.elim)
            have s1824 : F1806 4 = v := (hF1810 4).trans s1594
            have s1825 : F1806 134 = undef := (hF1810 134).trans s1595
            have s1826 : F1806 13 = .bool true := (hF1810 13).trans s1598
            have s1827 : F1806 18 = v156 := (hF1810 18).trans s1599
            have s1828 : F1806 19 = .int .i64 (seqE (W) (H) (R) (B)) := (hF1810 19).trans s1600
            have s1829 : F1806 24 = .int .i64 (rdE ((((wrB (K) (Q) (D) (F) ([]))).drop (0)).take (((min (c % 10) (wrB K Q D F []).length)) - (0)))) := (hF1810 24).trans s1603
            have s1830 : F1806 25 = .bool true := (hF1810 25).trans s1604
            have s1831 : F1806 26 = .bool true := (hF1810 26).trans (G1809 17 (by decide))
            clear G1809 hF1810
            refine then_normal ?_
            refine wq_seq ?_
            refine wq_region ?_
            refine wl_builtB0 rfl rfl rfl fun v1832 w1833 T1837 B1835 g1836 k1834 => ?_
            have gr1838 : Grew w0 noB (T1837) := Grew.new K1823 g1836
            have ap1839 : Apart (T1837) (T_b) := Apart.new g1836 (B1812).live
            have ap1840 : Apart (T1837) (onB p1) := Apart.new g1836 (onB_live (B1813).lt)
            have ap1841 : Apart (T1837) (onB p10) := Apart.new g1836 (onB_live (B1814).lt)
            have ap1842 : Apart (T1837) (onB p21) := Apart.new g1836 (onB_live (B1815).lt)
            have ap1843 : Apart (T1837) (onB p34) := Apart.new g1836 (onB_live (B1816).lt)
            have ap1844 : Apart (T1837) (T95) := Apart.new g1836 (B1817).live
            have ap1845 : Apart (T1837) (T125) := Apart.new g1836 (B1818).live
            have ap1846 : Apart (T1837) (T159) := Apart.new g1836 (B1819).live
            have ap1847 : Apart (T1837) (T197) := Apart.new g1836 (B1820).live
            have ap1848 : Apart (T1837) (T239) := Apart.new g1836 (B1821).live
            have ap1849 : Apart (T1837) (onB p262) := Apart.new g1836 (onB_live (B1822).lt)
            have B1850 := B1812.all k1834 Apart.none
            have B1851 := B1813.all k1834 id
            have B1852 := B1814.all k1834 id
            have B1853 := B1815.all k1834 id
            have B1854 := B1816.all k1834 id
            have B1855 := B1817.all k1834 Apart.none
            have B1856 := B1818.all k1834 Apart.none
            have B1857 := B1819.all k1834 Apart.none
            have B1858 := B1820.all k1834 Apart.none
            have B1859 := B1821.all k1834 Apart.none
            have B1860 := B1822.all k1834 id
            have K1861 := K1823.trans k1834 (fun _ _ x => x.elim)
            refine wl_v (v156) rfl rfl (y_mov rfl s1827 ⟨rfl, rfl⟩) ?_
            refine wl_appendB rfl rfl rfl rfl rfl rfl B1835 (B1857).byt (by first | omega | (simp; done) | (simp; omega)) fun v1862 w1863 T1867 B1865 g1866 k1864 => ?_
            have gr1868 := Grew.trans gr1838 K1861 g1866
            have ap1869 : Apart T1867 (T_b) := (ap1839).grew g1866 (B1850).live
            have ap1870 : Apart T1867 (onB p1) := (ap1840).grew g1866 (onB_live (B1851).lt)
            have ap1871 : Apart T1867 (onB p10) := (ap1841).grew g1866 (onB_live (B1852).lt)
            have ap1872 : Apart T1867 (onB p21) := (ap1842).grew g1866 (onB_live (B1853).lt)
            have ap1873 : Apart T1867 (onB p34) := (ap1843).grew g1866 (onB_live (B1854).lt)
            have ap1874 : Apart T1867 (T95) := (ap1844).grew g1866 (B1855).live
            have ap1875 : Apart T1867 (T125) := (ap1845).grew g1866 (B1856).live
            have ap1876 : Apart T1867 (T159) := (ap1846).grew g1866 (B1857).live
            have ap1877 : Apart T1867 (T197) := (ap1847).grew g1866 (B1858).live
            have ap1878 : Apart T1867 (T239) := (ap1848).grew g1866 (B1859).live
            have ap1879 : Apart T1867 (onB p262) := (ap1849).grew g1866 (onB_live (B1860).lt)
            have B1880 := B1850.all k1864 (fun i h x => (((ap1839).symm) i h x))
            have B1881 := B1851.all k1864 (fun x => (((ap1840).symm) p1 rfl x))
            have B1882 := B1852.all k1864 (fun x => (((ap1841).symm) p10 rfl x))
            have B1883 := B1853.all k1864 (fun x => (((ap1842).symm) p21 rfl x))
            have B1884 := B1854.all k1864 (fun x => (((ap1843).symm) p34 rfl x))
            have B1885 := B1855.all k1864 (fun i h x => (((ap1844).symm) i h x))
            have B1886 := B1856.all k1864 (fun i h x => (((ap1845).symm) i h x))
            have B1887 := B1857.all k1864 (fun i h x => (((ap1846).symm) i h x))
            have B1888 := B1858.all k1864 (fun i h x => (((ap1847).symm) i h x))
            have B1889 := B1859.all k1864 (fun i h x => (((ap1848).symm) i h x))
            have B1890 := B1860.all k1864 (fun x => (((ap1849).symm) p262 rfl x))
            have K1891 := K1861.trans k1864 (Grew.ok (S := fun _ => False) gr1838 noB_le)
            refine wl_v (v) rfl rfl (y_mov rfl s1824 ⟨rfl, rfl⟩) ?_
            refine wl_appendB rfl rfl rfl rfl rfl rfl B1865 B1880 (by first | omega | (simp; done) | (simp; omega)) fun v1892 w1893 T1897 B1895 g1896 k1894 => ?_
            have gr1898 := Grew.trans gr1868 K1891 g1896
            have ap1899 : Apart T1897 (T_b) := (ap1869).grew g1896 (B1880).live
            have ap1900 : Apart T1897 (onB p1) := (ap1870).grew g1896 (onB_live (B1881).lt)
            have ap1901 : Apart T1897 (onB p10) := (ap1871).grew g1896 (onB_live (B1882).lt)
            have ap1902 : Apart T1897 (onB p21) := (ap1872).grew g1896 (onB_live (B1883).lt)
            have ap1903 : Apart T1897 (onB p34) := (ap1873).grew g1896 (onB_live (B1884).lt)
            have ap1904 : Apart T1897 (T95) := (ap1874).grew g1896 (B1885).live
            have ap1905 : Apart T1897 (T125) := (ap1875).grew g1896 (B1886).live
            have ap1906 : Apart T1897 (T159) := (ap1876).grew g1896 (B1887).live
            have ap1907 : Apart T1897 (T197) := (ap1877).grew g1896 (B1888).live
            have ap1908 : Apart T1897 (T239) := (ap1878).grew g1896 (B1889).live
            have ap1909 : Apart T1897 (onB p262) := (ap1879).grew g1896 (onB_live (B1890).lt)
            have B1910 := B1880.all k1894 (fun i h x => (((ap1869).symm) i h x))
            have B1911 := B1881.all k1894 (fun x => (((ap1870).symm) p1 rfl x))
            have B1912 := B1882.all k1894 (fun x => (((ap1871).symm) p10 rfl x))
            have B1913 := B1883.all k1894 (fun x => (((ap1872).symm) p21 rfl x))
            have B1914 := B1884.all k1894 (fun x => (((ap1873).symm) p34 rfl x))
            have B1915 := B1885.all k1894 (fun i h x => (((ap1874).symm) i h x))
            have B1916 := B1886.all k1894 (fun i h x => (((ap1875).symm) i h x))
            have B1917 := B1887.all k1894 (fun i h x => (((ap1876).symm) i h x))
            have B1918 := B1888.all k1894 (fun i h x => (((ap1877).symm) i h x))
            have B1919 := B1889.all k1894 (fun i h x => (((ap1878).symm) i h x))
            have B1920 := B1890.all k1894 (fun x => (((ap1879).symm) p262 rfl x))
            have K1921 := K1891.trans k1894 (Grew.ok (S := fun _ => False) gr1868 noB_le)
            refine wl_call (R := fun v_ w_ => v_ = .tuple #[.agg #[.int .i64 (od t0 (((([] : List Nat)) ++ ((opB (W) (H) (R) (B)))) ++ (l))), .int .i64 (od t1 (((([] : List Nat)) ++ ((opB (W) (H) (R) (B)))) ++ (l))), .int .i64 (od t2 (((([] : List Nat)) ++ ((opB (W) (H) (R) (B)))) ++ (l))), .int .i64 (od t3 (((([] : List Nat)) ++ ((opB (W) (H) (R) (B)))) ++ (l)))], .int .i64 (odE (((([] : List Nat)) ++ ((opB (W) (H) (R) (B)))) ++ (l)))] ∧ Kept (fun _ => False) w1893 w_) rfl rfl (y_cs rfl rfl rfl (fun _ _ => by kernel_rfl) (ev_func _) (vsC rfl vsN) (hd_opened (v1892) (((([] : List Nat)) ++ ((opB (W) (H) (R) (B)))) ++ (l)) (T1897) _  (B1895).byt ) (fun e_ w_ h_ => ⟨_, h_.1, rfl, h_.2⟩)) ?_
            rintro _ w1922 ⟨rfl, k1923⟩
            have B1924 := B1910.all k1923 Apart.none
            have B1925 := B1911.all k1923 id
            have B1926 := B1912.all k1923 id
            have B1927 := B1913.all k1923 id
            have B1928 := B1914.all k1923 id
            have B1929 := B1915.all k1923 Apart.none
            have B1930 := B1916.all k1923 Apart.none
            have B1931 := B1917.all k1923 Apart.none
            have B1932 := B1918.all k1923 Apart.none
            have B1933 := B1919.all k1923 Apart.none
            have B1934 := B1920.all k1923 id
            have B1935 := B1895.all k1923 Apart.none
            have K1936 := K1921.trans k1923 (fun _ _ x => x.elim)
            refine wl_v (.tuple #[.agg #[.int .i64 (od t0 (((([] : List Nat)) ++ ((opB (W) (H) (R) (B)))) ++ (l))), .int .i64 (od t1 (((([] : List Nat)) ++ ((opB (W) (H) (R) (B)))) ++ (l))), .int .i64 (od t2 (((([] : List Nat)) ++ ((opB (W) (H) (R) (B)))) ++ (l))), .int .i64 (od t3 (((([] : List Nat)) ++ ((opB (W) (H) (R) (B)))) ++ (l)))], .int .i64 (odE (((([] : List Nat)) ++ ((opB (W) (H) (R) (B)))) ++ (l)))]) rfl rfl (y_mov rfl rfl ⟨rfl, rfl⟩) ?_
            refine wl_v (.agg #[.int .i64 (od t0 (((([] : List Nat)) ++ ((opB (W) (H) (R) (B)))) ++ (l))), .int .i64 (od t1 (((([] : List Nat)) ++ ((opB (W) (H) (R) (B)))) ++ (l))), .int .i64 (od t2 (((([] : List Nat)) ++ ((opB (W) (H) (R) (B)))) ++ (l))), .int .i64 (od t3 (((([] : List Nat)) ++ ((opB (W) (H) (R) (B)))) ++ (l)))]) rfl rfl (y_ext rfl rfl rfl ⟨rfl, rfl⟩) ?_
            refine wl_v (.int .i64 (odE (((([] : List Nat)) ++ ((opB (W) (H) (R) (B)))) ++ (l)))) rfl rfl (y_ext rfl rfl rfl ⟨rfl, rfl⟩) ?_
            refine wl_alloc_stc (n := 4) (vs := [.int .i64 (0), .int .i64 (0), .int .i64 (0), .int .i64 (0)]) rfl rfl rfl (by kernel_rfl) fun p1937 w1938 B1940 g1941 k1939 => ?_
            have gr1942 : Grew w0 noB (onB p1937) := Grew.new K1936 g1941
            have ap1943 : Apart (onB p1937) (T_b) := Apart.new g1941 (B1924).live
            have ap1944 : Apart (onB p1937) (onB p1) := Apart.new g1941 (onB_live (B1925).lt)
            have ap1945 : Apart (onB p1937) (onB p10) := Apart.new g1941 (onB_live (B1926).lt)
            have ap1946 : Apart (onB p1937) (onB p21) := Apart.new g1941 (onB_live (B1927).lt)
            have ap1947 : Apart (onB p1937) (onB p34) := Apart.new g1941 (onB_live (B1928).lt)
            have ap1948 : Apart (onB p1937) (T95) := Apart.new g1941 (B1929).live
            have ap1949 : Apart (onB p1937) (T125) := Apart.new g1941 (B1930).live
            have ap1950 : Apart (onB p1937) (T159) := Apart.new g1941 (B1931).live
            have ap1951 : Apart (onB p1937) (T197) := Apart.new g1941 (B1932).live
            have ap1952 : Apart (onB p1937) (T239) := Apart.new g1941 (B1933).live
            have ap1953 : Apart (onB p1937) (onB p262) := Apart.new g1941 (onB_live (B1934).lt)
            have ap1954 : Apart (onB p1937) (T1897) := Apart.new g1941 (B1935).live
            have B1955 := B1924.all k1939 Apart.none
            have B1956 := B1925.all k1939 id
            have B1957 := B1926.all k1939 id
            have B1958 := B1927.all k1939 id
            have B1959 := B1928.all k1939 id
            have B1960 := B1929.all k1939 Apart.none
            have B1961 := B1930.all k1939 Apart.none
            have B1962 := B1931.all k1939 Apart.none
            have B1963 := B1932.all k1939 Apart.none
            have B1964 := B1933.all k1939 Apart.none
            have B1965 := B1934.all k1939 id
            have B1966 := B1935.all k1939 Apart.none
            have K1967 := K1936.trans k1939 (fun _ _ x => x.elim)
            refine wl_store_stc (us := [.int .i64 (od t0 (((([] : List Nat)) ++ ((opB (W) (H) (R) (B)))) ++ (l))), .int .i64 (od t1 (((([] : List Nat)) ++ ((opB (W) (H) (R) (B)))) ++ (l))), .int .i64 (od t2 (((([] : List Nat)) ++ ((opB (W) (H) (R) (B)))) ++ (l))), .int .i64 (od t3 (((([] : List Nat)) ++ ((opB (W) (H) (R) (B)))) ++ (l)))]) stcT_seq rfl rfl rfl rfl rfl B1940 rfl (oneI rfl (oneI rfl (oneI rfl (oneI rfl oneN)))) fun w1968 B1969 k1970 => ?_
            have B1971 := B1955.all k1970 (fun i h x => (((ap1943).symm) i h x))
            have B1972 := B1956.all k1970 (fun x => (((ap1944).symm) p1 rfl x))
            have B1973 := B1957.all k1970 (fun x => (((ap1945).symm) p10 rfl x))
            have B1974 := B1958.all k1970 (fun x => (((ap1946).symm) p21 rfl x))
            have B1975 := B1959.all k1970 (fun x => (((ap1947).symm) p34 rfl x))
            have B1976 := B1960.all k1970 (fun i h x => (((ap1948).symm) i h x))
            have B1977 := B1961.all k1970 (fun i h x => (((ap1949).symm) i h x))
            have B1978 := B1962.all k1970 (fun i h x => (((ap1950).symm) i h x))
            have B1979 := B1963.all k1970 (fun i h x => (((ap1951).symm) i h x))
            have B1980 := B1964.all k1970 (fun i h x => (((ap1952).symm) i h x))
            have B1981 := B1965.all k1970 (fun x => (((ap1953).symm) p262 rfl x))
            have B1982 := B1966.all k1970 (fun i h x => (((ap1954).symm) i h x))
            have K1983 := K1967.trans k1970 (Grew.ok (S := fun _ => False) gr1942 noB_le)
            refine wl_v (.int .i64 (odE (((([] : List Nat)) ++ ((opB (W) (H) (R) (B)))) ++ (l)))) rfl rfl (y_asg rfl rfl ⟨rfl, rfl⟩) ?_
            refine wl_nil fun F1984 hF1985 => ?_
            have s1986 : F1984 4 = v := (hF1985 4).trans s1824
            have s1987 : F1984 134 = undef := (hF1985 134).trans s1825
            have s1988 : F1984 13 = .bool true := (hF1985 13).trans s1826
            have s1989 : F1984 19 = .int .i64 (seqE (W) (H) (R) (B)) := (hF1985 19).trans s1828
            have s1990 : F1984 24 = .int .i64 (rdE ((((wrB (K) (Q) (D) (F) ([]))).drop (0)).take (((min (c % 10) (wrB K Q D F []).length)) - (0)))) := (hF1985 24).trans s1829
            have s1991 : F1984 25 = .bool true := (hF1985 25).trans s1830
            have s1992 : F1984 26 = .bool true := (hF1985 26).trans s1831
            have s1993 : F1984 28 = .int .i64 (odE (((([] : List Nat)) ++ ((opB (W) (H) (R) (B)))) ++ (l))) := (hF1985 28).trans rfl
            clear hF1985
            refine then_normal ?_
            refine wq_seq ?_
            by_cases d1994 : ((((l).length : Nat) : Int)) = (0)
            · skip
              refine wq_region ?_
              refine wl_v (.bool true) rfl rfl (y_mov rfl s1988 ⟨rfl, rfl⟩) ?_
              refine wl_v (.bool true) rfl rfl (y_mov rfl rfl ⟨rfl, rfl⟩) ?_
              refine wl_vw (.bool true) 1 true 111 rfl rfl rfl rfl rfl (y_mov rfl s1991 ⟨rfl, rfl⟩) ?_
              refine wl_v (.bool true) rfl rfl (y_pickT rfl rfl rfl ⟨rfl, rfl⟩) ?_
              refine wl_v (.bool true) rfl rfl (y_mov rfl rfl ⟨rfl, rfl⟩) ?_
              refine wl_vw (.bool true) 4 true 114 rfl rfl rfl rfl rfl (y_mov rfl s1992 ⟨rfl, rfl⟩) ?_
              refine wl_v (.bool true) rfl rfl (y_pickT rfl rfl rfl ⟨rfl, rfl⟩) ?_
              refine wl_v (.bool true) rfl rfl (y_mov rfl rfl ⟨rfl, rfl⟩) ?_
              refine wl_vw (.int .i64 (rdE ((((wrB (K) (Q) (D) (F) ([]))).drop (0)).take (((min (c % 10) (wrB K Q D F []).length)) - (0))))) 7 true 117 rfl rfl rfl rfl rfl (y_mov rfl s1990 ⟨rfl, rfl⟩) ?_
              refine wl_vw (.bool true) 7 true 117 rfl rfl rfl rfl rfl (y_eqlI rfl rfl rfl (decide_eq_true (rd_short (by simp; omega))) ⟨rfl, rfl⟩) ?_
              refine wl_v (.bool true) rfl rfl (y_pickT rfl rfl rfl ⟨rfl, rfl⟩) ?_
              refine wl_v (.bool true) rfl rfl (y_mov rfl rfl ⟨rfl, rfl⟩) ?_
              refine wl_vw (v) 11 true 121 rfl rfl rfl rfl rfl (y_mov rfl s1986 ⟨rfl, rfl⟩) ?_
              refine wl_vw (.int .i64 ((((l).length : Nat) : Int))) 11 true 121 rfl rfl rfl rfl rfl (y_lenV rfl rfl rfl B1971 ⟨rfl, rfl⟩) ?_
              refine wl_vw (.bool true) 11 true 121 rfl rfl rfl rfl rfl (y_eqlI rfl rfl rfl (decide_eq_true d1994) ⟨rfl, rfl⟩) ?_
              refine wl_vw (.bool true) 11 true 121 rfl rfl rfl rfl rfl (y_mov rfl rfl ⟨rfl, rfl⟩) ?_
              refine wl_unless 15 false 125 rfl rfl rfl (Or.inl rfl) rfl ?_
              refine wl_unless 15 false 125 rfl rfl rfl (Or.inl rfl) rfl ?_
              refine wl_vw (.bool true) 11 true 121 rfl rfl rfl rfl rfl (y_pickT rfl rfl rfl ⟨rfl, rfl⟩) ?_
              refine wl_vw (.bool true) 11 true 121 rfl rfl rfl rfl rfl (y_mov rfl rfl ⟨rfl, rfl⟩) ?_
              refine wl_unless 19 false 129 rfl rfl rfl (Or.inl rfl) rfl ?_
              refine wl_unless 19 false 129 rfl rfl rfl (Or.inl rfl) rfl ?_
              refine wl_vw (.bool true) 11 true 121 rfl rfl rfl rfl rfl (y_pickT rfl rfl rfl ⟨rfl, rfl⟩) ?_
              refine wl_v (.bool true) rfl rfl (y_pickT rfl rfl rfl ⟨rfl, rfl⟩) ?_
              refine wl_v (.bool true) rfl rfl (y_asg rfl rfl ⟨rfl, rfl⟩) ?_
              refine wl_nil fun F1995 hF1996 => ?_
              have s1997 : F1995 134 = undef := (hF1996 134).trans s1987
              have s1998 : F1995 12 = .bool true := (hF1996 12).trans rfl
              clear hF1996
              refine then_normal ?_
              refine wq_ret ?_
              exact end_tmp (v := .bool true) s1997 rfl rfl s1998 ⟨rfl, K1983⟩
            · skip
              refine wq_region ?_
              refine wl_v (.bool true) rfl rfl (y_mov rfl s1988 ⟨rfl, rfl⟩) ?_
              refine wl_v (.bool true) rfl rfl (y_mov rfl rfl ⟨rfl, rfl⟩) ?_
              refine wl_vw (.bool true) 1 true 111 rfl rfl rfl rfl rfl (y_mov rfl s1991 ⟨rfl, rfl⟩) ?_
              refine wl_v (.bool true) rfl rfl (y_pickT rfl rfl rfl ⟨rfl, rfl⟩) ?_
              refine wl_v (.bool true) rfl rfl (y_mov rfl rfl ⟨rfl, rfl⟩) ?_
              refine wl_vw (.bool true) 4 true 114 rfl rfl rfl rfl rfl (y_mov rfl s1992 ⟨rfl, rfl⟩) ?_
              refine wl_v (.bool true) rfl rfl (y_pickT rfl rfl rfl ⟨rfl, rfl⟩) ?_
              refine wl_v (.bool true) rfl rfl (y_mov rfl rfl ⟨rfl, rfl⟩) ?_
              refine wl_vw (.int .i64 (rdE ((((wrB (K) (Q) (D) (F) ([]))).drop (0)).take (((min (c % 10) (wrB K Q D F []).length)) - (0))))) 7 true 117 rfl rfl rfl rfl rfl (y_mov rfl s1990 ⟨rfl, rfl⟩) ?_
              refine wl_vw (.bool true) 7 true 117 rfl rfl rfl rfl rfl (y_eqlI rfl rfl rfl (decide_eq_true (rd_short (by simp; omega))) ⟨rfl, rfl⟩) ?_
              refine wl_v (.bool true) rfl rfl (y_pickT rfl rfl rfl ⟨rfl, rfl⟩) ?_
              refine wl_v (.bool true) rfl rfl (y_mov rfl rfl ⟨rfl, rfl⟩) ?_
              refine wl_vw (v) 11 true 121 rfl rfl rfl rfl rfl (y_mov rfl s1986 ⟨rfl, rfl⟩) ?_
              refine wl_vw (.int .i64 ((((l).length : Nat) : Int))) 11 true 121 rfl rfl rfl rfl rfl (y_lenV rfl rfl rfl B1971 ⟨rfl, rfl⟩) ?_
              refine wl_vw (.bool false) 11 true 121 rfl rfl rfl rfl rfl (y_eqlI rfl rfl rfl (decide_eq_false d1994) ⟨rfl, rfl⟩) ?_
              refine wl_vw (.bool false) 11 true 121 rfl rfl rfl rfl rfl (y_mov rfl rfl ⟨rfl, rfl⟩) ?_
              refine wl_vw (.int .i64 (seqE (W) (H) (R) (B))) 15 false 125 rfl rfl rfl rfl rfl (y_mov rfl s1989 ⟨rfl, rfl⟩) ?_
              refine wl_vw (.bool false) 15 false 125 rfl rfl rfl rfl rfl (y_neqI rfl rfl rfl (decide_eq_false d1605) ⟨rfl, rfl⟩) ?_
              refine wl_vw (.bool false) 11 true 121 rfl rfl rfl rfl rfl (y_pickF rfl rfl rfl ⟨rfl, rfl⟩) ?_
              refine wl_vw (.bool false) 11 true 121 rfl rfl rfl rfl rfl (y_mov rfl rfl ⟨rfl, rfl⟩) ?_
              refine wl_vw (.int .i64 (odE (((([] : List Nat)) ++ ((opB (W) (H) (R) (B)))) ++ (l)))) 19 false 129 rfl rfl rfl rfl rfl (y_mov rfl s1993 ⟨rfl, rfl⟩) ?_
              refine wl_vw (.bool true) 19 false 129 rfl rfl rfl rfl rfl (y_eqlI rfl rfl rfl (decide_eq_true (od_long (by have h := opB_len (seqE_iff.1 (show seqE W H R B = 0 by first | assumption | (apply Decidable.byContradiction; assumption))); rw [List.nil_append, List.length_append]; omega))) ⟨rfl, rfl⟩) ?_
              refine wl_vw (.bool true) 11 true 121 rfl rfl rfl rfl rfl (y_pickF rfl rfl rfl ⟨rfl, rfl⟩) ?_
              refine wl_v (.bool true) rfl rfl (y_pickT rfl rfl rfl ⟨rfl, rfl⟩) ?_
              refine wl_v (.bool true) rfl rfl (y_asg rfl rfl ⟨rfl, rfl⟩) ?_
              refine wl_nil fun F1999 hF2000 => ?_
              have s2001 : F1999 134 = undef := (hF2000 134).trans s1987
              have s2002 : F1999 12 = .bool true := (hF2000 12).trans rfl
              clear hF2000
              refine then_normal ?_
              refine wq_ret ?_
              exact end_tmp (v := .bool true) s2001 rfl rfl s2002 ⟨rfl, K1983⟩
          · skip
            refine wq_said [some 84, some 85, some 86, some 87, some 88, some 89, some 90, some 91, some 92, some 93, some 94, some 95, some 96, some 97, some 98, some 99, some 100, some 26] [Pd.eq (.int .i64 (seqE (W) (H) (R) (B))), Pd.eq (.bool false), Pd.eq (.bool false), Pd.eq (.int .i64 (seqE (W2) (H2) (R2) (B2))), Pd.eq (.bool false), Pd.eq (.bool false), Pd.eq (.bool false), Pd.eq (v156), Pd.eq (.string (textOf ((opB (W) (H) (R) (B))))), Pd.eq (v194), Pd.eq (.string (textOf ((opB (W2) (H2) (R2) (B2))))), Pd.eq (.bool ((textOf ((opB (W) (H) (R) (B)))).toList == (textOf ((opB (W2) (H2) (R2) (B2)))).toList)), Pd.eq (.agg #[.int .i64 (W), .int .i64 (H), .int .i64 (R), .int .i64 (B)]), Pd.eq (.agg #[.int .i64 (W2), .int .i64 (H2), .int .i64 (R2), .int .i64 (B2)]), Pd.eq (.bool (sameI [W, H, R, B] [W2, H2, R2, B2])), Pd.eq (.bool true), Pd.eq (.bool true), Pd.eq (.bool true)] (by kernel_rfl) (by kernel_rfl) ?_ ?_
            · refine stepsF_cons ?_ ?_
              · refine StepF.one rfl fun F_ w_ hR hout hD => ?_
                exact (y_mov rfl ((hout 19 rfl (by decide)).trans s1600) ⟨rfl, Kept.refl _ _⟩)
              refine stepsF_cons ?_ ?_
              · refine StepF.one rfl fun F_ w_ hR hout hD => ?_
                have g84 : F_ 84 = .int .i64 (seqE (W) (H) (R) (B)) := (hD.get 0 rfl rfl rfl)
                exact (y_neqI rfl g84 rfl (decide_eq_false d1605) ⟨rfl, Kept.refl _ _⟩)
              refine stepsF_cons ?_ ?_
              · refine StepF.one rfl fun F_ w_ hR hout hD => ?_
                have g85 : F_ 85 = .bool false := (hD.get 0 rfl rfl rfl)
                exact (y_mov rfl g85 ⟨rfl, Kept.refl _ _⟩)
              refine stepsF_cons ?_ ?_
              · refine StepF.when 2 false 86 rfl rfl fun F_ w_ hR hout hD => ?_
                have g86 : F_ 86 = .bool false := (hD.get 0 rfl rfl rfl)
                exact ⟨g86, (y_mov rfl ((hout 21 rfl (by decide)).trans s1602) ⟨rfl, Kept.refl _ _⟩)⟩
              refine stepsF_cons ?_ ?_
              · refine StepF.when 2 false 86 rfl rfl fun F_ w_ hR hout hD => ?_
                have g86 : F_ 86 = .bool false := (hD.get 1 rfl rfl rfl)
                have g87 : F_ 87 = .int .i64 (seqE (W2) (H2) (R2) (B2)) := (hD.get 0 rfl rfl rfl)
                exact ⟨g86, (y_neqI rfl g87 rfl (decide_eq_false d1804) ⟨rfl, Kept.refl _ _⟩)⟩
              refine stepsF_cons ?_ ?_
              · refine StepF.one rfl fun F_ w_ hR hout hD => ?_
                have g86 : F_ 86 = .bool false := (hD.get 0 rfl rfl rfl)
                have g88 : F_ 88 = .bool false := (hD.get 1 rfl rfl rfl)
                exact (y_pickF rfl g86 g88 ⟨rfl, Kept.refl _ _⟩)
              refine stepsF_cons ?_ ?_
              · refine StepF.one rfl fun F_ w_ hR hout hD => ?_
                have g89 : F_ 89 = .bool false := (hD.get 0 rfl rfl rfl)
                exact (y_mov rfl g89 ⟨rfl, Kept.refl _ _⟩)
              refine stepsF_cons ?_ ?_
              · refine StepF.when 6 false 90 rfl rfl fun F_ w_ hR hout hD => ?_
                have g90 : F_ 90 = .bool false := (hD.get 0 rfl rfl rfl)
                exact ⟨g90, (y_mov rfl ((hout 18 rfl (by decide)).trans s1599) ⟨rfl, Kept.refl _ _⟩)⟩
              refine stepsF_cons ?_ ?_
              · refine StepF.when 6 false 90 rfl rfl fun F_ w_ hR hout hD => ?_
                have g90 : F_ 90 = .bool false := (hD.get 1 rfl rfl rfl)
                have g91 : F_ 91 = v156 := (hD.get 0 rfl rfl rfl)
                exact ⟨g90, (y_text rfl (bytes_at g91 ((B1589.all hR Apart.none)).byt) ⟨rfl, Kept.refl _ _⟩)⟩
              refine stepsF_cons ?_ ?_
              · refine StepF.when 6 false 90 rfl rfl fun F_ w_ hR hout hD => ?_
                have g90 : F_ 90 = .bool false := (hD.get 0 rfl rfl rfl)
                exact ⟨g90, (y_mov rfl ((hout 20 rfl (by decide)).trans s1601) ⟨rfl, Kept.refl _ _⟩)⟩
              refine stepsF_cons ?_ ?_
              · refine StepF.when 6 false 90 rfl rfl fun F_ w_ hR hout hD => ?_
                have g90 : F_ 90 = .bool false := (hD.get 1 rfl rfl rfl)
                have g93 : F_ 93 = v194 := (hD.get 0 rfl rfl rfl)
                exact ⟨g90, (y_text rfl (bytes_at g93 ((B1590.all hR Apart.none)).byt) ⟨rfl, Kept.refl _ _⟩)⟩
              refine stepsF_cons ?_ ?_
              · refine StepF.when 6 false 90 rfl rfl fun F_ w_ hR hout hD => ?_
                have g90 : F_ 90 = .bool false := (hD.get 2 rfl rfl rfl)
                have g92 : F_ 92 = .string (textOf ((opB (W) (H) (R) (B)))) := (hD.get 0 rfl rfl rfl)
                have g94 : F_ 94 = .string (textOf ((opB (W2) (H2) (R2) (B2)))) := (hD.get 1 rfl rfl rfl)
                exact ⟨g90, (y_eqlS rfl g92 g94 rfl ⟨rfl, Kept.refl _ _⟩)⟩
              refine stepsF_cons ?_ ?_
              · refine StepF.when 6 false 90 rfl rfl fun F_ w_ hR hout hD => ?_
                have g90 : F_ 90 = .bool false := (hD.get 0 rfl rfl rfl)
                exact ⟨g90, (y_load_stc stcT_seq rfl ((hout 8 rfl (by decide)).trans s1596) (B1585.all hR id) ⟨rfl, Kept.refl _ _⟩)⟩
              refine stepsF_cons ?_ ?_
              · refine StepF.when 6 false 90 rfl rfl fun F_ w_ hR hout hD => ?_
                have g90 : F_ 90 = .bool false := (hD.get 0 rfl rfl rfl)
                exact ⟨g90, (y_load_stc stcT_seq rfl ((hout 9 rfl (by decide)).trans s1597) (B1586.all hR id) ⟨rfl, Kept.refl _ _⟩)⟩
              refine stepsF_cons ?_ ?_
              · refine StepF.when 6 false 90 rfl rfl fun F_ w_ hR hout hD => ?_
                have g90 : F_ 90 = .bool false := (hD.get 2 rfl rfl rfl)
                have g96 : F_ 96 = .agg #[.int .i64 (W), .int .i64 (H), .int .i64 (R), .int .i64 (B)] := (hD.get 0 rfl rfl rfl)
                have g97 : F_ 97 = .agg #[.int .i64 (W2), .int .i64 (H2), .int .i64 (R2), .int .i64 (B2)] := (hD.get 1 rfl rfl rfl)
                exact ⟨g90, (y_eqlSI (xs := [W, H, R, B]) (ys := [W2, H2, R2, B2]) structI_seq rfl g96 g97 rfl rfl rfl ⟨rfl, Kept.refl _ _⟩)⟩
              refine stepsF_cons ?_ ?_
              · refine StepF.when 6 false 90 rfl rfl fun F_ w_ hR hout hD => ?_
                have g90 : F_ 90 = .bool false := (hD.get 2 rfl rfl rfl)
                have g95 : F_ 95 = .bool ((textOf ((opB (W) (H) (R) (B)))).toList == (textOf ((opB (W2) (H2) (R2) (B2)))).toList) := (hD.get 0 rfl rfl rfl)
                have g98 : F_ 98 = .bool (sameI [W, H, R, B] [W2, H2, R2, B2]) := (hD.get 1 rfl rfl rfl)
                exact ⟨g90, (y_eqlB rfl g95 g98 Try.underlying4 (hapart_seq (seqE_iff.1 (by first | assumption | (apply Decidable.byContradiction; assumption))) (seqE_iff.1 (by first | assumption | (apply Decidable.byContradiction; assumption)))) ⟨rfl, Kept.refl _ _⟩)⟩
              refine stepsF_cons ?_ ?_
              · refine StepF.one rfl fun F_ w_ hR hout hD => ?_
                have g90 : F_ 90 = .bool false := (hD.get 0 rfl rfl rfl)
                have g99 : F_ 99 = .bool true := (hD.get 1 rfl rfl rfl)
                exact (y_pickF rfl g90 g99 ⟨rfl, Kept.refl _ _⟩)
              refine stepsF_cons ?_ ?_
              · refine StepF.one rfl fun F_ w_ hR hout hD => ?_
                have g100 : F_ 100 = .bool true := (hD.get 0 rfl rfl rfl)
                exact (y_asg rfl g100 ⟨rfl, Kept.refl _ _⟩)
              exact stepsF_nil
            intro v2003 F2004 w2005 k2006 G2007 hF2008
            have B2010 := B1582.all k2006 Apart.none
            have B2011 := B1583.all k2006 id
            have B2012 := B1584.all k2006 id
            have B2013 := B1585.all k2006 id
            have B2014 := B1586.all k2006 id
            have B2015 := B1587.all k2006 Apart.none
            have B2016 := B1588.all k2006 Apart.none
            have B2017 := B1589.all k2006 Apart.none
            have B2018 := B1590.all k2006 Apart.none
            have B2019 := B1591.all k2006 Apart.none
            have B2020 := B1592.all k2006 id
            have K2021 := K1593.trans k2006 (fun _ _ x => x.elim)
            have s2022 : F2004 4 = v := (hF2008 4).trans s1594
            have s2023 : F2004 134 = undef := (hF2008 134).trans s1595
            have s2024 : F2004 13 = .bool true := (hF2008 13).trans s1598
            have s2025 : F2004 18 = v156 := (hF2008 18).trans s1599
            have s2026 : F2004 19 = .int .i64 (seqE (W) (H) (R) (B)) := (hF2008 19).trans s1600
            have s2027 : F2004 24 = .int .i64 (rdE ((((wrB (K) (Q) (D) (F) ([]))).drop (0)).take (((min (c % 10) (wrB K Q D F []).length)) - (0)))) := (hF2008 24).trans s1603
            have s2028 : F2004 25 = .bool true := (hF2008 25).trans s1604
            have s2029 : F2004 26 = .bool true := (hF2008 26).trans (G2007 17 (by decide))
            clear G2007 hF2008
            refine then_normal ?_
            refine wq_seq ?_
            refine wq_region ?_
            refine wl_builtB0 rfl rfl rfl fun v2030 w2031 T2035 B2033 g2034 k2032 => ?_
            have gr2036 : Grew w0 noB (T2035) := Grew.new K2021 g2034
            have ap2037 : Apart (T2035) (T_b) := Apart.new g2034 (B2010).live
            have ap2038 : Apart (T2035) (onB p1) := Apart.new g2034 (onB_live (B2011).lt)
            have ap2039 : Apart (T2035) (onB p10) := Apart.new g2034 (onB_live (B2012).lt)
            have ap2040 : Apart (T2035) (onB p21) := Apart.new g2034 (onB_live (B2013).lt)
            have ap2041 : Apart (T2035) (onB p34) := Apart.new g2034 (onB_live (B2014).lt)
            have ap2042 : Apart (T2035) (T95) := Apart.new g2034 (B2015).live
            have ap2043 : Apart (T2035) (T125) := Apart.new g2034 (B2016).live
            have ap2044 : Apart (T2035) (T159) := Apart.new g2034 (B2017).live
            have ap2045 : Apart (T2035) (T197) := Apart.new g2034 (B2018).live
            have ap2046 : Apart (T2035) (T239) := Apart.new g2034 (B2019).live
            have ap2047 : Apart (T2035) (onB p262) := Apart.new g2034 (onB_live (B2020).lt)
            have B2048 := B2010.all k2032 Apart.none
            have B2049 := B2011.all k2032 id
            have B2050 := B2012.all k2032 id
            have B2051 := B2013.all k2032 id
            have B2052 := B2014.all k2032 id
            have B2053 := B2015.all k2032 Apart.none
            have B2054 := B2016.all k2032 Apart.none
            have B2055 := B2017.all k2032 Apart.none
            have B2056 := B2018.all k2032 Apart.none
            have B2057 := B2019.all k2032 Apart.none
            have B2058 := B2020.all k2032 id
            have K2059 := K2021.trans k2032 (fun _ _ x => x.elim)
            refine wl_v (v156) rfl rfl (y_mov rfl s2025 ⟨rfl, rfl⟩) ?_
            refine wl_appendB rfl rfl rfl rfl rfl rfl B2033 (B2055).byt (by first | omega | (simp; done) | (simp; omega)) fun v2060 w2061 T2065 B2063 g2064 k2062 => ?_
            have gr2066 := Grew.trans gr2036 K2059 g2064
            have ap2067 : Apart T2065 (T_b) := (ap2037).grew g2064 (B2048).live
            have ap2068 : Apart T2065 (onB p1) := (ap2038).grew g2064 (onB_live (B2049).lt)
            have ap2069 : Apart T2065 (onB p10) := (ap2039).grew g2064 (onB_live (B2050).lt)
            have ap2070 : Apart T2065 (onB p21) := (ap2040).grew g2064 (onB_live (B2051).lt)
            have ap2071 : Apart T2065 (onB p34) := (ap2041).grew g2064 (onB_live (B2052).lt)
            have ap2072 : Apart T2065 (T95) := (ap2042).grew g2064 (B2053).live
            have ap2073 : Apart T2065 (T125) := (ap2043).grew g2064 (B2054).live
            have ap2074 : Apart T2065 (T159) := (ap2044).grew g2064 (B2055).live
            have ap2075 : Apart T2065 (T197) := (ap2045).grew g2064 (B2056).live
            have ap2076 : Apart T2065 (T239) := (ap2046).grew g2064 (B2057).live
            have ap2077 : Apart T2065 (onB p262) := (ap2047).grew g2064 (onB_live (B2058).lt)
            have B2078 := B2048.all k2062 (fun i h x => (((ap2037).symm) i h x))
            have B2079 := B2049.all k2062 (fun x => (((ap2038).symm) p1 rfl x))
            have B2080 := B2050.all k2062 (fun x => (((ap2039).symm) p10 rfl x))
            have B2081 := B2051.all k2062 (fun x => (((ap2040).symm) p21 rfl x))
            have B2082 := B2052.all k2062 (fun x => (((ap2041).symm) p34 rfl x))
            have B2083 := B2053.all k2062 (fun i h x => (((ap2042).symm) i h x))
            have B2084 := B2054.all k2062 (fun i h x => (((ap2043).symm) i h x))
            have B2085 := B2055.all k2062 (fun i h x => (((ap2044).symm) i h x))
            have B2086 := B2056.all k2062 (fun i h x => (((ap2045).symm) i h x))
            have B2087 := B2057.all k2062 (fun i h x => (((ap2046).symm) i h x))
            have B2088 := B2058.all k2062 (fun x => (((ap2047).symm) p262 rfl x))
            have K2089 := K2059.trans k2062 (Grew.ok (S := fun _ => False) gr2036 noB_le)
            refine wl_v (v) rfl rfl (y_mov rfl s2022 ⟨rfl, rfl⟩) ?_
            refine wl_appendB rfl rfl rfl rfl rfl rfl B2063 B2078 (by first | omega | (simp; done) | (simp; omega)) fun v2090 w2091 T2095 B2093 g2094 k2092 => ?_
            have gr2096 := Grew.trans gr2066 K2089 g2094
            have ap2097 : Apart T2095 (T_b) := (ap2067).grew g2094 (B2078).live
            have ap2098 : Apart T2095 (onB p1) := (ap2068).grew g2094 (onB_live (B2079).lt)
            have ap2099 : Apart T2095 (onB p10) := (ap2069).grew g2094 (onB_live (B2080).lt)
            have ap2100 : Apart T2095 (onB p21) := (ap2070).grew g2094 (onB_live (B2081).lt)
            have ap2101 : Apart T2095 (onB p34) := (ap2071).grew g2094 (onB_live (B2082).lt)
            have ap2102 : Apart T2095 (T95) := (ap2072).grew g2094 (B2083).live
            have ap2103 : Apart T2095 (T125) := (ap2073).grew g2094 (B2084).live
            have ap2104 : Apart T2095 (T159) := (ap2074).grew g2094 (B2085).live
            have ap2105 : Apart T2095 (T197) := (ap2075).grew g2094 (B2086).live
            have ap2106 : Apart T2095 (T239) := (ap2076).grew g2094 (B2087).live
            have ap2107 : Apart T2095 (onB p262) := (ap2077).grew g2094 (onB_live (B2088).lt)
            have B2108 := B2078.all k2092 (fun i h x => (((ap2067).symm) i h x))
            have B2109 := B2079.all k2092 (fun x => (((ap2068).symm) p1 rfl x))
            have B2110 := B2080.all k2092 (fun x => (((ap2069).symm) p10 rfl x))
            have B2111 := B2081.all k2092 (fun x => (((ap2070).symm) p21 rfl x))
            have B2112 := B2082.all k2092 (fun x => (((ap2071).symm) p34 rfl x))
            have B2113 := B2083.all k2092 (fun i h x => (((ap2072).symm) i h x))
            have B2114 := B2084.all k2092 (fun i h x => (((ap2073).symm) i h x))
            have B2115 := B2085.all k2092 (fun i h x => (((ap2074).symm) i h x))
            have B2116 := B2086.all k2092 (fun i h x => (((ap2075).symm) i h x))
            have B2117 := B2087.all k2092 (fun i h x => (((ap2076).symm) i h x))
            have B2118 := B2088.all k2092 (fun x => (((ap2077).symm) p262 rfl x))
            have K2119 := K2089.trans k2092 (Grew.ok (S := fun _ => False) gr2066 noB_le)
            refine wl_call (R := fun v_ w_ => v_ = .tuple #[.agg #[.int .i64 (od t0 (((([] : List Nat)) ++ ((opB (W) (H) (R) (B)))) ++ (l))), .int .i64 (od t1 (((([] : List Nat)) ++ ((opB (W) (H) (R) (B)))) ++ (l))), .int .i64 (od t2 (((([] : List Nat)) ++ ((opB (W) (H) (R) (B)))) ++ (l))), .int .i64 (od t3 (((([] : List Nat)) ++ ((opB (W) (H) (R) (B)))) ++ (l)))], .int .i64 (odE (((([] : List Nat)) ++ ((opB (W) (H) (R) (B)))) ++ (l)))] ∧ Kept (fun _ => False) w2091 w_) rfl rfl (y_cs rfl rfl rfl (fun _ _ => by kernel_rfl) (ev_func _) (vsC rfl vsN) (hd_opened (v2090) (((([] : List Nat)) ++ ((opB (W) (H) (R) (B)))) ++ (l)) (T2095) _  (B2093).byt ) (fun e_ w_ h_ => ⟨_, h_.1, rfl, h_.2⟩)) ?_
            rintro _ w2120 ⟨rfl, k2121⟩
            have B2122 := B2108.all k2121 Apart.none
            have B2123 := B2109.all k2121 id
            have B2124 := B2110.all k2121 id
            have B2125 := B2111.all k2121 id
            have B2126 := B2112.all k2121 id
            have B2127 := B2113.all k2121 Apart.none
            have B2128 := B2114.all k2121 Apart.none
            have B2129 := B2115.all k2121 Apart.none
            have B2130 := B2116.all k2121 Apart.none
            have B2131 := B2117.all k2121 Apart.none
            have B2132 := B2118.all k2121 id
            have B2133 := B2093.all k2121 Apart.none
            have K2134 := K2119.trans k2121 (fun _ _ x => x.elim)
            refine wl_v (.tuple #[.agg #[.int .i64 (od t0 (((([] : List Nat)) ++ ((opB (W) (H) (R) (B)))) ++ (l))), .int .i64 (od t1 (((([] : List Nat)) ++ ((opB (W) (H) (R) (B)))) ++ (l))), .int .i64 (od t2 (((([] : List Nat)) ++ ((opB (W) (H) (R) (B)))) ++ (l))), .int .i64 (od t3 (((([] : List Nat)) ++ ((opB (W) (H) (R) (B)))) ++ (l)))], .int .i64 (odE (((([] : List Nat)) ++ ((opB (W) (H) (R) (B)))) ++ (l)))]) rfl rfl (y_mov rfl rfl ⟨rfl, rfl⟩) ?_
            refine wl_v (.agg #[.int .i64 (od t0 (((([] : List Nat)) ++ ((opB (W) (H) (R) (B)))) ++ (l))), .int .i64 (od t1 (((([] : List Nat)) ++ ((opB (W) (H) (R) (B)))) ++ (l))), .int .i64 (od t2 (((([] : List Nat)) ++ ((opB (W) (H) (R) (B)))) ++ (l))), .int .i64 (od t3 (((([] : List Nat)) ++ ((opB (W) (H) (R) (B)))) ++ (l)))]) rfl rfl (y_ext rfl rfl rfl ⟨rfl, rfl⟩) ?_
            refine wl_v (.int .i64 (odE (((([] : List Nat)) ++ ((opB (W) (H) (R) (B)))) ++ (l)))) rfl rfl (y_ext rfl rfl rfl ⟨rfl, rfl⟩) ?_
            refine wl_alloc_stc (n := 4) (vs := [.int .i64 (0), .int .i64 (0), .int .i64 (0), .int .i64 (0)]) rfl rfl rfl (by kernel_rfl) fun p2135 w2136 B2138 g2139 k2137 => ?_
            have gr2140 : Grew w0 noB (onB p2135) := Grew.new K2134 g2139
            have ap2141 : Apart (onB p2135) (T_b) := Apart.new g2139 (B2122).live
            have ap2142 : Apart (onB p2135) (onB p1) := Apart.new g2139 (onB_live (B2123).lt)
            have ap2143 : Apart (onB p2135) (onB p10) := Apart.new g2139 (onB_live (B2124).lt)
            have ap2144 : Apart (onB p2135) (onB p21) := Apart.new g2139 (onB_live (B2125).lt)
            have ap2145 : Apart (onB p2135) (onB p34) := Apart.new g2139 (onB_live (B2126).lt)
            have ap2146 : Apart (onB p2135) (T95) := Apart.new g2139 (B2127).live
            have ap2147 : Apart (onB p2135) (T125) := Apart.new g2139 (B2128).live
            have ap2148 : Apart (onB p2135) (T159) := Apart.new g2139 (B2129).live
            have ap2149 : Apart (onB p2135) (T197) := Apart.new g2139 (B2130).live
            have ap2150 : Apart (onB p2135) (T239) := Apart.new g2139 (B2131).live
            have ap2151 : Apart (onB p2135) (onB p262) := Apart.new g2139 (onB_live (B2132).lt)
            have ap2152 : Apart (onB p2135) (T2095) := Apart.new g2139 (B2133).live
            have B2153 := B2122.all k2137 Apart.none
            have B2154 := B2123.all k2137 id
            have B2155 := B2124.all k2137 id
            have B2156 := B2125.all k2137 id
            have B2157 := B2126.all k2137 id
            have B2158 := B2127.all k2137 Apart.none
            have B2159 := B2128.all k2137 Apart.none
            have B2160 := B2129.all k2137 Apart.none
            have B2161 := B2130.all k2137 Apart.none
            have B2162 := B2131.all k2137 Apart.none
            have B2163 := B2132.all k2137 id
            have B2164 := B2133.all k2137 Apart.none
            have K2165 := K2134.trans k2137 (fun _ _ x => x.elim)
            refine wl_store_stc (us := [.int .i64 (od t0 (((([] : List Nat)) ++ ((opB (W) (H) (R) (B)))) ++ (l))), .int .i64 (od t1 (((([] : List Nat)) ++ ((opB (W) (H) (R) (B)))) ++ (l))), .int .i64 (od t2 (((([] : List Nat)) ++ ((opB (W) (H) (R) (B)))) ++ (l))), .int .i64 (od t3 (((([] : List Nat)) ++ ((opB (W) (H) (R) (B)))) ++ (l)))]) stcT_seq rfl rfl rfl rfl rfl B2138 rfl (oneI rfl (oneI rfl (oneI rfl (oneI rfl oneN)))) fun w2166 B2167 k2168 => ?_
            have B2169 := B2153.all k2168 (fun i h x => (((ap2141).symm) i h x))
            have B2170 := B2154.all k2168 (fun x => (((ap2142).symm) p1 rfl x))
            have B2171 := B2155.all k2168 (fun x => (((ap2143).symm) p10 rfl x))
            have B2172 := B2156.all k2168 (fun x => (((ap2144).symm) p21 rfl x))
            have B2173 := B2157.all k2168 (fun x => (((ap2145).symm) p34 rfl x))
            have B2174 := B2158.all k2168 (fun i h x => (((ap2146).symm) i h x))
            have B2175 := B2159.all k2168 (fun i h x => (((ap2147).symm) i h x))
            have B2176 := B2160.all k2168 (fun i h x => (((ap2148).symm) i h x))
            have B2177 := B2161.all k2168 (fun i h x => (((ap2149).symm) i h x))
            have B2178 := B2162.all k2168 (fun i h x => (((ap2150).symm) i h x))
            have B2179 := B2163.all k2168 (fun x => (((ap2151).symm) p262 rfl x))
            have B2180 := B2164.all k2168 (fun i h x => (((ap2152).symm) i h x))
            have K2181 := K2165.trans k2168 (Grew.ok (S := fun _ => False) gr2140 noB_le)
            refine wl_v (.int .i64 (odE (((([] : List Nat)) ++ ((opB (W) (H) (R) (B)))) ++ (l)))) rfl rfl (y_asg rfl rfl ⟨rfl, rfl⟩) ?_
            refine wl_nil fun F2182 hF2183 => ?_
            have s2184 : F2182 4 = v := (hF2183 4).trans s2022
            have s2185 : F2182 134 = undef := (hF2183 134).trans s2023
            have s2186 : F2182 13 = .bool true := (hF2183 13).trans s2024
            have s2187 : F2182 19 = .int .i64 (seqE (W) (H) (R) (B)) := (hF2183 19).trans s2026
            have s2188 : F2182 24 = .int .i64 (rdE ((((wrB (K) (Q) (D) (F) ([]))).drop (0)).take (((min (c % 10) (wrB K Q D F []).length)) - (0)))) := (hF2183 24).trans s2027
            have s2189 : F2182 25 = .bool true := (hF2183 25).trans s2028
            have s2190 : F2182 26 = .bool true := (hF2183 26).trans s2029
            have s2191 : F2182 28 = .int .i64 (odE (((([] : List Nat)) ++ ((opB (W) (H) (R) (B)))) ++ (l))) := (hF2183 28).trans rfl
            clear hF2183
            refine then_normal ?_
            refine wq_seq ?_
            by_cases d2192 : ((((l).length : Nat) : Int)) = (0)
            · skip
              refine wq_region ?_
              refine wl_v (.bool true) rfl rfl (y_mov rfl s2186 ⟨rfl, rfl⟩) ?_
              refine wl_v (.bool true) rfl rfl (y_mov rfl rfl ⟨rfl, rfl⟩) ?_
              refine wl_vw (.bool true) 1 true 111 rfl rfl rfl rfl rfl (y_mov rfl s2189 ⟨rfl, rfl⟩) ?_
              refine wl_v (.bool true) rfl rfl (y_pickT rfl rfl rfl ⟨rfl, rfl⟩) ?_
              refine wl_v (.bool true) rfl rfl (y_mov rfl rfl ⟨rfl, rfl⟩) ?_
              refine wl_vw (.bool true) 4 true 114 rfl rfl rfl rfl rfl (y_mov rfl s2190 ⟨rfl, rfl⟩) ?_
              refine wl_v (.bool true) rfl rfl (y_pickT rfl rfl rfl ⟨rfl, rfl⟩) ?_
              refine wl_v (.bool true) rfl rfl (y_mov rfl rfl ⟨rfl, rfl⟩) ?_
              refine wl_vw (.int .i64 (rdE ((((wrB (K) (Q) (D) (F) ([]))).drop (0)).take (((min (c % 10) (wrB K Q D F []).length)) - (0))))) 7 true 117 rfl rfl rfl rfl rfl (y_mov rfl s2188 ⟨rfl, rfl⟩) ?_
              refine wl_vw (.bool true) 7 true 117 rfl rfl rfl rfl rfl (y_eqlI rfl rfl rfl (decide_eq_true (rd_short (by simp; omega))) ⟨rfl, rfl⟩) ?_
              refine wl_v (.bool true) rfl rfl (y_pickT rfl rfl rfl ⟨rfl, rfl⟩) ?_
              refine wl_v (.bool true) rfl rfl (y_mov rfl rfl ⟨rfl, rfl⟩) ?_
              refine wl_vw (v) 11 true 121 rfl rfl rfl rfl rfl (y_mov rfl s2184 ⟨rfl, rfl⟩) ?_
              refine wl_vw (.int .i64 ((((l).length : Nat) : Int))) 11 true 121 rfl rfl rfl rfl rfl (y_lenV rfl rfl rfl B2169 ⟨rfl, rfl⟩) ?_
              refine wl_vw (.bool true) 11 true 121 rfl rfl rfl rfl rfl (y_eqlI rfl rfl rfl (decide_eq_true d2192) ⟨rfl, rfl⟩) ?_
              refine wl_vw (.bool true) 11 true 121 rfl rfl rfl rfl rfl (y_mov rfl rfl ⟨rfl, rfl⟩) ?_
              refine wl_unless 15 false 125 rfl rfl rfl (Or.inl rfl) rfl ?_
              refine wl_unless 15 false 125 rfl rfl rfl (Or.inl rfl) rfl ?_
              refine wl_vw (.bool true) 11 true 121 rfl rfl rfl rfl rfl (y_pickT rfl rfl rfl ⟨rfl, rfl⟩) ?_
              refine wl_vw (.bool true) 11 true 121 rfl rfl rfl rfl rfl (y_mov rfl rfl ⟨rfl, rfl⟩) ?_
              refine wl_unless 19 false 129 rfl rfl rfl (Or.inl rfl) rfl ?_
              refine wl_unless 19 false 129 rfl rfl rfl (Or.inl rfl) rfl ?_
              refine wl_vw (.bool true) 11 true 121 rfl rfl rfl rfl rfl (y_pickT rfl rfl rfl ⟨rfl, rfl⟩) ?_
              refine wl_v (.bool true) rfl rfl (y_pickT rfl rfl rfl ⟨rfl, rfl⟩) ?_
              refine wl_v (.bool true) rfl rfl (y_asg rfl rfl ⟨rfl, rfl⟩) ?_
              refine wl_nil fun F2193 hF2194 => ?_
              have s2195 : F2193 134 = undef := (hF2194 134).trans s2185
              have s2196 : F2193 12 = .bool true := (hF2194 12).trans rfl
              clear hF2194
              refine then_normal ?_
              refine wq_ret ?_
              exact end_tmp (v := .bool true) s2195 rfl rfl s2196 ⟨rfl, K2181⟩
            · skip
              refine wq_region ?_
              refine wl_v (.bool true) rfl rfl (y_mov rfl s2186 ⟨rfl, rfl⟩) ?_
              refine wl_v (.bool true) rfl rfl (y_mov rfl rfl ⟨rfl, rfl⟩) ?_
              refine wl_vw (.bool true) 1 true 111 rfl rfl rfl rfl rfl (y_mov rfl s2189 ⟨rfl, rfl⟩) ?_
              refine wl_v (.bool true) rfl rfl (y_pickT rfl rfl rfl ⟨rfl, rfl⟩) ?_
              refine wl_v (.bool true) rfl rfl (y_mov rfl rfl ⟨rfl, rfl⟩) ?_
              refine wl_vw (.bool true) 4 true 114 rfl rfl rfl rfl rfl (y_mov rfl s2190 ⟨rfl, rfl⟩) ?_
              refine wl_v (.bool true) rfl rfl (y_pickT rfl rfl rfl ⟨rfl, rfl⟩) ?_
              refine wl_v (.bool true) rfl rfl (y_mov rfl rfl ⟨rfl, rfl⟩) ?_
              refine wl_vw (.int .i64 (rdE ((((wrB (K) (Q) (D) (F) ([]))).drop (0)).take (((min (c % 10) (wrB K Q D F []).length)) - (0))))) 7 true 117 rfl rfl rfl rfl rfl (y_mov rfl s2188 ⟨rfl, rfl⟩) ?_
              refine wl_vw (.bool true) 7 true 117 rfl rfl rfl rfl rfl (y_eqlI rfl rfl rfl (decide_eq_true (rd_short (by simp; omega))) ⟨rfl, rfl⟩) ?_
              refine wl_v (.bool true) rfl rfl (y_pickT rfl rfl rfl ⟨rfl, rfl⟩) ?_
              refine wl_v (.bool true) rfl rfl (y_mov rfl rfl ⟨rfl, rfl⟩) ?_
              refine wl_vw (v) 11 true 121 rfl rfl rfl rfl rfl (y_mov rfl s2184 ⟨rfl, rfl⟩) ?_
              refine wl_vw (.int .i64 ((((l).length : Nat) : Int))) 11 true 121 rfl rfl rfl rfl rfl (y_lenV rfl rfl rfl B2169 ⟨rfl, rfl⟩) ?_
              refine wl_vw (.bool false) 11 true 121 rfl rfl rfl rfl rfl (y_eqlI rfl rfl rfl (decide_eq_false d2192) ⟨rfl, rfl⟩) ?_
              refine wl_vw (.bool false) 11 true 121 rfl rfl rfl rfl rfl (y_mov rfl rfl ⟨rfl, rfl⟩) ?_
              refine wl_vw (.int .i64 (seqE (W) (H) (R) (B))) 15 false 125 rfl rfl rfl rfl rfl (y_mov rfl s2187 ⟨rfl, rfl⟩) ?_
              refine wl_vw (.bool false) 15 false 125 rfl rfl rfl rfl rfl (y_neqI rfl rfl rfl (decide_eq_false d1605) ⟨rfl, rfl⟩) ?_
              refine wl_vw (.bool false) 11 true 121 rfl rfl rfl rfl rfl (y_pickF rfl rfl rfl ⟨rfl, rfl⟩) ?_
              refine wl_vw (.bool false) 11 true 121 rfl rfl rfl rfl rfl (y_mov rfl rfl ⟨rfl, rfl⟩) ?_
              refine wl_vw (.int .i64 (odE (((([] : List Nat)) ++ ((opB (W) (H) (R) (B)))) ++ (l)))) 19 false 129 rfl rfl rfl rfl rfl (y_mov rfl s2191 ⟨rfl, rfl⟩) ?_
              refine wl_vw (.bool true) 19 false 129 rfl rfl rfl rfl rfl (y_eqlI rfl rfl rfl (decide_eq_true (od_long (by have h := opB_len (seqE_iff.1 (show seqE W H R B = 0 by first | assumption | (apply Decidable.byContradiction; assumption))); rw [List.nil_append, List.length_append]; omega))) ⟨rfl, rfl⟩) ?_
              refine wl_vw (.bool true) 11 true 121 rfl rfl rfl rfl rfl (y_pickF rfl rfl rfl ⟨rfl, rfl⟩) ?_
              refine wl_v (.bool true) rfl rfl (y_pickT rfl rfl rfl ⟨rfl, rfl⟩) ?_
              refine wl_v (.bool true) rfl rfl (y_asg rfl rfl ⟨rfl, rfl⟩) ?_
              refine wl_nil fun F2197 hF2198 => ?_
              have s2199 : F2197 134 = undef := (hF2198 134).trans s2185
              have s2200 : F2197 12 = .bool true := (hF2198 12).trans rfl
              clear hF2198
              refine then_normal ?_
              refine wq_ret ?_
              exact end_tmp (v := .bool true) s2199 rfl rfl s2200 ⟨rfl, K2181⟩

end Go.Proofs.Ytnccblhdokplkaa
