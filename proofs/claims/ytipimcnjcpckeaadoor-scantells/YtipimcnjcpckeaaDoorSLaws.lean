/- The walks of the laws of layer 6. -/
import Derived.Test.YtipimcnjcpckeaaDoorScn
import Derived.Test.YtipimcnjcpckeaaDoorSPur2
namespace Go.Proofs.YtipimcnjcpckeaaDoor
open Go.RowKit

theorem awake_facts : (scanBits (blL [5, 0, 0, 0, -1])).length = 17 ∧ sameB (scanRd (pack (scanBits (blL [5, 0, 0, 0, -1]))) (some 0)).1 (blL [5, 0, 0, 0, -1]) = true ∧ (scanRd (pack (scanBits (blL [5, 0, 0, 0, -1]))) (some 0)).2.1 = 0 ∧ (scanRd [] (some 0)).2.1 = 60 := by
  refine ⟨?_, ?_, ?_, ?_⟩ <;> decide +kernel

set_option maxHeartbeats 4000000 in
set_option maxRecDepth 100000 in
theorem sawake_any (w0 : World) (hO : ScanIn w0) :
    Calls Tryd.prog 9 #[] w0 fun e w' => e = .returned (.bool true) ∧ Kept (fun _ => False) w0 w' := by
  refine calls_wq (args := []) 57 Tryd.func9 rfl rfl (Nat.le_of_ble_eq_true rfl) ?_
  have K0 := Kept.refl (fun _ => False) w0
  have hf := awake_facts
  obtain ⟨b0, hb0⟩ : ∃ b0, b0 = blL [5, 0, 0, 0, -1] := ⟨_, rfl⟩
  rw [← hb0] at hf
  have hl := scanBits_length b0
  refine wq_seq ?_
  refine wq_region ?_
  refine wl_v (.bool false) rfl rfl (y_asg rfl rfl ⟨rfl, rfl⟩) ?_
  refine wl_nil fun F1 hF2 => ?_
  have s3 : F1 57 = undef := (hF2 57).trans rfl
  clear hF2
  refine then_normal ?_
  refine wq_seq ?_
  refine wq_region ?_
  refine wl_v (.agg #[.slice none 0 0, .int .i64 0]) rfl rfl (y_buildR (cells := #[.slice none 0 0, .int .i64 0]) rfl (by kernel_rfl) rfl ⟨rfl, rfl⟩) ?_
  refine wl_box_wri rfl rfl rfl rfl fun p4 w5 T9 B8 g10 k6 => ?_
  have gr11 : Grew w0 noB (T9) := Grew.new K0 g10
  have K12 := K0.trans k6 (fun _ _ x => x.elim)
  refine wl_v (.pointer (some ⟨p4, 0, none⟩)) rfl rfl (y_asg rfl rfl ⟨rfl, rfl⟩) ?_
  refine wl_nil fun F13 hF14 => ?_
  have s15 : F13 57 = undef := (hF14 57).trans s3
  have s16 : F13 1 = .pointer (some ⟨p4, 0, none⟩) := (hF14 1).trans rfl
  clear hF14
  refine then_normal ?_
  refine wq_seq ?_
  refine wq_region ?_
  refine wl_v (blkV (b0)) rfl rfl (y_buildR (cells := (arrL 16 (blL [5, 0, 0, 0, -1])).toArray) rfl (by kernel_rfl) ((by rw [hb0]; rfl)) ⟨rfl, rfl⟩) ?_
  refine wl_alloc_blk rfl rfl rfl blkT_block.2.2 fun p17 w18 e21 B19 k20 => ?_
  have g22 := onB_new (Nat.le_of_eq e21.symm)
  have gr23 : Grew w0 noB (onB p17) := Grew.new K12 g22
  have ap24 : Apart (onB p17) (T9) := Apart.new g22 (B8).live
  clear e21 g22
  have B25 := B8.all k20 Apart.none
  have K26 := K12.trans k20 (fun _ _ x => x.elim)
  refine wl_store_blk blkT_block rfl rfl rfl rfl rfl B19 fun w27 B28 k29 => ?_
  have B30 := B25.all k29 (fun i h x => (((ap24).symm) i h x))
  have K31 := K26.trans k29 (Grew.ok (S := fun _ => False) gr23 noB_le)
  refine wl_nil fun F32 hF33 => ?_
  have s34 : F32 57 = undef := (hF33 57).trans s15
  have s35 : F32 1 = .pointer (some ⟨p4, 0, none⟩) := (hF33 1).trans s16
  have s36 : F32 2 = .pointer (some ⟨p17, 0, none⟩) := (hF33 2).trans rfl
  clear hF33
  refine then_normal ?_
  refine wq_seq ?_
  refine wq_region ?_
  refine wl_v (.pointer (some ⟨p4, 0, none⟩)) rfl rfl (y_mov rfl s35 ⟨rfl, rfl⟩) ?_
  refine wl_v (blkV (b0)) rfl rfl (y_load_blk blkT_block rfl s36 B28 ⟨rfl, rfl⟩) ?_
  refine wl_call (R := fun v_ w_ => ∃ (T39 : Nat → Prop), .tuple #[] = v_ ∧ Kept (T9) w27 w_ ∧ (Wri w_ T39 p4 ((([] : List Bool)) ++ scanBits (b0)) ∧ Grew w27 (T9) T39)) rfl rfl (y_cs rfl rfl rfl (fun _ _ => by kernel_rfl) (ev_func _) (vsC rfl (vsC rfl vsN)) (scan_write (p4) (([] : List Bool)) (b0) (T9) _ (hO.all K31) (above gr11 hO) (by first | decide | (simp; omega) | simp) B30 ) (fun e_ w_ h_ => by obtain ⟨T39_, he_, hr_⟩ := h_; exact ⟨_, he_, T39_, rfl, hr_⟩)) ?_
  rintro _ w37 ⟨T39, rfl, k38, ⟨B40, g41⟩⟩
  have B42 := B28.all k38 (fun x => ((ap24) p17 rfl x))
  have K43 := K31.trans k38 (fun i hi x => ((Grew.ok (S := fun _ => False) gr11 noB_le) i hi x))
  have gr44 := gr11.trans K31 g41
  have ap45 : Apart T39 (onB p17) := ((ap24).symm).grew g41 (onB_live (B28).lt)
  refine wl_nil fun F46 hF47 => ?_
  have s48 : F46 57 = undef := (hF47 57).trans s34
  have s49 : F46 1 = .pointer (some ⟨p4, 0, none⟩) := (hF47 1).trans s35
  have s50 : F46 2 = .pointer (some ⟨p17, 0, none⟩) := (hF47 2).trans s36
  clear hF47
  refine then_normal ?_
  refine wq_seq ?_
  refine wq_region ?_
  refine wl_v (.pointer (some ⟨p4, 0, none⟩)) rfl rfl (y_mov rfl s49 ⟨rfl, rfl⟩) ?_
  refine wl_call (R := fun v_ w_ => ∃ (v51 : Value) (T54 : Nat → Prop), v51 = v_ ∧ Kept (fun _ => False) w37 w_ ∧ (Byt w_ T54 v51 (pack ((([] : List Bool)) ++ scanBits (b0))) ∧ Grew w37 noB T54)) rfl rfl (y_cs rfl rfl rfl (fun _ _ => by kernel_rfl) (ev_func _) (vsC rfl vsN) (t_bytes (p4) ((([] : List Bool)) ++ scanBits (b0)) (T39) _ (by simp; omega) B40 ) (fun e_ w_ h_ => by obtain ⟨v51_, T54_, he_, hr_⟩ := h_; exact ⟨_, he_, v51_, T54_, rfl, hr_⟩)) ?_
  rintro _ w52 ⟨v51, T54, rfl, k53, ⟨B55, g56⟩⟩
  have B57 := B40.all k53 Apart.none
  have B58 := B42.all k53 id
  have K59 := K43.trans k53 (fun _ _ x => x.elim)
  have gr60 : Grew w0 noB (T54) := Grew.new K43 g56
  have ap61 : Apart (T54) (T39) := Apart.new g56 (B40).live
  have ap62 : Apart (T54) (onB p17) := Apart.new g56 (onB_live (B42).lt)
  refine wl_call (R := fun v_ w_ => ∃ (v63 : Nat) (T66 : Nat → Prop), .pointer (some ⟨v63, 0, none⟩) = v_ ∧ Kept (fun _ => False) w52 w_ ∧ (Rdi w_ T66 v63 ((pack ((([] : List Bool)) ++ scanBits (b0)))) (some 0) ∧ Grew w52 noB T66)) rfl rfl (y_cs rfl rfl rfl (fun _ _ => by kernel_rfl) (ev_func _) (vsC rfl vsN) (t_new (v51) (pack ((([] : List Bool)) ++ scanBits (b0))) (T54) _ (by rw [pack_length]; unfold nbytes; simp; omega) B55 ) (fun e_ w_ h_ => by obtain ⟨v63_, T66_, he_, hr_⟩ := h_; exact ⟨_, he_, v63_, T66_, rfl, hr_⟩)) ?_
  rintro _ w64 ⟨v63, T66, rfl, k65, ⟨B67, g68⟩⟩
  have B69 := B57.all k65 Apart.none
  have B70 := B58.all k65 id
  have B71 := B55.all k65 Apart.none
  have K72 := K59.trans k65 (fun _ _ x => x.elim)
  have gr73 : Grew w0 noB (T66) := Grew.new K59 g68
  have ap74 : Apart (T66) (T39) := Apart.new g68 (B57).live
  have ap75 : Apart (T66) (onB p17) := Apart.new g68 (onB_live (B58).lt)
  have ap76 : Apart (T66) (T54) := Apart.new g68 (B55).live
  refine wl_v (.pointer (some ⟨v63, 0, none⟩)) rfl rfl (y_asg rfl rfl ⟨rfl, rfl⟩) ?_
  refine wl_nil fun F77 hF78 => ?_
  have s79 : F77 57 = undef := (hF78 57).trans s48
  have s80 : F77 1 = .pointer (some ⟨p4, 0, none⟩) := (hF78 1).trans s49
  have s81 : F77 2 = .pointer (some ⟨p17, 0, none⟩) := (hF78 2).trans s50
  have s82 : F77 3 = .pointer (some ⟨v63, 0, none⟩) := (hF78 3).trans rfl
  clear hF78
  refine then_normal ?_
  refine wq_seq ?_
  refine wq_region ?_
  refine wl_v (.pointer (some ⟨v63, 0, none⟩)) rfl rfl (y_mov rfl s82 ⟨rfl, rfl⟩) ?_
  refine wl_call (R := fun v_ w_ => ∃ (T85 : Nat → Prop), .tuple #[blkV ((scanRd ((pack ((([] : List Bool)) ++ scanBits (b0)))) (some 0)).1), .int .i64 ((scanRd ((pack ((([] : List Bool)) ++ scanBits (b0)))) (some 0)).2.1)] = v_ ∧ Kept (T66) w64 w_ ∧ (Rdi w_ T85 v63 (((pack ((([] : List Bool)) ++ scanBits (b0))))) (rdSt ((pack ((([] : List Bool)) ++ scanBits (b0)))) (some 0)) ∧ Grew w64 (T66) T85)) rfl rfl (y_cs rfl rfl rfl (fun _ _ => by kernel_rfl) (ev_func _) (vsC rfl vsN) (scan_read (v63) ((pack ((([] : List Bool)) ++ scanBits (b0)))) (some 0) (T66) _ (hO.all K72) (above gr73 hO) B67 ) (fun e_ w_ h_ => by obtain ⟨T85_, he_, hr_⟩ := h_; exact ⟨_, he_, T85_, rfl, hr_⟩)) ?_
  rintro _ w83 ⟨T85, rfl, k84, ⟨B86, g87⟩⟩
  have B88 := B69.all k84 (fun i h x => (((ap74).symm) i h x))
  have B89 := B70.all k84 (fun x => (((ap75).symm) p17 rfl x))
  have B90 := B71.all k84 (fun i h x => (((ap76).symm) i h x))
  have K91 := K72.trans k84 (fun i hi x => ((Grew.ok (S := fun _ => False) gr73 noB_le) i hi x))
  have gr92 := gr73.trans K72 g87
  have ap93 : Apart T85 (T39) := (ap74).grew g87 (B69).live
  have ap94 : Apart T85 (onB p17) := (ap75).grew g87 (onB_live (B70).lt)
  have ap95 : Apart T85 (T54) := (ap76).grew g87 (B71).live
  refine wl_v (.tuple #[blkV ((scanRd ((pack ((([] : List Bool)) ++ scanBits (b0)))) (some 0)).1), .int .i64 ((scanRd ((pack ((([] : List Bool)) ++ scanBits (b0)))) (some 0)).2.1)]) rfl rfl (y_mov rfl rfl ⟨rfl, rfl⟩) ?_
  refine wl_v (blkV ((scanRd ((pack ((([] : List Bool)) ++ scanBits (b0)))) (some 0)).1)) rfl rfl (y_ext rfl rfl rfl ⟨rfl, rfl⟩) ?_
  refine wl_v (.int .i64 ((scanRd ((pack ((([] : List Bool)) ++ scanBits (b0)))) (some 0)).2.1)) rfl rfl (y_ext rfl rfl rfl ⟨rfl, rfl⟩) ?_
  refine wl_alloc_blk rfl rfl rfl blkT_block.2.2 fun p96 w97 e100 B98 k99 => ?_
  have g101 := onB_new (Nat.le_of_eq e100.symm)
  have gr102 : Grew w0 noB (onB p96) := Grew.new K91 g101
  have ap103 : Apart (onB p96) (T39) := Apart.new g101 (B88).live
  have ap104 : Apart (onB p96) (onB p17) := Apart.new g101 (onB_live (B89).lt)
  have ap105 : Apart (onB p96) (T54) := Apart.new g101 (B90).live
  have ap106 : Apart (onB p96) (T85) := Apart.new g101 (B86).live
  clear e100 g101
  have B107 := B88.all k99 Apart.none
  have B108 := B89.all k99 id
  have B109 := B90.all k99 Apart.none
  have B110 := B86.all k99 Apart.none
  have K111 := K91.trans k99 (fun _ _ x => x.elim)
  refine wl_store_blk blkT_block rfl rfl rfl rfl rfl B98 fun w112 B113 k114 => ?_
  have B115 := B107.all k114 (fun i h x => (((ap103).symm) i h x))
  have B116 := B108.all k114 (fun x => (((ap104).symm) p17 rfl x))
  have B117 := B109.all k114 (fun i h x => (((ap105).symm) i h x))
  have B118 := B110.all k114 (fun i h x => (((ap106).symm) i h x))
  have K119 := K111.trans k114 (Grew.ok (S := fun _ => False) gr102 noB_le)
  refine wl_v (.int .i64 ((scanRd ((pack ((([] : List Bool)) ++ scanBits (b0)))) (some 0)).2.1)) rfl rfl (y_asg rfl rfl ⟨rfl, rfl⟩) ?_
  refine wl_nil fun F120 hF121 => ?_
  have s122 : F120 57 = undef := (hF121 57).trans s79
  have s123 : F120 1 = .pointer (some ⟨p4, 0, none⟩) := (hF121 1).trans s80
  have s124 : F120 2 = .pointer (some ⟨p17, 0, none⟩) := (hF121 2).trans s81
  have s125 : F120 4 = .pointer (some ⟨p96, 0, none⟩) := (hF121 4).trans rfl
  have s126 : F120 5 = .int .i64 ((scanRd ((pack ((([] : List Bool)) ++ scanBits (b0)))) (some 0)).2.1) := (hF121 5).trans rfl
  clear hF121
  refine then_normal ?_
  refine wq_seq ?_
  refine wq_region ?_
  refine wl_call (R := fun v_ w_ => ∃ (v127 : Nat) (T130 : Nat → Prop), .pointer (some ⟨v127, 0, none⟩) = v_ ∧ Kept (fun _ => False) w112 w_ ∧ (Rdi w_ T130 v127 (([])) (some 0) ∧ Grew w112 noB T130)) rfl rfl (y_cs rfl rfl rfl (fun _ _ => by kernel_rfl) (ev_func _) (vsC rfl vsN) (t_new (.slice none 0 0) ([]) (noB) _ (by decide) (Byt.nil _) ) (fun e_ w_ h_ => by obtain ⟨v127_, T130_, he_, hr_⟩ := h_; exact ⟨_, he_, v127_, T130_, rfl, hr_⟩)) ?_
  rintro _ w128 ⟨v127, T130, rfl, k129, ⟨B131, g132⟩⟩
  have B133 := B115.all k129 Apart.none
  have B134 := B116.all k129 id
  have B135 := B117.all k129 Apart.none
  have B136 := B118.all k129 Apart.none
  have B137 := B113.all k129 id
  have K138 := K119.trans k129 (fun _ _ x => x.elim)
  have gr139 : Grew w0 noB (T130) := Grew.new K119 g132
  have ap140 : Apart (T130) (T39) := Apart.new g132 (B115).live
  have ap141 : Apart (T130) (onB p17) := Apart.new g132 (onB_live (B116).lt)
  have ap142 : Apart (T130) (T54) := Apart.new g132 (B117).live
  have ap143 : Apart (T130) (T85) := Apart.new g132 (B118).live
  have ap144 : Apart (T130) (onB p96) := Apart.new g132 (onB_live (B113).lt)
  refine wl_call (R := fun v_ w_ => ∃ (T147 : Nat → Prop), .tuple #[blkV ((scanRd (([])) (some 0)).1), .int .i64 ((scanRd (([])) (some 0)).2.1)] = v_ ∧ Kept (T130) w128 w_ ∧ (Rdi w_ T147 v127 ((([]))) (rdSt (([])) (some 0)) ∧ Grew w128 (T130) T147)) rfl rfl (y_cs rfl rfl rfl (fun _ _ => by kernel_rfl) (ev_func _) (vsC rfl vsN) (scan_read (v127) (([])) (some 0) (T130) _ (hO.all K138) (above gr139 hO) B131 ) (fun e_ w_ h_ => by obtain ⟨T147_, he_, hr_⟩ := h_; exact ⟨_, he_, T147_, rfl, hr_⟩)) ?_
  rintro _ w145 ⟨T147, rfl, k146, ⟨B148, g149⟩⟩
  have B150 := B133.all k146 (fun i h x => (((ap140).symm) i h x))
  have B151 := B134.all k146 (fun x => (((ap141).symm) p17 rfl x))
  have B152 := B135.all k146 (fun i h x => (((ap142).symm) i h x))
  have B153 := B136.all k146 (fun i h x => (((ap143).symm) i h x))
  have B154 := B137.all k146 (fun x => (((ap144).symm) p96 rfl x))
  have K155 := K138.trans k146 (fun i hi x => ((Grew.ok (S := fun _ => False) gr139 noB_le) i hi x))
  have gr156 := gr139.trans K138 g149
  have ap157 : Apart T147 (T39) := (ap140).grew g149 (B133).live
  have ap158 : Apart T147 (onB p17) := (ap141).grew g149 (onB_live (B134).lt)
  have ap159 : Apart T147 (T54) := (ap142).grew g149 (B135).live
  have ap160 : Apart T147 (T85) := (ap143).grew g149 (B136).live
  have ap161 : Apart T147 (onB p96) := (ap144).grew g149 (onB_live (B137).lt)
  refine wl_v (.tuple #[blkV ((scanRd (([])) (some 0)).1), .int .i64 ((scanRd (([])) (some 0)).2.1)]) rfl rfl (y_mov rfl rfl ⟨rfl, rfl⟩) ?_
  refine wl_v (blkV ((scanRd (([])) (some 0)).1)) rfl rfl (y_ext rfl rfl rfl ⟨rfl, rfl⟩) ?_
  refine wl_v (.int .i64 ((scanRd (([])) (some 0)).2.1)) rfl rfl (y_ext rfl rfl rfl ⟨rfl, rfl⟩) ?_
  refine wl_alloc_blk rfl rfl rfl blkT_block.2.2 fun p162 w163 e166 B164 k165 => ?_
  have g167 := onB_new (Nat.le_of_eq e166.symm)
  have gr168 : Grew w0 noB (onB p162) := Grew.new K155 g167
  have ap169 : Apart (onB p162) (T39) := Apart.new g167 (B150).live
  have ap170 : Apart (onB p162) (onB p17) := Apart.new g167 (onB_live (B151).lt)
  have ap171 : Apart (onB p162) (T54) := Apart.new g167 (B152).live
  have ap172 : Apart (onB p162) (T85) := Apart.new g167 (B153).live
  have ap173 : Apart (onB p162) (onB p96) := Apart.new g167 (onB_live (B154).lt)
  have ap174 : Apart (onB p162) (T147) := Apart.new g167 (B148).live
  clear e166 g167
  have B175 := B150.all k165 Apart.none
  have B176 := B151.all k165 id
  have B177 := B152.all k165 Apart.none
  have B178 := B153.all k165 Apart.none
  have B179 := B154.all k165 id
  have B180 := B148.all k165 Apart.none
  have K181 := K155.trans k165 (fun _ _ x => x.elim)
  refine wl_store_blk blkT_block rfl rfl rfl rfl rfl B164 fun w182 B183 k184 => ?_
  have B185 := B175.all k184 (fun i h x => (((ap169).symm) i h x))
  have B186 := B176.all k184 (fun x => (((ap170).symm) p17 rfl x))
  have B187 := B177.all k184 (fun i h x => (((ap171).symm) i h x))
  have B188 := B178.all k184 (fun i h x => (((ap172).symm) i h x))
  have B189 := B179.all k184 (fun x => (((ap173).symm) p96 rfl x))
  have B190 := B180.all k184 (fun i h x => (((ap174).symm) i h x))
  have K191 := K181.trans k184 (Grew.ok (S := fun _ => False) gr168 noB_le)
  refine wl_v (.int .i64 ((scanRd (([])) (some 0)).2.1)) rfl rfl (y_asg rfl rfl ⟨rfl, rfl⟩) ?_
  refine wl_nil fun F192 hF193 => ?_
  have s194 : F192 57 = undef := (hF193 57).trans s122
  have s195 : F192 1 = .pointer (some ⟨p4, 0, none⟩) := (hF193 1).trans s123
  have s196 : F192 2 = .pointer (some ⟨p17, 0, none⟩) := (hF193 2).trans s124
  have s197 : F192 4 = .pointer (some ⟨p96, 0, none⟩) := (hF193 4).trans s125
  have s198 : F192 5 = .int .i64 ((scanRd ((pack ((([] : List Bool)) ++ scanBits (b0)))) (some 0)).2.1) := (hF193 5).trans s126
  have s199 : F192 7 = .int .i64 ((scanRd (([])) (some 0)).2.1) := (hF193 7).trans rfl
  clear hF193
  refine then_normal ?_
  refine wq_seq ?_
  refine wq_region ?_
  refine wl_call (R := fun v_ w_ => v_ = blkV (ordB) ∧ Kept (fun _ => False) w182 w_) rfl rfl (y_cs rfl rfl rfl (fun _ _ => by kernel_rfl) (ev_func _) vsN (scan_order   _ (hO.all K191)  ) (fun e_ w_ h_ => ⟨_, h_.1, rfl, h_.2⟩)) ?_
  rintro _ w200 ⟨rfl, k201⟩
  have B202 := B185.all k201 Apart.none
  have B203 := B186.all k201 id
  have B204 := B187.all k201 Apart.none
  have B205 := B188.all k201 Apart.none
  have B206 := B189.all k201 id
  have B207 := B190.all k201 Apart.none
  have B208 := B183.all k201 id
  have K209 := K191.trans k201 (fun _ _ x => x.elim)
  refine wl_alloc_blk rfl rfl rfl blkT_arr.2.2 fun p210 w211 e214 B212 k213 => ?_
  have g215 := onB_new (Nat.le_of_eq e214.symm)
  have gr216 : Grew w0 noB (onB p210) := Grew.new K209 g215
  have ap217 : Apart (onB p210) (T39) := Apart.new g215 (B202).live
  have ap218 : Apart (onB p210) (onB p17) := Apart.new g215 (onB_live (B203).lt)
  have ap219 : Apart (onB p210) (T54) := Apart.new g215 (B204).live
  have ap220 : Apart (onB p210) (T85) := Apart.new g215 (B205).live
  have ap221 : Apart (onB p210) (onB p96) := Apart.new g215 (onB_live (B206).lt)
  have ap222 : Apart (onB p210) (T147) := Apart.new g215 (B207).live
  have ap223 : Apart (onB p210) (onB p162) := Apart.new g215 (onB_live (B208).lt)
  clear e214 g215
  have B224 := B202.all k213 Apart.none
  have B225 := B203.all k213 id
  have B226 := B204.all k213 Apart.none
  have B227 := B205.all k213 Apart.none
  have B228 := B206.all k213 id
  have B229 := B207.all k213 Apart.none
  have B230 := B208.all k213 id
  have K231 := K209.trans k213 (fun _ _ x => x.elim)
  refine wl_store_blk blkT_arr rfl rfl rfl rfl rfl B212 fun w232 B233 k234 => ?_
  have B235 := B224.all k234 (fun i h x => (((ap217).symm) i h x))
  have B236 := B225.all k234 (fun x => (((ap218).symm) p17 rfl x))
  have B237 := B226.all k234 (fun i h x => (((ap219).symm) i h x))
  have B238 := B227.all k234 (fun i h x => (((ap220).symm) i h x))
  have B239 := B228.all k234 (fun x => (((ap221).symm) p96 rfl x))
  have B240 := B229.all k234 (fun i h x => (((ap222).symm) i h x))
  have B241 := B230.all k234 (fun x => (((ap223).symm) p162 rfl x))
  have K242 := K231.trans k234 (Grew.ok (S := fun _ => False) gr216 noB_le)
  refine wl_nil fun F243 hF244 => ?_
  have s245 : F243 57 = undef := (hF244 57).trans s194
  have s246 : F243 1 = .pointer (some ⟨p4, 0, none⟩) := (hF244 1).trans s195
  have s247 : F243 2 = .pointer (some ⟨p17, 0, none⟩) := (hF244 2).trans s196
  have s248 : F243 4 = .pointer (some ⟨p96, 0, none⟩) := (hF244 4).trans s197
  have s249 : F243 5 = .int .i64 ((scanRd ((pack ((([] : List Bool)) ++ scanBits (b0)))) (some 0)).2.1) := (hF244 5).trans s198
  have s250 : F243 7 = .int .i64 ((scanRd (([])) (some 0)).2.1) := (hF244 7).trans s199
  have s251 : F243 8 = .pointer (some ⟨p210, 0, none⟩) := (hF244 8).trans rfl
  clear hF244
  refine then_normal ?_
  refine wq_seq ?_
  refine wq_region ?_
  refine wl_v (.pointer (some ⟨p4, 0, none⟩)) rfl rfl (y_mov rfl s246 ⟨rfl, rfl⟩) ?_
  refine wl_call (R := fun v_ w_ => v_ = .int .i64 (((((([] : List Bool)) ++ scanBits (b0)).length : Nat) : Int)) ∧ Kept (fun _ => False) w232 w_) rfl rfl (y_cs rfl rfl rfl (fun _ _ => by kernel_rfl) (ev_func _) (vsC rfl vsN) (t_many (p4) ((([] : List Bool)) ++ scanBits (b0)) (T39) _  B235 ) (fun e_ w_ h_ => ⟨_, h_.1, rfl, h_.2⟩)) ?_
  rintro _ w252 ⟨rfl, k253⟩
  have B254 := B235.all k253 Apart.none
  have B255 := B236.all k253 id
  have B256 := B237.all k253 Apart.none
  have B257 := B238.all k253 Apart.none
  have B258 := B239.all k253 id
  have B259 := B240.all k253 Apart.none
  have B260 := B241.all k253 id
  have B261 := B233.all k253 id
  have K262 := K242.trans k253 (fun _ _ x => x.elim)
  refine wl_v (.bool true) rfl rfl (y_eqlI rfl rfl rfl (decide_eq_true (congrArg (fun n : Nat => (n : Int)) hf.1)) ⟨rfl, rfl⟩) ?_
  refine wl_v (.bool true) rfl rfl (y_mov rfl rfl ⟨rfl, rfl⟩) ?_
  refine wl_vw (blkV ((scanRd ((pack ((([] : List Bool)) ++ scanBits (b0)))) (some 0)).1)) 3 true 32 rfl rfl rfl rfl rfl (y_load_blk blkT_block rfl s248 B258 ⟨rfl, rfl⟩) ?_
  refine wl_vw (blkV (b0)) 3 true 32 rfl rfl rfl rfl rfl (y_load_blk blkT_block rfl s247 B255 ⟨rfl, rfl⟩) ?_
  refine wl_vw (.bool true) 3 true 32 rfl rfl rfl rfl rfl (y_sameR rfl rfl rfl (hf.2.1) ⟨rfl, rfl⟩) ?_
  refine wl_v (.bool true) rfl rfl (y_pickT rfl rfl rfl ⟨rfl, rfl⟩) ?_
  refine wl_v (.bool true) rfl rfl (y_mov rfl rfl ⟨rfl, rfl⟩) ?_
  refine wl_vw (.int .i64 ((scanRd ((pack ((([] : List Bool)) ++ scanBits (b0)))) (some 0)).2.1)) 8 true 37 rfl rfl rfl rfl rfl (y_mov rfl s249 ⟨rfl, rfl⟩) ?_
  refine wl_vw (.bool true) 8 true 37 rfl rfl rfl rfl rfl (y_eqlI rfl rfl rfl (decide_eq_true hf.2.2.1) ⟨rfl, rfl⟩) ?_
  refine wl_v (.bool true) rfl rfl (y_pickT rfl rfl rfl ⟨rfl, rfl⟩) ?_
  refine wl_v (.bool true) rfl rfl (y_mov rfl rfl ⟨rfl, rfl⟩) ?_
  refine wl_vw (.int .i64 ((scanRd (([])) (some 0)).2.1)) 12 true 41 rfl rfl rfl rfl rfl (y_mov rfl s250 ⟨rfl, rfl⟩) ?_
  refine wl_vw (.bool true) 12 true 41 rfl rfl rfl rfl rfl (y_eqlI rfl rfl rfl (decide_eq_true hf.2.2.2) ⟨rfl, rfl⟩) ?_
  refine wl_v (.bool true) rfl rfl (y_pickT rfl rfl rfl ⟨rfl, rfl⟩) ?_
  refine wl_v (.bool true) rfl rfl (y_mov rfl rfl ⟨rfl, rfl⟩) ?_
  refine wl_vw (.pointer (some ⟨p210, 4, none⟩)) 16 true 45 rfl rfl rfl rfl rfl (y_atR (4) (s := 1) rfl s251 rfl (by omega) Tryd.underlying22 (by omega) (by kernel_rfl) (by omega) ⟨rfl, rfl⟩) ?_
  refine wl_vw (.int .i64 ((ordB) (4))) 16 true 45 rfl rfl rfl rfl rfl (y_ldR rfl rfl Tryd.underlying3 ((B261).cell (by omega)) ⟨rfl, rfl⟩) ?_
  refine wl_vw (.bool true) 16 true 45 rfl rfl rfl rfl rfl (y_eqlI rfl rfl rfl (by decide) ⟨rfl, rfl⟩) ?_
  refine wl_v (.bool true) rfl rfl (y_pickT rfl rfl rfl ⟨rfl, rfl⟩) ?_
  refine wl_v (.bool true) rfl rfl (y_mov rfl rfl ⟨rfl, rfl⟩) ?_
  refine wl_vw (.pointer (some ⟨p210, 15, none⟩)) 21 true 50 rfl rfl rfl rfl rfl (y_atR (15) (s := 1) rfl s251 rfl (by omega) Tryd.underlying22 (by omega) (by kernel_rfl) (by omega) ⟨rfl, rfl⟩) ?_
  refine wl_vw (.int .i64 ((ordB) (15))) 21 true 50 rfl rfl rfl rfl rfl (y_ldR rfl rfl Tryd.underlying3 ((B261).cell (by omega)) ⟨rfl, rfl⟩) ?_
  refine wl_vw (.bool true) 21 true 50 rfl rfl rfl rfl rfl (y_eqlI rfl rfl rfl (by decide) ⟨rfl, rfl⟩) ?_
  refine wl_v (.bool true) rfl rfl (y_pickT rfl rfl rfl ⟨rfl, rfl⟩) ?_
  refine wl_v (.bool true) rfl rfl (y_mov rfl rfl ⟨rfl, rfl⟩) ?_
  refine wl_v (.bool true) rfl rfl (y_pickT rfl rfl rfl ⟨rfl, rfl⟩) ?_
  refine wl_v (.bool true) rfl rfl (y_asg rfl rfl ⟨rfl, rfl⟩) ?_
  refine wl_nil fun F263 hF264 => ?_
  have s265 : F263 57 = undef := (hF264 57).trans s245
  have s266 : F263 0 = .bool true := (hF264 0).trans rfl
  clear hF264
  refine then_normal ?_
  refine wq_ret ?_
  exact end_tmp (v := .bool true) s265 rfl rfl s266 ⟨rfl, K262⟩

set_option maxHeartbeats 4000000 in
set_option maxRecDepth 100000 in
theorem stells_walk (b : Nat → Int) (w0 : World) (hO : ScanIn w0) :
    Calls Tryd.prog 3 #[blkV (b)] w0 fun e w' => e = .returned (.bool true) ∧ Kept (fun _ => False) w0 w' := by
  refine calls_wq (args := [blkV (b)]) 36 Tryd.func3 rfl rfl (Nat.le_of_ble_eq_true rfl) ?_
  have K0 := Kept.refl (fun _ => False) w0
  have hl := scanBits_length b
  refine wq_seq ?_
  refine wq_region ?_
  refine wl_box_blk rfl rfl rfl rfl fun p1 w2 e5 B3 k4 => ?_
  have g6 := onB_new (Nat.le_of_eq e5.symm)
  have gr7 : Grew w0 noB (onB p1) := Grew.new K0 g6
  clear e5 g6
  have K8 := K0.trans k4 (fun _ _ x => x.elim)
  refine wl_v (.bool false) rfl rfl (y_asg rfl rfl ⟨rfl, rfl⟩) ?_
  refine wl_nil fun F9 hF10 => ?_
  have s11 : F9 36 = undef := (hF10 36).trans rfl
  have s12 : F9 1 = .pointer (some ⟨p1, 0, none⟩) := (hF10 1).trans rfl
  clear hF10
  refine then_normal ?_
  refine wq_seq ?_
  refine wq_region ?_
  refine wl_call (R := fun v_ w_ => v_ = .bool true ∧ Kept (fun _ => False) w2 w_) rfl rfl (y_cs rfl rfl rfl (fun _ _ => by kernel_rfl) (ev_func _) vsN (sawake_any   _ (hO.all K8)  ) (fun e_ w_ h_ => ⟨_, h_.1, rfl, h_.2⟩)) ?_
  rintro _ w13 ⟨rfl, k14⟩
  have B15 := B3.all k14 id
  have K16 := K8.trans k14 (fun _ _ x => x.elim)
  refine wl_v (.bool true) rfl rfl (y_asg rfl rfl ⟨rfl, rfl⟩) ?_
  refine wl_nil fun F17 hF18 => ?_
  have s19 : F17 36 = undef := (hF18 36).trans s11
  have s20 : F17 1 = .pointer (some ⟨p1, 0, none⟩) := (hF18 1).trans s12
  have s21 : F17 3 = .bool true := (hF18 3).trans rfl
  clear hF18
  refine then_normal ?_
  refine wq_seq ?_
  refine wq_region ?_
  refine wl_v (.agg #[.slice none 0 0, .int .i64 0]) rfl rfl (y_buildR (cells := #[.slice none 0 0, .int .i64 0]) rfl (by kernel_rfl) rfl ⟨rfl, rfl⟩) ?_
  refine wl_box_wri rfl rfl rfl rfl fun p22 w23 T27 B26 g28 k24 => ?_
  have gr29 : Grew w0 noB (T27) := Grew.new K16 g28
  have ap30 : Apart (T27) (onB p1) := Apart.new g28 (onB_live (B15).lt)
  have B31 := B15.all k24 id
  have K32 := K16.trans k24 (fun _ _ x => x.elim)
  refine wl_v (.pointer (some ⟨p22, 0, none⟩)) rfl rfl (y_asg rfl rfl ⟨rfl, rfl⟩) ?_
  refine wl_nil fun F33 hF34 => ?_
  have s35 : F33 36 = undef := (hF34 36).trans s19
  have s36 : F33 1 = .pointer (some ⟨p1, 0, none⟩) := (hF34 1).trans s20
  have s37 : F33 3 = .bool true := (hF34 3).trans s21
  have s38 : F33 4 = .pointer (some ⟨p22, 0, none⟩) := (hF34 4).trans rfl
  clear hF34
  refine then_normal ?_
  refine wq_seq ?_
  refine wq_region ?_
  refine wl_v (.pointer (some ⟨p22, 0, none⟩)) rfl rfl (y_mov rfl s38 ⟨rfl, rfl⟩) ?_
  refine wl_v (blkV (b)) rfl rfl (y_load_blk blkT_arr rfl s36 B31 ⟨rfl, rfl⟩) ?_
  refine wl_call (R := fun v_ w_ => ∃ (T41 : Nat → Prop), .tuple #[] = v_ ∧ Kept (T27) w23 w_ ∧ (Wri w_ T41 p22 ((([] : List Bool)) ++ scanBits (b)) ∧ Grew w23 (T27) T41)) rfl rfl (y_cs rfl rfl rfl (fun _ _ => by kernel_rfl) (ev_func _) (vsC rfl (vsC rfl vsN)) (scan_write (p22) (([] : List Bool)) (b) (T27) _ (hO.all K32) (above gr29 hO) (by first | decide | (simp; omega) | simp) B26 ) (fun e_ w_ h_ => by obtain ⟨T41_, he_, hr_⟩ := h_; exact ⟨_, he_, T41_, rfl, hr_⟩)) ?_
  rintro _ w39 ⟨T41, rfl, k40, ⟨B42, g43⟩⟩
  have B44 := B31.all k40 (fun x => (((ap30).symm) p1 rfl x))
  have K45 := K32.trans k40 (fun i hi x => ((Grew.ok (S := fun _ => False) gr29 noB_le) i hi x))
  have gr46 := gr29.trans K32 g43
  have ap47 : Apart T41 (onB p1) := (ap30).grew g43 (onB_live (B31).lt)
  refine wl_nil fun F48 hF49 => ?_
  have s50 : F48 36 = undef := (hF49 36).trans s35
  have s51 : F48 1 = .pointer (some ⟨p1, 0, none⟩) := (hF49 1).trans s36
  have s52 : F48 3 = .bool true := (hF49 3).trans s37
  have s53 : F48 4 = .pointer (some ⟨p22, 0, none⟩) := (hF49 4).trans s38
  clear hF49
  refine then_normal ?_
  refine wq_seq ?_
  refine wq_region ?_
  refine wl_v (blkV (b)) rfl rfl (y_load_blk blkT_arr rfl s51 B44 ⟨rfl, rfl⟩) ?_
  refine wl_call (R := fun v_ w_ => v_ = .string (strOf (scanBits (b))) ∧ Kept (fun _ => False) w39 w_) rfl rfl (y_cs rfl rfl rfl (fun _ _ => by kernel_rfl) (ev_func _) (vsC rfl vsN) (sref_write (b)  _   ) (fun e_ w_ h_ => ⟨_, h_.1, rfl, h_.2⟩)) ?_
  rintro _ w54 ⟨rfl, k55⟩
  have B56 := B44.all k55 id
  have B57 := B42.all k55 Apart.none
  have K58 := K45.trans k55 (fun _ _ x => x.elim)
  refine wl_v (.string (strOf (scanBits (b)))) rfl rfl (y_asg rfl rfl ⟨rfl, rfl⟩) ?_
  refine wl_nil fun F59 hF60 => ?_
  have s61 : F59 36 = undef := (hF60 36).trans s50
  have s62 : F59 3 = .bool true := (hF60 3).trans s52
  have s63 : F59 4 = .pointer (some ⟨p22, 0, none⟩) := (hF60 4).trans s53
  have s64 : F59 5 = .string (strOf (scanBits (b))) := (hF60 5).trans rfl
  clear hF60
  refine then_normal ?_
  refine wq_seq ?_
  refine wq_said [some 14, some 15, some 16, some 17, some 18, some 19, some 20, some 21, some 22, some 23, some 24, some 25, some 26, some 27, some 28, some 29, some 30, some 31, some 32, some 33, some 34, some 35, some 2] [Pd.eq (.bool true), Pd.eq (.bool true), Pd.eq (blkV (ordB)), Pd.eq (blkV (ordB)), Pd.eq (.bool true), Pd.eq (.bool true), Pd.eq (.bool true), Pd.eq (.pointer (some ⟨p22, 0, none⟩)), Pd.eq (.int .i64 (((((([] : List Bool)) ++ scanBits (b)).length : Nat) : Int))), Pd.eq (.string (strOf (scanBits (b)))), Pd.eq (.int .i64 (((scanBits (b)).length : Nat) : Int)), Pd.eq (.bool true), Pd.eq (.bool true), Pd.eq (.bool true), Pd.eq (.pointer (some ⟨p22, 0, none⟩)), Pd.bytes (pack ((([] : List Bool)) ++ scanBits (b))), Pd.eq (.string (textOf (pack ((([] : List Bool)) ++ scanBits (b))))), Pd.eq (.string (strOf (scanBits (b)))), Pd.bytes (pack (scanBits (b))), Pd.eq (.string (textOf (pack (scanBits (b))))), Pd.eq (.bool true), Pd.eq (.bool true), Pd.eq (.bool true)] (by kernel_rfl) (by kernel_rfl) ?_ ?_
  · refine stepsF_cons ?_ ?_
    · refine StepF.one rfl fun F_ w_ hR hout hD => ?_
      exact (y_mov rfl ((hout 3 rfl (by decide)).trans s62) ⟨rfl, Kept.refl _ _⟩)
    refine stepsF_cons ?_ ?_
    · refine StepF.one rfl fun F_ w_ hR hout hD => ?_
      have g14 : F_ 14 = .bool true := hD.get 0 rfl rfl rfl
      exact (y_mov rfl g14 ⟨rfl, Kept.refl _ _⟩)
    refine stepsF_cons ?_ ?_
    · refine StepF.when 1 true 15 rfl rfl fun F_ w_ hR hout hD => ?_
      have g15 : F_ 15 = .bool true := hD.get 0 rfl rfl rfl
      exact ⟨g15, (y_cs rfl rfl rfl (fun _ _ => by kernel_rfl) (ev_func _) vsN (scan_order   _ (hO.all (K58.trans hR (fun _ _ x => x.elim)))  ) (fun e_ w_ h_ => ⟨_, h_.1, rfl, h_.2⟩))⟩
    refine stepsF_cons ?_ ?_
    · refine StepF.when 1 true 15 rfl rfl fun F_ w_ hR hout hD => ?_
      have g15 : F_ 15 = .bool true := hD.get 1 rfl rfl rfl
      exact ⟨g15, (y_cs rfl rfl rfl (fun _ _ => by kernel_rfl) (ev_func _) vsN (sref_order   _   ) (fun e_ w_ h_ => ⟨_, h_.1, rfl, h_.2⟩))⟩
    refine stepsF_cons ?_ ?_
    · refine StepF.when 1 true 15 rfl rfl fun F_ w_ hR hout hD => ?_
      have g15 : F_ 15 = .bool true := hD.get 2 rfl rfl rfl
      have g16 : F_ 16 = blkV (ordB) := hD.get 0 rfl rfl rfl
      have g17 : F_ 17 = blkV (ordB) := hD.get 1 rfl rfl rfl
      exact ⟨g15, (y_sameA rfl g16 g17 (sameB_self _) ⟨rfl, Kept.refl _ _⟩)⟩
    refine stepsF_cons ?_ ?_
    · refine StepF.one rfl fun F_ w_ hR hout hD => ?_
      have g15 : F_ 15 = .bool true := hD.get 0 rfl rfl rfl
      have g18 : F_ 18 = .bool true := hD.get 1 rfl rfl rfl
      exact (y_pickT rfl g15 g18 ⟨rfl, Kept.refl _ _⟩)
    refine stepsF_cons ?_ ?_
    · refine StepF.one rfl fun F_ w_ hR hout hD => ?_
      have g19 : F_ 19 = .bool true := hD.get 0 rfl rfl rfl
      exact (y_mov rfl g19 ⟨rfl, Kept.refl _ _⟩)
    refine stepsF_cons ?_ ?_
    · refine StepF.when 6 true 20 rfl rfl fun F_ w_ hR hout hD => ?_
      have g20 : F_ 20 = .bool true := hD.get 0 rfl rfl rfl
      exact ⟨g20, (y_mov rfl ((hout 4 rfl (by decide)).trans s63) ⟨rfl, Kept.refl _ _⟩)⟩
    refine stepsF_cons ?_ ?_
    · refine StepF.when 6 true 20 rfl rfl fun F_ w_ hR hout hD => ?_
      have g20 : F_ 20 = .bool true := hD.get 1 rfl rfl rfl
      have g21 : F_ 21 = .pointer (some ⟨p22, 0, none⟩) := hD.get 0 rfl rfl rfl
      exact ⟨g20, (y_cs rfl rfl rfl (fun _ _ => by kernel_rfl) (ev_func _) (vsC g21 vsN) (t_many (p22) ((([] : List Bool)) ++ scanBits (b)) (T41) _  (B57.all hR Apart.none) ) (fun e_ w_ h_ => ⟨_, h_.1, rfl, h_.2⟩))⟩
    refine stepsF_cons ?_ ?_
    · refine StepF.when 6 true 20 rfl rfl fun F_ w_ hR hout hD => ?_
      have g20 : F_ 20 = .bool true := hD.get 0 rfl rfl rfl
      exact ⟨g20, (y_mov rfl ((hout 5 rfl (by decide)).trans s64) ⟨rfl, Kept.refl _ _⟩)⟩
    refine stepsF_cons ?_ ?_
    · refine StepF.when 6 true 20 rfl rfl fun F_ w_ hR hout hD => ?_
      have g20 : F_ 20 = .bool true := hD.get 1 rfl rfl rfl
      have g23 : F_ 23 = .string (strOf (scanBits (b))) := hD.get 0 rfl rfl rfl
      exact ⟨g20, (y_lenT rfl rfl g23 ⟨rfl, Kept.refl _ _⟩)⟩
    refine stepsF_cons ?_ ?_
    · refine StepF.when 6 true 20 rfl rfl fun F_ w_ hR hout hD => ?_
      have g20 : F_ 20 = .bool true := hD.get 2 rfl rfl rfl
      have g22 : F_ 22 = .int .i64 (((((([] : List Bool)) ++ scanBits (b)).length : Nat) : Int)) := hD.get 0 rfl rfl rfl
      have g24 : F_ 24 = .int .i64 (((scanBits (b)).length : Nat) : Int) := hD.get 1 rfl rfl rfl
      exact ⟨g20, (y_eqlI rfl g22 g24 (decide_eq_true rfl) ⟨rfl, Kept.refl _ _⟩)⟩
    refine stepsF_cons ?_ ?_
    · refine StepF.one rfl fun F_ w_ hR hout hD => ?_
      have g20 : F_ 20 = .bool true := hD.get 0 rfl rfl rfl
      have g25 : F_ 25 = .bool true := hD.get 1 rfl rfl rfl
      exact (y_pickT rfl g20 g25 ⟨rfl, Kept.refl _ _⟩)
    refine stepsF_cons ?_ ?_
    · refine StepF.one rfl fun F_ w_ hR hout hD => ?_
      have g26 : F_ 26 = .bool true := hD.get 0 rfl rfl rfl
      exact (y_mov rfl g26 ⟨rfl, Kept.refl _ _⟩)
    refine stepsF_cons ?_ ?_
    · refine StepF.when 13 true 27 rfl rfl fun F_ w_ hR hout hD => ?_
      have g27 : F_ 27 = .bool true := hD.get 0 rfl rfl rfl
      exact ⟨g27, (y_mov rfl ((hout 4 rfl (by decide)).trans s63) ⟨rfl, Kept.refl _ _⟩)⟩
    refine stepsF_cons ?_ ?_
    · refine StepF.when 13 true 27 rfl rfl fun F_ w_ hR hout hD => ?_
      have g27 : F_ 27 = .bool true := hD.get 1 rfl rfl rfl
      have g28 : F_ 28 = .pointer (some ⟨p22, 0, none⟩) := hD.get 0 rfl rfl rfl
      exact ⟨g27, (y_cs rfl rfl rfl (fun _ _ => by kernel_rfl) (ev_func _) (vsC g28 vsN) (t_bytes (p22) ((([] : List Bool)) ++ scanBits (b)) (T41) _ (by simp; omega) (B57.all hR Apart.none) ) (fun e_ w_ h_ => by obtain ⟨v_, T_, he_, k_, hb_, _⟩ := h_; exact ⟨v_, he_, hb_.1, k_⟩))⟩
    refine stepsF_cons ?_ ?_
    · refine StepF.when 13 true 27 rfl rfl fun F_ w_ hR hout hD => ?_
      have g27 : F_ 27 = .bool true := hD.get 1 rfl rfl rfl
      have g29 : BytesArg w_ (F_ 29) (pack ((([] : List Bool)) ++ scanBits (b))) := hD.get 0 rfl rfl rfl
      exact ⟨g27, (y_text rfl g29 ⟨rfl, Kept.refl _ _⟩)⟩
    refine stepsF_cons ?_ ?_
    · refine StepF.when 13 true 27 rfl rfl fun F_ w_ hR hout hD => ?_
      have g27 : F_ 27 = .bool true := hD.get 0 rfl rfl rfl
      exact ⟨g27, (y_mov rfl ((hout 5 rfl (by decide)).trans s64) ⟨rfl, Kept.refl _ _⟩)⟩
    refine stepsF_cons ?_ ?_
    · refine StepF.when 13 true 27 rfl rfl fun F_ w_ hR hout hD => ?_
      have g27 : F_ 27 = .bool true := hD.get 2 rfl rfl rfl
      have g31 : F_ 31 = .string (strOf (scanBits (b))) := hD.get 0 rfl rfl rfl
      exact ⟨g27, (y_cs rfl rfl rfl (fun _ _ => by kernel_rfl) (ev_func _) (vsC g31 vsN) (t_refbytes (scanBits (b))  _ (by omega)  ) (fun e_ w_ h_ => by obtain ⟨v_, T_, he_, k_, hb_, _⟩ := h_; exact ⟨v_, he_, hb_.1, k_⟩))⟩
    refine stepsF_cons ?_ ?_
    · refine StepF.when 13 true 27 rfl rfl fun F_ w_ hR hout hD => ?_
      have g27 : F_ 27 = .bool true := hD.get 1 rfl rfl rfl
      have g32 : BytesArg w_ (F_ 32) (pack (scanBits (b))) := hD.get 0 rfl rfl rfl
      exact ⟨g27, (y_text rfl g32 ⟨rfl, Kept.refl _ _⟩)⟩
    refine stepsF_cons ?_ ?_
    · refine StepF.when 13 true 27 rfl rfl fun F_ w_ hR hout hD => ?_
      have g27 : F_ 27 = .bool true := hD.get 2 rfl rfl rfl
      have g30 : F_ 30 = .string (textOf (pack ((([] : List Bool)) ++ scanBits (b)))) := hD.get 0 rfl rfl rfl
      have g33 : F_ 33 = .string (textOf (pack (scanBits (b)))) := hD.get 1 rfl rfl rfl
      exact ⟨g27, (y_eqlS rfl g30 g33 (beq_self_eq_true _) ⟨rfl, Kept.refl _ _⟩)⟩
    refine stepsF_cons ?_ ?_
    · refine StepF.one rfl fun F_ w_ hR hout hD => ?_
      have g27 : F_ 27 = .bool true := hD.get 0 rfl rfl rfl
      have g34 : F_ 34 = .bool true := hD.get 1 rfl rfl rfl
      exact (y_pickT rfl g27 g34 ⟨rfl, Kept.refl _ _⟩)
    refine stepsF_cons ?_ ?_
    · refine StepF.one rfl fun F_ w_ hR hout hD => ?_
      have g35 : F_ 35 = .bool true := hD.get 0 rfl rfl rfl
      exact (y_asg rfl g35 ⟨rfl, Kept.refl _ _⟩)
    exact stepsF_nil
  intro v67 F68 w69 k70 G71 hF72
  have B73 := B56.all k70 id
  have B74 := B57.all k70 Apart.none
  have K75 := K58.trans k70 (fun _ _ x => x.elim)
  have s76 : F68 36 = undef := (hF72 36).trans s61
  have s77 : F68 2 = .bool true := (hF72 2).trans (G71 22 (by decide))
  clear G71 hF72
  refine then_normal ?_
  refine wq_ret ?_
  exact end_tmp (v := .bool true) s76 rfl rfl s77 ⟨rfl, K75⟩

set_option maxHeartbeats 4000000 in
set_option maxRecDepth 100000 in
theorem sapart_walk (a b : Nat → Int) (w0 : World) (hO : ScanIn w0) :
    Calls Tryd.prog 8 #[blkV (a), blkV (b)] w0 fun e w' => e = .returned (.bool true) ∧ Kept (fun _ => False) w0 w' := by
  refine calls_wq (args := [blkV (a), blkV (b)]) 56 Tryd.func8 rfl rfl (Nat.le_of_ble_eq_true rfl) ?_
  have K0 := Kept.refl (fun _ => False) w0
  have hl := scanBits_length (clB 1048576 a)
  have hl2 := scanBits_length (clB 1048576 b)
  refine wq_seq ?_
  refine wq_region ?_
  refine wl_box_blk rfl rfl rfl rfl fun p1 w2 e5 B3 k4 => ?_
  have g6 := onB_new (Nat.le_of_eq e5.symm)
  have gr7 : Grew w0 noB (onB p1) := Grew.new K0 g6
  clear e5 g6
  have K8 := K0.trans k4 (fun _ _ x => x.elim)
  refine wl_box_blk rfl rfl rfl rfl fun p9 w10 e13 B11 k12 => ?_
  have g14 := onB_new (Nat.le_of_eq e13.symm)
  have gr15 : Grew w0 noB (onB p9) := Grew.new K8 g14
  have ap16 : Apart (onB p9) (onB p1) := Apart.new g14 (onB_live (B3).lt)
  clear e13 g14
  have B17 := B3.all k12 id
  have K18 := K8.trans k12 (fun _ _ x => x.elim)
  refine wl_v (.bool false) rfl rfl (y_asg rfl rfl ⟨rfl, rfl⟩) ?_
  refine wl_nil fun F19 hF20 => ?_
  have s21 : F19 56 = undef := (hF20 56).trans rfl
  have s22 : F19 2 = .pointer (some ⟨p1, 0, none⟩) := (hF20 2).trans rfl
  have s23 : F19 3 = .pointer (some ⟨p9, 0, none⟩) := (hF20 3).trans rfl
  clear hF20
  refine then_normal ?_
  refine wq_seq ?_
  refine wq_region ?_
  refine wl_call (R := fun v_ w_ => v_ = .bool true ∧ Kept (fun _ => False) w10 w_) rfl rfl (y_cs rfl rfl rfl (fun _ _ => by kernel_rfl) (ev_func _) vsN (sawake_any   _ (hO.all K18)  ) (fun e_ w_ h_ => ⟨_, h_.1, rfl, h_.2⟩)) ?_
  rintro _ w24 ⟨rfl, k25⟩
  have B26 := B17.all k25 id
  have B27 := B11.all k25 id
  have K28 := K18.trans k25 (fun _ _ x => x.elim)
  refine wl_v (.bool true) rfl rfl (y_asg rfl rfl ⟨rfl, rfl⟩) ?_
  refine wl_nil fun F29 hF30 => ?_
  have s31 : F29 56 = undef := (hF30 56).trans s21
  have s32 : F29 2 = .pointer (some ⟨p1, 0, none⟩) := (hF30 2).trans s22
  have s33 : F29 3 = .pointer (some ⟨p9, 0, none⟩) := (hF30 3).trans s23
  have s34 : F29 5 = .bool true := (hF30 5).trans rfl
  clear hF30
  refine then_normal ?_
  refine wq_seq ?_
  refine wq_seq ?_
  refine wq_region ?_
  refine wl_v (.int .i64 (0)) rfl rfl (y_asg rfl rfl ⟨rfl, rfl⟩) ?_
  refine wl_nil fun F35 hF36 => ?_
  have s37 : F35 56 = undef := (hF36 56).trans s31
  have s38 : F35 2 = .pointer (some ⟨p1, 0, none⟩) := (hF36 2).trans s32
  have s39 : F35 3 = .pointer (some ⟨p9, 0, none⟩) := (hF36 3).trans s33
  have s40 : F35 5 = .bool true := (hF36 5).trans s34
  have s41 : F35 6 = .int .i64 (0) := (hF36 6).trans rfl
  clear hF36
  refine then_normal ?_
  refine wq_block ?_
  refine wq_loop (fun nn FF ww => ∃ (k : Nat), k ≤ 16 ∧ nn = 16 - k ∧ FF 2 = .pointer (some ⟨p1, 0, none⟩) ∧ FF 3 = .pointer (some ⟨p9, 0, none⟩) ∧ FF 5 = .bool true ∧ FF 56 = undef ∧ FF 6 = .int .i64 (((k : Nat) : Int)) ∧ Kept (fun _ => False) w0 ww ∧ Blk ww p1 22 (upto k a (clB 1048576 a)) ∧ Blk ww p9 22 (upto k b (clB 1048576 b))) (16 - (0)) ⟨0, by omega, rfl, s38, s39, s40, s37, s41, K28, B26.first, B27.first⟩ ?_
  rintro n45 F42 w43 ⟨k, i46, hn45, s47, s48, s49, s50, s51, K44, B52, B53⟩
  refine wq_seq ?_
  refine wq_seq ?_
  refine wq_region ?_
  refine wl_v (.int .i64 (((k : Nat) : Int))) rfl rfl (y_mov rfl s51 ⟨rfl, rfl⟩) ?_
  refine wl_v (.bool (decide ((((k : Nat) : Int)) < (16)))) rfl rfl (y_lss rfl rfl rfl rfl ⟨rfl, rfl⟩) ?_
  refine wl_nil fun F54 hF55 => ?_
  have s56 : F54 2 = .pointer (some ⟨p1, 0, none⟩) := (hF55 2).trans s47
  have s57 : F54 3 = .pointer (some ⟨p9, 0, none⟩) := (hF55 3).trans s48
  have s58 : F54 5 = .bool true := (hF55 5).trans s49
  have s59 : F54 56 = undef := (hF55 56).trans s50
  have s60 : F54 6 = .int .i64 (((k : Nat) : Int)) := (hF55 6).trans s51
  have s61 : F54 11 = .bool (decide ((((k : Nat) : Int)) < (16))) := (hF55 11).trans rfl
  clear hF55
  refine then_normal ?_
  refine wq_cond s61 (fun c62 => ?_) (fun c62 => ?_)
  · replace c62 := of_decide_eq_true c62
    refine wq_skip ?_
    refine then_normal ?_
    refine wq_seq ?_
    refine wq_block ?_
    refine wq_seq ?_
    refine wq_region ?_
    refine wl_v (.int .i64 (((k : Nat) : Int))) rfl rfl (y_mov rfl s60 ⟨rfl, rfl⟩) ?_
    refine wl_v (.int .i64 (((k : Nat) : Int))) rfl rfl (y_mov rfl s60 ⟨rfl, rfl⟩) ?_
    refine wl_v (.pointer (some ⟨p1, k, none⟩)) rfl rfl (y_atR (k) (s := 1) rfl s56 rfl (by omega) Tryd.underlying22 (by omega) (by kernel_rfl) (by omega) ⟨rfl, rfl⟩) ?_
    refine wl_v (.int .i64 (a k)) rfl rfl (y_ldR rfl rfl Tryd.underlying3 (((B52).cell (by omega)).trans (some_int (upto_at k _ _))) ⟨rfl, rfl⟩) ?_
    refine wl_v (.int .i64 (max (a k) (-1048576))) rfl rfl (y_maxR rfl rfl rfl rfl ⟨rfl, rfl⟩) ?_
    refine wl_v (.int .i64 (cl 1048576 (a k))) rfl rfl (y_minR rfl rfl rfl (by unfold cl; omega) ⟨rfl, rfl⟩) ?_
    refine wl_v (.pointer (some ⟨p1, k, none⟩)) rfl rfl (y_atR (k) (s := 1) rfl s56 rfl (by omega) Tryd.underlying22 (by omega) (by kernel_rfl) (by omega) ⟨rfl, rfl⟩) ?_
    refine wl_set_blk rfl rfl rfl rfl rfl B52 (by omega) (by kernel_rfl) fun w63 B64 k65 => ?_
    have B66 := B53.all k65 (fun x => ((ap16) p9 rfl x))
    have K67 := K44.trans k65 (Grew.ok (S := fun _ => False) gr7 noB_le)
    refine wl_nil fun F68 hF69 => ?_
    have s70 : F68 2 = .pointer (some ⟨p1, 0, none⟩) := (hF69 2).trans s56
    have s71 : F68 3 = .pointer (some ⟨p9, 0, none⟩) := (hF69 3).trans s57
    have s72 : F68 5 = .bool true := (hF69 5).trans s58
    have s73 : F68 56 = undef := (hF69 56).trans s59
    have s74 : F68 6 = .int .i64 (((k : Nat) : Int)) := (hF69 6).trans s60
    clear hF69
    refine then_normal ?_
    refine wq_region ?_
    refine wl_v (.int .i64 (((k : Nat) : Int))) rfl rfl (y_mov rfl s74 ⟨rfl, rfl⟩) ?_
    refine wl_v (.int .i64 (((k : Nat) : Int))) rfl rfl (y_mov rfl s74 ⟨rfl, rfl⟩) ?_
    refine wl_v (.pointer (some ⟨p9, k, none⟩)) rfl rfl (y_atR (k) (s := 1) rfl s71 rfl (by omega) Tryd.underlying22 (by omega) (by kernel_rfl) (by omega) ⟨rfl, rfl⟩) ?_
    refine wl_v (.int .i64 (b k)) rfl rfl (y_ldR rfl rfl Tryd.underlying3 (((B66).cell (by omega)).trans (some_int (upto_at k _ _))) ⟨rfl, rfl⟩) ?_
    refine wl_v (.int .i64 (max (b k) (-1048576))) rfl rfl (y_maxR rfl rfl rfl rfl ⟨rfl, rfl⟩) ?_
    refine wl_v (.int .i64 (cl 1048576 (b k))) rfl rfl (y_minR rfl rfl rfl (by unfold cl; omega) ⟨rfl, rfl⟩) ?_
    refine wl_v (.pointer (some ⟨p9, k, none⟩)) rfl rfl (y_atR (k) (s := 1) rfl s71 rfl (by omega) Tryd.underlying22 (by omega) (by kernel_rfl) (by omega) ⟨rfl, rfl⟩) ?_
    refine wl_set_blk rfl rfl rfl rfl rfl B66 (by omega) (by kernel_rfl) fun w75 B76 k77 => ?_
    have B78 := B64.all k77 (fun x => (((ap16).symm) p1 rfl x))
    have K79 := K67.trans k77 (Grew.ok (S := fun _ => False) gr15 noB_le)
    refine wl_nil fun F80 hF81 => ?_
    have s82 : F80 2 = .pointer (some ⟨p1, 0, none⟩) := (hF81 2).trans s70
    have s83 : F80 3 = .pointer (some ⟨p9, 0, none⟩) := (hF81 3).trans s71
    have s84 : F80 5 = .bool true := (hF81 5).trans s72
    have s85 : F80 56 = undef := (hF81 56).trans s73
    have s86 : F80 6 = .int .i64 (((k : Nat) : Int)) := (hF81 6).trans s74
    clear hF81
    refine in_normal ?_
    refine then_normal ?_
    refine wq_region ?_
    refine wl_v (.int .i64 (((k : Nat) : Int))) rfl rfl (y_mov rfl s86 ⟨rfl, rfl⟩) ?_
    refine wl_v (.int .i64 (((k + 1 : Nat) : Int))) rfl rfl (y_add rfl rfl rfl (i64_n (by omega) (by omega)) ⟨rfl, rfl⟩) ?_
    refine wl_v (.int .i64 (((k + 1 : Nat) : Int))) rfl rfl (y_asg rfl rfl ⟨rfl, rfl⟩) ?_
    refine wl_nil fun F87 hF88 => ?_
    have s89 : F87 2 = .pointer (some ⟨p1, 0, none⟩) := (hF88 2).trans s82
    have s90 : F87 3 = .pointer (some ⟨p9, 0, none⟩) := (hF88 3).trans s83
    have s91 : F87 5 = .bool true := (hF88 5).trans s84
    have s92 : F87 56 = undef := (hF88 56).trans s85
    have s93 : F87 6 = .int .i64 (((k + 1 : Nat) : Int)) := (hF88 6).trans rfl
    clear hF88
    exact then_normal ⟨(16 - (k + 1)), by omega, k + 1, by omega, rfl, s89, s90, s91, s92, s93, K79, (B78.next rfl), (B76.next rfl)⟩
  · replace c62 := of_decide_eq_false c62
    refine wq_exit ?_
    refine then_exit ?_
    refine then_exit ?_
    have l94 : 16 = k := by omega
    subst l94
    have B95 : Blk w43 p1 22 (clB 1048576 a) := (B52.last)
    have B96 : Blk w43 p9 22 (clB 1048576 b) := (B53.last)
    refine in_here ?_
    refine then_normal ?_
    refine wq_seq ?_
    refine wq_region ?_
    refine wl_v (.agg #[.slice none 0 0, .int .i64 0]) rfl rfl (y_buildR (cells := #[.slice none 0 0, .int .i64 0]) rfl (by kernel_rfl) rfl ⟨rfl, rfl⟩) ?_
    refine wl_box_wri rfl rfl rfl rfl fun p97 w98 T102 B101 g103 k99 => ?_
    have gr104 : Grew w0 noB (T102) := Grew.new K44 g103
    have ap105 : Apart (T102) (onB p1) := Apart.new g103 (onB_live (B95).lt)
    have ap106 : Apart (T102) (onB p9) := Apart.new g103 (onB_live (B96).lt)
    have B107 := B95.all k99 id
    have B108 := B96.all k99 id
    have K109 := K44.trans k99 (fun _ _ x => x.elim)
    refine wl_v (.pointer (some ⟨p97, 0, none⟩)) rfl rfl (y_asg rfl rfl ⟨rfl, rfl⟩) ?_
    refine wl_nil fun F110 hF111 => ?_
    have s112 : F110 2 = .pointer (some ⟨p1, 0, none⟩) := (hF111 2).trans s56
    have s113 : F110 3 = .pointer (some ⟨p9, 0, none⟩) := (hF111 3).trans s57
    have s114 : F110 5 = .bool true := (hF111 5).trans s58
    have s115 : F110 56 = undef := (hF111 56).trans s59
    have s116 : F110 7 = .pointer (some ⟨p97, 0, none⟩) := (hF111 7).trans rfl
    clear hF111
    refine then_normal ?_
    refine wq_seq ?_
    refine wq_region ?_
    refine wl_v (.agg #[.slice none 0 0, .int .i64 0]) rfl rfl (y_buildR (cells := #[.slice none 0 0, .int .i64 0]) rfl (by kernel_rfl) rfl ⟨rfl, rfl⟩) ?_
    refine wl_box_wri rfl rfl rfl rfl fun p117 w118 T122 B121 g123 k119 => ?_
    have gr124 : Grew w0 noB (T122) := Grew.new K109 g123
    have ap125 : Apart (T122) (onB p1) := Apart.new g123 (onB_live (B107).lt)
    have ap126 : Apart (T122) (onB p9) := Apart.new g123 (onB_live (B108).lt)
    have ap127 : Apart (T122) (T102) := Apart.new g123 (B101).live
    have B128 := B107.all k119 id
    have B129 := B108.all k119 id
    have B130 := B101.all k119 Apart.none
    have K131 := K109.trans k119 (fun _ _ x => x.elim)
    refine wl_v (.pointer (some ⟨p117, 0, none⟩)) rfl rfl (y_asg rfl rfl ⟨rfl, rfl⟩) ?_
    refine wl_nil fun F132 hF133 => ?_
    have s134 : F132 2 = .pointer (some ⟨p1, 0, none⟩) := (hF133 2).trans s112
    have s135 : F132 3 = .pointer (some ⟨p9, 0, none⟩) := (hF133 3).trans s113
    have s136 : F132 5 = .bool true := (hF133 5).trans s114
    have s137 : F132 56 = undef := (hF133 56).trans s115
    have s138 : F132 7 = .pointer (some ⟨p97, 0, none⟩) := (hF133 7).trans s116
    have s139 : F132 8 = .pointer (some ⟨p117, 0, none⟩) := (hF133 8).trans rfl
    clear hF133
    refine then_normal ?_
    refine wq_seq ?_
    refine wq_region ?_
    refine wl_v (.pointer (some ⟨p97, 0, none⟩)) rfl rfl (y_mov rfl s138 ⟨rfl, rfl⟩) ?_
    refine wl_v (blkV (clB 1048576 a)) rfl rfl (y_load_blk blkT_arr rfl s134 B128 ⟨rfl, rfl⟩) ?_
    refine wl_call (R := fun v_ w_ => ∃ (T142 : Nat → Prop), .tuple #[] = v_ ∧ Kept (T102) w118 w_ ∧ (Wri w_ T142 p97 ((([] : List Bool)) ++ scanBits (clB 1048576 a)) ∧ Grew w118 (T102) T142)) rfl rfl (y_cs rfl rfl rfl (fun _ _ => by kernel_rfl) (ev_func _) (vsC rfl (vsC rfl vsN)) (scan_write (p97) (([] : List Bool)) (clB 1048576 a) (T102) _ (hO.all K131) (above gr104 hO) (by first | decide | (simp; omega) | simp) B130 ) (fun e_ w_ h_ => by obtain ⟨T142_, he_, hr_⟩ := h_; exact ⟨_, he_, T142_, rfl, hr_⟩)) ?_
    rintro _ w140 ⟨T142, rfl, k141, ⟨B143, g144⟩⟩
    have B145 := B128.all k141 (fun x => (((ap105).symm) p1 rfl x))
    have B146 := B129.all k141 (fun x => (((ap106).symm) p9 rfl x))
    have B147 := B121.all k141 (fun i h x => ((ap127) i h x))
    have K148 := K131.trans k141 (fun i hi x => ((Grew.ok (S := fun _ => False) gr104 noB_le) i hi x))
    have gr149 := gr104.trans K131 g144
    have ap150 : Apart T142 (onB p1) := (ap105).grew g144 (onB_live (B128).lt)
    have ap151 : Apart T142 (onB p9) := (ap106).grew g144 (onB_live (B129).lt)
    have ap152 : Apart T142 (T122) := ((ap127).symm).grew g144 (B121).live
    refine wl_nil fun F153 hF154 => ?_
    have s155 : F153 2 = .pointer (some ⟨p1, 0, none⟩) := (hF154 2).trans s134
    have s156 : F153 3 = .pointer (some ⟨p9, 0, none⟩) := (hF154 3).trans s135
    have s157 : F153 5 = .bool true := (hF154 5).trans s136
    have s158 : F153 56 = undef := (hF154 56).trans s137
    have s159 : F153 7 = .pointer (some ⟨p97, 0, none⟩) := (hF154 7).trans s138
    have s160 : F153 8 = .pointer (some ⟨p117, 0, none⟩) := (hF154 8).trans s139
    clear hF154
    refine then_normal ?_
    refine wq_seq ?_
    refine wq_region ?_
    refine wl_v (.pointer (some ⟨p117, 0, none⟩)) rfl rfl (y_mov rfl s160 ⟨rfl, rfl⟩) ?_
    refine wl_v (blkV (clB 1048576 b)) rfl rfl (y_load_blk blkT_arr rfl s156 B146 ⟨rfl, rfl⟩) ?_
    refine wl_call (R := fun v_ w_ => ∃ (T163 : Nat → Prop), .tuple #[] = v_ ∧ Kept (T122) w140 w_ ∧ (Wri w_ T163 p117 ((([] : List Bool)) ++ scanBits (clB 1048576 b)) ∧ Grew w140 (T122) T163)) rfl rfl (y_cs rfl rfl rfl (fun _ _ => by kernel_rfl) (ev_func _) (vsC rfl (vsC rfl vsN)) (scan_write (p117) (([] : List Bool)) (clB 1048576 b) (T122) _ (hO.all K148) (above gr124 hO) (by first | decide | (simp; omega) | simp) B147 ) (fun e_ w_ h_ => by obtain ⟨T163_, he_, hr_⟩ := h_; exact ⟨_, he_, T163_, rfl, hr_⟩)) ?_
    rintro _ w161 ⟨T163, rfl, k162, ⟨B164, g165⟩⟩
    have B166 := B145.all k162 (fun x => (((ap125).symm) p1 rfl x))
    have B167 := B146.all k162 (fun x => (((ap126).symm) p9 rfl x))
    have B168 := B143.all k162 (fun i h x => ((ap152) i h x))
    have K169 := K148.trans k162 (fun i hi x => ((Grew.ok (S := fun _ => False) gr124 noB_le) i hi x))
    have gr170 := gr124.trans K148 g165
    have ap171 : Apart T163 (onB p1) := (ap125).grew g165 (onB_live (B145).lt)
    have ap172 : Apart T163 (onB p9) := (ap126).grew g165 (onB_live (B146).lt)
    have ap173 : Apart T163 (T142) := ((ap152).symm).grew g165 (B143).live
    refine wl_nil fun F174 hF175 => ?_
    have s176 : F174 2 = .pointer (some ⟨p1, 0, none⟩) := (hF175 2).trans s155
    have s177 : F174 3 = .pointer (some ⟨p9, 0, none⟩) := (hF175 3).trans s156
    have s178 : F174 5 = .bool true := (hF175 5).trans s157
    have s179 : F174 56 = undef := (hF175 56).trans s158
    have s180 : F174 7 = .pointer (some ⟨p97, 0, none⟩) := (hF175 7).trans s159
    have s181 : F174 8 = .pointer (some ⟨p117, 0, none⟩) := (hF175 8).trans s160
    clear hF175
    refine then_normal ?_
    refine wq_seq ?_
    refine wq_region ?_
    refine wl_v (.pointer (some ⟨p97, 0, none⟩)) rfl rfl (y_mov rfl s180 ⟨rfl, rfl⟩) ?_
    refine wl_call (R := fun v_ w_ => ∃ (T184 : Nat → Prop), .tuple #[] = v_ ∧ Kept (T142) w161 w_ ∧ (Wri w_ T184 p97 (((([] : List Bool)) ++ scanBits (clB 1048576 a)) ++ endBits ((([] : List Bool)) ++ scanBits (clB 1048576 a)).length) ∧ Grew w161 (T142) T184)) rfl rfl (y_cs rfl rfl rfl (fun _ _ => by kernel_rfl) (ev_func _) (vsC rfl vsN) (t_end (p97) ((([] : List Bool)) ++ scanBits (clB 1048576 a)) (T142) _ (by simp; omega) B168 ) (fun e_ w_ h_ => by obtain ⟨T184_, he_, hr_⟩ := h_; exact ⟨_, he_, T184_, rfl, hr_⟩)) ?_
    rintro _ w182 ⟨T184, rfl, k183, ⟨B185, g186⟩⟩
    have B187 := B166.all k183 (fun x => (((ap150).symm) p1 rfl x))
    have B188 := B167.all k183 (fun x => (((ap151).symm) p9 rfl x))
    have B189 := B164.all k183 (fun i h x => ((ap173) i h x))
    have K190 := K169.trans k183 (fun i hi x => ((Grew.ok (S := fun _ => False) gr149 noB_le) i hi x))
    have gr191 := gr149.trans K169 g186
    have ap192 : Apart T184 (onB p1) := (ap150).grew g186 (onB_live (B166).lt)
    have ap193 : Apart T184 (onB p9) := (ap151).grew g186 (onB_live (B167).lt)
    have ap194 : Apart T184 (T163) := ((ap173).symm).grew g186 (B164).live
    refine wl_nil fun F195 hF196 => ?_
    have s197 : F195 2 = .pointer (some ⟨p1, 0, none⟩) := (hF196 2).trans s176
    have s198 : F195 3 = .pointer (some ⟨p9, 0, none⟩) := (hF196 3).trans s177
    have s199 : F195 5 = .bool true := (hF196 5).trans s178
    have s200 : F195 56 = undef := (hF196 56).trans s179
    have s201 : F195 7 = .pointer (some ⟨p97, 0, none⟩) := (hF196 7).trans s180
    have s202 : F195 8 = .pointer (some ⟨p117, 0, none⟩) := (hF196 8).trans s181
    clear hF196
    refine then_normal ?_
    refine wq_seq ?_
    refine wq_region ?_
    refine wl_v (.pointer (some ⟨p117, 0, none⟩)) rfl rfl (y_mov rfl s202 ⟨rfl, rfl⟩) ?_
    refine wl_call (R := fun v_ w_ => ∃ (T205 : Nat → Prop), .tuple #[] = v_ ∧ Kept (T163) w182 w_ ∧ (Wri w_ T205 p117 (((([] : List Bool)) ++ scanBits (clB 1048576 b)) ++ endBits ((([] : List Bool)) ++ scanBits (clB 1048576 b)).length) ∧ Grew w182 (T163) T205)) rfl rfl (y_cs rfl rfl rfl (fun _ _ => by kernel_rfl) (ev_func _) (vsC rfl vsN) (t_end (p117) ((([] : List Bool)) ++ scanBits (clB 1048576 b)) (T163) _ (by simp; omega) B189 ) (fun e_ w_ h_ => by obtain ⟨T205_, he_, hr_⟩ := h_; exact ⟨_, he_, T205_, rfl, hr_⟩)) ?_
    rintro _ w203 ⟨T205, rfl, k204, ⟨B206, g207⟩⟩
    have B208 := B187.all k204 (fun x => (((ap171).symm) p1 rfl x))
    have B209 := B188.all k204 (fun x => (((ap172).symm) p9 rfl x))
    have B210 := B185.all k204 (fun i h x => ((ap194) i h x))
    have K211 := K190.trans k204 (fun i hi x => ((Grew.ok (S := fun _ => False) gr170 noB_le) i hi x))
    have gr212 := gr170.trans K190 g207
    have ap213 : Apart T205 (onB p1) := (ap171).grew g207 (onB_live (B187).lt)
    have ap214 : Apart T205 (onB p9) := (ap172).grew g207 (onB_live (B188).lt)
    have ap215 : Apart T205 (T184) := ((ap194).symm).grew g207 (B185).live
    refine wl_nil fun F216 hF217 => ?_
    have s218 : F216 2 = .pointer (some ⟨p1, 0, none⟩) := (hF217 2).trans s197
    have s219 : F216 3 = .pointer (some ⟨p9, 0, none⟩) := (hF217 3).trans s198
    have s220 : F216 5 = .bool true := (hF217 5).trans s199
    have s221 : F216 56 = undef := (hF217 56).trans s200
    have s222 : F216 7 = .pointer (some ⟨p97, 0, none⟩) := (hF217 7).trans s201
    have s223 : F216 8 = .pointer (some ⟨p117, 0, none⟩) := (hF217 8).trans s202
    clear hF217
    refine then_normal ?_
    refine wq_seq ?_
    refine wq_said [some 42, some 43, some 44, some 45, some 46, some 47, some 48, some 49, some 50, some 51, some 52, some 53, some 54, some 55, some 4] [Pd.eq (.bool true), Pd.eq (.bool true), Pd.eq (.pointer (some ⟨p97, 0, none⟩)), Pd.bytes (pack (((([] : List Bool)) ++ scanBits (clB 1048576 a)) ++ endBits ((([] : List Bool)) ++ scanBits (clB 1048576 a)).length)), Pd.eq (.string (textOf (pack (((([] : List Bool)) ++ scanBits (clB 1048576 a)) ++ endBits ((([] : List Bool)) ++ scanBits (clB 1048576 a)).length)))), Pd.eq (.pointer (some ⟨p117, 0, none⟩)), Pd.bytes (pack (((([] : List Bool)) ++ scanBits (clB 1048576 b)) ++ endBits ((([] : List Bool)) ++ scanBits (clB 1048576 b)).length)), Pd.eq (.string (textOf (pack (((([] : List Bool)) ++ scanBits (clB 1048576 b)) ++ endBits ((([] : List Bool)) ++ scanBits (clB 1048576 b)).length)))), Pd.eq (.bool ((textOf (pack (((([] : List Bool)) ++ scanBits (clB 1048576 a)) ++ endBits ((([] : List Bool)) ++ scanBits (clB 1048576 a)).length))).toList == (textOf (pack (((([] : List Bool)) ++ scanBits (clB 1048576 b)) ++ endBits ((([] : List Bool)) ++ scanBits (clB 1048576 b)).length))).toList)), Pd.eq (blkV (clB 1048576 a)), Pd.eq (blkV (clB 1048576 b)), Pd.eq (.bool (sameB (clB 1048576 a) (clB 1048576 b))), Pd.eq (.bool true), Pd.eq (.bool true), Pd.eq (.bool true)] (by kernel_rfl) (by kernel_rfl) ?_ ?_
    · refine stepsF_cons ?_ ?_
      · refine StepF.one rfl fun F_ w_ hR hout hD => ?_
        exact (y_mov rfl ((hout 5 rfl (by decide)).trans s220) ⟨rfl, Kept.refl _ _⟩)
      refine stepsF_cons ?_ ?_
      · refine StepF.one rfl fun F_ w_ hR hout hD => ?_
        have g42 : F_ 42 = .bool true := hD.get 0 rfl rfl rfl
        exact (y_mov rfl g42 ⟨rfl, Kept.refl _ _⟩)
      refine stepsF_cons ?_ ?_
      · refine StepF.when 1 true 43 rfl rfl fun F_ w_ hR hout hD => ?_
        have g43 : F_ 43 = .bool true := hD.get 0 rfl rfl rfl
        exact ⟨g43, (y_mov rfl ((hout 7 rfl (by decide)).trans s222) ⟨rfl, Kept.refl _ _⟩)⟩
      refine stepsF_cons ?_ ?_
      · refine StepF.when 1 true 43 rfl rfl fun F_ w_ hR hout hD => ?_
        have g43 : F_ 43 = .bool true := hD.get 1 rfl rfl rfl
        have g44 : F_ 44 = .pointer (some ⟨p97, 0, none⟩) := hD.get 0 rfl rfl rfl
        exact ⟨g43, (y_cs rfl rfl rfl (fun _ _ => by kernel_rfl) (ev_func _) (vsC g44 vsN) (t_bytes (p97) (((([] : List Bool)) ++ scanBits (clB 1048576 a)) ++ endBits ((([] : List Bool)) ++ scanBits (clB 1048576 a)).length) (T184) _ (by simp [endBits_length]; omega) (B210.all hR Apart.none) ) (fun e_ w_ h_ => by obtain ⟨v_, T_, he_, k_, hb_, _⟩ := h_; exact ⟨v_, he_, hb_.1, k_⟩))⟩
      refine stepsF_cons ?_ ?_
      · refine StepF.when 1 true 43 rfl rfl fun F_ w_ hR hout hD => ?_
        have g43 : F_ 43 = .bool true := hD.get 1 rfl rfl rfl
        have g45 : BytesArg w_ (F_ 45) (pack (((([] : List Bool)) ++ scanBits (clB 1048576 a)) ++ endBits ((([] : List Bool)) ++ scanBits (clB 1048576 a)).length)) := hD.get 0 rfl rfl rfl
        exact ⟨g43, (y_text rfl g45 ⟨rfl, Kept.refl _ _⟩)⟩
      refine stepsF_cons ?_ ?_
      · refine StepF.when 1 true 43 rfl rfl fun F_ w_ hR hout hD => ?_
        have g43 : F_ 43 = .bool true := hD.get 0 rfl rfl rfl
        exact ⟨g43, (y_mov rfl ((hout 8 rfl (by decide)).trans s223) ⟨rfl, Kept.refl _ _⟩)⟩
      refine stepsF_cons ?_ ?_
      · refine StepF.when 1 true 43 rfl rfl fun F_ w_ hR hout hD => ?_
        have g43 : F_ 43 = .bool true := hD.get 2 rfl rfl rfl
        have g47 : F_ 47 = .pointer (some ⟨p117, 0, none⟩) := hD.get 0 rfl rfl rfl
        exact ⟨g43, (y_cs rfl rfl rfl (fun _ _ => by kernel_rfl) (ev_func _) (vsC g47 vsN) (t_bytes (p117) (((([] : List Bool)) ++ scanBits (clB 1048576 b)) ++ endBits ((([] : List Bool)) ++ scanBits (clB 1048576 b)).length) (T205) _ (by simp [endBits_length]; omega) (B206.all hR Apart.none) ) (fun e_ w_ h_ => by obtain ⟨v_, T_, he_, k_, hb_, _⟩ := h_; exact ⟨v_, he_, hb_.1, k_⟩))⟩
      refine stepsF_cons ?_ ?_
      · refine StepF.when 1 true 43 rfl rfl fun F_ w_ hR hout hD => ?_
        have g43 : F_ 43 = .bool true := hD.get 1 rfl rfl rfl
        have g48 : BytesArg w_ (F_ 48) (pack (((([] : List Bool)) ++ scanBits (clB 1048576 b)) ++ endBits ((([] : List Bool)) ++ scanBits (clB 1048576 b)).length)) := hD.get 0 rfl rfl rfl
        exact ⟨g43, (y_text rfl g48 ⟨rfl, Kept.refl _ _⟩)⟩
      refine stepsF_cons ?_ ?_
      · refine StepF.when 1 true 43 rfl rfl fun F_ w_ hR hout hD => ?_
        have g43 : F_ 43 = .bool true := hD.get 2 rfl rfl rfl
        have g46 : F_ 46 = .string (textOf (pack (((([] : List Bool)) ++ scanBits (clB 1048576 a)) ++ endBits ((([] : List Bool)) ++ scanBits (clB 1048576 a)).length))) := hD.get 0 rfl rfl rfl
        have g49 : F_ 49 = .string (textOf (pack (((([] : List Bool)) ++ scanBits (clB 1048576 b)) ++ endBits ((([] : List Bool)) ++ scanBits (clB 1048576 b)).length))) := hD.get 1 rfl rfl rfl
        exact ⟨g43, (y_eqlS rfl g46 g49 rfl ⟨rfl, Kept.refl _ _⟩)⟩
      refine stepsF_cons ?_ ?_
      · refine StepF.when 1 true 43 rfl rfl fun F_ w_ hR hout hD => ?_
        have g43 : F_ 43 = .bool true := hD.get 0 rfl rfl rfl
        exact ⟨g43, (y_load_blk blkT_arr rfl ((hout 2 rfl (by decide)).trans s218) (B208.all hR id) ⟨rfl, Kept.refl _ _⟩)⟩
      refine stepsF_cons ?_ ?_
      · refine StepF.when 1 true 43 rfl rfl fun F_ w_ hR hout hD => ?_
        have g43 : F_ 43 = .bool true := hD.get 0 rfl rfl rfl
        exact ⟨g43, (y_load_blk blkT_arr rfl ((hout 3 rfl (by decide)).trans s219) (B209.all hR id) ⟨rfl, Kept.refl _ _⟩)⟩
      refine stepsF_cons ?_ ?_
      · refine StepF.when 1 true 43 rfl rfl fun F_ w_ hR hout hD => ?_
        have g43 : F_ 43 = .bool true := hD.get 2 rfl rfl rfl
        have g51 : F_ 51 = blkV (clB 1048576 a) := hD.get 0 rfl rfl rfl
        have g52 : F_ 52 = blkV (clB 1048576 b) := hD.get 1 rfl rfl rfl
        exact ⟨g43, (y_sameA rfl g51 g52 rfl ⟨rfl, Kept.refl _ _⟩)⟩
      refine stepsF_cons ?_ ?_
      · refine StepF.when 1 true 43 rfl rfl fun F_ w_ hR hout hD => ?_
        have g43 : F_ 43 = .bool true := hD.get 2 rfl rfl rfl
        have g50 : F_ 50 = .bool ((textOf (pack (((([] : List Bool)) ++ scanBits (clB 1048576 a)) ++ endBits ((([] : List Bool)) ++ scanBits (clB 1048576 a)).length))).toList == (textOf (pack (((([] : List Bool)) ++ scanBits (clB 1048576 b)) ++ endBits ((([] : List Bool)) ++ scanBits (clB 1048576 b)).length))).toList) := hD.get 0 rfl rfl rfl
        have g53 : F_ 53 = .bool (sameB (clB 1048576 a) (clB 1048576 b)) := hD.get 1 rfl rfl rfl
        exact ⟨g43, (y_eqlB rfl g50 g53 Tryd.underlying4 (apart_law a b) ⟨rfl, Kept.refl _ _⟩)⟩
      refine stepsF_cons ?_ ?_
      · refine StepF.one rfl fun F_ w_ hR hout hD => ?_
        have g43 : F_ 43 = .bool true := hD.get 0 rfl rfl rfl
        have g54 : F_ 54 = .bool true := hD.get 1 rfl rfl rfl
        exact (y_pickT rfl g43 g54 ⟨rfl, Kept.refl _ _⟩)
      refine stepsF_cons ?_ ?_
      · refine StepF.one rfl fun F_ w_ hR hout hD => ?_
        have g55 : F_ 55 = .bool true := hD.get 0 rfl rfl rfl
        exact (y_asg rfl g55 ⟨rfl, Kept.refl _ _⟩)
      exact stepsF_nil
    intro v226 F227 w228 k229 G230 hF231
    have B232 := B208.all k229 id
    have B233 := B209.all k229 id
    have B234 := B210.all k229 Apart.none
    have B235 := B206.all k229 Apart.none
    have K236 := K211.trans k229 (fun _ _ x => x.elim)
    have s237 : F227 56 = undef := (hF231 56).trans s221
    have s238 : F227 4 = .bool true := (hF231 4).trans (G230 14 (by decide))
    clear G230 hF231
    refine then_normal ?_
    refine wq_ret ?_
    exact end_tmp (v := .bool true) s237 rfl rfl s238 ⟨rfl, K236⟩
end Go.Proofs.YtipimcnjcpckeaaDoor
