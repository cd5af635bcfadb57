/- What BlockTells reaches of my texts, part 7. -/
import Derived.Test.YtdcbabgcbkdlhaaDoorBlockTellsF
set_option maxRecDepth 100000
set_option maxRecDepth 100000
namespace Go.Proofs.YtdcbabgcbkdlhaaDoor
open Go.RowKit

def c12 : Ch := ⟨4, 2, 0, 0, 0, blL [3]⟩
set_option maxRecDepth 100000 in
theorem awake12 : chE 1 c12 = 0 ∧ chE 0 ⟨4, 0, 0, 0, 0, fun _ => 0⟩ = 120 ∧ chE 1 ⟨4, 0, 0, 0, 0, fun _ => 0⟩ = 0 ∧ buB (blL [100]) (blL [16]) 0 0 = 101 ∧ buB (blL [100]) (blL [16]) 0 5 = 1 ∧ ern 0 = 0 := by
  refine ⟨?_, ?_, ?_, ?_, ?_, ?_⟩ <;> decide +kernel
theorem awake12b : ∃ d, rdCh (pack (wrCh 1 c12 0 0 0 0)) 1 0 0 0 0 (some 0) = (d, 0, some (wrCh 1 c12 0 0 0 0).length) ∧ sameCh d c12 = true := by
  have h := awake12.1
  have e : wrCh 1 c12 0 0 0 0 = chBits c12 0 0 0 0 := if_pos h
  rw [e]
  have := ch_back (l := pack (chBits c12 0 0 0 0)) (a := 0) h (bitsAt_pack _)
  rwa [Nat.zero_add] at this

set_option maxHeartbeats 4000000 in
set_option maxRecDepth 100000 in
theorem bawake_any (w0 : World) (hA : ActsIn w0) (hO : ScanIn w0) (hs : StepsAt w0) (hw : Waves w0) :
  Calls Tryd.prog 9 #[] w0 fun e w' => e = .returned (.bool true) ∧ Kept (fun _ => False) w0 w' := by
 refine calls_wq (args := []) 98 Tryd.func9 rfl rfl (Nat.le_of_ble_eq_true rfl) ?_
 have K0 := Kept.refl (fun _ => False) w0
 have hf := Lib.hid awake12
 have hlen := wrCh_short 1 c12 0 0 0 0
 obtain ⟨d0, hd⟩ := awake12b
 obtain ⟨b0, hb0⟩ : ∃ b0, b0 = wrCh 1 c12 0 0 0 0 := ⟨_, rfl⟩
 rw [← hb0] at hd hlen
 have hd0 := Lib.hid hd
 clear hd
 refine wq_seq ?_
 refine wq_region ?_
 refine wl_v (.bool false) rfl rfl (y_asg rfl rfl ⟨rfl, rfl⟩) ?_
 refine wl_nil fun F1 hF2 => ?_
 have s3 : F1 98 = undef := (hF2 98).trans rfl
 clear hF2
 refine then_normal ?_
 refine wq_seq ?_
 refine wq_region ?_
 refine wl_call (R := fun v_ w_ => v_ = .tuple #[.bool (pastB (4)), .bool (nextB (4))] ∧ Kept (fun _ => False) w0 w_) rfl rfl (y_cs rfl rfl rfl (fun _ _ => by kernel_rfl) (ev_func _) (vsC rfl vsN) (bl_vectors (4)  _ (hA.all K0)  ) (fun e_ w_ h_ => ⟨_, h_.1, rfl, h_.2⟩)) ?_
 rintro _ w4 ⟨rfl, k5⟩
 have K6 := K0.trans k5 (fun _ _ x => x.elim)
 refine wl_v (.tuple #[.bool (pastB (4)), .bool (nextB (4))]) rfl rfl (y_mov rfl rfl ⟨rfl, rfl⟩) ?_
 refine wl_v (.bool (pastB (4))) rfl rfl (y_ext rfl rfl rfl ⟨rfl, rfl⟩) ?_
 refine wl_v (.bool (nextB (4))) rfl rfl (y_ext rfl rfl rfl ⟨rfl, rfl⟩) ?_
 refine wl_v (.bool (pastB (4))) rfl rfl (y_asg rfl rfl ⟨rfl, rfl⟩) ?_
 refine wl_v (.bool (nextB (4))) rfl rfl (y_asg rfl rfl ⟨rfl, rfl⟩) ?_
 refine wl_nil fun F7 hF8 => ?_
 have s9 := (hF8 98).trans s3
 have s10 : F7 1 = .bool (pastB (4)) := (hF8 1).trans rfl
 have s11 : F7 2 = .bool (nextB (4)) := (hF8 2).trans rfl
 clear hF8
 refine then_normal ?_
 refine wq_seq ?_
 refine wq_region ?_
 refine wl_call (R := fun v_ w_ => v_ = .tuple #[.bool (pastB (6)), .bool (nextB (6))] ∧ Kept (fun _ => False) w4 w_) rfl rfl (y_cs rfl rfl rfl (fun _ _ => by kernel_rfl) (ev_func _) (vsC rfl vsN) (bl_vectors (6)  _ (hA.all K6)  ) (fun e_ w_ h_ => ⟨_, h_.1, rfl, h_.2⟩)) ?_
 rintro _ w12 ⟨rfl, k13⟩
 have K14 := K6.trans k13 (fun _ _ x => x.elim)
 refine wl_v (.tuple #[.bool (pastB (6)), .bool (nextB (6))]) rfl rfl (y_mov rfl rfl ⟨rfl, rfl⟩) ?_
 refine wl_v (.bool (pastB (6))) rfl rfl (y_ext rfl rfl rfl ⟨rfl, rfl⟩) ?_
 refine wl_v (.bool (nextB (6))) rfl rfl (y_ext rfl rfl rfl ⟨rfl, rfl⟩) ?_
 refine wl_v (.bool (pastB (6))) rfl rfl (y_asg rfl rfl ⟨rfl, rfl⟩) ?_
 refine wl_v (.bool (nextB (6))) rfl rfl (y_asg rfl rfl ⟨rfl, rfl⟩) ?_
 refine wl_nil fun F15 hF16 => ?_
 have s17 := (hF16 98).trans s9
 have s18 := (hF16 1).trans s10
 have s19 := (hF16 2).trans s11
 have s20 : F15 3 = .bool (pastB (6)) := (hF16 3).trans rfl
 have s21 : F15 4 = .bool (nextB (6)) := (hF16 4).trans rfl
 clear hF16
 refine then_normal ?_
 refine wq_seq ?_
 refine wq_region ?_
 refine wl_v (.agg #[.slice none 0 0, .int .i64 0]) rfl rfl (y_buildR (cells := #[.slice none 0 0, .int .i64 0]) rfl (by kernel_rfl) rfl ⟨rfl, rfl⟩) ?_
 refine wl_box_wri rfl rfl rfl rfl fun p22 w23 T27 B26 g28 k24 => ?_
 have gr29 : Grew w0 noB (T27) := Grew.new K14 g28
 have K30 := K14.trans k24 (fun _ _ x => x.elim)
 refine wl_v (.pointer (some ⟨p22, 0, none⟩)) rfl rfl (y_asg rfl rfl ⟨rfl, rfl⟩) ?_
 refine wl_nil fun F31 hF32 => ?_
 have s33 := (hF32 98).trans s17
 have s34 := (hF32 1).trans s18
 have s35 := (hF32 2).trans s19
 have s36 := (hF32 3).trans s20
 have s37 := (hF32 4).trans s21
 have s38 : F31 5 = .pointer (some ⟨p22, 0, none⟩) := (hF32 5).trans rfl
 clear hF32
 refine then_normal ?_
 refine wq_seq ?_
 refine wq_region ?_
 refine wl_v (.agg #[.int .i64 (2), .int .i64 (0)]) rfl rfl (y_buildL (l' := [(0, .int .i64 (2))]) (cells := #[.int .i64 (2), .int .i64 (0)]) rfl (bpC rfl bpN) (by kernel_rfl) rfl ⟨rfl, rfl⟩) ?_
 refine wl_v (blkV (blL [3])) rfl rfl (y_buildR (cells := (arrL 16 (blL [3])).toArray) rfl (by kernel_rfl) rfl ⟨rfl, rfl⟩) ?_
 refine wl_v (.agg (chL 4 2 0 0 0 (blL [3])).toArray) rfl rfl (y_buildL (l' := [(0, .int .i64 (4)), (1, .agg #[.int .i64 (2), .int .i64 (0)]), (3, blkV (blL [3]))]) (cells := (chL 4 2 0 0 0 (blL [3])).toArray) rfl (bpC rfl (bpC rfl (bpC rfl bpN))) (by kernel_rfl) rfl ⟨rfl, rfl⟩) ?_
 refine wl_alloc_stc (n := 21) (vs := (chL 0 0 0 0 0 (fun _ => (0 : Int)))) rfl rfl rfl (by kernel_rfl) fun p39 w40 B42 g43 k41 => ?_
 have gr44 : Grew w0 noB (onB p39) := Grew.new K30 g43
 have ap45 : Apart (onB p39) (T27) := Apart.new g43 (B26).live
 have B46 := B26.all k41 Apart.none
 have K47 := K30.trans k41 (fun _ _ x => x.elim)
 refine wl_store_stc (us := (chL 4 2 0 0 0 (blL [3]))) stcT_choice rfl rfl rfl rfl rfl B42 rfl (oneI rfl (oneI rfl (oneI rfl (oneI rfl (oneI rfl (oneI rfl (oneI rfl (oneI rfl (oneI rfl (oneI rfl (oneI rfl (oneI rfl (oneI rfl (oneI rfl (oneI rfl (oneI rfl (oneI rfl (oneI rfl (oneI rfl (oneI rfl (oneI rfl oneN))))))))))))))))))))) fun w48 B49 k50 => ?_
 have B51 := B46.all k50 (fun i h x => (((ap45).symm) i h x))
 have K52 := K47.trans k50 (Grew.ok (S := fun _ => False) gr44 noB_le)
 refine wl_nil fun F53 hF54 => ?_
 have s55 := (hF54 98).trans s33
 have s56 := (hF54 1).trans s34
 have s57 := (hF54 2).trans s35
 have s58 := (hF54 3).trans s36
 have s59 := (hF54 4).trans s37
 have s60 := (hF54 5).trans s38
 have s61 : F53 6 = .pointer (some ⟨p39, 0, none⟩) := (hF54 6).trans rfl
 clear hF54
 refine then_normal ?_
 refine wq_seq ?_
 refine wq_region ?_
 refine wl_v (.pointer (some ⟨p22, 0, none⟩)) rfl rfl (y_mov rfl s60 ⟨rfl, rfl⟩) ?_
 refine wl_v (.agg (chL 4 2 0 0 0 (blL [3])).toArray) rfl rfl (y_load_stc stcT_choice rfl s61 B49 ⟨rfl, rfl⟩) ?_
 refine wl_v (.agg #[.int .i64 (0), .int .i64 (0)]) rfl rfl (y_buildL (l' := []) (cells := #[.int .i64 (0), .int .i64 (0)]) rfl bpN (by kernel_rfl) rfl ⟨rfl, rfl⟩) ?_
 refine wl_v (.agg #[.int .i64 (0), .int .i64 (0)]) rfl rfl (y_buildL (l' := []) (cells := #[.int .i64 (0), .int .i64 (0)]) rfl bpN (by kernel_rfl) rfl ⟨rfl, rfl⟩) ?_
 refine wl_call (R := fun v_ w_ => ∃ (T64 : Nat → Prop), .int .i64 (chE (1) (Ch.mk (4) (2) (0) (0) (0) (blL [3]))) = v_ ∧ Kept (T27) w48 w_ ∧ (Wri w_ T64 p22 ((([] : List Bool)) ++ wrCh (1) (Ch.mk (4) (2) (0) (0) (0) (blL [3])) (0) (0) (0) (0)) ∧ Grew w48 (T27) T64)) rfl rfl (y_cs rfl rfl rfl (fun _ _ => by kernel_rfl) (ev_func _) (vsC rfl (vsC rfl (vsC rfl (vsC rfl (vsC rfl vsN))))) (bl_write (p22) (([] : List Bool)) (1) (Ch.mk (4) (2) (0) (0) (0) (blL [3])) (0) (0) (0) (0) (T27) _ (hA.all K52) (hO.all K52) (aboveN gr29 hA) (by first | decide | (simp; omega) | simp) B51 ) (fun e_ w_ h_ => by obtain ⟨T64_, he_, hr_⟩ := h_; exact ⟨_, he_, T64_, rfl, hr_⟩)) ?_
 rintro _ w62 ⟨T64, rfl, k63, ⟨B65, g66⟩⟩
 have B67 := B49.all k63 (fun x => ((ap45) p39 rfl x))
 have K68 := K52.trans k63 (fun i hi x => ((Grew.ok (S := fun _ => False) gr29 noB_le) i hi x))
 refine wl_v (.int .i64 (chE (1) (Ch.mk (4) (2) (0) (0) (0) (blL [3])))) rfl rfl (y_asg rfl rfl ⟨rfl, rfl⟩) ?_
 refine wl_nil fun F71 hF72 => ?_
 have s73 := (hF72 98).trans s55
 have s74 := (hF72 1).trans s56
 have s75 := (hF72 2).trans s57
 have s76 := (hF72 3).trans s58
 have s77 := (hF72 4).trans s59
 have s78 := (hF72 5).trans s60
 have s79 := (hF72 6).trans s61
 have s80 : F71 7 = .int .i64 (chE (1) (Ch.mk (4) (2) (0) (0) (0) (blL [3]))) := (hF72 7).trans rfl
 clear hF72
 refine then_normal ?_
 refine wq_seq ?_
 have B81 : Wri w62 (T64) p22 (b0) := ((by rw [hb0]; exact B65))
 refine wq_region ?_
 refine wl_v (.pointer (some ⟨p22, 0, none⟩)) rfl rfl (y_mov rfl s78 ⟨rfl, rfl⟩) ?_
 refine wl_call (R := fun v_ w_ => ∃ (v82 : Value) (T85 : Nat → Prop), v82 = v_ ∧ Kept (fun _ => False) w62 w_ ∧ (Byt w_ T85 v82 (pack (b0)) ∧ Grew w62 noB T85)) rfl rfl (y_cs rfl rfl rfl (fun _ _ => by kernel_rfl) (ev_func _) (vsC rfl vsN) (t_bytes (p22) (b0) (T64) _ (by omega) B81 ) (fun e_ w_ h_ => by obtain ⟨v82_, T85_, he_, hr_⟩ := h_; exact ⟨_, he_, v82_, T85_, rfl, hr_⟩)) ?_
 rintro _ w83 ⟨v82, T85, rfl, k84, ⟨B86, g87⟩⟩
 have B89 := B67.all k84 id
 have K90 := K68.trans k84 (fun _ _ x => x.elim)
 refine wl_call (R := fun v_ w_ => ∃ (v94 : Nat) (T97 : Nat → Prop), .pointer (some ⟨v94, 0, none⟩) = v_ ∧ Kept (fun _ => False) w83 w_ ∧ (Rdi w_ T97 v94 ((pack (b0))) (some 0) ∧ Grew w83 noB T97)) rfl rfl (y_cs rfl rfl rfl (fun _ _ => by kernel_rfl) (ev_func _) (vsC rfl vsN) (t_new (v82) (pack (b0)) (T85) _ (by rw [pack_length]; unfold nbytes; omega) B86 ) (fun e_ w_ h_ => by obtain ⟨v94_, T97_, he_, hr_⟩ := h_; exact ⟨_, he_, v94_, T97_, rfl, hr_⟩)) ?_
 rintro _ w95 ⟨v94, T97, rfl, k96, ⟨B98, g99⟩⟩
 have B101 := B89.all k96 id
 have K103 := K90.trans k96 (fun _ _ x => x.elim)
 have gr104 : Grew w0 noB (T97) := Grew.new K90 g99
 have ap106 : Apart (T97) (onB p39) := Apart.new g99 (onB_live (B89).lt)
 refine wl_v (.agg #[.int .i64 (0), .int .i64 (0)]) rfl rfl (y_buildL (l' := []) (cells := #[.int .i64 (0), .int .i64 (0)]) rfl bpN (by kernel_rfl) rfl ⟨rfl, rfl⟩) ?_
 refine wl_v (.agg #[.int .i64 (0), .int .i64 (0)]) rfl rfl (y_buildL (l' := []) (cells := #[.int .i64 (0), .int .i64 (0)]) rfl bpN (by kernel_rfl) rfl ⟨rfl, rfl⟩) ?_
 refine wl_call (R := fun v_ w_ => ∃ (T110 : Nat → Prop), .tuple #[.agg (chW ((rdCh ((pack (b0))) (1) (0) (0) (0) (0) (some 0)).1)).toArray, .int .i64 ((rdCh ((pack (b0))) (1) (0) (0) (0) (0) (some 0)).2.1)] = v_ ∧ Kept (T97) w95 w_ ∧ (Rdi w_ T110 v94 (((pack (b0)))) (rdChT ((pack (b0))) (1) (0) (0) (0) (0) (some 0)) ∧ Grew w95 (T97) T110)) rfl rfl (y_cs rfl rfl rfl (fun _ _ => by kernel_rfl) (ev_func _) (vsC rfl (vsC rfl (vsC rfl (vsC rfl vsN)))) (bl_read (v94) ((pack (b0))) (some 0) (1) (0) (0) (0) (0) (T97) _ (hA.all K103) (hO.all K103) (aboveN gr104 hA) B98 ) (fun e_ w_ h_ => by obtain ⟨T110_, he_, hr_⟩ := h_; exact ⟨_, he_, T110_, rfl, hr_⟩)) ?_
 rintro _ w108 ⟨T110, rfl, k109, ⟨B111, g112⟩⟩
 have B114 := B101.all k109 (fun x => (((ap106).symm) p39 rfl x))
 have K116 := K103.trans k109 (fun i hi x => ((Grew.ok (S := fun _ => False) gr104 noB_le) i hi x))
 refine wl_v (.tuple #[.agg (chW ((rdCh ((pack (b0))) (1) (0) (0) (0) (0) (some 0)).1)).toArray, .int .i64 ((rdCh ((pack (b0))) (1) (0) (0) (0) (0) (some 0)).2.1)]) rfl rfl (y_mov rfl rfl ⟨rfl, rfl⟩) ?_
 refine wl_v (.agg (chW ((rdCh ((pack (b0))) (1) (0) (0) (0) (0) (some 0)).1)).toArray) rfl rfl (y_ext rfl rfl rfl ⟨rfl, rfl⟩) ?_
 refine wl_v (.int .i64 ((rdCh ((pack (b0))) (1) (0) (0) (0) (0) (some 0)).2.1)) rfl rfl (y_ext rfl rfl rfl ⟨rfl, rfl⟩) ?_
 refine wl_alloc_stc (n := 21) (vs := (chL 0 0 0 0 0 (fun _ => (0 : Int)))) rfl rfl rfl (by kernel_rfl) fun p121 w122 B124 g125 k123 => ?_
 have gr126 : Grew w0 noB (onB p121) := Grew.new K116 g125
 have ap128 : Apart (onB p121) (onB p39) := Apart.new g125 (onB_live (B114).lt)
 have B132 := B114.all k123 id
 have K135 := K116.trans k123 (fun _ _ x => x.elim)
 refine wl_store_stc (us := (chW ((rdCh ((pack (b0))) (1) (0) (0) (0) (0) (some 0)).1))) stcT_choice rfl rfl rfl rfl rfl B124 rfl (oneI rfl (oneI rfl (oneI rfl (oneI rfl (oneI rfl (oneI rfl (oneI rfl (oneI rfl (oneI rfl (oneI rfl (oneI rfl (oneI rfl (oneI rfl (oneI rfl (oneI rfl (oneI rfl (oneI rfl (oneI rfl (oneI rfl (oneI rfl (oneI rfl oneN))))))))))))))))))))) fun w136 B137 k138 => ?_
 have B140 := B132.all k138 (fun x => (((ap128).symm) p39 rfl x))
 have K143 := K135.trans k138 (Grew.ok (S := fun _ => False) gr126 noB_le)
 refine wl_v (.int .i64 ((rdCh ((pack (b0))) (1) (0) (0) (0) (0) (some 0)).2.1)) rfl rfl (y_asg rfl rfl ⟨rfl, rfl⟩) ?_
 refine wl_nil fun F144 hF145 => ?_
 have s146 := (hF145 98).trans s73
 have s147 := (hF145 1).trans s74
 have s148 := (hF145 2).trans s75
 have s149 := (hF145 3).trans s76
 have s150 := (hF145 4).trans s77
 have s151 := (hF145 6).trans s79
 have s152 := (hF145 7).trans s80
 have s153 : F144 8 = .pointer (some ⟨p121, 0, none⟩) := (hF145 8).trans rfl
 have s154 : F144 9 = .int .i64 ((rdCh ((pack (b0))) (1) (0) (0) (0) (0) (some 0)).2.1) := (hF145 9).trans rfl
 clear hF145
 refine then_normal ?_
 refine wq_seq ?_
 refine wq_region ?_
 refine wl_v (blkV (blL [100])) rfl rfl (y_buildR (cells := (arrL 16 (blL [100])).toArray) rfl (by kernel_rfl) rfl ⟨rfl, rfl⟩) ?_
 refine wl_v (blkV (blL [16])) rfl rfl (y_buildR (cells := (arrL 16 (blL [16])).toArray) rfl (by kernel_rfl) rfl ⟨rfl, rfl⟩) ?_
 refine wl_v (.agg (chL 0 0 0 0 0 (blL [16])).toArray) rfl rfl (y_buildL (l' := [(3, blkV (blL [16]))]) (cells := (chL 0 0 0 0 0 (blL [16])).toArray) rfl (bpC rfl bpN) (by kernel_rfl) rfl ⟨rfl, rfl⟩) ?_
 refine wl_call (R := fun v_ w_ => v_ = .tuple #[blkV (buB (blL [100]) (Ch.mk (0) (0) (0) (0) (0) (blL [16])).b (0)), .int .i64 (ern (0))] ∧ Kept (fun _ => False) w136 w_) rfl rfl (y_cs rfl rfl rfl (fun _ _ => by kernel_rfl) (ev_func _) (vsC rfl (vsC rfl (vsC rfl vsN))) (bl_build (blL [100]) (Ch.mk (0) (0) (0) (0) (0) (blL [16])) (0)  _ (hs.all K143) (hw.all K143)  ) (fun e_ w_ h_ => ⟨_, h_.1, rfl, h_.2⟩)) ?_
 rintro _ w155 ⟨rfl, k156⟩
 have B158 := B140.all k156 id
 have B161 := B137.all k156 id
 have K162 := K143.trans k156 (fun _ _ x => x.elim)
 refine wl_v (.tuple #[blkV (buB (blL [100]) (Ch.mk (0) (0) (0) (0) (0) (blL [16])).b (0)), .int .i64 (ern (0))]) rfl rfl (y_mov rfl rfl ⟨rfl, rfl⟩) ?_
 refine wl_v (blkV (buB (blL [100]) (Ch.mk (0) (0) (0) (0) (0) (blL [16])).b (0))) rfl rfl (y_ext rfl rfl rfl ⟨rfl, rfl⟩) ?_
 refine wl_v (.int .i64 (ern (0))) rfl rfl (y_ext rfl rfl rfl ⟨rfl, rfl⟩) ?_
 refine wl_alloc_blk rfl rfl rfl blkT_block.2.2 fun p163 w164 e167 B165 k166 => ?_
 have g168 := onB_new (Nat.le_of_eq e167.symm)
 have gr169 : Grew w0 noB (onB p163) := Grew.new K162 g168
 have ap171 : Apart (onB p163) (onB p39) := Apart.new g168 (onB_live (B158).lt)
 have ap174 : Apart (onB p163) (onB p121) := Apart.new g168 (onB_live (B161).lt)
 clear e167 g168
 have B176 := B158.all k166 id
 have B179 := B161.all k166 id
 have K180 := K162.trans k166 (fun _ _ x => x.elim)
 refine wl_store_blk blkT_block rfl rfl rfl rfl rfl B165 fun w181 B182 k183 => ?_
 have B185 := B176.all k183 (fun x => (((ap171).symm) p39 rfl x))
 have B188 := B179.all k183 (fun x => (((ap174).symm) p121 rfl x))
 have K189 := K180.trans k183 (Grew.ok (S := fun _ => False) gr169 noB_le)
 refine wl_v (.int .i64 (ern (0))) rfl rfl (y_asg rfl rfl ⟨rfl, rfl⟩) ?_
 refine wl_nil fun F190 hF191 => ?_
 have s192 := (hF191 98).trans s146
 have s193 := (hF191 1).trans s147
 have s194 := (hF191 2).trans s148
 have s195 := (hF191 3).trans s149
 have s196 := (hF191 4).trans s150
 have s197 := (hF191 6).trans s151
 have s198 := (hF191 7).trans s152
 have s199 := (hF191 8).trans s153
 have s200 := (hF191 9).trans s154
 have s201 : F190 10 = .pointer (some ⟨p163, 0, none⟩) := (hF191 10).trans rfl
 have s202 : F190 11 = .int .i64 (ern (0)) := (hF191 11).trans rfl
 clear hF191
 refine then_normal ?_
 refine wq_seq ?_
 have s203 : F190 1 = .bool true := s193.trans (congrArg Value.bool ((by decide)))
 have s204 : F190 2 = .bool false := s194.trans (congrArg Value.bool ((by decide)))
 have s205 : F190 3 = .bool true := s195.trans (congrArg Value.bool ((by decide)))
 have s206 : F190 4 = .bool true := s196.trans (congrArg Value.bool ((by decide)))
 refine wq_region ?_
 refine wl_v (.bool true) rfl rfl (y_mov rfl s203 ⟨rfl, rfl⟩) ?_
 refine wl_v (.bool true) rfl rfl (y_mov rfl rfl ⟨rfl, rfl⟩) ?_
 refine wl_vw (.bool false) 1 true 47 rfl rfl rfl rfl rfl (y_mov rfl s204 ⟨rfl, rfl⟩) ?_
 refine wl_vw (.bool true) 1 true 47 rfl rfl rfl rfl rfl (y_not rfl rfl rfl ⟨rfl, rfl⟩) ?_
 refine wl_v (.bool true) rfl rfl (y_pickT rfl rfl rfl ⟨rfl, rfl⟩) ?_
 refine wl_v (.bool true) rfl rfl (y_mov rfl rfl ⟨rfl, rfl⟩) ?_
 refine wl_vw (.bool true) 5 true 51 rfl rfl rfl rfl rfl (y_mov rfl s205 ⟨rfl, rfl⟩) ?_
 refine wl_v (.bool true) rfl rfl (y_pickT rfl rfl rfl ⟨rfl, rfl⟩) ?_
 refine wl_v (.bool true) rfl rfl (y_mov rfl rfl ⟨rfl, rfl⟩) ?_
 refine wl_vw (.bool true) 8 true 54 rfl rfl rfl rfl rfl (y_mov rfl s206 ⟨rfl, rfl⟩) ?_
 refine wl_v (.bool true) rfl rfl (y_pickT rfl rfl rfl ⟨rfl, rfl⟩) ?_
 refine wl_v (.bool true) rfl rfl (y_mov rfl rfl ⟨rfl, rfl⟩) ?_
 refine wl_vw (.agg (chL 4 0 0 0 0 (fun _ => (0 : Int))).toArray) 11 true 57 rfl rfl rfl rfl rfl (y_buildL (l' := [(0, .int .i64 (4))]) (cells := (chL 4 0 0 0 0 (fun _ => (0 : Int))).toArray) rfl (bpC rfl bpN) (by kernel_rfl) rfl ⟨rfl, rfl⟩) ?_
 refine wl_callw (R := fun v_ w_ => v_ = .int .i64 (chE (0) (Ch.mk (4) (0) (0) (0) (0) (fun _ => (0 : Int)))) ∧ Kept (fun _ => False) w181 w_) 11 true 57 rfl rfl rfl rfl rfl (y_cs rfl rfl rfl (fun _ _ => by kernel_rfl) (ev_func _) (vsC rfl (vsC rfl vsN)) (bl_check (0) (Ch.mk (4) (0) (0) (0) (0) (fun _ => (0 : Int)))  _ (hA.all K189)  ) (fun e_ w_ h_ => ⟨_, h_.1, rfl, h_.2⟩)) ?_
 rintro _ w207 ⟨rfl, k208⟩
 have B210 := B185.all k208 id
 have B213 := B188.all k208 id
 have B214 := B182.all k208 id
 have K215 := K189.trans k208 (fun _ _ x => x.elim)
 refine wl_vw (.bool true) 11 true 57 rfl rfl rfl rfl rfl (y_eqlI rfl rfl rfl (decide_eq_true hf.out.2.1) ⟨rfl, rfl⟩) ?_
 refine wl_v (.bool true) rfl rfl (y_pickT rfl rfl rfl ⟨rfl, rfl⟩) ?_
 refine wl_v (.bool true) rfl rfl (y_mov rfl rfl ⟨rfl, rfl⟩) ?_
 refine wl_vw (.agg (chL 4 0 0 0 0 (fun _ => (0 : Int))).toArray) 16 true 62 rfl rfl rfl rfl rfl (y_buildL (l' := [(0, .int .i64 (4))]) (cells := (chL 4 0 0 0 0 (fun _ => (0 : Int))).toArray) rfl (bpC rfl bpN) (by kernel_rfl) rfl ⟨rfl, rfl⟩) ?_
 refine wl_callw (R := fun v_ w_ => v_ = .int .i64 (chE (1) (Ch.mk (4) (0) (0) (0) (0) (fun _ => (0 : Int)))) ∧ Kept (fun _ => False) w207 w_) 16 true 62 rfl rfl rfl rfl rfl (y_cs rfl rfl rfl (fun _ _ => by kernel_rfl) (ev_func _) (vsC rfl (vsC rfl vsN)) (bl_check (1) (Ch.mk (4) (0) (0) (0) (0) (fun _ => (0 : Int)))  _ (hA.all K215)  ) (fun e_ w_ h_ => ⟨_, h_.1, rfl, h_.2⟩)) ?_
 rintro _ w216 ⟨rfl, k217⟩
 have B219 := B210.all k217 id
 have B222 := B213.all k217 id
 have B223 := B214.all k217 id
 have K224 := K215.trans k217 (fun _ _ x => x.elim)
 refine wl_vw (.bool true) 16 true 62 rfl rfl rfl rfl rfl (y_eqlI rfl rfl rfl (decide_eq_true hf.out.2.2.1) ⟨rfl, rfl⟩) ?_
 refine wl_v (.bool true) rfl rfl (y_pickT rfl rfl rfl ⟨rfl, rfl⟩) ?_
 refine wl_v (.bool true) rfl rfl (y_mov rfl rfl ⟨rfl, rfl⟩) ?_
 refine wl_vw (.int .i64 (chE (1) (Ch.mk (4) (2) (0) (0) (0) (blL [3])))) 21 true 67 rfl rfl rfl rfl rfl (y_mov rfl s198 ⟨rfl, rfl⟩) ?_
 refine wl_vw (.bool true) 21 true 67 rfl rfl rfl rfl rfl (y_eqlI rfl rfl rfl (decide_eq_true hf.out.1) ⟨rfl, rfl⟩) ?_
 refine wl_v (.bool true) rfl rfl (y_pickT rfl rfl rfl ⟨rfl, rfl⟩) ?_
 refine wl_v (.bool true) rfl rfl (y_mov rfl rfl ⟨rfl, rfl⟩) ?_
 refine wl_vw (.agg (chW ((rdCh ((pack (b0))) (1) (0) (0) (0) (0) (some 0)).1)).toArray) 25 true 71 rfl rfl rfl rfl rfl (y_load_stc stcT_choice rfl s199 B222 ⟨rfl, rfl⟩) ?_
 refine wl_vw (.agg (chL 4 2 0 0 0 (blL [3])).toArray) 25 true 71 rfl rfl rfl rfl rfl (y_load_stc stcT_choice rfl s197 B219 ⟨rfl, rfl⟩) ?_
 refine wl_vw (.bool true) 25 true 71 rfl rfl rfl rfl rfl (y_eqlCh (c := (rdCh ((pack (b0))) (1) (0) (0) (0) (0) (some 0)).1) (d := Ch.mk (4) (2) (0) (0) (0) (blL [3])) rfl rfl rfl ((by rw [hd0.out.1]; exact hd0.out.2)) ⟨rfl, rfl⟩) ?_
 refine wl_v (.bool true) rfl rfl (y_pickT rfl rfl rfl ⟨rfl, rfl⟩) ?_
 refine wl_v (.bool true) rfl rfl (y_mov rfl rfl ⟨rfl, rfl⟩) ?_
 refine wl_vw (.int .i64 ((rdCh ((pack (b0))) (1) (0) (0) (0) (0) (some 0)).2.1)) 30 true 76 rfl rfl rfl rfl rfl (y_mov rfl s200 ⟨rfl, rfl⟩) ?_
 refine wl_vw (.bool true) 30 true 76 rfl rfl rfl rfl rfl (y_eqlI rfl rfl rfl (decide_eq_true (by rw [hd0.out.1])) ⟨rfl, rfl⟩) ?_
 refine wl_v (.bool true) rfl rfl (y_pickT rfl rfl rfl ⟨rfl, rfl⟩) ?_
 refine wl_v (.bool true) rfl rfl (y_mov rfl rfl ⟨rfl, rfl⟩) ?_
 refine wl_vw (.pointer (some ⟨p163, 0, none⟩)) 34 true 80 rfl rfl rfl rfl rfl (y_atR (0) (s := 1) rfl s201 rfl (by omega) Tryd.underlying25 (by omega) (by kernel_rfl) (by omega) ⟨rfl, rfl⟩) ?_
 refine wl_vw (.int .i64 ((buB (blL [100]) (Ch.mk (0) (0) (0) (0) (0) (blL [16])).b (0)) (0))) 34 true 80 rfl rfl rfl rfl rfl (y_ldR rfl rfl Tryd.underlying3 ((B223).cell (by omega)) ⟨rfl, rfl⟩) ?_
 refine wl_vw (.bool true) 34 true 80 rfl rfl rfl rfl rfl (y_eqlI rfl rfl rfl (decide_eq_true hf.out.2.2.2.1) ⟨rfl, rfl⟩) ?_
 refine wl_v (.bool true) rfl rfl (y_pickT rfl rfl rfl ⟨rfl, rfl⟩) ?_
 refine wl_v (.bool true) rfl rfl (y_mov rfl rfl ⟨rfl, rfl⟩) ?_
 refine wl_vw (.pointer (some ⟨p163, 5, none⟩)) 39 true 85 rfl rfl rfl rfl rfl (y_atR (5) (s := 1) rfl s201 rfl (by omega) Tryd.underlying25 (by omega) (by kernel_rfl) (by omega) ⟨rfl, rfl⟩) ?_
 refine wl_vw (.int .i64 ((buB (blL [100]) (Ch.mk (0) (0) (0) (0) (0) (blL [16])).b (0)) (5))) 39 true 85 rfl rfl rfl rfl rfl (y_ldR rfl rfl Tryd.underlying3 ((B223).cell (by omega)) ⟨rfl, rfl⟩) ?_
 refine wl_vw (.bool true) 39 true 85 rfl rfl rfl rfl rfl (y_eqlI rfl rfl rfl (decide_eq_true hf.out.2.2.2.2.1) ⟨rfl, rfl⟩) ?_
 refine wl_v (.bool true) rfl rfl (y_pickT rfl rfl rfl ⟨rfl, rfl⟩) ?_
 refine wl_v (.bool true) rfl rfl (y_mov rfl rfl ⟨rfl, rfl⟩) ?_
 refine wl_vw (.int .i64 (ern (0))) 44 true 90 rfl rfl rfl rfl rfl (y_mov rfl s202 ⟨rfl, rfl⟩) ?_
 refine wl_vw (.bool true) 44 true 90 rfl rfl rfl rfl rfl (y_eqlI rfl rfl rfl (decide_eq_true hf.out.2.2.2.2.2) ⟨rfl, rfl⟩) ?_
 refine wl_v (.bool true) rfl rfl (y_pickT rfl rfl rfl ⟨rfl, rfl⟩) ?_
 refine wl_v (.bool true) rfl rfl (y_mov rfl rfl ⟨rfl, rfl⟩) ?_
 refine wl_v (.bool true) rfl rfl (y_pickT rfl rfl rfl ⟨rfl, rfl⟩) ?_
 refine wl_v (.bool true) rfl rfl (y_mov rfl rfl ⟨rfl, rfl⟩) ?_
 refine wl_v (.bool true) rfl rfl (y_pickT rfl rfl rfl ⟨rfl, rfl⟩) ?_
 refine wl_v (.bool true) rfl rfl (y_asg rfl rfl ⟨rfl, rfl⟩) ?_
 refine wl_nil fun F225 hF226 => ?_
 have s227 := (hF226 98).trans s192
 have s228 : F225 0 = .bool true := (hF226 0).trans rfl
 clear hF226
 refine then_normal ?_
 refine wq_ret ?_
 exact end_tmp (v := .bool true) s227 rfl rfl s228 ⟨rfl, K224⟩

set_option maxHeartbeats 4000000 in
set_option maxRecDepth 100000 in
theorem btells_walk (k : Int) (c : Ch) (ax ay bx yy : Int) (v : Value) (l : List Nat) (T_b : Nat → Prop) (w0 : World) (hA : ActsIn w0) (hO : ScanIn w0) (hs : StepsAt w0) (hw : Waves w0) (h_b : Byt w0 T_b v (l)) :
  Calls Tryd.prog 3 #[.int .i64 (k), .agg (chW (c)).toArray, .agg #[.int .i64 (ax), .int .i64 (ay)], .agg #[.int .i64 (bx), .int .i64 (yy)], v] w0 fun e w' => e = .returned (.bool true) ∧ Kept (fun _ => False) w0 w' := by
 refine calls_wq (args := [.int .i64 (k), .agg (chW (c)).toArray, .agg #[.int .i64 (ax), .int .i64 (ay)], .agg #[.int .i64 (bx), .int .i64 (yy)], v]) 126 Tryd.func3 rfl rfl (Nat.le_of_ble_eq_true rfl) ?_
 have K0 := Kept.refl (fun _ => False) w0
 have hlen := wrCh_short k c ax ay bx yy
 have g_b := Grew.refl w0 T_b
 refine wq_seq ?_
 refine wq_region ?_
 refine wl_box_stc (vs := (chW (c))) rfl rfl rfl rfl fun p1 w2 B4 g5 k3 => ?_
 have B8 := h_b.all k3 Apart.none
 have K9 := K0.trans k3 (fun _ _ x => x.elim)
 refine wl_box_stc (vs := [.int .i64 (ax), .int .i64 (ay)]) rfl rfl rfl rfl fun p10 w11 B13 g14 k12 => ?_
 have B18 := B8.all k12 Apart.none
 have B19 := B4.all k12 id
 have K20 := K9.trans k12 (fun _ _ x => x.elim)
 refine wl_box_stc (vs := [.int .i64 (bx), .int .i64 (yy)]) rfl rfl rfl rfl fun p21 w22 B24 g25 k23 => ?_
 have B30 := B18.all k23 Apart.none
 have B31 := B19.all k23 id
 have B32 := B13.all k23 id
 have K33 := K20.trans k23 (fun _ _ x => x.elim)
 refine wl_v (.bool false) rfl rfl (y_asg rfl rfl ⟨rfl, rfl⟩) ?_
 refine wl_nil fun F34 hF35 => ?_
 have s36 : F34 0 = .int .i64 (k) := (hF35 0).trans rfl
 have s37 : F34 4 = v := (hF35 4).trans rfl
 have s38 : F34 126 = undef := (hF35 126).trans rfl
 have s39 : F34 6 = .pointer (some ⟨p1, 0, none⟩) := (hF35 6).trans rfl
 have s40 : F34 7 = .pointer (some ⟨p10, 0, none⟩) := (hF35 7).trans rfl
 have s41 : F34 8 = .pointer (some ⟨p21, 0, none⟩) := (hF35 8).trans rfl
 clear hF35
 refine then_normal ?_
 refine wq_seq ?_
 refine wq_region ?_
 refine wl_call (R := fun v_ w_ => v_ = .bool true ∧ Kept (fun _ => False) w22 w_) rfl rfl (y_cs rfl rfl rfl (fun _ _ => by kernel_rfl) (ev_func _) vsN (bawake_any   _ (hA.all K33) (hO.all K33) (hs.all K33) (hw.all K33)  ) (fun e_ w_ h_ => ⟨_, h_.1, rfl, h_.2⟩)) ?_
 rintro _ w42 ⟨rfl, k43⟩
 have B44 := B30.all k43 Apart.none
 have B45 := B31.all k43 id
 have B46 := B32.all k43 id
 have B47 := B24.all k43 id
 have K48 := K33.trans k43 (fun _ _ x => x.elim)
 refine wl_v (.bool true) rfl rfl (y_asg rfl rfl ⟨rfl, rfl⟩) ?_
 refine wl_nil fun F49 hF50 => ?_
 have s51 := (hF50 0).trans s36
 have s52 := (hF50 4).trans s37
 have s53 := (hF50 126).trans s38
 have s54 := (hF50 6).trans s39
 have s55 := (hF50 7).trans s40
 have s56 := (hF50 8).trans s41
 have s57 : F49 11 = .bool true := (hF50 11).trans rfl
 clear hF50
 refine then_normal ?_
 refine wq_seq ?_
 refine wq_seq ?_
 refine wq_region ?_
 refine wl_v (v) rfl rfl (y_mov rfl s52 ⟨rfl, rfl⟩) ?_
 refine wl_v (.int .i64 ((((l).length : Nat) : Int))) rfl rfl (y_lenV rfl rfl rfl B44 ⟨rfl, rfl⟩) ?_
 refine wl_v (.bool (decide ((300) < ((((l).length : Nat) : Int))))) rfl rfl (y_gtr rfl rfl rfl rfl ⟨rfl, rfl⟩) ?_
 refine wl_nil fun F58 hF59 => ?_
 have s60 := (hF59 0).trans s51
 have s61 := (hF59 4).trans s52
 have s62 := (hF59 126).trans s53
 have s63 := (hF59 6).trans s54
 have s64 := (hF59 7).trans s55
 have s65 := (hF59 8).trans s56
 have s66 := (hF59 11).trans s57
 have s67 : F58 26 = .bool (decide ((300) < ((((l).length : Nat) : Int)))) := (hF59 26).trans rfl
 clear hF59
 refine then_normal ?_
 refine wq_cond s67 (fun c68 => ?_) (fun c68 => ?_)
 ·replace c68 := of_decide_eq_true c68
  refine wq_seq ?_
  refine wq_region ?_
  refine wl_v (.bool true) rfl rfl (y_mov rfl s66 ⟨rfl, rfl⟩) ?_
  refine wl_v (.bool true) rfl rfl (y_asg rfl rfl ⟨rfl, rfl⟩) ?_
  refine wl_nil fun F69 hF70 => ?_
  have s71 := (hF70 126).trans s62
  have s72 : F69 10 = .bool true := (hF70 10).trans rfl
  clear hF70
  refine then_normal ?_
  refine wq_ret ?_
  refine then_ret ?_
  exact end_tmp (v := .bool true) s71 rfl rfl s72 ⟨rfl, K48⟩
 ·replace c68 := of_decide_eq_false c68
  refine wq_skip ?_
  refine then_normal ?_
  refine wq_seq ?_
  refine wq_region ?_
  refine wl_v (.agg #[.slice none 0 0, .int .i64 0]) rfl rfl (y_buildR (cells := #[.slice none 0 0, .int .i64 0]) rfl (by kernel_rfl) rfl ⟨rfl, rfl⟩) ?_
  refine wl_box_wri rfl rfl rfl rfl fun p73 w74 T78 B77 g79 k75 => ?_
  have gr80 : Grew w0 noB (T78) := Grew.new K48 g79
  have ap81 : Apart (T78) (T_b) := Apart.new g79 (B44).live
  have ap82 : Apart (T78) (onB p1) := Apart.new g79 (onB_live (B45).lt)
  have ap83 : Apart (T78) (onB p10) := Apart.new g79 (onB_live (B46).lt)
  have ap84 : Apart (T78) (onB p21) := Apart.new g79 (onB_live (B47).lt)
  have B85 := B44.all k75 Apart.none
  have B86 := B45.all k75 id
  have B87 := B46.all k75 id
  have B88 := B47.all k75 id
  have K89 := K48.trans k75 (fun _ _ x => x.elim)
  refine wl_v (.pointer (some ⟨p73, 0, none⟩)) rfl rfl (y_asg rfl rfl ⟨rfl, rfl⟩) ?_
  refine wl_nil fun F90 hF91 => ?_
  have s92 := (hF91 0).trans s60
  have s93 := (hF91 4).trans s61
  have s94 := (hF91 126).trans s62
  have s95 := (hF91 6).trans s63
  have s96 := (hF91 7).trans s64
  have s97 := (hF91 8).trans s65
  have s98 := (hF91 11).trans s66
  have s99 : F90 12 = .pointer (some ⟨p73, 0, none⟩) := (hF91 12).trans rfl
  clear hF91
  refine then_normal ?_
  refine wq_seq ?_
  refine wq_region ?_
  refine wl_v (.pointer (some ⟨p73, 0, none⟩)) rfl rfl (y_mov rfl s99 ⟨rfl, rfl⟩) ?_
  refine wl_v (.int .i64 (k)) rfl rfl (y_mov rfl s92 ⟨rfl, rfl⟩) ?_
  refine wl_v (.agg (chW (c)).toArray) rfl rfl (y_load_stc stcT_choice rfl s95 B86 ⟨rfl, rfl⟩) ?_
  refine wl_v (.agg #[.int .i64 (ax), .int .i64 (ay)]) rfl rfl (y_load_stc stcT_vector rfl s96 B87 ⟨rfl, rfl⟩) ?_
  refine wl_v (.agg #[.int .i64 (bx), .int .i64 (yy)]) rfl rfl (y_load_stc stcT_vector rfl s97 B88 ⟨rfl, rfl⟩) ?_
  refine wl_call (R := fun v_ w_ => ∃ (T102 : Nat → Prop), .int .i64 (chE (k) (c)) = v_ ∧ Kept (T78) w74 w_ ∧ (Wri w_ T102 p73 ((([] : List Bool)) ++ wrCh (k) (c) (ax) (ay) (bx) (yy)) ∧ Grew w74 (T78) T102)) rfl rfl (y_cs rfl rfl rfl (fun _ _ => by kernel_rfl) (ev_func _) (vsC rfl (vsC rfl (vsC rfl (vsC rfl (vsC rfl vsN))))) (bl_write (p73) (([] : List Bool)) (k) (c) (ax) (ay) (bx) (yy) (T78) _ (hA.all K89) (hO.all K89) (aboveN gr80 hA) (by first | decide | (simp; omega) | simp) B77 ) (fun e_ w_ h_ => by obtain ⟨T102_, he_, hr_⟩ := h_; exact ⟨_, he_, T102_, rfl, hr_⟩)) ?_
  rintro _ w100 ⟨T102, rfl, k101, ⟨B103, g104⟩⟩
  have B105 := B85.all k101 (fun i h x => (((ap81).symm) i h x))
  have B106 := B86.all k101 (fun x => (((ap82).symm) p1 rfl x))
  have B107 := B87.all k101 (fun x => (((ap83).symm) p10 rfl x))
  have B108 := B88.all k101 (fun x => (((ap84).symm) p21 rfl x))
  have K109 := K89.trans k101 (fun i hi x => ((Grew.ok (S := fun _ => False) gr80 noB_le) i hi x))
  refine wl_v (.int .i64 (chE (k) (c))) rfl rfl (y_asg rfl rfl ⟨rfl, rfl⟩) ?_
  refine wl_nil fun F115 hF116 => ?_
  have s117 := (hF116 0).trans s92
  have s118 := (hF116 4).trans s93
  have s119 := (hF116 126).trans s94
  have s120 := (hF116 6).trans s95
  have s121 := (hF116 7).trans s96
  have s122 := (hF116 8).trans s97
  have s123 := (hF116 11).trans s98
  have s124 := (hF116 12).trans s99
  have s125 : F115 13 = .int .i64 (chE (k) (c)) := (hF116 13).trans rfl
  clear hF116
  refine then_normal ?_
  refine wq_seq ?_
  refine wq_region ?_
  refine wl_v (.int .i64 (k)) rfl rfl (y_mov rfl s117 ⟨rfl, rfl⟩) ?_
  refine wl_v (.agg (chW (c)).toArray) rfl rfl (y_load_stc stcT_choice rfl s120 B106 ⟨rfl, rfl⟩) ?_
  refine wl_v (.agg #[.int .i64 (ax), .int .i64 (ay)]) rfl rfl (y_load_stc stcT_vector rfl s121 B107 ⟨rfl, rfl⟩) ?_
  refine wl_v (.agg #[.int .i64 (bx), .int .i64 (yy)]) rfl rfl (y_load_stc stcT_vector rfl s122 B108 ⟨rfl, rfl⟩) ?_
  refine wl_call (R := fun v_ w_ => v_ = .tuple #[.string (strOf (wrCh (k) (c) (ax) (ay) (bx) (yy))), .int .i64 (chE (k) (c))] ∧ Kept (fun _ => False) w100 w_) rfl rfl (y_cs rfl rfl rfl (fun _ _ => by kernel_rfl) (ev_func _) (vsC rfl (vsC rfl (vsC rfl (vsC rfl vsN)))) (bref_write (k) (c) (ax) (ay) (bx) (yy)  _   ) (fun e_ w_ h_ => ⟨_, h_.1, rfl, h_.2⟩)) ?_
  rintro _ w126 ⟨rfl, k127⟩
  have B128 := B105.all k127 Apart.none
  have B129 := B106.all k127 id
  have B130 := B107.all k127 id
  have B131 := B108.all k127 id
  have B132 := B103.all k127 Apart.none
  have K133 := K109.trans k127 (fun _ _ x => x.elim)
  refine wl_v (.tuple #[.string (strOf (wrCh (k) (c) (ax) (ay) (bx) (yy))), .int .i64 (chE (k) (c))]) rfl rfl (y_mov rfl rfl ⟨rfl, rfl⟩) ?_
  refine wl_v (.string (strOf (wrCh (k) (c) (ax) (ay) (bx) (yy)))) rfl rfl (y_ext rfl rfl rfl ⟨rfl, rfl⟩) ?_
  refine wl_v (.int .i64 (chE (k) (c))) rfl rfl (y_ext rfl rfl rfl ⟨rfl, rfl⟩) ?_
  refine wl_v (.string (strOf (wrCh (k) (c) (ax) (ay) (bx) (yy)))) rfl rfl (y_asg rfl rfl ⟨rfl, rfl⟩) ?_
  refine wl_v (.int .i64 (chE (k) (c))) rfl rfl (y_asg rfl rfl ⟨rfl, rfl⟩) ?_
  refine wl_nil fun F134 hF135 => ?_
  have s136 := (hF135 0).trans s117
  have s137 := (hF135 4).trans s118
  have s138 := (hF135 126).trans s119
  have s139 := (hF135 6).trans s120
  have s140 := (hF135 7).trans s121
  have s141 := (hF135 8).trans s122
  have s142 := (hF135 11).trans s123
  have s143 := (hF135 12).trans s124
  have s144 := (hF135 13).trans s125
  have s145 : F134 14 = .string (strOf (wrCh (k) (c) (ax) (ay) (bx) (yy))) := (hF135 14).trans rfl
  have s146 : F134 15 = .int .i64 (chE (k) (c)) := (hF135 15).trans rfl
  clear hF135
  refine then_normal ?_
  refine wq_seq ?_
  refine wq_used [(1, 5), (9, 10)] 11 [some 45, some 46, some 47, some 48, some 49, some 50, some 44, some 51, some 52, some 16, none] [Pd.eq (v), Pd.rdi w126.heap.size ((l)) (some 0), Pd.eq (.int .i64 (k)), Pd.eq (.agg #[.int .i64 (ax), .int .i64 (ay)]), Pd.eq (.agg #[.int .i64 (bx), .int .i64 (yy)]), Pd.eq (.tuple #[.agg (chW ((rdCh ((l)) (k) (ax) (ay) (bx) (yy) (some 0)).1)).toArray, .int .i64 ((rdCh ((l)) (k) (ax) (ay) (bx) (yy) (some 0)).2.1)]), Pd.eq (.tuple #[.agg (chW ((rdCh ((l)) (k) (ax) (ay) (bx) (yy) (some 0)).1)).toArray, .int .i64 ((rdCh ((l)) (k) (ax) (ay) (bx) (yy) (some 0)).2.1)]), Pd.eq (.agg (chW ((rdCh ((l)) (k) (ax) (ay) (bx) (yy) (some 0)).1)).toArray), Pd.eq (.int .i64 ((rdCh ((l)) (k) (ax) (ay) (bx) (yy) (some 0)).2.1)), Pd.stc w126.heap.size 27 (chL 0 0 0 0 0 (fun _ => (0 : Int))), Pd.any] [Pd.any, Pd.any, Pd.any, Pd.any, Pd.any, Pd.any, Pd.any, Pd.any, Pd.any, Pd.stc w126.heap.size 27 (chW ((rdCh ((l)) (k) (ax) (ay) (bx) (yy) (some 0)).1)), Pd.any] (by kernel_rfl) (by kernel_rfl) (by kernel_rfl) (by kernel_rfl) ?_ ?_
  ·refine stepsFU_cons ?_ ?_
   ·refine StepFU.one rfl rfl fun F_ w_ hR hout hD => ?_
    exact (y_mov rfl ((hout 4 rfl (by decide)).trans s137) ⟨rfl, Kept.refl _ _⟩)
   refine stepsFU_cons ?_ ?_
   ·refine StepFU.one rfl rfl fun F_ w_ hR hout hD => ?_
    have g45 : F_ 45 = v := (hD.get 0 rfl rfl rfl) (.inl rfl)
    exact (y_cs rfl rfl rfl (fun _ _ => by kernel_rfl) (ev_func _) (vsC g45 vsN) (t_new (v) (l) (T_b) _ (by omega) (B128.all hR Apart.none) ) (fun e_ w_ h_ => by obtain ⟨p_, T_, he_, k_, hb_, hg_⟩ := h_; exact ⟨_, he_, ⟨p_, T_, rfl, hb_, fun x_ hx_ => Nat.le_trans hR.size ((hg_ x_ hx_).resolve_left (fun z_ => z_))⟩, k_⟩))
   refine stepsFU_cons ?_ ?_
   ·refine StepFU.one rfl rfl fun F_ w_ hR hout hD => ?_
    exact (y_mov rfl ((hout 0 rfl (by decide)).trans s136) ⟨rfl, Kept.refl _ _⟩)
   refine stepsFU_cons ?_ ?_
   ·refine StepFU.one rfl rfl fun F_ w_ hR hout hD => ?_
    exact (y_load_stc stcT_vector rfl ((hout 7 rfl (by decide)).trans s140) (B130.all hR id) ⟨rfl, Kept.refl _ _⟩)
   refine stepsFU_cons ?_ ?_
   ·refine StepFU.one rfl rfl fun F_ w_ hR hout hD => ?_
    exact (y_load_stc stcT_vector rfl ((hout 8 rfl (by decide)).trans s141) (B131.all hR id) ⟨rfl, Kept.refl _ _⟩)
   refine stepsFU_cons ?_ ?_
   ·refine StepFU.turn 1 46 Rdi.ty rfl rfl rfl ⟨.inr under_eq, ⟨.inl rfl, ⟨.inr under_eq, ⟨.inr under_eq, ⟨.inr under_eq, ⟨.inl rfl, ⟨.inr under_eq, ⟨.inr under_eq, ⟨.inr under_eq, ⟨.inr (under_stc (by decide)), ⟨.inr under_any, trivial⟩⟩⟩⟩⟩⟩⟩⟩⟩⟩⟩ ⟨.inr under_any, ⟨.inl rfl, ⟨.inr under_any, ⟨.inr under_any, ⟨.inr under_any, ⟨.inr under_any, ⟨.inr under_any, ⟨.inr under_any, ⟨.inr under_any, ⟨.inr (under_stc (by decide)), ⟨.inr under_any, trivial⟩⟩⟩⟩⟩⟩⟩⟩⟩⟩⟩ fun F_ w_ hR hout hD => ?_
    obtain ⟨p46_, T46_, g46, h46_, n46_⟩ : (Pd.rdi w126.heap.size ((l)) (some 0)).says (F_ 46) w_ := hD.get 0 rfl rfl rfl (.inr rfl)
    have g47 : F_ 47 = .int .i64 (k) := (hD.get 1 rfl rfl rfl) (.inl rfl)
    have g48 : F_ 48 = .agg #[.int .i64 (ax), .int .i64 (ay)] := (hD.get 2 rfl rfl rfl) (.inl rfl)
    have g49 : F_ 49 = .agg #[.int .i64 (bx), .int .i64 (yy)] := (hD.get 3 rfl rfl rfl) (.inl rfl)
    exact (y_cs rfl rfl rfl (fun _ _ => by kernel_rfl) (ev_func _) (vsC g46 (vsC g47 (vsC g48 (vsC g49 vsN)))) (bl_read (p46_) ((l)) (some 0) (k) (ax) (ay) (bx) (yy) (T46_) _ (hA.all (K133.trans hR (fun _ _ x => x.elim))) (hO.all (K133.trans hR (fun _ _ x => x.elim))) (fun i hi => Nat.le_trans hA.1 (Nat.le_trans (K133).size (n46_ i hi))) h46_ ) (fun e_ w_ h_ => by obtain ⟨_, he_, k_, _⟩ := h_; exact ⟨_, he_, rfl, trivial, _, k_, n46_, h46_.types⟩))
   refine stepsFU_cons ?_ ?_
   ·refine StepFU.one rfl rfl fun F_ w_ hR hout hD => ?_
    have g50 : F_ 50 = .tuple #[.agg (chW ((rdCh ((l)) (k) (ax) (ay) (bx) (yy) (some 0)).1)).toArray, .int .i64 ((rdCh ((l)) (k) (ax) (ay) (bx) (yy) (some 0)).2.1)] := (hD.get 0 rfl rfl rfl) (.inl rfl)
    exact (y_mov rfl g50 ⟨rfl, Kept.refl _ _⟩)
   refine stepsFU_cons ?_ ?_
   ·refine StepFU.one rfl rfl fun F_ w_ hR hout hD => ?_
    have g44 : F_ 44 = .tuple #[.agg (chW ((rdCh ((l)) (k) (ax) (ay) (bx) (yy) (some 0)).1)).toArray, .int .i64 ((rdCh ((l)) (k) (ax) (ay) (bx) (yy) (some 0)).2.1)] := (hD.get 0 rfl rfl rfl) (.inl rfl)
    exact (y_ext rfl g44 rfl ⟨rfl, Kept.refl _ _⟩)
   refine stepsFU_cons ?_ ?_
   ·refine StepFU.one rfl rfl fun F_ w_ hR hout hD => ?_
    have g44 : F_ 44 = .tuple #[.agg (chW ((rdCh ((l)) (k) (ax) (ay) (bx) (yy) (some 0)).1)).toArray, .int .i64 ((rdCh ((l)) (k) (ax) (ay) (bx) (yy) (some 0)).2.1)] := (hD.get 0 rfl rfl rfl) (.inl rfl)
    exact (y_ext rfl g44 rfl ⟨rfl, Kept.refl _ _⟩)
   refine stepsFU_cons ?_ ?_
   ·refine StepFU.one rfl rfl fun F_ w_ hR hout hD => ?_
    exact y_alloc_stc (n := 21) (vs := (chL 0 0 0 0 0 (fun _ => (0 : Int)))) rfl (by kernel_rfl) ⟨⟨_, rfl, hR.size, heap_alloc_new _ _⟩, (Kept.refl _ _).alloc _⟩
   refine stepsFU_cons ?_ ?_
   ·refine StepFU.turn 9 16 (fun e_ => e_ = 27) rfl rfl rfl ⟨.inr under_eq, ⟨.inr (under_rdi (fun e_ he_ => by rcases he_ with rfl | rfl <;> decide)), ⟨.inr under_eq, ⟨.inr under_eq, ⟨.inr under_eq, ⟨.inr under_eq, ⟨.inr under_eq, ⟨.inr under_eq, ⟨.inr under_eq, ⟨.inl rfl, ⟨.inl rfl, trivial⟩⟩⟩⟩⟩⟩⟩⟩⟩⟩⟩ ⟨.inr under_any, ⟨.inr under_any, ⟨.inr under_any, ⟨.inr under_any, ⟨.inr under_any, ⟨.inr under_any, ⟨.inr under_any, ⟨.inr under_any, ⟨.inr under_any, ⟨.inl rfl, ⟨.inr under_any, trivial⟩⟩⟩⟩⟩⟩⟩⟩⟩⟩⟩ fun F_ w_ hR hout hD => ?_
    obtain ⟨p16_, g16, n16_, h16_⟩ : (Pd.stc w126.heap.size 27 (chL 0 0 0 0 0 (fun _ => (0 : Int)))).says (F_ 16) w_ := hD.get 0 rfl rfl rfl (.inr rfl)
    have g51 : F_ 51 = .agg (chW ((rdCh ((l)) (k) (ax) (ay) (bx) (yy) (some 0)).1)).toArray := (hD.get 1 rfl rfl rfl) (.inl rfl)
    exact y_storeStc (us := (chW ((rdCh ((l)) (k) (ax) (ay) (bx) (yy) (some 0)).1))) stcT_choice rfl g16 g51 h16_ rfl (oneI rfl (oneI rfl (oneI rfl (oneI rfl (oneI rfl (oneI rfl (oneI rfl (oneI rfl (oneI rfl (oneI rfl (oneI rfl (oneI rfl (oneI rfl (oneI rfl (oneI rfl (oneI rfl (oneI rfl (oneI rfl (oneI rfl (oneI rfl (oneI rfl oneN))))))))))))))))))))) fun w2_ hb_ k_ => ⟨trivial, ⟨p16_, g16, n16_, hb_⟩, _, k_, fun x_ hx_ => by rw [hx_]; exact n16_, h16_.types⟩
   exact stepsFU_nil
  intro v148 F149 w150 k151 G152 H154 hF153
  have B155 := B128.all k151 Apart.none
  have B156 := B129.all k151 id
  have B157 := B130.all k151 id
  have B158 := B131.all k151 id
  have B159 := B132.all k151 Apart.none
  have K160 := K133.trans k151 (fun _ _ x => x.elim)
  have s161 := (hF153 0).trans s136
  have s162 := (hF153 4).trans s137
  have s163 := (hF153 126).trans s138
  have s164 := (hF153 6).trans s139
  have s165 := (hF153 7).trans s140
  have s166 := (hF153 8).trans s141
  have s167 := (hF153 11).trans s142
  have s168 := (hF153 12).trans s143
  have s169 := (hF153 13).trans s144
  have s170 := (hF153 14).trans s145
  have s171 := (hF153 15).trans s146
  obtain ⟨p174, e173, e175, B176⟩ := H154 9 10 rfl (by decide)
  replace B176 : Stc w150 p174 27 (chW ((rdCh ((l)) (k) (ax) (ay) (bx) (yy) (some 0)).1)) := B176
  have s172 : F149 16 = .pointer (some ⟨p174, 0, none⟩) := (hF153 16).trans e173
  have s183 : F149 52 = .int .i64 ((rdCh ((l)) (k) (ax) (ay) (bx) (yy) (some 0)).2.1) := (hF153 52).trans (G152 8 (by decide) rfl)
  clear G152 hF153
  refine wl_v (.int .i64 ((rdCh ((l)) (k) (ax) (ay) (bx) (yy) (some 0)).2.1)) rfl rfl (y_asg rfl s183 ⟨rfl, rfl⟩) ?_
  refine wl_nil fun F184 hF185 => ?_
  have s186 := (hF185 0).trans s161
  have s187 := (hF185 4).trans s162
  have s188 := (hF185 126).trans s163
  have s189 := (hF185 6).trans s164
  have s190 := (hF185 7).trans s165
  have s191 := (hF185 8).trans s166
  have s192 := (hF185 11).trans s167
  have s193 := (hF185 12).trans s168
  have s194 := (hF185 13).trans s169
  have s195 := (hF185 14).trans s170
  have s196 := (hF185 15).trans s171
  have s197 := (hF185 16).trans s172
  have s198 : F184 17 = .int .i64 ((rdCh ((l)) (k) (ax) (ay) (bx) (yy) (some 0)).2.1) := (hF185 17).trans rfl
  clear hF185
  refine then_normal ?_
  refine wq_seq ?_
  refine wq_used [(3, 7), (11, 12)] 13 [some 54, some 55, some 56, some 57, some 58, some 59, some 60, some 61, some 53, some 62, some 63, some 18, none] [Pd.eq (v), Pd.eq (.string (strOf (bitsOf (l)))), Pd.eq (.agg #[.string (strOf (bitsOf (l))), .int .i64 0, .bool false]), Pd.rfi w150.heap.size (l) (some 0), Pd.eq (.int .i64 (k)), Pd.eq (.agg #[.int .i64 (ax), .int .i64 (ay)]), Pd.eq (.agg #[.int .i64 (bx), .int .i64 (yy)]), Pd.eq (.tuple #[.agg (chW ((rdCh (l) (k) (ax) (ay) (bx) (yy) (some 0)).1)).toArray, .int .i64 ((rdCh (l) (k) (ax) (ay) (bx) (yy) (some 0)).2.1)]), Pd.eq (.tuple #[.agg (chW ((rdCh (l) (k) (ax) (ay) (bx) (yy) (some 0)).1)).toArray, .int .i64 ((rdCh (l) (k) (ax) (ay) (bx) (yy) (some 0)).2.1)]), Pd.eq (.agg (chW ((rdCh (l) (k) (ax) (ay) (bx) (yy) (some 0)).1)).toArray), Pd.eq (.int .i64 ((rdCh (l) (k) (ax) (ay) (bx) (yy) (some 0)).2.1)), Pd.stc w150.heap.size 27 (chL 0 0 0 0 0 (fun _ => (0 : Int))), Pd.any] [Pd.any, Pd.any, Pd.any, Pd.any, Pd.any, Pd.any, Pd.any, Pd.any, Pd.any, Pd.any, Pd.any, Pd.stc w150.heap.size 27 (chW ((rdCh (l) (k) (ax) (ay) (bx) (yy) (some 0)).1)), Pd.any] (by kernel_rfl) (by kernel_rfl) (by kernel_rfl) (by kernel_rfl) ?_ ?_
  ·refine stepsFU_cons ?_ ?_
   ·refine StepFU.one rfl rfl fun F_ w_ hR hout hD => ?_
    exact (y_mov rfl ((hout 4 rfl (by decide)).trans s187) ⟨rfl, Kept.refl _ _⟩)
   refine stepsFU_cons ?_ ?_
   ·refine StepFU.one rfl rfl fun F_ w_ hR hout hD => ?_
    have g54 : F_ 54 = v := (hD.get 0 rfl rfl rfl) (.inl rfl)
    exact (y_cs rfl rfl rfl (fun _ _ => by kernel_rfl) (ev_func _) (vsC g54 vsN) (t_refbits (v) (l) (T_b) _ (by omega) (B155.all hR Apart.none) ) (fun e_ w_ h_ => ⟨_, h_.1, rfl, h_.2⟩))
   refine stepsFU_cons ?_ ?_
   ·refine StepFU.one rfl rfl fun F_ w_ hR hout hD => ?_
    have g55 : F_ 55 = .string (strOf (bitsOf (l))) := (hD.get 0 rfl rfl rfl) (.inl rfl)
    exact (y_buildL (l' := [(0, .string (strOf (bitsOf (l))))]) (cells := #[.string (strOf (bitsOf (l))), .int .i64 0, .bool false]) rfl (bpC g55 bpN) (by kernel_rfl) rfl ⟨rfl, Kept.refl _ _⟩)
   refine stepsFU_cons ?_ ?_
   ·refine StepFU.one rfl rfl fun F_ w_ hR hout hD => ?_
    have g56 : F_ 56 = .agg #[.string (strOf (bitsOf (l))), .int .i64 0, .bool false] := (hD.get 0 rfl rfl rfl) (.inl rfl)
    exact y_boxRfi (l := l) rfl g56 (h_b.1.fair (by omega)) (by omega) fun p_ _ T_ hb_ hg_ k_ => ⟨⟨p_, T_, rfl, hb_, fun x_ hx_ => Nat.le_trans hR.size ((hg_ x_ hx_).resolve_left (fun z_ => z_))⟩, k_⟩
   refine stepsFU_cons ?_ ?_
   ·refine StepFU.one rfl rfl fun F_ w_ hR hout hD => ?_
    exact (y_mov rfl ((hout 0 rfl (by decide)).trans s186) ⟨rfl, Kept.refl _ _⟩)
   refine stepsFU_cons ?_ ?_
   ·refine StepFU.one rfl rfl fun F_ w_ hR hout hD => ?_
    exact (y_load_stc stcT_vector rfl ((hout 7 rfl (by decide)).trans s190) (B157.all hR id) ⟨rfl, Kept.refl _ _⟩)
   refine stepsFU_cons ?_ ?_
   ·refine StepFU.one rfl rfl fun F_ w_ hR hout hD => ?_
    exact (y_load_stc stcT_vector rfl ((hout 8 rfl (by decide)).trans s191) (B158.all hR id) ⟨rfl, Kept.refl _ _⟩)
   refine stepsFU_cons ?_ ?_
   ·refine StepFU.turn 3 57 Rfi.ty rfl rfl rfl ⟨.inr under_eq, ⟨.inr under_eq, ⟨.inr under_eq, ⟨.inl rfl, ⟨.inr under_eq, ⟨.inr under_eq, ⟨.inr under_eq, ⟨.inl rfl, ⟨.inr under_eq, ⟨.inr under_eq, ⟨.inr under_eq, ⟨.inr (under_stc (by decide)), ⟨.inr under_any, trivial⟩⟩⟩⟩⟩⟩⟩⟩⟩⟩⟩⟩⟩ ⟨.inr under_any, ⟨.inr under_any, ⟨.inr under_any, ⟨.inl rfl, ⟨.inr under_any, ⟨.inr under_any, ⟨.inr under_any, ⟨.inr under_any, ⟨.inr under_any, ⟨.inr under_any, ⟨.inr under_any, ⟨.inr (under_stc (by decide)), ⟨.inr under_any, trivial⟩⟩⟩⟩⟩⟩⟩⟩⟩⟩⟩⟩⟩ fun F_ w_ hR hout hD => ?_
    obtain ⟨p57_, T57_, g57, h57_, n57_⟩ : (Pd.rfi w150.heap.size (l) (some 0)).says (F_ 57) w_ := hD.get 0 rfl rfl rfl (.inr rfl)
    have g58 : F_ 58 = .int .i64 (k) := (hD.get 1 rfl rfl rfl) (.inl rfl)
    have g59 : F_ 59 = .agg #[.int .i64 (ax), .int .i64 (ay)] := (hD.get 2 rfl rfl rfl) (.inl rfl)
    have g60 : F_ 60 = .agg #[.int .i64 (bx), .int .i64 (yy)] := (hD.get 3 rfl rfl rfl) (.inl rfl)
    exact (y_cs rfl rfl rfl (fun _ _ => by kernel_rfl) (ev_func _) (vsC g57 (vsC g58 (vsC g59 (vsC g60 vsN)))) (bref_read (p57_) (l) (some 0) (k) (ax) (ay) (bx) (yy) (T57_) _  h57_ ) (fun e_ w_ h_ => by obtain ⟨_, he_, k_, _⟩ := h_; exact ⟨_, he_, rfl, trivial, _, k_, n57_, h57_.types⟩))
   refine stepsFU_cons ?_ ?_
   ·refine StepFU.one rfl rfl fun F_ w_ hR hout hD => ?_
    have g61 : F_ 61 = .tuple #[.agg (chW ((rdCh (l) (k) (ax) (ay) (bx) (yy) (some 0)).1)).toArray, .int .i64 ((rdCh (l) (k) (ax) (ay) (bx) (yy) (some 0)).2.1)] := (hD.get 0 rfl rfl rfl) (.inl rfl)
    exact (y_mov rfl g61 ⟨rfl, Kept.refl _ _⟩)
   refine stepsFU_cons ?_ ?_
   ·refine StepFU.one rfl rfl fun F_ w_ hR hout hD => ?_
    have g53 : F_ 53 = .tuple #[.agg (chW ((rdCh (l) (k) (ax) (ay) (bx) (yy) (some 0)).1)).toArray, .int .i64 ((rdCh (l) (k) (ax) (ay) (bx) (yy) (some 0)).2.1)] := (hD.get 0 rfl rfl rfl) (.inl rfl)
    exact (y_ext rfl g53 rfl ⟨rfl, Kept.refl _ _⟩)
   refine stepsFU_cons ?_ ?_
   ·refine StepFU.one rfl rfl fun F_ w_ hR hout hD => ?_
    have g53 : F_ 53 = .tuple #[.agg (chW ((rdCh (l) (k) (ax) (ay) (bx) (yy) (some 0)).1)).toArray, .int .i64 ((rdCh (l) (k) (ax) (ay) (bx) (yy) (some 0)).2.1)] := (hD.get 0 rfl rfl rfl) (.inl rfl)
    exact (y_ext rfl g53 rfl ⟨rfl, Kept.refl _ _⟩)
   refine stepsFU_cons ?_ ?_
   ·refine StepFU.one rfl rfl fun F_ w_ hR hout hD => ?_
    exact y_alloc_stc (n := 21) (vs := (chL 0 0 0 0 0 (fun _ => (0 : Int)))) rfl (by kernel_rfl) ⟨⟨_, rfl, hR.size, heap_alloc_new _ _⟩, (Kept.refl _ _).alloc _⟩
   refine stepsFU_cons ?_ ?_
   ·refine StepFU.turn 11 18 (fun e_ => e_ = 27) rfl rfl rfl ⟨.inr under_eq, ⟨.inr under_eq, ⟨.inr under_eq, ⟨.inr (under_rfi (fun e_ he_ => by cases he_; decide)), ⟨.inr under_eq, ⟨.inr under_eq, ⟨.inr under_eq, ⟨.inr under_eq, ⟨.inr under_eq, ⟨.inr under_eq, ⟨.inr under_eq, ⟨.inl rfl, ⟨.inl rfl, trivial⟩⟩⟩⟩⟩⟩⟩⟩⟩⟩⟩⟩⟩ ⟨.inr under_any, ⟨.inr under_any, ⟨.inr under_any, ⟨.inr under_any, ⟨.inr under_any, ⟨.inr under_any, ⟨.inr under_any, ⟨.inr under_any, ⟨.inr under_any, ⟨.inr under_any, ⟨.inr under_any, ⟨.inl rfl, ⟨.inr under_any, trivial⟩⟩⟩⟩⟩⟩⟩⟩⟩⟩⟩⟩⟩ fun F_ w_ hR hout hD => ?_
    obtain ⟨p18_, g18, n18_, h18_⟩ : (Pd.stc w150.heap.size 27 (chL 0 0 0 0 0 (fun _ => (0 : Int)))).says (F_ 18) w_ := hD.get 0 rfl rfl rfl (.inr rfl)
    have g62 : F_ 62 = .agg (chW ((rdCh (l) (k) (ax) (ay) (bx) (yy) (some 0)).1)).toArray := (hD.get 1 rfl rfl rfl) (.inl rfl)
    exact y_storeStc (us := (chW ((rdCh (l) (k) (ax) (ay) (bx) (yy) (some 0)).1))) stcT_choice rfl g18 g62 h18_ rfl (oneI rfl (oneI rfl (oneI rfl (oneI rfl (oneI rfl (oneI rfl (oneI rfl (oneI rfl (oneI rfl (oneI rfl (oneI rfl (oneI rfl (oneI rfl (oneI rfl (oneI rfl (oneI rfl (oneI rfl (oneI rfl (oneI rfl (oneI rfl (oneI rfl oneN))))))))))))))))))))) fun w2_ hb_ k_ => ⟨trivial, ⟨p18_, g18, n18_, hb_⟩, _, k_, fun x_ hx_ => by rw [hx_]; exact n18_, h18_.types⟩
   exact stepsFU_nil
  intro v199 F200 w201 k202 G203 H205 hF204
  have B207 := B156.all k202 id
  have B210 := B159.all k202 Apart.none
  have B211 := B176.all k202 id
  have K212 := K160.trans k202 (fun _ _ x => x.elim)
  have s213 := (hF204 0).trans s186
  have s214 := (hF204 126).trans s188
  have s215 := (hF204 6).trans s189
  have s216 := (hF204 11).trans s192
  have s217 := (hF204 12).trans s193
  have s218 := (hF204 13).trans s194
  have s219 := (hF204 14).trans s195
  have s220 := (hF204 15).trans s196
  have s221 := (hF204 16).trans s197
  have s222 := (hF204 17).trans s198
  obtain ⟨p225, e224, e226, B227⟩ := H205 11 12 rfl (by decide)
  replace B227 : Stc w201 p225 27 (chW ((rdCh (l) (k) (ax) (ay) (bx) (yy) (some 0)).1)) := B227
  have s223 : F200 18 = .pointer (some ⟨p225, 0, none⟩) := (hF204 18).trans e224
  have s235 : F200 63 = .int .i64 ((rdCh (l) (k) (ax) (ay) (bx) (yy) (some 0)).2.1) := (hF204 63).trans (G203 10 (by decide) rfl)
  clear G203 hF204
  refine wl_v (.int .i64 ((rdCh (l) (k) (ax) (ay) (bx) (yy) (some 0)).2.1)) rfl rfl (y_asg rfl s235 ⟨rfl, rfl⟩) ?_
  refine wl_nil fun F236 hF237 => ?_
  have s238 := (hF237 0).trans s213
  have s239 := (hF237 126).trans s214
  have s240 := (hF237 6).trans s215
  have s241 := (hF237 11).trans s216
  have s242 := (hF237 12).trans s217
  have s243 := (hF237 13).trans s218
  have s244 := (hF237 14).trans s219
  have s245 := (hF237 15).trans s220
  have s246 := (hF237 16).trans s221
  have s247 := (hF237 17).trans s222
  have s248 := (hF237 18).trans s223
  have s249 : F236 19 = .int .i64 ((rdCh (l) (k) (ax) (ay) (bx) (yy) (some 0)).2.1) := (hF237 19).trans rfl
  clear hF237
  refine then_normal ?_
  refine wq_seq ?_
  refine wq_region ?_
  refine wl_v (.pointer (some ⟨p1, 0, none⟩)) rfl rfl (y_fieldR (n := 1) rfl s240 Tryd.underlying27 rfl (by kernel_rfl) (by decide) rfl ⟨rfl, rfl⟩) ?_
  refine wl_v (.int .i64 ((c).m)) rfl rfl (y_ld_stc rfl rfl Tryd.underlying3 B207 rfl rfl ⟨rfl, rfl⟩) ?_
  refine wl_call (R := fun v_ w_ => v_ = .tuple #[.bool (pastB ((c).m)), .bool (nextB ((c).m))] ∧ Kept (fun _ => False) w201 w_) rfl rfl (y_cs rfl rfl rfl (fun _ _ => by kernel_rfl) (ev_func _) (vsC rfl vsN) (bl_vectors ((c).m)  _ (hA.all K212)  ) (fun e_ w_ h_ => ⟨_, h_.1, rfl, h_.2⟩)) ?_
  rintro _ w250 ⟨rfl, k251⟩
  have B253 := B207.all k251 id
  have B256 := B210.all k251 Apart.none
  have B257 := B211.all k251 id
  have B258 := B227.all k251 id
  have K259 := K212.trans k251 (fun _ _ x => x.elim)
  refine wl_v (.tuple #[.bool (pastB ((c).m)), .bool (nextB ((c).m))]) rfl rfl (y_mov rfl rfl ⟨rfl, rfl⟩) ?_
  refine wl_v (.bool (pastB ((c).m))) rfl rfl (y_ext rfl rfl rfl ⟨rfl, rfl⟩) ?_
  refine wl_v (.bool (nextB ((c).m))) rfl rfl (y_ext rfl rfl rfl ⟨rfl, rfl⟩) ?_
  refine wl_v (.bool (pastB ((c).m))) rfl rfl (y_asg rfl rfl ⟨rfl, rfl⟩) ?_
  refine wl_v (.bool (nextB ((c).m))) rfl rfl (y_asg rfl rfl ⟨rfl, rfl⟩) ?_
  refine wl_nil fun F260 hF261 => ?_
  have s262 := (hF261 0).trans s238
  have s263 := (hF261 126).trans s239
  have s264 := (hF261 6).trans s240
  have s265 := (hF261 11).trans s241
  have s266 := (hF261 12).trans s242
  have s267 := (hF261 13).trans s243
  have s268 := (hF261 14).trans s244
  have s269 := (hF261 15).trans s245
  have s270 := (hF261 16).trans s246
  have s271 := (hF261 17).trans s247
  have s272 := (hF261 18).trans s248
  have s273 := (hF261 19).trans s249
  have s274 : F260 20 = .bool (pastB ((c).m)) := (hF261 20).trans rfl
  have s275 : F260 21 = .bool (nextB ((c).m)) := (hF261 21).trans rfl
  clear hF261
  refine then_normal ?_
  refine wq_seq ?_
  refine wq_said [some 70, some 71, some 72, some 73, some 74, some 75, some 76, some 77, some 78, some 79, some 80, some 81, some 82, some 83, some 84, some 85, some 86, some 87, some 88, some 89, some 90, some 91, some 92, some 93, some 94, some 95, some 96, some 97, some 22] [Pd.eq (.int .i64 (k)), Pd.eq (.agg (chW (c)).toArray), Pd.eq (.int .i64 (chE (k) (c))), Pd.eq (.int .i64 (k)), Pd.eq (.agg (chW (c)).toArray), Pd.eq (.int .i64 (chE (k) (c))), Pd.eq (.bool true), Pd.eq (.bool true), Pd.eq (.int .i64 (chE (k) (c))), Pd.eq (.int .i64 (chE (k) (c))), Pd.eq (.bool true), Pd.eq (.bool true), Pd.eq (.bool true), Pd.eq (.pointer (some ⟨p73, 0, none⟩)), Pd.eq (.int .i64 (((((([] : List Bool)) ++ wrCh (k) (c) (ax) (ay) (bx) (yy)).length : Nat) : Int))), Pd.eq (.string (strOf (wrCh (k) (c) (ax) (ay) (bx) (yy)))), Pd.eq (.int .i64 (((wrCh (k) (c) (ax) (ay) (bx) (yy)).length : Nat) : Int)), Pd.eq (.bool true), Pd.eq (.bool true), Pd.eq (.bool true), Pd.eq (.pointer (some ⟨p73, 0, none⟩)), Pd.bytes (pack ((([] : List Bool)) ++ wrCh (k) (c) (ax) (ay) (bx) (yy))), Pd.eq (.string (textOf (pack ((([] : List Bool)) ++ wrCh (k) (c) (ax) (ay) (bx) (yy))))), Pd.eq (.string (strOf (wrCh (k) (c) (ax) (ay) (bx) (yy)))), Pd.bytes (pack (wrCh (k) (c) (ax) (ay) (bx) (yy))), Pd.eq (.string (textOf (pack (wrCh (k) (c) (ax) (ay) (bx) (yy))))), Pd.eq (.bool true), Pd.eq (.bool true), Pd.eq (.bool true)] (by kernel_rfl) (by kernel_rfl) ?_ ?_
  ·refine stepsF_cons ?_ ?_
   ·refine StepF.one rfl fun F_ w_ hR hout hD => ?_
    exact (y_mov rfl ((hout 0 rfl (by decide)).trans s262) ⟨rfl, Kept.refl _ _⟩)
   refine stepsF_cons ?_ ?_
   ·refine StepF.one rfl fun F_ w_ hR hout hD => ?_
    exact (y_load_stc stcT_choice rfl ((hout 6 rfl (by decide)).trans s264) (B253.all hR id) ⟨rfl, Kept.refl _ _⟩)
   refine stepsF_cons ?_ ?_
   ·refine StepF.one rfl fun F_ w_ hR hout hD => ?_
    have g70 : F_ 70 = .int .i64 (k) := (hD.get 0 rfl rfl rfl)
    have g71 : F_ 71 = .agg (chW (c)).toArray := (hD.get 1 rfl rfl rfl)
    exact (y_cs rfl rfl rfl (fun _ _ => by kernel_rfl) (ev_func _) (vsC g70 (vsC g71 vsN)) (bl_check (k) (c)  _ (hA.all (K259.trans hR (fun _ _ x => x.elim)))  ) (fun e_ w_ h_ => ⟨_, h_.1, rfl, h_.2⟩))
   refine stepsF_cons ?_ ?_
   ·refine StepF.one rfl fun F_ w_ hR hout hD => ?_
    exact (y_mov rfl ((hout 0 rfl (by decide)).trans s262) ⟨rfl, Kept.refl _ _⟩)
   refine stepsF_cons ?_ ?_
   ·refine StepF.one rfl fun F_ w_ hR hout hD => ?_
    exact (y_load_stc stcT_choice rfl ((hout 6 rfl (by decide)).trans s264) (B253.all hR id) ⟨rfl, Kept.refl _ _⟩)
   refine stepsF_cons ?_ ?_
   ·refine StepF.one rfl fun F_ w_ hR hout hD => ?_
    have g73 : F_ 73 = .int .i64 (k) := (hD.get 0 rfl rfl rfl)
    have g74 : F_ 74 = .agg (chW (c)).toArray := (hD.get 1 rfl rfl rfl)
    exact (y_cs rfl rfl rfl (fun _ _ => by kernel_rfl) (ev_func _) (vsC g73 (vsC g74 vsN)) (bref_check (k) (c)  _   ) (fun e_ w_ h_ => ⟨_, h_.1, rfl, h_.2⟩))
   refine stepsF_cons ?_ ?_
   ·refine StepF.one rfl fun F_ w_ hR hout hD => ?_
    have g72 : F_ 72 = .int .i64 (chE (k) (c)) := (hD.get 0 rfl rfl rfl)
    have g75 : F_ 75 = .int .i64 (chE (k) (c)) := (hD.get 1 rfl rfl rfl)
    exact (y_eqlI rfl g72 g75 (decide_eq_true rfl) ⟨rfl, Kept.refl _ _⟩)
   refine stepsF_cons ?_ ?_
   ·refine StepF.one rfl fun F_ w_ hR hout hD => ?_
    have g76 : F_ 76 = .bool true := (hD.get 0 rfl rfl rfl)
    exact (y_mov rfl g76 ⟨rfl, Kept.refl _ _⟩)
   refine stepsF_cons ?_ ?_
   ·refine StepF.when 7 true 77 rfl rfl fun F_ w_ hR hout hD => ?_
    have g77 : F_ 77 = .bool true := (hD.get 0 rfl rfl rfl)
    exact ⟨g77, (y_mov rfl ((hout 13 rfl (by decide)).trans s267) ⟨rfl, Kept.refl _ _⟩)⟩
   refine stepsF_cons ?_ ?_
   ·refine StepF.when 7 true 77 rfl rfl fun F_ w_ hR hout hD => ?_
    have g77 : F_ 77 = .bool true := (hD.get 0 rfl rfl rfl)
    exact ⟨g77, (y_mov rfl ((hout 15 rfl (by decide)).trans s269) ⟨rfl, Kept.refl _ _⟩)⟩
   refine stepsF_cons ?_ ?_
   ·refine StepF.when 7 true 77 rfl rfl fun F_ w_ hR hout hD => ?_
    have g77 : F_ 77 = .bool true := (hD.get 2 rfl rfl rfl)
    have g78 : F_ 78 = .int .i64 (chE (k) (c)) := (hD.get 0 rfl rfl rfl)
    have g79 : F_ 79 = .int .i64 (chE (k) (c)) := (hD.get 1 rfl rfl rfl)
    exact ⟨g77, (y_eqlI rfl g78 g79 (decide_eq_true rfl) ⟨rfl, Kept.refl _ _⟩)⟩
   refine stepsF_cons ?_ ?_
   ·refine StepF.one rfl fun F_ w_ hR hout hD => ?_
    have g77 : F_ 77 = .bool true := (hD.get 0 rfl rfl rfl)
    have g80 : F_ 80 = .bool true := (hD.get 1 rfl rfl rfl)
    exact (y_pickT rfl g77 g80 ⟨rfl, Kept.refl _ _⟩)
   refine stepsF_cons ?_ ?_
   ·refine StepF.one rfl fun F_ w_ hR hout hD => ?_
    have g81 : F_ 81 = .bool true := (hD.get 0 rfl rfl rfl)
    exact (y_mov rfl g81 ⟨rfl, Kept.refl _ _⟩)
   refine stepsF_cons ?_ ?_
   ·refine StepF.when 12 true 82 rfl rfl fun F_ w_ hR hout hD => ?_
    have g82 : F_ 82 = .bool true := (hD.get 0 rfl rfl rfl)
    exact ⟨g82, (y_mov rfl ((hout 12 rfl (by decide)).trans s266) ⟨rfl, Kept.refl _ _⟩)⟩
   refine stepsF_cons ?_ ?_
   ·refine StepF.when 12 true 82 rfl rfl fun F_ w_ hR hout hD => ?_
    have g82 : F_ 82 = .bool true := (hD.get 1 rfl rfl rfl)
    have g83 : F_ 83 = .pointer (some ⟨p73, 0, none⟩) := (hD.get 0 rfl rfl rfl)
    exact ⟨g82, (y_cs rfl rfl rfl (fun _ _ => by kernel_rfl) (ev_func _) (vsC g83 vsN) (t_many (p73) ((([] : List Bool)) ++ wrCh (k) (c) (ax) (ay) (bx) (yy)) (T102) _  (B256.all hR Apart.none) ) (fun e_ w_ h_ => ⟨_, h_.1, rfl, h_.2⟩))⟩
   refine stepsF_cons ?_ ?_
   ·refine StepF.when 12 true 82 rfl rfl fun F_ w_ hR hout hD => ?_
    have g82 : F_ 82 = .bool true := (hD.get 0 rfl rfl rfl)
    exact ⟨g82, (y_mov rfl ((hout 14 rfl (by decide)).trans s268) ⟨rfl, Kept.refl _ _⟩)⟩
   refine stepsF_cons ?_ ?_
   ·refine StepF.when 12 true 82 rfl rfl fun F_ w_ hR hout hD => ?_
    have g82 : F_ 82 = .bool true := (hD.get 1 rfl rfl rfl)
    have g85 : F_ 85 = .string (strOf (wrCh (k) (c) (ax) (ay) (bx) (yy))) := (hD.get 0 rfl rfl rfl)
    exact ⟨g82, (y_lenT rfl rfl g85 ⟨rfl, Kept.refl _ _⟩)⟩
   refine stepsF_cons ?_ ?_
   ·refine StepF.when 12 true 82 rfl rfl fun F_ w_ hR hout hD => ?_
    have g82 : F_ 82 = .bool true := (hD.get 2 rfl rfl rfl)
    have g84 : F_ 84 = .int .i64 (((((([] : List Bool)) ++ wrCh (k) (c) (ax) (ay) (bx) (yy)).length : Nat) : Int)) := (hD.get 0 rfl rfl rfl)
    have g86 : F_ 86 = .int .i64 (((wrCh (k) (c) (ax) (ay) (bx) (yy)).length : Nat) : Int) := (hD.get 1 rfl rfl rfl)
    exact ⟨g82, (y_eqlI rfl g84 g86 (decide_eq_true rfl) ⟨rfl, Kept.refl _ _⟩)⟩
   refine stepsF_cons ?_ ?_
   ·refine StepF.one rfl fun F_ w_ hR hout hD => ?_
    have g82 : F_ 82 = .bool true := (hD.get 0 rfl rfl rfl)
    have g87 : F_ 87 = .bool true := (hD.get 1 rfl rfl rfl)
    exact (y_pickT rfl g82 g87 ⟨rfl, Kept.refl _ _⟩)
   refine stepsF_cons ?_ ?_
   ·refine StepF.one rfl fun F_ w_ hR hout hD => ?_
    have g88 : F_ 88 = .bool true := (hD.get 0 rfl rfl rfl)
    exact (y_mov rfl g88 ⟨rfl, Kept.refl _ _⟩)
   refine stepsF_cons ?_ ?_
   ·refine StepF.when 19 true 89 rfl rfl fun F_ w_ hR hout hD => ?_
    have g89 : F_ 89 = .bool true := (hD.get 0 rfl rfl rfl)
    exact ⟨g89, (y_mov rfl ((hout 12 rfl (by decide)).trans s266) ⟨rfl, Kept.refl _ _⟩)⟩
   refine stepsF_cons ?_ ?_
   ·refine StepF.when 19 true 89 rfl rfl fun F_ w_ hR hout hD => ?_
    have g89 : F_ 89 = .bool true := (hD.get 1 rfl rfl rfl)
    have g90 : F_ 90 = .pointer (some ⟨p73, 0, none⟩) := (hD.get 0 rfl rfl rfl)
    exact ⟨g89, (y_cs rfl rfl rfl (fun _ _ => by kernel_rfl) (ev_func _) (vsC g90 vsN) (t_bytes (p73) ((([] : List Bool)) ++ wrCh (k) (c) (ax) (ay) (bx) (yy)) (T102) _ (by simp; omega) (B256.all hR Apart.none) ) (fun e_ w_ h_ => by obtain ⟨v_, T_, he_, k_, hb_, _⟩ := h_; exact ⟨v_, he_, hb_.1, k_⟩))⟩
   refine stepsF_cons ?_ ?_
   ·refine StepF.when 19 true 89 rfl rfl fun F_ w_ hR hout hD => ?_
    have g89 : F_ 89 = .bool true := (hD.get 1 rfl rfl rfl)
    have g91 : BytesArg w_ (F_ 91) (pack ((([] : List Bool)) ++ wrCh (k) (c) (ax) (ay) (bx) (yy))) := (hD.get 0 rfl rfl rfl)
    exact ⟨g89, (y_text rfl g91 ⟨rfl, Kept.refl _ _⟩)⟩
   refine stepsF_cons ?_ ?_
   ·refine StepF.when 19 true 89 rfl rfl fun F_ w_ hR hout hD => ?_
    have g89 : F_ 89 = .bool true := (hD.get 0 rfl rfl rfl)
    exact ⟨g89, (y_mov rfl ((hout 14 rfl (by decide)).trans s268) ⟨rfl, Kept.refl _ _⟩)⟩
   refine stepsF_cons ?_ ?_
   ·refine StepF.when 19 true 89 rfl rfl fun F_ w_ hR hout hD => ?_
    have g89 : F_ 89 = .bool true := (hD.get 2 rfl rfl rfl)
    have g93 : F_ 93 = .string (strOf (wrCh (k) (c) (ax) (ay) (bx) (yy))) := (hD.get 0 rfl rfl rfl)
    exact ⟨g89, (y_cs rfl rfl rfl (fun _ _ => by kernel_rfl) (ev_func _) (vsC g93 vsN) (t_refbytes (wrCh (k) (c) (ax) (ay) (bx) (yy))  _ (by omega)  ) (fun e_ w_ h_ => by obtain ⟨v_, T_, he_, k_, hb_, _⟩ := h_; exact ⟨v_, he_, hb_.1, k_⟩))⟩
   refine stepsF_cons ?_ ?_
   ·refine StepF.when 19 true 89 rfl rfl fun F_ w_ hR hout hD => ?_
    have g89 : F_ 89 = .bool true := (hD.get 1 rfl rfl rfl)
    have g94 : BytesArg w_ (F_ 94) (pack (wrCh (k) (c) (ax) (ay) (bx) (yy))) := (hD.get 0 rfl rfl rfl)
    exact ⟨g89, (y_text rfl g94 ⟨rfl, Kept.refl _ _⟩)⟩
   refine stepsF_cons ?_ ?_
   ·refine StepF.when 19 true 89 rfl rfl fun F_ w_ hR hout hD => ?_
    have g89 : F_ 89 = .bool true := (hD.get 2 rfl rfl rfl)
    have g92 : F_ 92 = .string (textOf (pack ((([] : List Bool)) ++ wrCh (k) (c) (ax) (ay) (bx) (yy)))) := (hD.get 0 rfl rfl rfl)
    have g95 : F_ 95 = .string (textOf (pack (wrCh (k) (c) (ax) (ay) (bx) (yy)))) := (hD.get 1 rfl rfl rfl)
    exact ⟨g89, (y_eqlS rfl g92 g95 (beq_self_eq_true _) ⟨rfl, Kept.refl _ _⟩)⟩
   refine stepsF_cons ?_ ?_
   ·refine StepF.one rfl fun F_ w_ hR hout hD => ?_
    have g89 : F_ 89 = .bool true := (hD.get 0 rfl rfl rfl)
    have g96 : F_ 96 = .bool true := (hD.get 1 rfl rfl rfl)
    exact (y_pickT rfl g89 g96 ⟨rfl, Kept.refl _ _⟩)
   refine stepsF_cons ?_ ?_
   ·refine StepF.one rfl fun F_ w_ hR hout hD => ?_
    have g97 : F_ 97 = .bool true := (hD.get 0 rfl rfl rfl)
    exact (y_asg rfl g97 ⟨rfl, Kept.refl _ _⟩)
   exact stepsF_nil
  intro v278 F279 w280 k281 G282 hF283
  have B286 := B253.all k281 id
  have B290 := B257.all k281 id
  have B291 := B258.all k281 id
  have K292 := K259.trans k281 (fun _ _ x => x.elim)
  have s293 := (hF283 126).trans s263
  have s294 := (hF283 6).trans s264
  have s295 := (hF283 11).trans s265
  have s296 := (hF283 16).trans s270
  have s297 := (hF283 17).trans s271
  have s298 := (hF283 18).trans s272
  have s299 := (hF283 19).trans s273
  have s300 := (hF283 20).trans s274
  have s301 := (hF283 21).trans s275
  have s302 : F279 22 = .bool true := (hF283 22).trans (G282 28 (by decide))
  clear G282 hF283
  refine then_normal ?_
  refine wq_seq ?_
  refine wq_region ?_
  refine wl_v (.bool true) rfl rfl (y_mov rfl s295 ⟨rfl, rfl⟩) ?_
  refine wl_v (.bool true) rfl rfl (y_mov rfl rfl ⟨rfl, rfl⟩) ?_
  refine wl_vw (.bool true) 1 true 99 rfl rfl rfl rfl rfl (y_mov rfl s302 ⟨rfl, rfl⟩) ?_
  refine wl_v (.bool true) rfl rfl (y_pickT rfl rfl rfl ⟨rfl, rfl⟩) ?_
  refine wl_v (.bool true) rfl rfl (y_mov rfl rfl ⟨rfl, rfl⟩) ?_
  refine wl_vw (.agg (chW ((rdCh ((l)) (k) (ax) (ay) (bx) (yy) (some 0)).1)).toArray) 4 true 102 rfl rfl rfl rfl rfl (y_load_stc stcT_choice rfl s296 B290 ⟨rfl, rfl⟩) ?_
  refine wl_vw (.agg (chW ((rdCh (l) (k) (ax) (ay) (bx) (yy) (some 0)).1)).toArray) 4 true 102 rfl rfl rfl rfl rfl (y_load_stc stcT_choice rfl s298 B291 ⟨rfl, rfl⟩) ?_
  refine wl_vw (.bool true) 4 true 102 rfl rfl rfl rfl rfl (y_eqlCh (c := (rdCh ((l)) (k) (ax) (ay) (bx) (yy) (some 0)).1) (d := (rdCh (l) (k) (ax) (ay) (bx) (yy) (some 0)).1) rfl rfl rfl (sameCh_self _) ⟨rfl, rfl⟩) ?_
  refine wl_v (.bool true) rfl rfl (y_pickT rfl rfl rfl ⟨rfl, rfl⟩) ?_
  refine wl_v (.bool true) rfl rfl (y_mov rfl rfl ⟨rfl, rfl⟩) ?_
  refine wl_vw (.int .i64 ((rdCh ((l)) (k) (ax) (ay) (bx) (yy) (some 0)).2.1)) 9 true 107 rfl rfl rfl rfl rfl (y_mov rfl s297 ⟨rfl, rfl⟩) ?_
  refine wl_vw (.int .i64 ((rdCh (l) (k) (ax) (ay) (bx) (yy) (some 0)).2.1)) 9 true 107 rfl rfl rfl rfl rfl (y_mov rfl s299 ⟨rfl, rfl⟩) ?_
  refine wl_vw (.bool true) 9 true 107 rfl rfl rfl rfl rfl (y_eqlI rfl rfl rfl (decide_eq_true rfl) ⟨rfl, rfl⟩) ?_
  refine wl_v (.bool true) rfl rfl (y_pickT rfl rfl rfl ⟨rfl, rfl⟩) ?_
  refine wl_v (.bool true) rfl rfl (y_mov rfl rfl ⟨rfl, rfl⟩) ?_
  refine wl_vw (.bool (pastB ((c).m))) 14 true 112 rfl rfl rfl rfl rfl (y_mov rfl s300 ⟨rfl, rfl⟩) ?_
  refine wl_vw (.pointer (some ⟨p1, 0, none⟩)) 14 true 112 rfl rfl rfl rfl rfl (y_fieldR (n := 1) rfl s294 Tryd.underlying27 rfl (by kernel_rfl) (by decide) rfl ⟨rfl, rfl⟩) ?_
  refine wl_vw (.int .i64 ((c).m)) 14 true 112 rfl rfl rfl rfl rfl (y_ld_stc rfl rfl Tryd.underlying3 B286 rfl rfl ⟨rfl, rfl⟩) ?_
  refine wl_callw (R := fun v_ w_ => v_ = .bool (pastB ((c).m)) ∧ Kept (fun _ => False) w280 w_) 14 true 112 rfl rfl rfl rfl rfl (y_cs rfl rfl rfl (fun _ _ => by kernel_rfl) (ev_func _) (vsC rfl vsN) (bref_past ((c).m)  _   ) (fun e_ w_ h_ => ⟨_, h_.1, rfl, h_.2⟩)) ?_
  rintro _ w303 ⟨rfl, k304⟩
  have B306 := B286.all k304 id
  have K312 := K292.trans k304 (fun _ _ x => x.elim)
  refine wl_vw (.bool true) 14 true 112 rfl rfl rfl rfl rfl (y_eqlB rfl rfl rfl Tryd.underlying4 (beq_self_eq_true _) ⟨rfl, rfl⟩) ?_
  refine wl_v (.bool true) rfl rfl (y_pickT rfl rfl rfl ⟨rfl, rfl⟩) ?_
  refine wl_v (.bool true) rfl rfl (y_mov rfl rfl ⟨rfl, rfl⟩) ?_
  refine wl_vw (.bool (nextB ((c).m))) 21 true 119 rfl rfl rfl rfl rfl (y_mov rfl s301 ⟨rfl, rfl⟩) ?_
  refine wl_vw (.pointer (some ⟨p1, 0, none⟩)) 21 true 119 rfl rfl rfl rfl rfl (y_fieldR (n := 1) rfl s294 Tryd.underlying27 rfl (by kernel_rfl) (by decide) rfl ⟨rfl, rfl⟩) ?_
  refine wl_vw (.int .i64 ((c).m)) 21 true 119 rfl rfl rfl rfl rfl (y_ld_stc rfl rfl Tryd.underlying3 B306 rfl rfl ⟨rfl, rfl⟩) ?_
  refine wl_callw (R := fun v_ w_ => v_ = .bool (nextB ((c).m)) ∧ Kept (fun _ => False) w303 w_) 21 true 119 rfl rfl rfl rfl rfl (y_cs rfl rfl rfl (fun _ _ => by kernel_rfl) (ev_func _) (vsC rfl vsN) (bref_next ((c).m)  _   ) (fun e_ w_ h_ => ⟨_, h_.1, rfl, h_.2⟩)) ?_
  rintro _ w313 ⟨rfl, k314⟩
  have K322 := K312.trans k314 (fun _ _ x => x.elim)
  refine wl_vw (.bool true) 21 true 119 rfl rfl rfl rfl rfl (y_eqlB rfl rfl rfl Tryd.underlying4 (beq_self_eq_true _) ⟨rfl, rfl⟩) ?_
  refine wl_v (.bool true) rfl rfl (y_pickT rfl rfl rfl ⟨rfl, rfl⟩) ?_
  refine wl_v (.bool true) rfl rfl (y_asg rfl rfl ⟨rfl, rfl⟩) ?_
  refine wl_nil fun F323 hF324 => ?_
  have s325 := (hF324 126).trans s293
  have s326 : F323 10 = .bool true := (hF324 10).trans rfl
  clear hF324
  refine then_normal ?_
  refine wq_ret ?_
  exact end_tmp (v := .bool true) s325 rfl rfl s326 ⟨rfl, K322⟩

end Go.Proofs.YtdcbabgcbkdlhaaDoor
set_option maxRecDepth 100000
namespace Go.Proofs.YtdcbabgcbkdlhaaDoor
open Go.ChangeShapes Go.WideShapes Go.ChangeAt Go.RowKit

section
variable {H : Type} {enc : TypeId × Value → H} {w : World} {base : Nat} {spare : Nat → Bool} {held : Bool}

theorem BytesArg.of_row {a : Option Addr} {len cap : Nat} {zs : List Int}
    (h : (a = none ∧ len = 0 ∧ cap = 0 ∧ zs = []) ∨ ∃ x, a = some x ∧ len ≤ cap ∧ cap ≤ maxLen ∧ len ≤ zs.length ∧ (∀ i, i < zs.length → w.cell? (x.add i) = some (.int .u8 (zs.getD i 0))) ∧ ∀ n ∈ zs, (Lit.int .u8 n).wf = true) :
    ∃ l : List Nat, BytesArg w (.slice a len cap) l := by
  rcases h with ⟨rfl, rfl, rfl, rfl⟩ | ⟨x, rfl, hlc, hcm, hz, hcell, hwf⟩
  · exact ⟨[], BytesArg.nil w⟩
  · have hlen : ((zs.take len).map Int.toNat).length = len := by simp; omega
    refine ⟨(zs.take len).map Int.toNat, some x, cap, by rw [hlen], by rw [hlen]; exact hlc, hcm, by simp, ?_, ?_⟩
    · intro y hy
      obtain ⟨z, hz1, rfl⟩ := List.mem_map.1 hy
      have := bounds_u8 (hwf z (List.mem_of_mem_take hz1))
      omega
    · intro hpos
      rw [hlen] at hpos
      have hpos' : 0 < zs.length := by omega
      obtain ⟨b, off, rfl, hc⟩ := ints_at hcell hpos'
      refine ⟨b, off, rfl, World.block_lt_of_cell? w _ (hc 0 hpos'), fun i hi => ?_⟩
      rw [hlen] at hi
      have hi' : i < zs.length := by omega
      rw [hc i hi']
      have hwi := bounds_u8 (hwf zs[i] (List.getElem_mem hi'))
      simp [List.getD, hi', hi]
      omega

theorem bytes_open {fuel : Nat} {v : Value} {x : DataW H × List MemPlace}
    (h : DataW.trod enc Tryd.prog w base spare held fuel 28 [v] = some x) : ∃ l : List Nat, BytesArg w v l := by
  rcases open_ints Tryd.underlying28 Tryd.underlying5 (by kernel_rfl) h with ⟨hcs, _⟩ | ⟨a, len, cap, zs, hcs, _, hl, hm, hz, _, hcell, hwz⟩
  · simp at hcs
    subst hcs
    exact ⟨[], BytesArg.nil w⟩
  · simp at hcs
    subst hcs
    exact BytesArg.of_row (.inr ⟨a, rfl, hl, hm, by have := hz; split at this <;> omega, hcell, hwz⟩)

end
end Go.Proofs.YtdcbabgcbkdlhaaDoor
set_option maxRecDepth 100000
namespace Go.Proofs.YtdcbabgcbkdlhaaDoor
open Go.RowKit

def rCh : RowT Ch := { t := 54, e := 27, k := 21, by_ := 168, enc := chV, d := ⟨0, 0, 0, 0, 0, fun _ => 0⟩, z := .agg (chV ⟨0, 0, 0, 0, 0, fun _ => 0⟩).toArray }
instance rCh_ok : RowT.Ok rCh := ⟨Tryd.underlying54, by kernel_rfl, rfl, by decide, fun _ => rfl, fun c => one_ch c, by decide⟩
end Go.Proofs.YtdcbabgcbkdlhaaDoor
set_option maxRecDepth 100000
namespace Go.Proofs.YtdcbabgcbkdlhaaDoor
open Go.ChangeShapes Go.WideShapes Go.ChangeAt Go.RowKit Go.Deep

section
variable {H : Type} {enc : TypeId × Value → H} {w : World} {base : Nat} {spare : Nat → Bool} {held : Bool}
theorem Tryd.cellsVec : Tryd.prog.cellsOf 23 = 2 := by kernel_rfl
theorem Tryd.cellsVecI : Tryd.prog.cellsOf 3 = 1 := by kernel_rfl
theorem vec_open {r : Reach} {b0 : Nat} {v : Value} {d : DataW H} {ps : List MemPlace} (hval : Value.okWide Tryd.prog w r b0 23 v) (h : DataW.Trod enc Tryd.prog w base spare held 23 v d ps) :
    ∃ X Y : Int, v = .agg #[.int .i64 X, .int .i64 Y] := by
  obtain ⟨cs, rfl, hsz⟩ := okWide_struct Tryd.underlying23 hval
  rw [Tryd.cellsVec] at hsz
  obtain ⟨cs⟩ := cs
  obtain ⟨fuel, hf⟩ := h
  match cs, hsz with
  | [c0, c1], _ =>
    obtain ⟨y0, y1, n, _, _, h0, h1⟩ := trod_struct2 (cs := [c0, c1]) Tryd.underlying23 hf
    simp only [Tryd.cellsVecI, List.drop_zero, List.drop_succ_cons, List.take_succ_cons, List.take_zero] at h0 h1
    obtain ⟨X, hX, _, _⟩ := DataW.trod_int Tryd.underlying3 h0
    obtain ⟨Y, hY, _, _⟩ := DataW.trod_int Tryd.underlying3 h1
    simp only [List.cons.injEq, and_true] at hX hY
    subst hX; subst hY
    exact ⟨X, Y, rfl⟩
end
end Go.Proofs.YtdcbabgcbkdlhaaDoor
set_option maxRecDepth 100000
namespace Go.Proofs.YtdcbabgcbkdlhaaDoor
open Go.ChangeShapes Go.WideShapes Go.ChangeAt Go.RowKit Go.Deep Go.Joins

section
variable {H : Type} {enc : TypeId × Value → H} {w : World} {base : Nat} {spare : Nat → Bool} {held : Bool}
theorem Tryd.cellsChB : Tryd.prog.cellsOf 25 = 16 := by kernel_rfl
theorem Tryd.cellsCh : Tryd.prog.cellsOf 27 = 21 := by kernel_rfl
theorem vec_cells2 {fuel : Nat} {cs : List Value} {y : DataW H × List MemPlace} (h : DataW.trod enc Tryd.prog w base spare held fuel 23 cs = some y) :
    ∃ X Y : Int, cs = [.int .i64 X, .int .i64 Y] := by
  obtain ⟨y0, y1, n, _, hsz, h0, h1⟩ := trod_struct2 Tryd.underlying23 h
  rw [Tryd.cellsVec] at hsz
  match cs, hsz with
  | [c0, c1], _ =>
    simp only [Tryd.cellsVecI, List.drop_zero, List.drop_succ_cons, List.take_succ_cons, List.take_zero] at h0 h1
    obtain ⟨X, hX, _, _⟩ := DataW.trod_int Tryd.underlying3 h0
    obtain ⟨Y, hY, _, _⟩ := DataW.trod_int Tryd.underlying3 h1
    simp only [List.cons.injEq, and_true] at hX hY
    subst hX; subst hY
    exact ⟨X, Y, rfl⟩
def intOf : Option Value → Int
  | some (.int _ z) => z
  | _ => 0
theorem ints_cells {fuel n : Nat} {t : TypeId} {cs : List Value} {y : DataW H × List MemPlace} (hu : Tryd.prog.underlying t = some (.array n 3)) (hc : Tryd.prog.cellsOf t = n) (h : DataW.trod enc Tryd.prog w base spare held fuel t cs = some y) :
    ∃ b : Nat → Int, cs = arrL n b := by
  obtain ⟨xs, m, rfl, hx, hl, hn, hel⟩ := DataW.trod_array hu h
  rw [hc] at hl
  have key : ∀ i, i < n → ∃ z : Int, cs[i]? = some (.int .i64 z) := by
    intro i hi
    have h2 := hel i hi
    rw [Tryd.cellsVecI, Nat.mul_one, List.getElem?_eq_getElem (by omega)] at h2
    obtain ⟨z, hz, _, _⟩ := DataW.trod_int Tryd.underlying3 h2
    have h3 : cs[i]? = some (.int .i64 z) := by
      have := congrArg (·[0]?) hz
      simpa [List.getElem?_take, List.getElem?_drop] using this
    exact ⟨z, h3⟩
  refine ⟨fun i => intOf cs[i]?, ?_⟩
  apply List.ext_getElem?
  intro i
  by_cases hi : i < n
  · obtain ⟨z, hz⟩ := key i hi
    rw [hz, arrL_at hi]
    show some (Value.int .i64 z) = some (Value.int .i64 (intOf cs[i]?))
    rw [hz]; rfl
  · rw [List.getElem?_eq_none (by omega), List.getElem?_eq_none (by rw [arrL_length]; omega)]
theorem choice_cells {fuel : Nat} {cs : List Value} {y : DataW H × List MemPlace} (h : DataW.trod enc Tryd.prog w base spare held fuel 27 cs = some y) : ∃ c : Ch, cs = chV c := by
  obtain ⟨y0, y1, y2, y3, n, _, hsz, h0, h1, h2, h3⟩ := trod_struct4 Tryd.underlying27 h
  rw [Tryd.cellsCh] at hsz
  simp only [Tryd.cellsVecI, Tryd.cellsVec, Tryd.cellsChB] at h0 h1 h2 h3
  obtain ⟨m, hm, _, _⟩ := DataW.trod_int Tryd.underlying3 h0
  obtain ⟨px, py, hp⟩ := vec_cells2 h1
  obtain ⟨nx, ny, hn⟩ := vec_cells2 h2
  obtain ⟨b, hb⟩ := ints_cells Tryd.underlying25 Tryd.cellsChB h3
  refine ⟨⟨m, px, py, nx, ny, b⟩, ?_⟩
  have e1 : cs = cs.take 1 ++ cs.drop 1 := (List.take_append_drop 1 cs).symm
  have e2 : cs.drop 1 = (cs.drop 1).take 2 ++ cs.drop 3 := by rw [show cs.drop 3 = (cs.drop 1).drop 2 by rw [List.drop_drop]]; exact (List.take_append_drop 2 _).symm
  have e3 : cs.drop 3 = (cs.drop 3).take 2 ++ cs.drop 5 := by rw [show cs.drop 5 = (cs.drop 3).drop 2 by rw [List.drop_drop]]; exact (List.take_append_drop 2 _).symm
  have e4 : cs.drop 5 = (cs.drop 5).take 16 := (List.take_of_length_le (by rw [List.length_drop]; omega)).symm
  simp only [List.drop_zero] at hm
  rw [e1, e2, e3, e4, hm, hp, hn, hb]
  rfl
theorem choice_open {r : Reach} {b0 : Nat} {v : Value} {d : DataW H} {ps : List MemPlace} (hval : Value.okWide Tryd.prog w r b0 27 v) (h : DataW.Trod enc Tryd.prog w base spare held 27 v d ps) :
    ∃ c : Ch, v = .agg (chV c).toArray := by
  obtain ⟨cs, rfl, hsz⟩ := okWide_struct Tryd.underlying27 hval
  obtain ⟨cs⟩ := cs
  obtain ⟨fuel, hf⟩ := h
  obtain ⟨c, hc⟩ := choice_cells (cs := cs) hf
  exact ⟨c, by rw [hc]⟩
end
end Go.Proofs.YtdcbabgcbkdlhaaDoor
