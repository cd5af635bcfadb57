/- What BlockRefuses reaches of my texts, part 5. -/
import Derived.Test.YtdcbabgcbkdlhaaDoorBlockRefusesD
set_option maxRecDepth 100000
set_option maxRecDepth 100000
namespace Go.Proofs.YtdcbabgcbkdlhaaDoor
open Go.RowKit

def c12 : Ch := ⟨4, 2, 0, 0, 0, blL [3]⟩
set_option maxRecDepth 100000 in
theorem awake12 : chE 1 c12 = 0 ∧ chE 0 ⟨4, 0, 0, 0, 0, fun _ => 0⟩ = 120 ∧ chE 1 ⟨4, 0, 0, 0, 0, fun _ => 0⟩ = 0 ∧ buB (blL [100]) (blL [16]) 0 0 = 101 ∧ buB (blL [100]) (blL [16]) 0 5 = 1 ∧ ern 0 = 0 := by
  refine ⟨?_, ?_, ?_, ?_, ?_, ?_⟩ <;> decide +kernel
theorem awake12b : ∃ d, rdCh (pack (wrCh 1 c12 0 0 0 0)) 1 0 0 0 0 (some 0) = (d, 0, some (wrCh 1 c12 0 0 0 0).length) ∧ sameCh d c12 = true := by
  have h := awake12.1
  have e : wrCh 1 c12 0 0 0 0 = chBits c12 0 0 0 0 := if_pos h
  rw [e]
  have := ch_back (l := pack (chBits c12 0 0 0 0)) (a := 0) h (bitsAt_pack _)
  rwa [Nat.zero_add] at this

set_option maxHeartbeats 4000000 in
set_option maxRecDepth 100000 in
theorem bawake_any (w0 : World) (hA : ActsIn w0) (hO : ScanIn w0) (hs : StepsAt w0) (hw : Waves w0) :
  Calls Tryd.prog 9 #[] w0 fun e w' => e = .returned (.bool true) ∧ Kept (fun _ => False) w0 w' := by
 refine calls_wq (args := []) 98 Tryd.func9 rfl rfl (Nat.le_of_ble_eq_true rfl) ?_
 have K0 := Kept.refl (fun _ => False) w0
 have hf := Lib.hid awake12
 have hlen := wrCh_short 1 c12 0 0 0 0
 obtain ⟨d0, hd⟩ := awake12b
 obtain ⟨b0, hb0⟩ : ∃ b0, b0 = wrCh 1 c12 0 0 0 0 := ⟨_, rfl⟩
 rw [← hb0] at hd hlen
 have hd0 := Lib.hid hd
 clear hd
 refine wq_seq ?_
 refine wq_region ?_
 refine wl_v (.bool false) rfl rfl (y_asg rfl rfl ⟨rfl, rfl⟩) ?_
 refine wl_nil fun F1 hF2 => ?_
 have s3 : F1 98 = undef := (hF2 98).trans rfl
 clear hF2
 refine then_normal ?_
 refine wq_seq ?_
 refine wq_region ?_
 refine wl_call (R := fun v_ w_ => v_ = .tuple #[.bool (pastB (4)), .bool (nextB (4))] ∧ Kept (fun _ => False) w0 w_) rfl rfl (y_cs rfl rfl rfl (fun _ _ => by kernel_rfl) (ev_func _) (vsC rfl vsN) (bl_vectors (4)  _ (hA.all K0)  ) (fun e_ w_ h_ => ⟨_, h_.1, rfl, h_.2⟩)) ?_
 rintro _ w4 ⟨rfl, k5⟩
 have K6 := K0.trans k5 (fun _ _ x => x.elim)
 refine wl_v (.tuple #[.bool (pastB (4)), .bool (nextB (4))]) rfl rfl (y_mov rfl rfl ⟨rfl, rfl⟩) ?_
 refine wl_v (.bool (pastB (4))) rfl rfl (y_ext rfl rfl rfl ⟨rfl, rfl⟩) ?_
 refine wl_v (.bool (nextB (4))) rfl rfl (y_ext rfl rfl rfl ⟨rfl, rfl⟩) ?_
 refine wl_v (.bool (pastB (4))) rfl rfl (y_asg rfl rfl ⟨rfl, rfl⟩) ?_
 refine wl_v (.bool (nextB (4))) rfl rfl (y_asg rfl rfl ⟨rfl, rfl⟩) ?_
 refine wl_nil fun F7 hF8 => ?_
 have s9 := (hF8 98).trans s3
 have s10 : F7 1 = .bool (pastB (4)) := (hF8 1).trans rfl
 have s11 : F7 2 = .bool (nextB (4)) := (hF8 2).trans rfl
 clear hF8
 refine then_normal ?_
 refine wq_seq ?_
 refine wq_region ?_
 refine wl_call (R := fun v_ w_ => v_ = .tuple #[.bool (pastB (6)), .bool (nextB (6))] ∧ Kept (fun _ => False) w4 w_) rfl rfl (y_cs rfl rfl rfl (fun _ _ => by kernel_rfl) (ev_func _) (vsC rfl vsN) (bl_vectors (6)  _ (hA.all K6)  ) (fun e_ w_ h_ => ⟨_, h_.1, rfl, h_.2⟩)) ?_
 rintro _ w12 ⟨rfl, k13⟩
 have K14 := K6.trans k13 (fun _ _ x => x.elim)
 refine wl_v (.tuple #[.bool (pastB (6)), .bool (nextB (6))]) rfl rfl (y_mov rfl rfl ⟨rfl, rfl⟩) ?_
 refine wl_v (.bool (pastB (6))) rfl rfl (y_ext rfl rfl rfl ⟨rfl, rfl⟩) ?_
 refine wl_v (.bool (nextB (6))) rfl rfl (y_ext rfl rfl rfl ⟨rfl, rfl⟩) ?_
 refine wl_v (.bool (pastB (6))) rfl rfl (y_asg rfl rfl ⟨rfl, rfl⟩) ?_
 refine wl_v (.bool (nextB (6))) rfl rfl (y_asg rfl rfl ⟨rfl, rfl⟩) ?_
 refine wl_nil fun F15 hF16 => ?_
 have s17 := (hF16 98).trans s9
 have s18 := (hF16 1).trans s10
 have s19 := (hF16 2).trans s11
 have s20 : F15 3 = .bool (pastB (6)) := (hF16 3).trans rfl
 have s21 : F15 4 = .bool (nextB (6)) := (hF16 4).trans rfl
 clear hF16
 refine then_normal ?_
 refine wq_seq ?_
 refine wq_region ?_
 refine wl_v (.agg #[.slice none 0 0, .int .i64 0]) rfl rfl (y_buildR (cells := #[.slice none 0 0, .int .i64 0]) rfl (by kernel_rfl) rfl ⟨rfl, rfl⟩) ?_
 refine wl_box_wri rfl rfl rfl rfl fun p22 w23 T27 B26 g28 k24 => ?_
 have gr29 : Grew w0 noB (T27) := Grew.new K14 g28
 have K30 := K14.trans k24 (fun _ _ x => x.elim)
 refine wl_v (.pointer (some ⟨p22, 0, none⟩)) rfl rfl (y_asg rfl rfl ⟨rfl, rfl⟩) ?_
 refine wl_nil fun F31 hF32 => ?_
 have s33 := (hF32 98).trans s17
 have s34 := (hF32 1).trans s18
 have s35 := (hF32 2).trans s19
 have s36 := (hF32 3).trans s20
 have s37 := (hF32 4).trans s21
 have s38 : F31 5 = .pointer (some ⟨p22, 0, none⟩) := (hF32 5).trans rfl
 clear hF32
 refine then_normal ?_
 refine wq_seq ?_
 refine wq_region ?_
 refine wl_v (.agg #[.int .i64 (2), .int .i64 (0)]) rfl rfl (y_buildL (l' := [(0, .int .i64 (2))]) (cells := #[.int .i64 (2), .int .i64 (0)]) rfl (bpC rfl bpN) (by kernel_rfl) rfl ⟨rfl, rfl⟩) ?_
 refine wl_v (blkV (blL [3])) rfl rfl (y_buildR (cells := (arrL 16 (blL [3])).toArray) rfl (by kernel_rfl) rfl ⟨rfl, rfl⟩) ?_
 refine wl_v (.agg (chL 4 2 0 0 0 (blL [3])).toArray) rfl rfl (y_buildL (l' := [(0, .int .i64 (4)), (1, .agg #[.int .i64 (2), .int .i64 (0)]), (3, blkV (blL [3]))]) (cells := (chL 4 2 0 0 0 (blL [3])).toArray) rfl (bpC rfl (bpC rfl (bpC rfl bpN))) (by kernel_rfl) rfl ⟨rfl, rfl⟩) ?_
 refine wl_alloc_stc (n := 21) (vs := (chL 0 0 0 0 0 (fun _ => (0 : Int)))) rfl rfl rfl (by kernel_rfl) fun p39 w40 B42 g43 k41 => ?_
 have gr44 : Grew w0 noB (onB p39) := Grew.new K30 g43
 have ap45 : Apart (onB p39) (T27) := Apart.new g43 (B26).live
 have B46 := B26.all k41 Apart.none
 have K47 := K30.trans k41 (fun _ _ x => x.elim)
 refine wl_store_stc (us := (chL 4 2 0 0 0 (blL [3]))) stcT_choice rfl rfl rfl rfl rfl B42 rfl (oneI rfl (oneI rfl (oneI rfl (oneI rfl (oneI rfl (oneI rfl (oneI rfl (oneI rfl (oneI rfl (oneI rfl (oneI rfl (oneI rfl (oneI rfl (oneI rfl (oneI rfl (oneI rfl (oneI rfl (oneI rfl (oneI rfl (oneI rfl (oneI rfl oneN))))))))))))))))))))) fun w48 B49 k50 => ?_
 have B51 := B46.all k50 (fun i h x => (((ap45).symm) i h x))
 have K52 := K47.trans k50 (Grew.ok (S := fun _ => False) gr44 noB_le)
 refine wl_nil fun F53 hF54 => ?_
 have s55 := (hF54 98).trans s33
 have s56 := (hF54 1).trans s34
 have s57 := (hF54 2).trans s35
 have s58 := (hF54 3).trans s36
 have s59 := (hF54 4).trans s37
 have s60 := (hF54 5).trans s38
 have s61 : F53 6 = .pointer (some ⟨p39, 0, none⟩) := (hF54 6).trans rfl
 clear hF54
 refine then_normal ?_
 refine wq_seq ?_
 refine wq_region ?_
 refine wl_v (.pointer (some ⟨p22, 0, none⟩)) rfl rfl (y_mov rfl s60 ⟨rfl, rfl⟩) ?_
 refine wl_v (.agg (chL 4 2 0 0 0 (blL [3])).toArray) rfl rfl (y_load_stc stcT_choice rfl s61 B49 ⟨rfl, rfl⟩) ?_
 refine wl_v (.agg #[.int .i64 (0), .int .i64 (0)]) rfl rfl (y_buildL (l' := []) (cells := #[.int .i64 (0), .int .i64 (0)]) rfl bpN (by kernel_rfl) rfl ⟨rfl, rfl⟩) ?_
 refine wl_v (.agg #[.int .i64 (0), .int .i64 (0)]) rfl rfl (y_buildL (l' := []) (cells := #[.int .i64 (0), .int .i64 (0)]) rfl bpN (by kernel_rfl) rfl ⟨rfl, rfl⟩) ?_
 refine wl_call (R := fun v_ w_ => ∃ (T64 : Nat → Prop), .int .i64 (chE (1) (Ch.mk (4) (2) (0) (0) (0) (blL [3]))) = v_ ∧ Kept (T27) w48 w_ ∧ (Wri w_ T64 p22 ((([] : List Bool)) ++ wrCh (1) (Ch.mk (4) (2) (0) (0) (0) (blL [3])) (0) (0) (0) (0)) ∧ Grew w48 (T27) T64)) rfl rfl (y_cs rfl rfl rfl (fun _ _ => by kernel_rfl) (ev_func _) (vsC rfl (vsC rfl (vsC rfl (vsC rfl (vsC rfl vsN))))) (bl_write (p22) (([] : List Bool)) (1) (Ch.mk (4) (2) (0) (0) (0) (blL [3])) (0) (0) (0) (0) (T27) _ (hA.all K52) (hO.all K52) (aboveN gr29 hA) (by first | decide | (simp; omega) | simp) B51 ) (fun e_ w_ h_ => by obtain ⟨T64_, he_, hr_⟩ := h_; exact ⟨_, he_, T64_, rfl, hr_⟩)) ?_
 rintro _ w62 ⟨T64, rfl, k63, ⟨B65, g66⟩⟩
 have B67 := B49.all k63 (fun x => ((ap45) p39 rfl x))
 have K68 := K52.trans k63 (fun i hi x => ((Grew.ok (S := fun _ => False) gr29 noB_le) i hi x))
 refine wl_v (.int .i64 (chE (1) (Ch.mk (4) (2) (0) (0) (0) (blL [3])))) rfl rfl (y_asg rfl rfl ⟨rfl, rfl⟩) ?_
 refine wl_nil fun F71 hF72 => ?_
 have s73 := (hF72 98).trans s55
 have s74 := (hF72 1).trans s56
 have s75 := (hF72 2).trans s57
 have s76 := (hF72 3).trans s58
 have s77 := (hF72 4).trans s59
 have s78 := (hF72 5).trans s60
 have s79 := (hF72 6).trans s61
 have s80 : F71 7 = .int .i64 (chE (1) (Ch.mk (4) (2) (0) (0) (0) (blL [3]))) := (hF72 7).trans rfl
 clear hF72
 refine then_normal ?_
 refine wq_seq ?_
 have B81 : Wri w62 (T64) p22 (b0) := ((by rw [hb0]; exact B65))
 refine wq_region ?_
 refine wl_v (.pointer (some ⟨p22, 0, none⟩)) rfl rfl (y_mov rfl s78 ⟨rfl, rfl⟩) ?_
 refine wl_call (R := fun v_ w_ => ∃ (v82 : Value) (T85 : Nat → Prop), v82 = v_ ∧ Kept (fun _ => False) w62 w_ ∧ (Byt w_ T85 v82 (pack (b0)) ∧ Grew w62 noB T85)) rfl rfl (y_cs rfl rfl rfl (fun _ _ => by kernel_rfl) (ev_func _) (vsC rfl vsN) (t_bytes (p22) (b0) (T64) _ (by omega) B81 ) (fun e_ w_ h_ => by obtain ⟨v82_, T85_, he_, hr_⟩ := h_; exact ⟨_, he_, v82_, T85_, rfl, hr_⟩)) ?_
 rintro _ w83 ⟨v82, T85, rfl, k84, ⟨B86, g87⟩⟩
 have B89 := B67.all k84 id
 have K90 := K68.trans k84 (fun _ _ x => x.elim)
 refine wl_call (R := fun v_ w_ => ∃ (v94 : Nat) (T97 : Nat → Prop), .pointer (some ⟨v94, 0, none⟩) = v_ ∧ Kept (fun _ => False) w83 w_ ∧ (Rdi w_ T97 v94 ((pack (b0))) (some 0) ∧ Grew w83 noB T97)) rfl rfl (y_cs rfl rfl rfl (fun _ _ => by kernel_rfl) (ev_func _) (vsC rfl vsN) (t_new (v82) (pack (b0)) (T85) _ (by rw [pack_length]; unfold nbytes; omega) B86 ) (fun e_ w_ h_ => by obtain ⟨v94_, T97_, he_, hr_⟩ := h_; exact ⟨_, he_, v94_, T97_, rfl, hr_⟩)) ?_
 rintro _ w95 ⟨v94, T97, rfl, k96, ⟨B98, g99⟩⟩
 have B101 := B89.all k96 id
 have K103 := K90.trans k96 (fun _ _ x => x.elim)
 have gr104 : Grew w0 noB (T97) := Grew.new K90 g99
 have ap106 : Apart (T97) (onB p39) := Apart.new g99 (onB_live (B89).lt)
 refine wl_v (.agg #[.int .i64 (0), .int .i64 (0)]) rfl rfl (y_buildL (l' := []) (cells := #[.int .i64 (0), .int .i64 (0)]) rfl bpN (by kernel_rfl) rfl ⟨rfl, rfl⟩) ?_
 refine wl_v (.agg #[.int .i64 (0), .int .i64 (0)]) rfl rfl (y_buildL (l' := []) (cells := #[.int .i64 (0), .int .i64 (0)]) rfl bpN (by kernel_rfl) rfl ⟨rfl, rfl⟩) ?_
 refine wl_call (R := fun v_ w_ => ∃ (T110 : Nat → Prop), .tuple #[.agg (chW ((rdCh ((pack (b0))) (1) (0) (0) (0) (0) (some 0)).1)).toArray, .int .i64 ((rdCh ((pack (b0))) (1) (0) (0) (0) (0) (some 0)).2.1)] = v_ ∧ Kept (T97) w95 w_ ∧ (Rdi w_ T110 v94 (((pack (b0)))) (rdChT ((pack (b0))) (1) (0) (0) (0) (0) (some 0)) ∧ Grew w95 (T97) T110)) rfl rfl (y_cs rfl rfl rfl (fun _ _ => by kernel_rfl) (ev_func _) (vsC rfl (vsC rfl (vsC rfl (vsC rfl vsN)))) (bl_read (v94) ((pack (b0))) (some 0) (1) (0) (0) (0) (0) (T97) _ (hA.all K103) (hO.all K103) (aboveN gr104 hA) B98 ) (fun e_ w_ h_ => by obtain ⟨T110_, he_, hr_⟩ := h_; exact ⟨_, he_, T110_, rfl, hr_⟩)) ?_
 rintro _ w108 ⟨T110, rfl, k109, ⟨B111, g112⟩⟩
 have B114 := B101.all k109 (fun x => (((ap106).symm) p39 rfl x))
 have K116 := K103.trans k109 (fun i hi x => ((Grew.ok (S := fun _ => False) gr104 noB_le) i hi x))
 refine wl_v (.tuple #[.agg (chW ((rdCh ((pack (b0))) (1) (0) (0) (0) (0) (some 0)).1)).toArray, .int .i64 ((rdCh ((pack (b0))) (1) (0) (0) (0) (0) (some 0)).2.1)]) rfl rfl (y_mov rfl rfl ⟨rfl, rfl⟩) ?_
 refine wl_v (.agg (chW ((rdCh ((pack (b0))) (1) (0) (0) (0) (0) (some 0)).1)).toArray) rfl rfl (y_ext rfl rfl rfl ⟨rfl, rfl⟩) ?_
 refine wl_v (.int .i64 ((rdCh ((pack (b0))) (1) (0) (0) (0) (0) (some 0)).2.1)) rfl rfl (y_ext rfl rfl rfl ⟨rfl, rfl⟩) ?_
 refine wl_alloc_stc (n := 21) (vs := (chL 0 0 0 0 0 (fun _ => (0 : Int)))) rfl rfl rfl (by kernel_rfl) fun p121 w122 B124 g125 k123 => ?_
 have gr126 : Grew w0 noB (onB p121) := Grew.new K116 g125
 have ap128 : Apart (onB p121) (onB p39) := Apart.new g125 (onB_live (B114).lt)
 have B132 := B114.all k123 id
 have K135 := K116.trans k123 (fun _ _ x => x.elim)
 refine wl_store_stc (us := (chW ((rdCh ((pack (b0))) (1) (0) (0) (0) (0) (some 0)).1))) stcT_choice rfl rfl rfl rfl rfl B124 rfl (oneI rfl (oneI rfl (oneI rfl (oneI rfl (oneI rfl (oneI rfl (oneI rfl (oneI rfl (oneI rfl (oneI rfl (oneI rfl (oneI rfl (oneI rfl (oneI rfl (oneI rfl (oneI rfl (oneI rfl (oneI rfl (oneI rfl (oneI rfl (oneI rfl oneN))))))))))))))))))))) fun w136 B137 k138 => ?_
 have B140 := B132.all k138 (fun x => (((ap128).symm) p39 rfl x))
 have K143 := K135.trans k138 (Grew.ok (S := fun _ => False) gr126 noB_le)
 refine wl_v (.int .i64 ((rdCh ((pack (b0))) (1) (0) (0) (0) (0) (some 0)).2.1)) rfl rfl (y_asg rfl rfl ⟨rfl, rfl⟩) ?_
 refine wl_nil fun F144 hF145 => ?_
 have s146 := (hF145 98).trans s73
 have s147 := (hF145 1).trans s74
 have s148 := (hF145 2).trans s75
 have s149 := (hF145 3).trans s76
 have s150 := (hF145 4).trans s77
 have s151 := (hF145 6).trans s79
 have s152 := (hF145 7).trans s80
 have s153 : F144 8 = .pointer (some ⟨p121, 0, none⟩) := (hF145 8).trans rfl
 have s154 : F144 9 = .int .i64 ((rdCh ((pack (b0))) (1) (0) (0) (0) (0) (some 0)).2.1) := (hF145 9).trans rfl
 clear hF145
 refine then_normal ?_
 refine wq_seq ?_
 refine wq_region ?_
 refine wl_v (blkV (blL [100])) rfl rfl (y_buildR (cells := (arrL 16 (blL [100])).toArray) rfl (by kernel_rfl) rfl ⟨rfl, rfl⟩) ?_
 refine wl_v (blkV (blL [16])) rfl rfl (y_buildR (cells := (arrL 16 (blL [16])).toArray) rfl (by kernel_rfl) rfl ⟨rfl, rfl⟩) ?_
 refine wl_v (.agg (chL 0 0 0 0 0 (blL [16])).toArray) rfl rfl (y_buildL (l' := [(3, blkV (blL [16]))]) (cells := (chL 0 0 0 0 0 (blL [16])).toArray) rfl (bpC rfl bpN) (by kernel_rfl) rfl ⟨rfl, rfl⟩) ?_
 refine wl_call (R := fun v_ w_ => v_ = .tuple #[blkV (buB (blL [100]) (Ch.mk (0) (0) (0) (0) (0) (blL [16])).b (0)), .int .i64 (ern (0))] ∧ Kept (fun _ => False) w136 w_) rfl rfl (y_cs rfl rfl rfl (fun _ _ => by kernel_rfl) (ev_func _) (vsC rfl (vsC rfl (vsC rfl vsN))) (bl_build (blL [100]) (Ch.mk (0) (0) (0) (0) (0) (blL [16])) (0)  _ (hs.all K143) (hw.all K143)  ) (fun e_ w_ h_ => ⟨_, h_.1, rfl, h_.2⟩)) ?_
 rintro _ w155 ⟨rfl, k156⟩
 have B158 := B140.all k156 id
 have B161 := B137.all k156 id
 have K162 := K143.trans k156 (fun _ _ x => x.elim)
 refine wl_v (.tuple #[blkV (buB (blL [100]) (Ch.mk (0) (0) (0) (0) (0) (blL [16])).b (0)), .int .i64 (ern (0))]) rfl rfl (y_mov rfl rfl ⟨rfl, rfl⟩) ?_
 refine wl_v (blkV (buB (blL [100]) (Ch.mk (0) (0) (0) (0) (0) (blL [16])).b (0))) rfl rfl (y_ext rfl rfl rfl ⟨rfl, rfl⟩) ?_
 refine wl_v (.int .i64 (ern (0))) rfl rfl (y_ext rfl rfl rfl ⟨rfl, rfl⟩) ?_
 refine wl_alloc_blk rfl rfl rfl blkT_block.2.2 fun p163 w164 e167 B165 k166 => ?_
 have g168 := onB_new (Nat.le_of_eq e167.symm)
 have gr169 : Grew w0 noB (onB p163) := Grew.new K162 g168
 have ap171 : Apart (onB p163) (onB p39) := Apart.new g168 (onB_live (B158).lt)
 have ap174 : Apart (onB p163) (onB p121) := Apart.new g168 (onB_live (B161).lt)
 clear e167 g168
 have B176 := B158.all k166 id
 have B179 := B161.all k166 id
 have K180 := K162.trans k166 (fun _ _ x => x.elim)
 refine wl_store_blk blkT_block rfl rfl rfl rfl rfl B165 fun w181 B182 k183 => ?_
 have B185 := B176.all k183 (fun x => (((ap171).symm) p39 rfl x))
 have B188 := B179.all k183 (fun x => (((ap174).symm) p121 rfl x))
 have K189 := K180.trans k183 (Grew.ok (S := fun _ => False) gr169 noB_le)
 refine wl_v (.int .i64 (ern (0))) rfl rfl (y_asg rfl rfl ⟨rfl, rfl⟩) ?_
 refine wl_nil fun F190 hF191 => ?_
 have s192 := (hF191 98).trans s146
 have s193 := (hF191 1).trans s147
 have s194 := (hF191 2).trans s148
 have s195 := (hF191 3).trans s149
 have s196 := (hF191 4).trans s150
 have s197 := (hF191 6).trans s151
 have s198 := (hF191 7).trans s152
 have s199 := (hF191 8).trans s153
 have s200 := (hF191 9).trans s154
 have s201 : F190 10 = .pointer (some ⟨p163, 0, none⟩) := (hF191 10).trans rfl
 have s202 : F190 11 = .int .i64 (ern (0)) := (hF191 11).trans rfl
 clear hF191
 refine then_normal ?_
 refine wq_seq ?_
 have s203 : F190 1 = .bool true := s193.trans (congrArg Value.bool ((by decide)))
 have s204 : F190 2 = .bool false := s194.trans (congrArg Value.bool ((by decide)))
 have s205 : F190 3 = .bool true := s195.trans (congrArg Value.bool ((by decide)))
 have s206 : F190 4 = .bool true := s196.trans (congrArg Value.bool ((by decide)))
 refine wq_region ?_
 refine wl_v (.bool true) rfl rfl (y_mov rfl s203 ⟨rfl, rfl⟩) ?_
 refine wl_v (.bool true) rfl rfl (y_mov rfl rfl ⟨rfl, rfl⟩) ?_
 refine wl_vw (.bool false) 1 true 47 rfl rfl rfl rfl rfl (y_mov rfl s204 ⟨rfl, rfl⟩) ?_
 refine wl_vw (.bool true) 1 true 47 rfl rfl rfl rfl rfl (y_not rfl rfl rfl ⟨rfl, rfl⟩) ?_
 refine wl_v (.bool true) rfl rfl (y_pickT rfl rfl rfl ⟨rfl, rfl⟩) ?_
 refine wl_v (.bool true) rfl rfl (y_mov rfl rfl ⟨rfl, rfl⟩) ?_
 refine wl_vw (.bool true) 5 true 51 rfl rfl rfl rfl rfl (y_mov rfl s205 ⟨rfl, rfl⟩) ?_
 refine wl_v (.bool true) rfl rfl (y_pickT rfl rfl rfl ⟨rfl, rfl⟩) ?_
 refine wl_v (.bool true) rfl rfl (y_mov rfl rfl ⟨rfl, rfl⟩) ?_
 refine wl_vw (.bool true) 8 true 54 rfl rfl rfl rfl rfl (y_mov rfl s206 ⟨rfl, rfl⟩) ?_
 refine wl_v (.bool true) rfl rfl (y_pickT rfl rfl rfl ⟨rfl, rfl⟩) ?_
 refine wl_v (.bool true) rfl rfl (y_mov rfl rfl ⟨rfl, rfl⟩) ?_
 refine wl_vw (.agg (chL 4 0 0 0 0 (fun _ => (0 : Int))).toArray) 11 true 57 rfl rfl rfl rfl rfl (y_buildL (l' := [(0, .int .i64 (4))]) (cells := (chL 4 0 0 0 0 (fun _ => (0 : Int))).toArray) rfl (bpC rfl bpN) (by kernel_rfl) rfl ⟨rfl, rfl⟩) ?_
 refine wl_callw (R := fun v_ w_ => v_ = .int .i64 (chE (0) (Ch.mk (4) (0) (0) (0) (0) (fun _ => (0 : Int)))) ∧ Kept (fun _ => False) w181 w_) 11 true 57 rfl rfl rfl rfl rfl (y_cs rfl rfl rfl (fun _ _ => by kernel_rfl) (ev_func _) (vsC rfl (vsC rfl vsN)) (bl_check (0) (Ch.mk (4) (0) (0) (0) (0) (fun _ => (0 : Int)))  _ (hA.all K189)  ) (fun e_ w_ h_ => ⟨_, h_.1, rfl, h_.2⟩)) ?_
 rintro _ w207 ⟨rfl, k208⟩
 have B210 := B185.all k208 id
 have B213 := B188.all k208 id
 have B214 := B182.all k208 id
 have K215 := K189.trans k208 (fun _ _ x => x.elim)
 refine wl_vw (.bool true) 11 true 57 rfl rfl rfl rfl rfl (y_eqlI rfl rfl rfl (decide_eq_true hf.out.2.1) ⟨rfl, rfl⟩) ?_
 refine wl_v (.bool true) rfl rfl (y_pickT rfl rfl rfl ⟨rfl, rfl⟩) ?_
 refine wl_v (.bool true) rfl rfl (y_mov rfl rfl ⟨rfl, rfl⟩) ?_
 refine wl_vw (.agg (chL 4 0 0 0 0 (fun _ => (0 : Int))).toArray) 16 true 62 rfl rfl rfl rfl rfl (y_buildL (l' := [(0, .int .i64 (4))]) (cells := (chL 4 0 0 0 0 (fun _ => (0 : Int))).toArray) rfl (bpC rfl bpN) (by kernel_rfl) rfl ⟨rfl, rfl⟩) ?_
 refine wl_callw (R := fun v_ w_ => v_ = .int .i64 (chE (1) (Ch.mk (4) (0) (0) (0) (0) (fun _ => (0 : Int)))) ∧ Kept (fun _ => False) w207 w_) 16 true 62 rfl rfl rfl rfl rfl (y_cs rfl rfl rfl (fun _ _ => by kernel_rfl) (ev_func _) (vsC rfl (vsC rfl vsN)) (bl_check (1) (Ch.mk (4) (0) (0) (0) (0) (fun _ => (0 : Int)))  _ (hA.all K215)  ) (fun e_ w_ h_ => ⟨_, h_.1, rfl, h_.2⟩)) ?_
 rintro _ w216 ⟨rfl, k217⟩
 have B219 := B210.all k217 id
 have B222 := B213.all k217 id
 have B223 := B214.all k217 id
 have K224 := K215.trans k217 (fun _ _ x => x.elim)
 refine wl_vw (.bool true) 16 true 62 rfl rfl rfl rfl rfl (y_eqlI rfl rfl rfl (decide_eq_true hf.out.2.2.1) ⟨rfl, rfl⟩) ?_
 refine wl_v (.bool true) rfl rfl (y_pickT rfl rfl rfl ⟨rfl, rfl⟩) ?_
 refine wl_v (.bool true) rfl rfl (y_mov rfl rfl ⟨rfl, rfl⟩) ?_
 refine wl_vw (.int .i64 (chE (1) (Ch.mk (4) (2) (0) (0) (0) (blL [3])))) 21 true 67 rfl rfl rfl rfl rfl (y_mov rfl s198 ⟨rfl, rfl⟩) ?_
 refine wl_vw (.bool true) 21 true 67 rfl rfl rfl rfl rfl (y_eqlI rfl rfl rfl (decide_eq_true hf.out.1) ⟨rfl, rfl⟩) ?_
 refine wl_v (.bool true) rfl rfl (y_pickT rfl rfl rfl ⟨rfl, rfl⟩) ?_
 refine wl_v (.bool true) rfl rfl (y_mov rfl rfl ⟨rfl, rfl⟩) ?_
 refine wl_vw (.agg (chW ((rdCh ((pack (b0))) (1) (0) (0) (0) (0) (some 0)).1)).toArray) 25 true 71 rfl rfl rfl rfl rfl (y_load_stc stcT_choice rfl s199 B222 ⟨rfl, rfl⟩) ?_
 refine wl_vw (.agg (chL 4 2 0 0 0 (blL [3])).toArray) 25 true 71 rfl rfl rfl rfl rfl (y_load_stc stcT_choice rfl s197 B219 ⟨rfl, rfl⟩) ?_
 refine wl_vw (.bool true) 25 true 71 rfl rfl rfl rfl rfl (y_eqlCh (c := (rdCh ((pack (b0))) (1) (0) (0) (0) (0) (some 0)).1) (d := Ch.mk (4) (2) (0) (0) (0) (blL [3])) rfl rfl rfl ((by rw [hd0.out.1]; exact hd0.out.2)) ⟨rfl, rfl⟩) ?_
 refine wl_v (.bool true) rfl rfl (y_pickT rfl rfl rfl ⟨rfl, rfl⟩) ?_
 refine wl_v (.bool true) rfl rfl (y_mov rfl rfl ⟨rfl, rfl⟩) ?_
 refine wl_vw (.int .i64 ((rdCh ((pack (b0))) (1) (0) (0) (0) (0) (some 0)).2.1)) 30 true 76 rfl rfl rfl rfl rfl (y_mov rfl s200 ⟨rfl, rfl⟩) ?_
 refine wl_vw (.bool true) 30 true 76 rfl rfl rfl rfl rfl (y_eqlI rfl rfl rfl (decide_eq_true (by rw [hd0.out.1])) ⟨rfl, rfl⟩) ?_
 refine wl_v (.bool true) rfl rfl (y_pickT rfl rfl rfl ⟨rfl, rfl⟩) ?_
 refine wl_v (.bool true) rfl rfl (y_mov rfl rfl ⟨rfl, rfl⟩) ?_
 refine wl_vw (.pointer (some ⟨p163, 0, none⟩)) 34 true 80 rfl rfl rfl rfl rfl (y_atR (0) (s := 1) rfl s201 rfl (by omega) Tryd.underlying25 (by omega) (by kernel_rfl) (by omega) ⟨rfl, rfl⟩) ?_
 refine wl_vw (.int .i64 ((buB (blL [100]) (Ch.mk (0) (0) (0) (0) (0) (blL [16])).b (0)) (0))) 34 true 80 rfl rfl rfl rfl rfl (y_ldR rfl rfl Tryd.underlying3 ((B223).cell (by omega)) ⟨rfl, rfl⟩) ?_
 refine wl_vw (.bool true) 34 true 80 rfl rfl rfl rfl rfl (y_eqlI rfl rfl rfl (decide_eq_true hf.out.2.2.2.1) ⟨rfl, rfl⟩) ?_
 refine wl_v (.bool true) rfl rfl (y_pickT rfl rfl rfl ⟨rfl, rfl⟩) ?_
 refine wl_v (.bool true) rfl rfl (y_mov rfl rfl ⟨rfl, rfl⟩) ?_
 refine wl_vw (.pointer (some ⟨p163, 5, none⟩)) 39 true 85 rfl rfl rfl rfl rfl (y_atR (5) (s := 1) rfl s201 rfl (by omega) Tryd.underlying25 (by omega) (by kernel_rfl) (by omega) ⟨rfl, rfl⟩) ?_
 refine wl_vw (.int .i64 ((buB (blL [100]) (Ch.mk (0) (0) (0) (0) (0) (blL [16])).b (0)) (5))) 39 true 85 rfl rfl rfl rfl rfl (y_ldR rfl rfl Tryd.underlying3 ((B223).cell (by omega)) ⟨rfl, rfl⟩) ?_
 refine wl_vw (.bool true) 39 true 85 rfl rfl rfl rfl rfl (y_eqlI rfl rfl rfl (decide_eq_true hf.out.2.2.2.2.1) ⟨rfl, rfl⟩) ?_
 refine wl_v (.bool true) rfl rfl (y_pickT rfl rfl rfl ⟨rfl, rfl⟩) ?_
 refine wl_v (.bool true) rfl rfl (y_mov rfl rfl ⟨rfl, rfl⟩) ?_
 refine wl_vw (.int .i64 (ern (0))) 44 true 90 rfl rfl rfl rfl rfl (y_mov rfl s202 ⟨rfl, rfl⟩) ?_
 refine wl_vw (.bool true) 44 true 90 rfl rfl rfl rfl rfl (y_eqlI rfl rfl rfl (decide_eq_true hf.out.2.2.2.2.2) ⟨rfl, rfl⟩) ?_
 refine wl_v (.bool true) rfl rfl (y_pickT rfl rfl rfl ⟨rfl, rfl⟩) ?_
 refine wl_v (.bool true) rfl rfl (y_mov rfl rfl ⟨rfl, rfl⟩) ?_
 refine wl_v (.bool true) rfl rfl (y_pickT rfl rfl rfl ⟨rfl, rfl⟩) ?_
 refine wl_v (.bool true) rfl rfl (y_mov rfl rfl ⟨rfl, rfl⟩) ?_
 refine wl_v (.bool true) rfl rfl (y_pickT rfl rfl rfl ⟨rfl, rfl⟩) ?_
 refine wl_v (.bool true) rfl rfl (y_asg rfl rfl ⟨rfl, rfl⟩) ?_
 refine wl_nil fun F225 hF226 => ?_
 have s227 := (hF226 98).trans s192
 have s228 : F225 0 = .bool true := (hF226 0).trans rfl
 clear hF226
 refine then_normal ?_
 refine wq_ret ?_
 exact end_tmp (v := .bool true) s227 rfl rfl s228 ⟨rfl, K224⟩

theorem ern_two (q : Int) : ern q = 0 ↔ 0 ≤ q ∧ q ≤ 20 := ⟨ern_iff, ern_ok⟩
theorem zero_iff (k m : Int) : chE k ⟨m, 0, 0, 0, 0, fun _ => 0⟩ = 0 ↔ 0 ≤ m ∧ m ≤ mostK k :=
  ⟨fun h => (ch_ok h).m, fun h => ch_of ⟨h, fun _ => ⟨rfl, rfl⟩, fun _ => ⟨rfl, rfl⟩, fun _ _ => by show (-1048576 : Int) ≤ 0 ∧ (0 : Int) ≤ 1048576; omega, by show vecOk 0 0; decide, by show vecOk 0 0; decide⟩⟩
theorem both_iff (k m : Int) : chE k ⟨m, 1, 0, 0, 1, fun _ => 0⟩ = 0 ↔ (0 ≤ m ∧ m ≤ mostK k) ∧ pastB m = true ∧ nextB m = true := by
  constructor
  · intro h
    have ho := ch_ok h
    refine ⟨ho.m, ?_, ?_⟩
    · cases hp : pastB m
      · exact absurd (ho.past hp).1 (by show ¬ (1 : Int) = 0; decide)
      · rfl
    · cases hp : nextB m
      · exact absurd (ho.next hp).2 (by show ¬ (1 : Int) = 0; decide)
      · rfl
  · rintro ⟨h1, h2, h3⟩
    refine ch_of ⟨h1, fun z => ?_, fun z => ?_, fun _ _ => by show (-1048576 : Int) ≤ 0 ∧ (0 : Int) ≤ 1048576; omega, by show vecOk 1 0; decide, by show vecOk 0 1; decide⟩
    · rw [show (Ch.mk m 1 0 0 1 fun _ => 0).m = m from rfl, h2] at z; cases z
    · rw [show (Ch.mk m 1 0 0 1 fun _ => 0).m = m from rfl, h3] at z; cases z
theorem wrap_tri {k : Int} (h : 0 ≤ k ∧ k ≤ 2) : IntKind.i64.wrap (k * (k + 1)) = k * (k + 1) ∧ Int.tdiv (k * (k + 1)) 2 = mostK k - 3 := by
  rcases (show k = 0 ∨ k = 1 ∨ k = 2 by omega) with rfl | rfl | rfl <;> exact ⟨by decide, by decide⟩
theorem most_out {k : Int} (h : ¬ (0 ≤ k ∧ k ≤ 2)) : mostK k = -1 := by unfold mostK; rw [if_neg (by omega), if_neg (by omega), if_neg (by omega)]
theorem far_upd (k m : Int) (a n : Nat) (ha : a < 16) : chE k ⟨m, 0, 0, 0, 0, upd (fun _ => 0) a (1048577 + (n : Int))⟩ = 120 :=
  chE_far2 (far_hit (i := a) (.inr (by show 1048576 < upd (fun _ => 0) a (1048577 + (n : Int)) a; rw [show upd (fun _ => 0) a (1048577 + (n : Int)) a = 1048577 + (n : Int) from if_pos rfl]; omega)) 16 ha)
theorem mostK_ge (k : Int) : -1 ≤ mostK k := by unfold mostK; split; omega; split; omega; split <;> omega
theorem ref_eq1 (k m : Int) (h : 0 ≤ m ∧ m ≤ mostK k) (hp : pastB m = true) : (decide (chE k ⟨m, 1, 0, 0, 1, fun _ => 0⟩ = 0) == nextB m) = true := by
  rw [beq_iff_eq]
  cases hn : nextB m with
  | true => exact decide_eq_true ((both_iff k m).2 ⟨h, hp, hn⟩)
  | false => exact decide_eq_false fun z => by have := ((both_iff k m).1 z).2.2; rw [hn] at this; cases this
theorem ref_eq2 (k m : Int) (h : ¬ (0 ≤ m ∧ m ≤ mostK k) ∨ pastB m = false) : (decide (chE k ⟨m, 1, 0, 0, 1, fun _ => 0⟩ = 0) == false) = true := by
  rw [beq_iff_eq]
  refine decide_eq_false fun z => ?_
  rcases h with h | h
  · exact h ((both_iff k m).1 z).1
  · have := ((both_iff k m).1 z).2.1; rw [h] at this; cases this
set_option maxHeartbeats 4000000 in
set_option maxRecDepth 100000 in
theorem brefuses_walk (k m q : Int) (b : Nat → Int) (a n : Nat) (w0 : World) (hA : ActsIn w0) (hO : ScanIn w0) (hs : StepsAt w0) (hw : Waves w0) (ha : a < 256) (hn : n < 65536) :
  Calls Tryd.prog 8 #[.int .i64 (k), .int .i64 (m), .int .i64 (q), blkV (b), .int .u8 (((a : Nat) : Int)), .int .u16 (((n : Nat) : Int))] w0 fun e w' => e = .returned (.bool true) ∧ Kept (fun _ => False) w0 w' := by
 refine calls_wq (args := [.int .i64 (k), .int .i64 (m), .int .i64 (q), blkV (b), .int .u8 (((a : Nat) : Int)), .int .u16 (((n : Nat) : Int))]) 114 Tryd.func8 rfl rfl (Nat.le_of_ble_eq_true rfl) ?_
 have K0 := Kept.refl (fun _ => False) w0
 have hei := ern_two q
 have hzi := zero_iff k m
 have hbi := both_iff k m
 have hm6 := mostK_le k
 have hm7 := mostK_ge k
 obtain ⟨j, hj⟩ : ∃ j, j = a % 16 := ⟨_, rfl⟩
 have hj16 : j < 16 := by omega
 have hfa := far_upd k m j n hj16
 refine wq_seq ?_
 refine wq_region ?_
 refine wl_box_blk rfl rfl rfl rfl fun p1 w2 e5 B3 k4 => ?_
 have g6 := onB_new (Nat.le_of_eq e5.symm)
 clear e5 g6
 have K8 := K0.trans k4 (fun _ _ x => x.elim)
 refine wl_v (.bool false) rfl rfl (y_asg rfl rfl ⟨rfl, rfl⟩) ?_
 refine wl_nil fun F9 hF10 => ?_
 have s11 : F9 0 = .int .i64 (k) := (hF10 0).trans rfl
 have s12 : F9 1 = .int .i64 (m) := (hF10 1).trans rfl
 have s13 : F9 2 = .int .i64 (q) := (hF10 2).trans rfl
 have s14 : F9 4 = .int .u8 (((a : Nat) : Int)) := (hF10 4).trans rfl
 have s15 : F9 5 = .int .u16 (((n : Nat) : Int)) := (hF10 5).trans rfl
 have s16 : F9 114 = undef := (hF10 114).trans rfl
 have s17 : F9 9 = .pointer (some ⟨p1, 0, none⟩) := (hF10 9).trans rfl
 clear hF10
 refine then_normal ?_
 refine wq_seq ?_
 refine wq_region ?_
 refine wl_call (R := fun v_ w_ => v_ = .bool true ∧ Kept (fun _ => False) w2 w_) rfl rfl (y_cs rfl rfl rfl (fun _ _ => by kernel_rfl) (ev_func _) vsN (bawake_any   _ (hA.all K8) (hO.all K8) (hs.all K8) (hw.all K8)  ) (fun e_ w_ h_ => ⟨_, h_.1, rfl, h_.2⟩)) ?_
 rintro _ w18 ⟨rfl, k19⟩
 have B20 := B3.all k19 id
 have K21 := K8.trans k19 (fun _ _ x => x.elim)
 refine wl_v (.bool true) rfl rfl (y_asg rfl rfl ⟨rfl, rfl⟩) ?_
 refine wl_nil fun F22 hF23 => ?_
 have s24 := (hF23 0).trans s11
 have s25 := (hF23 1).trans s12
 have s26 := (hF23 2).trans s13
 have s27 := (hF23 4).trans s14
 have s28 := (hF23 5).trans s15
 have s29 := (hF23 114).trans s16
 have s30 := (hF23 9).trans s17
 have s31 : F22 13 = .bool true := (hF23 13).trans rfl
 clear hF23
 refine then_normal ?_
 refine wq_seq ?_
 refine wq_region ?_
 refine wl_v (blkV (b)) rfl rfl (y_load_blk blkT_arr rfl s30 B20 ⟨rfl, rfl⟩) ?_
 refine wl_v (.agg (chL 0 0 0 0 0 (fun _ => (0 : Int))).toArray) rfl rfl (y_buildL (l' := []) (cells := (chL 0 0 0 0 0 (fun _ => (0 : Int))).toArray) rfl bpN (by kernel_rfl) rfl ⟨rfl, rfl⟩) ?_
 refine wl_v (.int .i64 (q)) rfl rfl (y_mov rfl s26 ⟨rfl, rfl⟩) ?_
 refine wl_call (R := fun v_ w_ => v_ = .tuple #[blkV (buB (b) (Ch.mk (0) (0) (0) (0) (0) (fun _ => (0 : Int))).b (q)), .int .i64 (ern (q))] ∧ Kept (fun _ => False) w18 w_) rfl rfl (y_cs rfl rfl rfl (fun _ _ => by kernel_rfl) (ev_func _) (vsC rfl (vsC rfl (vsC rfl vsN))) (bl_build (b) (Ch.mk (0) (0) (0) (0) (0) (fun _ => (0 : Int))) (q)  _ (hs.all K21) (hw.all K21)  ) (fun e_ w_ h_ => ⟨_, h_.1, rfl, h_.2⟩)) ?_
 rintro _ w32 ⟨rfl, k33⟩
 have B34 := B20.all k33 id
 have K35 := K21.trans k33 (fun _ _ x => x.elim)
 refine wl_v (.tuple #[blkV (buB (b) (Ch.mk (0) (0) (0) (0) (0) (fun _ => (0 : Int))).b (q)), .int .i64 (ern (q))]) rfl rfl (y_mov rfl rfl ⟨rfl, rfl⟩) ?_
 refine wl_v (blkV (buB (b) (Ch.mk (0) (0) (0) (0) (0) (fun _ => (0 : Int))).b (q))) rfl rfl (y_ext rfl rfl rfl ⟨rfl, rfl⟩) ?_
 refine wl_v (.int .i64 (ern (q))) rfl rfl (y_ext rfl rfl rfl ⟨rfl, rfl⟩) ?_
 refine wl_alloc_blk rfl rfl rfl blkT_block.2.2 fun p36 w37 e40 B38 k39 => ?_
 have g41 := onB_new (Nat.le_of_eq e40.symm)
 have gr42 : Grew w0 noB (onB p36) := Grew.new K35 g41
 have ap43 : Apart (onB p36) (onB p1) := Apart.new g41 (onB_live (B34).lt)
 clear e40 g41
 have B44 := B34.all k39 id
 have K45 := K35.trans k39 (fun _ _ x => x.elim)
 refine wl_store_blk blkT_block rfl rfl rfl rfl rfl B38 fun w46 B47 k48 => ?_
 have B49 := B44.all k48 (fun x => (((ap43).symm) p1 rfl x))
 have K50 := K45.trans k48 (Grew.ok (S := fun _ => False) gr42 noB_le)
 refine wl_v (.int .i64 (ern (q))) rfl rfl (y_asg rfl rfl ⟨rfl, rfl⟩) ?_
 refine wl_nil fun F51 hF52 => ?_
 have s53 := (hF52 0).trans s24
 have s54 := (hF52 1).trans s25
 have s55 := (hF52 2).trans s26
 have s56 := (hF52 4).trans s27
 have s57 := (hF52 5).trans s28
 have s58 := (hF52 114).trans s29
 have s59 := (hF52 13).trans s31
 have s60 : F51 15 = .int .i64 (ern (q)) := (hF52 15).trans rfl
 clear hF52
 refine then_normal ?_
 refine wq_seq ?_
 refine wq_region ?_
 refine wl_v (.int .i64 (-1)) rfl rfl (y_asg rfl rfl ⟨rfl, rfl⟩) ?_
 refine wl_nil fun F61 hF62 => ?_
 have s63 := (hF62 0).trans s53
 have s64 := (hF62 1).trans s54
 have s65 := (hF62 2).trans s55
 have s66 := (hF62 4).trans s56
 have s67 := (hF62 5).trans s57
 have s68 := (hF62 114).trans s58
 have s69 := (hF62 13).trans s59
 have s70 := (hF62 15).trans s60
 have s71 : F61 16 = .int .i64 (-1) := (hF62 16).trans rfl
 clear hF62
 refine then_normal ?_
 refine wq_seq ?_
 refine wq_seq ?_
 refine wq_cut (fun FF ww => FF 38 = .bool (decide (0 ≤ k ∧ k ≤ 2)) ∧ FF 0 = .int .i64 (k) ∧ FF 1 = .int .i64 (m) ∧ FF 2 = .int .i64 (q) ∧ FF 4 = .int .u8 (((a : Nat) : Int)) ∧ FF 5 = .int .u16 (((n : Nat) : Int)) ∧ FF 13 = .bool true ∧ FF 15 = .int .i64 (ern (q)) ∧ FF 16 = .int .i64 (-1) ∧ FF 114 = undef ∧ Kept (fun _ => False) w0 ww ∧ Blk ww p1 24 (b) ∧ Blk ww p36 25 (buB (b) (Ch.mk (0) (0) (0) (0) (0) (fun _ => (0 : Int))).b (q))) ?_ ?_
 ·skip
  by_cases d72 : (0) ≤ (k)
  ·skip
   refine wq_region ?_
   refine wl_v (.int .i64 (k)) rfl rfl (y_mov rfl s63 ⟨rfl, rfl⟩) ?_
   refine wl_v (.bool true) rfl rfl (y_geq rfl rfl rfl (decide_eq_true d72) ⟨rfl, rfl⟩) ?_
   refine wl_v (.bool true) rfl rfl (y_mov rfl rfl ⟨rfl, rfl⟩) ?_
   refine wl_vw (.int .i64 (k)) 2 true 35 rfl rfl rfl rfl rfl (y_mov rfl s63 ⟨rfl, rfl⟩) ?_
   refine wl_vw (.bool (decide ((k) ≤ (2)))) 2 true 35 rfl rfl rfl rfl rfl (y_leq rfl rfl rfl rfl ⟨rfl, rfl⟩) ?_
   refine wl_v (.bool (decide ((k) ≤ (2)))) rfl rfl (y_pickT rfl rfl rfl ⟨rfl, rfl⟩) ?_
   refine wl_nil fun F73 hF74 => ?_
   have s75 := (hF74 0).trans s63
   have s76 := (hF74 1).trans s64
   have s77 := (hF74 2).trans s65
   have s78 := (hF74 4).trans s66
   have s79 := (hF74 5).trans s67
   have s80 := (hF74 114).trans s68
   have s81 := (hF74 13).trans s69
   have s82 := (hF74 15).trans s70
   have s83 := (hF74 16).trans s71
   have s84 : F73 38 = .bool (decide ((k) ≤ (2))) := (hF74 38).trans rfl
   clear hF74
   exact ⟨s84.trans (congrArg Value.bool (show (decide ((k) ≤ (2))) = decide (0 ≤ k ∧ k ≤ 2) from by first | exact (decide_eq_true (by omega)).symm | exact (decide_eq_false (by omega)).symm | exact decide_eq_decide.2 (by omega))), s75, s76, s77, s78, s79, s81, s82, s83, s80, K50, B49, B47⟩
  ·skip
   refine wq_region ?_
   refine wl_v (.int .i64 (k)) rfl rfl (y_mov rfl s63 ⟨rfl, rfl⟩) ?_
   refine wl_v (.bool false) rfl rfl (y_geq rfl rfl rfl (decide_eq_false d72) ⟨rfl, rfl⟩) ?_
   refine wl_v (.bool false) rfl rfl (y_mov rfl rfl ⟨rfl, rfl⟩) ?_
   refine wl_unless 2 true 35 rfl rfl rfl (Or.inl rfl) rfl ?_
   refine wl_unless 2 true 35 rfl rfl rfl (Or.inl rfl) rfl ?_
   refine wl_v (.bool false) rfl rfl (y_pickF rfl rfl rfl ⟨rfl, rfl⟩) ?_
   refine wl_nil fun F85 hF86 => ?_
   have s87 := (hF86 0).trans s63
   have s88 := (hF86 1).trans s64
   have s89 := (hF86 2).trans s65
   have s90 := (hF86 4).trans s66
   have s91 := (hF86 5).trans s67
   have s92 := (hF86 114).trans s68
   have s93 := (hF86 13).trans s69
   have s94 := (hF86 15).trans s70
   have s95 := (hF86 16).trans s71
   have s96 : F85 38 = .bool false := (hF86 38).trans rfl
   clear hF86
   exact ⟨s96.trans (congrArg Value.bool (show (false) = decide (0 ≤ k ∧ k ≤ 2) from by first | exact (decide_eq_true (by omega)).symm | exact (decide_eq_false (by omega)).symm | exact decide_eq_decide.2 (by omega))), s87, s88, s89, s90, s91, s93, s94, s95, s92, K50, B49, B47⟩
 ·rintro F97 w98 ⟨s100, s101, s102, s103, s104, s105, s106, s107, s108, s109, K99, B110, B111⟩
  refine then_normal ?_
  refine wq_cond s100 (fun c112 => ?_) (fun c112 => ?_)
  ·replace c112 := of_decide_eq_true c112
   have hkr : 0 ≤ k ∧ k ≤ 2 := by omega
   have htr := wrap_tri hkr
   refine wq_region ?_
   refine wl_v (.int .i64 (k)) rfl rfl (y_mov rfl s101 ⟨rfl, rfl⟩) ?_
   refine wl_v (.int .i64 (k)) rfl rfl (y_mov rfl s101 ⟨rfl, rfl⟩) ?_
   refine wl_v (.int .i64 ((k) + (1))) rfl rfl (y_add rfl rfl rfl (i64_i rfl (by omega)) ⟨rfl, rfl⟩) ?_
   refine wl_v (.int .i64 (k * (k + 1))) rfl rfl (y_mul rfl rfl rfl (htr.1) ⟨rfl, rfl⟩) ?_
   refine wl_v (.int .i64 (mostK k - 3)) rfl rfl (y_quo rfl rfl rfl (by first | decide | omega) (i64_i htr.2 (by omega)) ⟨rfl, rfl⟩) ?_
   refine wl_v (.int .i64 (mostK k)) rfl rfl (y_add rfl rfl rfl (i64_i (by omega) (by omega)) ⟨rfl, rfl⟩) ?_
   refine wl_v (.int .i64 (mostK k)) rfl rfl (y_asg rfl rfl ⟨rfl, rfl⟩) ?_
   refine wl_nil fun F113 hF114 => ?_
   have s115 := (hF114 0).trans s101
   have s116 := (hF114 1).trans s102
   have s117 := (hF114 2).trans s103
   have s118 := (hF114 4).trans s104
   have s119 := (hF114 5).trans s105
   have s120 := (hF114 13).trans s106
   have s121 := (hF114 15).trans s107
   have s122 := (hF114 114).trans s109
   have s123 : F113 16 = .int .i64 (mostK k) := (hF114 16).trans rfl
   clear hF114
   refine then_normal ?_
   refine wq_seq ?_
   refine wq_cut (fun FF ww => FF 17 = .bool (decide (0 ≤ m ∧ m ≤ mostK k)) ∧ FF 0 = .int .i64 (k) ∧ FF 1 = .int .i64 (m) ∧ FF 2 = .int .i64 (q) ∧ FF 4 = .int .u8 (((a : Nat) : Int)) ∧ FF 5 = .int .u16 (((n : Nat) : Int)) ∧ FF 13 = .bool true ∧ FF 15 = .int .i64 (ern (q)) ∧ FF 114 = undef ∧ Kept (fun _ => False) w0 ww ∧ Blk ww p1 24 (b) ∧ Blk ww p36 25 (buB (b) (Ch.mk (0) (0) (0) (0) (0) (fun _ => (0 : Int))).b (q))) ?_ ?_
   ·skip
    try (have hmo := most_out (k := k) (by omega))
    by_cases d124 : (0) ≤ (m)
    ·skip
     refine wq_region ?_
     refine wl_v (.int .i64 (m)) rfl rfl (y_mov rfl s116 ⟨rfl, rfl⟩) ?_
     refine wl_v (.bool true) rfl rfl (y_geq rfl rfl rfl (decide_eq_true d124) ⟨rfl, rfl⟩) ?_
     refine wl_v (.bool true) rfl rfl (y_mov rfl rfl ⟨rfl, rfl⟩) ?_
     refine wl_vw (.int .i64 (m)) 2 true 47 rfl rfl rfl rfl rfl (y_mov rfl s116 ⟨rfl, rfl⟩) ?_
     refine wl_vw (.int .i64 (mostK k)) 2 true 47 rfl rfl rfl rfl rfl (y_mov rfl s123 ⟨rfl, rfl⟩) ?_
     refine wl_vw (.bool (decide ((m) ≤ (mostK k)))) 2 true 47 rfl rfl rfl rfl rfl (y_leq rfl rfl rfl rfl ⟨rfl, rfl⟩) ?_
     refine wl_v (.bool (decide ((m) ≤ (mostK k)))) rfl rfl (y_pickT rfl rfl rfl ⟨rfl, rfl⟩) ?_
     refine wl_v (.bool (decide ((m) ≤ (mostK k)))) rfl rfl (y_asg rfl rfl ⟨rfl, rfl⟩) ?_
     refine wl_nil fun F125 hF126 => ?_
     have s127 := (hF126 0).trans s115
     have s128 := (hF126 1).trans s116
     have s129 := (hF126 2).trans s117
     have s130 := (hF126 4).trans s118
     have s131 := (hF126 5).trans s119
     have s132 := (hF126 13).trans s120
     have s133 := (hF126 15).trans s121
     have s134 := (hF126 114).trans s122
     have s135 : F125 17 = .bool (decide ((m) ≤ (mostK k))) := (hF126 17).trans rfl
     clear hF126
     exact ⟨s135.trans (congrArg Value.bool (show (decide ((m) ≤ (mostK k))) = decide (0 ≤ m ∧ m ≤ mostK k) from by first | exact (decide_eq_true (by omega)).symm | exact (decide_eq_false (by omega)).symm | exact decide_eq_decide.2 (by omega))), s127, s128, s129, s130, s131, s132, s133, s134, K99, B110, B111⟩
    ·skip
     refine wq_region ?_
     refine wl_v (.int .i64 (m)) rfl rfl (y_mov rfl s116 ⟨rfl, rfl⟩) ?_
     refine wl_v (.bool false) rfl rfl (y_geq rfl rfl rfl (decide_eq_false d124) ⟨rfl, rfl⟩) ?_
     refine wl_v (.bool false) rfl rfl (y_mov rfl rfl ⟨rfl, rfl⟩) ?_
     refine wl_unless 2 true 47 rfl rfl rfl (Or.inl rfl) rfl ?_
     refine wl_unless 2 true 47 rfl rfl rfl (Or.inl rfl) rfl ?_
     refine wl_unless 2 true 47 rfl rfl rfl (Or.inl rfl) rfl ?_
     refine wl_v (.bool false) rfl rfl (y_pickF rfl rfl rfl ⟨rfl, rfl⟩) ?_
     refine wl_v (.bool false) rfl rfl (y_asg rfl rfl ⟨rfl, rfl⟩) ?_
     refine wl_nil fun F136 hF137 => ?_
     have s138 := (hF137 0).trans s115
     have s139 := (hF137 1).trans s116
     have s140 := (hF137 2).trans s117
     have s141 := (hF137 4).trans s118
     have s142 := (hF137 5).trans s119
     have s143 := (hF137 13).trans s120
     have s144 := (hF137 15).trans s121
     have s145 := (hF137 114).trans s122
     have s146 : F136 17 = .bool false := (hF137 17).trans rfl
     clear hF137
     exact ⟨s146.trans (congrArg Value.bool (show (false) = decide (0 ≤ m ∧ m ≤ mostK k) from by first | exact (decide_eq_true (by omega)).symm | exact (decide_eq_false (by omega)).symm | exact decide_eq_decide.2 (by omega))), s138, s139, s140, s141, s142, s143, s144, s145, K99, B110, B111⟩
   ·rintro F147 w148 ⟨s150, s151, s152, s153, s154, s155, s156, s157, s158, K149, B159, B160⟩
    refine then_normal ?_
    refine wq_seq ?_
    refine wq_region ?_
    refine wl_v (.int .i64 (m)) rfl rfl (y_mov rfl s152 ⟨rfl, rfl⟩) ?_
    refine wl_v (.agg (chL m 0 0 0 0 (fun _ => (0 : Int))).toArray) rfl rfl (y_buildL (l' := [(0, .int .i64 (m))]) (cells := (chL m 0 0 0 0 (fun _ => (0 : Int))).toArray) rfl (bpC rfl bpN) (by kernel_rfl) rfl ⟨rfl, rfl⟩) ?_
    refine wl_alloc_stc (n := 21) (vs := (chL 0 0 0 0 0 (fun _ => (0 : Int)))) rfl rfl rfl (by kernel_rfl) fun p161 w162 B164 g165 k163 => ?_
    have gr166 : Grew w0 noB (onB p161) := Grew.new K149 g165
    have K171 := K149.trans k163 (fun _ _ x => x.elim)
    refine wl_store_stc (us := (chL m 0 0 0 0 (fun _ => (0 : Int)))) stcT_choice rfl rfl rfl rfl rfl B164 rfl (oneI rfl (oneI rfl (oneI rfl (oneI rfl (oneI rfl (oneI rfl (oneI rfl (oneI rfl (oneI rfl (oneI rfl (oneI rfl (oneI rfl (oneI rfl (oneI rfl (oneI rfl (oneI rfl (oneI rfl (oneI rfl (oneI rfl (oneI rfl (oneI rfl oneN))))))))))))))))))))) fun w172 B173 k174 => ?_
    have K177 := K171.trans k174 (Grew.ok (S := fun _ => False) gr166 noB_le)
    refine wl_nil fun F178 hF179 => ?_
    have s180 := (hF179 17).trans s150
    have s181 := (hF179 0).trans s151
    have s182 := (hF179 1).trans s152
    have s183 := (hF179 2).trans s153
    have s184 := (hF179 4).trans s154
    have s185 := (hF179 5).trans s155
    have s186 := (hF179 13).trans s156
    have s187 := (hF179 15).trans s157
    have s188 := (hF179 114).trans s158
    have s189 : F178 18 = .pointer (some ⟨p161, 0, none⟩) := (hF179 18).trans rfl
    clear hF179
    refine then_normal ?_
    refine wq_seq ?_
    refine wq_region ?_
    refine wl_v (.int .i64 (k)) rfl rfl (y_mov rfl s181 ⟨rfl, rfl⟩) ?_
    refine wl_v (.agg (chL m 0 0 0 0 (fun _ => (0 : Int))).toArray) rfl rfl (y_load_stc stcT_choice rfl s189 B173 ⟨rfl, rfl⟩) ?_
    refine wl_call (R := fun v_ w_ => v_ = .int .i64 (chE (k) (Ch.mk (m) (0) (0) (0) (0) (fun _ => (0 : Int)))) ∧ Kept (fun _ => False) w172 w_) rfl rfl (y_cs rfl rfl rfl (fun _ _ => by kernel_rfl) (ev_func _) (vsC rfl (vsC rfl vsN)) (bl_check (k) (Ch.mk (m) (0) (0) (0) (0) (fun _ => (0 : Int)))  _ (hA.all K177)  ) (fun e_ w_ h_ => ⟨_, h_.1, rfl, h_.2⟩)) ?_
    rintro _ w190 ⟨rfl, k191⟩
    have B194 := B173.all k191 id
    have K195 := K177.trans k191 (fun _ _ x => x.elim)
    refine wl_v (.int .i64 (chE (k) (Ch.mk (m) (0) (0) (0) (0) (fun _ => (0 : Int))))) rfl rfl (y_asg rfl rfl ⟨rfl, rfl⟩) ?_
    refine wl_nil fun F196 hF197 => ?_
    have s198 := (hF197 17).trans s180
    have s199 := (hF197 0).trans s181
    have s200 := (hF197 1).trans s182
    have s201 := (hF197 2).trans s183
    have s202 := (hF197 4).trans s184
    have s203 := (hF197 5).trans s185
    have s204 := (hF197 13).trans s186
    have s205 := (hF197 15).trans s187
    have s206 := (hF197 114).trans s188
    have s207 := (hF197 18).trans s189
    have s208 : F196 19 = .int .i64 (chE (k) (Ch.mk (m) (0) (0) (0) (0) (fun _ => (0 : Int)))) := (hF197 19).trans rfl
    clear hF197
    refine then_normal ?_
    refine wq_seq ?_
    refine wq_region ?_
    refine wl_v (.int .u8 (((a : Nat) : Int))) rfl rfl (y_mov rfl s202 ⟨rfl, rfl⟩) ?_
    refine wl_v (.int .i64 (((a : Nat) : Int))) rfl rfl (y_convR rfl rfl Tryd.underlying5 Tryd.underlying3 (i64_i rfl (by omega)) ⟨rfl, rfl⟩) ?_
    refine wl_v (.int .i64 (((j : Nat) : Int))) rfl rfl (y_rem rfl rfl rfl (by first | decide | omega) ((mod_nat6 a 16).trans (by rw [hj])) ⟨rfl, rfl⟩) ?_
    refine wl_v (.int .u16 (((n : Nat) : Int))) rfl rfl (y_mov rfl s203 ⟨rfl, rfl⟩) ?_
    refine wl_v (.int .i64 (((n : Nat) : Int))) rfl rfl (y_convR rfl rfl Tryd.underlying73 Tryd.underlying3 (i64_i rfl (by omega)) ⟨rfl, rfl⟩) ?_
    refine wl_v (.int .i64 (((1048577 + n : Nat) : Int))) rfl rfl (y_add rfl rfl rfl (i64_n (by omega) (by omega)) ⟨rfl, rfl⟩) ?_
    refine wl_v (.pointer (some ⟨p161, 5, none⟩)) rfl rfl (y_fieldR (n := 16) rfl s207 Tryd.underlying27 rfl (by kernel_rfl) (by decide) rfl ⟨rfl, rfl⟩) ?_
    refine wl_v (.pointer (some ⟨p161, 5 + (j), none⟩)) rfl rfl (y_atR (j) (s := 1) rfl rfl rfl (by omega) Tryd.underlying25 (by omega) (by kernel_rfl) (by omega) ⟨rfl, rfl⟩) ?_
    refine wl_set_stc rfl rfl rfl rfl rfl B194 (ch_at (c := Ch.mk (m) (0) (0) (0) (0) (fun _ => (0 : Int))) (by omega)) rfl (by kernel_rfl) fun w209 B210 k211 => ?_
    replace B210 : Stc w209 p161 27 (chL m 0 0 0 0 (upd (fun _ => (0 : Int)) (j) (((1048577 + n : Nat) : Int)))) := (congrArg (Stc w209 p161 27) (ch_set (Ch.mk (m) (0) (0) (0) (0) (fun _ => (0 : Int))) (j) (((1048577 + n : Nat) : Int)))).mp B210
    have K214 := K195.trans k211 (Grew.ok (S := fun _ => False) gr166 noB_le)
    refine wl_nil fun F215 hF216 => ?_
    have s217 := (hF216 17).trans s198
    have s218 := (hF216 0).trans s199
    have s219 := (hF216 1).trans s200
    have s220 := (hF216 2).trans s201
    have s221 := (hF216 13).trans s204
    have s222 := (hF216 15).trans s205
    have s223 := (hF216 114).trans s206
    have s224 := (hF216 18).trans s207
    have s225 := (hF216 19).trans s208
    clear hF216
    refine then_normal ?_
    refine wq_seq ?_
    refine wq_region ?_
    refine wl_v (.int .i64 (k)) rfl rfl (y_mov rfl s218 ⟨rfl, rfl⟩) ?_
    refine wl_v (.agg (chL m 0 0 0 0 (upd (fun _ => (0 : Int)) (j) (((1048577 + n : Nat) : Int)))).toArray) rfl rfl (y_load_stc stcT_choice rfl s224 B210 ⟨rfl, rfl⟩) ?_
    refine wl_call (R := fun v_ w_ => v_ = .int .i64 (chE (k) (Ch.mk (m) (0) (0) (0) (0) (upd (fun _ => (0 : Int)) (j) (((1048577 + n : Nat) : Int))))) ∧ Kept (fun _ => False) w209 w_) rfl rfl (y_cs rfl rfl rfl (fun _ _ => by kernel_rfl) (ev_func _) (vsC rfl (vsC rfl vsN)) (bl_check (k) (Ch.mk (m) (0) (0) (0) (0) (upd (fun _ => (0 : Int)) (j) (((1048577 + n : Nat) : Int))))  _ (hA.all K214)  ) (fun e_ w_ h_ => ⟨_, h_.1, rfl, h_.2⟩)) ?_
    rintro _ w226 ⟨rfl, k227⟩
    have K231 := K214.trans k227 (fun _ _ x => x.elim)
    refine wl_v (.int .i64 (chE (k) (Ch.mk (m) (0) (0) (0) (0) (upd (fun _ => (0 : Int)) (j) (((1048577 + n : Nat) : Int)))))) rfl rfl (y_asg rfl rfl ⟨rfl, rfl⟩) ?_
    refine wl_nil fun F232 hF233 => ?_
    have s234 := (hF233 17).trans s217
    have s235 := (hF233 0).trans s218
    have s236 := (hF233 1).trans s219
    have s237 := (hF233 2).trans s220
    have s238 := (hF233 13).trans s221
    have s239 := (hF233 15).trans s222
    have s240 := (hF233 114).trans s223
    have s241 := (hF233 19).trans s225
    have s242 : F232 20 = .int .i64 (chE (k) (Ch.mk (m) (0) (0) (0) (0) (upd (fun _ => (0 : Int)) (j) (((1048577 + n : Nat) : Int))))) := (hF233 20).trans rfl
    clear hF233
    refine then_normal ?_
    refine wq_seq ?_
    refine wq_region ?_
    refine wl_v (.int .i64 (m)) rfl rfl (y_mov rfl s236 ⟨rfl, rfl⟩) ?_
    refine wl_call (R := fun v_ w_ => v_ = .tuple #[.bool (pastB (m)), .bool (nextB (m))] ∧ Kept (fun _ => False) w226 w_) rfl rfl (y_cs rfl rfl rfl (fun _ _ => by kernel_rfl) (ev_func _) (vsC rfl vsN) (bl_vectors (m)  _ (hA.all K231)  ) (fun e_ w_ h_ => ⟨_, h_.1, rfl, h_.2⟩)) ?_
    rintro _ w243 ⟨rfl, k244⟩
    have K248 := K231.trans k244 (fun _ _ x => x.elim)
    refine wl_v (.tuple #[.bool (pastB (m)), .bool (nextB (m))]) rfl rfl (y_mov rfl rfl ⟨rfl, rfl⟩) ?_
    refine wl_v (.bool (pastB (m))) rfl rfl (y_ext rfl rfl rfl ⟨rfl, rfl⟩) ?_
    refine wl_v (.bool (nextB (m))) rfl rfl (y_ext rfl rfl rfl ⟨rfl, rfl⟩) ?_
    refine wl_v (.bool (pastB (m))) rfl rfl (y_asg rfl rfl ⟨rfl, rfl⟩) ?_
    refine wl_v (.bool (nextB (m))) rfl rfl (y_asg rfl rfl ⟨rfl, rfl⟩) ?_
    refine wl_nil fun F249 hF250 => ?_
    have s251 := (hF250 17).trans s234
    have s252 := (hF250 0).trans s235
    have s253 := (hF250 1).trans s236
    have s254 := (hF250 2).trans s237
    have s255 := (hF250 13).trans s238
    have s256 := (hF250 15).trans s239
    have s257 := (hF250 114).trans s240
    have s258 := (hF250 19).trans s241
    have s259 := (hF250 20).trans s242
    have s260 : F249 21 = .bool (pastB (m)) := (hF250 21).trans rfl
    have s261 : F249 22 = .bool (nextB (m)) := (hF250 22).trans rfl
    clear hF250
    refine then_normal ?_
    refine wq_seq ?_
    refine wq_region ?_
    refine wl_v (.int .i64 (m)) rfl rfl (y_mov rfl s253 ⟨rfl, rfl⟩) ?_
    refine wl_v (.agg #[.int .i64 (1), .int .i64 (0)]) rfl rfl (y_buildL (l' := [(0, .int .i64 (1))]) (cells := #[.int .i64 (1), .int .i64 (0)]) rfl (bpC rfl bpN) (by kernel_rfl) rfl ⟨rfl, rfl⟩) ?_
    refine wl_v (.agg #[.int .i64 (0), .int .i64 (1)]) rfl rfl (y_buildL (l' := [(1, .int .i64 (1))]) (cells := #[.int .i64 (0), .int .i64 (1)]) rfl (bpC rfl bpN) (by kernel_rfl) rfl ⟨rfl, rfl⟩) ?_
    refine wl_v (.agg (chL m 1 0 0 1 (fun _ => (0 : Int))).toArray) rfl rfl (y_buildL (l' := [(0, .int .i64 (m)), (1, .agg #[.int .i64 (1), .int .i64 (0)]), (2, .agg #[.int .i64 (0), .int .i64 (1)])]) (cells := (chL m 1 0 0 1 (fun _ => (0 : Int))).toArray) rfl (bpC rfl (bpC rfl (bpC rfl bpN))) (by kernel_rfl) rfl ⟨rfl, rfl⟩) ?_
    refine wl_alloc_stc (n := 21) (vs := (chL 0 0 0 0 0 (fun _ => (0 : Int)))) rfl rfl rfl (by kernel_rfl) fun p262 w263 B265 g266 k264 => ?_
    have gr267 : Grew w0 noB (onB p262) := Grew.new K248 g266
    have K274 := K248.trans k264 (fun _ _ x => x.elim)
    refine wl_store_stc (us := (chL m 1 0 0 1 (fun _ => (0 : Int)))) stcT_choice rfl rfl rfl rfl rfl B265 rfl (oneI rfl (oneI rfl (oneI rfl (oneI rfl (oneI rfl (oneI rfl (oneI rfl (oneI rfl (oneI rfl (oneI rfl (oneI rfl (oneI rfl (oneI rfl (oneI rfl (oneI rfl (oneI rfl (oneI rfl (oneI rfl (oneI rfl (oneI rfl (oneI rfl oneN))))))))))))))))))))) fun w275 B276 k277 => ?_
    have K281 := K274.trans k277 (Grew.ok (S := fun _ => False) gr267 noB_le)
    refine wl_nil fun F282 hF283 => ?_
    have s284 := (hF283 17).trans s251
    have s285 := (hF283 0).trans s252
    have s286 := (hF283 2).trans s254
    have s287 := (hF283 13).trans s255
    have s288 := (hF283 15).trans s256
    have s289 := (hF283 114).trans s257
    have s290 := (hF283 19).trans s258
    have s291 := (hF283 20).trans s259
    have s292 := (hF283 21).trans s260
    have s293 := (hF283 22).trans s261
    have s294 : F282 23 = .pointer (some ⟨p262, 0, none⟩) := (hF283 23).trans rfl
    clear hF283
    refine then_normal ?_
    refine wq_seq ?_
    refine wq_region ?_
    refine wl_v (.int .i64 (k)) rfl rfl (y_mov rfl s285 ⟨rfl, rfl⟩) ?_
    refine wl_v (.agg (chL m 1 0 0 1 (fun _ => (0 : Int))).toArray) rfl rfl (y_load_stc stcT_choice rfl s294 B276 ⟨rfl, rfl⟩) ?_
    refine wl_call (R := fun v_ w_ => v_ = .int .i64 (chE (k) (Ch.mk (m) (1) (0) (0) (1) (fun _ => (0 : Int)))) ∧ Kept (fun _ => False) w275 w_) rfl rfl (y_cs rfl rfl rfl (fun _ _ => by kernel_rfl) (ev_func _) (vsC rfl (vsC rfl vsN)) (bl_check (k) (Ch.mk (m) (1) (0) (0) (1) (fun _ => (0 : Int)))  _ (hA.all K281)  ) (fun e_ w_ h_ => ⟨_, h_.1, rfl, h_.2⟩)) ?_
    rintro _ w295 ⟨rfl, k296⟩
    have K301 := K281.trans k296 (fun _ _ x => x.elim)
    refine wl_v (.int .i64 (chE (k) (Ch.mk (m) (1) (0) (0) (1) (fun _ => (0 : Int))))) rfl rfl (y_asg rfl rfl ⟨rfl, rfl⟩) ?_
    refine wl_nil fun F302 hF303 => ?_
    have s304 := (hF303 17).trans s284
    have s305 := (hF303 2).trans s286
    have s306 := (hF303 13).trans s287
    have s307 := (hF303 15).trans s288
    have s308 := (hF303 114).trans s289
    have s309 := (hF303 19).trans s290
    have s310 := (hF303 20).trans s291
    have s311 := (hF303 21).trans s292
    have s312 := (hF303 22).trans s293
    have s313 : F302 24 = .int .i64 (chE (k) (Ch.mk (m) (1) (0) (0) (1) (fun _ => (0 : Int)))) := (hF303 24).trans rfl
    clear hF303
    refine then_normal ?_
    refine wq_seq ?_
    by_cases d314 : (0) ≤ (q)
    ·skip
     by_cases d315 : (q) ≤ (20)
     ·skip
      by_cases d316 : 0 ≤ m ∧ m ≤ mostK k
      ·skip
       rcases Bool.eq_false_or_eq_true (pastB (m)) with d317 | d317
       ·skip
        refine wq_region ?_
        refine wl_v (.bool true) rfl rfl (y_mov rfl s306 ⟨rfl, rfl⟩) ?_
        refine wl_v (.bool true) rfl rfl (y_mov rfl rfl ⟨rfl, rfl⟩) ?_
        refine wl_vw (.int .i64 (ern (q))) 1 true 81 rfl rfl rfl rfl rfl (y_mov rfl s307 ⟨rfl, rfl⟩) ?_
        refine wl_vw (.bool (decide ((ern (q)) = (0)))) 1 true 81 rfl rfl rfl rfl rfl (y_eqlI rfl rfl rfl rfl ⟨rfl, rfl⟩) ?_
        refine wl_vw (.int .i64 (q)) 1 true 81 rfl rfl rfl rfl rfl (y_mov rfl s305 ⟨rfl, rfl⟩) ?_
        refine wl_vw (.bool true) 1 true 81 rfl rfl rfl rfl rfl (y_geq rfl rfl rfl (decide_eq_true d314) ⟨rfl, rfl⟩) ?_
        refine wl_vw (.bool true) 1 true 81 rfl rfl rfl rfl rfl (y_mov rfl rfl ⟨rfl, rfl⟩) ?_
        refine wl_vw (.int .i64 (q)) 6 true 86 rfl rfl rfl rfl rfl (y_mov rfl s305 ⟨rfl, rfl⟩) ?_
        refine wl_vw (.bool true) 6 true 86 rfl rfl rfl rfl rfl (y_leq rfl rfl rfl (decide_eq_true d315) ⟨rfl, rfl⟩) ?_
        refine wl_vw (.bool true) 1 true 81 rfl rfl rfl rfl rfl (y_pickT rfl rfl rfl ⟨rfl, rfl⟩) ?_
        refine wl_vw (.bool true) 1 true 81 rfl rfl rfl rfl rfl (y_eqlB rfl rfl rfl Tryd.underlying4 ((by rw [beq_iff_eq]; first | exact decide_eq_decide.2 (by omega) | exact decide_eq_false (by omega) | exact decide_eq_true (by omega))) ⟨rfl, rfl⟩) ?_
        refine wl_v (.bool true) rfl rfl (y_pickT rfl rfl rfl ⟨rfl, rfl⟩) ?_
        refine wl_v (.bool true) rfl rfl (y_mov rfl rfl ⟨rfl, rfl⟩) ?_
        refine wl_vw (.int .i64 (chE (k) (Ch.mk (m) (0) (0) (0) (0) (fun _ => (0 : Int))))) 12 true 92 rfl rfl rfl rfl rfl (y_mov rfl s309 ⟨rfl, rfl⟩) ?_
        refine wl_vw (.bool (decide ((chE (k) (Ch.mk (m) (0) (0) (0) (0) (fun _ => (0 : Int)))) = (0)))) 12 true 92 rfl rfl rfl rfl rfl (y_eqlI rfl rfl rfl rfl ⟨rfl, rfl⟩) ?_
        refine wl_vw (.bool true) 12 true 92 rfl rfl rfl rfl rfl (y_mov rfl (Eq.trans s304 (congrArg Value.bool (decide_eq_true d316))) ⟨rfl, rfl⟩) ?_
        refine wl_vw (.bool true) 12 true 92 rfl rfl rfl rfl rfl (y_eqlB rfl rfl rfl Tryd.underlying4 ((by rw [beq_iff_eq]; first | exact decide_eq_decide.2 (by omega) | exact decide_eq_false (by omega) | exact decide_eq_true (by omega))) ⟨rfl, rfl⟩) ?_
        refine wl_v (.bool true) rfl rfl (y_pickT rfl rfl rfl ⟨rfl, rfl⟩) ?_
        refine wl_v (.bool true) rfl rfl (y_mov rfl rfl ⟨rfl, rfl⟩) ?_
        refine wl_vw (.int .i64 (chE (k) (Ch.mk (m) (0) (0) (0) (0) (upd (fun _ => (0 : Int)) (j) (((1048577 + n : Nat) : Int)))))) 18 true 98 rfl rfl rfl rfl rfl (y_mov rfl s310 ⟨rfl, rfl⟩) ?_
        refine wl_vw (.bool true) 18 true 98 rfl rfl rfl rfl rfl (y_eqlI rfl rfl rfl (decide_eq_true hfa) ⟨rfl, rfl⟩) ?_
        refine wl_v (.bool true) rfl rfl (y_pickT rfl rfl rfl ⟨rfl, rfl⟩) ?_
        refine wl_v (.bool true) rfl rfl (y_mov rfl rfl ⟨rfl, rfl⟩) ?_
        refine wl_vw (.int .i64 (chE (k) (Ch.mk (m) (1) (0) (0) (1) (fun _ => (0 : Int))))) 22 true 102 rfl rfl rfl rfl rfl (y_mov rfl s313 ⟨rfl, rfl⟩) ?_
        refine wl_vw (.bool (decide ((chE (k) (Ch.mk (m) (1) (0) (0) (1) (fun _ => (0 : Int)))) = (0)))) 22 true 102 rfl rfl rfl rfl rfl (y_eqlI rfl rfl rfl rfl ⟨rfl, rfl⟩) ?_
        refine wl_vw (.bool true) 22 true 102 rfl rfl rfl rfl rfl (y_mov rfl (Eq.trans s304 (congrArg Value.bool (decide_eq_true d316))) ⟨rfl, rfl⟩) ?_
        refine wl_vw (.bool true) 22 true 102 rfl rfl rfl rfl rfl (y_mov rfl rfl ⟨rfl, rfl⟩) ?_
        refine wl_vw (.bool true) 26 true 106 rfl rfl rfl rfl rfl (y_mov rfl (Eq.trans s311 (congrArg Value.bool (d317))) ⟨rfl, rfl⟩) ?_
        refine wl_vw (.bool true) 22 true 102 rfl rfl rfl rfl rfl (y_pickT rfl rfl rfl ⟨rfl, rfl⟩) ?_
        refine wl_vw (.bool true) 22 true 102 rfl rfl rfl rfl rfl (y_mov rfl rfl ⟨rfl, rfl⟩) ?_
        refine wl_vw (.bool (nextB (m))) 29 true 109 rfl rfl rfl rfl rfl (y_mov rfl s312 ⟨rfl, rfl⟩) ?_
        refine wl_vw (.bool (nextB (m))) 22 true 102 rfl rfl rfl rfl rfl (y_pickT rfl rfl rfl ⟨rfl, rfl⟩) ?_
        refine wl_vw (.bool true) 22 true 102 rfl rfl rfl rfl rfl (y_eqlB rfl rfl rfl Tryd.underlying4 ((by first | exact ref_eq1 k m (by omega) (by assumption) | exact ref_eq2 k m (.inl (by omega)) | exact ref_eq2 k m (.inr (by assumption)))) ⟨rfl, rfl⟩) ?_
        refine wl_v (.bool true) rfl rfl (y_pickT rfl rfl rfl ⟨rfl, rfl⟩) ?_
        refine wl_v (.bool true) rfl rfl (y_asg rfl rfl ⟨rfl, rfl⟩) ?_
        refine wl_nil fun F318 hF319 => ?_
        have s320 := (hF319 114).trans s308
        have s321 : F318 12 = .bool true := (hF319 12).trans rfl
        clear hF319
        refine then_normal ?_
        refine wq_ret ?_
        exact end_tmp (v := .bool true) s320 rfl rfl s321 ⟨rfl, K301⟩
       ·skip
        refine wq_region ?_
        refine wl_v (.bool true) rfl rfl (y_mov rfl s306 ⟨rfl, rfl⟩) ?_
        refine wl_v (.bool true) rfl rfl (y_mov rfl rfl ⟨rfl, rfl⟩) ?_
        refine wl_vw (.int .i64 (ern (q))) 1 true 81 rfl rfl rfl rfl rfl (y_mov rfl s307 ⟨rfl, rfl⟩) ?_
        refine wl_vw (.bool (decide ((ern (q)) = (0)))) 1 true 81 rfl rfl rfl rfl rfl (y_eqlI rfl rfl rfl rfl ⟨rfl, rfl⟩) ?_
        refine wl_vw (.int .i64 (q)) 1 true 81 rfl rfl rfl rfl rfl (y_mov rfl s305 ⟨rfl, rfl⟩) ?_
        refine wl_vw (.bool true) 1 true 81 rfl rfl rfl rfl rfl (y_geq rfl rfl rfl (decide_eq_true d314) ⟨rfl, rfl⟩) ?_
        refine wl_vw (.bool true) 1 true 81 rfl rfl rfl rfl rfl (y_mov rfl rfl ⟨rfl, rfl⟩) ?_
        refine wl_vw (.int .i64 (q)) 6 true 86 rfl rfl rfl rfl rfl (y_mov rfl s305 ⟨rfl, rfl⟩) ?_
        refine wl_vw (.bool true) 6 true 86 rfl rfl rfl rfl rfl (y_leq rfl rfl rfl (decide_eq_true d315) ⟨rfl, rfl⟩) ?_
        refine wl_vw (.bool true) 1 true 81 rfl rfl rfl rfl rfl (y_pickT rfl rfl rfl ⟨rfl, rfl⟩) ?_
        refine wl_vw (.bool true) 1 true 81 rfl rfl rfl rfl rfl (y_eqlB rfl rfl rfl Tryd.underlying4 ((by rw [beq_iff_eq]; first | exact decide_eq_decide.2 (by omega) | exact decide_eq_false (by omega) | exact decide_eq_true (by omega))) ⟨rfl, rfl⟩) ?_
        refine wl_v (.bool true) rfl rfl (y_pickT rfl rfl rfl ⟨rfl, rfl⟩) ?_
        refine wl_v (.bool true) rfl rfl (y_mov rfl rfl ⟨rfl, rfl⟩) ?_
        refine wl_vw (.int .i64 (chE (k) (Ch.mk (m) (0) (0) (0) (0) (fun _ => (0 : Int))))) 12 true 92 rfl rfl rfl rfl rfl (y_mov rfl s309 ⟨rfl, rfl⟩) ?_
        refine wl_vw (.bool (decide ((chE (k) (Ch.mk (m) (0) (0) (0) (0) (fun _ => (0 : Int)))) = (0)))) 12 true 92 rfl rfl rfl rfl rfl (y_eqlI rfl rfl rfl rfl ⟨rfl, rfl⟩) ?_
        refine wl_vw (.bool true) 12 true 92 rfl rfl rfl rfl rfl (y_mov rfl (Eq.trans s304 (congrArg Value.bool (decide_eq_true d316))) ⟨rfl, rfl⟩) ?_
        refine wl_vw (.bool true) 12 true 92 rfl rfl rfl rfl rfl (y_eqlB rfl rfl rfl Tryd.underlying4 ((by rw [beq_iff_eq]; first | exact decide_eq_decide.2 (by omega) | exact decide_eq_false (by omega) | exact decide_eq_true (by omega))) ⟨rfl, rfl⟩) ?_
        refine wl_v (.bool true) rfl rfl (y_pickT rfl rfl rfl ⟨rfl, rfl⟩) ?_
        refine wl_v (.bool true) rfl rfl (y_mov rfl rfl ⟨rfl, rfl⟩) ?_
        refine wl_vw (.int .i64 (chE (k) (Ch.mk (m) (0) (0) (0) (0) (upd (fun _ => (0 : Int)) (j) (((1048577 + n : Nat) : Int)))))) 18 true 98 rfl rfl rfl rfl rfl (y_mov rfl s310 ⟨rfl, rfl⟩) ?_
        refine wl_vw (.bool true) 18 true 98 rfl rfl rfl rfl rfl (y_eqlI rfl rfl rfl (decide_eq_true hfa) ⟨rfl, rfl⟩) ?_
        refine wl_v (.bool true) rfl rfl (y_pickT rfl rfl rfl ⟨rfl, rfl⟩) ?_
        refine wl_v (.bool true) rfl rfl (y_mov rfl rfl ⟨rfl, rfl⟩) ?_
        refine wl_vw (.int .i64 (chE (k) (Ch.mk (m) (1) (0) (0) (1) (fun _ => (0 : Int))))) 22 true 102 rfl rfl rfl rfl rfl (y_mov rfl s313 ⟨rfl, rfl⟩) ?_
        refine wl_vw (.bool (decide ((chE (k) (Ch.mk (m) (1) (0) (0) (1) (fun _ => (0 : Int)))) = (0)))) 22 true 102 rfl rfl rfl rfl rfl (y_eqlI rfl rfl rfl rfl ⟨rfl, rfl⟩) ?_
        refine wl_vw (.bool true) 22 true 102 rfl rfl rfl rfl rfl (y_mov rfl (Eq.trans s304 (congrArg Value.bool (decide_eq_true d316))) ⟨rfl, rfl⟩) ?_
        refine wl_vw (.bool true) 22 true 102 rfl rfl rfl rfl rfl (y_mov rfl rfl ⟨rfl, rfl⟩) ?_
        refine wl_vw (.bool false) 26 true 106 rfl rfl rfl rfl rfl (y_mov rfl (Eq.trans s311 (congrArg Value.bool (d317))) ⟨rfl, rfl⟩) ?_
        refine wl_vw (.bool false) 22 true 102 rfl rfl rfl rfl rfl (y_pickT rfl rfl rfl ⟨rfl, rfl⟩) ?_
        refine wl_vw (.bool false) 22 true 102 rfl rfl rfl rfl rfl (y_mov rfl rfl ⟨rfl, rfl⟩) ?_
        refine wl_unless 29 true 109 rfl rfl rfl (Or.inl rfl) rfl ?_
        refine wl_vw (.bool false) 22 true 102 rfl rfl rfl rfl rfl (y_pickF rfl rfl rfl ⟨rfl, rfl⟩) ?_
        refine wl_vw (.bool true) 22 true 102 rfl rfl rfl rfl rfl (y_eqlB rfl rfl rfl Tryd.underlying4 ((by first | exact ref_eq1 k m (by omega) (by assumption) | exact ref_eq2 k m (.inl (by omega)) | exact ref_eq2 k m (.inr (by assumption)))) ⟨rfl, rfl⟩) ?_
        refine wl_v (.bool true) rfl rfl (y_pickT rfl rfl rfl ⟨rfl, rfl⟩) ?_
        refine wl_v (.bool true) rfl rfl (y_asg rfl rfl ⟨rfl, rfl⟩) ?_
        refine wl_nil fun F322 hF323 => ?_
        have s324 := (hF323 114).trans s308
        have s325 : F322 12 = .bool true := (hF323 12).trans rfl
        clear hF323
        refine then_normal ?_
        refine wq_ret ?_
        exact end_tmp (v := .bool true) s324 rfl rfl s325 ⟨rfl, K301⟩
      ·skip
       refine wq_region ?_
       refine wl_v (.bool true) rfl rfl (y_mov rfl s306 ⟨rfl, rfl⟩) ?_
       refine wl_v (.bool true) rfl rfl (y_mov rfl rfl ⟨rfl, rfl⟩) ?_
       refine wl_vw (.int .i64 (ern (q))) 1 true 81 rfl rfl rfl rfl rfl (y_mov rfl s307 ⟨rfl, rfl⟩) ?_
       refine wl_vw (.bool (decide ((ern (q)) = (0)))) 1 true 81 rfl rfl rfl rfl rfl (y_eqlI rfl rfl rfl rfl ⟨rfl, rfl⟩) ?_
       refine wl_vw (.int .i64 (q)) 1 true 81 rfl rfl rfl rfl rfl (y_mov rfl s305 ⟨rfl, rfl⟩) ?_
       refine wl_vw (.bool true) 1 true 81 rfl rfl rfl rfl rfl (y_geq rfl rfl rfl (decide_eq_true d314) ⟨rfl, rfl⟩) ?_
       refine wl_vw (.bool true) 1 true 81 rfl rfl rfl rfl rfl (y_mov rfl rfl ⟨rfl, rfl⟩) ?_
       refine wl_vw (.int .i64 (q)) 6 true 86 rfl rfl rfl rfl rfl (y_mov rfl s305 ⟨rfl, rfl⟩) ?_
       refine wl_vw (.bool true) 6 true 86 rfl rfl rfl rfl rfl (y_leq rfl rfl rfl (decide_eq_true d315) ⟨rfl, rfl⟩) ?_
       refine wl_vw (.bool true) 1 true 81 rfl rfl rfl rfl rfl (y_pickT rfl rfl rfl ⟨rfl, rfl⟩) ?_
       refine wl_vw (.bool true) 1 true 81 rfl rfl rfl rfl rfl (y_eqlB rfl rfl rfl Tryd.underlying4 ((by rw [beq_iff_eq]; first | exact decide_eq_decide.2 (by omega) | exact decide_eq_false (by omega) | exact decide_eq_true (by omega))) ⟨rfl, rfl⟩) ?_
       refine wl_v (.bool true) rfl rfl (y_pickT rfl rfl rfl ⟨rfl, rfl⟩) ?_
       refine wl_v (.bool true) rfl rfl (y_mov rfl rfl ⟨rfl, rfl⟩) ?_
       refine wl_vw (.int .i64 (chE (k) (Ch.mk (m) (0) (0) (0) (0) (fun _ => (0 : Int))))) 12 true 92 rfl rfl rfl rfl rfl (y_mov rfl s309 ⟨rfl, rfl⟩) ?_
       refine wl_vw (.bool (decide ((chE (k) (Ch.mk (m) (0) (0) (0) (0) (fun _ => (0 : Int)))) = (0)))) 12 true 92 rfl rfl rfl rfl rfl (y_eqlI rfl rfl rfl rfl ⟨rfl, rfl⟩) ?_
       refine wl_vw (.bool false) 12 true 92 rfl rfl rfl rfl rfl (y_mov rfl (Eq.trans s304 (congrArg Value.bool (decide_eq_false d316))) ⟨rfl, rfl⟩) ?_
       refine wl_vw (.bool true) 12 true 92 rfl rfl rfl rfl rfl (y_eqlB rfl rfl rfl Tryd.underlying4 ((by rw [beq_iff_eq]; first | exact decide_eq_decide.2 (by omega) | exact decide_eq_false (by omega) | exact decide_eq_true (by omega))) ⟨rfl, rfl⟩) ?_
       refine wl_v (.bool true) rfl rfl (y_pickT rfl rfl rfl ⟨rfl, rfl⟩) ?_
       refine wl_v (.bool true) rfl rfl (y_mov rfl rfl ⟨rfl, rfl⟩) ?_
       refine wl_vw (.int .i64 (chE (k) (Ch.mk (m) (0) (0) (0) (0) (upd (fun _ => (0 : Int)) (j) (((1048577 + n : Nat) : Int)))))) 18 true 98 rfl rfl rfl rfl rfl (y_mov rfl s310 ⟨rfl, rfl⟩) ?_
       refine wl_vw (.bool true) 18 true 98 rfl rfl rfl rfl rfl (y_eqlI rfl rfl rfl (decide_eq_true hfa) ⟨rfl, rfl⟩) ?_
       refine wl_v (.bool true) rfl rfl (y_pickT rfl rfl rfl ⟨rfl, rfl⟩) ?_
       refine wl_v (.bool true) rfl rfl (y_mov rfl rfl ⟨rfl, rfl⟩) ?_
       refine wl_vw (.int .i64 (chE (k) (Ch.mk (m) (1) (0) (0) (1) (fun _ => (0 : Int))))) 22 true 102 rfl rfl rfl rfl rfl (y_mov rfl s313 ⟨rfl, rfl⟩) ?_
       refine wl_vw (.bool (decide ((chE (k) (Ch.mk (m) (1) (0) (0) (1) (fun _ => (0 : Int)))) = (0)))) 22 true 102 rfl rfl rfl rfl rfl (y_eqlI rfl rfl rfl rfl ⟨rfl, rfl⟩) ?_
       refine wl_vw (.bool false) 22 true 102 rfl rfl rfl rfl rfl (y_mov rfl (Eq.trans s304 (congrArg Value.bool (decide_eq_false d316))) ⟨rfl, rfl⟩) ?_
       refine wl_vw (.bool false) 22 true 102 rfl rfl rfl rfl rfl (y_mov rfl rfl ⟨rfl, rfl⟩) ?_
       refine wl_unless 26 true 106 rfl rfl rfl (Or.inl rfl) rfl ?_
       refine wl_vw (.bool false) 22 true 102 rfl rfl rfl rfl rfl (y_pickF rfl rfl rfl ⟨rfl, rfl⟩) ?_
       refine wl_vw (.bool false) 22 true 102 rfl rfl rfl rfl rfl (y_mov rfl rfl ⟨rfl, rfl⟩) ?_
       refine wl_unless 29 true 109 rfl rfl rfl (Or.inl rfl) rfl ?_
       refine wl_vw (.bool false) 22 true 102 rfl rfl rfl rfl rfl (y_pickF rfl rfl rfl ⟨rfl, rfl⟩) ?_
       refine wl_vw (.bool true) 22 true 102 rfl rfl rfl rfl rfl (y_eqlB rfl rfl rfl Tryd.underlying4 ((by first | exact ref_eq1 k m (by omega) (by assumption) | exact ref_eq2 k m (.inl (by omega)) | exact ref_eq2 k m (.inr (by assumption)))) ⟨rfl, rfl⟩) ?_
       refine wl_v (.bool true) rfl rfl (y_pickT rfl rfl rfl ⟨rfl, rfl⟩) ?_
       refine wl_v (.bool true) rfl rfl (y_asg rfl rfl ⟨rfl, rfl⟩) ?_
       refine wl_nil fun F326 hF327 => ?_
       have s328 := (hF327 114).trans s308
       have s329 : F326 12 = .bool true := (hF327 12).trans rfl
       clear hF327
       refine then_normal ?_
       refine wq_ret ?_
       exact end_tmp (v := .bool true) s328 rfl rfl s329 ⟨rfl, K301⟩
     ·skip
      by_cases d330 : 0 ≤ m ∧ m ≤ mostK k
      ·skip
       rcases Bool.eq_false_or_eq_true (pastB (m)) with d331 | d331
       ·skip
        refine wq_region ?_
        refine wl_v (.bool true) rfl rfl (y_mov rfl s306 ⟨rfl, rfl⟩) ?_
        refine wl_v (.bool true) rfl rfl (y_mov rfl rfl ⟨rfl, rfl⟩) ?_
        refine wl_vw (.int .i64 (ern (q))) 1 true 81 rfl rfl rfl rfl rfl (y_mov rfl s307 ⟨rfl, rfl⟩) ?_
        refine wl_vw (.bool (decide ((ern (q)) = (0)))) 1 true 81 rfl rfl rfl rfl rfl (y_eqlI rfl rfl rfl rfl ⟨rfl, rfl⟩) ?_
        refine wl_vw (.int .i64 (q)) 1 true 81 rfl rfl rfl rfl rfl (y_mov rfl s305 ⟨rfl, rfl⟩) ?_
        refine wl_vw (.bool true) 1 true 81 rfl rfl rfl rfl rfl (y_geq rfl rfl rfl (decide_eq_true d314) ⟨rfl, rfl⟩) ?_
        refine wl_vw (.bool true) 1 true 81 rfl rfl rfl rfl rfl (y_mov rfl rfl ⟨rfl, rfl⟩) ?_
        refine wl_vw (.int .i64 (q)) 6 true 86 rfl rfl rfl rfl rfl (y_mov rfl s305 ⟨rfl, rfl⟩) ?_
        refine wl_vw (.bool false) 6 true 86 rfl rfl rfl rfl rfl (y_leq rfl rfl rfl (decide_eq_false d315) ⟨rfl, rfl⟩) ?_
        refine wl_vw (.bool false) 1 true 81 rfl rfl rfl rfl rfl (y_pickT rfl rfl rfl ⟨rfl, rfl⟩) ?_
        refine wl_vw (.bool true) 1 true 81 rfl rfl rfl rfl rfl (y_eqlB rfl rfl rfl Tryd.underlying4 ((by rw [beq_iff_eq]; first | exact decide_eq_decide.2 (by omega) | exact decide_eq_false (by omega) | exact decide_eq_true (by omega))) ⟨rfl, rfl⟩) ?_
        refine wl_v (.bool true) rfl rfl (y_pickT rfl rfl rfl ⟨rfl, rfl⟩) ?_
        refine wl_v (.bool true) rfl rfl (y_mov rfl rfl ⟨rfl, rfl⟩) ?_
        refine wl_vw (.int .i64 (chE (k) (Ch.mk (m) (0) (0) (0) (0) (fun _ => (0 : Int))))) 12 true 92 rfl rfl rfl rfl rfl (y_mov rfl s309 ⟨rfl, rfl⟩) ?_
        refine wl_vw (.bool (decide ((chE (k) (Ch.mk (m) (0) (0) (0) (0) (fun _ => (0 : Int)))) = (0)))) 12 true 92 rfl rfl rfl rfl rfl (y_eqlI rfl rfl rfl rfl ⟨rfl, rfl⟩) ?_
        refine wl_vw (.bool true) 12 true 92 rfl rfl rfl rfl rfl (y_mov rfl (Eq.trans s304 (congrArg Value.bool (decide_eq_true d330))) ⟨rfl, rfl⟩) ?_
        refine wl_vw (.bool true) 12 true 92 rfl rfl rfl rfl rfl (y_eqlB rfl rfl rfl Tryd.underlying4 ((by rw [beq_iff_eq]; first | exact decide_eq_decide.2 (by omega) | exact decide_eq_false (by omega) | exact decide_eq_true (by omega))) ⟨rfl, rfl⟩) ?_
        refine wl_v (.bool true) rfl rfl (y_pickT rfl rfl rfl ⟨rfl, rfl⟩) ?_
        refine wl_v (.bool true) rfl rfl (y_mov rfl rfl ⟨rfl, rfl⟩) ?_
        refine wl_vw (.int .i64 (chE (k) (Ch.mk (m) (0) (0) (0) (0) (upd (fun _ => (0 : Int)) (j) (((1048577 + n : Nat) : Int)))))) 18 true 98 rfl rfl rfl rfl rfl (y_mov rfl s310 ⟨rfl, rfl⟩) ?_
        refine wl_vw (.bool true) 18 true 98 rfl rfl rfl rfl rfl (y_eqlI rfl rfl rfl (decide_eq_true hfa) ⟨rfl, rfl⟩) ?_
        refine wl_v (.bool true) rfl rfl (y_pickT rfl rfl rfl ⟨rfl, rfl⟩) ?_
        refine wl_v (.bool true) rfl rfl (y_mov rfl rfl ⟨rfl, rfl⟩) ?_
        refine wl_vw (.int .i64 (chE (k) (Ch.mk (m) (1) (0) (0) (1) (fun _ => (0 : Int))))) 22 true 102 rfl rfl rfl rfl rfl (y_mov rfl s313 ⟨rfl, rfl⟩) ?_
        refine wl_vw (.bool (decide ((chE (k) (Ch.mk (m) (1) (0) (0) (1) (fun _ => (0 : Int)))) = (0)))) 22 true 102 rfl rfl rfl rfl rfl (y_eqlI rfl rfl rfl rfl ⟨rfl, rfl⟩) ?_
        refine wl_vw (.bool true) 22 true 102 rfl rfl rfl rfl rfl (y_mov rfl (Eq.trans s304 (congrArg Value.bool (decide_eq_true d330))) ⟨rfl, rfl⟩) ?_
        refine wl_vw (.bool true) 22 true 102 rfl rfl rfl rfl rfl (y_mov rfl rfl ⟨rfl, rfl⟩) ?_
        refine wl_vw (.bool true) 26 true 106 rfl rfl rfl rfl rfl (y_mov rfl (Eq.trans s311 (congrArg Value.bool (d331))) ⟨rfl, rfl⟩) ?_
        refine wl_vw (.bool true) 22 true 102 rfl rfl rfl rfl rfl (y_pickT rfl rfl rfl ⟨rfl, rfl⟩) ?_
        refine wl_vw (.bool true) 22 true 102 rfl rfl rfl rfl rfl (y_mov rfl rfl ⟨rfl, rfl⟩) ?_
        refine wl_vw (.bool (nextB (m))) 29 true 109 rfl rfl rfl rfl rfl (y_mov rfl s312 ⟨rfl, rfl⟩) ?_
        refine wl_vw (.bool (nextB (m))) 22 true 102 rfl rfl rfl rfl rfl (y_pickT rfl rfl rfl ⟨rfl, rfl⟩) ?_
        refine wl_vw (.bool true) 22 true 102 rfl rfl rfl rfl rfl (y_eqlB rfl rfl rfl Tryd.underlying4 ((by first | exact ref_eq1 k m (by omega) (by assumption) | exact ref_eq2 k m (.inl (by omega)) | exact ref_eq2 k m (.inr (by assumption)))) ⟨rfl, rfl⟩) ?_
        refine wl_v (.bool true) rfl rfl (y_pickT rfl rfl rfl ⟨rfl, rfl⟩) ?_
        refine wl_v (.bool true) rfl rfl (y_asg rfl rfl ⟨rfl, rfl⟩) ?_
        refine wl_nil fun F332 hF333 => ?_
        have s334 := (hF333 114).trans s308
        have s335 : F332 12 = .bool true := (hF333 12).trans rfl
        clear hF333
        refine then_normal ?_
        refine wq_ret ?_
        exact end_tmp (v := .bool true) s334 rfl rfl s335 ⟨rfl, K301⟩
       ·skip
        refine wq_region ?_
        refine wl_v (.bool true) rfl rfl (y_mov rfl s306 ⟨rfl, rfl⟩) ?_
        refine wl_v (.bool true) rfl rfl (y_mov rfl rfl ⟨rfl, rfl⟩) ?_
        refine wl_vw (.int .i64 (ern (q))) 1 true 81 rfl rfl rfl rfl rfl (y_mov rfl s307 ⟨rfl, rfl⟩) ?_
        refine wl_vw (.bool (decide ((ern (q)) = (0)))) 1 true 81 rfl rfl rfl rfl rfl (y_eqlI rfl rfl rfl rfl ⟨rfl, rfl⟩) ?_
        refine wl_vw (.int .i64 (q)) 1 true 81 rfl rfl rfl rfl rfl (y_mov rfl s305 ⟨rfl, rfl⟩) ?_
        refine wl_vw (.bool true) 1 true 81 rfl rfl rfl rfl rfl (y_geq rfl rfl rfl (decide_eq_true d314) ⟨rfl, rfl⟩) ?_
        refine wl_vw (.bool true) 1 true 81 rfl rfl rfl rfl rfl (y_mov rfl rfl ⟨rfl, rfl⟩) ?_
        refine wl_vw (.int .i64 (q)) 6 true 86 rfl rfl rfl rfl rfl (y_mov rfl s305 ⟨rfl, rfl⟩) ?_
        refine wl_vw (.bool false) 6 true 86 rfl rfl rfl rfl rfl (y_leq rfl rfl rfl (decide_eq_false d315) ⟨rfl, rfl⟩) ?_
        refine wl_vw (.bool false) 1 true 81 rfl rfl rfl rfl rfl (y_pickT rfl rfl rfl ⟨rfl, rfl⟩) ?_
        refine wl_vw (.bool true) 1 true 81 rfl rfl rfl rfl rfl (y_eqlB rfl rfl rfl Tryd.underlying4 ((by rw [beq_iff_eq]; first | exact decide_eq_decide.2 (by omega) | exact decide_eq_false (by omega) | exact decide_eq_true (by omega))) ⟨rfl, rfl⟩) ?_
        refine wl_v (.bool true) rfl rfl (y_pickT rfl rfl rfl ⟨rfl, rfl⟩) ?_
        refine wl_v (.bool true) rfl rfl (y_mov rfl rfl ⟨rfl, rfl⟩) ?_
        refine wl_vw (.int .i64 (chE (k) (Ch.mk (m) (0) (0) (0) (0) (fun _ => (0 : Int))))) 12 true 92 rfl rfl rfl rfl rfl (y_mov rfl s309 ⟨rfl, rfl⟩) ?_
        refine wl_vw (.bool (decide ((chE (k) (Ch.mk (m) (0) (0) (0) (0) (fun _ => (0 : Int)))) = (0)))) 12 true 92 rfl rfl rfl rfl rfl (y_eqlI rfl rfl rfl rfl ⟨rfl, rfl⟩) ?_
        refine wl_vw (.bool true) 12 true 92 rfl rfl rfl rfl rfl (y_mov rfl (Eq.trans s304 (congrArg Value.bool (decide_eq_true d330))) ⟨rfl, rfl⟩) ?_
        refine wl_vw (.bool true) 12 true 92 rfl rfl rfl rfl rfl (y_eqlB rfl rfl rfl Tryd.underlying4 ((by rw [beq_iff_eq]; first | exact decide_eq_decide.2 (by omega) | exact decide_eq_false (by omega) | exact decide_eq_true (by omega))) ⟨rfl, rfl⟩) ?_
        refine wl_v (.bool true) rfl rfl (y_pickT rfl rfl rfl ⟨rfl, rfl⟩) ?_
        refine wl_v (.bool true) rfl rfl (y_mov rfl rfl ⟨rfl, rfl⟩) ?_
        refine wl_vw (.int .i64 (chE (k) (Ch.mk (m) (0) (0) (0) (0) (upd (fun _ => (0 : Int)) (j) (((1048577 + n : Nat) : Int)))))) 18 true 98 rfl rfl rfl rfl rfl (y_mov rfl s310 ⟨rfl, rfl⟩) ?_
        refine wl_vw (.bool true) 18 true 98 rfl rfl rfl rfl rfl (y_eqlI rfl rfl rfl (decide_eq_true hfa) ⟨rfl, rfl⟩) ?_
        refine wl_v (.bool true) rfl rfl (y_pickT rfl rfl rfl ⟨rfl, rfl⟩) ?_
        refine wl_v (.bool true) rfl rfl (y_mov rfl rfl ⟨rfl, rfl⟩) ?_
        refine wl_vw (.int .i64 (chE (k) (Ch.mk (m) (1) (0) (0) (1) (fun _ => (0 : Int))))) 22 true 102 rfl rfl rfl rfl rfl (y_mov rfl s313 ⟨rfl, rfl⟩) ?_
        refine wl_vw (.bool (decide ((chE (k) (Ch.mk (m) (1) (0) (0) (1) (fun _ => (0 : Int)))) = (0)))) 22 true 102 rfl rfl rfl rfl rfl (y_eqlI rfl rfl rfl rfl ⟨rfl, rfl⟩) ?_
        refine wl_vw (.bool true) 22 true 102 rfl rfl rfl rfl rfl (y_mov rfl (Eq.trans s304 (congrArg Value.bool (decide_eq_true d330))) ⟨rfl, rfl⟩) ?_
        refine wl_vw (.bool true) 22 true 102 rfl rfl rfl rfl rfl (y_mov rfl rfl ⟨rfl, rfl⟩) ?_
        refine wl_vw (.bool false) 26 true 106 rfl rfl rfl rfl rfl (y_mov rfl (Eq.trans s311 (congrArg Value.bool (d331))) ⟨rfl, rfl⟩) ?_
        refine wl_vw (.bool false) 22 true 102 rfl rfl rfl rfl rfl (y_pickT rfl rfl rfl ⟨rfl, rfl⟩) ?_
        refine wl_vw (.bool false) 22 true 102 rfl rfl rfl rfl rfl (y_mov rfl rfl ⟨rfl, rfl⟩) ?_
        refine wl_unless 29 true 109 rfl rfl rfl (Or.inl rfl) rfl ?_
        refine wl_vw (.bool false) 22 true 102 rfl rfl rfl rfl rfl (y_pickF rfl rfl rfl ⟨rfl, rfl⟩) ?_
        refine wl_vw (.bool true) 22 true 102 rfl rfl rfl rfl rfl (y_eqlB rfl rfl rfl Tryd.underlying4 ((by first | exact ref_eq1 k m (by omega) (by assumption) | exact ref_eq2 k m (.inl (by omega)) | exact ref_eq2 k m (.inr (by assumption)))) ⟨rfl, rfl⟩) ?_
        refine wl_v (.bool true) rfl rfl (y_pickT rfl rfl rfl ⟨rfl, rfl⟩) ?_
        refine wl_v (.bool true) rfl rfl (y_asg rfl rfl ⟨rfl, rfl⟩) ?_
        refine wl_nil fun F336 hF337 => ?_
        have s338 := (hF337 114).trans s308
        have s339 : F336 12 = .bool true := (hF337 12).trans rfl
        clear hF337
        refine then_normal ?_
        refine wq_ret ?_
        exact end_tmp (v := .bool true) s338 rfl rfl s339 ⟨rfl, K301⟩
      ·skip
       refine wq_region ?_
       refine wl_v (.bool true) rfl rfl (y_mov rfl s306 ⟨rfl, rfl⟩) ?_
       refine wl_v (.bool true) rfl rfl (y_mov rfl rfl ⟨rfl, rfl⟩) ?_
       refine wl_vw (.int .i64 (ern (q))) 1 true 81 rfl rfl rfl rfl rfl (y_mov rfl s307 ⟨rfl, rfl⟩) ?_
       refine wl_vw (.bool (decide ((ern (q)) = (0)))) 1 true 81 rfl rfl rfl rfl rfl (y_eqlI rfl rfl rfl rfl ⟨rfl, rfl⟩) ?_
       refine wl_vw (.int .i64 (q)) 1 true 81 rfl rfl rfl rfl rfl (y_mov rfl s305 ⟨rfl, rfl⟩) ?_
       refine wl_vw (.bool true) 1 true 81 rfl rfl rfl rfl rfl (y_geq rfl rfl rfl (decide_eq_true d314) ⟨rfl, rfl⟩) ?_
       refine wl_vw (.bool true) 1 true 81 rfl rfl rfl rfl rfl (y_mov rfl rfl ⟨rfl, rfl⟩) ?_
       refine wl_vw (.int .i64 (q)) 6 true 86 rfl rfl rfl rfl rfl (y_mov rfl s305 ⟨rfl, rfl⟩) ?_
       refine wl_vw (.bool false) 6 true 86 rfl rfl rfl rfl rfl (y_leq rfl rfl rfl (decide_eq_false d315) ⟨rfl, rfl⟩) ?_
       refine wl_vw (.bool false) 1 true 81 rfl rfl rfl rfl rfl (y_pickT rfl rfl rfl ⟨rfl, rfl⟩) ?_
       refine wl_vw (.bool true) 1 true 81 rfl rfl rfl rfl rfl (y_eqlB rfl rfl rfl Tryd.underlying4 ((by rw [beq_iff_eq]; first | exact decide_eq_decide.2 (by omega) | exact decide_eq_false (by omega) | exact decide_eq_true (by omega))) ⟨rfl, rfl⟩) ?_
       refine wl_v (.bool true) rfl rfl (y_pickT rfl rfl rfl ⟨rfl, rfl⟩) ?_
       refine wl_v (.bool true) rfl rfl (y_mov rfl rfl ⟨rfl, rfl⟩) ?_
       refine wl_vw (.int .i64 (chE (k) (Ch.mk (m) (0) (0) (0) (0) (fun _ => (0 : Int))))) 12 true 92 rfl rfl rfl rfl rfl (y_mov rfl s309 ⟨rfl, rfl⟩) ?_
       refine wl_vw (.bool (decide ((chE (k) (Ch.mk (m) (0) (0) (0) (0) (fun _ => (0 : Int)))) = (0)))) 12 true 92 rfl rfl rfl rfl rfl (y_eqlI rfl rfl rfl rfl ⟨rfl, rfl⟩) ?_
       refine wl_vw (.bool false) 12 true 92 rfl rfl rfl rfl rfl (y_mov rfl (Eq.trans s304 (congrArg Value.bool (decide_eq_false d330))) ⟨rfl, rfl⟩) ?_
       refine wl_vw (.bool true) 12 true 92 rfl rfl rfl rfl rfl (y_eqlB rfl rfl rfl Tryd.underlying4 ((by rw [beq_iff_eq]; first | exact decide_eq_decide.2 (by omega) | exact decide_eq_false (by omega) | exact decide_eq_true (by omega))) ⟨rfl, rfl⟩) ?_
       refine wl_v (.bool true) rfl rfl (y_pickT rfl rfl rfl ⟨rfl, rfl⟩) ?_
       refine wl_v (.bool true) rfl rfl (y_mov rfl rfl ⟨rfl, rfl⟩) ?_
       refine wl_vw (.int .i64 (chE (k) (Ch.mk (m) (0) (0) (0) (0) (upd (fun _ => (0 : Int)) (j) (((1048577 + n : Nat) : Int)))))) 18 true 98 rfl rfl rfl rfl rfl (y_mov rfl s310 ⟨rfl, rfl⟩) ?_
       refine wl_vw (.bool true) 18 true 98 rfl rfl rfl rfl rfl (y_eqlI rfl rfl rfl (decide_eq_true hfa) ⟨rfl, rfl⟩) ?_
       refine wl_v (.bool true) rfl rfl (y_pickT rfl rfl rfl ⟨rfl, rfl⟩) ?_
       refine wl_v (.bool true) rfl rfl (y_mov rfl rfl ⟨rfl, rfl⟩) ?_
       refine wl_vw (.int .i64 (chE (k) (Ch.mk (m) (1) (0) (0) (1) (fun _ => (0 : Int))))) 22 true 102 rfl rfl rfl rfl rfl (y_mov rfl s313 ⟨rfl, rfl⟩) ?_
       refine wl_vw (.bool (decide ((chE (k) (Ch.mk (m) (1) (0) (0) (1) (fun _ => (0 : Int)))) = (0)))) 22 true 102 rfl rfl rfl rfl rfl (y_eqlI rfl rfl rfl rfl ⟨rfl, rfl⟩) ?_
       refine wl_vw (.bool false) 22 true 102 rfl rfl rfl rfl rfl (y_mov rfl (Eq.trans s304 (congrArg Value.bool (decide_eq_false d330))) ⟨rfl, rfl⟩) ?_
       refine wl_vw (.bool false) 22 true 102 rfl rfl rfl rfl rfl (y_mov rfl rfl ⟨rfl, rfl⟩) ?_
       refine wl_unless 26 true 106 rfl rfl rfl (Or.inl rfl) rfl ?_
       refine wl_vw (.bool false) 22 true 102 rfl rfl rfl rfl rfl (y_pickF rfl rfl rfl ⟨rfl, rfl⟩) ?_
       refine wl_vw (.bool false) 22 true 102 rfl rfl rfl rfl rfl (y_mov rfl rfl ⟨rfl, rfl⟩) ?_
       refine wl_unless 29 true 109 rfl rfl rfl (Or.inl rfl) rfl ?_
       refine wl_vw (.bool false) 22 true 102 rfl rfl rfl rfl rfl (y_pickF rfl rfl rfl ⟨rfl, rfl⟩) ?_
       refine wl_vw (.bool true) 22 true 102 rfl rfl rfl rfl rfl (y_eqlB rfl rfl rfl Tryd.underlying4 ((by first | exact ref_eq1 k m (by omega) (by assumption) | exact ref_eq2 k m (.inl (by omega)) | exact ref_eq2 k m (.inr (by assumption)))) ⟨rfl, rfl⟩) ?_
       refine wl_v (.bool true) rfl rfl (y_pickT rfl rfl rfl ⟨rfl, rfl⟩) ?_
       refine wl_v (.bool true) rfl rfl (y_asg rfl rfl ⟨rfl, rfl⟩) ?_
       refine wl_nil fun F340 hF341 => ?_
       have s342 := (hF341 114).trans s308
       have s343 : F340 12 = .bool true := (hF341 12).trans rfl
       clear hF341
       refine then_normal ?_
       refine wq_ret ?_
       exact end_tmp (v := .bool true) s342 rfl rfl s343 ⟨rfl, K301⟩
    ·skip
     by_cases d344 : 0 ≤ m ∧ m ≤ mostK k
     ·skip
      rcases Bool.eq_false_or_eq_true (pastB (m)) with d345 | d345
      ·skip
       refine wq_region ?_
       refine wl_v (.bool true) rfl rfl (y_mov rfl s306 ⟨rfl, rfl⟩) ?_
       refine wl_v (.bool true) rfl rfl (y_mov rfl rfl ⟨rfl, rfl⟩) ?_
       refine wl_vw (.int .i64 (ern (q))) 1 true 81 rfl rfl rfl rfl rfl (y_mov rfl s307 ⟨rfl, rfl⟩) ?_
       refine wl_vw (.bool (decide ((ern (q)) = (0)))) 1 true 81 rfl rfl rfl rfl rfl (y_eqlI rfl rfl rfl rfl ⟨rfl, rfl⟩) ?_
       refine wl_vw (.int .i64 (q)) 1 true 81 rfl rfl rfl rfl rfl (y_mov rfl s305 ⟨rfl, rfl⟩) ?_
       refine wl_vw (.bool false) 1 true 81 rfl rfl rfl rfl rfl (y_geq rfl rfl rfl (decide_eq_false d314) ⟨rfl, rfl⟩) ?_
       refine wl_vw (.bool false) 1 true 81 rfl rfl rfl rfl rfl (y_mov rfl rfl ⟨rfl, rfl⟩) ?_
       refine wl_unless 6 true 86 rfl rfl rfl (Or.inl rfl) rfl ?_
       refine wl_unless 6 true 86 rfl rfl rfl (Or.inl rfl) rfl ?_
       refine wl_vw (.bool false) 1 true 81 rfl rfl rfl rfl rfl (y_pickF rfl rfl rfl ⟨rfl, rfl⟩) ?_
       refine wl_vw (.bool true) 1 true 81 rfl rfl rfl rfl rfl (y_eqlB rfl rfl rfl Tryd.underlying4 ((by rw [beq_iff_eq]; first | exact decide_eq_decide.2 (by omega) | exact decide_eq_false (by omega) | exact decide_eq_true (by omega))) ⟨rfl, rfl⟩) ?_
       refine wl_v (.bool true) rfl rfl (y_pickT rfl rfl rfl ⟨rfl, rfl⟩) ?_
       refine wl_v (.bool true) rfl rfl (y_mov rfl rfl ⟨rfl, rfl⟩) ?_
       refine wl_vw (.int .i64 (chE (k) (Ch.mk (m) (0) (0) (0) (0) (fun _ => (0 : Int))))) 12 true 92 rfl rfl rfl rfl rfl (y_mov rfl s309 ⟨rfl, rfl⟩) ?_
       refine wl_vw (.bool (decide ((chE (k) (Ch.mk (m) (0) (0) (0) (0) (fun _ => (0 : Int)))) = (0)))) 12 true 92 rfl rfl rfl rfl rfl (y_eqlI rfl rfl rfl rfl ⟨rfl, rfl⟩) ?_
       refine wl_vw (.bool true) 12 true 92 rfl rfl rfl rfl rfl (y_mov rfl (Eq.trans s304 (congrArg Value.bool (decide_eq_true d344))) ⟨rfl, rfl⟩) ?_
       refine wl_vw (.bool true) 12 true 92 rfl rfl rfl rfl rfl (y_eqlB rfl rfl rfl Tryd.underlying4 ((by rw [beq_iff_eq]; first | exact decide_eq_decide.2 (by omega) | exact decide_eq_false (by omega) | exact decide_eq_true (by omega))) ⟨rfl, rfl⟩) ?_
       refine wl_v (.bool true) rfl rfl (y_pickT rfl rfl rfl ⟨rfl, rfl⟩) ?_
       refine wl_v (.bool true) rfl rfl (y_mov rfl rfl ⟨rfl, rfl⟩) ?_
       refine wl_vw (.int .i64 (chE (k) (Ch.mk (m) (0) (0) (0) (0) (upd (fun _ => (0 : Int)) (j) (((1048577 + n : Nat) : Int)))))) 18 true 98 rfl rfl rfl rfl rfl (y_mov rfl s310 ⟨rfl, rfl⟩) ?_
       refine wl_vw (.bool true) 18 true 98 rfl rfl rfl rfl rfl (y_eqlI rfl rfl rfl (decide_eq_true hfa) ⟨rfl, rfl⟩) ?_
       refine wl_v (.bool true) rfl rfl (y_pickT rfl rfl rfl ⟨rfl, rfl⟩) ?_
       refine wl_v (.bool true) rfl rfl (y_mov rfl rfl ⟨rfl, rfl⟩) ?_
       refine wl_vw (.int .i64 (chE (k) (Ch.mk (m) (1) (0) (0) (1) (fun _ => (0 : Int))))) 22 true 102 rfl rfl rfl rfl rfl (y_mov rfl s313 ⟨rfl, rfl⟩) ?_
       refine wl_vw (.bool (decide ((chE (k) (Ch.mk (m) (1) (0) (0) (1) (fun _ => (0 : Int)))) = (0)))) 22 true 102 rfl rfl rfl rfl rfl (y_eqlI rfl rfl rfl rfl ⟨rfl, rfl⟩) ?_
       refine wl_vw (.bool true) 22 true 102 rfl rfl rfl rfl rfl (y_mov rfl (Eq.trans s304 (congrArg Value.bool (decide_eq_true d344))) ⟨rfl, rfl⟩) ?_
       refine wl_vw (.bool true) 22 true 102 rfl rfl rfl rfl rfl (y_mov rfl rfl ⟨rfl, rfl⟩) ?_
       refine wl_vw (.bool true) 26 true 106 rfl rfl rfl rfl rfl (y_mov rfl (Eq.trans s311 (congrArg Value.bool (d345))) ⟨rfl, rfl⟩) ?_
       refine wl_vw (.bool true) 22 true 102 rfl rfl rfl rfl rfl (y_pickT rfl rfl rfl ⟨rfl, rfl⟩) ?_
       refine wl_vw (.bool true) 22 true 102 rfl rfl rfl rfl rfl (y_mov rfl rfl ⟨rfl, rfl⟩) ?_
       refine wl_vw (.bool (nextB (m))) 29 true 109 rfl rfl rfl rfl rfl (y_mov rfl s312 ⟨rfl, rfl⟩) ?_
       refine wl_vw (.bool (nextB (m))) 22 true 102 rfl rfl rfl rfl rfl (y_pickT rfl rfl rfl ⟨rfl, rfl⟩) ?_
       refine wl_vw (.bool true) 22 true 102 rfl rfl rfl rfl rfl (y_eqlB rfl rfl rfl Tryd.underlying4 ((by first | exact ref_eq1 k m (by omega) (by assumption) | exact ref_eq2 k m (.inl (by omega)) | exact ref_eq2 k m (.inr (by assumption)))) ⟨rfl, rfl⟩) ?_
       refine wl_v (.bool true) rfl rfl (y_pickT rfl rfl rfl ⟨rfl, rfl⟩) ?_
       refine wl_v (.bool true) rfl rfl (y_asg rfl rfl ⟨rfl, rfl⟩) ?_
       refine wl_nil fun F346 hF347 => ?_
       have s348 := (hF347 114).trans s308
       have s349 : F346 12 = .bool true := (hF347 12).trans rfl
       clear hF347
       refine then_normal ?_
       refine wq_ret ?_
       exact end_tmp (v := .bool true) s348 rfl rfl s349 ⟨rfl, K301⟩
      ·skip
       refine wq_region ?_
       refine wl_v (.bool true) rfl rfl (y_mov rfl s306 ⟨rfl, rfl⟩) ?_
       refine wl_v (.bool true) rfl rfl (y_mov rfl rfl ⟨rfl, rfl⟩) ?_
       refine wl_vw (.int .i64 (ern (q))) 1 true 81 rfl rfl rfl rfl rfl (y_mov rfl s307 ⟨rfl, rfl⟩) ?_
       refine wl_vw (.bool (decide ((ern (q)) = (0)))) 1 true 81 rfl rfl rfl rfl rfl (y_eqlI rfl rfl rfl rfl ⟨rfl, rfl⟩) ?_
       refine wl_vw (.int .i64 (q)) 1 true 81 rfl rfl rfl rfl rfl (y_mov rfl s305 ⟨rfl, rfl⟩) ?_
       refine wl_vw (.bool false) 1 true 81 rfl rfl rfl rfl rfl (y_geq rfl rfl rfl (decide_eq_false d314) ⟨rfl, rfl⟩) ?_
       refine wl_vw (.bool false) 1 true 81 rfl rfl rfl rfl rfl (y_mov rfl rfl ⟨rfl, rfl⟩) ?_
       refine wl_unless 6 true 86 rfl rfl rfl (Or.inl rfl) rfl ?_
       refine wl_unless 6 true 86 rfl rfl rfl (Or.inl rfl) rfl ?_
       refine wl_vw (.bool false) 1 true 81 rfl rfl rfl rfl rfl (y_pickF rfl rfl rfl ⟨rfl, rfl⟩) ?_
       refine wl_vw (.bool true) 1 true 81 rfl rfl rfl rfl rfl (y_eqlB rfl rfl rfl Tryd.underlying4 ((by rw [beq_iff_eq]; first | exact decide_eq_decide.2 (by omega) | exact decide_eq_false (by omega) | exact decide_eq_true (by omega))) ⟨rfl, rfl⟩) ?_
       refine wl_v (.bool true) rfl rfl (y_pickT rfl rfl rfl ⟨rfl, rfl⟩) ?_
       refine wl_v (.bool true) rfl rfl (y_mov rfl rfl ⟨rfl, rfl⟩) ?_
       refine wl_vw (.int .i64 (chE (k) (Ch.mk (m) (0) (0) (0) (0) (fun _ => (0 : Int))))) 12 true 92 rfl rfl rfl rfl rfl (y_mov rfl s309 ⟨rfl, rfl⟩) ?_
       refine wl_vw (.bool (decide ((chE (k) (Ch.mk (m) (0) (0) (0) (0) (fun _ => (0 : Int)))) = (0)))) 12 true 92 rfl rfl rfl rfl rfl (y_eqlI rfl rfl rfl rfl ⟨rfl, rfl⟩) ?_
       refine wl_vw (.bool true) 12 true 92 rfl rfl rfl rfl rfl (y_mov rfl (Eq.trans s304 (congrArg Value.bool (decide_eq_true d344))) ⟨rfl, rfl⟩) ?_
       refine wl_vw (.bool true) 12 true 92 rfl rfl rfl rfl rfl (y_eqlB rfl rfl rfl Tryd.underlying4 ((by rw [beq_iff_eq]; first | exact decide_eq_decide.2 (by omega) | exact decide_eq_false (by omega) | exact decide_eq_true (by omega))) ⟨rfl, rfl⟩) ?_
       refine wl_v (.bool true) rfl rfl (y_pickT rfl rfl rfl ⟨rfl, rfl⟩) ?_
       refine wl_v (.bool true) rfl rfl (y_mov rfl rfl ⟨rfl, rfl⟩) ?_
       refine wl_vw (.int .i64 (chE (k) (Ch.mk (m) (0) (0) (0) (0) (upd (fun _ => (0 : Int)) (j) (((1048577 + n : Nat) : Int)))))) 18 true 98 rfl rfl rfl rfl rfl (y_mov rfl s310 ⟨rfl, rfl⟩) ?_
       refine wl_vw (.bool true) 18 true 98 rfl rfl rfl rfl rfl (y_eqlI rfl rfl rfl (decide_eq_true hfa) ⟨rfl, rfl⟩) ?_
       refine wl_v (.bool true) rfl rfl (y_pickT rfl rfl rfl ⟨rfl, rfl⟩) ?_
       refine wl_v (.bool true) rfl rfl (y_mov rfl rfl ⟨rfl, rfl⟩) ?_
       refine wl_vw (.int .i64 (chE (k) (Ch.mk (m) (1) (0) (0) (1) (fun _ => (0 : Int))))) 22 true 102 rfl rfl rfl rfl rfl (y_mov rfl s313 ⟨rfl, rfl⟩) ?_
       refine wl_vw (.bool (decide ((chE (k) (Ch.mk (m) (1) (0) (0) (1) (fun _ => (0 : Int)))) = (0)))) 22 true 102 rfl rfl rfl rfl rfl (y_eqlI rfl rfl rfl rfl ⟨rfl, rfl⟩) ?_
       refine wl_vw (.bool true) 22 true 102 rfl rfl rfl rfl rfl (y_mov rfl (Eq.trans s304 (congrArg Value.bool (decide_eq_true d344))) ⟨rfl, rfl⟩) ?_
       refine wl_vw (.bool true) 22 true 102 rfl rfl rfl rfl rfl (y_mov rfl rfl ⟨rfl, rfl⟩) ?_
       refine wl_vw (.bool false) 26 true 106 rfl rfl rfl rfl rfl (y_mov rfl (Eq.trans s311 (congrArg Value.bool (d345))) ⟨rfl, rfl⟩) ?_
       refine wl_vw (.bool false) 22 true 102 rfl rfl rfl rfl rfl (y_pickT rfl rfl rfl ⟨rfl, rfl⟩) ?_
       refine wl_vw (.bool false) 22 true 102 rfl rfl rfl rfl rfl (y_mov rfl rfl ⟨rfl, rfl⟩) ?_
       refine wl_unless 29 true 109 rfl rfl rfl (Or.inl rfl) rfl ?_
       refine wl_vw (.bool false) 22 true 102 rfl rfl rfl rfl rfl (y_pickF rfl rfl rfl ⟨rfl, rfl⟩) ?_
       refine wl_vw (.bool true) 22 true 102 rfl rfl rfl rfl rfl (y_eqlB rfl rfl rfl Tryd.underlying4 ((by first | exact ref_eq1 k m (by omega) (by assumption) | exact ref_eq2 k m (.inl (by omega)) | exact ref_eq2 k m (.inr (by assumption)))) ⟨rfl, rfl⟩) ?_
       refine wl_v (.bool true) rfl rfl (y_pickT rfl rfl rfl ⟨rfl, rfl⟩) ?_
       refine wl_v (.bool true) rfl rfl (y_asg rfl rfl ⟨rfl, rfl⟩) ?_
       refine wl_nil fun F350 hF351 => ?_
       have s352 := (hF351 114).trans s308
       have s353 : F350 12 = .bool true := (hF351 12).trans rfl
       clear hF351
       refine then_normal ?_
       refine wq_ret ?_
       exact end_tmp (v := .bool true) s352 rfl rfl s353 ⟨rfl, K301⟩
     ·skip
      refine wq_region ?_
      refine wl_v (.bool true) rfl rfl (y_mov rfl s306 ⟨rfl, rfl⟩) ?_
      refine wl_v (.bool true) rfl rfl (y_mov rfl rfl ⟨rfl, rfl⟩) ?_
      refine wl_vw (.int .i64 (ern (q))) 1 true 81 rfl rfl rfl rfl rfl (y_mov rfl s307 ⟨rfl, rfl⟩) ?_
      refine wl_vw (.bool (decide ((ern (q)) = (0)))) 1 true 81 rfl rfl rfl rfl rfl (y_eqlI rfl rfl rfl rfl ⟨rfl, rfl⟩) ?_
      refine wl_vw (.int .i64 (q)) 1 true 81 rfl rfl rfl rfl rfl (y_mov rfl s305 ⟨rfl, rfl⟩) ?_
      refine wl_vw (.bool false) 1 true 81 rfl rfl rfl rfl rfl (y_geq rfl rfl rfl (decide_eq_false d314) ⟨rfl, rfl⟩) ?_
      refine wl_vw (.bool false) 1 true 81 rfl rfl rfl rfl rfl (y_mov rfl rfl ⟨rfl, rfl⟩) ?_
      refine wl_unless 6 true 86 rfl rfl rfl (Or.inl rfl) rfl ?_
      refine wl_unless 6 true 86 rfl rfl rfl (Or.inl rfl) rfl ?_
      refine wl_vw (.bool false) 1 true 81 rfl rfl rfl rfl rfl (y_pickF rfl rfl rfl ⟨rfl, rfl⟩) ?_
      refine wl_vw (.bool true) 1 true 81 rfl rfl rfl rfl rfl (y_eqlB rfl rfl rfl Tryd.underlying4 ((by rw [beq_iff_eq]; first | exact decide_eq_decide.2 (by omega) | exact decide_eq_false (by omega) | exact decide_eq_true (by omega))) ⟨rfl, rfl⟩) ?_
      refine wl_v (.bool true) rfl rfl (y_pickT rfl rfl rfl ⟨rfl, rfl⟩) ?_
      refine wl_v (.bool true) rfl rfl (y_mov rfl rfl ⟨rfl, rfl⟩) ?_
      refine wl_vw (.int .i64 (chE (k) (Ch.mk (m) (0) (0) (0) (0) (fun _ => (0 : Int))))) 12 true 92 rfl rfl rfl rfl rfl (y_mov rfl s309 ⟨rfl, rfl⟩) ?_
      refine wl_vw (.bool (decide ((chE (k) (Ch.mk (m) (0) (0) (0) (0) (fun _ => (0 : Int)))) = (0)))) 12 true 92 rfl rfl rfl rfl rfl (y_eqlI rfl rfl rfl rfl ⟨rfl, rfl⟩) ?_
      refine wl_vw (.bool false) 12 true 92 rfl rfl rfl rfl rfl (y_mov rfl (Eq.trans s304 (congrArg Value.bool (decide_eq_false d344))) ⟨rfl, rfl⟩) ?_
      refine wl_vw (.bool true) 12 true 92 rfl rfl rfl rfl rfl (y_eqlB rfl rfl rfl Tryd.underlying4 ((by rw [beq_iff_eq]; first | exact decide_eq_decide.2 (by omega) | exact decide_eq_false (by omega) | exact decide_eq_true (by omega))) ⟨rfl, rfl⟩) ?_
      refine wl_v (.bool true) rfl rfl (y_pickT rfl rfl rfl ⟨rfl, rfl⟩) ?_
      refine wl_v (.bool true) rfl rfl (y_mov rfl rfl ⟨rfl, rfl⟩) ?_
      refine wl_vw (.int .i64 (chE (k) (Ch.mk (m) (0) (0) (0) (0) (upd (fun _ => (0 : Int)) (j) (((1048577 + n : Nat) : Int)))))) 18 true 98 rfl rfl rfl rfl rfl (y_mov rfl s310 ⟨rfl, rfl⟩) ?_
      refine wl_vw (.bool true) 18 true 98 rfl rfl rfl rfl rfl (y_eqlI rfl rfl rfl (decide_eq_true hfa) ⟨rfl, rfl⟩) ?_
      refine wl_v (.bool true) rfl rfl (y_pickT rfl rfl rfl ⟨rfl, rfl⟩) ?_
      refine wl_v (.bool true) rfl rfl (y_mov rfl rfl ⟨rfl, rfl⟩) ?_
      refine wl_vw (.int .i64 (chE (k) (Ch.mk (m) (1) (0) (0) (1) (fun _ => (0 : Int))))) 22 true 102 rfl rfl rfl rfl rfl (y_mov rfl s313 ⟨rfl, rfl⟩) ?_
      refine wl_vw (.bool (decide ((chE (k) (Ch.mk (m) (1) (0) (0) (1) (fun _ => (0 : Int)))) = (0)))) 22 true 102 rfl rfl rfl rfl rfl (y_eqlI rfl rfl rfl rfl ⟨rfl, rfl⟩) ?_
      refine wl_vw (.bool false) 22 true 102 rfl rfl rfl rfl rfl (y_mov rfl (Eq.trans s304 (congrArg Value.bool (decide_eq_false d344))) ⟨rfl, rfl⟩) ?_
      refine wl_vw (.bool false) 22 true 102 rfl rfl rfl rfl rfl (y_mov rfl rfl ⟨rfl, rfl⟩) ?_
      refine wl_unless 26 true 106 rfl rfl rfl (Or.inl rfl) rfl ?_
      refine wl_vw (.bool false) 22 true 102 rfl rfl rfl rfl rfl (y_pickF rfl rfl rfl ⟨rfl, rfl⟩) ?_
      refine wl_vw (.bool false) 22 true 102 rfl rfl rfl rfl rfl (y_mov rfl rfl ⟨rfl, rfl⟩) ?_
      refine wl_unless 29 true 109 rfl rfl rfl (Or.inl rfl) rfl ?_
      refine wl_vw (.bool false) 22 true 102 rfl rfl rfl rfl rfl (y_pickF rfl rfl rfl ⟨rfl, rfl⟩) ?_
      refine wl_vw (.bool true) 22 true 102 rfl rfl rfl rfl rfl (y_eqlB rfl rfl rfl Tryd.underlying4 ((by first | exact ref_eq1 k m (by omega) (by assumption) | exact ref_eq2 k m (.inl (by omega)) | exact ref_eq2 k m (.inr (by assumption)))) ⟨rfl, rfl⟩) ?_
      refine wl_v (.bool true) rfl rfl (y_pickT rfl rfl rfl ⟨rfl, rfl⟩) ?_
      refine wl_v (.bool true) rfl rfl (y_asg rfl rfl ⟨rfl, rfl⟩) ?_
      refine wl_nil fun F354 hF355 => ?_
      have s356 := (hF355 114).trans s308
      have s357 : F354 12 = .bool true := (hF355 12).trans rfl
      clear hF355
      refine then_normal ?_
      refine wq_ret ?_
      exact end_tmp (v := .bool true) s356 rfl rfl s357 ⟨rfl, K301⟩
  ·replace c112 := of_decide_eq_false c112
   refine wq_skip ?_
   refine then_normal ?_
   refine wq_seq ?_
   refine wq_cut (fun FF ww => FF 17 = .bool (decide (0 ≤ m ∧ m ≤ mostK k)) ∧ FF 0 = .int .i64 (k) ∧ FF 1 = .int .i64 (m) ∧ FF 2 = .int .i64 (q) ∧ FF 4 = .int .u8 (((a : Nat) : Int)) ∧ FF 5 = .int .u16 (((n : Nat) : Int)) ∧ FF 13 = .bool true ∧ FF 15 = .int .i64 (ern (q)) ∧ FF 114 = undef ∧ Kept (fun _ => False) w0 ww ∧ Blk ww p1 24 (b) ∧ Blk ww p36 25 (buB (b) (Ch.mk (0) (0) (0) (0) (0) (fun _ => (0 : Int))).b (q))) ?_ ?_
   ·skip
    try (have hmo := most_out (k := k) (by omega))
    by_cases d358 : (0) ≤ (m)
    ·skip
     refine wq_region ?_
     refine wl_v (.int .i64 (m)) rfl rfl (y_mov rfl s102 ⟨rfl, rfl⟩) ?_
     refine wl_v (.bool true) rfl rfl (y_geq rfl rfl rfl (decide_eq_true d358) ⟨rfl, rfl⟩) ?_
     refine wl_v (.bool true) rfl rfl (y_mov rfl rfl ⟨rfl, rfl⟩) ?_
     refine wl_vw (.int .i64 (m)) 2 true 47 rfl rfl rfl rfl rfl (y_mov rfl s102 ⟨rfl, rfl⟩) ?_
     refine wl_vw (.int .i64 (-1)) 2 true 47 rfl rfl rfl rfl rfl (y_mov rfl s108 ⟨rfl, rfl⟩) ?_
     refine wl_vw (.bool (decide ((m) ≤ (-1)))) 2 true 47 rfl rfl rfl rfl rfl (y_leq rfl rfl rfl rfl ⟨rfl, rfl⟩) ?_
     refine wl_v (.bool (decide ((m) ≤ (-1)))) rfl rfl (y_pickT rfl rfl rfl ⟨rfl, rfl⟩) ?_
     refine wl_v (.bool (decide ((m) ≤ (-1)))) rfl rfl (y_asg rfl rfl ⟨rfl, rfl⟩) ?_
     refine wl_nil fun F359 hF360 => ?_
     have s361 := (hF360 0).trans s101
     have s362 := (hF360 1).trans s102
     have s363 := (hF360 2).trans s103
     have s364 := (hF360 4).trans s104
     have s365 := (hF360 5).trans s105
     have s366 := (hF360 13).trans s106
     have s367 := (hF360 15).trans s107
     have s368 := (hF360 114).trans s109
     have s369 : F359 17 = .bool (decide ((m) ≤ (-1))) := (hF360 17).trans rfl
     clear hF360
     exact ⟨s369.trans (congrArg Value.bool (show (decide ((m) ≤ (-1))) = decide (0 ≤ m ∧ m ≤ mostK k) from by first | exact (decide_eq_true (by omega)).symm | exact (decide_eq_false (by omega)).symm | exact decide_eq_decide.2 (by omega))), s361, s362, s363, s364, s365, s366, s367, s368, K99, B110, B111⟩
    ·skip
     refine wq_region ?_
     refine wl_v (.int .i64 (m)) rfl rfl (y_mov rfl s102 ⟨rfl, rfl⟩) ?_
     refine wl_v (.bool false) rfl rfl (y_geq rfl rfl rfl (decide_eq_false d358) ⟨rfl, rfl⟩) ?_
     refine wl_v (.bool false) rfl rfl (y_mov rfl rfl ⟨rfl, rfl⟩) ?_
     refine wl_unless 2 true 47 rfl rfl rfl (Or.inl rfl) rfl ?_
     refine wl_unless 2 true 47 rfl rfl rfl (Or.inl rfl) rfl ?_
     refine wl_unless 2 true 47 rfl rfl rfl (Or.inl rfl) rfl ?_
     refine wl_v (.bool false) rfl rfl (y_pickF rfl rfl rfl ⟨rfl, rfl⟩) ?_
     refine wl_v (.bool false) rfl rfl (y_asg rfl rfl ⟨rfl, rfl⟩) ?_
     refine wl_nil fun F370 hF371 => ?_
     have s372 := (hF371 0).trans s101
     have s373 := (hF371 1).trans s102
     have s374 := (hF371 2).trans s103
     have s375 := (hF371 4).trans s104
     have s376 := (hF371 5).trans s105
     have s377 := (hF371 13).trans s106
     have s378 := (hF371 15).trans s107
     have s379 := (hF371 114).trans s109
     have s380 : F370 17 = .bool false := (hF371 17).trans rfl
     clear hF371
     exact ⟨s380.trans (congrArg Value.bool (show (false) = decide (0 ≤ m ∧ m ≤ mostK k) from by first | exact (decide_eq_true (by omega)).symm | exact (decide_eq_false (by omega)).symm | exact decide_eq_decide.2 (by omega))), s372, s373, s374, s375, s376, s377, s378, s379, K99, B110, B111⟩
   ·rintro F381 w382 ⟨s384, s385, s386, s387, s388, s389, s390, s391, s392, K383, B393, B394⟩
    refine then_normal ?_
    refine wq_seq ?_
    refine wq_region ?_
    refine wl_v (.int .i64 (m)) rfl rfl (y_mov rfl s386 ⟨rfl, rfl⟩) ?_
    refine wl_v (.agg (chL m 0 0 0 0 (fun _ => (0 : Int))).toArray) rfl rfl (y_buildL (l' := [(0, .int .i64 (m))]) (cells := (chL m 0 0 0 0 (fun _ => (0 : Int))).toArray) rfl (bpC rfl bpN) (by kernel_rfl) rfl ⟨rfl, rfl⟩) ?_
    refine wl_alloc_stc (n := 21) (vs := (chL 0 0 0 0 0 (fun _ => (0 : Int)))) rfl rfl rfl (by kernel_rfl) fun p395 w396 B398 g399 k397 => ?_
    have gr400 : Grew w0 noB (onB p395) := Grew.new K383 g399
    have K405 := K383.trans k397 (fun _ _ x => x.elim)
    refine wl_store_stc (us := (chL m 0 0 0 0 (fun _ => (0 : Int)))) stcT_choice rfl rfl rfl rfl rfl B398 rfl (oneI rfl (oneI rfl (oneI rfl (oneI rfl (oneI rfl (oneI rfl (oneI rfl (oneI rfl (oneI rfl (oneI rfl (oneI rfl (oneI rfl (oneI rfl (oneI rfl (oneI rfl (oneI rfl (oneI rfl (oneI rfl (oneI rfl (oneI rfl (oneI rfl oneN))))))))))))))))))))) fun w406 B407 k408 => ?_
    have K411 := K405.trans k408 (Grew.ok (S := fun _ => False) gr400 noB_le)
    refine wl_nil fun F412 hF413 => ?_
    have s414 := (hF413 17).trans s384
    have s415 := (hF413 0).trans s385
    have s416 := (hF413 1).trans s386
    have s417 := (hF413 2).trans s387
    have s418 := (hF413 4).trans s388
    have s419 := (hF413 5).trans s389
    have s420 := (hF413 13).trans s390
    have s421 := (hF413 15).trans s391
    have s422 := (hF413 114).trans s392
    have s423 : F412 18 = .pointer (some ⟨p395, 0, none⟩) := (hF413 18).trans rfl
    clear hF413
    refine then_normal ?_
    refine wq_seq ?_
    refine wq_region ?_
    refine wl_v (.int .i64 (k)) rfl rfl (y_mov rfl s415 ⟨rfl, rfl⟩) ?_
    refine wl_v (.agg (chL m 0 0 0 0 (fun _ => (0 : Int))).toArray) rfl rfl (y_load_stc stcT_choice rfl s423 B407 ⟨rfl, rfl⟩) ?_
    refine wl_call (R := fun v_ w_ => v_ = .int .i64 (chE (k) (Ch.mk (m) (0) (0) (0) (0) (fun _ => (0 : Int)))) ∧ Kept (fun _ => False) w406 w_) rfl rfl (y_cs rfl rfl rfl (fun _ _ => by kernel_rfl) (ev_func _) (vsC rfl (vsC rfl vsN)) (bl_check (k) (Ch.mk (m) (0) (0) (0) (0) (fun _ => (0 : Int)))  _ (hA.all K411)  ) (fun e_ w_ h_ => ⟨_, h_.1, rfl, h_.2⟩)) ?_
    rintro _ w424 ⟨rfl, k425⟩
    have B428 := B407.all k425 id
    have K429 := K411.trans k425 (fun _ _ x => x.elim)
    refine wl_v (.int .i64 (chE (k) (Ch.mk (m) (0) (0) (0) (0) (fun _ => (0 : Int))))) rfl rfl (y_asg rfl rfl ⟨rfl, rfl⟩) ?_
    refine wl_nil fun F430 hF431 => ?_
    have s432 := (hF431 17).trans s414
    have s433 := (hF431 0).trans s415
    have s434 := (hF431 1).trans s416
    have s435 := (hF431 2).trans s417
    have s436 := (hF431 4).trans s418
    have s437 := (hF431 5).trans s419
    have s438 := (hF431 13).trans s420
    have s439 := (hF431 15).trans s421
    have s440 := (hF431 114).trans s422
    have s441 := (hF431 18).trans s423
    have s442 : F430 19 = .int .i64 (chE (k) (Ch.mk (m) (0) (0) (0) (0) (fun _ => (0 : Int)))) := (hF431 19).trans rfl
    clear hF431
    refine then_normal ?_
    refine wq_seq ?_
    refine wq_region ?_
    refine wl_v (.int .u8 (((a : Nat) : Int))) rfl rfl (y_mov rfl s436 ⟨rfl, rfl⟩) ?_
    refine wl_v (.int .i64 (((a : Nat) : Int))) rfl rfl (y_convR rfl rfl Tryd.underlying5 Tryd.underlying3 (i64_i rfl (by omega)) ⟨rfl, rfl⟩) ?_
    refine wl_v (.int .i64 (((j : Nat) : Int))) rfl rfl (y_rem rfl rfl rfl (by first | decide | omega) ((mod_nat6 a 16).trans (by rw [hj])) ⟨rfl, rfl⟩) ?_
    refine wl_v (.int .u16 (((n : Nat) : Int))) rfl rfl (y_mov rfl s437 ⟨rfl, rfl⟩) ?_
    refine wl_v (.int .i64 (((n : Nat) : Int))) rfl rfl (y_convR rfl rfl Tryd.underlying73 Tryd.underlying3 (i64_i rfl (by omega)) ⟨rfl, rfl⟩) ?_
    refine wl_v (.int .i64 (((1048577 + n : Nat) : Int))) rfl rfl (y_add rfl rfl rfl (i64_n (by omega) (by omega)) ⟨rfl, rfl⟩) ?_
    refine wl_v (.pointer (some ⟨p395, 5, none⟩)) rfl rfl (y_fieldR (n := 16) rfl s441 Tryd.underlying27 rfl (by kernel_rfl) (by decide) rfl ⟨rfl, rfl⟩) ?_
    refine wl_v (.pointer (some ⟨p395, 5 + (j), none⟩)) rfl rfl (y_atR (j) (s := 1) rfl rfl rfl (by omega) Tryd.underlying25 (by omega) (by kernel_rfl) (by omega) ⟨rfl, rfl⟩) ?_
    refine wl_set_stc rfl rfl rfl rfl rfl B428 (ch_at (c := Ch.mk (m) (0) (0) (0) (0) (fun _ => (0 : Int))) (by omega)) rfl (by kernel_rfl) fun w443 B444 k445 => ?_
    replace B444 : Stc w443 p395 27 (chL m 0 0 0 0 (upd (fun _ => (0 : Int)) (j) (((1048577 + n : Nat) : Int)))) := (congrArg (Stc w443 p395 27) (ch_set (Ch.mk (m) (0) (0) (0) (0) (fun _ => (0 : Int))) (j) (((1048577 + n : Nat) : Int)))).mp B444
    have K448 := K429.trans k445 (Grew.ok (S := fun _ => False) gr400 noB_le)
    refine wl_nil fun F449 hF450 => ?_
    have s451 := (hF450 17).trans s432
    have s452 := (hF450 0).trans s433
    have s453 := (hF450 1).trans s434
    have s454 := (hF450 2).trans s435
    have s455 := (hF450 13).trans s438
    have s456 := (hF450 15).trans s439
    have s457 := (hF450 114).trans s440
    have s458 := (hF450 18).trans s441
    have s459 := (hF450 19).trans s442
    clear hF450
    refine then_normal ?_
    refine wq_seq ?_
    refine wq_region ?_
    refine wl_v (.int .i64 (k)) rfl rfl (y_mov rfl s452 ⟨rfl, rfl⟩) ?_
    refine wl_v (.agg (chL m 0 0 0 0 (upd (fun _ => (0 : Int)) (j) (((1048577 + n : Nat) : Int)))).toArray) rfl rfl (y_load_stc stcT_choice rfl s458 B444 ⟨rfl, rfl⟩) ?_
    refine wl_call (R := fun v_ w_ => v_ = .int .i64 (chE (k) (Ch.mk (m) (0) (0) (0) (0) (upd (fun _ => (0 : Int)) (j) (((1048577 + n : Nat) : Int))))) ∧ Kept (fun _ => False) w443 w_) rfl rfl (y_cs rfl rfl rfl (fun _ _ => by kernel_rfl) (ev_func _) (vsC rfl (vsC rfl vsN)) (bl_check (k) (Ch.mk (m) (0) (0) (0) (0) (upd (fun _ => (0 : Int)) (j) (((1048577 + n : Nat) : Int))))  _ (hA.all K448)  ) (fun e_ w_ h_ => ⟨_, h_.1, rfl, h_.2⟩)) ?_
    rintro _ w460 ⟨rfl, k461⟩
    have K465 := K448.trans k461 (fun _ _ x => x.elim)
    refine wl_v (.int .i64 (chE (k) (Ch.mk (m) (0) (0) (0) (0) (upd (fun _ => (0 : Int)) (j) (((1048577 + n : Nat) : Int)))))) rfl rfl (y_asg rfl rfl ⟨rfl, rfl⟩) ?_
    refine wl_nil fun F466 hF467 => ?_
    have s468 := (hF467 17).trans s451
    have s469 := (hF467 0).trans s452
    have s470 := (hF467 1).trans s453
    have s471 := (hF467 2).trans s454
    have s472 := (hF467 13).trans s455
    have s473 := (hF467 15).trans s456
    have s474 := (hF467 114).trans s457
    have s475 := (hF467 19).trans s459
    have s476 : F466 20 = .int .i64 (chE (k) (Ch.mk (m) (0) (0) (0) (0) (upd (fun _ => (0 : Int)) (j) (((1048577 + n : Nat) : Int))))) := (hF467 20).trans rfl
    clear hF467
    refine then_normal ?_
    refine wq_seq ?_
    refine wq_region ?_
    refine wl_v (.int .i64 (m)) rfl rfl (y_mov rfl s470 ⟨rfl, rfl⟩) ?_
    refine wl_call (R := fun v_ w_ => v_ = .tuple #[.bool (pastB (m)), .bool (nextB (m))] ∧ Kept (fun _ => False) w460 w_) rfl rfl (y_cs rfl rfl rfl (fun _ _ => by kernel_rfl) (ev_func _) (vsC rfl vsN) (bl_vectors (m)  _ (hA.all K465)  ) (fun e_ w_ h_ => ⟨_, h_.1, rfl, h_.2⟩)) ?_
    rintro _ w477 ⟨rfl, k478⟩
    have K482 := K465.trans k478 (fun _ _ x => x.elim)
    refine wl_v (.tuple #[.bool (pastB (m)), .bool (nextB (m))]) rfl rfl (y_mov rfl rfl ⟨rfl, rfl⟩) ?_
    refine wl_v (.bool (pastB (m))) rfl rfl (y_ext rfl rfl rfl ⟨rfl, rfl⟩) ?_
    refine wl_v (.bool (nextB (m))) rfl rfl (y_ext rfl rfl rfl ⟨rfl, rfl⟩) ?_
    refine wl_v (.bool (pastB (m))) rfl rfl (y_asg rfl rfl ⟨rfl, rfl⟩) ?_
    refine wl_v (.bool (nextB (m))) rfl rfl (y_asg rfl rfl ⟨rfl, rfl⟩) ?_
    refine wl_nil fun F483 hF484 => ?_
    have s485 := (hF484 17).trans s468
    have s486 := (hF484 0).trans s469
    have s487 := (hF484 1).trans s470
    have s488 := (hF484 2).trans s471
    have s489 := (hF484 13).trans s472
    have s490 := (hF484 15).trans s473
    have s491 := (hF484 114).trans s474
    have s492 := (hF484 19).trans s475
    have s493 := (hF484 20).trans s476
    have s494 : F483 21 = .bool (pastB (m)) := (hF484 21).trans rfl
    have s495 : F483 22 = .bool (nextB (m)) := (hF484 22).trans rfl
    clear hF484
    refine then_normal ?_
    refine wq_seq ?_
    refine wq_region ?_
    refine wl_v (.int .i64 (m)) rfl rfl (y_mov rfl s487 ⟨rfl, rfl⟩) ?_
    refine wl_v (.agg #[.int .i64 (1), .int .i64 (0)]) rfl rfl (y_buildL (l' := [(0, .int .i64 (1))]) (cells := #[.int .i64 (1), .int .i64 (0)]) rfl (bpC rfl bpN) (by kernel_rfl) rfl ⟨rfl, rfl⟩) ?_
    refine wl_v (.agg #[.int .i64 (0), .int .i64 (1)]) rfl rfl (y_buildL (l' := [(1, .int .i64 (1))]) (cells := #[.int .i64 (0), .int .i64 (1)]) rfl (bpC rfl bpN) (by kernel_rfl) rfl ⟨rfl, rfl⟩) ?_
    refine wl_v (.agg (chL m 1 0 0 1 (fun _ => (0 : Int))).toArray) rfl rfl (y_buildL (l' := [(0, .int .i64 (m)), (1, .agg #[.int .i64 (1), .int .i64 (0)]), (2, .agg #[.int .i64 (0), .int .i64 (1)])]) (cells := (chL m 1 0 0 1 (fun _ => (0 : Int))).toArray) rfl (bpC rfl (bpC rfl (bpC rfl bpN))) (by kernel_rfl) rfl ⟨rfl, rfl⟩) ?_
    refine wl_alloc_stc (n := 21) (vs := (chL 0 0 0 0 0 (fun _ => (0 : Int)))) rfl rfl rfl (by kernel_rfl) fun p496 w497 B499 g500 k498 => ?_
    have gr501 : Grew w0 noB (onB p496) := Grew.new K482 g500
    have K508 := K482.trans k498 (fun _ _ x => x.elim)
    refine wl_store_stc (us := (chL m 1 0 0 1 (fun _ => (0 : Int)))) stcT_choice rfl rfl rfl rfl rfl B499 rfl (oneI rfl (oneI rfl (oneI rfl (oneI rfl (oneI rfl (oneI rfl (oneI rfl (oneI rfl (oneI rfl (oneI rfl (oneI rfl (oneI rfl (oneI rfl (oneI rfl (oneI rfl (oneI rfl (oneI rfl (oneI rfl (oneI rfl (oneI rfl (oneI rfl oneN))))))))))))))))))))) fun w509 B510 k511 => ?_
    have K515 := K508.trans k511 (Grew.ok (S := fun _ => False) gr501 noB_le)
    refine wl_nil fun F516 hF517 => ?_
    have s518 := (hF517 17).trans s485
    have s519 := (hF517 0).trans s486
    have s520 := (hF517 2).trans s488
    have s521 := (hF517 13).trans s489
    have s522 := (hF517 15).trans s490
    have s523 := (hF517 114).trans s491
    have s524 := (hF517 19).trans s492
    have s525 := (hF517 20).trans s493
    have s526 := (hF517 21).trans s494
    have s527 := (hF517 22).trans s495
    have s528 : F516 23 = .pointer (some ⟨p496, 0, none⟩) := (hF517 23).trans rfl
    clear hF517
    refine then_normal ?_
    refine wq_seq ?_
    refine wq_region ?_
    refine wl_v (.int .i64 (k)) rfl rfl (y_mov rfl s519 ⟨rfl, rfl⟩) ?_
    refine wl_v (.agg (chL m 1 0 0 1 (fun _ => (0 : Int))).toArray) rfl rfl (y_load_stc stcT_choice rfl s528 B510 ⟨rfl, rfl⟩) ?_
    refine wl_call (R := fun v_ w_ => v_ = .int .i64 (chE (k) (Ch.mk (m) (1) (0) (0) (1) (fun _ => (0 : Int)))) ∧ Kept (fun _ => False) w509 w_) rfl rfl (y_cs rfl rfl rfl (fun _ _ => by kernel_rfl) (ev_func _) (vsC rfl (vsC rfl vsN)) (bl_check (k) (Ch.mk (m) (1) (0) (0) (1) (fun _ => (0 : Int)))  _ (hA.all K515)  ) (fun e_ w_ h_ => ⟨_, h_.1, rfl, h_.2⟩)) ?_
    rintro _ w529 ⟨rfl, k530⟩
    have K535 := K515.trans k530 (fun _ _ x => x.elim)
    refine wl_v (.int .i64 (chE (k) (Ch.mk (m) (1) (0) (0) (1) (fun _ => (0 : Int))))) rfl rfl (y_asg rfl rfl ⟨rfl, rfl⟩) ?_
    refine wl_nil fun F536 hF537 => ?_
    have s538 := (hF537 17).trans s518
    have s539 := (hF537 2).trans s520
    have s540 := (hF537 13).trans s521
    have s541 := (hF537 15).trans s522
    have s542 := (hF537 114).trans s523
    have s543 := (hF537 19).trans s524
    have s544 := (hF537 20).trans s525
    have s545 := (hF537 21).trans s526
    have s546 := (hF537 22).trans s527
    have s547 : F536 24 = .int .i64 (chE (k) (Ch.mk (m) (1) (0) (0) (1) (fun _ => (0 : Int)))) := (hF537 24).trans rfl
    clear hF537
    refine then_normal ?_
    refine wq_seq ?_
    by_cases d548 : (0) ≤ (q)
    ·skip
     by_cases d549 : (q) ≤ (20)
     ·skip
      by_cases d550 : 0 ≤ m ∧ m ≤ mostK k
      ·skip
       rcases Bool.eq_false_or_eq_true (pastB (m)) with d551 | d551
       ·skip
        refine wq_region ?_
        refine wl_v (.bool true) rfl rfl (y_mov rfl s540 ⟨rfl, rfl⟩) ?_
        refine wl_v (.bool true) rfl rfl (y_mov rfl rfl ⟨rfl, rfl⟩) ?_
        refine wl_vw (.int .i64 (ern (q))) 1 true 81 rfl rfl rfl rfl rfl (y_mov rfl s541 ⟨rfl, rfl⟩) ?_
        refine wl_vw (.bool (decide ((ern (q)) = (0)))) 1 true 81 rfl rfl rfl rfl rfl (y_eqlI rfl rfl rfl rfl ⟨rfl, rfl⟩) ?_
        refine wl_vw (.int .i64 (q)) 1 true 81 rfl rfl rfl rfl rfl (y_mov rfl s539 ⟨rfl, rfl⟩) ?_
        refine wl_vw (.bool true) 1 true 81 rfl rfl rfl rfl rfl (y_geq rfl rfl rfl (decide_eq_true d548) ⟨rfl, rfl⟩) ?_
        refine wl_vw (.bool true) 1 true 81 rfl rfl rfl rfl rfl (y_mov rfl rfl ⟨rfl, rfl⟩) ?_
        refine wl_vw (.int .i64 (q)) 6 true 86 rfl rfl rfl rfl rfl (y_mov rfl s539 ⟨rfl, rfl⟩) ?_
        refine wl_vw (.bool true) 6 true 86 rfl rfl rfl rfl rfl (y_leq rfl rfl rfl (decide_eq_true d549) ⟨rfl, rfl⟩) ?_
        refine wl_vw (.bool true) 1 true 81 rfl rfl rfl rfl rfl (y_pickT rfl rfl rfl ⟨rfl, rfl⟩) ?_
        refine wl_vw (.bool true) 1 true 81 rfl rfl rfl rfl rfl (y_eqlB rfl rfl rfl Tryd.underlying4 ((by rw [beq_iff_eq]; first | exact decide_eq_decide.2 (by omega) | exact decide_eq_false (by omega) | exact decide_eq_true (by omega))) ⟨rfl, rfl⟩) ?_
        refine wl_v (.bool true) rfl rfl (y_pickT rfl rfl rfl ⟨rfl, rfl⟩) ?_
        refine wl_v (.bool true) rfl rfl (y_mov rfl rfl ⟨rfl, rfl⟩) ?_
        refine wl_vw (.int .i64 (chE (k) (Ch.mk (m) (0) (0) (0) (0) (fun _ => (0 : Int))))) 12 true 92 rfl rfl rfl rfl rfl (y_mov rfl s543 ⟨rfl, rfl⟩) ?_
        refine wl_vw (.bool (decide ((chE (k) (Ch.mk (m) (0) (0) (0) (0) (fun _ => (0 : Int)))) = (0)))) 12 true 92 rfl rfl rfl rfl rfl (y_eqlI rfl rfl rfl rfl ⟨rfl, rfl⟩) ?_
        refine wl_vw (.bool true) 12 true 92 rfl rfl rfl rfl rfl (y_mov rfl (Eq.trans s538 (congrArg Value.bool (decide_eq_true d550))) ⟨rfl, rfl⟩) ?_
        refine wl_vw (.bool true) 12 true 92 rfl rfl rfl rfl rfl (y_eqlB rfl rfl rfl Tryd.underlying4 ((by rw [beq_iff_eq]; first | exact decide_eq_decide.2 (by omega) | exact decide_eq_false (by omega) | exact decide_eq_true (by omega))) ⟨rfl, rfl⟩) ?_
        refine wl_v (.bool true) rfl rfl (y_pickT rfl rfl rfl ⟨rfl, rfl⟩) ?_
        refine wl_v (.bool true) rfl rfl (y_mov rfl rfl ⟨rfl, rfl⟩) ?_
        refine wl_vw (.int .i64 (chE (k) (Ch.mk (m) (0) (0) (0) (0) (upd (fun _ => (0 : Int)) (j) (((1048577 + n : Nat) : Int)))))) 18 true 98 rfl rfl rfl rfl rfl (y_mov rfl s544 ⟨rfl, rfl⟩) ?_
        refine wl_vw (.bool true) 18 true 98 rfl rfl rfl rfl rfl (y_eqlI rfl rfl rfl (decide_eq_true hfa) ⟨rfl, rfl⟩) ?_
        refine wl_v (.bool true) rfl rfl (y_pickT rfl rfl rfl ⟨rfl, rfl⟩) ?_
        refine wl_v (.bool true) rfl rfl (y_mov rfl rfl ⟨rfl, rfl⟩) ?_
        refine wl_vw (.int .i64 (chE (k) (Ch.mk (m) (1) (0) (0) (1) (fun _ => (0 : Int))))) 22 true 102 rfl rfl rfl rfl rfl (y_mov rfl s547 ⟨rfl, rfl⟩) ?_
        refine wl_vw (.bool (decide ((chE (k) (Ch.mk (m) (1) (0) (0) (1) (fun _ => (0 : Int)))) = (0)))) 22 true 102 rfl rfl rfl rfl rfl (y_eqlI rfl rfl rfl rfl ⟨rfl, rfl⟩) ?_
        refine wl_vw (.bool true) 22 true 102 rfl rfl rfl rfl rfl (y_mov rfl (Eq.trans s538 (congrArg Value.bool (decide_eq_true d550))) ⟨rfl, rfl⟩) ?_
        refine wl_vw (.bool true) 22 true 102 rfl rfl rfl rfl rfl (y_mov rfl rfl ⟨rfl, rfl⟩) ?_
        refine wl_vw (.bool true) 26 true 106 rfl rfl rfl rfl rfl (y_mov rfl (Eq.trans s545 (congrArg Value.bool (d551))) ⟨rfl, rfl⟩) ?_
        refine wl_vw (.bool true) 22 true 102 rfl rfl rfl rfl rfl (y_pickT rfl rfl rfl ⟨rfl, rfl⟩) ?_
        refine wl_vw (.bool true) 22 true 102 rfl rfl rfl rfl rfl (y_mov rfl rfl ⟨rfl, rfl⟩) ?_
        refine wl_vw (.bool (nextB (m))) 29 true 109 rfl rfl rfl rfl rfl (y_mov rfl s546 ⟨rfl, rfl⟩) ?_
        refine wl_vw (.bool (nextB (m))) 22 true 102 rfl rfl rfl rfl rfl (y_pickT rfl rfl rfl ⟨rfl, rfl⟩) ?_
        refine wl_vw (.bool true) 22 true 102 rfl rfl rfl rfl rfl (y_eqlB rfl rfl rfl Tryd.underlying4 ((by first | exact ref_eq1 k m (by omega) (by assumption) | exact ref_eq2 k m (.inl (by omega)) | exact ref_eq2 k m (.inr (by assumption)))) ⟨rfl, rfl⟩) ?_
        refine wl_v (.bool true) rfl rfl (y_pickT rfl rfl rfl ⟨rfl, rfl⟩) ?_
        refine wl_v (.bool true) rfl rfl (y_asg rfl rfl ⟨rfl, rfl⟩) ?_
        refine wl_nil fun F552 hF553 => ?_
        have s554 := (hF553 114).trans s542
        have s555 : F552 12 = .bool true := (hF553 12).trans rfl
        clear hF553
        refine then_normal ?_
        refine wq_ret ?_
        exact end_tmp (v := .bool true) s554 rfl rfl s555 ⟨rfl, K535⟩
       ·skip
        refine wq_region ?_
        refine wl_v (.bool true) rfl rfl (y_mov rfl s540 ⟨rfl, rfl⟩) ?_
        refine wl_v (.bool true) rfl rfl (y_mov rfl rfl ⟨rfl, rfl⟩) ?_
        refine wl_vw (.int .i64 (ern (q))) 1 true 81 rfl rfl rfl rfl rfl (y_mov rfl s541 ⟨rfl, rfl⟩) ?_
        refine wl_vw (.bool (decide ((ern (q)) = (0)))) 1 true 81 rfl rfl rfl rfl rfl (y_eqlI rfl rfl rfl rfl ⟨rfl, rfl⟩) ?_
        refine wl_vw (.int .i64 (q)) 1 true 81 rfl rfl rfl rfl rfl (y_mov rfl s539 ⟨rfl, rfl⟩) ?_
        refine wl_vw (.bool true) 1 true 81 rfl rfl rfl rfl rfl (y_geq rfl rfl rfl (decide_eq_true d548) ⟨rfl, rfl⟩) ?_
        refine wl_vw (.bool true) 1 true 81 rfl rfl rfl rfl rfl (y_mov rfl rfl ⟨rfl, rfl⟩) ?_
        refine wl_vw (.int .i64 (q)) 6 true 86 rfl rfl rfl rfl rfl (y_mov rfl s539 ⟨rfl, rfl⟩) ?_
        refine wl_vw (.bool true) 6 true 86 rfl rfl rfl rfl rfl (y_leq rfl rfl rfl (decide_eq_true d549) ⟨rfl, rfl⟩) ?_
        refine wl_vw (.bool true) 1 true 81 rfl rfl rfl rfl rfl (y_pickT rfl rfl rfl ⟨rfl, rfl⟩) ?_
        refine wl_vw (.bool true) 1 true 81 rfl rfl rfl rfl rfl (y_eqlB rfl rfl rfl Tryd.underlying4 ((by rw [beq_iff_eq]; first | exact decide_eq_decide.2 (by omega) | exact decide_eq_false (by omega) | exact decide_eq_true (by omega))) ⟨rfl, rfl⟩) ?_
        refine wl_v (.bool true) rfl rfl (y_pickT rfl rfl rfl ⟨rfl, rfl⟩) ?_
        refine wl_v (.bool true) rfl rfl (y_mov rfl rfl ⟨rfl, rfl⟩) ?_
        refine wl_vw (.int .i64 (chE (k) (Ch.mk (m) (0) (0) (0) (0) (fun _ => (0 : Int))))) 12 true 92 rfl rfl rfl rfl rfl (y_mov rfl s543 ⟨rfl, rfl⟩) ?_
        refine wl_vw (.bool (decide ((chE (k) (Ch.mk (m) (0) (0) (0) (0) (fun _ => (0 : Int)))) = (0)))) 12 true 92 rfl rfl rfl rfl rfl (y_eqlI rfl rfl rfl rfl ⟨rfl, rfl⟩) ?_
        refine wl_vw (.bool true) 12 true 92 rfl rfl rfl rfl rfl (y_mov rfl (Eq.trans s538 (congrArg Value.bool (decide_eq_true d550))) ⟨rfl, rfl⟩) ?_
        refine wl_vw (.bool true) 12 true 92 rfl rfl rfl rfl rfl (y_eqlB rfl rfl rfl Tryd.underlying4 ((by rw [beq_iff_eq]; first | exact decide_eq_decide.2 (by omega) | exact decide_eq_false (by omega) | exact decide_eq_true (by omega))) ⟨rfl, rfl⟩) ?_
        refine wl_v (.bool true) rfl rfl (y_pickT rfl rfl rfl ⟨rfl, rfl⟩) ?_
        refine wl_v (.bool true) rfl rfl (y_mov rfl rfl ⟨rfl, rfl⟩) ?_
        refine wl_vw (.int .i64 (chE (k) (Ch.mk (m) (0) (0) (0) (0) (upd (fun _ => (0 : Int)) (j) (((1048577 + n : Nat) : Int)))))) 18 true 98 rfl rfl rfl rfl rfl (y_mov rfl s544 ⟨rfl, rfl⟩) ?_
        refine wl_vw (.bool true) 18 true 98 rfl rfl rfl rfl rfl (y_eqlI rfl rfl rfl (decide_eq_true hfa) ⟨rfl, rfl⟩) ?_
        refine wl_v (.bool true) rfl rfl (y_pickT rfl rfl rfl ⟨rfl, rfl⟩) ?_
        refine wl_v (.bool true) rfl rfl (y_mov rfl rfl ⟨rfl, rfl⟩) ?_
        refine wl_vw (.int .i64 (chE (k) (Ch.mk (m) (1) (0) (0) (1) (fun _ => (0 : Int))))) 22 true 102 rfl rfl rfl rfl rfl (y_mov rfl s547 ⟨rfl, rfl⟩) ?_
        refine wl_vw (.bool (decide ((chE (k) (Ch.mk (m) (1) (0) (0) (1) (fun _ => (0 : Int)))) = (0)))) 22 true 102 rfl rfl rfl rfl rfl (y_eqlI rfl rfl rfl rfl ⟨rfl, rfl⟩) ?_
        refine wl_vw (.bool true) 22 true 102 rfl rfl rfl rfl rfl (y_mov rfl (Eq.trans s538 (congrArg Value.bool (decide_eq_true d550))) ⟨rfl, rfl⟩) ?_
        refine wl_vw (.bool true) 22 true 102 rfl rfl rfl rfl rfl (y_mov rfl rfl ⟨rfl, rfl⟩) ?_
        refine wl_vw (.bool false) 26 true 106 rfl rfl rfl rfl rfl (y_mov rfl (Eq.trans s545 (congrArg Value.bool (d551))) ⟨rfl, rfl⟩) ?_
        refine wl_vw (.bool false) 22 true 102 rfl rfl rfl rfl rfl (y_pickT rfl rfl rfl ⟨rfl, rfl⟩) ?_
        refine wl_vw (.bool false) 22 true 102 rfl rfl rfl rfl rfl (y_mov rfl rfl ⟨rfl, rfl⟩) ?_
        refine wl_unless 29 true 109 rfl rfl rfl (Or.inl rfl) rfl ?_
        refine wl_vw (.bool false) 22 true 102 rfl rfl rfl rfl rfl (y_pickF rfl rfl rfl ⟨rfl, rfl⟩) ?_
        refine wl_vw (.bool true) 22 true 102 rfl rfl rfl rfl rfl (y_eqlB rfl rfl rfl Tryd.underlying4 ((by first | exact ref_eq1 k m (by omega) (by assumption) | exact ref_eq2 k m (.inl (by omega)) | exact ref_eq2 k m (.inr (by assumption)))) ⟨rfl, rfl⟩) ?_
        refine wl_v (.bool true) rfl rfl (y_pickT rfl rfl rfl ⟨rfl, rfl⟩) ?_
        refine wl_v (.bool true) rfl rfl (y_asg rfl rfl ⟨rfl, rfl⟩) ?_
        refine wl_nil fun F556 hF557 => ?_
        have s558 := (hF557 114).trans s542
        have s559 : F556 12 = .bool true := (hF557 12).trans rfl
        clear hF557
        refine then_normal ?_
        refine wq_ret ?_
        exact end_tmp (v := .bool true) s558 rfl rfl s559 ⟨rfl, K535⟩
      ·skip
       refine wq_region ?_
       refine wl_v (.bool true) rfl rfl (y_mov rfl s540 ⟨rfl, rfl⟩) ?_
       refine wl_v (.bool true) rfl rfl (y_mov rfl rfl ⟨rfl, rfl⟩) ?_
       refine wl_vw (.int .i64 (ern (q))) 1 true 81 rfl rfl rfl rfl rfl (y_mov rfl s541 ⟨rfl, rfl⟩) ?_
       refine wl_vw (.bool (decide ((ern (q)) = (0)))) 1 true 81 rfl rfl rfl rfl rfl (y_eqlI rfl rfl rfl rfl ⟨rfl, rfl⟩) ?_
       refine wl_vw (.int .i64 (q)) 1 true 81 rfl rfl rfl rfl rfl (y_mov rfl s539 ⟨rfl, rfl⟩) ?_
       refine wl_vw (.bool true) 1 true 81 rfl rfl rfl rfl rfl (y_geq rfl rfl rfl (decide_eq_true d548) ⟨rfl, rfl⟩) ?_
       refine wl_vw (.bool true) 1 true 81 rfl rfl rfl rfl rfl (y_mov rfl rfl ⟨rfl, rfl⟩) ?_
       refine wl_vw (.int .i64 (q)) 6 true 86 rfl rfl rfl rfl rfl (y_mov rfl s539 ⟨rfl, rfl⟩) ?_
       refine wl_vw (.bool true) 6 true 86 rfl rfl rfl rfl rfl (y_leq rfl rfl rfl (decide_eq_true d549) ⟨rfl, rfl⟩) ?_
       refine wl_vw (.bool true) 1 true 81 rfl rfl rfl rfl rfl (y_pickT rfl rfl rfl ⟨rfl, rfl⟩) ?_
       refine wl_vw (.bool true) 1 true 81 rfl rfl rfl rfl rfl (y_eqlB rfl rfl rfl Tryd.underlying4 ((by rw [beq_iff_eq]; first | exact decide_eq_decide.2 (by omega) | exact decide_eq_false (by omega) | exact decide_eq_true (by omega))) ⟨rfl, rfl⟩) ?_
       refine wl_v (.bool true) rfl rfl (y_pickT rfl rfl rfl ⟨rfl, rfl⟩) ?_
       refine wl_v (.bool true) rfl rfl (y_mov rfl rfl ⟨rfl, rfl⟩) ?_
       refine wl_vw (.int .i64 (chE (k) (Ch.mk (m) (0) (0) (0) (0) (fun _ => (0 : Int))))) 12 true 92 rfl rfl rfl rfl rfl (y_mov rfl s543 ⟨rfl, rfl⟩) ?_
       refine wl_vw (.bool (decide ((chE (k) (Ch.mk (m) (0) (0) (0) (0) (fun _ => (0 : Int)))) = (0)))) 12 true 92 rfl rfl rfl rfl rfl (y_eqlI rfl rfl rfl rfl ⟨rfl, rfl⟩) ?_
       refine wl_vw (.bool false) 12 true 92 rfl rfl rfl rfl rfl (y_mov rfl (Eq.trans s538 (congrArg Value.bool (decide_eq_false d550))) ⟨rfl, rfl⟩) ?_
       refine wl_vw (.bool true) 12 true 92 rfl rfl rfl rfl rfl (y_eqlB rfl rfl rfl Tryd.underlying4 ((by rw [beq_iff_eq]; first | exact decide_eq_decide.2 (by omega) | exact decide_eq_false (by omega) | exact decide_eq_true (by omega))) ⟨rfl, rfl⟩) ?_
       refine wl_v (.bool true) rfl rfl (y_pickT rfl rfl rfl ⟨rfl, rfl⟩) ?_
       refine wl_v (.bool true) rfl rfl (y_mov rfl rfl ⟨rfl, rfl⟩) ?_
       refine wl_vw (.int .i64 (chE (k) (Ch.mk (m) (0) (0) (0) (0) (upd (fun _ => (0 : Int)) (j) (((1048577 + n : Nat) : Int)))))) 18 true 98 rfl rfl rfl rfl rfl (y_mov rfl s544 ⟨rfl, rfl⟩) ?_
       refine wl_vw (.bool true) 18 true 98 rfl rfl rfl rfl rfl (y_eqlI rfl rfl rfl (decide_eq_true hfa) ⟨rfl, rfl⟩) ?_
       refine wl_v (.bool true) rfl rfl (y_pickT rfl rfl rfl ⟨rfl, rfl⟩) ?_
       refine wl_v (.bool true) rfl rfl (y_mov rfl rfl ⟨rfl, rfl⟩) ?_
       refine wl_vw (.int .i64 (chE (k) (Ch.mk (m) (1) (0) (0) (1) (fun _ => (0 : Int))))) 22 true 102 rfl rfl rfl rfl rfl (y_mov rfl s547 ⟨rfl, rfl⟩) ?_
       refine wl_vw (.bool (decide ((chE (k) (Ch.mk (m) (1) (0) (0) (1) (fun _ => (0 : Int)))) = (0)))) 22 true 102 rfl rfl rfl rfl rfl (y_eqlI rfl rfl rfl rfl ⟨rfl, rfl⟩) ?_
       refine wl_vw (.bool false) 22 true 102 rfl rfl rfl rfl rfl (y_mov rfl (Eq.trans s538 (congrArg Value.bool (decide_eq_false d550))) ⟨rfl, rfl⟩) ?_
       refine wl_vw (.bool false) 22 true 102 rfl rfl rfl rfl rfl (y_mov rfl rfl ⟨rfl, rfl⟩) ?_
       refine wl_unless 26 true 106 rfl rfl rfl (Or.inl rfl) rfl ?_
       refine wl_vw (.bool false) 22 true 102 rfl rfl rfl rfl rfl (y_pickF rfl rfl rfl ⟨rfl, rfl⟩) ?_
       refine wl_vw (.bool false) 22 true 102 rfl rfl rfl rfl rfl (y_mov rfl rfl ⟨rfl, rfl⟩) ?_
       refine wl_unless 29 true 109 rfl rfl rfl (Or.inl rfl) rfl ?_
       refine wl_vw (.bool false) 22 true 102 rfl rfl rfl rfl rfl (y_pickF rfl rfl rfl ⟨rfl, rfl⟩) ?_
       refine wl_vw (.bool true) 22 true 102 rfl rfl rfl rfl rfl (y_eqlB rfl rfl rfl Tryd.underlying4 ((by first | exact ref_eq1 k m (by omega) (by assumption) | exact ref_eq2 k m (.inl (by omega)) | exact ref_eq2 k m (.inr (by assumption)))) ⟨rfl, rfl⟩) ?_
       refine wl_v (.bool true) rfl rfl (y_pickT rfl rfl rfl ⟨rfl, rfl⟩) ?_
       refine wl_v (.bool true) rfl rfl (y_asg rfl rfl ⟨rfl, rfl⟩) ?_
       refine wl_nil fun F560 hF561 => ?_
       have s562 := (hF561 114).trans s542
       have s563 : F560 12 = .bool true := (hF561 12).trans rfl
       clear hF561
       refine then_normal ?_
       refine wq_ret ?_
       exact end_tmp (v := .bool true) s562 rfl rfl s563 ⟨rfl, K535⟩
     ·skip
      by_cases d564 : 0 ≤ m ∧ m ≤ mostK k
      ·skip
       rcases Bool.eq_false_or_eq_true (pastB (m)) with d565 | d565
       ·skip
        refine wq_region ?_
        refine wl_v (.bool true) rfl rfl (y_mov rfl s540 ⟨rfl, rfl⟩) ?_
        refine wl_v (.bool true) rfl rfl (y_mov rfl rfl ⟨rfl, rfl⟩) ?_
        refine wl_vw (.int .i64 (ern (q))) 1 true 81 rfl rfl rfl rfl rfl (y_mov rfl s541 ⟨rfl, rfl⟩) ?_
        refine wl_vw (.bool (decide ((ern (q)) = (0)))) 1 true 81 rfl rfl rfl rfl rfl (y_eqlI rfl rfl rfl rfl ⟨rfl, rfl⟩) ?_
        refine wl_vw (.int .i64 (q)) 1 true 81 rfl rfl rfl rfl rfl (y_mov rfl s539 ⟨rfl, rfl⟩) ?_
        refine wl_vw (.bool true) 1 true 81 rfl rfl rfl rfl rfl (y_geq rfl rfl rfl (decide_eq_true d548) ⟨rfl, rfl⟩) ?_
        refine wl_vw (.bool true) 1 true 81 rfl rfl rfl rfl rfl (y_mov rfl rfl ⟨rfl, rfl⟩) ?_
        refine wl_vw (.int .i64 (q)) 6 true 86 rfl rfl rfl rfl rfl (y_mov rfl s539 ⟨rfl, rfl⟩) ?_
        refine wl_vw (.bool false) 6 true 86 rfl rfl rfl rfl rfl (y_leq rfl rfl rfl (decide_eq_false d549) ⟨rfl, rfl⟩) ?_
        refine wl_vw (.bool false) 1 true 81 rfl rfl rfl rfl rfl (y_pickT rfl rfl rfl ⟨rfl, rfl⟩) ?_
        refine wl_vw (.bool true) 1 true 81 rfl rfl rfl rfl rfl (y_eqlB rfl rfl rfl Tryd.underlying4 ((by rw [beq_iff_eq]; first | exact decide_eq_decide.2 (by omega) | exact decide_eq_false (by omega) | exact decide_eq_true (by omega))) ⟨rfl, rfl⟩) ?_
        refine wl_v (.bool true) rfl rfl (y_pickT rfl rfl rfl ⟨rfl, rfl⟩) ?_
        refine wl_v (.bool true) rfl rfl (y_mov rfl rfl ⟨rfl, rfl⟩) ?_
        refine wl_vw (.int .i64 (chE (k) (Ch.mk (m) (0) (0) (0) (0) (fun _ => (0 : Int))))) 12 true 92 rfl rfl rfl rfl rfl (y_mov rfl s543 ⟨rfl, rfl⟩) ?_
        refine wl_vw (.bool (decide ((chE (k) (Ch.mk (m) (0) (0) (0) (0) (fun _ => (0 : Int)))) = (0)))) 12 true 92 rfl rfl rfl rfl rfl (y_eqlI rfl rfl rfl rfl ⟨rfl, rfl⟩) ?_
        refine wl_vw (.bool true) 12 true 92 rfl rfl rfl rfl rfl (y_mov rfl (Eq.trans s538 (congrArg Value.bool (decide_eq_true d564))) ⟨rfl, rfl⟩) ?_
        refine wl_vw (.bool true) 12 true 92 rfl rfl rfl rfl rfl (y_eqlB rfl rfl rfl Tryd.underlying4 ((by rw [beq_iff_eq]; first | exact decide_eq_decide.2 (by omega) | exact decide_eq_false (by omega) | exact decide_eq_true (by omega))) ⟨rfl, rfl⟩) ?_
        refine wl_v (.bool true) rfl rfl (y_pickT rfl rfl rfl ⟨rfl, rfl⟩) ?_
        refine wl_v (.bool true) rfl rfl (y_mov rfl rfl ⟨rfl, rfl⟩) ?_
        refine wl_vw (.int .i64 (chE (k) (Ch.mk (m) (0) (0) (0) (0) (upd (fun _ => (0 : Int)) (j) (((1048577 + n : Nat) : Int)))))) 18 true 98 rfl rfl rfl rfl rfl (y_mov rfl s544 ⟨rfl, rfl⟩) ?_
        refine wl_vw (.bool true) 18 true 98 rfl rfl rfl rfl rfl (y_eqlI rfl rfl rfl (decide_eq_true hfa) ⟨rfl, rfl⟩) ?_
        refine wl_v (.bool true) rfl rfl (y_pickT rfl rfl rfl ⟨rfl, rfl⟩) ?_
        refine wl_v (.bool true) rfl rfl (y_mov rfl rfl ⟨rfl, rfl⟩) ?_
        refine wl_vw (.int .i64 (chE (k) (Ch.mk (m) (1) (0) (0) (1) (fun _ => (0 : Int))))) 22 true 102 rfl rfl rfl rfl rfl (y_mov rfl s547 ⟨rfl, rfl⟩) ?_
        refine wl_vw (.bool (decide ((chE (k) (Ch.mk (m) (1) (0) (0) (1) (fun _ => (0 : Int)))) = (0)))) 22 true 102 rfl rfl rfl rfl rfl (y_eqlI rfl rfl rfl rfl ⟨rfl, rfl⟩) ?_
        refine wl_vw (.bool true) 22 true 102 rfl rfl rfl rfl rfl (y_mov rfl (Eq.trans s538 (congrArg Value.bool (decide_eq_true d564))) ⟨rfl, rfl⟩) ?_
        refine wl_vw (.bool true) 22 true 102 rfl rfl rfl rfl rfl (y_mov rfl rfl ⟨rfl, rfl⟩) ?_
        refine wl_vw (.bool true) 26 true 106 rfl rfl rfl rfl rfl (y_mov rfl (Eq.trans s545 (congrArg Value.bool (d565))) ⟨rfl, rfl⟩) ?_
        refine wl_vw (.bool true) 22 true 102 rfl rfl rfl rfl rfl (y_pickT rfl rfl rfl ⟨rfl, rfl⟩) ?_
        refine wl_vw (.bool true) 22 true 102 rfl rfl rfl rfl rfl (y_mov rfl rfl ⟨rfl, rfl⟩) ?_
        refine wl_vw (.bool (nextB (m))) 29 true 109 rfl rfl rfl rfl rfl (y_mov rfl s546 ⟨rfl, rfl⟩) ?_
        refine wl_vw (.bool (nextB (m))) 22 true 102 rfl rfl rfl rfl rfl (y_pickT rfl rfl rfl ⟨rfl, rfl⟩) ?_
        refine wl_vw (.bool true) 22 true 102 rfl rfl rfl rfl rfl (y_eqlB rfl rfl rfl Tryd.underlying4 ((by first | exact ref_eq1 k m (by omega) (by assumption) | exact ref_eq2 k m (.inl (by omega)) | exact ref_eq2 k m (.inr (by assumption)))) ⟨rfl, rfl⟩) ?_
        refine wl_v (.bool true) rfl rfl (y_pickT rfl rfl rfl ⟨rfl, rfl⟩) ?_
        refine wl_v (.bool true) rfl rfl (y_asg rfl rfl ⟨rfl, rfl⟩) ?_
        refine wl_nil fun F566 hF567 => ?_
        have s568 := (hF567 114).trans s542
        have s569 : F566 12 = .bool true := (hF567 12).trans rfl
        clear hF567
        refine then_normal ?_
        refine wq_ret ?_
        exact end_tmp (v := .bool true) s568 rfl rfl s569 ⟨rfl, K535⟩
       ·skip
        refine wq_region ?_
        refine wl_v (.bool true) rfl rfl (y_mov rfl s540 ⟨rfl, rfl⟩) ?_
        refine wl_v (.bool true) rfl rfl (y_mov rfl rfl ⟨rfl, rfl⟩) ?_
        refine wl_vw (.int .i64 (ern (q))) 1 true 81 rfl rfl rfl rfl rfl (y_mov rfl s541 ⟨rfl, rfl⟩) ?_
        refine wl_vw (.bool (decide ((ern (q)) = (0)))) 1 true 81 rfl rfl rfl rfl rfl (y_eqlI rfl rfl rfl rfl ⟨rfl, rfl⟩) ?_
        refine wl_vw (.int .i64 (q)) 1 true 81 rfl rfl rfl rfl rfl (y_mov rfl s539 ⟨rfl, rfl⟩) ?_
        refine wl_vw (.bool true) 1 true 81 rfl rfl rfl rfl rfl (y_geq rfl rfl rfl (decide_eq_true d548) ⟨rfl, rfl⟩) ?_
        refine wl_vw (.bool true) 1 true 81 rfl rfl rfl rfl rfl (y_mov rfl rfl ⟨rfl, rfl⟩) ?_
        refine wl_vw (.int .i64 (q)) 6 true 86 rfl rfl rfl rfl rfl (y_mov rfl s539 ⟨rfl, rfl⟩) ?_
        refine wl_vw (.bool false) 6 true 86 rfl rfl rfl rfl rfl (y_leq rfl rfl rfl (decide_eq_false d549) ⟨rfl, rfl⟩) ?_
        refine wl_vw (.bool false) 1 true 81 rfl rfl rfl rfl rfl (y_pickT rfl rfl rfl ⟨rfl, rfl⟩) ?_
        refine wl_vw (.bool true) 1 true 81 rfl rfl rfl rfl rfl (y_eqlB rfl rfl rfl Tryd.underlying4 ((by rw [beq_iff_eq]; first | exact decide_eq_decide.2 (by omega) | exact decide_eq_false (by omega) | exact decide_eq_true (by omega))) ⟨rfl, rfl⟩) ?_
        refine wl_v (.bool true) rfl rfl (y_pickT rfl rfl rfl ⟨rfl, rfl⟩) ?_
        refine wl_v (.bool true) rfl rfl (y_mov rfl rfl ⟨rfl, rfl⟩) ?_
        refine wl_vw (.int .i64 (chE (k) (Ch.mk (m) (0) (0) (0) (0) (fun _ => (0 : Int))))) 12 true 92 rfl rfl rfl rfl rfl (y_mov rfl s543 ⟨rfl, rfl⟩) ?_
        refine wl_vw (.bool (decide ((chE (k) (Ch.mk (m) (0) (0) (0) (0) (fun _ => (0 : Int)))) = (0)))) 12 true 92 rfl rfl rfl rfl rfl (y_eqlI rfl rfl rfl rfl ⟨rfl, rfl⟩) ?_
        refine wl_vw (.bool true) 12 true 92 rfl rfl rfl rfl rfl (y_mov rfl (Eq.trans s538 (congrArg Value.bool (decide_eq_true d564))) ⟨rfl, rfl⟩) ?_
        refine wl_vw (.bool true) 12 true 92 rfl rfl rfl rfl rfl (y_eqlB rfl rfl rfl Tryd.underlying4 ((by rw [beq_iff_eq]; first | exact decide_eq_decide.2 (by omega) | exact decide_eq_false (by omega) | exact decide_eq_true (by omega))) ⟨rfl, rfl⟩) ?_
        refine wl_v (.bool true) rfl rfl (y_pickT rfl rfl rfl ⟨rfl, rfl⟩) ?_
        refine wl_v (.bool true) rfl rfl (y_mov rfl rfl ⟨rfl, rfl⟩) ?_
        refine wl_vw (.int .i64 (chE (k) (Ch.mk (m) (0) (0) (0) (0) (upd (fun _ => (0 : Int)) (j) (((1048577 + n : Nat) : Int)))))) 18 true 98 rfl rfl rfl rfl rfl (y_mov rfl s544 ⟨rfl, rfl⟩) ?_
        refine wl_vw (.bool true) 18 true 98 rfl rfl rfl rfl rfl (y_eqlI rfl rfl rfl (decide_eq_true hfa) ⟨rfl, rfl⟩) ?_
        refine wl_v (.bool true) rfl rfl (y_pickT rfl rfl rfl ⟨rfl, rfl⟩) ?_
        refine wl_v (.bool true) rfl rfl (y_mov rfl rfl ⟨rfl, rfl⟩) ?_
        refine wl_vw (.int .i64 (chE (k) (Ch.mk (m) (1) (0) (0) (1) (fun _ => (0 : Int))))) 22 true 102 rfl rfl rfl rfl rfl (y_mov rfl s547 ⟨rfl, rfl⟩) ?_
        refine wl_vw (.bool (decide ((chE (k) (Ch.mk (m) (1) (0) (0) (1) (fun _ => (0 : Int)))) = (0)))) 22 true 102 rfl rfl rfl rfl rfl (y_eqlI rfl rfl rfl rfl ⟨rfl, rfl⟩) ?_
        refine wl_vw (.bool true) 22 true 102 rfl rfl rfl rfl rfl (y_mov rfl (Eq.trans s538 (congrArg Value.bool (decide_eq_true d564))) ⟨rfl, rfl⟩) ?_
        refine wl_vw (.bool true) 22 true 102 rfl rfl rfl rfl rfl (y_mov rfl rfl ⟨rfl, rfl⟩) ?_
        refine wl_vw (.bool false) 26 true 106 rfl rfl rfl rfl rfl (y_mov rfl (Eq.trans s545 (congrArg Value.bool (d565))) ⟨rfl, rfl⟩) ?_
        refine wl_vw (.bool false) 22 true 102 rfl rfl rfl rfl rfl (y_pickT rfl rfl rfl ⟨rfl, rfl⟩) ?_
        refine wl_vw (.bool false) 22 true 102 rfl rfl rfl rfl rfl (y_mov rfl rfl ⟨rfl, rfl⟩) ?_
        refine wl_unless 29 true 109 rfl rfl rfl (Or.inl rfl) rfl ?_
        refine wl_vw (.bool false) 22 true 102 rfl rfl rfl rfl rfl (y_pickF rfl rfl rfl ⟨rfl, rfl⟩) ?_
        refine wl_vw (.bool true) 22 true 102 rfl rfl rfl rfl rfl (y_eqlB rfl rfl rfl Tryd.underlying4 ((by first | exact ref_eq1 k m (by omega) (by assumption) | exact ref_eq2 k m (.inl (by omega)) | exact ref_eq2 k m (.inr (by assumption)))) ⟨rfl, rfl⟩) ?_
        refine wl_v (.bool true) rfl rfl (y_pickT rfl rfl rfl ⟨rfl, rfl⟩) ?_
        refine wl_v (.bool true) rfl rfl (y_asg rfl rfl ⟨rfl, rfl⟩) ?_
        refine wl_nil fun F570 hF571 => ?_
        have s572 := (hF571 114).trans s542
        have s573 : F570 12 = .bool true := (hF571 12).trans rfl
        clear hF571
        refine then_normal ?_
        refine wq_ret ?_
        exact end_tmp (v := .bool true) s572 rfl rfl s573 ⟨rfl, K535⟩
      ·skip
       refine wq_region ?_
       refine wl_v (.bool true) rfl rfl (y_mov rfl s540 ⟨rfl, rfl⟩) ?_
       refine wl_v (.bool true) rfl rfl (y_mov rfl rfl ⟨rfl, rfl⟩) ?_
       refine wl_vw (.int .i64 (ern (q))) 1 true 81 rfl rfl rfl rfl rfl (y_mov rfl s541 ⟨rfl, rfl⟩) ?_
       refine wl_vw (.bool (decide ((ern (q)) = (0)))) 1 true 81 rfl rfl rfl rfl rfl (y_eqlI rfl rfl rfl rfl ⟨rfl, rfl⟩) ?_
       refine wl_vw (.int .i64 (q)) 1 true 81 rfl rfl rfl rfl rfl (y_mov rfl s539 ⟨rfl, rfl⟩) ?_
       refine wl_vw (.bool true) 1 true 81 rfl rfl rfl rfl rfl (y_geq rfl rfl rfl (decide_eq_true d548) ⟨rfl, rfl⟩) ?_
       refine wl_vw (.bool true) 1 true 81 rfl rfl rfl rfl rfl (y_mov rfl rfl ⟨rfl, rfl⟩) ?_
       refine wl_vw (.int .i64 (q)) 6 true 86 rfl rfl rfl rfl rfl (y_mov rfl s539 ⟨rfl, rfl⟩) ?_
       refine wl_vw (.bool false) 6 true 86 rfl rfl rfl rfl rfl (y_leq rfl rfl rfl (decide_eq_false d549) ⟨rfl, rfl⟩) ?_
       refine wl_vw (.bool false) 1 true 81 rfl rfl rfl rfl rfl (y_pickT rfl rfl rfl ⟨rfl, rfl⟩) ?_
       refine wl_vw (.bool true) 1 true 81 rfl rfl rfl rfl rfl (y_eqlB rfl rfl rfl Tryd.underlying4 ((by rw [beq_iff_eq]; first | exact decide_eq_decide.2 (by omega) | exact decide_eq_false (by omega) | exact decide_eq_true (by omega))) ⟨rfl, rfl⟩) ?_
       refine wl_v (.bool true) rfl rfl (y_pickT rfl rfl rfl ⟨rfl, rfl⟩) ?_
       refine wl_v (.bool true) rfl rfl (y_mov rfl rfl ⟨rfl, rfl⟩) ?_
       refine wl_vw (.int .i64 (chE (k) (Ch.mk (m) (0) (0) (0) (0) (fun _ => (0 : Int))))) 12 true 92 rfl rfl rfl rfl rfl (y_mov rfl s543 ⟨rfl, rfl⟩) ?_
       refine wl_vw (.bool (decide ((chE (k) (Ch.mk (m) (0) (0) (0) (0) (fun _ => (0 : Int)))) = (0)))) 12 true 92 rfl rfl rfl rfl rfl (y_eqlI rfl rfl rfl rfl ⟨rfl, rfl⟩) ?_
       refine wl_vw (.bool false) 12 true 92 rfl rfl rfl rfl rfl (y_mov rfl (Eq.trans s538 (congrArg Value.bool (decide_eq_false d564))) ⟨rfl, rfl⟩) ?_
       refine wl_vw (.bool true) 12 true 92 rfl rfl rfl rfl rfl (y_eqlB rfl rfl rfl Tryd.underlying4 ((by rw [beq_iff_eq]; first | exact decide_eq_decide.2 (by omega) | exact decide_eq_false (by omega) | exact decide_eq_true (by omega))) ⟨rfl, rfl⟩) ?_
       refine wl_v (.bool true) rfl rfl (y_pickT rfl rfl rfl ⟨rfl, rfl⟩) ?_
       refine wl_v (.bool true) rfl rfl (y_mov rfl rfl ⟨rfl, rfl⟩) ?_
       refine wl_vw (.int .i64 (chE (k) (Ch.mk (m) (0) (0) (0) (0) (upd (fun _ => (0 : Int)) (j) (((1048577 + n : Nat) : Int)))))) 18 true 98 rfl rfl rfl rfl rfl (y_mov rfl s544 ⟨rfl, rfl⟩) ?_
       refine wl_vw (.bool true) 18 true 98 rfl rfl rfl rfl rfl (y_eqlI rfl rfl rfl (decide_eq_true hfa) ⟨rfl, rfl⟩) ?_
       refine wl_v (.bool true) rfl rfl (y_pickT rfl rfl rfl ⟨rfl, rfl⟩) ?_
       refine wl_v (.bool true) rfl rfl (y_mov rfl rfl ⟨rfl, rfl⟩) ?_
       refine wl_vw (.int .i64 (chE (k) (Ch.mk (m) (1) (0) (0) (1) (fun _ => (0 : Int))))) 22 true 102 rfl rfl rfl rfl rfl (y_mov rfl s547 ⟨rfl, rfl⟩) ?_
       refine wl_vw (.bool (decide ((chE (k) (Ch.mk (m) (1) (0) (0) (1) (fun _ => (0 : Int)))) = (0)))) 22 true 102 rfl rfl rfl rfl rfl (y_eqlI rfl rfl rfl rfl ⟨rfl, rfl⟩) ?_
       refine wl_vw (.bool false) 22 true 102 rfl rfl rfl rfl rfl (y_mov rfl (Eq.trans s538 (congrArg Value.bool (decide_eq_false d564))) ⟨rfl, rfl⟩) ?_
       refine wl_vw (.bool false) 22 true 102 rfl rfl rfl rfl rfl (y_mov rfl rfl ⟨rfl, rfl⟩) ?_
       refine wl_unless 26 true 106 rfl rfl rfl (Or.inl rfl) rfl ?_
       refine wl_vw (.bool false) 22 true 102 rfl rfl rfl rfl rfl (y_pickF rfl rfl rfl ⟨rfl, rfl⟩) ?_
       refine wl_vw (.bool false) 22 true 102 rfl rfl rfl rfl rfl (y_mov rfl rfl ⟨rfl, rfl⟩) ?_
       refine wl_unless 29 true 109 rfl rfl rfl (Or.inl rfl) rfl ?_
       refine wl_vw (.bool false) 22 true 102 rfl rfl rfl rfl rfl (y_pickF rfl rfl rfl ⟨rfl, rfl⟩) ?_
       refine wl_vw (.bool true) 22 true 102 rfl rfl rfl rfl rfl (y_eqlB rfl rfl rfl Tryd.underlying4 ((by first | exact ref_eq1 k m (by omega) (by assumption) | exact ref_eq2 k m (.inl (by omega)) | exact ref_eq2 k m (.inr (by assumption)))) ⟨rfl, rfl⟩) ?_
       refine wl_v (.bool true) rfl rfl (y_pickT rfl rfl rfl ⟨rfl, rfl⟩) ?_
       refine wl_v (.bool true) rfl rfl (y_asg rfl rfl ⟨rfl, rfl⟩) ?_
       refine wl_nil fun F574 hF575 => ?_
       have s576 := (hF575 114).trans s542
       have s577 : F574 12 = .bool true := (hF575 12).trans rfl
       clear hF575
       refine then_normal ?_
       refine wq_ret ?_
       exact end_tmp (v := .bool true) s576 rfl rfl s577 ⟨rfl, K535⟩
    ·skip
     by_cases d578 : 0 ≤ m ∧ m ≤ mostK k
     ·skip
      rcases Bool.eq_false_or_eq_true (pastB (m)) with d579 | d579
      ·skip
       refine wq_region ?_
       refine wl_v (.bool true) rfl rfl (y_mov rfl s540 ⟨rfl, rfl⟩) ?_
       refine wl_v (.bool true) rfl rfl (y_mov rfl rfl ⟨rfl, rfl⟩) ?_
       refine wl_vw (.int .i64 (ern (q))) 1 true 81 rfl rfl rfl rfl rfl (y_mov rfl s541 ⟨rfl, rfl⟩) ?_
       refine wl_vw (.bool (decide ((ern (q)) = (0)))) 1 true 81 rfl rfl rfl rfl rfl (y_eqlI rfl rfl rfl rfl ⟨rfl, rfl⟩) ?_
       refine wl_vw (.int .i64 (q)) 1 true 81 rfl rfl rfl rfl rfl (y_mov rfl s539 ⟨rfl, rfl⟩) ?_
       refine wl_vw (.bool false) 1 true 81 rfl rfl rfl rfl rfl (y_geq rfl rfl rfl (decide_eq_false d548) ⟨rfl, rfl⟩) ?_
       refine wl_vw (.bool false) 1 true 81 rfl rfl rfl rfl rfl (y_mov rfl rfl ⟨rfl, rfl⟩) ?_
       refine wl_unless 6 true 86 rfl rfl rfl (Or.inl rfl) rfl ?_
       refine wl_unless 6 true 86 rfl rfl rfl (Or.inl rfl) rfl ?_
       refine wl_vw (.bool false) 1 true 81 rfl rfl rfl rfl rfl (y_pickF rfl rfl rfl ⟨rfl, rfl⟩) ?_
       refine wl_vw (.bool true) 1 true 81 rfl rfl rfl rfl rfl (y_eqlB rfl rfl rfl Tryd.underlying4 ((by rw [beq_iff_eq]; first | exact decide_eq_decide.2 (by omega) | exact decide_eq_false (by omega) | exact decide_eq_true (by omega))) ⟨rfl, rfl⟩) ?_
       refine wl_v (.bool true) rfl rfl (y_pickT rfl rfl rfl ⟨rfl, rfl⟩) ?_
       refine wl_v (.bool true) rfl rfl (y_mov rfl rfl ⟨rfl, rfl⟩) ?_
       refine wl_vw (.int .i64 (chE (k) (Ch.mk (m) (0) (0) (0) (0) (fun _ => (0 : Int))))) 12 true 92 rfl rfl rfl rfl rfl (y_mov rfl s543 ⟨rfl, rfl⟩) ?_
       refine wl_vw (.bool (decide ((chE (k) (Ch.mk (m) (0) (0) (0) (0) (fun _ => (0 : Int)))) = (0)))) 12 true 92 rfl rfl rfl rfl rfl (y_eqlI rfl rfl rfl rfl ⟨rfl, rfl⟩) ?_
       refine wl_vw (.bool true) 12 true 92 rfl rfl rfl rfl rfl (y_mov rfl (Eq.trans s538 (congrArg Value.bool (decide_eq_true d578))) ⟨rfl, rfl⟩) ?_
       refine wl_vw (.bool true) 12 true 92 rfl rfl rfl rfl rfl (y_eqlB rfl rfl rfl Tryd.underlying4 ((by rw [beq_iff_eq]; first | exact decide_eq_decide.2 (by omega) | exact decide_eq_false (by omega) | exact decide_eq_true (by omega))) ⟨rfl, rfl⟩) ?_
       refine wl_v (.bool true) rfl rfl (y_pickT rfl rfl rfl ⟨rfl, rfl⟩) ?_
       refine wl_v (.bool true) rfl rfl (y_mov rfl rfl ⟨rfl, rfl⟩) ?_
       refine wl_vw (.int .i64 (chE (k) (Ch.mk (m) (0) (0) (0) (0) (upd (fun _ => (0 : Int)) (j) (((1048577 + n : Nat) : Int)))))) 18 true 98 rfl rfl rfl rfl rfl (y_mov rfl s544 ⟨rfl, rfl⟩) ?_
       refine wl_vw (.bool true) 18 true 98 rfl rfl rfl rfl rfl (y_eqlI rfl rfl rfl (decide_eq_true hfa) ⟨rfl, rfl⟩) ?_
       refine wl_v (.bool true) rfl rfl (y_pickT rfl rfl rfl ⟨rfl, rfl⟩) ?_
       refine wl_v (.bool true) rfl rfl (y_mov rfl rfl ⟨rfl, rfl⟩) ?_
       refine wl_vw (.int .i64 (chE (k) (Ch.mk (m) (1) (0) (0) (1) (fun _ => (0 : Int))))) 22 true 102 rfl rfl rfl rfl rfl (y_mov rfl s547 ⟨rfl, rfl⟩) ?_
       refine wl_vw (.bool (decide ((chE (k) (Ch.mk (m) (1) (0) (0) (1) (fun _ => (0 : Int)))) = (0)))) 22 true 102 rfl rfl rfl rfl rfl (y_eqlI rfl rfl rfl rfl ⟨rfl, rfl⟩) ?_
       refine wl_vw (.bool true) 22 true 102 rfl rfl rfl rfl rfl (y_mov rfl (Eq.trans s538 (congrArg Value.bool (decide_eq_true d578))) ⟨rfl, rfl⟩) ?_
       refine wl_vw (.bool true) 22 true 102 rfl rfl rfl rfl rfl (y_mov rfl rfl ⟨rfl, rfl⟩) ?_
       refine wl_vw (.bool true) 26 true 106 rfl rfl rfl rfl rfl (y_mov rfl (Eq.trans s545 (congrArg Value.bool (d579))) ⟨rfl, rfl⟩) ?_
       refine wl_vw (.bool true) 22 true 102 rfl rfl rfl rfl rfl (y_pickT rfl rfl rfl ⟨rfl, rfl⟩) ?_
       refine wl_vw (.bool true) 22 true 102 rfl rfl rfl rfl rfl (y_mov rfl rfl ⟨rfl, rfl⟩) ?_
       refine wl_vw (.bool (nextB (m))) 29 true 109 rfl rfl rfl rfl rfl (y_mov rfl s546 ⟨rfl, rfl⟩) ?_
       refine wl_vw (.bool (nextB (m))) 22 true 102 rfl rfl rfl rfl rfl (y_pickT rfl rfl rfl ⟨rfl, rfl⟩) ?_
       refine wl_vw (.bool true) 22 true 102 rfl rfl rfl rfl rfl (y_eqlB rfl rfl rfl Tryd.underlying4 ((by first | exact ref_eq1 k m (by omega) (by assumption) | exact ref_eq2 k m (.inl (by omega)) | exact ref_eq2 k m (.inr (by assumption)))) ⟨rfl, rfl⟩) ?_
       refine wl_v (.bool true) rfl rfl (y_pickT rfl rfl rfl ⟨rfl, rfl⟩) ?_
       refine wl_v (.bool true) rfl rfl (y_asg rfl rfl ⟨rfl, rfl⟩) ?_
       refine wl_nil fun F580 hF581 => ?_
       have s582 := (hF581 114).trans s542
       have s583 : F580 12 = .bool true := (hF581 12).trans rfl
       clear hF581
       refine then_normal ?_
       refine wq_ret ?_
       exact end_tmp (v := .bool true) s582 rfl rfl s583 ⟨rfl, K535⟩
      ·skip
       refine wq_region ?_
       refine wl_v (.bool true) rfl rfl (y_mov rfl s540 ⟨rfl, rfl⟩) ?_
       refine wl_v (.bool true) rfl rfl (y_mov rfl rfl ⟨rfl, rfl⟩) ?_
       refine wl_vw (.int .i64 (ern (q))) 1 true 81 rfl rfl rfl rfl rfl (y_mov rfl s541 ⟨rfl, rfl⟩) ?_
       refine wl_vw (.bool (decide ((ern (q)) = (0)))) 1 true 81 rfl rfl rfl rfl rfl (y_eqlI rfl rfl rfl rfl ⟨rfl, rfl⟩) ?_
       refine wl_vw (.int .i64 (q)) 1 true 81 rfl rfl rfl rfl rfl (y_mov rfl s539 ⟨rfl, rfl⟩) ?_
       refine wl_vw (.bool false) 1 true 81 rfl rfl rfl rfl rfl (y_geq rfl rfl rfl (decide_eq_false d548) ⟨rfl, rfl⟩) ?_
       refine wl_vw (.bool false) 1 true 81 rfl rfl rfl rfl rfl (y_mov rfl rfl ⟨rfl, rfl⟩) ?_
       refine wl_unless 6 true 86 rfl rfl rfl (Or.inl rfl) rfl ?_
       refine wl_unless 6 true 86 rfl rfl rfl (Or.inl rfl) rfl ?_
       refine wl_vw (.bool false) 1 true 81 rfl rfl rfl rfl rfl (y_pickF rfl rfl rfl ⟨rfl, rfl⟩) ?_
       refine wl_vw (.bool true) 1 true 81 rfl rfl rfl rfl rfl (y_eqlB rfl rfl rfl Tryd.underlying4 ((by rw [beq_iff_eq]; first | exact decide_eq_decide.2 (by omega) | exact decide_eq_false (by omega) | exact decide_eq_true (by omega))) ⟨rfl, rfl⟩) ?_
       refine wl_v (.bool true) rfl rfl (y_pickT rfl rfl rfl ⟨rfl, rfl⟩) ?_
       refine wl_v (.bool true) rfl rfl (y_mov rfl rfl ⟨rfl, rfl⟩) ?_
       refine wl_vw (.int .i64 (chE (k) (Ch.mk (m) (0) (0) (0) (0) (fun _ => (0 : Int))))) 12 true 92 rfl rfl rfl rfl rfl (y_mov rfl s543 ⟨rfl, rfl⟩) ?_
       refine wl_vw (.bool (decide ((chE (k) (Ch.mk (m) (0) (0) (0) (0) (fun _ => (0 : Int)))) = (0)))) 12 true 92 rfl rfl rfl rfl rfl (y_eqlI rfl rfl rfl rfl ⟨rfl, rfl⟩) ?_
       refine wl_vw (.bool true) 12 true 92 rfl rfl rfl rfl rfl (y_mov rfl (Eq.trans s538 (congrArg Value.bool (decide_eq_true d578))) ⟨rfl, rfl⟩) ?_
       refine wl_vw (.bool true) 12 true 92 rfl rfl rfl rfl rfl (y_eqlB rfl rfl rfl Tryd.underlying4 ((by rw [beq_iff_eq]; first | exact decide_eq_decide.2 (by omega) | exact decide_eq_false (by omega) | exact decide_eq_true (by omega))) ⟨rfl, rfl⟩) ?_
       refine wl_v (.bool true) rfl rfl (y_pickT rfl rfl rfl ⟨rfl, rfl⟩) ?_
       refine wl_v (.bool true) rfl rfl (y_mov rfl rfl ⟨rfl, rfl⟩) ?_
       refine wl_vw (.int .i64 (chE (k) (Ch.mk (m) (0) (0) (0) (0) (upd (fun _ => (0 : Int)) (j) (((1048577 + n : Nat) : Int)))))) 18 true 98 rfl rfl rfl rfl rfl (y_mov rfl s544 ⟨rfl, rfl⟩) ?_
       refine wl_vw (.bool true) 18 true 98 rfl rfl rfl rfl rfl (y_eqlI rfl rfl rfl (decide_eq_true hfa) ⟨rfl, rfl⟩) ?_
       refine wl_v (.bool true) rfl rfl (y_pickT rfl rfl rfl ⟨rfl, rfl⟩) ?_
       refine wl_v (.bool true) rfl rfl (y_mov rfl rfl ⟨rfl, rfl⟩) ?_
       refine wl_vw (.int .i64 (chE (k) (Ch.mk (m) (1) (0) (0) (1) (fun _ => (0 : Int))))) 22 true 102 rfl rfl rfl rfl rfl (y_mov rfl s547 ⟨rfl, rfl⟩) ?_
       refine wl_vw (.bool (decide ((chE (k) (Ch.mk (m) (1) (0) (0) (1) (fun _ => (0 : Int)))) = (0)))) 22 true 102 rfl rfl rfl rfl rfl (y_eqlI rfl rfl rfl rfl ⟨rfl, rfl⟩) ?_
       refine wl_vw (.bool true) 22 true 102 rfl rfl rfl rfl rfl (y_mov rfl (Eq.trans s538 (congrArg Value.bool (decide_eq_true d578))) ⟨rfl, rfl⟩) ?_
       refine wl_vw (.bool true) 22 true 102 rfl rfl rfl rfl rfl (y_mov rfl rfl ⟨rfl, rfl⟩) ?_
       refine wl_vw (.bool false) 26 true 106 rfl rfl rfl rfl rfl (y_mov rfl (Eq.trans s545 (congrArg Value.bool (d579))) ⟨rfl, rfl⟩) ?_
       refine wl_vw (.bool false) 22 true 102 rfl rfl rfl rfl rfl (y_pickT rfl rfl rfl ⟨rfl, rfl⟩) ?_
       refine wl_vw (.bool false) 22 true 102 rfl rfl rfl rfl rfl (y_mov rfl rfl ⟨rfl, rfl⟩) ?_
       refine wl_unless 29 true 109 rfl rfl rfl (Or.inl rfl) rfl ?_
       refine wl_vw (.bool false) 22 true 102 rfl rfl rfl rfl rfl (y_pickF rfl rfl rfl ⟨rfl, rfl⟩) ?_
       refine wl_vw (.bool true) 22 true 102 rfl rfl rfl rfl rfl (y_eqlB rfl rfl rfl Tryd.underlying4 ((by first | exact ref_eq1 k m (by omega) (by assumption) | exact ref_eq2 k m (.inl (by omega)) | exact ref_eq2 k m (.inr (by assumption)))) ⟨rfl, rfl⟩) ?_
       refine wl_v (.bool true) rfl rfl (y_pickT rfl rfl rfl ⟨rfl, rfl⟩) ?_
       refine wl_v (.bool true) rfl rfl (y_asg rfl rfl ⟨rfl, rfl⟩) ?_
       refine wl_nil fun F584 hF585 => ?_
       have s586 := (hF585 114).trans s542
       have s587 : F584 12 = .bool true := (hF585 12).trans rfl
       clear hF585
       refine then_normal ?_
       refine wq_ret ?_
       exact end_tmp (v := .bool true) s586 rfl rfl s587 ⟨rfl, K535⟩
     ·skip
      refine wq_region ?_
      refine wl_v (.bool true) rfl rfl (y_mov rfl s540 ⟨rfl, rfl⟩) ?_
      refine wl_v (.bool true) rfl rfl (y_mov rfl rfl ⟨rfl, rfl⟩) ?_
      refine wl_vw (.int .i64 (ern (q))) 1 true 81 rfl rfl rfl rfl rfl (y_mov rfl s541 ⟨rfl, rfl⟩) ?_
      refine wl_vw (.bool (decide ((ern (q)) = (0)))) 1 true 81 rfl rfl rfl rfl rfl (y_eqlI rfl rfl rfl rfl ⟨rfl, rfl⟩) ?_
      refine wl_vw (.int .i64 (q)) 1 true 81 rfl rfl rfl rfl rfl (y_mov rfl s539 ⟨rfl, rfl⟩) ?_
      refine wl_vw (.bool false) 1 true 81 rfl rfl rfl rfl rfl (y_geq rfl rfl rfl (decide_eq_false d548) ⟨rfl, rfl⟩) ?_
      refine wl_vw (.bool false) 1 true 81 rfl rfl rfl rfl rfl (y_mov rfl rfl ⟨rfl, rfl⟩) ?_
      refine wl_unless 6 true 86 rfl rfl rfl (Or.inl rfl) rfl ?_
      refine wl_unless 6 true 86 rfl rfl rfl (Or.inl rfl) rfl ?_
      refine wl_vw (.bool false) 1 true 81 rfl rfl rfl rfl rfl (y_pickF rfl rfl rfl ⟨rfl, rfl⟩) ?_
      refine wl_vw (.bool true) 1 true 81 rfl rfl rfl rfl rfl (y_eqlB rfl rfl rfl Tryd.underlying4 ((by rw [beq_iff_eq]; first | exact decide_eq_decide.2 (by omega) | exact decide_eq_false (by omega) | exact decide_eq_true (by omega))) ⟨rfl, rfl⟩) ?_
      refine wl_v (.bool true) rfl rfl (y_pickT rfl rfl rfl ⟨rfl, rfl⟩) ?_
      refine wl_v (.bool true) rfl rfl (y_mov rfl rfl ⟨rfl, rfl⟩) ?_
      refine wl_vw (.int .i64 (chE (k) (Ch.mk (m) (0) (0) (0) (0) (fun _ => (0 : Int))))) 12 true 92 rfl rfl rfl rfl rfl (y_mov rfl s543 ⟨rfl, rfl⟩) ?_
      refine wl_vw (.bool (decide ((chE (k) (Ch.mk (m) (0) (0) (0) (0) (fun _ => (0 : Int)))) = (0)))) 12 true 92 rfl rfl rfl rfl rfl (y_eqlI rfl rfl rfl rfl ⟨rfl, rfl⟩) ?_
      refine wl_vw (.bool false) 12 true 92 rfl rfl rfl rfl rfl (y_mov rfl (Eq.trans s538 (congrArg Value.bool (decide_eq_false d578))) ⟨rfl, rfl⟩) ?_
      refine wl_vw (.bool true) 12 true 92 rfl rfl rfl rfl rfl (y_eqlB rfl rfl rfl Tryd.underlying4 ((by rw [beq_iff_eq]; first | exact decide_eq_decide.2 (by omega) | exact decide_eq_false (by omega) | exact decide_eq_true (by omega))) ⟨rfl, rfl⟩) ?_
      refine wl_v (.bool true) rfl rfl (y_pickT rfl rfl rfl ⟨rfl, rfl⟩) ?_
      refine wl_v (.bool true) rfl rfl (y_mov rfl rfl ⟨rfl, rfl⟩) ?_
      refine wl_vw (.int .i64 (chE (k) (Ch.mk (m) (0) (0) (0) (0) (upd (fun _ => (0 : Int)) (j) (((1048577 + n : Nat) : Int)))))) 18 true 98 rfl rfl rfl rfl rfl (y_mov rfl s544 ⟨rfl, rfl⟩) ?_
      refine wl_vw (.bool true) 18 true 98 rfl rfl rfl rfl rfl (y_eqlI rfl rfl rfl (decide_eq_true hfa) ⟨rfl, rfl⟩) ?_
      refine wl_v (.bool true) rfl rfl (y_pickT rfl rfl rfl ⟨rfl, rfl⟩) ?_
      refine wl_v (.bool true) rfl rfl (y_mov rfl rfl ⟨rfl, rfl⟩) ?_
      refine wl_vw (.int .i64 (chE (k) (Ch.mk (m) (1) (0) (0) (1) (fun _ => (0 : Int))))) 22 true 102 rfl rfl rfl rfl rfl (y_mov rfl s547 ⟨rfl, rfl⟩) ?_
      refine wl_vw (.bool (decide ((chE (k) (Ch.mk (m) (1) (0) (0) (1) (fun _ => (0 : Int)))) = (0)))) 22 true 102 rfl rfl rfl rfl rfl (y_eqlI rfl rfl rfl rfl ⟨rfl, rfl⟩) ?_
      refine wl_vw (.bool false) 22 true 102 rfl rfl rfl rfl rfl (y_mov rfl (Eq.trans s538 (congrArg Value.bool (decide_eq_false d578))) ⟨rfl, rfl⟩) ?_
      refine wl_vw (.bool false) 22 true 102 rfl rfl rfl rfl rfl (y_mov rfl rfl ⟨rfl, rfl⟩) ?_
      refine wl_unless 26 true 106 rfl rfl rfl (Or.inl rfl) rfl ?_
      refine wl_vw (.bool false) 22 true 102 rfl rfl rfl rfl rfl (y_pickF rfl rfl rfl ⟨rfl, rfl⟩) ?_
      refine wl_vw (.bool false) 22 true 102 rfl rfl rfl rfl rfl (y_mov rfl rfl ⟨rfl, rfl⟩) ?_
      refine wl_unless 29 true 109 rfl rfl rfl (Or.inl rfl) rfl ?_
      refine wl_vw (.bool false) 22 true 102 rfl rfl rfl rfl rfl (y_pickF rfl rfl rfl ⟨rfl, rfl⟩) ?_
      refine wl_vw (.bool true) 22 true 102 rfl rfl rfl rfl rfl (y_eqlB rfl rfl rfl Tryd.underlying4 ((by first | exact ref_eq1 k m (by omega) (by assumption) | exact ref_eq2 k m (.inl (by omega)) | exact ref_eq2 k m (.inr (by assumption)))) ⟨rfl, rfl⟩) ?_
      refine wl_v (.bool true) rfl rfl (y_pickT rfl rfl rfl ⟨rfl, rfl⟩) ?_
      refine wl_v (.bool true) rfl rfl (y_asg rfl rfl ⟨rfl, rfl⟩) ?_
      refine wl_nil fun F588 hF589 => ?_
      have s590 := (hF589 114).trans s542
      have s591 : F588 12 = .bool true := (hF589 12).trans rfl
      clear hF589
      refine then_normal ?_
      refine wq_ret ?_
      exact end_tmp (v := .bool true) s590 rfl rfl s591 ⟨rfl, K535⟩

end Go.Proofs.YtdcbabgcbkdlhaaDoor
set_option maxRecDepth 100000
namespace Go.Proofs.YtdcbabgcbkdlhaaDoor
open Go.RowKit

theorem nat_u8 {n : Int} (h : (Lit.int .u8 n).wf = true) : ∃ m : Nat, n = (m : Int) ∧ m < 256 := by
  have := bounds_u8 h
  exact ⟨n.toNat, by omega, by omega⟩
theorem nat_u16 {n : Int} (h : (Lit.int .u16 n).wf = true) : ∃ m : Nat, n = (m : Int) ∧ m < 65536 := by
  simp [Lit.wf, IntKind.min, IntKind.max, IntKind.signed, IntKind.bits] at h
  exact ⟨n.toNat, by omega, by omega⟩
end Go.Proofs.YtdcbabgcbkdlhaaDoor
