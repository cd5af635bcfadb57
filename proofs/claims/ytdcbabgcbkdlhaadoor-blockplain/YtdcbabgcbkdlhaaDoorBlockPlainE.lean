/- What BlockPlain reaches of my texts, part 5. -/
import Derived.Test.YtdcbabgcbkdlhaaDoorBlockPlainD
set_option maxRecDepth 100000
set_option maxRecDepth 100000
namespace Go.Proofs.YtdcbabgcbkdlhaaDoor
open Go.RowKit

def c12 : Ch := ⟨4, 2, 0, 0, 0, blL [3]⟩
set_option maxRecDepth 100000 in
theorem awake12 : chE 1 c12 = 0 ∧ chE 0 ⟨4, 0, 0, 0, 0, fun _ => 0⟩ = 120 ∧ chE 1 ⟨4, 0, 0, 0, 0, fun _ => 0⟩ = 0 ∧ buB (blL [100]) (blL [16]) 0 0 = 101 ∧ buB (blL [100]) (blL [16]) 0 5 = 1 ∧ ern 0 = 0 := by
  refine ⟨?_, ?_, ?_, ?_, ?_, ?_⟩ <;> decide +kernel
theorem awake12b : ∃ d, rdCh (pack (wrCh 1 c12 0 0 0 0)) 1 0 0 0 0 (some 0) = (d, 0, some (wrCh 1 c12 0 0 0 0).length) ∧ sameCh d c12 = true := by
  have h := awake12.1
  have e : wrCh 1 c12 0 0 0 0 = chBits c12 0 0 0 0 := if_pos h
  rw [e]
  have := ch_back (l := pack (chBits c12 0 0 0 0)) (a := 0) h (bitsAt_pack _)
  rwa [Nat.zero_add] at this

set_option maxHeartbeats 4000000 in
set_option maxRecDepth 100000 in
theorem bawake_any (w0 : World) (hA : ActsIn w0) (hO : ScanIn w0) (hs : StepsAt w0) (hw : Waves w0) :
  Calls Tryd.prog 9 #[] w0 fun e w' => e = .returned (.bool true) ∧ Kept (fun _ => False) w0 w' := by
 refine calls_wq (args := []) 98 Tryd.func9 rfl rfl (Nat.le_of_ble_eq_true rfl) ?_
 have K0 := Kept.refl (fun _ => False) w0
 have hf := Lib.hid awake12
 have hlen := wrCh_short 1 c12 0 0 0 0
 obtain ⟨d0, hd⟩ := awake12b
 obtain ⟨b0, hb0⟩ : ∃ b0, b0 = wrCh 1 c12 0 0 0 0 := ⟨_, rfl⟩
 rw [← hb0] at hd hlen
 have hd0 := Lib.hid hd
 clear hd
 refine wq_seq ?_
 refine wq_region ?_
 refine wl_v (.bool false) rfl rfl (y_asg rfl rfl ⟨rfl, rfl⟩) ?_
 refine wl_nil fun F1 hF2 => ?_
 have s3 : F1 98 = undef := (hF2 98).trans rfl
 clear hF2
 refine then_normal ?_
 refine wq_seq ?_
 refine wq_region ?_
 refine wl_call (R := fun v_ w_ => v_ = .tuple #[.bool (pastB (4)), .bool (nextB (4))] ∧ Kept (fun _ => False) w0 w_) rfl rfl (y_cs rfl rfl rfl (fun _ _ => by kernel_rfl) (ev_func _) (vsC rfl vsN) (bl_vectors (4)  _ (hA.all K0)  ) (fun e_ w_ h_ => ⟨_, h_.1, rfl, h_.2⟩)) ?_
 rintro _ w4 ⟨rfl, k5⟩
 have K6 := K0.trans k5 (fun _ _ x => x.elim)
 refine wl_v (.tuple #[.bool (pastB (4)), .bool (nextB (4))]) rfl rfl (y_mov rfl rfl ⟨rfl, rfl⟩) ?_
 refine wl_v (.bool (pastB (4))) rfl rfl (y_ext rfl rfl rfl ⟨rfl, rfl⟩) ?_
 refine wl_v (.bool (nextB (4))) rfl rfl (y_ext rfl rfl rfl ⟨rfl, rfl⟩) ?_
 refine wl_v (.bool (pastB (4))) rfl rfl (y_asg rfl rfl ⟨rfl, rfl⟩) ?_
 refine wl_v (.bool (nextB (4))) rfl rfl (y_asg rfl rfl ⟨rfl, rfl⟩) ?_
 refine wl_nil fun F7 hF8 => ?_
 have s9 := (hF8 98).trans s3
 have s10 : F7 1 = .bool (pastB (4)) := (hF8 1).trans rfl
 have s11 : F7 2 = .bool (nextB (4)) := (hF8 2).trans rfl
 clear hF8
 refine then_normal ?_
 refine wq_seq ?_
 refine wq_region ?_
 refine wl_call (R := fun v_ w_ => v_ = .tuple #[.bool (pastB (6)), .bool (nextB (6))] ∧ Kept (fun _ => False) w4 w_) rfl rfl (y_cs rfl rfl rfl (fun _ _ => by kernel_rfl) (ev_func _) (vsC rfl vsN) (bl_vectors (6)  _ (hA.all K6)  ) (fun e_ w_ h_ => ⟨_, h_.1, rfl, h_.2⟩)) ?_
 rintro _ w12 ⟨rfl, k13⟩
 have K14 := K6.trans k13 (fun _ _ x => x.elim)
 refine wl_v (.tuple #[.bool (pastB (6)), .bool (nextB (6))]) rfl rfl (y_mov rfl rfl ⟨rfl, rfl⟩) ?_
 refine wl_v (.bool (pastB (6))) rfl rfl (y_ext rfl rfl rfl ⟨rfl, rfl⟩) ?_
 refine wl_v (.bool (nextB (6))) rfl rfl (y_ext rfl rfl rfl ⟨rfl, rfl⟩) ?_
 refine wl_v (.bool (pastB (6))) rfl rfl (y_asg rfl rfl ⟨rfl, rfl⟩) ?_
 refine wl_v (.bool (nextB (6))) rfl rfl (y_asg rfl rfl ⟨rfl, rfl⟩) ?_
 refine wl_nil fun F15 hF16 => ?_
 have s17 := (hF16 98).trans s9
 have s18 := (hF16 1).trans s10
 have s19 := (hF16 2).trans s11
 have s20 : F15 3 = .bool (pastB (6)) := (hF16 3).trans rfl
 have s21 : F15 4 = .bool (nextB (6)) := (hF16 4).trans rfl
 clear hF16
 refine then_normal ?_
 refine wq_seq ?_
 refine wq_region ?_
 refine wl_v (.agg #[.slice none 0 0, .int .i64 0]) rfl rfl (y_buildR (cells := #[.slice none 0 0, .int .i64 0]) rfl (by kernel_rfl) rfl ⟨rfl, rfl⟩) ?_
 refine wl_box_wri rfl rfl rfl rfl fun p22 w23 T27 B26 g28 k24 => ?_
 have gr29 : Grew w0 noB (T27) := Grew.new K14 g28
 have K30 := K14.trans k24 (fun _ _ x => x.elim)
 refine wl_v (.pointer (some ⟨p22, 0, none⟩)) rfl rfl (y_asg rfl rfl ⟨rfl, rfl⟩) ?_
 refine wl_nil fun F31 hF32 => ?_
 have s33 := (hF32 98).trans s17
 have s34 := (hF32 1).trans s18
 have s35 := (hF32 2).trans s19
 have s36 := (hF32 3).trans s20
 have s37 := (hF32 4).trans s21
 have s38 : F31 5 = .pointer (some ⟨p22, 0, none⟩) := (hF32 5).trans rfl
 clear hF32
 refine then_normal ?_
 refine wq_seq ?_
 refine wq_region ?_
 refine wl_v (.agg #[.int .i64 (2), .int .i64 (0)]) rfl rfl (y_buildL (l' := [(0, .int .i64 (2))]) (cells := #[.int .i64 (2), .int .i64 (0)]) rfl (bpC rfl bpN) (by kernel_rfl) rfl ⟨rfl, rfl⟩) ?_
 refine wl_v (blkV (blL [3])) rfl rfl (y_buildR (cells := (arrL 16 (blL [3])).toArray) rfl (by kernel_rfl) rfl ⟨rfl, rfl⟩) ?_
 refine wl_v (.agg (chL 4 2 0 0 0 (blL [3])).toArray) rfl rfl (y_buildL (l' := [(0, .int .i64 (4)), (1, .agg #[.int .i64 (2), .int .i64 (0)]), (3, blkV (blL [3]))]) (cells := (chL 4 2 0 0 0 (blL [3])).toArray) rfl (bpC rfl (bpC rfl (bpC rfl bpN))) (by kernel_rfl) rfl ⟨rfl, rfl⟩) ?_
 refine wl_alloc_stc (n := 21) (vs := (chL 0 0 0 0 0 (fun _ => (0 : Int)))) rfl rfl rfl (by kernel_rfl) fun p39 w40 B42 g43 k41 => ?_
 have gr44 : Grew w0 noB (onB p39) := Grew.new K30 g43
 have ap45 : Apart (onB p39) (T27) := Apart.new g43 (B26).live
 have B46 := B26.all k41 Apart.none
 have K47 := K30.trans k41 (fun _ _ x => x.elim)
 refine wl_store_stc (us := (chL 4 2 0 0 0 (blL [3]))) stcT_choice rfl rfl rfl rfl rfl B42 rfl (oneI rfl (oneI rfl (oneI rfl (oneI rfl (oneI rfl (oneI rfl (oneI rfl (oneI rfl (oneI rfl (oneI rfl (oneI rfl (oneI rfl (oneI rfl (oneI rfl (oneI rfl (oneI rfl (oneI rfl (oneI rfl (oneI rfl (oneI rfl (oneI rfl oneN))))))))))))))))))))) fun w48 B49 k50 => ?_
 have B51 := B46.all k50 (fun i h x => (((ap45).symm) i h x))
 have K52 := K47.trans k50 (Grew.ok (S := fun _ => False) gr44 noB_le)
 refine wl_nil fun F53 hF54 => ?_
 have s55 := (hF54 98).trans s33
 have s56 := (hF54 1).trans s34
 have s57 := (hF54 2).trans s35
 have s58 := (hF54 3).trans s36
 have s59 := (hF54 4).trans s37
 have s60 := (hF54 5).trans s38
 have s61 : F53 6 = .pointer (some ⟨p39, 0, none⟩) := (hF54 6).trans rfl
 clear hF54
 refine then_normal ?_
 refine wq_seq ?_
 refine wq_region ?_
 refine wl_v (.pointer (some ⟨p22, 0, none⟩)) rfl rfl (y_mov rfl s60 ⟨rfl, rfl⟩) ?_
 refine wl_v (.agg (chL 4 2 0 0 0 (blL [3])).toArray) rfl rfl (y_load_stc stcT_choice rfl s61 B49 ⟨rfl, rfl⟩) ?_
 refine wl_v (.agg #[.int .i64 (0), .int .i64 (0)]) rfl rfl (y_buildL (l' := []) (cells := #[.int .i64 (0), .int .i64 (0)]) rfl bpN (by kernel_rfl) rfl ⟨rfl, rfl⟩) ?_
 refine wl_v (.agg #[.int .i64 (0), .int .i64 (0)]) rfl rfl (y_buildL (l' := []) (cells := #[.int .i64 (0), .int .i64 (0)]) rfl bpN (by kernel_rfl) rfl ⟨rfl, rfl⟩) ?_
 refine wl_call (R := fun v_ w_ => ∃ (T64 : Nat → Prop), .int .i64 (chE (1) (Ch.mk (4) (2) (0) (0) (0) (blL [3]))) = v_ ∧ Kept (T27) w48 w_ ∧ (Wri w_ T64 p22 ((([] : List Bool)) ++ wrCh (1) (Ch.mk (4) (2) (0) (0) (0) (blL [3])) (0) (0) (0) (0)) ∧ Grew w48 (T27) T64)) rfl rfl (y_cs rfl rfl rfl (fun _ _ => by kernel_rfl) (ev_func _) (vsC rfl (vsC rfl (vsC rfl (vsC rfl (vsC rfl vsN))))) (bl_write (p22) (([] : List Bool)) (1) (Ch.mk (4) (2) (0) (0) (0) (blL [3])) (0) (0) (0) (0) (T27) _ (hA.all K52) (hO.all K52) (aboveN gr29 hA) (by first | decide | (simp; omega) | simp) B51 ) (fun e_ w_ h_ => by obtain ⟨T64_, he_, hr_⟩ := h_; exact ⟨_, he_, T64_, rfl, hr_⟩)) ?_
 rintro _ w62 ⟨T64, rfl, k63, ⟨B65, g66⟩⟩
 have B67 := B49.all k63 (fun x => ((ap45) p39 rfl x))
 have K68 := K52.trans k63 (fun i hi x => ((Grew.ok (S := fun _ => False) gr29 noB_le) i hi x))
 refine wl_v (.int .i64 (chE (1) (Ch.mk (4) (2) (0) (0) (0) (blL [3])))) rfl rfl (y_asg rfl rfl ⟨rfl, rfl⟩) ?_
 refine wl_nil fun F71 hF72 => ?_
 have s73 := (hF72 98).trans s55
 have s74 := (hF72 1).trans s56
 have s75 := (hF72 2).trans s57
 have s76 := (hF72 3).trans s58
 have s77 := (hF72 4).trans s59
 have s78 := (hF72 5).trans s60
 have s79 := (hF72 6).trans s61
 have s80 : F71 7 = .int .i64 (chE (1) (Ch.mk (4) (2) (0) (0) (0) (blL [3]))) := (hF72 7).trans rfl
 clear hF72
 refine then_normal ?_
 refine wq_seq ?_
 have B81 : Wri w62 (T64) p22 (b0) := ((by rw [hb0]; exact B65))
 refine wq_region ?_
 refine wl_v (.pointer (some ⟨p22, 0, none⟩)) rfl rfl (y_mov rfl s78 ⟨rfl, rfl⟩) ?_
 refine wl_call (R := fun v_ w_ => ∃ (v82 : Value) (T85 : Nat → Prop), v82 = v_ ∧ Kept (fun _ => False) w62 w_ ∧ (Byt w_ T85 v82 (pack (b0)) ∧ Grew w62 noB T85)) rfl rfl (y_cs rfl rfl rfl (fun _ _ => by kernel_rfl) (ev_func _) (vsC rfl vsN) (t_bytes (p22) (b0) (T64) _ (by omega) B81 ) (fun e_ w_ h_ => by obtain ⟨v82_, T85_, he_, hr_⟩ := h_; exact ⟨_, he_, v82_, T85_, rfl, hr_⟩)) ?_
 rintro _ w83 ⟨v82, T85, rfl, k84, ⟨B86, g87⟩⟩
 have B89 := B67.all k84 id
 have K90 := K68.trans k84 (fun _ _ x => x.elim)
 refine wl_call (R := fun v_ w_ => ∃ (v94 : Nat) (T97 : Nat → Prop), .pointer (some ⟨v94, 0, none⟩) = v_ ∧ Kept (fun _ => False) w83 w_ ∧ (Rdi w_ T97 v94 ((pack (b0))) (some 0) ∧ Grew w83 noB T97)) rfl rfl (y_cs rfl rfl rfl (fun _ _ => by kernel_rfl) (ev_func _) (vsC rfl vsN) (t_new (v82) (pack (b0)) (T85) _ (by rw [pack_length]; unfold nbytes; omega) B86 ) (fun e_ w_ h_ => by obtain ⟨v94_, T97_, he_, hr_⟩ := h_; exact ⟨_, he_, v94_, T97_, rfl, hr_⟩)) ?_
 rintro _ w95 ⟨v94, T97, rfl, k96, ⟨B98, g99⟩⟩
 have B101 := B89.all k96 id
 have K103 := K90.trans k96 (fun _ _ x => x.elim)
 have gr104 : Grew w0 noB (T97) := Grew.new K90 g99
 have ap106 : Apart (T97) (onB p39) := Apart.new g99 (onB_live (B89).lt)
 refine wl_v (.agg #[.int .i64 (0), .int .i64 (0)]) rfl rfl (y_buildL (l' := []) (cells := #[.int .i64 (0), .int .i64 (0)]) rfl bpN (by kernel_rfl) rfl ⟨rfl, rfl⟩) ?_
 refine wl_v (.agg #[.int .i64 (0), .int .i64 (0)]) rfl rfl (y_buildL (l' := []) (cells := #[.int .i64 (0), .int .i64 (0)]) rfl bpN (by kernel_rfl) rfl ⟨rfl, rfl⟩) ?_
 refine wl_call (R := fun v_ w_ => ∃ (T110 : Nat → Prop), .tuple #[.agg (chW ((rdCh ((pack (b0))) (1) (0) (0) (0) (0) (some 0)).1)).toArray, .int .i64 ((rdCh ((pack (b0))) (1) (0) (0) (0) (0) (some 0)).2.1)] = v_ ∧ Kept (T97) w95 w_ ∧ (Rdi w_ T110 v94 (((pack (b0)))) (rdChT ((pack (b0))) (1) (0) (0) (0) (0) (some 0)) ∧ Grew w95 (T97) T110)) rfl rfl (y_cs rfl rfl rfl (fun _ _ => by kernel_rfl) (ev_func _) (vsC rfl (vsC rfl (vsC rfl (vsC rfl vsN)))) (bl_read (v94) ((pack (b0))) (some 0) (1) (0) (0) (0) (0) (T97) _ (hA.all K103) (hO.all K103) (aboveN gr104 hA) B98 ) (fun e_ w_ h_ => by obtain ⟨T110_, he_, hr_⟩ := h_; exact ⟨_, he_, T110_, rfl, hr_⟩)) ?_
 rintro _ w108 ⟨T110, rfl, k109, ⟨B111, g112⟩⟩
 have B114 := B101.all k109 (fun x => (((ap106).symm) p39 rfl x))
 have K116 := K103.trans k109 (fun i hi x => ((Grew.ok (S := fun _ => False) gr104 noB_le) i hi x))
 refine wl_v (.tuple #[.agg (chW ((rdCh ((pack (b0))) (1) (0) (0) (0) (0) (some 0)).1)).toArray, .int .i64 ((rdCh ((pack (b0))) (1) (0) (0) (0) (0) (some 0)).2.1)]) rfl rfl (y_mov rfl rfl ⟨rfl, rfl⟩) ?_
 refine wl_v (.agg (chW ((rdCh ((pack (b0))) (1) (0) (0) (0) (0) (some 0)).1)).toArray) rfl rfl (y_ext rfl rfl rfl ⟨rfl, rfl⟩) ?_
 refine wl_v (.int .i64 ((rdCh ((pack (b0))) (1) (0) (0) (0) (0) (some 0)).2.1)) rfl rfl (y_ext rfl rfl rfl ⟨rfl, rfl⟩) ?_
 refine wl_alloc_stc (n := 21) (vs := (chL 0 0 0 0 0 (fun _ => (0 : Int)))) rfl rfl rfl (by kernel_rfl) fun p121 w122 B124 g125 k123 => ?_
 have gr126 : Grew w0 noB (onB p121) := Grew.new K116 g125
 have ap128 : Apart (onB p121) (onB p39) := Apart.new g125 (onB_live (B114).lt)
 have B132 := B114.all k123 id
 have K135 := K116.trans k123 (fun _ _ x => x.elim)
 refine wl_store_stc (us := (chW ((rdCh ((pack (b0))) (1) (0) (0) (0) (0) (some 0)).1))) stcT_choice rfl rfl rfl rfl rfl B124 rfl (oneI rfl (oneI rfl (oneI rfl (oneI rfl (oneI rfl (oneI rfl (oneI rfl (oneI rfl (oneI rfl (oneI rfl (oneI rfl (oneI rfl (oneI rfl (oneI rfl (oneI rfl (oneI rfl (oneI rfl (oneI rfl (oneI rfl (oneI rfl (oneI rfl oneN))))))))))))))))))))) fun w136 B137 k138 => ?_
 have B140 := B132.all k138 (fun x => (((ap128).symm) p39 rfl x))
 have K143 := K135.trans k138 (Grew.ok (S := fun _ => False) gr126 noB_le)
 refine wl_v (.int .i64 ((rdCh ((pack (b0))) (1) (0) (0) (0) (0) (some 0)).2.1)) rfl rfl (y_asg rfl rfl ⟨rfl, rfl⟩) ?_
 refine wl_nil fun F144 hF145 => ?_
 have s146 := (hF145 98).trans s73
 have s147 := (hF145 1).trans s74
 have s148 := (hF145 2).trans s75
 have s149 := (hF145 3).trans s76
 have s150 := (hF145 4).trans s77
 have s151 := (hF145 6).trans s79
 have s152 := (hF145 7).trans s80
 have s153 : F144 8 = .pointer (some ⟨p121, 0, none⟩) := (hF145 8).trans rfl
 have s154 : F144 9 = .int .i64 ((rdCh ((pack (b0))) (1) (0) (0) (0) (0) (some 0)).2.1) := (hF145 9).trans rfl
 clear hF145
 refine then_normal ?_
 refine wq_seq ?_
 refine wq_region ?_
 refine wl_v (blkV (blL [100])) rfl rfl (y_buildR (cells := (arrL 16 (blL [100])).toArray) rfl (by kernel_rfl) rfl ⟨rfl, rfl⟩) ?_
 refine wl_v (blkV (blL [16])) rfl rfl (y_buildR (cells := (arrL 16 (blL [16])).toArray) rfl (by kernel_rfl) rfl ⟨rfl, rfl⟩) ?_
 refine wl_v (.agg (chL 0 0 0 0 0 (blL [16])).toArray) rfl rfl (y_buildL (l' := [(3, blkV (blL [16]))]) (cells := (chL 0 0 0 0 0 (blL [16])).toArray) rfl (bpC rfl bpN) (by kernel_rfl) rfl ⟨rfl, rfl⟩) ?_
 refine wl_call (R := fun v_ w_ => v_ = .tuple #[blkV (buB (blL [100]) (Ch.mk (0) (0) (0) (0) (0) (blL [16])).b (0)), .int .i64 (ern (0))] ∧ Kept (fun _ => False) w136 w_) rfl rfl (y_cs rfl rfl rfl (fun _ _ => by kernel_rfl) (ev_func _) (vsC rfl (vsC rfl (vsC rfl vsN))) (bl_build (blL [100]) (Ch.mk (0) (0) (0) (0) (0) (blL [16])) (0)  _ (hs.all K143) (hw.all K143)  ) (fun e_ w_ h_ => ⟨_, h_.1, rfl, h_.2⟩)) ?_
 rintro _ w155 ⟨rfl, k156⟩
 have B158 := B140.all k156 id
 have B161 := B137.all k156 id
 have K162 := K143.trans k156 (fun _ _ x => x.elim)
 refine wl_v (.tuple #[blkV (buB (blL [100]) (Ch.mk (0) (0) (0) (0) (0) (blL [16])).b (0)), .int .i64 (ern (0))]) rfl rfl (y_mov rfl rfl ⟨rfl, rfl⟩) ?_
 refine wl_v (blkV (buB (blL [100]) (Ch.mk (0) (0) (0) (0) (0) (blL [16])).b (0))) rfl rfl (y_ext rfl rfl rfl ⟨rfl, rfl⟩) ?_
 refine wl_v (.int .i64 (ern (0))) rfl rfl (y_ext rfl rfl rfl ⟨rfl, rfl⟩) ?_
 refine wl_alloc_blk rfl rfl rfl blkT_block.2.2 fun p163 w164 e167 B165 k166 => ?_
 have g168 := onB_new (Nat.le_of_eq e167.symm)
 have gr169 : Grew w0 noB (onB p163) := Grew.new K162 g168
 have ap171 : Apart (onB p163) (onB p39) := Apart.new g168 (onB_live (B158).lt)
 have ap174 : Apart (onB p163) (onB p121) := Apart.new g168 (onB_live (B161).lt)
 clear e167 g168
 have B176 := B158.all k166 id
 have B179 := B161.all k166 id
 have K180 := K162.trans k166 (fun _ _ x => x.elim)
 refine wl_store_blk blkT_block rfl rfl rfl rfl rfl B165 fun w181 B182 k183 => ?_
 have B185 := B176.all k183 (fun x => (((ap171).symm) p39 rfl x))
 have B188 := B179.all k183 (fun x => (((ap174).symm) p121 rfl x))
 have K189 := K180.trans k183 (Grew.ok (S := fun _ => False) gr169 noB_le)
 refine wl_v (.int .i64 (ern (0))) rfl rfl (y_asg rfl rfl ⟨rfl, rfl⟩) ?_
 refine wl_nil fun F190 hF191 => ?_
 have s192 := (hF191 98).trans s146
 have s193 := (hF191 1).trans s147
 have s194 := (hF191 2).trans s148
 have s195 := (hF191 3).trans s149
 have s196 := (hF191 4).trans s150
 have s197 := (hF191 6).trans s151
 have s198 := (hF191 7).trans s152
 have s199 := (hF191 8).trans s153
 have s200 := (hF191 9).trans s154
 have s201 : F190 10 = .pointer (some ⟨p163, 0, none⟩) := (hF191 10).trans rfl
 have s202 : F190 11 = .int .i64 (ern (0)) := (hF191 11).trans rfl
 clear hF191
 refine then_normal ?_
 refine wq_seq ?_
 have s203 : F190 1 = .bool true := s193.trans (congrArg Value.bool ((by decide)))
 have s204 : F190 2 = .bool false := s194.trans (congrArg Value.bool ((by decide)))
 have s205 : F190 3 = .bool true := s195.trans (congrArg Value.bool ((by decide)))
 have s206 : F190 4 = .bool true := s196.trans (congrArg Value.bool ((by decide)))
 refine wq_region ?_
 refine wl_v (.bool true) rfl rfl (y_mov rfl s203 ⟨rfl, rfl⟩) ?_
 refine wl_v (.bool true) rfl rfl (y_mov rfl rfl ⟨rfl, rfl⟩) ?_
 refine wl_vw (.bool false) 1 true 47 rfl rfl rfl rfl rfl (y_mov rfl s204 ⟨rfl, rfl⟩) ?_
 refine wl_vw (.bool true) 1 true 47 rfl rfl rfl rfl rfl (y_not rfl rfl rfl ⟨rfl, rfl⟩) ?_
 refine wl_v (.bool true) rfl rfl (y_pickT rfl rfl rfl ⟨rfl, rfl⟩) ?_
 refine wl_v (.bool true) rfl rfl (y_mov rfl rfl ⟨rfl, rfl⟩) ?_
 refine wl_vw (.bool true) 5 true 51 rfl rfl rfl rfl rfl (y_mov rfl s205 ⟨rfl, rfl⟩) ?_
 refine wl_v (.bool true) rfl rfl (y_pickT rfl rfl rfl ⟨rfl, rfl⟩) ?_
 refine wl_v (.bool true) rfl rfl (y_mov rfl rfl ⟨rfl, rfl⟩) ?_
 refine wl_vw (.bool true) 8 true 54 rfl rfl rfl rfl rfl (y_mov rfl s206 ⟨rfl, rfl⟩) ?_
 refine wl_v (.bool true) rfl rfl (y_pickT rfl rfl rfl ⟨rfl, rfl⟩) ?_
 refine wl_v (.bool true) rfl rfl (y_mov rfl rfl ⟨rfl, rfl⟩) ?_
 refine wl_vw (.agg (chL 4 0 0 0 0 (fun _ => (0 : Int))).toArray) 11 true 57 rfl rfl rfl rfl rfl (y_buildL (l' := [(0, .int .i64 (4))]) (cells := (chL 4 0 0 0 0 (fun _ => (0 : Int))).toArray) rfl (bpC rfl bpN) (by kernel_rfl) rfl ⟨rfl, rfl⟩) ?_
 refine wl_callw (R := fun v_ w_ => v_ = .int .i64 (chE (0) (Ch.mk (4) (0) (0) (0) (0) (fun _ => (0 : Int)))) ∧ Kept (fun _ => False) w181 w_) 11 true 57 rfl rfl rfl rfl rfl (y_cs rfl rfl rfl (fun _ _ => by kernel_rfl) (ev_func _) (vsC rfl (vsC rfl vsN)) (bl_check (0) (Ch.mk (4) (0) (0) (0) (0) (fun _ => (0 : Int)))  _ (hA.all K189)  ) (fun e_ w_ h_ => ⟨_, h_.1, rfl, h_.2⟩)) ?_
 rintro _ w207 ⟨rfl, k208⟩
 have B210 := B185.all k208 id
 have B213 := B188.all k208 id
 have B214 := B182.all k208 id
 have K215 := K189.trans k208 (fun _ _ x => x.elim)
 refine wl_vw (.bool true) 11 true 57 rfl rfl rfl rfl rfl (y_eqlI rfl rfl rfl (decide_eq_true hf.out.2.1) ⟨rfl, rfl⟩) ?_
 refine wl_v (.bool true) rfl rfl (y_pickT rfl rfl rfl ⟨rfl, rfl⟩) ?_
 refine wl_v (.bool true) rfl rfl (y_mov rfl rfl ⟨rfl, rfl⟩) ?_
 refine wl_vw (.agg (chL 4 0 0 0 0 (fun _ => (0 : Int))).toArray) 16 true 62 rfl rfl rfl rfl rfl (y_buildL (l' := [(0, .int .i64 (4))]) (cells := (chL 4 0 0 0 0 (fun _ => (0 : Int))).toArray) rfl (bpC rfl bpN) (by kernel_rfl) rfl ⟨rfl, rfl⟩) ?_
 refine wl_callw (R := fun v_ w_ => v_ = .int .i64 (chE (1) (Ch.mk (4) (0) (0) (0) (0) (fun _ => (0 : Int)))) ∧ Kept (fun _ => False) w207 w_) 16 true 62 rfl rfl rfl rfl rfl (y_cs rfl rfl rfl (fun _ _ => by kernel_rfl) (ev_func _) (vsC rfl (vsC rfl vsN)) (bl_check (1) (Ch.mk (4) (0) (0) (0) (0) (fun _ => (0 : Int)))  _ (hA.all K215)  ) (fun e_ w_ h_ => ⟨_, h_.1, rfl, h_.2⟩)) ?_
 rintro _ w216 ⟨rfl, k217⟩
 have B219 := B210.all k217 id
 have B222 := B213.all k217 id
 have B223 := B214.all k217 id
 have K224 := K215.trans k217 (fun _ _ x => x.elim)
 refine wl_vw (.bool true) 16 true 62 rfl rfl rfl rfl rfl (y_eqlI rfl rfl rfl (decide_eq_true hf.out.2.2.1) ⟨rfl, rfl⟩) ?_
 refine wl_v (.bool true) rfl rfl (y_pickT rfl rfl rfl ⟨rfl, rfl⟩) ?_
 refine wl_v (.bool true) rfl rfl (y_mov rfl rfl ⟨rfl, rfl⟩) ?_
 refine wl_vw (.int .i64 (chE (1) (Ch.mk (4) (2) (0) (0) (0) (blL [3])))) 21 true 67 rfl rfl rfl rfl rfl (y_mov rfl s198 ⟨rfl, rfl⟩) ?_
 refine wl_vw (.bool true) 21 true 67 rfl rfl rfl rfl rfl (y_eqlI rfl rfl rfl (decide_eq_true hf.out.1) ⟨rfl, rfl⟩) ?_
 refine wl_v (.bool true) rfl rfl (y_pickT rfl rfl rfl ⟨rfl, rfl⟩) ?_
 refine wl_v (.bool true) rfl rfl (y_mov rfl rfl ⟨rfl, rfl⟩) ?_
 refine wl_vw (.agg (chW ((rdCh ((pack (b0))) (1) (0) (0) (0) (0) (some 0)).1)).toArray) 25 true 71 rfl rfl rfl rfl rfl (y_load_stc stcT_choice rfl s199 B222 ⟨rfl, rfl⟩) ?_
 refine wl_vw (.agg (chL 4 2 0 0 0 (blL [3])).toArray) 25 true 71 rfl rfl rfl rfl rfl (y_load_stc stcT_choice rfl s197 B219 ⟨rfl, rfl⟩) ?_
 refine wl_vw (.bool true) 25 true 71 rfl rfl rfl rfl rfl (y_eqlCh (c := (rdCh ((pack (b0))) (1) (0) (0) (0) (0) (some 0)).1) (d := Ch.mk (4) (2) (0) (0) (0) (blL [3])) rfl rfl rfl ((by rw [hd0.out.1]; exact hd0.out.2)) ⟨rfl, rfl⟩) ?_
 refine wl_v (.bool true) rfl rfl (y_pickT rfl rfl rfl ⟨rfl, rfl⟩) ?_
 refine wl_v (.bool true) rfl rfl (y_mov rfl rfl ⟨rfl, rfl⟩) ?_
 refine wl_vw (.int .i64 ((rdCh ((pack (b0))) (1) (0) (0) (0) (0) (some 0)).2.1)) 30 true 76 rfl rfl rfl rfl rfl (y_mov rfl s200 ⟨rfl, rfl⟩) ?_
 refine wl_vw (.bool true) 30 true 76 rfl rfl rfl rfl rfl (y_eqlI rfl rfl rfl (decide_eq_true (by rw [hd0.out.1])) ⟨rfl, rfl⟩) ?_
 refine wl_v (.bool true) rfl rfl (y_pickT rfl rfl rfl ⟨rfl, rfl⟩) ?_
 refine wl_v (.bool true) rfl rfl (y_mov rfl rfl ⟨rfl, rfl⟩) ?_
 refine wl_vw (.pointer (some ⟨p163, 0, none⟩)) 34 true 80 rfl rfl rfl rfl rfl (y_atR (0) (s := 1) rfl s201 rfl (by omega) Tryd.underlying25 (by omega) (by kernel_rfl) (by omega) ⟨rfl, rfl⟩) ?_
 refine wl_vw (.int .i64 ((buB (blL [100]) (Ch.mk (0) (0) (0) (0) (0) (blL [16])).b (0)) (0))) 34 true 80 rfl rfl rfl rfl rfl (y_ldR rfl rfl Tryd.underlying3 ((B223).cell (by omega)) ⟨rfl, rfl⟩) ?_
 refine wl_vw (.bool true) 34 true 80 rfl rfl rfl rfl rfl (y_eqlI rfl rfl rfl (decide_eq_true hf.out.2.2.2.1) ⟨rfl, rfl⟩) ?_
 refine wl_v (.bool true) rfl rfl (y_pickT rfl rfl rfl ⟨rfl, rfl⟩) ?_
 refine wl_v (.bool true) rfl rfl (y_mov rfl rfl ⟨rfl, rfl⟩) ?_
 refine wl_vw (.pointer (some ⟨p163, 5, none⟩)) 39 true 85 rfl rfl rfl rfl rfl (y_atR (5) (s := 1) rfl s201 rfl (by omega) Tryd.underlying25 (by omega) (by kernel_rfl) (by omega) ⟨rfl, rfl⟩) ?_
 refine wl_vw (.int .i64 ((buB (blL [100]) (Ch.mk (0) (0) (0) (0) (0) (blL [16])).b (0)) (5))) 39 true 85 rfl rfl rfl rfl rfl (y_ldR rfl rfl Tryd.underlying3 ((B223).cell (by omega)) ⟨rfl, rfl⟩) ?_
 refine wl_vw (.bool true) 39 true 85 rfl rfl rfl rfl rfl (y_eqlI rfl rfl rfl (decide_eq_true hf.out.2.2.2.2.1) ⟨rfl, rfl⟩) ?_
 refine wl_v (.bool true) rfl rfl (y_pickT rfl rfl rfl ⟨rfl, rfl⟩) ?_
 refine wl_v (.bool true) rfl rfl (y_mov rfl rfl ⟨rfl, rfl⟩) ?_
 refine wl_vw (.int .i64 (ern (0))) 44 true 90 rfl rfl rfl rfl rfl (y_mov rfl s202 ⟨rfl, rfl⟩) ?_
 refine wl_vw (.bool true) 44 true 90 rfl rfl rfl rfl rfl (y_eqlI rfl rfl rfl (decide_eq_true hf.out.2.2.2.2.2) ⟨rfl, rfl⟩) ?_
 refine wl_v (.bool true) rfl rfl (y_pickT rfl rfl rfl ⟨rfl, rfl⟩) ?_
 refine wl_v (.bool true) rfl rfl (y_mov rfl rfl ⟨rfl, rfl⟩) ?_
 refine wl_v (.bool true) rfl rfl (y_pickT rfl rfl rfl ⟨rfl, rfl⟩) ?_
 refine wl_v (.bool true) rfl rfl (y_mov rfl rfl ⟨rfl, rfl⟩) ?_
 refine wl_v (.bool true) rfl rfl (y_pickT rfl rfl rfl ⟨rfl, rfl⟩) ?_
 refine wl_v (.bool true) rfl rfl (y_asg rfl rfl ⟨rfl, rfl⟩) ?_
 refine wl_nil fun F225 hF226 => ?_
 have s227 := (hF226 98).trans s192
 have s228 : F225 0 = .bool true := (hF226 0).trans rfl
 clear hF226
 refine then_normal ?_
 refine wq_ret ?_
 exact end_tmp (v := .bool true) s227 rfl rfl s228 ⟨rfl, K224⟩

theorem ch_up0 {c : Ch} (h : chE 0 c = 0) : chE 1 c = 0 := ch_up (k := 0) (.inl rfl) h
theorem ch_up1 {c : Ch} (h : chE 1 c = 0) : chE 2 c = 0 := ch_up (k := 1) (.inr rfl) h
set_option maxHeartbeats 4000000 in
set_option maxRecDepth 100000 in
theorem bplain_walk (c : Ch) (b : Nat → Int) (q : Nat) (w0 : World) (hA : ActsIn w0) (hO : ScanIn w0) (hs : StepsAt w0) (hw : Waves w0) (hq : q < 256) :
  Calls Tryd.prog 6 #[.agg (chW (c)).toArray, blkV (b), .int .u8 (((q : Nat) : Int))] w0 fun e w' => e = .returned (.bool true) ∧ Kept (fun _ => False) w0 w' := by
 refine calls_wq (args := [.agg (chW (c)).toArray, blkV (b), .int .u8 (((q : Nat) : Int))]) 70 Tryd.func6 rfl rfl (Nat.le_of_ble_eq_true rfl) ?_
 have K0 := Kept.refl (fun _ => False) w0
 obtain ⟨k, hkq⟩ : ∃ k, k = q % 21 := ⟨_, rfl⟩
 have hk : k < 21 := by omega
 have he := ern_nat hk
 have hpl := Lib.hid (bu_plain b hk)
 refine wq_seq ?_
 refine wq_region ?_
 refine wl_box_stc (vs := (chW (c))) rfl rfl rfl rfl fun p1 w2 B4 g5 k3 => ?_
 have K7 := K0.trans k3 (fun _ _ x => x.elim)
 refine wl_box_blk rfl rfl rfl rfl fun p8 w9 e12 B10 k11 => ?_
 have g13 := onB_new (Nat.le_of_eq e12.symm)
 have gr14 : Grew w0 noB (onB p8) := Grew.new K7 g13
 have ap15 : Apart (onB p8) (onB p1) := Apart.new g13 (onB_live (B4).lt)
 clear e12 g13
 have B16 := B4.all k11 id
 have K17 := K7.trans k11 (fun _ _ x => x.elim)
 refine wl_v (.bool false) rfl rfl (y_asg rfl rfl ⟨rfl, rfl⟩) ?_
 refine wl_nil fun F18 hF19 => ?_
 have s20 : F18 2 = .int .u8 (((q : Nat) : Int)) := (hF19 2).trans rfl
 have s21 : F18 70 = undef := (hF19 70).trans rfl
 have s22 : F18 3 = .pointer (some ⟨p1, 0, none⟩) := (hF19 3).trans rfl
 have s23 : F18 4 = .pointer (some ⟨p8, 0, none⟩) := (hF19 4).trans rfl
 clear hF19
 refine then_normal ?_
 refine wq_seq ?_
 refine wq_region ?_
 refine wl_call (R := fun v_ w_ => v_ = .bool true ∧ Kept (fun _ => False) w9 w_) rfl rfl (y_cs rfl rfl rfl (fun _ _ => by kernel_rfl) (ev_func _) vsN (bawake_any   _ (hA.all K17) (hO.all K17) (hs.all K17) (hw.all K17)  ) (fun e_ w_ h_ => ⟨_, h_.1, rfl, h_.2⟩)) ?_
 rintro _ w24 ⟨rfl, k25⟩
 have B26 := B16.all k25 id
 have B27 := B10.all k25 id
 have K28 := K17.trans k25 (fun _ _ x => x.elim)
 refine wl_v (.bool true) rfl rfl (y_asg rfl rfl ⟨rfl, rfl⟩) ?_
 refine wl_nil fun F29 hF30 => ?_
 have s31 := (hF30 2).trans s20
 have s32 := (hF30 70).trans s21
 have s33 := (hF30 3).trans s22
 have s34 := (hF30 4).trans s23
 have s35 : F29 7 = .bool true := (hF30 7).trans rfl
 clear hF30
 refine then_normal ?_
 refine wq_seq ?_
 refine wq_seq ?_
 refine wq_region ?_
 refine wl_v (.int .i64 (0)) rfl rfl (y_asg rfl rfl ⟨rfl, rfl⟩) ?_
 refine wl_nil fun F36 hF37 => ?_
 have s38 := (hF37 2).trans s31
 have s39 := (hF37 70).trans s32
 have s40 := (hF37 3).trans s33
 have s41 := (hF37 4).trans s34
 have s42 := (hF37 7).trans s35
 have s43 : F36 8 = .int .i64 (0) := (hF37 8).trans rfl
 clear hF37
 refine then_normal ?_
 refine wq_block ?_
 refine wq_loop (fun nn FF ww => ∃ (i : Nat), (i ≤ 16) ∧ nn = 16 - i ∧ FF 2 = .int .u8 (((q : Nat) : Int)) ∧ FF 3 = .pointer (some ⟨p1, 0, none⟩) ∧ FF 4 = .pointer (some ⟨p8, 0, none⟩) ∧ FF 7 = .bool true ∧ FF 70 = undef ∧ FF 8 = .int .i64 (((i : Nat) : Int)) ∧ Kept (fun _ => False) w0 ww ∧ Stc ww p1 27 (chW (c)) ∧ Blk ww p8 24 (upto i b (c8M b))) (16 - (0)) ⟨0, by omega, rfl, s38, s40, s41, s42, s39, s43, K28, B26, B27.first⟩ ?_
 rintro n47 F44 w45 ⟨i, i48, hn47, s49, s50, s51, s52, s53, s54, K46, B55, B56⟩
 refine wq_seq ?_
 refine wq_seq ?_
 refine wq_region ?_
 refine wl_v (.int .i64 (((i : Nat) : Int))) rfl rfl (y_mov rfl s54 ⟨rfl, rfl⟩) ?_
 refine wl_v (.bool (decide ((((i : Nat) : Int)) < (16)))) rfl rfl (y_lss rfl rfl rfl rfl ⟨rfl, rfl⟩) ?_
 refine wl_nil fun F57 hF58 => ?_
 have s59 := (hF58 2).trans s49
 have s60 := (hF58 3).trans s50
 have s61 := (hF58 4).trans s51
 have s62 := (hF58 7).trans s52
 have s63 := (hF58 70).trans s53
 have s64 := (hF58 8).trans s54
 have s65 : F57 16 = .bool (decide ((((i : Nat) : Int)) < (16))) := (hF58 16).trans rfl
 clear hF58
 refine then_normal ?_
 refine wq_cond s65 (fun c66 => ?_) (fun c66 => ?_)
 ·replace c66 := of_decide_eq_true c66
  refine wq_skip ?_
  refine then_normal ?_
  refine wq_seq ?_
  refine wq_block ?_
  refine wq_region ?_
  refine wl_v (.int .i64 (((i : Nat) : Int))) rfl rfl (y_mov rfl s64 ⟨rfl, rfl⟩) ?_
  refine wl_v (.int .i64 (((i : Nat) : Int))) rfl rfl (y_mov rfl s64 ⟨rfl, rfl⟩) ?_
  refine wl_v (.pointer (some ⟨p8, i, none⟩)) rfl rfl (y_atR (i) (s := 1) rfl s61 rfl (by omega) Tryd.underlying24 (by omega) (by kernel_rfl) (by omega) ⟨rfl, rfl⟩) ?_
  refine wl_v (.int .i64 (b i)) rfl rfl (y_ldR rfl rfl Tryd.underlying3 (((B56).cell (by omega)).trans (some_int (upto_at i _ _))) ⟨rfl, rfl⟩) ?_
  refine wl_v (.int .i64 (max (b i) (0))) rfl rfl (y_maxR rfl rfl rfl rfl ⟨rfl, rfl⟩) ?_
  refine wl_v (.int .i64 (c8M b i)) rfl rfl (y_minR rfl rfl rfl ((by unfold c8M; omega)) ⟨rfl, rfl⟩) ?_
  refine wl_v (.pointer (some ⟨p8, i, none⟩)) rfl rfl (y_atR (i) (s := 1) rfl s61 rfl (by omega) Tryd.underlying24 (by omega) (by kernel_rfl) (by omega) ⟨rfl, rfl⟩) ?_
  refine wl_set_blk rfl rfl rfl rfl rfl B56 (by omega) (by kernel_rfl) fun w67 B68 k69 => ?_
  have B70 := B55.all k69 (fun x => (((ap15).symm) p1 rfl x))
  have K71 := K46.trans k69 (Grew.ok (S := fun _ => False) gr14 noB_le)
  refine wl_nil fun F72 hF73 => ?_
  have s74 := (hF73 2).trans s59
  have s75 := (hF73 3).trans s60
  have s76 := (hF73 4).trans s61
  have s77 := (hF73 7).trans s62
  have s78 := (hF73 70).trans s63
  have s79 := (hF73 8).trans s64
  clear hF73
  refine in_normal ?_
  refine then_normal ?_
  refine wq_region ?_
  refine wl_v (.int .i64 (((i : Nat) : Int))) rfl rfl (y_mov rfl s79 ⟨rfl, rfl⟩) ?_
  refine wl_v (.int .i64 (((i + 1 : Nat) : Int))) rfl rfl (y_add rfl rfl rfl (i64_n (by omega) (by omega)) ⟨rfl, rfl⟩) ?_
  refine wl_v (.int .i64 (((i + 1 : Nat) : Int))) rfl rfl (y_asg rfl rfl ⟨rfl, rfl⟩) ?_
  refine wl_nil fun F80 hF81 => ?_
  have s82 := (hF81 2).trans s74
  have s83 := (hF81 3).trans s75
  have s84 := (hF81 4).trans s76
  have s85 := (hF81 7).trans s77
  have s86 := (hF81 70).trans s78
  have s87 : F80 8 = .int .i64 (((i + 1 : Nat) : Int)) := (hF81 8).trans rfl
  clear hF81
  exact then_normal ⟨(16 - (i + 1)), by omega, i + 1, by omega, rfl, s82, s83, s84, s85, s86, s87, K71, B70, (B68.next rfl)⟩
 ·replace c66 := of_decide_eq_false c66
  refine wq_exit ?_
  refine then_exit ?_
  refine then_exit ?_
  have l88 : 16 = i := by omega
  subst l88
  have B89 : Blk w45 p8 24 (c8M b) := (B56.last)
  refine in_here ?_
  refine then_normal ?_
  refine wq_seq ?_
  refine wq_region ?_
  refine wl_v (blkV (c8M b)) rfl rfl (y_load_blk blkT_arr rfl s61 B89 ⟨rfl, rfl⟩) ?_
  refine wl_v (.pointer (some ⟨p1, 0, none⟩)) rfl rfl (y_fieldR (n := 1) rfl s60 Tryd.underlying27 rfl (by kernel_rfl) (by decide) rfl ⟨rfl, rfl⟩) ?_
  refine wl_v (.int .i64 ((c).m)) rfl rfl (y_ld_stc rfl rfl Tryd.underlying3 B55 rfl rfl ⟨rfl, rfl⟩) ?_
  refine wl_v (.agg (chL ((c).m) 0 0 0 0 (fun _ => (0 : Int))).toArray) rfl rfl (y_buildL (l' := [(0, .int .i64 ((c).m))]) (cells := (chL ((c).m) 0 0 0 0 (fun _ => (0 : Int))).toArray) rfl (bpC rfl bpN) (by kernel_rfl) rfl ⟨rfl, rfl⟩) ?_
  refine wl_v (.int .u8 (((q : Nat) : Int))) rfl rfl (y_mov rfl s59 ⟨rfl, rfl⟩) ?_
  refine wl_v (.int .i64 (((q : Nat) : Int))) rfl rfl (y_convR rfl rfl Tryd.underlying5 Tryd.underlying3 (i64_i rfl (by omega)) ⟨rfl, rfl⟩) ?_
  refine wl_v (.int .i64 (((k : Nat) : Int))) rfl rfl (y_rem rfl rfl rfl (by first | decide | omega) ((mod_nat q 21).trans (by rw [hkq])) ⟨rfl, rfl⟩) ?_
  refine wl_call (R := fun v_ w_ => v_ = .tuple #[blkV (buB (c8M b) (Ch.mk ((c).m) (0) (0) (0) (0) (fun _ => (0 : Int))).b (((k : Nat) : Int))), .int .i64 (ern (((k : Nat) : Int)))] ∧ Kept (fun _ => False) w45 w_) rfl rfl (y_cs rfl rfl rfl (fun _ _ => by kernel_rfl) (ev_func _) (vsC rfl (vsC rfl (vsC rfl vsN))) (bl_build (c8M b) (Ch.mk ((c).m) (0) (0) (0) (0) (fun _ => (0 : Int))) (((k : Nat) : Int))  _ (hs.all K46) (hw.all K46)  ) (fun e_ w_ h_ => ⟨_, h_.1, rfl, h_.2⟩)) ?_
  rintro _ w90 ⟨rfl, k91⟩
  have B92 := B55.all k91 id
  have B93 := B89.all k91 id
  have K94 := K46.trans k91 (fun _ _ x => x.elim)
  refine wl_v (.tuple #[blkV (buB (c8M b) (Ch.mk ((c).m) (0) (0) (0) (0) (fun _ => (0 : Int))).b (((k : Nat) : Int))), .int .i64 (ern (((k : Nat) : Int)))]) rfl rfl (y_mov rfl rfl ⟨rfl, rfl⟩) ?_
  refine wl_v (blkV (buB (c8M b) (Ch.mk ((c).m) (0) (0) (0) (0) (fun _ => (0 : Int))).b (((k : Nat) : Int)))) rfl rfl (y_ext rfl rfl rfl ⟨rfl, rfl⟩) ?_
  refine wl_v (.int .i64 (ern (((k : Nat) : Int)))) rfl rfl (y_ext rfl rfl rfl ⟨rfl, rfl⟩) ?_
  refine wl_alloc_blk rfl rfl rfl blkT_block.2.2 fun p95 w96 e99 B97 k98 => ?_
  have g100 := onB_new (Nat.le_of_eq e99.symm)
  have gr101 : Grew w0 noB (onB p95) := Grew.new K94 g100
  have ap102 : Apart (onB p95) (onB p1) := Apart.new g100 (onB_live (B92).lt)
  have ap103 : Apart (onB p95) (onB p8) := Apart.new g100 (onB_live (B93).lt)
  clear e99 g100
  have B104 := B92.all k98 id
  have B105 := B93.all k98 id
  have K106 := K94.trans k98 (fun _ _ x => x.elim)
  refine wl_store_blk blkT_block rfl rfl rfl rfl rfl B97 fun w107 B108 k109 => ?_
  have B110 := B104.all k109 (fun x => (((ap102).symm) p1 rfl x))
  have B111 := B105.all k109 (fun x => (((ap103).symm) p8 rfl x))
  have K112 := K106.trans k109 (Grew.ok (S := fun _ => False) gr101 noB_le)
  refine wl_v (.int .i64 (ern (((k : Nat) : Int)))) rfl rfl (y_asg rfl rfl ⟨rfl, rfl⟩) ?_
  refine wl_nil fun F113 hF114 => ?_
  have s115 := (hF114 3).trans s60
  have s116 := (hF114 4).trans s61
  have s117 := (hF114 7).trans s62
  have s118 := (hF114 70).trans s63
  have s119 : F113 9 = .pointer (some ⟨p95, 0, none⟩) := (hF114 9).trans rfl
  have s120 : F113 10 = .int .i64 (ern (((k : Nat) : Int))) := (hF114 10).trans rfl
  clear hF114
  refine then_normal ?_
  refine wq_seq ?_
  refine wq_region ?_
  refine wl_v (.agg (chW (c)).toArray) rfl rfl (y_load_stc stcT_choice rfl s115 B110 ⟨rfl, rfl⟩) ?_
  refine wl_call (R := fun v_ w_ => v_ = .int .i64 (chE (0) (c)) ∧ Kept (fun _ => False) w107 w_) rfl rfl (y_cs rfl rfl rfl (fun _ _ => by kernel_rfl) (ev_func _) (vsC rfl (vsC rfl vsN)) (bl_check (0) (c)  _ (hA.all K112)  ) (fun e_ w_ h_ => ⟨_, h_.1, rfl, h_.2⟩)) ?_
  rintro _ w121 ⟨rfl, k122⟩
  have B123 := B110.all k122 id
  have B124 := B111.all k122 id
  have B125 := B108.all k122 id
  have K126 := K112.trans k122 (fun _ _ x => x.elim)
  refine wl_v (.bool (decide ((chE (0) (c)) = (0)))) rfl rfl (y_eqlI rfl rfl rfl rfl ⟨rfl, rfl⟩) ?_
  refine wl_v (.bool (decide ((chE (0) (c)) = (0)))) rfl rfl (y_asg rfl rfl ⟨rfl, rfl⟩) ?_
  refine wl_nil fun F127 hF128 => ?_
  have s129 := (hF128 3).trans s115
  have s130 := (hF128 4).trans s116
  have s131 := (hF128 7).trans s117
  have s132 := (hF128 70).trans s118
  have s133 := (hF128 9).trans s119
  have s134 := (hF128 10).trans s120
  have s135 : F127 11 = .bool (decide ((chE (0) (c)) = (0))) := (hF128 11).trans rfl
  clear hF128
  refine then_normal ?_
  refine wq_seq ?_
  refine wq_region ?_
  refine wl_v (.agg (chW (c)).toArray) rfl rfl (y_load_stc stcT_choice rfl s129 B123 ⟨rfl, rfl⟩) ?_
  refine wl_call (R := fun v_ w_ => v_ = .int .i64 (chE (1) (c)) ∧ Kept (fun _ => False) w121 w_) rfl rfl (y_cs rfl rfl rfl (fun _ _ => by kernel_rfl) (ev_func _) (vsC rfl (vsC rfl vsN)) (bl_check (1) (c)  _ (hA.all K126)  ) (fun e_ w_ h_ => ⟨_, h_.1, rfl, h_.2⟩)) ?_
  rintro _ w136 ⟨rfl, k137⟩
  have B138 := B123.all k137 id
  have B139 := B124.all k137 id
  have B140 := B125.all k137 id
  have K141 := K126.trans k137 (fun _ _ x => x.elim)
  refine wl_v (.bool (decide ((chE (1) (c)) = (0)))) rfl rfl (y_eqlI rfl rfl rfl rfl ⟨rfl, rfl⟩) ?_
  refine wl_v (.bool (decide ((chE (1) (c)) = (0)))) rfl rfl (y_asg rfl rfl ⟨rfl, rfl⟩) ?_
  refine wl_nil fun F142 hF143 => ?_
  have s144 := (hF143 3).trans s129
  have s145 := (hF143 4).trans s130
  have s146 := (hF143 7).trans s131
  have s147 := (hF143 70).trans s132
  have s148 := (hF143 9).trans s133
  have s149 := (hF143 10).trans s134
  have s150 := (hF143 11).trans s135
  have s151 : F142 12 = .bool (decide ((chE (1) (c)) = (0))) := (hF143 12).trans rfl
  clear hF143
  refine then_normal ?_
  refine wq_seq ?_
  refine wq_region ?_
  refine wl_v (.agg (chW (c)).toArray) rfl rfl (y_load_stc stcT_choice rfl s144 B138 ⟨rfl, rfl⟩) ?_
  refine wl_call (R := fun v_ w_ => v_ = .int .i64 (chE (2) (c)) ∧ Kept (fun _ => False) w136 w_) rfl rfl (y_cs rfl rfl rfl (fun _ _ => by kernel_rfl) (ev_func _) (vsC rfl (vsC rfl vsN)) (bl_check (2) (c)  _ (hA.all K141)  ) (fun e_ w_ h_ => ⟨_, h_.1, rfl, h_.2⟩)) ?_
  rintro _ w152 ⟨rfl, k153⟩
  have B155 := B139.all k153 id
  have B156 := B140.all k153 id
  have K157 := K141.trans k153 (fun _ _ x => x.elim)
  refine wl_v (.bool (decide ((chE (2) (c)) = (0)))) rfl rfl (y_eqlI rfl rfl rfl rfl ⟨rfl, rfl⟩) ?_
  refine wl_v (.bool (decide ((chE (2) (c)) = (0)))) rfl rfl (y_asg rfl rfl ⟨rfl, rfl⟩) ?_
  refine wl_nil fun F158 hF159 => ?_
  have s160 := (hF159 4).trans s145
  have s161 := (hF159 7).trans s146
  have s162 := (hF159 70).trans s147
  have s163 := (hF159 9).trans s148
  have s164 := (hF159 10).trans s149
  have s165 := (hF159 11).trans s150
  have s166 := (hF159 12).trans s151
  have s167 : F158 13 = .bool (decide ((chE (2) (c)) = (0))) := (hF159 13).trans rfl
  clear hF159
  refine then_normal ?_
  refine wq_seq ?_
  by_cases d168 : (chE (0) (c)) = (0)
  ·skip
   by_cases d169 : (chE (1) (c)) = (0)
   ·skip
    refine wq_region ?_
    refine wl_v (.bool true) rfl rfl (y_mov rfl s161 ⟨rfl, rfl⟩) ?_
    refine wl_v (.bool true) rfl rfl (y_mov rfl rfl ⟨rfl, rfl⟩) ?_
    refine wl_vw (blkV (buB (c8M b) (Ch.mk ((c).m) (0) (0) (0) (0) (fun _ => (0 : Int))).b (((k : Nat) : Int)))) 1 true 47 rfl rfl rfl rfl rfl (y_load_blk blkT_block rfl s163 B156 ⟨rfl, rfl⟩) ?_
    refine wl_vw (blkV (c8M b)) 1 true 47 rfl rfl rfl rfl rfl (y_load_blk blkT_arr rfl s160 B155 ⟨rfl, rfl⟩) ?_
    refine wl_vw (.bool true) 1 true 47 rfl rfl rfl rfl rfl (y_sameR rfl rfl rfl (sameB_true fun i _ => congrFun hpl.out i) ⟨rfl, rfl⟩) ?_
    refine wl_v (.bool true) rfl rfl (y_pickT rfl rfl rfl ⟨rfl, rfl⟩) ?_
    refine wl_v (.bool true) rfl rfl (y_mov rfl rfl ⟨rfl, rfl⟩) ?_
    refine wl_vw (.int .i64 (ern (((k : Nat) : Int)))) 6 true 52 rfl rfl rfl rfl rfl (y_mov rfl s164 ⟨rfl, rfl⟩) ?_
    refine wl_vw (.bool true) 6 true 52 rfl rfl rfl rfl rfl (y_eqlI rfl rfl rfl (decide_eq_true he) ⟨rfl, rfl⟩) ?_
    refine wl_v (.bool true) rfl rfl (y_pickT rfl rfl rfl ⟨rfl, rfl⟩) ?_
    refine wl_v (.bool true) rfl rfl (y_mov rfl rfl ⟨rfl, rfl⟩) ?_
    refine wl_vw (.bool true) 10 true 56 rfl rfl rfl rfl rfl (y_mov rfl (Eq.trans s165 (congrArg Value.bool (decide_eq_true d168))) ⟨rfl, rfl⟩) ?_
    refine wl_vw (.bool false) 10 true 56 rfl rfl rfl rfl rfl (y_not rfl rfl rfl ⟨rfl, rfl⟩) ?_
    refine wl_vw (.bool false) 10 true 56 rfl rfl rfl rfl rfl (y_mov rfl rfl ⟨rfl, rfl⟩) ?_
    refine wl_vw (.bool true) 13 false 59 rfl rfl rfl rfl rfl (y_mov rfl (Eq.trans s166 (congrArg Value.bool (decide_eq_true d169))) ⟨rfl, rfl⟩) ?_
    refine wl_vw (.bool true) 10 true 56 rfl rfl rfl rfl rfl (y_pickF rfl rfl rfl ⟨rfl, rfl⟩) ?_
    refine wl_v (.bool true) rfl rfl (y_pickT rfl rfl rfl ⟨rfl, rfl⟩) ?_
    refine wl_v (.bool true) rfl rfl (y_mov rfl rfl ⟨rfl, rfl⟩) ?_
    refine wl_vw (.bool true) 17 true 63 rfl rfl rfl rfl rfl (y_mov rfl (Eq.trans s166 (congrArg Value.bool (decide_eq_true d169))) ⟨rfl, rfl⟩) ?_
    refine wl_vw (.bool false) 17 true 63 rfl rfl rfl rfl rfl (y_not rfl rfl rfl ⟨rfl, rfl⟩) ?_
    refine wl_vw (.bool false) 17 true 63 rfl rfl rfl rfl rfl (y_mov rfl rfl ⟨rfl, rfl⟩) ?_
    refine wl_vw (.bool (decide ((chE (2) (c)) = (0)))) 20 false 66 rfl rfl rfl rfl rfl (y_mov rfl s167 ⟨rfl, rfl⟩) ?_
    refine wl_vw (.bool (decide ((chE (2) (c)) = (0)))) 17 true 63 rfl rfl rfl rfl rfl (y_pickF rfl rfl rfl ⟨rfl, rfl⟩) ?_
    refine wl_v (.bool (decide ((chE (2) (c)) = (0)))) rfl rfl (y_pickT rfl rfl rfl ⟨rfl, rfl⟩) ?_
    refine wl_v (.bool (decide ((chE (2) (c)) = (0)))) rfl rfl (y_asg rfl rfl ⟨rfl, rfl⟩) ?_
    refine wl_nil fun F170 hF171 => ?_
    have s172 := (hF171 70).trans s162
    have s173 : F170 6 = .bool (decide ((chE (2) (c)) = (0))) := (hF171 6).trans rfl
    clear hF171
    refine then_normal ?_
    refine wq_ret ?_
    exact end_tmp (v := .bool (decide ((chE (2) (c)) = (0)))) s172 rfl rfl s173 ⟨(retB (by first | rfl | exact decide_eq_true (ch_up1 (by assumption)) | exact absurd (ch_up0 (by assumption)) (by assumption) | exact absurd (ch_up1 (by assumption)) (by assumption))), K157⟩
   ·skip
    refine wq_region ?_
    refine wl_v (.bool true) rfl rfl (y_mov rfl s161 ⟨rfl, rfl⟩) ?_
    refine wl_v (.bool true) rfl rfl (y_mov rfl rfl ⟨rfl, rfl⟩) ?_
    refine wl_vw (blkV (buB (c8M b) (Ch.mk ((c).m) (0) (0) (0) (0) (fun _ => (0 : Int))).b (((k : Nat) : Int)))) 1 true 47 rfl rfl rfl rfl rfl (y_load_blk blkT_block rfl s163 B156 ⟨rfl, rfl⟩) ?_
    refine wl_vw (blkV (c8M b)) 1 true 47 rfl rfl rfl rfl rfl (y_load_blk blkT_arr rfl s160 B155 ⟨rfl, rfl⟩) ?_
    refine wl_vw (.bool true) 1 true 47 rfl rfl rfl rfl rfl (y_sameR rfl rfl rfl (sameB_true fun i _ => congrFun hpl.out i) ⟨rfl, rfl⟩) ?_
    refine wl_v (.bool true) rfl rfl (y_pickT rfl rfl rfl ⟨rfl, rfl⟩) ?_
    refine wl_v (.bool true) rfl rfl (y_mov rfl rfl ⟨rfl, rfl⟩) ?_
    refine wl_vw (.int .i64 (ern (((k : Nat) : Int)))) 6 true 52 rfl rfl rfl rfl rfl (y_mov rfl s164 ⟨rfl, rfl⟩) ?_
    refine wl_vw (.bool true) 6 true 52 rfl rfl rfl rfl rfl (y_eqlI rfl rfl rfl (decide_eq_true he) ⟨rfl, rfl⟩) ?_
    refine wl_v (.bool true) rfl rfl (y_pickT rfl rfl rfl ⟨rfl, rfl⟩) ?_
    refine wl_v (.bool true) rfl rfl (y_mov rfl rfl ⟨rfl, rfl⟩) ?_
    refine wl_vw (.bool true) 10 true 56 rfl rfl rfl rfl rfl (y_mov rfl (Eq.trans s165 (congrArg Value.bool (decide_eq_true d168))) ⟨rfl, rfl⟩) ?_
    refine wl_vw (.bool false) 10 true 56 rfl rfl rfl rfl rfl (y_not rfl rfl rfl ⟨rfl, rfl⟩) ?_
    refine wl_vw (.bool false) 10 true 56 rfl rfl rfl rfl rfl (y_mov rfl rfl ⟨rfl, rfl⟩) ?_
    refine wl_vw (.bool false) 13 false 59 rfl rfl rfl rfl rfl (y_mov rfl (Eq.trans s166 (congrArg Value.bool (decide_eq_false d169))) ⟨rfl, rfl⟩) ?_
    refine wl_vw (.bool false) 10 true 56 rfl rfl rfl rfl rfl (y_pickF rfl rfl rfl ⟨rfl, rfl⟩) ?_
    refine wl_v (.bool false) rfl rfl (y_pickT rfl rfl rfl ⟨rfl, rfl⟩) ?_
    refine wl_v (.bool false) rfl rfl (y_mov rfl rfl ⟨rfl, rfl⟩) ?_
    refine wl_unless 17 true 63 rfl rfl rfl (Or.inl rfl) rfl ?_
    refine wl_unless 17 true 63 rfl rfl rfl (Or.inl rfl) rfl ?_
    refine wl_unless 17 true 63 rfl rfl rfl (Or.inl rfl) rfl ?_
    refine wl_unless 20 false 66 rfl rfl rfl (Or.inr rfl) rfl ?_
    refine wl_unless 17 true 63 rfl rfl rfl (Or.inl rfl) rfl ?_
    refine wl_v (.bool false) rfl rfl (y_pickF rfl rfl rfl ⟨rfl, rfl⟩) ?_
    refine wl_v (.bool false) rfl rfl (y_asg rfl rfl ⟨rfl, rfl⟩) ?_
    refine wl_nil fun F174 hF175 => ?_
    have s176 := (hF175 70).trans s162
    have s177 : F174 6 = .bool false := (hF175 6).trans rfl
    clear hF175
    refine then_normal ?_
    refine wq_ret ?_
    exact end_tmp (v := .bool false) s176 rfl rfl s177 ⟨(retB (by first | rfl | exact decide_eq_true (ch_up1 (by assumption)) | exact absurd (ch_up0 (by assumption)) (by assumption) | exact absurd (ch_up1 (by assumption)) (by assumption))), K157⟩
  ·skip
   by_cases d178 : (chE (1) (c)) = (0)
   ·skip
    refine wq_region ?_
    refine wl_v (.bool true) rfl rfl (y_mov rfl s161 ⟨rfl, rfl⟩) ?_
    refine wl_v (.bool true) rfl rfl (y_mov rfl rfl ⟨rfl, rfl⟩) ?_
    refine wl_vw (blkV (buB (c8M b) (Ch.mk ((c).m) (0) (0) (0) (0) (fun _ => (0 : Int))).b (((k : Nat) : Int)))) 1 true 47 rfl rfl rfl rfl rfl (y_load_blk blkT_block rfl s163 B156 ⟨rfl, rfl⟩) ?_
    refine wl_vw (blkV (c8M b)) 1 true 47 rfl rfl rfl rfl rfl (y_load_blk blkT_arr rfl s160 B155 ⟨rfl, rfl⟩) ?_
    refine wl_vw (.bool true) 1 true 47 rfl rfl rfl rfl rfl (y_sameR rfl rfl rfl (sameB_true fun i _ => congrFun hpl.out i) ⟨rfl, rfl⟩) ?_
    refine wl_v (.bool true) rfl rfl (y_pickT rfl rfl rfl ⟨rfl, rfl⟩) ?_
    refine wl_v (.bool true) rfl rfl (y_mov rfl rfl ⟨rfl, rfl⟩) ?_
    refine wl_vw (.int .i64 (ern (((k : Nat) : Int)))) 6 true 52 rfl rfl rfl rfl rfl (y_mov rfl s164 ⟨rfl, rfl⟩) ?_
    refine wl_vw (.bool true) 6 true 52 rfl rfl rfl rfl rfl (y_eqlI rfl rfl rfl (decide_eq_true he) ⟨rfl, rfl⟩) ?_
    refine wl_v (.bool true) rfl rfl (y_pickT rfl rfl rfl ⟨rfl, rfl⟩) ?_
    refine wl_v (.bool true) rfl rfl (y_mov rfl rfl ⟨rfl, rfl⟩) ?_
    refine wl_vw (.bool false) 10 true 56 rfl rfl rfl rfl rfl (y_mov rfl (Eq.trans s165 (congrArg Value.bool (decide_eq_false d168))) ⟨rfl, rfl⟩) ?_
    refine wl_vw (.bool true) 10 true 56 rfl rfl rfl rfl rfl (y_not rfl rfl rfl ⟨rfl, rfl⟩) ?_
    refine wl_vw (.bool true) 10 true 56 rfl rfl rfl rfl rfl (y_mov rfl rfl ⟨rfl, rfl⟩) ?_
    refine wl_unless 13 false 59 rfl rfl rfl (Or.inl rfl) rfl ?_
    refine wl_vw (.bool true) 10 true 56 rfl rfl rfl rfl rfl (y_pickT rfl rfl rfl ⟨rfl, rfl⟩) ?_
    refine wl_v (.bool true) rfl rfl (y_pickT rfl rfl rfl ⟨rfl, rfl⟩) ?_
    refine wl_v (.bool true) rfl rfl (y_mov rfl rfl ⟨rfl, rfl⟩) ?_
    refine wl_vw (.bool true) 17 true 63 rfl rfl rfl rfl rfl (y_mov rfl (Eq.trans s166 (congrArg Value.bool (decide_eq_true d178))) ⟨rfl, rfl⟩) ?_
    refine wl_vw (.bool false) 17 true 63 rfl rfl rfl rfl rfl (y_not rfl rfl rfl ⟨rfl, rfl⟩) ?_
    refine wl_vw (.bool false) 17 true 63 rfl rfl rfl rfl rfl (y_mov rfl rfl ⟨rfl, rfl⟩) ?_
    refine wl_vw (.bool (decide ((chE (2) (c)) = (0)))) 20 false 66 rfl rfl rfl rfl rfl (y_mov rfl s167 ⟨rfl, rfl⟩) ?_
    refine wl_vw (.bool (decide ((chE (2) (c)) = (0)))) 17 true 63 rfl rfl rfl rfl rfl (y_pickF rfl rfl rfl ⟨rfl, rfl⟩) ?_
    refine wl_v (.bool (decide ((chE (2) (c)) = (0)))) rfl rfl (y_pickT rfl rfl rfl ⟨rfl, rfl⟩) ?_
    refine wl_v (.bool (decide ((chE (2) (c)) = (0)))) rfl rfl (y_asg rfl rfl ⟨rfl, rfl⟩) ?_
    refine wl_nil fun F179 hF180 => ?_
    have s181 := (hF180 70).trans s162
    have s182 : F179 6 = .bool (decide ((chE (2) (c)) = (0))) := (hF180 6).trans rfl
    clear hF180
    refine then_normal ?_
    refine wq_ret ?_
    exact end_tmp (v := .bool (decide ((chE (2) (c)) = (0)))) s181 rfl rfl s182 ⟨(retB (by first | rfl | exact decide_eq_true (ch_up1 (by assumption)) | exact absurd (ch_up0 (by assumption)) (by assumption) | exact absurd (ch_up1 (by assumption)) (by assumption))), K157⟩
   ·skip
    refine wq_region ?_
    refine wl_v (.bool true) rfl rfl (y_mov rfl s161 ⟨rfl, rfl⟩) ?_
    refine wl_v (.bool true) rfl rfl (y_mov rfl rfl ⟨rfl, rfl⟩) ?_
    refine wl_vw (blkV (buB (c8M b) (Ch.mk ((c).m) (0) (0) (0) (0) (fun _ => (0 : Int))).b (((k : Nat) : Int)))) 1 true 47 rfl rfl rfl rfl rfl (y_load_blk blkT_block rfl s163 B156 ⟨rfl, rfl⟩) ?_
    refine wl_vw (blkV (c8M b)) 1 true 47 rfl rfl rfl rfl rfl (y_load_blk blkT_arr rfl s160 B155 ⟨rfl, rfl⟩) ?_
    refine wl_vw (.bool true) 1 true 47 rfl rfl rfl rfl rfl (y_sameR rfl rfl rfl (sameB_true fun i _ => congrFun hpl.out i) ⟨rfl, rfl⟩) ?_
    refine wl_v (.bool true) rfl rfl (y_pickT rfl rfl rfl ⟨rfl, rfl⟩) ?_
    refine wl_v (.bool true) rfl rfl (y_mov rfl rfl ⟨rfl, rfl⟩) ?_
    refine wl_vw (.int .i64 (ern (((k : Nat) : Int)))) 6 true 52 rfl rfl rfl rfl rfl (y_mov rfl s164 ⟨rfl, rfl⟩) ?_
    refine wl_vw (.bool true) 6 true 52 rfl rfl rfl rfl rfl (y_eqlI rfl rfl rfl (decide_eq_true he) ⟨rfl, rfl⟩) ?_
    refine wl_v (.bool true) rfl rfl (y_pickT rfl rfl rfl ⟨rfl, rfl⟩) ?_
    refine wl_v (.bool true) rfl rfl (y_mov rfl rfl ⟨rfl, rfl⟩) ?_
    refine wl_vw (.bool false) 10 true 56 rfl rfl rfl rfl rfl (y_mov rfl (Eq.trans s165 (congrArg Value.bool (decide_eq_false d168))) ⟨rfl, rfl⟩) ?_
    refine wl_vw (.bool true) 10 true 56 rfl rfl rfl rfl rfl (y_not rfl rfl rfl ⟨rfl, rfl⟩) ?_
    refine wl_vw (.bool true) 10 true 56 rfl rfl rfl rfl rfl (y_mov rfl rfl ⟨rfl, rfl⟩) ?_
    refine wl_unless 13 false 59 rfl rfl rfl (Or.inl rfl) rfl ?_
    refine wl_vw (.bool true) 10 true 56 rfl rfl rfl rfl rfl (y_pickT rfl rfl rfl ⟨rfl, rfl⟩) ?_
    refine wl_v (.bool true) rfl rfl (y_pickT rfl rfl rfl ⟨rfl, rfl⟩) ?_
    refine wl_v (.bool true) rfl rfl (y_mov rfl rfl ⟨rfl, rfl⟩) ?_
    refine wl_vw (.bool false) 17 true 63 rfl rfl rfl rfl rfl (y_mov rfl (Eq.trans s166 (congrArg Value.bool (decide_eq_false d178))) ⟨rfl, rfl⟩) ?_
    refine wl_vw (.bool true) 17 true 63 rfl rfl rfl rfl rfl (y_not rfl rfl rfl ⟨rfl, rfl⟩) ?_
    refine wl_vw (.bool true) 17 true 63 rfl rfl rfl rfl rfl (y_mov rfl rfl ⟨rfl, rfl⟩) ?_
    refine wl_unless 20 false 66 rfl rfl rfl (Or.inl rfl) rfl ?_
    refine wl_vw (.bool true) 17 true 63 rfl rfl rfl rfl rfl (y_pickT rfl rfl rfl ⟨rfl, rfl⟩) ?_
    refine wl_v (.bool true) rfl rfl (y_pickT rfl rfl rfl ⟨rfl, rfl⟩) ?_
    refine wl_v (.bool true) rfl rfl (y_asg rfl rfl ⟨rfl, rfl⟩) ?_
    refine wl_nil fun F183 hF184 => ?_
    have s185 := (hF184 70).trans s162
    have s186 : F183 6 = .bool true := (hF184 6).trans rfl
    clear hF184
    refine then_normal ?_
    refine wq_ret ?_
    exact end_tmp (v := .bool true) s185 rfl rfl s186 ⟨(retB (by first | rfl | exact decide_eq_true (ch_up1 (by assumption)) | exact absurd (ch_up0 (by assumption)) (by assumption) | exact absurd (ch_up1 (by assumption)) (by assumption))), K157⟩

end Go.Proofs.YtdcbabgcbkdlhaaDoor
set_option maxRecDepth 100000
namespace Go.Proofs.YtdcbabgcbkdlhaaDoor
open Go.RowKit

def rCh : RowT Ch := { t := 54, e := 27, k := 21, by_ := 168, enc := chV, d := ⟨0, 0, 0, 0, 0, fun _ => 0⟩, z := .agg (chV ⟨0, 0, 0, 0, 0, fun _ => 0⟩).toArray }
instance rCh_ok : RowT.Ok rCh := ⟨Tryd.underlying54, by kernel_rfl, rfl, by decide, fun _ => rfl, fun c => one_ch c, by decide⟩
end Go.Proofs.YtdcbabgcbkdlhaaDoor
set_option maxRecDepth 100000
namespace Go.Proofs.YtdcbabgcbkdlhaaDoor
open Go.ChangeShapes Go.WideShapes Go.ChangeAt Go.RowKit Go.Deep

section
variable {H : Type} {enc : TypeId × Value → H} {w : World} {base : Nat} {spare : Nat → Bool} {held : Bool}
theorem Tryd.cellsVec : Tryd.prog.cellsOf 23 = 2 := by kernel_rfl
theorem Tryd.cellsVecI : Tryd.prog.cellsOf 3 = 1 := by kernel_rfl
end
end Go.Proofs.YtdcbabgcbkdlhaaDoor
set_option maxRecDepth 100000
namespace Go.Proofs.YtdcbabgcbkdlhaaDoor
open Go.ChangeShapes Go.WideShapes Go.ChangeAt Go.RowKit Go.Deep Go.Joins

section
variable {H : Type} {enc : TypeId × Value → H} {w : World} {base : Nat} {spare : Nat → Bool} {held : Bool}
theorem Tryd.cellsChB : Tryd.prog.cellsOf 25 = 16 := by kernel_rfl
theorem Tryd.cellsCh : Tryd.prog.cellsOf 27 = 21 := by kernel_rfl
theorem vec_cells2 {fuel : Nat} {cs : List Value} {y : DataW H × List MemPlace} (h : DataW.trod enc Tryd.prog w base spare held fuel 23 cs = some y) :
    ∃ X Y : Int, cs = [.int .i64 X, .int .i64 Y] := by
  obtain ⟨y0, y1, n, _, hsz, h0, h1⟩ := trod_struct2 Tryd.underlying23 h
  rw [Tryd.cellsVec] at hsz
  match cs, hsz with
  | [c0, c1], _ =>
    simp only [Tryd.cellsVecI, List.drop_zero, List.drop_succ_cons, List.take_succ_cons, List.take_zero] at h0 h1
    obtain ⟨X, hX, _, _⟩ := DataW.trod_int Tryd.underlying3 h0
    obtain ⟨Y, hY, _, _⟩ := DataW.trod_int Tryd.underlying3 h1
    simp only [List.cons.injEq, and_true] at hX hY
    subst hX; subst hY
    exact ⟨X, Y, rfl⟩
def intOf : Option Value → Int
  | some (.int _ z) => z
  | _ => 0
theorem ints_cells {fuel n : Nat} {t : TypeId} {cs : List Value} {y : DataW H × List MemPlace} (hu : Tryd.prog.underlying t = some (.array n 3)) (hc : Tryd.prog.cellsOf t = n) (h : DataW.trod enc Tryd.prog w base spare held fuel t cs = some y) :
    ∃ b : Nat → Int, cs = arrL n b := by
  obtain ⟨xs, m, rfl, hx, hl, hn, hel⟩ := DataW.trod_array hu h
  rw [hc] at hl
  have key : ∀ i, i < n → ∃ z : Int, cs[i]? = some (.int .i64 z) := by
    intro i hi
    have h2 := hel i hi
    rw [Tryd.cellsVecI, Nat.mul_one, List.getElem?_eq_getElem (by omega)] at h2
    obtain ⟨z, hz, _, _⟩ := DataW.trod_int Tryd.underlying3 h2
    have h3 : cs[i]? = some (.int .i64 z) := by
      have := congrArg (·[0]?) hz
      simpa [List.getElem?_take, List.getElem?_drop] using this
    exact ⟨z, h3⟩
  refine ⟨fun i => intOf cs[i]?, ?_⟩
  apply List.ext_getElem?
  intro i
  by_cases hi : i < n
  · obtain ⟨z, hz⟩ := key i hi
    rw [hz, arrL_at hi]
    show some (Value.int .i64 z) = some (Value.int .i64 (intOf cs[i]?))
    rw [hz]; rfl
  · rw [List.getElem?_eq_none (by omega), List.getElem?_eq_none (by rw [arrL_length]; omega)]
theorem choice_cells {fuel : Nat} {cs : List Value} {y : DataW H × List MemPlace} (h : DataW.trod enc Tryd.prog w base spare held fuel 27 cs = some y) : ∃ c : Ch, cs = chV c := by
  obtain ⟨y0, y1, y2, y3, n, _, hsz, h0, h1, h2, h3⟩ := trod_struct4 Tryd.underlying27 h
  rw [Tryd.cellsCh] at hsz
  simp only [Tryd.cellsVecI, Tryd.cellsVec, Tryd.cellsChB] at h0 h1 h2 h3
  obtain ⟨m, hm, _, _⟩ := DataW.trod_int Tryd.underlying3 h0
  obtain ⟨px, py, hp⟩ := vec_cells2 h1
  obtain ⟨nx, ny, hn⟩ := vec_cells2 h2
  obtain ⟨b, hb⟩ := ints_cells Tryd.underlying25 Tryd.cellsChB h3
  refine ⟨⟨m, px, py, nx, ny, b⟩, ?_⟩
  have e1 : cs = cs.take 1 ++ cs.drop 1 := (List.take_append_drop 1 cs).symm
  have e2 : cs.drop 1 = (cs.drop 1).take 2 ++ cs.drop 3 := by rw [show cs.drop 3 = (cs.drop 1).drop 2 by rw [List.drop_drop]]; exact (List.take_append_drop 2 _).symm
  have e3 : cs.drop 3 = (cs.drop 3).take 2 ++ cs.drop 5 := by rw [show cs.drop 5 = (cs.drop 3).drop 2 by rw [List.drop_drop]]; exact (List.take_append_drop 2 _).symm
  have e4 : cs.drop 5 = (cs.drop 5).take 16 := (List.take_of_length_le (by rw [List.length_drop]; omega)).symm
  simp only [List.drop_zero] at hm
  rw [e1, e2, e3, e4, hm, hp, hn, hb]
  rfl
theorem choice_open {r : Reach} {b0 : Nat} {v : Value} {d : DataW H} {ps : List MemPlace} (hval : Value.okWide Tryd.prog w r b0 27 v) (h : DataW.Trod enc Tryd.prog w base spare held 27 v d ps) :
    ∃ c : Ch, v = .agg (chV c).toArray := by
  obtain ⟨cs, rfl, hsz⟩ := okWide_struct Tryd.underlying27 hval
  obtain ⟨cs⟩ := cs
  obtain ⟨fuel, hf⟩ := h
  obtain ⟨c, hc⟩ := choice_cells (cs := cs) hf
  exact ⟨c, by rw [hc]⟩
end
end Go.Proofs.YtdcbabgcbkdlhaaDoor
set_option maxRecDepth 100000
namespace Go.Proofs.YtdcbabgcbkdlhaaDoor
open Go.RowKit

theorem nat_u8 {n : Int} (h : (Lit.int .u8 n).wf = true) : ∃ m : Nat, n = (m : Int) ∧ m < 256 := by
  have := bounds_u8 h
  exact ⟨n.toNat, by omega, by omega⟩
end Go.Proofs.YtdcbabgcbkdlhaaDoor
