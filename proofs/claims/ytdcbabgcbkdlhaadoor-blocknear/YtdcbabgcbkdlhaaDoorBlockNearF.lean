/- What BlockNear reaches of my texts, part 6. -/
import Derived.Test.YtdcbabgcbkdlhaaDoorBlockNearE
set_option maxRecDepth 100000
set_option maxRecDepth 100000
namespace Go.Proofs.YtdcbabgcbkdlhaaDoor
open Go.RowKit

def c12 : Ch := ⟨4, 2, 0, 0, 0, blL [3]⟩
set_option maxRecDepth 100000 in
theorem awake12 : chE 1 c12 = 0 ∧ chE 0 ⟨4, 0, 0, 0, 0, fun _ => 0⟩ = 120 ∧ chE 1 ⟨4, 0, 0, 0, 0, fun _ => 0⟩ = 0 ∧ buB (blL [100]) (blL [16]) 0 0 = 101 ∧ buB (blL [100]) (blL [16]) 0 5 = 1 ∧ ern 0 = 0 := by
  refine ⟨?_, ?_, ?_, ?_, ?_, ?_⟩ <;> decide +kernel
theorem awake12b : ∃ d, rdCh (pack (wrCh 1 c12 0 0 0 0)) 1 0 0 0 0 (some 0) = (d, 0, some (wrCh 1 c12 0 0 0 0).length) ∧ sameCh d c12 = true := by
  have h := awake12.1
  have e : wrCh 1 c12 0 0 0 0 = chBits c12 0 0 0 0 := if_pos h
  rw [e]
  have := ch_back (l := pack (chBits c12 0 0 0 0)) (a := 0) h (bitsAt_pack _)
  rwa [Nat.zero_add] at this

set_option maxHeartbeats 4000000 in
set_option maxRecDepth 100000 in
theorem bawake_any (w0 : World) (hA : ActsIn w0) (hO : ScanIn w0) (hs : StepsAt w0) (hw : Waves w0) :
  Calls Tryd.prog 9 #[] w0 fun e w' => e = .returned (.bool true) ∧ Kept (fun _ => False) w0 w' := by
 refine calls_wq (args := []) 98 Tryd.func9 rfl rfl (Nat.le_of_ble_eq_true rfl) ?_
 have K0 := Kept.refl (fun _ => False) w0
 have hf := Lib.hid awake12
 have hlen := wrCh_short 1 c12 0 0 0 0
 obtain ⟨d0, hd⟩ := awake12b
 obtain ⟨b0, hb0⟩ : ∃ b0, b0 = wrCh 1 c12 0 0 0 0 := ⟨_, rfl⟩
 rw [← hb0] at hd hlen
 have hd0 := Lib.hid hd
 clear hd
 refine wq_seq ?_
 refine wq_region ?_
 refine wl_v (.bool false) rfl rfl (y_asg rfl rfl ⟨rfl, rfl⟩) ?_
 refine wl_nil fun F1 hF2 => ?_
 have s3 : F1 98 = undef := (hF2 98).trans rfl
 clear hF2
 refine then_normal ?_
 refine wq_seq ?_
 refine wq_region ?_
 refine wl_call (R := fun v_ w_ => v_ = .tuple #[.bool (pastB (4)), .bool (nextB (4))] ∧ Kept (fun _ => False) w0 w_) rfl rfl (y_cs rfl rfl rfl (fun _ _ => by kernel_rfl) (ev_func _) (vsC rfl vsN) (bl_vectors (4)  _ (hA.all K0)  ) (fun e_ w_ h_ => ⟨_, h_.1, rfl, h_.2⟩)) ?_
 rintro _ w4 ⟨rfl, k5⟩
 have K6 := K0.trans k5 (fun _ _ x => x.elim)
 refine wl_v (.tuple #[.bool (pastB (4)), .bool (nextB (4))]) rfl rfl (y_mov rfl rfl ⟨rfl, rfl⟩) ?_
 refine wl_v (.bool (pastB (4))) rfl rfl (y_ext rfl rfl rfl ⟨rfl, rfl⟩) ?_
 refine wl_v (.bool (nextB (4))) rfl rfl (y_ext rfl rfl rfl ⟨rfl, rfl⟩) ?_
 refine wl_v (.bool (pastB (4))) rfl rfl (y_asg rfl rfl ⟨rfl, rfl⟩) ?_
 refine wl_v (.bool (nextB (4))) rfl rfl (y_asg rfl rfl ⟨rfl, rfl⟩) ?_
 refine wl_nil fun F7 hF8 => ?_
 have s9 := (hF8 98).trans s3
 have s10 : F7 1 = .bool (pastB (4)) := (hF8 1).trans rfl
 have s11 : F7 2 = .bool (nextB (4)) := (hF8 2).trans rfl
 clear hF8
 refine then_normal ?_
 refine wq_seq ?_
 refine wq_region ?_
 refine wl_call (R := fun v_ w_ => v_ = .tuple #[.bool (pastB (6)), .bool (nextB (6))] ∧ Kept (fun _ => False) w4 w_) rfl rfl (y_cs rfl rfl rfl (fun _ _ => by kernel_rfl) (ev_func _) (vsC rfl vsN) (bl_vectors (6)  _ (hA.all K6)  ) (fun e_ w_ h_ => ⟨_, h_.1, rfl, h_.2⟩)) ?_
 rintro _ w12 ⟨rfl, k13⟩
 have K14 := K6.trans k13 (fun _ _ x => x.elim)
 refine wl_v (.tuple #[.bool (pastB (6)), .bool (nextB (6))]) rfl rfl (y_mov rfl rfl ⟨rfl, rfl⟩) ?_
 refine wl_v (.bool (pastB (6))) rfl rfl (y_ext rfl rfl rfl ⟨rfl, rfl⟩) ?_
 refine wl_v (.bool (nextB (6))) rfl rfl (y_ext rfl rfl rfl ⟨rfl, rfl⟩) ?_
 refine wl_v (.bool (pastB (6))) rfl rfl (y_asg rfl rfl ⟨rfl, rfl⟩) ?_
 refine wl_v (.bool (nextB (6))) rfl rfl (y_asg rfl rfl ⟨rfl, rfl⟩) ?_
 refine wl_nil fun F15 hF16 => ?_
 have s17 := (hF16 98).trans s9
 have s18 := (hF16 1).trans s10
 have s19 := (hF16 2).trans s11
 have s20 : F15 3 = .bool (pastB (6)) := (hF16 3).trans rfl
 have s21 : F15 4 = .bool (nextB (6)) := (hF16 4).trans rfl
 clear hF16
 refine then_normal ?_
 refine wq_seq ?_
 refine wq_region ?_
 refine wl_v (.agg #[.slice none 0 0, .int .i64 0]) rfl rfl (y_buildR (cells := #[.slice none 0 0, .int .i64 0]) rfl (by kernel_rfl) rfl ⟨rfl, rfl⟩) ?_
 refine wl_box_wri rfl rfl rfl rfl fun p22 w23 T27 B26 g28 k24 => ?_
 have gr29 : Grew w0 noB (T27) := Grew.new K14 g28
 have K30 := K14.trans k24 (fun _ _ x => x.elim)
 refine wl_v (.pointer (some ⟨p22, 0, none⟩)) rfl rfl (y_asg rfl rfl ⟨rfl, rfl⟩) ?_
 refine wl_nil fun F31 hF32 => ?_
 have s33 := (hF32 98).trans s17
 have s34 := (hF32 1).trans s18
 have s35 := (hF32 2).trans s19
 have s36 := (hF32 3).trans s20
 have s37 := (hF32 4).trans s21
 have s38 : F31 5 = .pointer (some ⟨p22, 0, none⟩) := (hF32 5).trans rfl
 clear hF32
 refine then_normal ?_
 refine wq_seq ?_
 refine wq_region ?_
 refine wl_v (.agg #[.int .i64 (2), .int .i64 (0)]) rfl rfl (y_buildL (l' := [(0, .int .i64 (2))]) (cells := #[.int .i64 (2), .int .i64 (0)]) rfl (bpC rfl bpN) (by kernel_rfl) rfl ⟨rfl, rfl⟩) ?_
 refine wl_v (blkV (blL [3])) rfl rfl (y_buildR (cells := (arrL 16 (blL [3])).toArray) rfl (by kernel_rfl) rfl ⟨rfl, rfl⟩) ?_
 refine wl_v (.agg (chL 4 2 0 0 0 (blL [3])).toArray) rfl rfl (y_buildL (l' := [(0, .int .i64 (4)), (1, .agg #[.int .i64 (2), .int .i64 (0)]), (3, blkV (blL [3]))]) (cells := (chL 4 2 0 0 0 (blL [3])).toArray) rfl (bpC rfl (bpC rfl (bpC rfl bpN))) (by kernel_rfl) rfl ⟨rfl, rfl⟩) ?_
 refine wl_alloc_stc (n := 21) (vs := (chL 0 0 0 0 0 (fun _ => (0 : Int)))) rfl rfl rfl (by kernel_rfl) fun p39 w40 B42 g43 k41 => ?_
 have gr44 : Grew w0 noB (onB p39) := Grew.new K30 g43
 have ap45 : Apart (onB p39) (T27) := Apart.new g43 (B26).live
 have B46 := B26.all k41 Apart.none
 have K47 := K30.trans k41 (fun _ _ x => x.elim)
 refine wl_store_stc (us := (chL 4 2 0 0 0 (blL [3]))) stcT_choice rfl rfl rfl rfl rfl B42 rfl (oneI rfl (oneI rfl (oneI rfl (oneI rfl (oneI rfl (oneI rfl (oneI rfl (oneI rfl (oneI rfl (oneI rfl (oneI rfl (oneI rfl (oneI rfl (oneI rfl (oneI rfl (oneI rfl (oneI rfl (oneI rfl (oneI rfl (oneI rfl (oneI rfl oneN))))))))))))))))))))) fun w48 B49 k50 => ?_
 have B51 := B46.all k50 (fun i h x => (((ap45).symm) i h x))
 have K52 := K47.trans k50 (Grew.ok (S := fun _ => False) gr44 noB_le)
 refine wl_nil fun F53 hF54 => ?_
 have s55 := (hF54 98).trans s33
 have s56 := (hF54 1).trans s34
 have s57 := (hF54 2).trans s35
 have s58 := (hF54 3).trans s36
 have s59 := (hF54 4).trans s37
 have s60 := (hF54 5).trans s38
 have s61 : F53 6 = .pointer (some ⟨p39, 0, none⟩) := (hF54 6).trans rfl
 clear hF54
 refine then_normal ?_
 refine wq_seq ?_
 refine wq_region ?_
 refine wl_v (.pointer (some ⟨p22, 0, none⟩)) rfl rfl (y_mov rfl s60 ⟨rfl, rfl⟩) ?_
 refine wl_v (.agg (chL 4 2 0 0 0 (blL [3])).toArray) rfl rfl (y_load_stc stcT_choice rfl s61 B49 ⟨rfl, rfl⟩) ?_
 refine wl_v (.agg #[.int .i64 (0), .int .i64 (0)]) rfl rfl (y_buildL (l' := []) (cells := #[.int .i64 (0), .int .i64 (0)]) rfl bpN (by kernel_rfl) rfl ⟨rfl, rfl⟩) ?_
 refine wl_v (.agg #[.int .i64 (0), .int .i64 (0)]) rfl rfl (y_buildL (l' := []) (cells := #[.int .i64 (0), .int .i64 (0)]) rfl bpN (by kernel_rfl) rfl ⟨rfl, rfl⟩) ?_
 refine wl_call (R := fun v_ w_ => ∃ (T64 : Nat → Prop), .int .i64 (chE (1) (Ch.mk (4) (2) (0) (0) (0) (blL [3]))) = v_ ∧ Kept (T27) w48 w_ ∧ (Wri w_ T64 p22 ((([] : List Bool)) ++ wrCh (1) (Ch.mk (4) (2) (0) (0) (0) (blL [3])) (0) (0) (0) (0)) ∧ Grew w48 (T27) T64)) rfl rfl (y_cs rfl rfl rfl (fun _ _ => by kernel_rfl) (ev_func _) (vsC rfl (vsC rfl (vsC rfl (vsC rfl (vsC rfl vsN))))) (bl_write (p22) (([] : List Bool)) (1) (Ch.mk (4) (2) (0) (0) (0) (blL [3])) (0) (0) (0) (0) (T27) _ (hA.all K52) (hO.all K52) (aboveN gr29 hA) (by first | decide | (simp; omega) | simp) B51 ) (fun e_ w_ h_ => by obtain ⟨T64_, he_, hr_⟩ := h_; exact ⟨_, he_, T64_, rfl, hr_⟩)) ?_
 rintro _ w62 ⟨T64, rfl, k63, ⟨B65, g66⟩⟩
 have B67 := B49.all k63 (fun x => ((ap45) p39 rfl x))
 have K68 := K52.trans k63 (fun i hi x => ((Grew.ok (S := fun _ => False) gr29 noB_le) i hi x))
 refine wl_v (.int .i64 (chE (1) (Ch.mk (4) (2) (0) (0) (0) (blL [3])))) rfl rfl (y_asg rfl rfl ⟨rfl, rfl⟩) ?_
 refine wl_nil fun F71 hF72 => ?_
 have s73 := (hF72 98).trans s55
 have s74 := (hF72 1).trans s56
 have s75 := (hF72 2).trans s57
 have s76 := (hF72 3).trans s58
 have s77 := (hF72 4).trans s59
 have s78 := (hF72 5).trans s60
 have s79 := (hF72 6).trans s61
 have s80 : F71 7 = .int .i64 (chE (1) (Ch.mk (4) (2) (0) (0) (0) (blL [3]))) := (hF72 7).trans rfl
 clear hF72
 refine then_normal ?_
 refine wq_seq ?_
 have B81 : Wri w62 (T64) p22 (b0) := ((by rw [hb0]; exact B65))
 refine wq_region ?_
 refine wl_v (.pointer (some ⟨p22, 0, none⟩)) rfl rfl (y_mov rfl s78 ⟨rfl, rfl⟩) ?_
 refine wl_call (R := fun v_ w_ => ∃ (v82 : Value) (T85 : Nat → Prop), v82 = v_ ∧ Kept (fun _ => False) w62 w_ ∧ (Byt w_ T85 v82 (pack (b0)) ∧ Grew w62 noB T85)) rfl rfl (y_cs rfl rfl rfl (fun _ _ => by kernel_rfl) (ev_func _) (vsC rfl vsN) (t_bytes (p22) (b0) (T64) _ (by omega) B81 ) (fun e_ w_ h_ => by obtain ⟨v82_, T85_, he_, hr_⟩ := h_; exact ⟨_, he_, v82_, T85_, rfl, hr_⟩)) ?_
 rintro _ w83 ⟨v82, T85, rfl, k84, ⟨B86, g87⟩⟩
 have B89 := B67.all k84 id
 have K90 := K68.trans k84 (fun _ _ x => x.elim)
 refine wl_call (R := fun v_ w_ => ∃ (v94 : Nat) (T97 : Nat → Prop), .pointer (some ⟨v94, 0, none⟩) = v_ ∧ Kept (fun _ => False) w83 w_ ∧ (Rdi w_ T97 v94 ((pack (b0))) (some 0) ∧ Grew w83 noB T97)) rfl rfl (y_cs rfl rfl rfl (fun _ _ => by kernel_rfl) (ev_func _) (vsC rfl vsN) (t_new (v82) (pack (b0)) (T85) _ (by rw [pack_length]; unfold nbytes; omega) B86 ) (fun e_ w_ h_ => by obtain ⟨v94_, T97_, he_, hr_⟩ := h_; exact ⟨_, he_, v94_, T97_, rfl, hr_⟩)) ?_
 rintro _ w95 ⟨v94, T97, rfl, k96, ⟨B98, g99⟩⟩
 have B101 := B89.all k96 id
 have K103 := K90.trans k96 (fun _ _ x => x.elim)
 have gr104 : Grew w0 noB (T97) := Grew.new K90 g99
 have ap106 : Apart (T97) (onB p39) := Apart.new g99 (onB_live (B89).lt)
 refine wl_v (.agg #[.int .i64 (0), .int .i64 (0)]) rfl rfl (y_buildL (l' := []) (cells := #[.int .i64 (0), .int .i64 (0)]) rfl bpN (by kernel_rfl) rfl ⟨rfl, rfl⟩) ?_
 refine wl_v (.agg #[.int .i64 (0), .int .i64 (0)]) rfl rfl (y_buildL (l' := []) (cells := #[.int .i64 (0), .int .i64 (0)]) rfl bpN (by kernel_rfl) rfl ⟨rfl, rfl⟩) ?_
 refine wl_call (R := fun v_ w_ => ∃ (T110 : Nat → Prop), .tuple #[.agg (chW ((rdCh ((pack (b0))) (1) (0) (0) (0) (0) (some 0)).1)).toArray, .int .i64 ((rdCh ((pack (b0))) (1) (0) (0) (0) (0) (some 0)).2.1)] = v_ ∧ Kept (T97) w95 w_ ∧ (Rdi w_ T110 v94 (((pack (b0)))) (rdChT ((pack (b0))) (1) (0) (0) (0) (0) (some 0)) ∧ Grew w95 (T97) T110)) rfl rfl (y_cs rfl rfl rfl (fun _ _ => by kernel_rfl) (ev_func _) (vsC rfl (vsC rfl (vsC rfl (vsC rfl vsN)))) (bl_read (v94) ((pack (b0))) (some 0) (1) (0) (0) (0) (0) (T97) _ (hA.all K103) (hO.all K103) (aboveN gr104 hA) B98 ) (fun e_ w_ h_ => by obtain ⟨T110_, he_, hr_⟩ := h_; exact ⟨_, he_, T110_, rfl, hr_⟩)) ?_
 rintro _ w108 ⟨T110, rfl, k109, ⟨B111, g112⟩⟩
 have B114 := B101.all k109 (fun x => (((ap106).symm) p39 rfl x))
 have K116 := K103.trans k109 (fun i hi x => ((Grew.ok (S := fun _ => False) gr104 noB_le) i hi x))
 refine wl_v (.tuple #[.agg (chW ((rdCh ((pack (b0))) (1) (0) (0) (0) (0) (some 0)).1)).toArray, .int .i64 ((rdCh ((pack (b0))) (1) (0) (0) (0) (0) (some 0)).2.1)]) rfl rfl (y_mov rfl rfl ⟨rfl, rfl⟩) ?_
 refine wl_v (.agg (chW ((rdCh ((pack (b0))) (1) (0) (0) (0) (0) (some 0)).1)).toArray) rfl rfl (y_ext rfl rfl rfl ⟨rfl, rfl⟩) ?_
 refine wl_v (.int .i64 ((rdCh ((pack (b0))) (1) (0) (0) (0) (0) (some 0)).2.1)) rfl rfl (y_ext rfl rfl rfl ⟨rfl, rfl⟩) ?_
 refine wl_alloc_stc (n := 21) (vs := (chL 0 0 0 0 0 (fun _ => (0 : Int)))) rfl rfl rfl (by kernel_rfl) fun p121 w122 B124 g125 k123 => ?_
 have gr126 : Grew w0 noB (onB p121) := Grew.new K116 g125
 have ap128 : Apart (onB p121) (onB p39) := Apart.new g125 (onB_live (B114).lt)
 have B132 := B114.all k123 id
 have K135 := K116.trans k123 (fun _ _ x => x.elim)
 refine wl_store_stc (us := (chW ((rdCh ((pack (b0))) (1) (0) (0) (0) (0) (some 0)).1))) stcT_choice rfl rfl rfl rfl rfl B124 rfl (oneI rfl (oneI rfl (oneI rfl (oneI rfl (oneI rfl (oneI rfl (oneI rfl (oneI rfl (oneI rfl (oneI rfl (oneI rfl (oneI rfl (oneI rfl (oneI rfl (oneI rfl (oneI rfl (oneI rfl (oneI rfl (oneI rfl (oneI rfl (oneI rfl oneN))))))))))))))))))))) fun w136 B137 k138 => ?_
 have B140 := B132.all k138 (fun x => (((ap128).symm) p39 rfl x))
 have K143 := K135.trans k138 (Grew.ok (S := fun _ => False) gr126 noB_le)
 refine wl_v (.int .i64 ((rdCh ((pack (b0))) (1) (0) (0) (0) (0) (some 0)).2.1)) rfl rfl (y_asg rfl rfl ⟨rfl, rfl⟩) ?_
 refine wl_nil fun F144 hF145 => ?_
 have s146 := (hF145 98).trans s73
 have s147 := (hF145 1).trans s74
 have s148 := (hF145 2).trans s75
 have s149 := (hF145 3).trans s76
 have s150 := (hF145 4).trans s77
 have s151 := (hF145 6).trans s79
 have s152 := (hF145 7).trans s80
 have s153 : F144 8 = .pointer (some ⟨p121, 0, none⟩) := (hF145 8).trans rfl
 have s154 : F144 9 = .int .i64 ((rdCh ((pack (b0))) (1) (0) (0) (0) (0) (some 0)).2.1) := (hF145 9).trans rfl
 clear hF145
 refine then_normal ?_
 refine wq_seq ?_
 refine wq_region ?_
 refine wl_v (blkV (blL [100])) rfl rfl (y_buildR (cells := (arrL 16 (blL [100])).toArray) rfl (by kernel_rfl) rfl ⟨rfl, rfl⟩) ?_
 refine wl_v (blkV (blL [16])) rfl rfl (y_buildR (cells := (arrL 16 (blL [16])).toArray) rfl (by kernel_rfl) rfl ⟨rfl, rfl⟩) ?_
 refine wl_v (.agg (chL 0 0 0 0 0 (blL [16])).toArray) rfl rfl (y_buildL (l' := [(3, blkV (blL [16]))]) (cells := (chL 0 0 0 0 0 (blL [16])).toArray) rfl (bpC rfl bpN) (by kernel_rfl) rfl ⟨rfl, rfl⟩) ?_
 refine wl_call (R := fun v_ w_ => v_ = .tuple #[blkV (buB (blL [100]) (Ch.mk (0) (0) (0) (0) (0) (blL [16])).b (0)), .int .i64 (ern (0))] ∧ Kept (fun _ => False) w136 w_) rfl rfl (y_cs rfl rfl rfl (fun _ _ => by kernel_rfl) (ev_func _) (vsC rfl (vsC rfl (vsC rfl vsN))) (bl_build (blL [100]) (Ch.mk (0) (0) (0) (0) (0) (blL [16])) (0)  _ (hs.all K143) (hw.all K143)  ) (fun e_ w_ h_ => ⟨_, h_.1, rfl, h_.2⟩)) ?_
 rintro _ w155 ⟨rfl, k156⟩
 have B158 := B140.all k156 id
 have B161 := B137.all k156 id
 have K162 := K143.trans k156 (fun _ _ x => x.elim)
 refine wl_v (.tuple #[blkV (buB (blL [100]) (Ch.mk (0) (0) (0) (0) (0) (blL [16])).b (0)), .int .i64 (ern (0))]) rfl rfl (y_mov rfl rfl ⟨rfl, rfl⟩) ?_
 refine wl_v (blkV (buB (blL [100]) (Ch.mk (0) (0) (0) (0) (0) (blL [16])).b (0))) rfl rfl (y_ext rfl rfl rfl ⟨rfl, rfl⟩) ?_
 refine wl_v (.int .i64 (ern (0))) rfl rfl (y_ext rfl rfl rfl ⟨rfl, rfl⟩) ?_
 refine wl_alloc_blk rfl rfl rfl blkT_block.2.2 fun p163 w164 e167 B165 k166 => ?_
 have g168 := onB_new (Nat.le_of_eq e167.symm)
 have gr169 : Grew w0 noB (onB p163) := Grew.new K162 g168
 have ap171 : Apart (onB p163) (onB p39) := Apart.new g168 (onB_live (B158).lt)
 have ap174 : Apart (onB p163) (onB p121) := Apart.new g168 (onB_live (B161).lt)
 clear e167 g168
 have B176 := B158.all k166 id
 have B179 := B161.all k166 id
 have K180 := K162.trans k166 (fun _ _ x => x.elim)
 refine wl_store_blk blkT_block rfl rfl rfl rfl rfl B165 fun w181 B182 k183 => ?_
 have B185 := B176.all k183 (fun x => (((ap171).symm) p39 rfl x))
 have B188 := B179.all k183 (fun x => (((ap174).symm) p121 rfl x))
 have K189 := K180.trans k183 (Grew.ok (S := fun _ => False) gr169 noB_le)
 refine wl_v (.int .i64 (ern (0))) rfl rfl (y_asg rfl rfl ⟨rfl, rfl⟩) ?_
 refine wl_nil fun F190 hF191 => ?_
 have s192 := (hF191 98).trans s146
 have s193 := (hF191 1).trans s147
 have s194 := (hF191 2).trans s148
 have s195 := (hF191 3).trans s149
 have s196 := (hF191 4).trans s150
 have s197 := (hF191 6).trans s151
 have s198 := (hF191 7).trans s152
 have s199 := (hF191 8).trans s153
 have s200 := (hF191 9).trans s154
 have s201 : F190 10 = .pointer (some ⟨p163, 0, none⟩) := (hF191 10).trans rfl
 have s202 : F190 11 = .int .i64 (ern (0)) := (hF191 11).trans rfl
 clear hF191
 refine then_normal ?_
 refine wq_seq ?_
 have s203 : F190 1 = .bool true := s193.trans (congrArg Value.bool ((by decide)))
 have s204 : F190 2 = .bool false := s194.trans (congrArg Value.bool ((by decide)))
 have s205 : F190 3 = .bool true := s195.trans (congrArg Value.bool ((by decide)))
 have s206 : F190 4 = .bool true := s196.trans (congrArg Value.bool ((by decide)))
 refine wq_region ?_
 refine wl_v (.bool true) rfl rfl (y_mov rfl s203 ⟨rfl, rfl⟩) ?_
 refine wl_v (.bool true) rfl rfl (y_mov rfl rfl ⟨rfl, rfl⟩) ?_
 refine wl_vw (.bool false) 1 true 47 rfl rfl rfl rfl rfl (y_mov rfl s204 ⟨rfl, rfl⟩) ?_
 refine wl_vw (.bool true) 1 true 47 rfl rfl rfl rfl rfl (y_not rfl rfl rfl ⟨rfl, rfl⟩) ?_
 refine wl_v (.bool true) rfl rfl (y_pickT rfl rfl rfl ⟨rfl, rfl⟩) ?_
 refine wl_v (.bool true) rfl rfl (y_mov rfl rfl ⟨rfl, rfl⟩) ?_
 refine wl_vw (.bool true) 5 true 51 rfl rfl rfl rfl rfl (y_mov rfl s205 ⟨rfl, rfl⟩) ?_
 refine wl_v (.bool true) rfl rfl (y_pickT rfl rfl rfl ⟨rfl, rfl⟩) ?_
 refine wl_v (.bool true) rfl rfl (y_mov rfl rfl ⟨rfl, rfl⟩) ?_
 refine wl_vw (.bool true) 8 true 54 rfl rfl rfl rfl rfl (y_mov rfl s206 ⟨rfl, rfl⟩) ?_
 refine wl_v (.bool true) rfl rfl (y_pickT rfl rfl rfl ⟨rfl, rfl⟩) ?_
 refine wl_v (.bool true) rfl rfl (y_mov rfl rfl ⟨rfl, rfl⟩) ?_
 refine wl_vw (.agg (chL 4 0 0 0 0 (fun _ => (0 : Int))).toArray) 11 true 57 rfl rfl rfl rfl rfl (y_buildL (l' := [(0, .int .i64 (4))]) (cells := (chL 4 0 0 0 0 (fun _ => (0 : Int))).toArray) rfl (bpC rfl bpN) (by kernel_rfl) rfl ⟨rfl, rfl⟩) ?_
 refine wl_callw (R := fun v_ w_ => v_ = .int .i64 (chE (0) (Ch.mk (4) (0) (0) (0) (0) (fun _ => (0 : Int)))) ∧ Kept (fun _ => False) w181 w_) 11 true 57 rfl rfl rfl rfl rfl (y_cs rfl rfl rfl (fun _ _ => by kernel_rfl) (ev_func _) (vsC rfl (vsC rfl vsN)) (bl_check (0) (Ch.mk (4) (0) (0) (0) (0) (fun _ => (0 : Int)))  _ (hA.all K189)  ) (fun e_ w_ h_ => ⟨_, h_.1, rfl, h_.2⟩)) ?_
 rintro _ w207 ⟨rfl, k208⟩
 have B210 := B185.all k208 id
 have B213 := B188.all k208 id
 have B214 := B182.all k208 id
 have K215 := K189.trans k208 (fun _ _ x => x.elim)
 refine wl_vw (.bool true) 11 true 57 rfl rfl rfl rfl rfl (y_eqlI rfl rfl rfl (decide_eq_true hf.out.2.1) ⟨rfl, rfl⟩) ?_
 refine wl_v (.bool true) rfl rfl (y_pickT rfl rfl rfl ⟨rfl, rfl⟩) ?_
 refine wl_v (.bool true) rfl rfl (y_mov rfl rfl ⟨rfl, rfl⟩) ?_
 refine wl_vw (.agg (chL 4 0 0 0 0 (fun _ => (0 : Int))).toArray) 16 true 62 rfl rfl rfl rfl rfl (y_buildL (l' := [(0, .int .i64 (4))]) (cells := (chL 4 0 0 0 0 (fun _ => (0 : Int))).toArray) rfl (bpC rfl bpN) (by kernel_rfl) rfl ⟨rfl, rfl⟩) ?_
 refine wl_callw (R := fun v_ w_ => v_ = .int .i64 (chE (1) (Ch.mk (4) (0) (0) (0) (0) (fun _ => (0 : Int)))) ∧ Kept (fun _ => False) w207 w_) 16 true 62 rfl rfl rfl rfl rfl (y_cs rfl rfl rfl (fun _ _ => by kernel_rfl) (ev_func _) (vsC rfl (vsC rfl vsN)) (bl_check (1) (Ch.mk (4) (0) (0) (0) (0) (fun _ => (0 : Int)))  _ (hA.all K215)  ) (fun e_ w_ h_ => ⟨_, h_.1, rfl, h_.2⟩)) ?_
 rintro _ w216 ⟨rfl, k217⟩
 have B219 := B210.all k217 id
 have B222 := B213.all k217 id
 have B223 := B214.all k217 id
 have K224 := K215.trans k217 (fun _ _ x => x.elim)
 refine wl_vw (.bool true) 16 true 62 rfl rfl rfl rfl rfl (y_eqlI rfl rfl rfl (decide_eq_true hf.out.2.2.1) ⟨rfl, rfl⟩) ?_
 refine wl_v (.bool true) rfl rfl (y_pickT rfl rfl rfl ⟨rfl, rfl⟩) ?_
 refine wl_v (.bool true) rfl rfl (y_mov rfl rfl ⟨rfl, rfl⟩) ?_
 refine wl_vw (.int .i64 (chE (1) (Ch.mk (4) (2) (0) (0) (0) (blL [3])))) 21 true 67 rfl rfl rfl rfl rfl (y_mov rfl s198 ⟨rfl, rfl⟩) ?_
 refine wl_vw (.bool true) 21 true 67 rfl rfl rfl rfl rfl (y_eqlI rfl rfl rfl (decide_eq_true hf.out.1) ⟨rfl, rfl⟩) ?_
 refine wl_v (.bool true) rfl rfl (y_pickT rfl rfl rfl ⟨rfl, rfl⟩) ?_
 refine wl_v (.bool true) rfl rfl (y_mov rfl rfl ⟨rfl, rfl⟩) ?_
 refine wl_vw (.agg (chW ((rdCh ((pack (b0))) (1) (0) (0) (0) (0) (some 0)).1)).toArray) 25 true 71 rfl rfl rfl rfl rfl (y_load_stc stcT_choice rfl s199 B222 ⟨rfl, rfl⟩) ?_
 refine wl_vw (.agg (chL 4 2 0 0 0 (blL [3])).toArray) 25 true 71 rfl rfl rfl rfl rfl (y_load_stc stcT_choice rfl s197 B219 ⟨rfl, rfl⟩) ?_
 refine wl_vw (.bool true) 25 true 71 rfl rfl rfl rfl rfl (y_eqlCh (c := (rdCh ((pack (b0))) (1) (0) (0) (0) (0) (some 0)).1) (d := Ch.mk (4) (2) (0) (0) (0) (blL [3])) rfl rfl rfl ((by rw [hd0.out.1]; exact hd0.out.2)) ⟨rfl, rfl⟩) ?_
 refine wl_v (.bool true) rfl rfl (y_pickT rfl rfl rfl ⟨rfl, rfl⟩) ?_
 refine wl_v (.bool true) rfl rfl (y_mov rfl rfl ⟨rfl, rfl⟩) ?_
 refine wl_vw (.int .i64 ((rdCh ((pack (b0))) (1) (0) (0) (0) (0) (some 0)).2.1)) 30 true 76 rfl rfl rfl rfl rfl (y_mov rfl s200 ⟨rfl, rfl⟩) ?_
 refine wl_vw (.bool true) 30 true 76 rfl rfl rfl rfl rfl (y_eqlI rfl rfl rfl (decide_eq_true (by rw [hd0.out.1])) ⟨rfl, rfl⟩) ?_
 refine wl_v (.bool true) rfl rfl (y_pickT rfl rfl rfl ⟨rfl, rfl⟩) ?_
 refine wl_v (.bool true) rfl rfl (y_mov rfl rfl ⟨rfl, rfl⟩) ?_
 refine wl_vw (.pointer (some ⟨p163, 0, none⟩)) 34 true 80 rfl rfl rfl rfl rfl (y_atR (0) (s := 1) rfl s201 rfl (by omega) Tryd.underlying25 (by omega) (by kernel_rfl) (by omega) ⟨rfl, rfl⟩) ?_
 refine wl_vw (.int .i64 ((buB (blL [100]) (Ch.mk (0) (0) (0) (0) (0) (blL [16])).b (0)) (0))) 34 true 80 rfl rfl rfl rfl rfl (y_ldR rfl rfl Tryd.underlying3 ((B223).cell (by omega)) ⟨rfl, rfl⟩) ?_
 refine wl_vw (.bool true) 34 true 80 rfl rfl rfl rfl rfl (y_eqlI rfl rfl rfl (decide_eq_true hf.out.2.2.2.1) ⟨rfl, rfl⟩) ?_
 refine wl_v (.bool true) rfl rfl (y_pickT rfl rfl rfl ⟨rfl, rfl⟩) ?_
 refine wl_v (.bool true) rfl rfl (y_mov rfl rfl ⟨rfl, rfl⟩) ?_
 refine wl_vw (.pointer (some ⟨p163, 5, none⟩)) 39 true 85 rfl rfl rfl rfl rfl (y_atR (5) (s := 1) rfl s201 rfl (by omega) Tryd.underlying25 (by omega) (by kernel_rfl) (by omega) ⟨rfl, rfl⟩) ?_
 refine wl_vw (.int .i64 ((buB (blL [100]) (Ch.mk (0) (0) (0) (0) (0) (blL [16])).b (0)) (5))) 39 true 85 rfl rfl rfl rfl rfl (y_ldR rfl rfl Tryd.underlying3 ((B223).cell (by omega)) ⟨rfl, rfl⟩) ?_
 refine wl_vw (.bool true) 39 true 85 rfl rfl rfl rfl rfl (y_eqlI rfl rfl rfl (decide_eq_true hf.out.2.2.2.2.1) ⟨rfl, rfl⟩) ?_
 refine wl_v (.bool true) rfl rfl (y_pickT rfl rfl rfl ⟨rfl, rfl⟩) ?_
 refine wl_v (.bool true) rfl rfl (y_mov rfl rfl ⟨rfl, rfl⟩) ?_
 refine wl_vw (.int .i64 (ern (0))) 44 true 90 rfl rfl rfl rfl rfl (y_mov rfl s202 ⟨rfl, rfl⟩) ?_
 refine wl_vw (.bool true) 44 true 90 rfl rfl rfl rfl rfl (y_eqlI rfl rfl rfl (decide_eq_true hf.out.2.2.2.2.2) ⟨rfl, rfl⟩) ?_
 refine wl_v (.bool true) rfl rfl (y_pickT rfl rfl rfl ⟨rfl, rfl⟩) ?_
 refine wl_v (.bool true) rfl rfl (y_mov rfl rfl ⟨rfl, rfl⟩) ?_
 refine wl_v (.bool true) rfl rfl (y_pickT rfl rfl rfl ⟨rfl, rfl⟩) ?_
 refine wl_v (.bool true) rfl rfl (y_mov rfl rfl ⟨rfl, rfl⟩) ?_
 refine wl_v (.bool true) rfl rfl (y_pickT rfl rfl rfl ⟨rfl, rfl⟩) ?_
 refine wl_v (.bool true) rfl rfl (y_asg rfl rfl ⟨rfl, rfl⟩) ?_
 refine wl_nil fun F225 hF226 => ?_
 have s227 := (hF226 98).trans s192
 have s228 : F225 0 = .bool true := (hF226 0).trans rfl
 clear hF226
 refine then_normal ?_
 refine wq_ret ?_
 exact end_tmp (v := .bool true) s227 rfl rfl s228 ⟨rfl, K224⟩

set_option maxHeartbeats 4000000 in
set_option maxRecDepth 100000 in
theorem bnear_walk (b g : Nat → Int) (q : Nat) (w0 : World) (hA : ActsIn w0) (hO : ScanIn w0) (hs : StepsAt w0) (hw : Waves w0) (hq : q < 256) :
  Calls Tryd.prog 5 #[blkV (b), blkV (g), .int .u8 (((q : Nat) : Int))] w0 fun e w' => e = .returned (.bool true) ∧ Kept (fun _ => False) w0 w' := by
 refine calls_wq (args := [blkV (b), blkV (g), .int .u8 (((q : Nat) : Int))]) 115 Tryd.func5 rfl rfl (Nat.le_of_ble_eq_true rfl) ?_
 have K0 := Kept.refl (fun _ => False) w0
 obtain ⟨k, hkq⟩ : ∃ k, k = q % 21 := ⟨_, rfl⟩
 have hk : k < 21 := by omega
 have he := ern_nat hk
 have hst := stp_in hk
 have hnr := Lib.hid (fun i hi => bu_near b g hk i hi)
 refine wq_seq ?_
 refine wq_region ?_
 refine wl_box_blk rfl rfl rfl rfl fun p1 w2 e5 B3 k4 => ?_
 have g6 := onB_new (Nat.le_of_eq e5.symm)
 have gr7 : Grew w0 noB (onB p1) := Grew.new K0 g6
 clear e5 g6
 have K8 := K0.trans k4 (fun _ _ x => x.elim)
 refine wl_box_blk rfl rfl rfl rfl fun p9 w10 e13 B11 k12 => ?_
 have g14 := onB_new (Nat.le_of_eq e13.symm)
 have gr15 : Grew w0 noB (onB p9) := Grew.new K8 g14
 have ap16 : Apart (onB p9) (onB p1) := Apart.new g14 (onB_live (B3).lt)
 clear e13 g14
 have B17 := B3.all k12 id
 have K18 := K8.trans k12 (fun _ _ x => x.elim)
 refine wl_v (.bool false) rfl rfl (y_asg rfl rfl ⟨rfl, rfl⟩) ?_
 refine wl_nil fun F19 hF20 => ?_
 have s21 : F19 2 = .int .u8 (((q : Nat) : Int)) := (hF20 2).trans rfl
 have s22 : F19 115 = undef := (hF20 115).trans rfl
 have s23 : F19 3 = .pointer (some ⟨p1, 0, none⟩) := (hF20 3).trans rfl
 have s24 : F19 4 = .pointer (some ⟨p9, 0, none⟩) := (hF20 4).trans rfl
 clear hF20
 refine then_normal ?_
 refine wq_seq ?_
 refine wq_region ?_
 refine wl_call (R := fun v_ w_ => v_ = .bool true ∧ Kept (fun _ => False) w10 w_) rfl rfl (y_cs rfl rfl rfl (fun _ _ => by kernel_rfl) (ev_func _) vsN (bawake_any   _ (hA.all K18) (hO.all K18) (hs.all K18) (hw.all K18)  ) (fun e_ w_ h_ => ⟨_, h_.1, rfl, h_.2⟩)) ?_
 rintro _ w25 ⟨rfl, k26⟩
 have B27 := B17.all k26 id
 have B28 := B11.all k26 id
 have K29 := K18.trans k26 (fun _ _ x => x.elim)
 refine wl_v (.bool true) rfl rfl (y_asg rfl rfl ⟨rfl, rfl⟩) ?_
 refine wl_nil fun F30 hF31 => ?_
 have s32 := (hF31 2).trans s21
 have s33 := (hF31 115).trans s22
 have s34 := (hF31 3).trans s23
 have s35 := (hF31 4).trans s24
 have s36 : F30 7 = .bool true := (hF31 7).trans rfl
 clear hF31
 refine then_normal ?_
 refine wq_seq ?_
 refine wq_region ?_
 refine wl_v (.int .u8 (((q : Nat) : Int))) rfl rfl (y_mov rfl s32 ⟨rfl, rfl⟩) ?_
 refine wl_v (.int .i64 (((q : Nat) : Int))) rfl rfl (y_convR rfl rfl Tryd.underlying5 Tryd.underlying3 (i64_i rfl (by omega)) ⟨rfl, rfl⟩) ?_
 refine wl_v (.int .i64 (((k : Nat) : Int))) rfl rfl (y_rem rfl rfl rfl (by first | decide | omega) ((mod_nat q 21).trans (by rw [hkq])) ⟨rfl, rfl⟩) ?_
 refine wl_v (.int .i64 (((k : Nat) : Int))) rfl rfl (y_asg rfl rfl ⟨rfl, rfl⟩) ?_
 refine wl_nil fun F37 hF38 => ?_
 have s39 := (hF38 115).trans s33
 have s40 := (hF38 3).trans s34
 have s41 := (hF38 4).trans s35
 have s42 := (hF38 7).trans s36
 have s43 : F37 8 = .int .i64 (((k : Nat) : Int)) := (hF38 8).trans rfl
 clear hF38
 refine then_normal ?_
 refine wq_seq ?_
 refine wq_seq ?_
 refine wq_region ?_
 refine wl_v (.int .i64 (0)) rfl rfl (y_asg rfl rfl ⟨rfl, rfl⟩) ?_
 refine wl_nil fun F44 hF45 => ?_
 have s46 := (hF45 115).trans s39
 have s47 := (hF45 3).trans s40
 have s48 := (hF45 4).trans s41
 have s49 := (hF45 7).trans s42
 have s50 := (hF45 8).trans s43
 have s51 : F44 9 = .int .i64 (0) := (hF45 9).trans rfl
 clear hF45
 refine then_normal ?_
 refine wq_block ?_
 refine wq_loop (fun nn FF ww => ∃ (i : Nat), (i ≤ 16) ∧ nn = 16 - i ∧ FF 3 = .pointer (some ⟨p1, 0, none⟩) ∧ FF 4 = .pointer (some ⟨p9, 0, none⟩) ∧ FF 7 = .bool true ∧ FF 8 = .int .i64 (((k : Nat) : Int)) ∧ FF 115 = undef ∧ FF 9 = .int .i64 (((i : Nat) : Int)) ∧ Kept (fun _ => False) w0 ww ∧ Blk ww p1 24 (upto i b (c8M b)) ∧ Blk ww p9 24 (upto i g (c8M g))) (16 - (0)) ⟨0, by omega, rfl, s47, s48, s49, s50, s46, s51, K29, B27.first, B28.first⟩ ?_
 rintro n55 F52 w53 ⟨i, i56, hn55, s57, s58, s59, s60, s61, s62, K54, B63, B64⟩
 refine wq_seq ?_
 refine wq_seq ?_
 refine wq_region ?_
 refine wl_v (.int .i64 (((i : Nat) : Int))) rfl rfl (y_mov rfl s62 ⟨rfl, rfl⟩) ?_
 refine wl_v (.bool (decide ((((i : Nat) : Int)) < (16)))) rfl rfl (y_lss rfl rfl rfl rfl ⟨rfl, rfl⟩) ?_
 refine wl_nil fun F65 hF66 => ?_
 have s67 := (hF66 3).trans s57
 have s68 := (hF66 4).trans s58
 have s69 := (hF66 7).trans s59
 have s70 := (hF66 8).trans s60
 have s71 := (hF66 115).trans s61
 have s72 := (hF66 9).trans s62
 have s73 : F65 22 = .bool (decide ((((i : Nat) : Int)) < (16))) := (hF66 22).trans rfl
 clear hF66
 refine then_normal ?_
 refine wq_cond s73 (fun c74 => ?_) (fun c74 => ?_)
 ·replace c74 := of_decide_eq_true c74
  refine wq_skip ?_
  refine then_normal ?_
  refine wq_seq ?_
  refine wq_block ?_
  refine wq_seq ?_
  refine wq_region ?_
  refine wl_v (.int .i64 (((i : Nat) : Int))) rfl rfl (y_mov rfl s72 ⟨rfl, rfl⟩) ?_
  refine wl_v (.int .i64 (((i : Nat) : Int))) rfl rfl (y_mov rfl s72 ⟨rfl, rfl⟩) ?_
  refine wl_v (.pointer (some ⟨p1, i, none⟩)) rfl rfl (y_atR (i) (s := 1) rfl s67 rfl (by omega) Tryd.underlying24 (by omega) (by kernel_rfl) (by omega) ⟨rfl, rfl⟩) ?_
  refine wl_v (.int .i64 (b i)) rfl rfl (y_ldR rfl rfl Tryd.underlying3 (((B63).cell (by omega)).trans (some_int (upto_at i _ _))) ⟨rfl, rfl⟩) ?_
  refine wl_v (.int .i64 (max (b i) (0))) rfl rfl (y_maxR rfl rfl rfl rfl ⟨rfl, rfl⟩) ?_
  refine wl_v (.int .i64 (c8M b i)) rfl rfl (y_minR rfl rfl rfl ((by unfold c8M; omega)) ⟨rfl, rfl⟩) ?_
  refine wl_v (.pointer (some ⟨p1, i, none⟩)) rfl rfl (y_atR (i) (s := 1) rfl s67 rfl (by omega) Tryd.underlying24 (by omega) (by kernel_rfl) (by omega) ⟨rfl, rfl⟩) ?_
  refine wl_set_blk rfl rfl rfl rfl rfl B63 (by omega) (by kernel_rfl) fun w75 B76 k77 => ?_
  have B78 := B64.all k77 (fun x => ((ap16) p9 rfl x))
  have K79 := K54.trans k77 (Grew.ok (S := fun _ => False) gr7 noB_le)
  refine wl_nil fun F80 hF81 => ?_
  have s82 := (hF81 3).trans s67
  have s83 := (hF81 4).trans s68
  have s84 := (hF81 7).trans s69
  have s85 := (hF81 8).trans s70
  have s86 := (hF81 115).trans s71
  have s87 := (hF81 9).trans s72
  clear hF81
  refine then_normal ?_
  refine wq_region ?_
  refine wl_v (.int .i64 (((i : Nat) : Int))) rfl rfl (y_mov rfl s87 ⟨rfl, rfl⟩) ?_
  refine wl_v (.int .i64 (((i : Nat) : Int))) rfl rfl (y_mov rfl s87 ⟨rfl, rfl⟩) ?_
  refine wl_v (.pointer (some ⟨p9, i, none⟩)) rfl rfl (y_atR (i) (s := 1) rfl s83 rfl (by omega) Tryd.underlying24 (by omega) (by kernel_rfl) (by omega) ⟨rfl, rfl⟩) ?_
  refine wl_v (.int .i64 (g i)) rfl rfl (y_ldR rfl rfl Tryd.underlying3 (((B78).cell (by omega)).trans (some_int (upto_at i _ _))) ⟨rfl, rfl⟩) ?_
  refine wl_v (.int .i64 (max (g i) (0))) rfl rfl (y_maxR rfl rfl rfl rfl ⟨rfl, rfl⟩) ?_
  refine wl_v (.int .i64 (c8M g i)) rfl rfl (y_minR rfl rfl rfl ((by unfold c8M; omega)) ⟨rfl, rfl⟩) ?_
  refine wl_v (.pointer (some ⟨p9, i, none⟩)) rfl rfl (y_atR (i) (s := 1) rfl s83 rfl (by omega) Tryd.underlying24 (by omega) (by kernel_rfl) (by omega) ⟨rfl, rfl⟩) ?_
  refine wl_set_blk rfl rfl rfl rfl rfl B78 (by omega) (by kernel_rfl) fun w88 B89 k90 => ?_
  have B91 := B76.all k90 (fun x => (((ap16).symm) p1 rfl x))
  have K92 := K79.trans k90 (Grew.ok (S := fun _ => False) gr15 noB_le)
  refine wl_nil fun F93 hF94 => ?_
  have s95 := (hF94 3).trans s82
  have s96 := (hF94 4).trans s83
  have s97 := (hF94 7).trans s84
  have s98 := (hF94 8).trans s85
  have s99 := (hF94 115).trans s86
  have s100 := (hF94 9).trans s87
  clear hF94
  refine in_normal ?_
  refine then_normal ?_
  refine wq_region ?_
  refine wl_v (.int .i64 (((i : Nat) : Int))) rfl rfl (y_mov rfl s100 ⟨rfl, rfl⟩) ?_
  refine wl_v (.int .i64 (((i + 1 : Nat) : Int))) rfl rfl (y_add rfl rfl rfl (i64_n (by omega) (by omega)) ⟨rfl, rfl⟩) ?_
  refine wl_v (.int .i64 (((i + 1 : Nat) : Int))) rfl rfl (y_asg rfl rfl ⟨rfl, rfl⟩) ?_
  refine wl_nil fun F101 hF102 => ?_
  have s103 := (hF102 3).trans s95
  have s104 := (hF102 4).trans s96
  have s105 := (hF102 7).trans s97
  have s106 := (hF102 8).trans s98
  have s107 := (hF102 115).trans s99
  have s108 : F101 9 = .int .i64 (((i + 1 : Nat) : Int)) := (hF102 9).trans rfl
  clear hF102
  exact then_normal ⟨(16 - (i + 1)), by omega, i + 1, by omega, rfl, s103, s104, s105, s106, s107, s108, K92, (B91.next rfl), (B89.next rfl)⟩
 ·replace c74 := of_decide_eq_false c74
  refine wq_exit ?_
  refine then_exit ?_
  refine then_exit ?_
  have l109 : 16 = i := by omega
  subst l109
  have B110 : Blk w53 p1 24 (c8M b) := (B63.last)
  have B111 : Blk w53 p9 24 (c8M g) := (B64.last)
  refine in_here ?_
  refine then_normal ?_
  refine wq_seq ?_
  refine wq_region ?_
  refine wl_v (blkV (c8M b)) rfl rfl (y_load_blk blkT_arr rfl s67 B110 ⟨rfl, rfl⟩) ?_
  refine wl_v (blkV (c8M g)) rfl rfl (y_load_blk blkT_arr rfl s68 B111 ⟨rfl, rfl⟩) ?_
  refine wl_call (R := fun v_ w_ => v_ = blkV (lessB (c8M b) (c8M g)) ∧ Kept (fun _ => False) w53 w_) rfl rfl (y_cs rfl rfl rfl (fun _ _ => by kernel_rfl) (ev_func _) (vsC rfl (vsC rfl vsN)) (less_any (c8M b) (c8M g)  _   ) (fun e_ w_ h_ => ⟨_, h_.1, rfl, h_.2⟩)) ?_
  rintro _ w112 ⟨rfl, k113⟩
  have B114 := B110.all k113 id
  have B115 := B111.all k113 id
  have K116 := K54.trans k113 (fun _ _ x => x.elim)
  refine wl_call (R := fun v_ w_ => v_ = blkV (fwd (clB 1048576 (lessB (c8M b) (c8M g)))) ∧ Kept (fun _ => False) w112 w_) rfl rfl (y_cs rfl rfl rfl (fun _ _ => by kernel_rfl) (ev_func _) (vsC rfl vsN) (forward_any (lessB (c8M b) (c8M g))  _ (hw.all K116)  ) (fun e_ w_ h_ => ⟨_, h_.1, rfl, h_.2⟩)) ?_
  rintro _ w117 ⟨rfl, k118⟩
  have B119 := B114.all k118 id
  have B120 := B115.all k118 id
  have K121 := K116.trans k118 (fun _ _ x => x.elim)
  refine wl_v (.int .i64 (((k : Nat) : Int))) rfl rfl (y_mov rfl s70 ⟨rfl, rfl⟩) ?_
  refine wl_call (R := fun v_ w_ => v_ = .tuple #[blkV (downB (fwd (clB 1048576 (lessB (c8M b) (c8M g)))) (((k : Nat) : Int))), .int .i64 (ern (((k : Nat) : Int)))] ∧ Kept (fun _ => False) w117 w_) rfl rfl (y_cs rfl rfl rfl (fun _ _ => by kernel_rfl) (ev_func _) (vsC rfl (vsC rfl vsN)) (down_any (fwd (clB 1048576 (lessB (c8M b) (c8M g)))) (((k : Nat) : Int))  _ (hs.all K121)  ) (fun e_ w_ h_ => ⟨_, h_.1, rfl, h_.2⟩)) ?_
  rintro _ w122 ⟨rfl, k123⟩
  have B124 := B119.all k123 id
  have B125 := B120.all k123 id
  have K126 := K121.trans k123 (fun _ _ x => x.elim)
  refine wl_v (.tuple #[blkV (downB (fwd (clB 1048576 (lessB (c8M b) (c8M g)))) (((k : Nat) : Int))), .int .i64 (ern (((k : Nat) : Int)))]) rfl rfl (y_mov rfl rfl ⟨rfl, rfl⟩) ?_
  refine wl_v (blkV (downB (fwd (clB 1048576 (lessB (c8M b) (c8M g)))) (((k : Nat) : Int)))) rfl rfl (y_ext rfl rfl rfl ⟨rfl, rfl⟩) ?_
  refine wl_v (.int .i64 (ern (((k : Nat) : Int)))) rfl rfl (y_ext rfl rfl rfl ⟨rfl, rfl⟩) ?_
  refine wl_alloc_blk rfl rfl rfl blkT_block.2.2 fun p127 w128 e131 B129 k130 => ?_
  have g132 := onB_new (Nat.le_of_eq e131.symm)
  have gr133 : Grew w0 noB (onB p127) := Grew.new K126 g132
  have ap134 : Apart (onB p127) (onB p1) := Apart.new g132 (onB_live (B124).lt)
  have ap135 : Apart (onB p127) (onB p9) := Apart.new g132 (onB_live (B125).lt)
  clear e131 g132
  have B136 := B124.all k130 id
  have B137 := B125.all k130 id
  have K138 := K126.trans k130 (fun _ _ x => x.elim)
  refine wl_store_blk blkT_block rfl rfl rfl rfl rfl B129 fun w139 B140 k141 => ?_
  have B142 := B136.all k141 (fun x => (((ap134).symm) p1 rfl x))
  have B143 := B137.all k141 (fun x => (((ap135).symm) p9 rfl x))
  have K144 := K138.trans k141 (Grew.ok (S := fun _ => False) gr133 noB_le)
  refine wl_v (.int .i64 (ern (((k : Nat) : Int)))) rfl rfl (y_asg rfl rfl ⟨rfl, rfl⟩) ?_
  refine wl_nil fun F145 hF146 => ?_
  have s147 := (hF146 3).trans s67
  have s148 := (hF146 4).trans s68
  have s149 := (hF146 7).trans s69
  have s150 := (hF146 8).trans s70
  have s151 := (hF146 115).trans s71
  have s152 : F145 10 = .pointer (some ⟨p127, 0, none⟩) := (hF146 10).trans rfl
  have s153 : F145 11 = .int .i64 (ern (((k : Nat) : Int))) := (hF146 11).trans rfl
  clear hF146
  refine then_normal ?_
  refine wq_seq ?_
  refine wq_region ?_
  refine wl_v (blkV (c8M g)) rfl rfl (y_load_blk blkT_arr rfl s148 B143 ⟨rfl, rfl⟩) ?_
  refine wl_v (blkV (downB (fwd (clB 1048576 (lessB (c8M b) (c8M g)))) (((k : Nat) : Int)))) rfl rfl (y_load_blk blkT_block rfl s152 B140 ⟨rfl, rfl⟩) ?_
  refine wl_v (.agg (chL 0 0 0 0 0 (downB (fwd (clB 1048576 (lessB (c8M b) (c8M g)))) (((k : Nat) : Int)))).toArray) rfl rfl (y_buildL (l' := [(3, blkV (downB (fwd (clB 1048576 (lessB (c8M b) (c8M g)))) (((k : Nat) : Int))))]) (cells := (chL 0 0 0 0 0 (downB (fwd (clB 1048576 (lessB (c8M b) (c8M g)))) (((k : Nat) : Int)))).toArray) rfl (bpC rfl bpN) (by kernel_rfl) rfl ⟨rfl, rfl⟩) ?_
  refine wl_v (.int .i64 (((k : Nat) : Int))) rfl rfl (y_mov rfl s150 ⟨rfl, rfl⟩) ?_
  refine wl_call (R := fun v_ w_ => v_ = .tuple #[blkV (buB (c8M g) (Ch.mk (0) (0) (0) (0) (0) (downB (fwd (clB 1048576 (lessB (c8M b) (c8M g)))) (((k : Nat) : Int)))).b (((k : Nat) : Int))), .int .i64 (ern (((k : Nat) : Int)))] ∧ Kept (fun _ => False) w139 w_) rfl rfl (y_cs rfl rfl rfl (fun _ _ => by kernel_rfl) (ev_func _) (vsC rfl (vsC rfl (vsC rfl vsN))) (bl_build (c8M g) (Ch.mk (0) (0) (0) (0) (0) (downB (fwd (clB 1048576 (lessB (c8M b) (c8M g)))) (((k : Nat) : Int)))) (((k : Nat) : Int))  _ (hs.all K144) (hw.all K144)  ) (fun e_ w_ h_ => ⟨_, h_.1, rfl, h_.2⟩)) ?_
  rintro _ w154 ⟨rfl, k155⟩
  have B156 := B142.all k155 id
  have B157 := B143.all k155 id
  have B158 := B140.all k155 id
  have K159 := K144.trans k155 (fun _ _ x => x.elim)
  refine wl_v (.tuple #[blkV (buB (c8M g) (Ch.mk (0) (0) (0) (0) (0) (downB (fwd (clB 1048576 (lessB (c8M b) (c8M g)))) (((k : Nat) : Int)))).b (((k : Nat) : Int))), .int .i64 (ern (((k : Nat) : Int)))]) rfl rfl (y_mov rfl rfl ⟨rfl, rfl⟩) ?_
  refine wl_v (blkV (buB (c8M g) (Ch.mk (0) (0) (0) (0) (0) (downB (fwd (clB 1048576 (lessB (c8M b) (c8M g)))) (((k : Nat) : Int)))).b (((k : Nat) : Int)))) rfl rfl (y_ext rfl rfl rfl ⟨rfl, rfl⟩) ?_
  refine wl_v (.int .i64 (ern (((k : Nat) : Int)))) rfl rfl (y_ext rfl rfl rfl ⟨rfl, rfl⟩) ?_
  refine wl_alloc_blk rfl rfl rfl blkT_block.2.2 fun p160 w161 e164 B162 k163 => ?_
  have g165 := onB_new (Nat.le_of_eq e164.symm)
  have gr166 : Grew w0 noB (onB p160) := Grew.new K159 g165
  have ap167 : Apart (onB p160) (onB p1) := Apart.new g165 (onB_live (B156).lt)
  have ap168 : Apart (onB p160) (onB p9) := Apart.new g165 (onB_live (B157).lt)
  have ap169 : Apart (onB p160) (onB p127) := Apart.new g165 (onB_live (B158).lt)
  clear e164 g165
  have B170 := B156.all k163 id
  have B171 := B157.all k163 id
  have B172 := B158.all k163 id
  have K173 := K159.trans k163 (fun _ _ x => x.elim)
  refine wl_store_blk blkT_block rfl rfl rfl rfl rfl B162 fun w174 B175 k176 => ?_
  have B177 := B170.all k176 (fun x => (((ap167).symm) p1 rfl x))
  have B178 := B171.all k176 (fun x => (((ap168).symm) p9 rfl x))
  have B179 := B172.all k176 (fun x => (((ap169).symm) p127 rfl x))
  have K180 := K173.trans k176 (Grew.ok (S := fun _ => False) gr166 noB_le)
  refine wl_v (.int .i64 (ern (((k : Nat) : Int)))) rfl rfl (y_asg rfl rfl ⟨rfl, rfl⟩) ?_
  refine wl_nil fun F181 hF182 => ?_
  have s183 := (hF182 3).trans s147
  have s184 := (hF182 7).trans s149
  have s185 := (hF182 8).trans s150
  have s186 := (hF182 115).trans s151
  have s187 := (hF182 11).trans s153
  have s188 : F181 12 = .pointer (some ⟨p160, 0, none⟩) := (hF182 12).trans rfl
  have s189 : F181 13 = .int .i64 (ern (((k : Nat) : Int))) := (hF182 13).trans rfl
  clear hF182
  refine then_normal ?_
  refine wq_seq ?_
  refine wq_region ?_
  refine wl_v (.int .i64 (((k : Nat) : Int))) rfl rfl (y_mov rfl s185 ⟨rfl, rfl⟩) ?_
  refine wl_call (R := fun v_ w_ => v_ = .tuple #[.int .i64 (stp (((k : Nat) : Int)) / 2), .int .i64 (ern (((k : Nat) : Int)))] ∧ Kept (fun _ => False) w174 w_) rfl rfl (y_cs rfl rfl rfl (fun _ _ => by kernel_rfl) (ev_func _) (vsC rfl vsN) (bound_any (((k : Nat) : Int))  _ (hs.all K180)  ) (fun e_ w_ h_ => ⟨_, h_.1, rfl, h_.2⟩)) ?_
  rintro _ w190 ⟨rfl, k191⟩
  have B192 := B177.all k191 id
  have B193 := B178.all k191 id
  have B194 := B179.all k191 id
  have B195 := B175.all k191 id
  have K196 := K180.trans k191 (fun _ _ x => x.elim)
  refine wl_v (.tuple #[.int .i64 (stp (((k : Nat) : Int)) / 2), .int .i64 (ern (((k : Nat) : Int)))]) rfl rfl (y_mov rfl rfl ⟨rfl, rfl⟩) ?_
  refine wl_v (.int .i64 (stp (((k : Nat) : Int)) / 2)) rfl rfl (y_ext rfl rfl rfl ⟨rfl, rfl⟩) ?_
  refine wl_v (.int .i64 (ern (((k : Nat) : Int)))) rfl rfl (y_ext rfl rfl rfl ⟨rfl, rfl⟩) ?_
  refine wl_v (.int .i64 (stp (((k : Nat) : Int)) / 2)) rfl rfl (y_asg rfl rfl ⟨rfl, rfl⟩) ?_
  refine wl_v (.int .i64 (ern (((k : Nat) : Int)))) rfl rfl (y_asg rfl rfl ⟨rfl, rfl⟩) ?_
  refine wl_nil fun F197 hF198 => ?_
  have s199 := (hF198 3).trans s183
  have s200 := (hF198 7).trans s184
  have s201 := (hF198 8).trans s185
  have s202 := (hF198 115).trans s186
  have s203 := (hF198 11).trans s187
  have s204 := (hF198 12).trans s188
  have s205 := (hF198 13).trans s189
  have s206 : F197 14 = .int .i64 (stp (((k : Nat) : Int)) / 2) := (hF198 14).trans rfl
  clear hF198
  refine then_normal ?_
  refine wq_seq ?_
  refine wq_seq ?_
  have B207 : Blk w190 p160 25 (buB (c8M g) (downB (fwd (clB 1048576 (lessB (c8M b) (c8M g)))) k) k) := (B195)
  refine wq_region ?_
  refine wl_v (.int .i64 (0)) rfl rfl (y_asg rfl rfl ⟨rfl, rfl⟩) ?_
  refine wl_nil fun F208 hF209 => ?_
  have s210 := (hF209 3).trans s199
  have s211 := (hF209 7).trans s200
  have s212 := (hF209 8).trans s201
  have s213 := (hF209 115).trans s202
  have s214 := (hF209 11).trans s203
  have s215 := (hF209 12).trans s204
  have s216 := (hF209 13).trans s205
  have s217 := (hF209 14).trans s206
  have s218 : F208 16 = .int .i64 (0) := (hF209 16).trans rfl
  clear hF209
  refine then_normal ?_
  refine wq_block ?_
  refine wq_loop (fun nn FF ww => ∃ (i : Nat), (i ≤ 16) ∧ nn = 16 - i ∧ FF 3 = .pointer (some ⟨p1, 0, none⟩) ∧ FF 7 = .bool true ∧ FF 8 = .int .i64 (((k : Nat) : Int)) ∧ FF 11 = .int .i64 (ern (((k : Nat) : Int))) ∧ FF 12 = .pointer (some ⟨p160, 0, none⟩) ∧ FF 13 = .int .i64 (ern (((k : Nat) : Int))) ∧ FF 14 = .int .i64 (stp (((k : Nat) : Int)) / 2) ∧ FF 115 = undef ∧ FF 16 = .int .i64 (((i : Nat) : Int)) ∧ Kept (fun _ => False) w0 ww ∧ Blk ww p1 24 (c8M b) ∧ Blk ww p9 24 (c8M g) ∧ Blk ww p127 25 (downB (fwd (clB 1048576 (lessB (c8M b) (c8M g)))) (((k : Nat) : Int))) ∧ Blk ww p160 25 (buB (c8M g) (downB (fwd (clB 1048576 (lessB (c8M b) (c8M g)))) k) k)) (16 - (0)) ⟨0, by omega, rfl, s210, s211, s212, s214, s215, s216, s217, s213, s218, K196, B192, B193, B194, B207⟩ ?_
  rintro n222 F219 w220 ⟨i, i223, hn222, s224, s225, s226, s227, s228, s229, s230, s231, s232, K221, B233, B234, B235, B236⟩
  refine wq_seq ?_
  refine wq_seq ?_
  refine wq_region ?_
  refine wl_v (.int .i64 (((i : Nat) : Int))) rfl rfl (y_mov rfl s232 ⟨rfl, rfl⟩) ?_
  refine wl_v (.bool (decide ((((i : Nat) : Int)) < (16)))) rfl rfl (y_lss rfl rfl rfl rfl ⟨rfl, rfl⟩) ?_
  refine wl_nil fun F237 hF238 => ?_
  have s239 := (hF238 3).trans s224
  have s240 := (hF238 7).trans s225
  have s241 := (hF238 8).trans s226
  have s242 := (hF238 11).trans s227
  have s243 := (hF238 12).trans s228
  have s244 := (hF238 13).trans s229
  have s245 := (hF238 14).trans s230
  have s246 := (hF238 115).trans s231
  have s247 := (hF238 16).trans s232
  have s248 : F237 62 = .bool (decide ((((i : Nat) : Int)) < (16))) := (hF238 62).trans rfl
  clear hF238
  refine then_normal ?_
  refine wq_cond s248 (fun c249 => ?_) (fun c249 => ?_)
  ·replace c249 := of_decide_eq_true c249
   refine wq_skip ?_
   refine then_normal ?_
   refine wq_seq ?_
   refine wq_block ?_
   refine wq_seq ?_
   have hn := hnr.out i (by omega)
   have hci := c8M_at b i
   refine wq_said [some 65, some 66, some 67, some 68, some 69, some 70, some 71, some 72, some 73, some 74, some 75, some 76, some 77, some 78, some 79, some 80, some 81, some 82, some 83, some 84, some 85, some 86, some 87, some 88, some 89, some 90, some 91, some 92, some 93, some 94, some 95, some 96] [Pd.eq (.int .i64 (((i : Nat) : Int))), Pd.eq (.pointer (some ⟨p160, i, none⟩)), Pd.eq (.int .i64 ((buB (c8M g) (downB (fwd (clB 1048576 (lessB (c8M b) (c8M g)))) k) k) (i))), Pd.eq (.int .i64 (((i : Nat) : Int))), Pd.eq (.pointer (some ⟨p1, i, none⟩)), Pd.eq (.int .i64 ((c8M b) (i))), Pd.eq (.int .i64 (((buB (c8M g) (downB (fwd (clB 1048576 (lessB (c8M b) (c8M g)))) k) k) (i)) - ((c8M b) (i)))), Pd.eq (.int .i64 (stp (((k : Nat) : Int)) / 2)), Pd.eq (.bool false), Pd.eq (.bool false), Pd.eq (.int .i64 (((i : Nat) : Int))), Pd.eq (.pointer (some ⟨p1, i, none⟩)), Pd.eq (.int .i64 ((c8M b) (i))), Pd.eq (.int .i64 (((i : Nat) : Int))), Pd.eq (.pointer (some ⟨p160, i, none⟩)), Pd.eq (.int .i64 ((buB (c8M g) (downB (fwd (clB 1048576 (lessB (c8M b) (c8M g)))) k) k) (i))), Pd.eq (.int .i64 (((c8M b) (i)) - ((buB (c8M g) (downB (fwd (clB 1048576 (lessB (c8M b) (c8M g)))) k) k) (i)))), Pd.eq (.int .i64 (stp (((k : Nat) : Int)) / 2)), Pd.eq (.bool false), Pd.eq (.bool false), Pd.eq (.bool false), Pd.eq (.int .i64 (((i : Nat) : Int))), Pd.eq (.pointer (some ⟨p160, i, none⟩)), Pd.eq (.int .i64 ((buB (c8M g) (downB (fwd (clB 1048576 (lessB (c8M b) (c8M g)))) k) k) (i))), Pd.eq (.bool false), Pd.eq (.bool false), Pd.eq (.bool false), Pd.eq (.int .i64 (((i : Nat) : Int))), Pd.eq (.pointer (some ⟨p160, i, none⟩)), Pd.eq (.int .i64 ((buB (c8M g) (downB (fwd (clB 1048576 (lessB (c8M b) (c8M g)))) k) k) (i))), Pd.eq (.bool false), Pd.eq (.bool false)] (by kernel_rfl) (by kernel_rfl) ?_ ?_
   ·refine stepsF_cons ?_ ?_
    ·refine StepF.one rfl fun F_ w_ hR hout hD => ?_
     exact (y_mov rfl ((hout 16 rfl (by decide)).trans s247) ⟨rfl, Kept.refl _ _⟩)
    refine stepsF_cons ?_ ?_
    ·refine StepF.one rfl fun F_ w_ hR hout hD => ?_
     have g65 : F_ 65 = .int .i64 (((i : Nat) : Int)) := (hD.get 0 rfl rfl rfl)
     exact (y_atR (i) (s := 1) rfl ((hout 12 rfl (by decide)).trans s243) g65 (by omega) Tryd.underlying25 (by omega) (by kernel_rfl) (by omega) ⟨rfl, Kept.refl _ _⟩)
    refine stepsF_cons ?_ ?_
    ·refine StepF.one rfl fun F_ w_ hR hout hD => ?_
     have g66 : F_ 66 = .pointer (some ⟨p160, i, none⟩) := (hD.get 0 rfl rfl rfl)
     exact (y_ldR rfl g66 Tryd.underlying3 (((B236.all hR id)).cell (by omega)) ⟨rfl, Kept.refl _ _⟩)
    refine stepsF_cons ?_ ?_
    ·refine StepF.one rfl fun F_ w_ hR hout hD => ?_
     exact (y_mov rfl ((hout 16 rfl (by decide)).trans s247) ⟨rfl, Kept.refl _ _⟩)
    refine stepsF_cons ?_ ?_
    ·refine StepF.one rfl fun F_ w_ hR hout hD => ?_
     have g68 : F_ 68 = .int .i64 (((i : Nat) : Int)) := (hD.get 0 rfl rfl rfl)
     exact (y_atR (i) (s := 1) rfl ((hout 3 rfl (by decide)).trans s239) g68 (by omega) Tryd.underlying24 (by omega) (by kernel_rfl) (by omega) ⟨rfl, Kept.refl _ _⟩)
    refine stepsF_cons ?_ ?_
    ·refine StepF.one rfl fun F_ w_ hR hout hD => ?_
     have g69 : F_ 69 = .pointer (some ⟨p1, i, none⟩) := (hD.get 0 rfl rfl rfl)
     exact (y_ldR rfl g69 Tryd.underlying3 (((B233.all hR id)).cell (by omega)) ⟨rfl, Kept.refl _ _⟩)
    refine stepsF_cons ?_ ?_
    ·refine StepF.one rfl fun F_ w_ hR hout hD => ?_
     have g67 : F_ 67 = .int .i64 ((buB (c8M g) (downB (fwd (clB 1048576 (lessB (c8M b) (c8M g)))) k) k) (i)) := (hD.get 0 rfl rfl rfl)
     have g70 : F_ 70 = .int .i64 ((c8M b) (i)) := (hD.get 1 rfl rfl rfl)
     exact (y_sub rfl g67 g70 (i64_i rfl (by omega)) ⟨rfl, Kept.refl _ _⟩)
    refine stepsF_cons ?_ ?_
    ·refine StepF.one rfl fun F_ w_ hR hout hD => ?_
     exact (y_mov rfl ((hout 14 rfl (by decide)).trans s245) ⟨rfl, Kept.refl _ _⟩)
    refine stepsF_cons ?_ ?_
    ·refine StepF.one rfl fun F_ w_ hR hout hD => ?_
     have g71 : F_ 71 = .int .i64 (((buB (c8M g) (downB (fwd (clB 1048576 (lessB (c8M b) (c8M g)))) k) k) (i)) - ((c8M b) (i))) := (hD.get 0 rfl rfl rfl)
     have g72 : F_ 72 = .int .i64 (stp (((k : Nat) : Int)) / 2) := (hD.get 1 rfl rfl rfl)
     exact (y_gtr rfl g71 g72 (decide_eq_false (by omega)) ⟨rfl, Kept.refl _ _⟩)
    refine stepsF_cons ?_ ?_
    ·refine StepF.one rfl fun F_ w_ hR hout hD => ?_
     have g73 : F_ 73 = .bool false := (hD.get 0 rfl rfl rfl)
     exact (y_mov rfl g73 ⟨rfl, Kept.refl _ _⟩)
    refine stepsF_cons ?_ ?_
    ·refine StepF.when 9 false 74 rfl rfl fun F_ w_ hR hout hD => ?_
     have g74 : F_ 74 = .bool false := (hD.get 0 rfl rfl rfl)
     exact ⟨g74, (y_mov rfl ((hout 16 rfl (by decide)).trans s247) ⟨rfl, Kept.refl _ _⟩)⟩
    refine stepsF_cons ?_ ?_
    ·refine StepF.when 9 false 74 rfl rfl fun F_ w_ hR hout hD => ?_
     have g74 : F_ 74 = .bool false := (hD.get 1 rfl rfl rfl)
     have g75 : F_ 75 = .int .i64 (((i : Nat) : Int)) := (hD.get 0 rfl rfl rfl)
     exact ⟨g74, (y_atR (i) (s := 1) rfl ((hout 3 rfl (by decide)).trans s239) g75 (by omega) Tryd.underlying24 (by omega) (by kernel_rfl) (by omega) ⟨rfl, Kept.refl _ _⟩)⟩
    refine stepsF_cons ?_ ?_
    ·refine StepF.when 9 false 74 rfl rfl fun F_ w_ hR hout hD => ?_
     have g74 : F_ 74 = .bool false := (hD.get 1 rfl rfl rfl)
     have g76 : F_ 76 = .pointer (some ⟨p1, i, none⟩) := (hD.get 0 rfl rfl rfl)
     exact ⟨g74, (y_ldR rfl g76 Tryd.underlying3 (((B233.all hR id)).cell (by omega)) ⟨rfl, Kept.refl _ _⟩)⟩
    refine stepsF_cons ?_ ?_
    ·refine StepF.when 9 false 74 rfl rfl fun F_ w_ hR hout hD => ?_
     have g74 : F_ 74 = .bool false := (hD.get 0 rfl rfl rfl)
     exact ⟨g74, (y_mov rfl ((hout 16 rfl (by decide)).trans s247) ⟨rfl, Kept.refl _ _⟩)⟩
    refine stepsF_cons ?_ ?_
    ·refine StepF.when 9 false 74 rfl rfl fun F_ w_ hR hout hD => ?_
     have g74 : F_ 74 = .bool false := (hD.get 1 rfl rfl rfl)
     have g78 : F_ 78 = .int .i64 (((i : Nat) : Int)) := (hD.get 0 rfl rfl rfl)
     exact ⟨g74, (y_atR (i) (s := 1) rfl ((hout 12 rfl (by decide)).trans s243) g78 (by omega) Tryd.underlying25 (by omega) (by kernel_rfl) (by omega) ⟨rfl, Kept.refl _ _⟩)⟩
    refine stepsF_cons ?_ ?_
    ·refine StepF.when 9 false 74 rfl rfl fun F_ w_ hR hout hD => ?_
     have g74 : F_ 74 = .bool false := (hD.get 1 rfl rfl rfl)
     have g79 : F_ 79 = .pointer (some ⟨p160, i, none⟩) := (hD.get 0 rfl rfl rfl)
     exact ⟨g74, (y_ldR rfl g79 Tryd.underlying3 (((B236.all hR id)).cell (by omega)) ⟨rfl, Kept.refl _ _⟩)⟩
    refine stepsF_cons ?_ ?_
    ·refine StepF.when 9 false 74 rfl rfl fun F_ w_ hR hout hD => ?_
     have g74 : F_ 74 = .bool false := (hD.get 2 rfl rfl rfl)
     have g77 : F_ 77 = .int .i64 ((c8M b) (i)) := (hD.get 0 rfl rfl rfl)
     have g80 : F_ 80 = .int .i64 ((buB (c8M g) (downB (fwd (clB 1048576 (lessB (c8M b) (c8M g)))) k) k) (i)) := (hD.get 1 rfl rfl rfl)
     exact ⟨g74, (y_sub rfl g77 g80 (i64_i rfl (by omega)) ⟨rfl, Kept.refl _ _⟩)⟩
    refine stepsF_cons ?_ ?_
    ·refine StepF.when 9 false 74 rfl rfl fun F_ w_ hR hout hD => ?_
     have g74 : F_ 74 = .bool false := (hD.get 0 rfl rfl rfl)
     exact ⟨g74, (y_mov rfl ((hout 14 rfl (by decide)).trans s245) ⟨rfl, Kept.refl _ _⟩)⟩
    refine stepsF_cons ?_ ?_
    ·refine StepF.when 9 false 74 rfl rfl fun F_ w_ hR hout hD => ?_
     have g74 : F_ 74 = .bool false := (hD.get 2 rfl rfl rfl)
     have g81 : F_ 81 = .int .i64 (((c8M b) (i)) - ((buB (c8M g) (downB (fwd (clB 1048576 (lessB (c8M b) (c8M g)))) k) k) (i))) := (hD.get 0 rfl rfl rfl)
     have g82 : F_ 82 = .int .i64 (stp (((k : Nat) : Int)) / 2) := (hD.get 1 rfl rfl rfl)
     exact ⟨g74, (y_gtr rfl g81 g82 (decide_eq_false (by omega)) ⟨rfl, Kept.refl _ _⟩)⟩
    refine stepsF_cons ?_ ?_
    ·refine StepF.one rfl fun F_ w_ hR hout hD => ?_
     have g74 : F_ 74 = .bool false := (hD.get 0 rfl rfl rfl)
     have g83 : F_ 83 = .bool false := (hD.get 1 rfl rfl rfl)
     exact (y_pickF rfl g74 g83 ⟨rfl, Kept.refl _ _⟩)
    refine stepsF_cons ?_ ?_
    ·refine StepF.one rfl fun F_ w_ hR hout hD => ?_
     have g84 : F_ 84 = .bool false := (hD.get 0 rfl rfl rfl)
     exact (y_mov rfl g84 ⟨rfl, Kept.refl _ _⟩)
    refine stepsF_cons ?_ ?_
    ·refine StepF.when 20 false 85 rfl rfl fun F_ w_ hR hout hD => ?_
     have g85 : F_ 85 = .bool false := (hD.get 0 rfl rfl rfl)
     exact ⟨g85, (y_mov rfl ((hout 16 rfl (by decide)).trans s247) ⟨rfl, Kept.refl _ _⟩)⟩
    refine stepsF_cons ?_ ?_
    ·refine StepF.when 20 false 85 rfl rfl fun F_ w_ hR hout hD => ?_
     have g85 : F_ 85 = .bool false := (hD.get 1 rfl rfl rfl)
     have g86 : F_ 86 = .int .i64 (((i : Nat) : Int)) := (hD.get 0 rfl rfl rfl)
     exact ⟨g85, (y_atR (i) (s := 1) rfl ((hout 12 rfl (by decide)).trans s243) g86 (by omega) Tryd.underlying25 (by omega) (by kernel_rfl) (by omega) ⟨rfl, Kept.refl _ _⟩)⟩
    refine stepsF_cons ?_ ?_
    ·refine StepF.when 20 false 85 rfl rfl fun F_ w_ hR hout hD => ?_
     have g85 : F_ 85 = .bool false := (hD.get 1 rfl rfl rfl)
     have g87 : F_ 87 = .pointer (some ⟨p160, i, none⟩) := (hD.get 0 rfl rfl rfl)
     exact ⟨g85, (y_ldR rfl g87 Tryd.underlying3 (((B236.all hR id)).cell (by omega)) ⟨rfl, Kept.refl _ _⟩)⟩
    refine stepsF_cons ?_ ?_
    ·refine StepF.when 20 false 85 rfl rfl fun F_ w_ hR hout hD => ?_
     have g85 : F_ 85 = .bool false := (hD.get 1 rfl rfl rfl)
     have g88 : F_ 88 = .int .i64 ((buB (c8M g) (downB (fwd (clB 1048576 (lessB (c8M b) (c8M g)))) k) k) (i)) := (hD.get 0 rfl rfl rfl)
     exact ⟨g85, (y_lss rfl g88 rfl (decide_eq_false (by omega)) ⟨rfl, Kept.refl _ _⟩)⟩
    refine stepsF_cons ?_ ?_
    ·refine StepF.one rfl fun F_ w_ hR hout hD => ?_
     have g85 : F_ 85 = .bool false := (hD.get 0 rfl rfl rfl)
     have g89 : F_ 89 = .bool false := (hD.get 1 rfl rfl rfl)
     exact (y_pickF rfl g85 g89 ⟨rfl, Kept.refl _ _⟩)
    refine stepsF_cons ?_ ?_
    ·refine StepF.one rfl fun F_ w_ hR hout hD => ?_
     have g90 : F_ 90 = .bool false := (hD.get 0 rfl rfl rfl)
     exact (y_mov rfl g90 ⟨rfl, Kept.refl _ _⟩)
    refine stepsF_cons ?_ ?_
    ·refine StepF.when 26 false 91 rfl rfl fun F_ w_ hR hout hD => ?_
     have g91 : F_ 91 = .bool false := (hD.get 0 rfl rfl rfl)
     exact ⟨g91, (y_mov rfl ((hout 16 rfl (by decide)).trans s247) ⟨rfl, Kept.refl _ _⟩)⟩
    refine stepsF_cons ?_ ?_
    ·refine StepF.when 26 false 91 rfl rfl fun F_ w_ hR hout hD => ?_
     have g91 : F_ 91 = .bool false := (hD.get 1 rfl rfl rfl)
     have g92 : F_ 92 = .int .i64 (((i : Nat) : Int)) := (hD.get 0 rfl rfl rfl)
     exact ⟨g91, (y_atR (i) (s := 1) rfl ((hout 12 rfl (by decide)).trans s243) g92 (by omega) Tryd.underlying25 (by omega) (by kernel_rfl) (by omega) ⟨rfl, Kept.refl _ _⟩)⟩
    refine stepsF_cons ?_ ?_
    ·refine StepF.when 26 false 91 rfl rfl fun F_ w_ hR hout hD => ?_
     have g91 : F_ 91 = .bool false := (hD.get 1 rfl rfl rfl)
     have g93 : F_ 93 = .pointer (some ⟨p160, i, none⟩) := (hD.get 0 rfl rfl rfl)
     exact ⟨g91, (y_ldR rfl g93 Tryd.underlying3 (((B236.all hR id)).cell (by omega)) ⟨rfl, Kept.refl _ _⟩)⟩
    refine stepsF_cons ?_ ?_
    ·refine StepF.when 26 false 91 rfl rfl fun F_ w_ hR hout hD => ?_
     have g91 : F_ 91 = .bool false := (hD.get 1 rfl rfl rfl)
     have g94 : F_ 94 = .int .i64 ((buB (c8M g) (downB (fwd (clB 1048576 (lessB (c8M b) (c8M g)))) k) k) (i)) := (hD.get 0 rfl rfl rfl)
     exact ⟨g91, (y_gtr rfl g94 rfl (decide_eq_false (by omega)) ⟨rfl, Kept.refl _ _⟩)⟩
    refine stepsF_cons ?_ ?_
    ·refine StepF.one rfl fun F_ w_ hR hout hD => ?_
     have g91 : F_ 91 = .bool false := (hD.get 0 rfl rfl rfl)
     have g95 : F_ 95 = .bool false := (hD.get 1 rfl rfl rfl)
     exact (y_pickF rfl g91 g95 ⟨rfl, Kept.refl _ _⟩)
    exact stepsF_nil
   intro v250 F251 w252 k253 G254 hF255
   have B257 := B233.all k253 id
   have B258 := B234.all k253 id
   have B259 := B235.all k253 id
   have B260 := B236.all k253 id
   have K261 := K221.trans k253 (fun _ _ x => x.elim)
   have s262 := (hF255 3).trans s239
   have s263 := (hF255 7).trans s240
   have s264 := (hF255 8).trans s241
   have s265 := (hF255 11).trans s242
   have s266 := (hF255 12).trans s243
   have s267 := (hF255 13).trans s244
   have s268 := (hF255 14).trans s245
   have s269 := (hF255 115).trans s246
   have s270 := (hF255 16).trans s247
   have s271 : F251 96 = .bool false := (hF255 96).trans (G254 31 (by decide))
   clear G254 hF255
   refine then_normal ?_
   refine wq_cond (t := false) s271 (fun e => by cases e) (fun _ => ?_)
   refine wq_skip ?_
   refine in_normal ?_
   refine then_normal ?_
   refine wq_region ?_
   refine wl_v (.int .i64 (((i : Nat) : Int))) rfl rfl (y_mov rfl s270 ⟨rfl, rfl⟩) ?_
   refine wl_v (.int .i64 (((i + 1 : Nat) : Int))) rfl rfl (y_add rfl rfl rfl (i64_n (by omega) (by omega)) ⟨rfl, rfl⟩) ?_
   refine wl_v (.int .i64 (((i + 1 : Nat) : Int))) rfl rfl (y_asg rfl rfl ⟨rfl, rfl⟩) ?_
   refine wl_nil fun F272 hF273 => ?_
   have s274 := (hF273 3).trans s262
   have s275 := (hF273 7).trans s263
   have s276 := (hF273 8).trans s264
   have s277 := (hF273 11).trans s265
   have s278 := (hF273 12).trans s266
   have s279 := (hF273 13).trans s267
   have s280 := (hF273 14).trans s268
   have s281 := (hF273 115).trans s269
   have s282 : F272 16 = .int .i64 (((i + 1 : Nat) : Int)) := (hF273 16).trans rfl
   clear hF273
   exact then_normal ⟨(16 - (i + 1)), by omega, i + 1, by omega, rfl, s274, s275, s276, s277, s278, s279, s280, s281, s282, K261, B257, B258, B259, B260⟩
  ·replace c249 := of_decide_eq_false c249
   refine wq_exit ?_
   refine then_exit ?_
   refine then_exit ?_
   have l283 : 16 = i := by omega
   subst l283
   refine in_here ?_
   refine then_normal ?_
   refine wq_seq ?_
   by_cases d284 : (0) < (((k : Nat) : Int))
   ·skip
    refine wq_region ?_
    refine wl_v (.bool true) rfl rfl (y_mov rfl s240 ⟨rfl, rfl⟩) ?_
    refine wl_v (.bool true) rfl rfl (y_mov rfl rfl ⟨rfl, rfl⟩) ?_
    refine wl_vw (.int .i64 (ern (((k : Nat) : Int)))) 1 true 98 rfl rfl rfl rfl rfl (y_mov rfl s242 ⟨rfl, rfl⟩) ?_
    refine wl_vw (.bool true) 1 true 98 rfl rfl rfl rfl rfl (y_eqlI rfl rfl rfl (decide_eq_true he) ⟨rfl, rfl⟩) ?_
    refine wl_v (.bool true) rfl rfl (y_pickT rfl rfl rfl ⟨rfl, rfl⟩) ?_
    refine wl_v (.bool true) rfl rfl (y_mov rfl rfl ⟨rfl, rfl⟩) ?_
    refine wl_vw (.int .i64 (ern (((k : Nat) : Int)))) 5 true 102 rfl rfl rfl rfl rfl (y_mov rfl s244 ⟨rfl, rfl⟩) ?_
    refine wl_vw (.bool true) 5 true 102 rfl rfl rfl rfl rfl (y_eqlI rfl rfl rfl (decide_eq_true he) ⟨rfl, rfl⟩) ?_
    refine wl_v (.bool true) rfl rfl (y_pickT rfl rfl rfl ⟨rfl, rfl⟩) ?_
    refine wl_v (.bool true) rfl rfl (y_mov rfl rfl ⟨rfl, rfl⟩) ?_
    refine wl_vw (.int .i64 (((k : Nat) : Int))) 9 true 106 rfl rfl rfl rfl rfl (y_mov rfl s241 ⟨rfl, rfl⟩) ?_
    refine wl_vw (.bool true) 9 true 106 rfl rfl rfl rfl rfl (y_gtr rfl rfl rfl (decide_eq_true d284) ⟨rfl, rfl⟩) ?_
    refine wl_vw (.bool true) 9 true 106 rfl rfl rfl rfl rfl (y_mov rfl rfl ⟨rfl, rfl⟩) ?_
    refine wl_unless 12 false 109 rfl rfl rfl (Or.inl rfl) rfl ?_
    refine wl_unless 12 false 109 rfl rfl rfl (Or.inl rfl) rfl ?_
    refine wl_unless 12 false 109 rfl rfl rfl (Or.inl rfl) rfl ?_
    refine wl_vw (.bool true) 9 true 106 rfl rfl rfl rfl rfl (y_pickT rfl rfl rfl ⟨rfl, rfl⟩) ?_
    refine wl_v (.bool true) rfl rfl (y_pickT rfl rfl rfl ⟨rfl, rfl⟩) ?_
    refine wl_v (.bool true) rfl rfl (y_asg rfl rfl ⟨rfl, rfl⟩) ?_
    refine wl_nil fun F285 hF286 => ?_
    have s287 := (hF286 115).trans s246
    have s288 : F285 6 = .bool true := (hF286 6).trans rfl
    clear hF286
    refine then_normal ?_
    refine wq_ret ?_
    exact end_tmp (v := .bool true) s287 rfl rfl s288 ⟨rfl, K221⟩
   ·skip
    refine wq_region ?_
    refine wl_v (.bool true) rfl rfl (y_mov rfl s240 ⟨rfl, rfl⟩) ?_
    refine wl_v (.bool true) rfl rfl (y_mov rfl rfl ⟨rfl, rfl⟩) ?_
    refine wl_vw (.int .i64 (ern (((k : Nat) : Int)))) 1 true 98 rfl rfl rfl rfl rfl (y_mov rfl s242 ⟨rfl, rfl⟩) ?_
    refine wl_vw (.bool true) 1 true 98 rfl rfl rfl rfl rfl (y_eqlI rfl rfl rfl (decide_eq_true he) ⟨rfl, rfl⟩) ?_
    refine wl_v (.bool true) rfl rfl (y_pickT rfl rfl rfl ⟨rfl, rfl⟩) ?_
    refine wl_v (.bool true) rfl rfl (y_mov rfl rfl ⟨rfl, rfl⟩) ?_
    refine wl_vw (.int .i64 (ern (((k : Nat) : Int)))) 5 true 102 rfl rfl rfl rfl rfl (y_mov rfl s244 ⟨rfl, rfl⟩) ?_
    refine wl_vw (.bool true) 5 true 102 rfl rfl rfl rfl rfl (y_eqlI rfl rfl rfl (decide_eq_true he) ⟨rfl, rfl⟩) ?_
    refine wl_v (.bool true) rfl rfl (y_pickT rfl rfl rfl ⟨rfl, rfl⟩) ?_
    refine wl_v (.bool true) rfl rfl (y_mov rfl rfl ⟨rfl, rfl⟩) ?_
    refine wl_vw (.int .i64 (((k : Nat) : Int))) 9 true 106 rfl rfl rfl rfl rfl (y_mov rfl s241 ⟨rfl, rfl⟩) ?_
    refine wl_vw (.bool false) 9 true 106 rfl rfl rfl rfl rfl (y_gtr rfl rfl rfl (decide_eq_false d284) ⟨rfl, rfl⟩) ?_
    refine wl_vw (.bool false) 9 true 106 rfl rfl rfl rfl rfl (y_mov rfl rfl ⟨rfl, rfl⟩) ?_
    refine wl_vw (blkV (buB (c8M g) (downB (fwd (clB 1048576 (lessB (c8M b) (c8M g)))) k) k)) 12 false 109 rfl rfl rfl rfl rfl (y_load_blk blkT_block rfl s243 B236 ⟨rfl, rfl⟩) ?_
    refine wl_vw (blkV (c8M b)) 12 false 109 rfl rfl rfl rfl rfl (y_load_blk blkT_arr rfl s239 B233 ⟨rfl, rfl⟩) ?_
    refine wl_vw (.bool true) 12 false 109 rfl rfl rfl rfl rfl (y_sameR rfl rfl rfl (sameB_true fun i hi => by have h0 : k = 0 := (by omega); have h1 := hnr.out i hi; have h2 : stp (k : Int) = 1 := (by rw [h0]; rfl); rw [h2] at h1; omega) ⟨rfl, rfl⟩) ?_
    refine wl_vw (.bool true) 9 true 106 rfl rfl rfl rfl rfl (y_pickF rfl rfl rfl ⟨rfl, rfl⟩) ?_
    refine wl_v (.bool true) rfl rfl (y_pickT rfl rfl rfl ⟨rfl, rfl⟩) ?_
    refine wl_v (.bool true) rfl rfl (y_asg rfl rfl ⟨rfl, rfl⟩) ?_
    refine wl_nil fun F289 hF290 => ?_
    have s291 := (hF290 115).trans s246
    have s292 : F289 6 = .bool true := (hF290 6).trans rfl
    clear hF290
    refine then_normal ?_
    refine wq_ret ?_
    exact end_tmp (v := .bool true) s291 rfl rfl s292 ⟨rfl, K221⟩

end Go.Proofs.YtdcbabgcbkdlhaaDoor
set_option maxRecDepth 100000
namespace Go.Proofs.YtdcbabgcbkdlhaaDoor
open Go.RowKit

theorem nat_u8 {n : Int} (h : (Lit.int .u8 n).wf = true) : ∃ m : Nat, n = (m : Int) ∧ m < 256 := by
  have := bounds_u8 h
  exact ⟨n.toNat, by omega, by omega⟩
end Go.Proofs.YtdcbabgcbkdlhaaDoor
