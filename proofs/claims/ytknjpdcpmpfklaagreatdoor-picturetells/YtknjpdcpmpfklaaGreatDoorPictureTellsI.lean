/- What PictureTells reaches of my texts, part 9. -/
import Derived.Test.YtknjpdcpmpfklaaGreatDoorPictureTellsH
set_option maxRecDepth 100000
set_option maxHeartbeats 4000000
set_option maxRecDepth 100000
namespace Go.Proofs.YtknjpdcpmpfklaaGreatDoor
open Go.RowKit
theorem qref_step (q : Int) (w0 : World) :
  Calls Tryz.prog 120 #[.int .i64 (q)] w0 fun e w' => e = .returned (.tuple #[.int .i64 (stp q), .int .i64 (ern q)]) ∧ Kept (fun _ => False) w0 w' := by
 refine calls_wq (args := [iv q]) 15 Tryz.func120 rfl rfl (Nat.le_of_ble_eq_true rfl) ?_
 have K0 := Kept.refl (fun _ => False) w0
 refine wq_seq (wq_region (wl_v (iv 0) rfl rfl (y_asg rfl rfl rr) (wl_v (iv 0) rfl rfl (y_asg rfl rfl rr) (wl_nil fun F1 hF2 => ?_))))
 have s3 : F1 0 = iv q := (hF2 0).trans rfl
 have s4 : F1 15 = undef := (hF2 15).trans rfl
 clear hF2
 refine then_normal (wq_seq (wq_region (wl_v (.agg (arrL 21 (blL [1, 2, 3, 4, 5, 6, 8, 10, 12, 16, 20, 24, 32, 40, 48, 64, 80, 96, 128, 160, 192])).toArray) rfl rfl (y_buildR (cells := (arrL 21 (blL [1, 2, 3, 4, 5, 6, 8, 10, 12, 16, 20, 24, 32, 40, 48, 64, 80, 96, 128, 160, 192])).toArray) rfl (by kernel_rfl) rfl rr) (wl_alloc_arr rfl rfl rfl arrT21.2.2 fun p5 w6 e9 B7 k8 => ?_))))
 have g10 := onB_new (Nat.le_of_eq e9.symm)
 have gr11 : Grew w0 noB (onB p5) := Grew.new K0 g10
 clear e9 g10
 have K12 := K0.tr k8
 refine wl_store_arr arrT21 rfl rfl rfl rfl rfl B7 fun w13 B14 k15 => ?_
 have K16 := K12.trans k15 (Grew.ok (S := fun _ => False) gr11 noB_le)
 refine wl_nil fun F17 hF18 => ?_
 obtain ⟨s19, s20⟩ := t2 hF18 0 s3 15 s4
 have s21 : F17 4 = pt p5 0 := (hF18 4).trans rfl
 clear hF18
 refine then_normal (wq_seq (wq_seq ?_))
 by_cases d22 : q < 0
 ·skip
  refine wq_region (wl_mv rfl rfl rfl s19 (wl_v (.bool true) rfl rfl (y_lss rfl rfl rfl (decide_eq_true d22) rr) (wl_v (.bool true) rfl rfl (y_mov rfl rfl rr) (wl_unless 2 false 8 rfl rfl rfl (Or.inl rfl) rfl (wl_unless 2 false 8 rfl rfl rfl (Or.inl rfl) rfl (wl_v (.bool true) rfl rfl (y_pickT rfl rfl rfl rr) (wl_nil fun F23 hF24 => ?_)))))))
  have s26 := (hF24 15).trans s20
  have s28 : F23 11 = .bool true := (hF24 11).trans rfl
  clear hF24
  refine then_normal ?_
  refine wq_cond (t := true) s28 (fun _ => ?_) (fun e => by cases e)
  refine wq_seq (wq_region (wl_v (iv 0) rfl rfl (y_asg rfl rfl rr) (wl_v (iv 50) rfl rfl (y_asg rfl rfl rr) (wl_nil fun F29 hF30 => ?_))))
  have s31 := (hF30 15).trans s26
  have s32 : F29 2 = iv 0 := (hF30 2).trans rfl
  have s33 : F29 3 = iv 50 := (hF30 3).trans rfl
  clear hF30
  refine then_normal (wq_ret (then_ret ?_))
  exact end_2 s31 rfl (res_tmp (v := iv 0) rfl s32) (res_tmp (v := iv 50) rfl s33) ⟨(by first | (rw [ern_ok (by omega)]) | (rw [stp_no (by omega), ern_no (by omega)])), K16⟩
 ·skip
  refine wq_region (wl_mv rfl rfl rfl s19 (wl_v (.bool false) rfl rfl (y_lss rfl rfl rfl (decide_eq_false d22) rr) (wl_v (.bool false) rfl rfl (y_mov rfl rfl rr) (wl_vw (iv q) 2 false 8 rfl rfl rfl rfl rfl (y_mov rfl s19 rr) (wl_vw (.bool (decide (20 < q))) 2 false 8 rfl rfl rfl rfl rfl (y_gtr rfl rfl rfl rfl rr) (wl_v (.bool (decide (20 < q))) rfl rfl (y_pickF rfl rfl rfl rr) (wl_nil fun F34 hF35 => ?_)))))))
  obtain ⟨s36, s37, s38⟩ := t3 hF35 0 s19 15 s20 4 s21
  have s39 : F34 11 = .bool (decide (20 < q)) := (hF35 11).trans rfl
  clear hF35
  refine then_normal ?_
  refine wq_cond s39 (fun c40 => ?_) (fun c40 => ?_)
  ·replace c40 := of_decide_eq_true c40
   refine wq_seq (wq_region (wl_v (iv 0) rfl rfl (y_asg rfl rfl rr) (wl_v (iv 50) rfl rfl (y_asg rfl rfl rr) (wl_nil fun F41 hF42 => ?_))))
   have s43 := (hF42 15).trans s37
   have s44 : F41 2 = iv 0 := (hF42 2).trans rfl
   have s45 : F41 3 = iv 50 := (hF42 3).trans rfl
   clear hF42
   refine then_normal (wq_ret (then_ret ?_))
   exact end_2 s43 rfl (res_tmp (v := iv 0) rfl s44) (res_tmp (v := iv 50) rfl s45) ⟨(by first | (rw [ern_ok (by omega)]) | (rw [stp_no (by omega), ern_no (by omega)])), K16⟩
  ·replace c40 := of_decide_eq_false c40
   refine wq_skip (then_normal (wq_seq (wq_region (wl_mv rfl rfl rfl s36 (wl_v (.pointer (some ⟨p5, q.toNat, none⟩)) rfl rfl (y_atR (q.toNat) (s := 1) rfl s38 rfl (by omega) Tryz.underlying175 (by omega) (by kernel_rfl) (by omega) rr) (wl_v (iv (stp q)) rfl rfl (y_ldR rfl rfl Tryz.underlying3 ((B14.cell (by omega)).trans (some_int (by rw [stp_ok (by omega)]; rfl))) rr) (wl_v (iv (stp q)) rfl rfl (y_asg rfl rfl rr) (wl_v (iv 0) rfl rfl (y_asg rfl rfl rr) (wl_nil fun F46 hF47 => ?_)))))))))
   have s48 := (hF47 15).trans s37
   have s49 : F46 2 = iv (stp q) := (hF47 2).trans rfl
   have s50 : F46 3 = iv 0 := (hF47 3).trans rfl
   clear hF47
   refine then_normal (wq_ret ?_)
   exact end_2 s48 rfl (res_tmp (v := iv (stp q)) rfl s49) (res_tmp (v := iv 0) rfl s50) ⟨(by first | (rw [ern_ok (by omega)]) | (rw [stp_no (by omega), ern_no (by omega)])), K16⟩
theorem qref_clamp (n : Int) (w0 : World) :
  Calls Tryz.prog 121 #[.int .i64 (n)] w0 fun e w' => e = .returned (.int .i64 (cl 1048576 n)) ∧ Kept (fun _ => False) w0 w' := by
 refine calls_wq (args := [iv n]) 6 Tryz.func121 rfl rfl (Nat.le_of_ble_eq_true rfl) ?_
 have K0 := Kept.refl (fun _ => False) w0
 refine wq_seq (wq_region (wl_v (iv 0) rfl rfl (y_asg rfl rfl rr) (wl_nil fun F1 hF2 => ?_)))
 have s3 : F1 0 = iv n := (hF2 0).trans rfl
 have s4 : F1 6 = undef := (hF2 6).trans rfl
 clear hF2
 refine then_normal (wq_seq (wq_region (wl_mv rfl rfl rfl s3 (wl_v (iv (max n (-1048576))) rfl rfl (y_maxR rfl rfl rfl rfl rr) (wl_v (iv (cl 1048576 n)) rfl rfl (y_minR rfl rfl rfl (by unfold cl; omega) rr) (wl_v (iv (cl 1048576 n)) rfl rfl (y_asg rfl rfl rr) (wl_nil fun F5 hF6 => ?_)))))))
 have s7 := (hF6 6).trans s4
 have s8 : F5 2 = iv (cl 1048576 n) := (hF6 2).trans rfl
 clear hF6
 refine then_normal (wq_ret ?_)
 exact end_tmp (v := iv (cl 1048576 n)) s7 rfl rfl s8 ⟨rfl, K0⟩
theorem qref_up_ok (b : Nat → Int) (q : Int) (w0 : World) (he : ern q = 0) :
  Calls Tryz.prog 83 #[blkV (b), .int .i64 (q)] w0 fun e w' => e = .returned (.tuple #[blkV (upB b q), .int .i64 (ern q)]) ∧ Kept (fun _ => False) w0 w' := by
 refine calls_wq (args := [blkV b, iv q]) 34 Tryz.func83 rfl rfl (Nat.le_of_ble_eq_true rfl) ?_
 have K0 := Kept.refl (fun _ => False) w0
 refine wq_seq (wq_region (wl_box_blk rfl rfl rfl rfl fun p1 w2 e5 B3 k4 => ?_))
 have g6 := onB_new (Nat.le_of_eq e5.symm)
 clear e5 g6
 have K8 := K0.tr k4
 refine wl_alloc_blk rfl rfl rfl blkT_arr.2.2 fun p9 w10 e13 B11 k12 => ?_
 have g14 := onB_new (Nat.le_of_eq e13.symm)
 have gr15 : Grew w0 noB (onB p9) := Grew.new K8 g14
 clear e13 g14
 have B17 := B3.all k12 id
 have K18 := K8.tr k12
 refine wl_v (iv 0) rfl rfl (y_asg rfl rfl rr) (wl_nil fun F19 hF20 => ?_)
 have s21 : F19 1 = iv q := (hF20 1).trans rfl
 have s22 : F19 34 = undef := (hF20 34).trans rfl
 have s23 : F19 2 = pt p1 0 := (hF20 2).trans rfl
 have s24 : F19 4 = pt p9 0 := (hF20 4).trans rfl
 clear hF20
 refine then_normal (wq_seq (wq_region (wl_mv rfl rfl rfl s21 (wl_cs rfl rfl rfl rfl rfl (fun _ _ => by kernel_rfl) (vsC rfl vsN) (qref_step q  _   ) fun w25 k26 => ?_))))
 have B27 := B17.all k26 id
 have B28 := B11.all k26 id
 have K29 := K18.tr k26
 refine wl_v (.tuple #[iv (stp q), iv (ern q)]) rfl rfl (y_mov rfl rfl rr) (wl_v (iv (stp q)) rfl rfl (y_ext rfl rfl rfl rr) (wl_v (iv (ern q)) rfl rfl (y_ext rfl rfl rfl rr) (wl_v (iv (stp q)) rfl rfl (y_asg rfl rfl rr) (wl_v (iv (ern q)) rfl rfl (y_asg rfl rfl rr) (wl_nil fun F30 hF31 => ?_)))))
 obtain ⟨s32, s33, s34⟩ := t3 hF31 34 s22 2 s23 4 s24
 have s35 : F30 6 = iv (stp q) := (hF31 6).trans rfl
 have s36 : F30 7 = iv (ern q) := (hF31 7).trans rfl
 clear hF31
 refine then_normal (wq_seq (wq_region (wl_v (blkV (fun _ => 0)) rfl rfl (y_buildR (cells := (arrL 16 (fun _ => 0)).toArray) rfl (by kernel_rfl) rfl rr) (wl_alloc_blk rfl rfl rfl blkT_arr.2.2 fun p37 w38 e41 B39 k40 => ?_))))
 have g42 := onB_new (Nat.le_of_eq e41.symm)
 have gr43 : Grew w0 noB (onB p37) := Grew.new K29 g42
 have ap44 : Apart (onB p37) (onB p1) := Apart.new g42 (onB_live B27.lt)
 have ap45 : Apart (onB p37) (onB p9) := Apart.new g42 (onB_live B28.lt)
 clear e41 g42
 have B46 := B27.all k40 id
 have B47 := B28.all k40 id
 have K48 := K29.tr k40
 refine wl_store_blk blkT_arr rfl rfl rfl rfl rfl B39 fun w49 B50 k51 => ?_
 have B52 := B46.all k51 (ap44.symm p1 rfl)
 have B53 := B47.all k51 (ap45.symm p9 rfl)
 have K54 := K48.trans k51 (Grew.ok (S := fun _ => False) gr43 noB_le)
 refine wl_nil fun F55 hF56 => ?_
 obtain ⟨s57, s58, s59, s60, s61⟩ := t5 hF56 34 s32 2 s33 4 s34 6 s35 7 s36
 have s62 : F55 8 = pt p37 0 := (hF56 8).trans rfl
 clear hF56
 refine then_normal (wq_seq (wq_seq (wq_region (wl_v (iv 0) rfl rfl (y_asg rfl rfl rr) (wl_nil fun F63 hF64 => ?_)))))
 obtain ⟨s65, s66, s67, s68, s69, s70⟩ := t6 hF64 34 s57 2 s58 4 s59 6 s60 7 s61 8 s62
 have s71 : F63 9 = iv 0 := (hF64 9).trans rfl
 clear hF64
 refine then_normal (wq_block (wq_loop (fun nn FF ww => ∃ (k : Nat), (k ≤ 16) ∧ nn = 16 - k ∧ FF 2 = pt p1 0 ∧ FF 4 = pt p9 0 ∧ FF 6 = iv (stp q) ∧ FF 7 = iv (ern q) ∧ FF 8 = pt p37 0 ∧ FF 34 = undef ∧ FF 9 = iv ((k : Nat) : Int) ∧ Kept (fun _ => False) w0 ww ∧ Blk ww p1 68 b ∧ Blk ww p9 68 (fun _ => 0) ∧ Blk ww p37 68 (upto k (fun _ => 0) (upB b q))) (16 - 0) ⟨0, by omega, rfl, s66, s67, s68, s69, s70, s65, s71, K54, B52, B53, B50.first⟩ ?_))
 rintro n75 F72 w73 ⟨k, i76, hn75, s77, s78, s79, s80, s81, s82, s83, K74, B84, B85, B86⟩
 refine wq_seq (wq_seq ?_)
 by_cases d87 : ((k : Nat) : Int) < 16
 ·skip
  refine wq_region (wl_mv rfl rfl rfl s83 (wl_v (.bool true) rfl rfl (y_lss rfl rfl rfl (decide_eq_true d87) rr) (wl_v (.bool true) rfl rfl (y_mov rfl rfl rr) (wl_vw (iv (ern q)) 2 true 18 rfl rfl rfl rfl rfl (y_mov rfl s80 rr) (wl_vw (.bool true) 2 true 18 rfl rfl rfl rfl rfl (y_eqlI rfl rfl rfl (decide_eq_true he) rr) (wl_v (.bool true) rfl rfl (y_pickT rfl rfl rfl rr) (wl_nil fun F88 hF89 => ?_)))))))
  obtain ⟨s90, s91, s92, s93, s94, s95, s96⟩ := t7 hF89 2 s77 4 s78 6 s79 7 s80 8 s81 34 s82 9 s83
  have s97 : F88 21 = .bool true := (hF89 21).trans rfl
  clear hF89
  refine then_normal ?_
  refine wq_cond (t := true) s97 (fun _ => ?_) (fun e => by cases e)
  refine wq_skip (then_normal (wq_seq (wq_block ?_)))
  have hst := stp_le (q := q) (by omega)
  have hcl := cl_le 1048576 (b k) (by omega)
  have hmu : -201326592 ≤ cl 1048576 (b k) * stp q ∧ cl 1048576 (b k) * stp q ≤ 201326592 := mul_in hcl hst
  refine wq_region (wl_mv rfl rfl rfl s96 (wl_mv rfl rfl rfl s96 (wl_v (.pointer (some ⟨p1, k, none⟩)) rfl rfl (y_atR k (s := 1) rfl s90 rfl (by omega) Tryz.underlying68 (by omega) (by kernel_rfl) (by omega) rr) (wl_v (iv (b k)) rfl rfl (y_ldR rfl rfl Tryz.underlying3 (B84.cell (by omega)) rr) (wl_cs rfl rfl rfl rfl rfl (fun _ _ => by kernel_rfl) (vsC rfl vsN) (qref_clamp (b k)  _   ) fun w98 k99 => ?_)))))
  have B100 := B84.all k99 id
  have B101 := B85.all k99 id
  have B102 := B86.all k99 id
  have K103 := K74.tr k99
  refine wl_mv rfl rfl rfl s92 (wl_v (iv ((cl 1048576 (b k)) * (stp q))) rfl rfl (y_mul rfl rfl rfl (i64_i rfl (by omega)) rr) (wl_v (.pointer (some ⟨p37, k, none⟩)) rfl rfl (y_atR k (s := 1) rfl s94 rfl (by omega) Tryz.underlying68 (by omega) (by kernel_rfl) (by omega) rr) (wl_set_blk rfl rfl rfl rfl rfl B102 (by omega) (by kernel_rfl) fun w104 B105 k106 => ?_)))
  have B107 := B100.all k106 (ap44.symm p1 rfl)
  have B108 := B101.all k106 (ap45.symm p9 rfl)
  have K109 := K103.trans k106 (Grew.ok (S := fun _ => False) gr43 noB_le)
  refine wl_nil fun F110 hF111 => ?_
  obtain ⟨s112, s113, s114, s115, s116, s117, s118⟩ := t7 hF111 2 s90 4 s91 6 s92 7 s93 8 s94 34 s95 9 s96
  clear hF111
  refine in_normal (then_normal (wq_region (wl_mv rfl rfl rfl s118 (wl_v (iv ((k + 1 : Nat) : Int)) rfl rfl (y_add rfl rfl rfl (i64_n (by omega) (by omega)) rr) (wl_v (iv ((k + 1 : Nat) : Int)) rfl rfl (y_asg rfl rfl rr) (wl_nil fun F119 hF120 => ?_))))))
  obtain ⟨s121, s122, s123, s124, s125, s126⟩ := t6 hF120 2 s112 4 s113 6 s114 7 s115 8 s116 34 s117
  have s127 : F119 9 = iv ((k + 1 : Nat) : Int) := (hF120 9).trans rfl
  clear hF120
  exact then_normal ⟨(16 - (k + 1)), by omega, k + 1, by omega, rfl, s121, s122, s123, s124, s125, s126, s127, K109, B107, B108, (B105.next (by rw [up_at he]))⟩
 ·skip
  refine wq_region (wl_mv rfl rfl rfl s83 (wl_v (.bool false) rfl rfl (y_lss rfl rfl rfl (decide_eq_false d87) rr) (wl_v (.bool false) rfl rfl (y_mov rfl rfl rr) (wl_unless 2 true 18 rfl rfl rfl (Or.inl rfl) rfl (wl_unless 2 true 18 rfl rfl rfl (Or.inl rfl) rfl (wl_v (.bool false) rfl rfl (y_pickF rfl rfl rfl rr) (wl_nil fun F128 hF129 => ?_)))))))
  obtain ⟨s131, s133, s134, s135⟩ := t4 hF129 4 s78 7 s80 8 s81 34 s82
  have s137 : F128 21 = .bool false := (hF129 21).trans rfl
  clear hF129
  refine then_normal ?_
  refine wq_cond (t := false) s137 (fun e => by cases e) (fun _ => ?_)
  refine wq_exit (then_exit (then_exit ?_))
  have l138 : 16 = k := by omega
  subst l138
  have B139 : Blk w73 p37 68 (upB b q) := (B86.last)
  refine in_here (then_normal (wq_seq (wq_region (wl_v (blkV (upB b q)) rfl rfl (y_load_blk blkT_arr rfl s134 B139 rr) (wl_mv rfl rfl rfl s133 (wl_store_blk blkT_arr rfl rfl rfl s131 rfl B85 fun w140 B141 k142 => ?_))))))
  have K145 := K74.trans k142 (Grew.ok (S := fun _ => False) gr15 noB_le)
  refine wl_v (iv (ern q)) rfl rfl (y_asg rfl rfl rr) (wl_nil fun F146 hF147 => ?_)
  obtain ⟨s148, s149⟩ := t2 hF147 4 s131 34 s135
  have s150 : F146 5 = iv (ern q) := (hF147 5).trans rfl
  clear hF147
  refine then_normal (wq_ret ?_)
  exact end_2 s149 rfl (res_blk blkT_arr rfl s148 B141) (res_tmp (v := iv (ern q)) rfl s150) ⟨rfl, K145⟩
theorem qref_up_no (b : Nat → Int) (q : Int) (w0 : World) (he : ern q ≠ 0) :
  Calls Tryz.prog 83 #[blkV (b), .int .i64 (q)] w0 fun e w' => e = .returned (.tuple #[blkV (upB b q), .int .i64 (ern q)]) ∧ Kept (fun _ => False) w0 w' := by
 refine calls_wq (args := [blkV b, iv q]) 34 Tryz.func83 rfl rfl (Nat.le_of_ble_eq_true rfl) ?_
 have K0 := Kept.refl (fun _ => False) w0
 refine wq_seq (wq_region (wl_box_blk rfl rfl rfl rfl fun p1 w2 e5 B3 k4 => ?_))
 have g6 := onB_new (Nat.le_of_eq e5.symm)
 clear e5 g6
 have K8 := K0.tr k4
 refine wl_alloc_blk rfl rfl rfl blkT_arr.2.2 fun p9 w10 e13 B11 k12 => ?_
 have g14 := onB_new (Nat.le_of_eq e13.symm)
 have gr15 : Grew w0 noB (onB p9) := Grew.new K8 g14
 clear e13 g14
 have B17 := B3.all k12 id
 have K18 := K8.tr k12
 refine wl_v (iv 0) rfl rfl (y_asg rfl rfl rr) (wl_nil fun F19 hF20 => ?_)
 have s21 : F19 1 = iv q := (hF20 1).trans rfl
 have s22 : F19 34 = undef := (hF20 34).trans rfl
 have s23 : F19 2 = pt p1 0 := (hF20 2).trans rfl
 have s24 : F19 4 = pt p9 0 := (hF20 4).trans rfl
 clear hF20
 refine then_normal (wq_seq (wq_region (wl_mv rfl rfl rfl s21 (wl_cs rfl rfl rfl rfl rfl (fun _ _ => by kernel_rfl) (vsC rfl vsN) (qref_step q  _   ) fun w25 k26 => ?_))))
 have B27 := B17.all k26 id
 have B28 := B11.all k26 id
 have K29 := K18.tr k26
 refine wl_v (.tuple #[iv (stp q), iv (ern q)]) rfl rfl (y_mov rfl rfl rr) (wl_v (iv (stp q)) rfl rfl (y_ext rfl rfl rfl rr) (wl_v (iv (ern q)) rfl rfl (y_ext rfl rfl rfl rr) (wl_v (iv (stp q)) rfl rfl (y_asg rfl rfl rr) (wl_v (iv (ern q)) rfl rfl (y_asg rfl rfl rr) (wl_nil fun F30 hF31 => ?_)))))
 obtain ⟨s32, s33, s34⟩ := t3 hF31 34 s22 2 s23 4 s24
 have s35 : F30 6 = iv (stp q) := (hF31 6).trans rfl
 have s36 : F30 7 = iv (ern q) := (hF31 7).trans rfl
 clear hF31
 refine then_normal (wq_seq (wq_region (wl_v (blkV (fun _ => 0)) rfl rfl (y_buildR (cells := (arrL 16 (fun _ => 0)).toArray) rfl (by kernel_rfl) rfl rr) (wl_alloc_blk rfl rfl rfl blkT_arr.2.2 fun p37 w38 e41 B39 k40 => ?_))))
 have g42 := onB_new (Nat.le_of_eq e41.symm)
 have gr43 : Grew w0 noB (onB p37) := Grew.new K29 g42
 have ap44 : Apart (onB p37) (onB p1) := Apart.new g42 (onB_live B27.lt)
 have ap45 : Apart (onB p37) (onB p9) := Apart.new g42 (onB_live B28.lt)
 clear e41 g42
 have B46 := B27.all k40 id
 have B47 := B28.all k40 id
 have K48 := K29.tr k40
 refine wl_store_blk blkT_arr rfl rfl rfl rfl rfl B39 fun w49 B50 k51 => ?_
 have B52 := B46.all k51 (ap44.symm p1 rfl)
 have B53 := B47.all k51 (ap45.symm p9 rfl)
 have K54 := K48.trans k51 (Grew.ok (S := fun _ => False) gr43 noB_le)
 refine wl_nil fun F55 hF56 => ?_
 obtain ⟨s57, s58, s59, s60, s61⟩ := t5 hF56 34 s32 2 s33 4 s34 6 s35 7 s36
 have s62 : F55 8 = pt p37 0 := (hF56 8).trans rfl
 clear hF56
 refine then_normal (wq_seq (wq_seq (wq_region (wl_v (iv 0) rfl rfl (y_asg rfl rfl rr) (wl_nil fun F63 hF64 => ?_)))))
 obtain ⟨s65, s66, s67, s68, s69, s70⟩ := t6 hF64 34 s57 2 s58 4 s59 6 s60 7 s61 8 s62
 have s71 : F63 9 = iv 0 := (hF64 9).trans rfl
 clear hF64
 refine then_normal (wq_block (wq_loop (fun nn FF ww => ∃ (k : Nat), nn = 16 - k ∧ FF 2 = pt p1 0 ∧ FF 4 = pt p9 0 ∧ FF 6 = iv (stp q) ∧ FF 7 = iv (ern q) ∧ FF 8 = pt p37 0 ∧ FF 34 = undef ∧ FF 9 = iv ((k : Nat) : Int) ∧ Kept (fun _ => False) w0 ww ∧ Blk ww p1 68 b ∧ Blk ww p9 68 (fun _ => 0) ∧ Blk ww p37 68 (fun _ => 0)) (16 - 0) ⟨0, rfl, s66, s67, s68, s69, s70, s65, s71, K54, B52, B53, B50⟩ ?_))
 rintro n75 F72 w73 ⟨k, hn75, s76, s77, s78, s79, s80, s81, s82, K74, B83, B84, B85⟩
 refine wq_seq (wq_seq ?_)
 by_cases d86 : ((k : Nat) : Int) < 16
 ·skip
  refine wq_region (wl_mv rfl rfl rfl s82 (wl_v (.bool true) rfl rfl (y_lss rfl rfl rfl (decide_eq_true d86) rr) (wl_v (.bool true) rfl rfl (y_mov rfl rfl rr) (wl_vw (iv (ern q)) 2 true 18 rfl rfl rfl rfl rfl (y_mov rfl s79 rr) (wl_vw (.bool false) 2 true 18 rfl rfl rfl rfl rfl (y_eqlI rfl rfl rfl (decide_eq_false he) rr) (wl_v (.bool false) rfl rfl (y_pickT rfl rfl rfl rr) (wl_nil fun F87 hF88 => ?_)))))))
  obtain ⟨s90, s92, s93, s94⟩ := t4 hF88 4 s77 7 s79 8 s80 34 s81
  have s96 : F87 21 = .bool false := (hF88 21).trans rfl
  clear hF88
  refine then_normal ?_
  refine wq_cond (t := false) s96 (fun e => by cases e) (fun _ => ?_)
  refine wq_exit (then_exit (then_exit (in_here (then_normal (wq_seq (wq_region (wl_v (blkV (fun _ => 0)) rfl rfl (y_load_blk blkT_arr rfl s93 B85 rr) (wl_mv rfl rfl rfl s92 (wl_store_blk blkT_arr rfl rfl rfl s90 rfl B84 fun w97 B98 k99 => ?_)))))))))
  have K102 := K74.trans k99 (Grew.ok (S := fun _ => False) gr15 noB_le)
  refine wl_v (iv (ern q)) rfl rfl (y_asg rfl rfl rr) (wl_nil fun F103 hF104 => ?_)
  obtain ⟨s105, s106⟩ := t2 hF104 4 s90 34 s94
  have s107 : F103 5 = iv (ern q) := (hF104 5).trans rfl
  clear hF104
  refine then_normal (wq_ret ?_)
  exact end_2 s106 rfl (res_blk blkT_arr rfl s105 B98) (res_tmp (v := iv (ern q)) rfl s107) ⟨(by unfold upB; rw [each_no he]), K102⟩
 ·skip
  refine wq_region (wl_mv rfl rfl rfl s82 (wl_v (.bool false) rfl rfl (y_lss rfl rfl rfl (decide_eq_false d86) rr) (wl_v (.bool false) rfl rfl (y_mov rfl rfl rr) (wl_unless 2 true 18 rfl rfl rfl (Or.inl rfl) rfl (wl_unless 2 true 18 rfl rfl rfl (Or.inl rfl) rfl (wl_v (.bool false) rfl rfl (y_pickF rfl rfl rfl rr) (wl_nil fun F108 hF109 => ?_)))))))
  obtain ⟨s111, s113, s114, s115⟩ := t4 hF109 4 s77 7 s79 8 s80 34 s81
  have s117 : F108 21 = .bool false := (hF109 21).trans rfl
  clear hF109
  refine then_normal ?_
  refine wq_cond (t := false) s117 (fun e => by cases e) (fun _ => ?_)
  refine wq_exit (then_exit (then_exit (in_here (then_normal (wq_seq (wq_region (wl_v (blkV (fun _ => 0)) rfl rfl (y_load_blk blkT_arr rfl s114 B85 rr) (wl_mv rfl rfl rfl s113 (wl_store_blk blkT_arr rfl rfl rfl s111 rfl B84 fun w118 B119 k120 => ?_)))))))))
  have K123 := K74.trans k120 (Grew.ok (S := fun _ => False) gr15 noB_le)
  refine wl_v (iv (ern q)) rfl rfl (y_asg rfl rfl rr) (wl_nil fun F124 hF125 => ?_)
  obtain ⟨s126, s127⟩ := t2 hF125 4 s111 34 s115
  have s128 : F124 5 = iv (ern q) := (hF125 5).trans rfl
  clear hF125
  refine then_normal (wq_ret ?_)
  exact end_2 s127 rfl (res_blk blkT_arr rfl s126 B119) (res_tmp (v := iv (ern q)) rfl s128) ⟨(by unfold upB; rw [each_no he]), K123⟩
theorem qref_up (b : Nat → Int) (q : Int) (w0 : World) : Calls Tryz.prog 83 #[blkV b, .int .i64 q] w0 fun e w' => e = .returned (.tuple #[blkV (upB b q), .int .i64 (ern q)]) ∧ Kept (fun _ => False) w0 w' := by
  by_cases h : ern q = 0
  · exact qref_up_ok b q w0 h
  · exact qref_up_no b q w0 h
end Go.Proofs.YtknjpdcpmpfklaaGreatDoor
set_option maxRecDepth 100000
namespace Go.Proofs.YtknjpdcpmpfklaaGreatDoor
open Go.RowKit
def qk (c : Nat → Int) (u v i : Nat) : Nat → Int
  | 0 => 0
  | k + 1 => qk c u v i k + c (4 * i + k) * wv u i * wv v k
def qs (c : Nat → Int) (u v : Nat) : Nat → Int
  | 0 => 0
  | i + 1 => qs c u v i + qk c u v i 4
theorem q_term (c : Nat → Int) (M : Int) (h : ∀ i, i < 16 → -M ≤ c i ∧ c i ≤ M) (u v i k : Nat) (hi : i < 4) (hk : k < 4) : -M ≤ c (4 * i + k) * wv u i * wv v k ∧ c (4 * i + k) * wv u i * wv v k ≤ M := by
  have h1 := h (4 * i + k) (by omega)
  have h2 := wv_mul _ M u i h1.1 h1.2
  exact wv_mul _ M v k h2.1 h2.2
theorem qk_le (c : Nat → Int) (M : Int) (h : ∀ i, i < 16 → -M ≤ c i ∧ c i ≤ M) (u v i k : Nat) (hi : i < 4) (hk : k ≤ 4) : -(k * M) ≤ qk c u v i k ∧ qk c u v i k ≤ k * M := by
  induction k with
  | zero => simp [qk]
  | succ k ih =>
    have h1 := ih (by omega)
    have h2 := q_term c M h u v i k hi (by omega)
    have e : ((k + 1 : Nat) : Int) * M = (k : Int) * M + M := by rw [Int.natCast_add, Int.add_mul]; simp
    rw [e]; unfold qk; omega
theorem qs_le (c : Nat → Int) (M : Int) (h : ∀ i, i < 16 → -M ≤ c i ∧ c i ≤ M) (u v i : Nat) (hi : i ≤ 4) : -(i * (4 * M)) ≤ qs c u v i ∧ qs c u v i ≤ i * (4 * M) := by
  induction i with
  | zero => simp [qs]
  | succ i ih =>
    have h1 := ih (by omega)
    have h2 := qk_le c M h u v i 4 (by omega) (by omega)
    have e : ((i + 1 : Nat) : Int) * (4 * M) = (i : Int) * (4 * M) + 4 * M := by rw [Int.natCast_add, Int.add_mul]; simp
    rw [e]; unfold qs; simp at h2; omega
theorem qs_fwd (c : Nat → Int) (u v : Nat) (hv : v < 4) : qs c u v 4 = fwd c (4 * u + v) := by
  have e1 : (4 * u + v) % 4 = v := by omega
  have e2 : (4 * u + v) / 4 = u := by omega
  have f0 : (4 * v) % 4 = 0 := by omega
  have f1 : (4 * v + 1) % 4 = 1 := by omega
  have f2 : (4 * v + 2) % 4 = 2 := by omega
  have f3 : (4 * v + 3) % 4 = 3 := by omega
  have g0 : (4 * v) / 4 = v := by omega
  have g1 : (4 * v + 1) / 4 = v := by omega
  have g2 : (4 * v + 2) / 4 = v := by omega
  have g3 : (4 * v + 3) / 4 = v := by omega
  simp only [qs, qk, fwd, turn, e1, e2, f0, f1, f2, f3, g0, g1, g2, g3, Nat.add_zero, Int.add_mul, Int.zero_add, Nat.mul_zero, Nat.zero_add, Nat.reduceMul, Nat.reduceAdd]
  simp only [Int.mul_assoc, Int.mul_comm (wv u _) (wv v _)]
def fwdP (c : Nat → Int) (n : Nat) : Nat → Int := upto n (fun _ => 0) (fwd c)
theorem ref_clamp (n : Int) (w0 : World) :
  Calls Tryz.prog 122 #[.int .i64 (n)] w0 fun e w' => e = .returned (.int .i64 (cl 1048576 n)) ∧ Kept (fun _ => False) w0 w' := by
 refine calls_wq (args := [iv n]) 6 Tryz.func122 rfl rfl (Nat.le_of_ble_eq_true rfl) ?_
 have K0 := Kept.refl (fun _ => False) w0
 refine wq_seq (wq_region (wl_v (iv 0) rfl rfl (y_asg rfl rfl rr) (wl_nil fun F1 hF2 => ?_)))
 have s3 : F1 0 = iv n := (hF2 0).trans rfl
 have s4 : F1 6 = undef := (hF2 6).trans rfl
 clear hF2
 refine then_normal (wq_seq (wq_region (wl_mv rfl rfl rfl s3 (wl_v (iv (max n (-1048576))) rfl rfl (y_maxR rfl rfl rfl rfl rr) (wl_v (iv (cl 1048576 n)) rfl rfl (y_minR rfl rfl rfl (by unfold cl; omega) rr) (wl_v (iv (cl 1048576 n)) rfl rfl (y_asg rfl rfl rr) (wl_nil fun F5 hF6 => ?_)))))))
 have s7 := (hF6 6).trans s4
 have s8 : F5 2 = iv (cl 1048576 n) := (hF6 2).trans rfl
 clear hF6
 refine then_normal (wq_ret ?_)
 exact end_tmp (v := iv (cl 1048576 n)) s7 rfl rfl s8 ⟨rfl, K0⟩
theorem ref_sign (u i : Nat) (w0 : World) (hu : u < 4) (hi : i < 4) :
  Calls Tryz.prog 150 #[.int .i64 (((u : Nat) : Int)), .int .i64 (((i : Nat) : Int))] w0 fun e w' => e = .returned (.int .i64 (wv u i)) ∧ Kept (fun _ => False) w0 w' := by
 refine calls_wq (args := [iv ((u : Nat) : Int), iv ((i : Nat) : Int)]) 13 Tryz.func150 rfl rfl (Nat.le_of_ble_eq_true rfl) ?_
 have K0 := Kept.refl (fun _ => False) w0
 refine wq_seq (wq_region (wl_v (iv 0) rfl rfl (y_asg rfl rfl rr) (wl_nil fun F1 hF2 => ?_)))
 have s3 : F1 0 = iv ((u : Nat) : Int) := (hF2 0).trans rfl
 have s4 : F1 1 = iv ((i : Nat) : Int) := (hF2 1).trans rfl
 have s5 : F1 13 = undef := (hF2 13).trans rfl
 clear hF2
 refine then_normal (wq_seq (wq_region (wl_v (blkV (blL [1, 1, 1, 1, 1, 1, -1, -1, 1, -1, -1, 1, 1, -1, 1, -1])) rfl rfl (y_buildR (cells := (arrL 16 (blL [1, 1, 1, 1, 1, 1, -1, -1, 1, -1, -1, 1, 1, -1, 1, -1])).toArray) rfl (by kernel_rfl) rfl rr) (wl_alloc_blk rfl rfl rfl blkT_arr.2.2 fun p6 w7 e10 B8 k9 => ?_))))
 have g11 := onB_new (Nat.le_of_eq e10.symm)
 have gr12 : Grew w0 noB (onB p6) := Grew.new K0 g11
 clear e10 g11
 have K13 := K0.tr k9
 refine wl_store_blk blkT_arr rfl rfl rfl rfl rfl B8 fun w14 B15 k16 => ?_
 have K17 := K13.trans k16 (Grew.ok (S := fun _ => False) gr12 noB_le)
 refine wl_nil fun F18 hF19 => ?_
 obtain ⟨s20, s21, s22⟩ := t3 hF19 0 s3 1 s4 13 s5
 have s23 : F18 5 = pt p6 0 := (hF19 5).trans rfl
 clear hF19
 refine then_normal (wq_seq (wq_region (wl_mv rfl rfl rfl s20 (wl_v (iv ((4 * u : Nat) : Int)) rfl rfl (y_mul rfl rfl rfl (i64_n (by omega) (by omega)) rr) (wl_mv rfl rfl rfl s21 (wl_v (iv (((4 * u) + i : Nat) : Int)) rfl rfl (y_add rfl rfl rfl (i64_n (by omega) (by omega)) rr) (wl_v (.pointer (some ⟨p6, (4 * u) + i, none⟩)) rfl rfl (y_atR ((4 * u) + i) (s := 1) rfl s23 rfl (by omega) Tryz.underlying68 (by omega) (by kernel_rfl) (by omega) rr) (wl_v (iv (wv u i)) rfl rfl (y_ldR rfl rfl Tryz.underlying3 ((B15.cell (by omega)).trans rfl) rr) (wl_v (iv (wv u i)) rfl rfl (y_asg rfl rfl rr) (wl_nil fun F24 hF25 => ?_))))))))))
 have s26 := (hF25 13).trans s22
 have s27 : F24 4 = iv (wv u i) := (hF25 4).trans rfl
 clear hF25
 refine then_normal (wq_ret ?_)
 exact end_tmp (v := iv (wv u i)) s26 rfl rfl s27 ⟨rfl, K17⟩
theorem ref_forward (b : Nat → Int) (w0 : World) :
  Calls Tryz.prog 123 #[blkV (b)] w0 fun e w' => e = .returned (blkV (fwd (clB 1048576 b))) ∧ Kept (fun _ => False) w0 w' := by
 refine calls_wq (args := [blkV b]) 50 Tryz.func123 rfl rfl (Nat.le_of_ble_eq_true rfl) ?_
 have K0 := Kept.refl (fun _ => False) w0
 refine wq_seq (wq_region (wl_box_blk rfl rfl rfl rfl fun p1 w2 e5 B3 k4 => ?_))
 have g6 := onB_new (Nat.le_of_eq e5.symm)
 clear e5 g6
 have K8 := K0.tr k4
 refine wl_alloc_blk rfl rfl rfl blkT_arr.2.2 fun p9 w10 e13 B11 k12 => ?_
 have g14 := onB_new (Nat.le_of_eq e13.symm)
 have gr15 : Grew w0 noB (onB p9) := Grew.new K8 g14
 clear e13 g14
 have B17 := B3.all k12 id
 have K18 := K8.tr k12
 refine wl_nil fun F19 hF20 => ?_
 have s21 : F19 50 = undef := (hF20 50).trans rfl
 have s22 : F19 1 = pt p1 0 := (hF20 1).trans rfl
 have s23 : F19 2 = pt p9 0 := (hF20 2).trans rfl
 clear hF20
 refine then_normal (wq_seq (wq_region (wl_v (blkV (fun _ => 0)) rfl rfl (y_buildR (cells := (arrL 16 (fun _ => 0)).toArray) rfl (by kernel_rfl) rfl rr) (wl_alloc_blk rfl rfl rfl blkT_arr.2.2 fun p24 w25 e28 B26 k27 => ?_))))
 have g29 := onB_new (Nat.le_of_eq e28.symm)
 have gr30 : Grew w0 noB (onB p24) := Grew.new K18 g29
 have ap31 : Apart (onB p24) (onB p1) := Apart.new g29 (onB_live B17.lt)
 have ap32 : Apart (onB p24) (onB p9) := Apart.new g29 (onB_live B11.lt)
 clear e28 g29
 have B33 := B17.all k27 id
 have B34 := B11.all k27 id
 have K35 := K18.tr k27
 refine wl_store_blk blkT_arr rfl rfl rfl rfl rfl B26 fun w36 B37 k38 => ?_
 have B39 := B33.all k38 (ap31.symm p1 rfl)
 have B40 := B34.all k38 (ap32.symm p9 rfl)
 have K41 := K35.trans k38 (Grew.ok (S := fun _ => False) gr30 noB_le)
 refine wl_nil fun F42 hF43 => ?_
 obtain ⟨s44, s45, s46⟩ := t3 hF43 50 s21 1 s22 2 s23
 have s47 : F42 3 = pt p24 0 := (hF43 3).trans rfl
 clear hF43
 refine then_normal (wq_seq (wq_seq (wq_region (wl_v (iv 0) rfl rfl (y_asg rfl rfl rr) (wl_nil fun F48 hF49 => ?_)))))
 obtain ⟨s50, s51, s52, s53⟩ := t4 hF49 50 s44 1 s45 2 s46 3 s47
 have s54 : F48 4 = iv 0 := (hF49 4).trans rfl
 clear hF49
 refine then_normal (wq_block (wq_loop (fun nn FF ww => ∃ (u : Nat), (u ≤ 4) ∧ nn = 4 - u ∧ FF 1 = pt p1 0 ∧ FF 2 = pt p9 0 ∧ FF 3 = pt p24 0 ∧ FF 50 = undef ∧ FF 4 = iv ((u : Nat) : Int) ∧ Kept (fun _ => False) w0 ww ∧ Blk ww p1 68 b ∧ Blk ww p9 68 (fun _ => 0) ∧ Blk ww p24 68 (fwdP (clB 1048576 b) (4 * u))) (4 - 0) ⟨0, by omega, rfl, s51, s52, s53, s50, s54, K41, B39, B40, B37.first⟩ ?_))
 rintro n58 F55 w56 ⟨u, i59, hn58, s60, s61, s62, s63, s64, K57, B65, B66, B67⟩
 refine wq_seq (wq_seq (wq_region (wl_mv rfl rfl rfl s64 (wl_v (.bool (decide (((u : Nat) : Int) < 4))) rfl rfl (y_lss rfl rfl rfl rfl rr) (wl_nil fun F68 hF69 => ?_)))))
 obtain ⟨s70, s71, s72, s73, s74⟩ := t5 hF69 1 s60 2 s61 3 s62 50 s63 4 s64
 have s75 : F68 11 = .bool (decide (((u : Nat) : Int) < 4)) := (hF69 11).trans rfl
 clear hF69
 refine then_normal ?_
 refine wq_cond s75 (fun c76 => ?_) (fun c76 => ?_)
 ·replace c76 := of_decide_eq_true c76
  refine wq_skip (then_normal (wq_seq (wq_block (wq_seq (wq_region (wl_v (iv 0) rfl rfl (y_asg rfl rfl rr) (wl_nil fun F77 hF78 => ?_)))))))
  obtain ⟨s79, s80, s81, s82, s83⟩ := t5 hF78 1 s70 2 s71 3 s72 50 s73 4 s74
  have s84 : F77 5 = iv 0 := (hF78 5).trans rfl
  clear hF78
  refine then_normal (wq_block (wq_loop (fun nn FF ww => ∃ (v : Nat), (v ≤ 4) ∧ nn = 4 - v ∧ FF 1 = pt p1 0 ∧ FF 2 = pt p9 0 ∧ FF 3 = pt p24 0 ∧ FF 4 = iv ((u : Nat) : Int) ∧ FF 50 = undef ∧ FF 5 = iv ((v : Nat) : Int) ∧ Kept (fun _ => False) w0 ww ∧ Blk ww p1 68 b ∧ Blk ww p9 68 (fun _ => 0) ∧ Blk ww p24 68 (fwdP (clB 1048576 b) (4 * u + v))) (4 - 0) ⟨0, by omega, rfl, s79, s80, s81, s83, s82, s84, K57, B65, B66, B67⟩ ?_))
  rintro n88 F85 w86 ⟨v, i89, hn88, s90, s91, s92, s93, s94, s95, K87, B96, B97, B98⟩
  refine wq_seq (wq_seq (wq_region (wl_mv rfl rfl rfl s95 (wl_v (.bool (decide (((v : Nat) : Int) < 4))) rfl rfl (y_lss rfl rfl rfl rfl rr) (wl_nil fun F99 hF100 => ?_)))))
  obtain ⟨s101, s102, s103, s104, s105, s106⟩ := t6 hF100 1 s90 2 s91 3 s92 4 s93 50 s94 5 s95
  have s107 : F99 15 = .bool (decide (((v : Nat) : Int) < 4)) := (hF100 15).trans rfl
  clear hF100
  refine then_normal ?_
  refine wq_cond s107 (fun c108 => ?_) (fun c108 => ?_)
  ·replace c108 := of_decide_eq_true c108
   refine wq_skip (then_normal (wq_seq (wq_block (wq_seq (wq_region (wl_v (iv 0) rfl rfl (y_asg rfl rfl rr) (wl_nil fun F109 hF110 => ?_)))))))
   obtain ⟨s111, s112, s113, s114, s115, s116⟩ := t6 hF110 1 s101 2 s102 3 s103 4 s104 50 s105 5 s106
   have s117 : F109 6 = iv 0 := (hF110 6).trans rfl
   clear hF110
   refine then_normal (wq_seq (wq_seq (wq_region (wl_v (iv 0) rfl rfl (y_asg rfl rfl rr) (wl_nil fun F118 hF119 => ?_)))))
   obtain ⟨s120, s121, s122, s123, s124, s125, s126⟩ := t7 hF119 1 s111 2 s112 3 s113 4 s114 50 s115 5 s116 6 s117
   have s127 : F118 7 = iv 0 := (hF119 7).trans rfl
   clear hF119
   refine then_normal (wq_block (wq_loop (fun nn FF ww => ∃ (i : Nat), (i ≤ 4) ∧ nn = 4 - i ∧ FF 1 = pt p1 0 ∧ FF 2 = pt p9 0 ∧ FF 3 = pt p24 0 ∧ FF 4 = iv ((u : Nat) : Int) ∧ FF 5 = iv ((v : Nat) : Int) ∧ FF 50 = undef ∧ FF 6 = iv (qs (clB 1048576 b) u v i) ∧ FF 7 = iv ((i : Nat) : Int) ∧ Kept (fun _ => False) w0 ww ∧ Blk ww p1 68 b ∧ Blk ww p9 68 (fun _ => 0) ∧ Blk ww p24 68 (fwdP (clB 1048576 b) (4 * u + v))) (4 - 0) ⟨0, by omega, rfl, s120, s121, s122, s123, s125, s124, s126, s127, K87, B96, B97, B98⟩ ?_))
   rintro n131 F128 w129 ⟨i, i132, hn131, s133, s134, s135, s136, s137, s138, s139, s140, K130, B141, B142, B143⟩
   refine wq_seq (wq_seq (wq_region (wl_mv rfl rfl rfl s140 (wl_v (.bool (decide (((i : Nat) : Int) < 4))) rfl rfl (y_lss rfl rfl rfl rfl rr) (wl_nil fun F144 hF145 => ?_)))))
   obtain ⟨s146, s147, s148, s149, s150, s151, s152, s153⟩ := t8 hF145 1 s133 2 s134 3 s135 4 s136 5 s137 50 s138 6 s139 7 s140
   have s154 : F144 19 = .bool (decide (((i : Nat) : Int) < 4)) := (hF145 19).trans rfl
   clear hF145
   refine then_normal ?_
   refine wq_cond s154 (fun c155 => ?_) (fun c155 => ?_)
   ·replace c155 := of_decide_eq_true c155
    refine wq_skip (then_normal (wq_seq (wq_block (wq_seq (wq_region (wl_v (iv 0) rfl rfl (y_asg rfl rfl rr) (wl_nil fun F156 hF157 => ?_)))))))
    obtain ⟨s158, s159, s160, s161, s162, s163, s164, s165⟩ := t8 hF157 1 s146 2 s147 3 s148 4 s149 5 s150 50 s151 6 s152 7 s153
    have s166 : F156 8 = iv 0 := (hF157 8).trans rfl
    clear hF157
    refine then_normal (wq_block (wq_loop (fun nn FF ww => ∃ (k : Nat), (k ≤ 4) ∧ nn = 4 - k ∧ FF 1 = pt p1 0 ∧ FF 2 = pt p9 0 ∧ FF 3 = pt p24 0 ∧ FF 4 = iv ((u : Nat) : Int) ∧ FF 5 = iv ((v : Nat) : Int) ∧ FF 7 = iv ((i : Nat) : Int) ∧ FF 50 = undef ∧ FF 6 = iv (qs (clB 1048576 b) u v i + qk (clB 1048576 b) u v i k) ∧ FF 8 = iv ((k : Nat) : Int) ∧ Kept (fun _ => False) w0 ww ∧ Blk ww p1 68 b ∧ Blk ww p9 68 (fun _ => 0) ∧ Blk ww p24 68 (fwdP (clB 1048576 b) (4 * u + v))) (4 - 0) ⟨0, by omega, rfl, s158, s159, s160, s161, s162, s165, s163, (by rw [show qs (clB 1048576 b) u v i + qk (clB 1048576 b) u v i 0 = qs (clB 1048576 b) u v i from Int.add_zero _]; exact s164), s166, K130, B141, B142, B143⟩ ?_))
    rintro n170 F167 w168 ⟨k, i171, hn170, s172, s173, s174, s175, s176, s177, s178, s179, s180, K169, B181, B182, B183⟩
    refine wq_seq (wq_seq (wq_region (wl_mv rfl rfl rfl s180 (wl_v (.bool (decide (((k : Nat) : Int) < 4))) rfl rfl (y_lss rfl rfl rfl rfl rr) (wl_nil fun F184 hF185 => ?_)))))
    obtain ⟨s186, s187, s188, s189, s190, s191, s192, s193, s194⟩ := t9 hF185 1 s172 2 s173 3 s174 4 s175 5 s176 7 s177 50 s178 6 s179 8 s180
    have s195 : F184 23 = .bool (decide (((k : Nat) : Int) < 4)) := (hF185 23).trans rfl
    clear hF185
    refine then_normal ?_
    refine wq_cond s195 (fun c196 => ?_) (fun c196 => ?_)
    ·replace c196 := of_decide_eq_true c196
     refine wq_skip (then_normal (wq_seq (wq_block ?_)))
     have h1 := qs_le (clB 1048576 b) 1048576 (fun i _ => clB_le b i) u v i (by omega)
     have h2 := qk_le (clB 1048576 b) 1048576 (fun i _ => clB_le b i) u v i k (by omega) (by omega)
     have h3 := q_term (clB 1048576 b) 1048576 (fun i _ => clB_le b i) u v i k (by omega) (by omega)
     have h5 := wv_mul _ 1048576 u i (clB_le b (4 * i + k)).1 (clB_le b (4 * i + k)).2
     refine wq_region (wl_mv rfl rfl rfl s193 (wl_mv rfl rfl rfl s191 (wl_v (iv ((4 * i : Nat) : Int)) rfl rfl (y_mul rfl rfl rfl (i64_n (by omega) (by omega)) rr) (wl_mv rfl rfl rfl s194 (wl_v (iv (((4 * i) + k : Nat) : Int)) rfl rfl (y_add rfl rfl rfl (i64_n (by omega) (by omega)) rr) (wl_v (.pointer (some ⟨p1, (4 * i) + k, none⟩)) rfl rfl (y_atR ((4 * i) + k) (s := 1) rfl s186 rfl (by omega) Tryz.underlying68 (by omega) (by kernel_rfl) (by omega) rr) (wl_v (iv (b ((4 * i) + k))) rfl rfl (y_ldR rfl rfl Tryz.underlying3 (B181.cell (by omega)) rr) (wl_call (R := fun v_ w_ => v_ = iv (clB 1048576 b (4 * i + k)) ∧ Kept (fun _ => False) w168 w_) rfl rfl (y_cs rfl rfl rfl (fun _ _ => by kernel_rfl) (ev_func _) (vsC rfl vsN) (ref_clamp (b ((4 * i) + k))  _   ) (fun e_ w_ h_ => ⟨_, h_.1, rfl, h_.2⟩)) ?_))))))))
     rintro _ w197 ⟨rfl, k198⟩
     have B199 := B181.all k198 id
     have B200 := B182.all k198 id
     have B201 := B183.all k198 id
     have K202 := K169.tr k198
     refine wl_mv rfl rfl rfl s189 (wl_mv rfl rfl rfl s191 (wl_cs rfl rfl rfl rfl rfl (fun _ _ => by kernel_rfl) (vsC rfl (vsC rfl vsN)) (ref_sign u i  _ (by omega) (by omega)  ) fun w203 k204 => ?_))
     have B205 := B199.all k204 id
     have B206 := B200.all k204 id
     have B207 := B201.all k204 id
     have K208 := K202.tr k204
     refine wl_v (iv ((clB 1048576 b (4 * i + k)) * (wv u i))) rfl rfl (y_mul rfl rfl rfl (i64_i rfl (by omega)) rr) (wl_mv rfl rfl rfl s190 (wl_mv rfl rfl rfl s194 (wl_cs rfl rfl rfl rfl rfl (fun _ _ => by kernel_rfl) (vsC rfl (vsC rfl vsN)) (ref_sign v k  _ (by omega) (by omega)  ) fun w209 k210 => ?_)))
     have B211 := B205.all k210 id
     have B212 := B206.all k210 id
     have B213 := B207.all k210 id
     have K214 := K208.tr k210
     refine wl_v (iv (((clB 1048576 b (4 * i + k)) * (wv u i)) * (wv v k))) rfl rfl (y_mul rfl rfl rfl (i64_i rfl (by omega)) rr) (wl_v (iv (qs (clB 1048576 b) u v i + qk (clB 1048576 b) u v i (k + 1))) rfl rfl (y_add rfl rfl rfl (i64_i (Int.add_assoc _ _ _) (by have e : qk (clB 1048576 b) u v i (k + 1) = qk (clB 1048576 b) u v i k + clB 1048576 b (4 * i + k) * wv u i * wv v k := rfl; omega)) rr) (wl_v (iv (qs (clB 1048576 b) u v i + qk (clB 1048576 b) u v i (k + 1))) rfl rfl (y_asg rfl rfl rr) (wl_nil fun F215 hF216 => ?_)))
     obtain ⟨s217, s218, s219, s220, s221, s222, s223, s224⟩ := t8 hF216 1 s186 2 s187 3 s188 4 s189 5 s190 7 s191 50 s192 8 s194
     have s225 : F215 6 = iv (qs (clB 1048576 b) u v i + qk (clB 1048576 b) u v i (k + 1)) := (hF216 6).trans rfl
     clear hF216
     refine in_normal (then_normal (wq_region (wl_mv rfl rfl rfl s224 (wl_v (iv ((k + 1 : Nat) : Int)) rfl rfl (y_add rfl rfl rfl (i64_n (by omega) (by omega)) rr) (wl_v (iv ((k + 1 : Nat) : Int)) rfl rfl (y_asg rfl rfl rr) (wl_nil fun F226 hF227 => ?_))))))
     obtain ⟨s228, s229, s230, s231, s232, s233, s234, s235⟩ := t8 hF227 1 s217 2 s218 3 s219 4 s220 5 s221 7 s222 50 s223 6 s225
     have s236 : F226 8 = iv ((k + 1 : Nat) : Int) := (hF227 8).trans rfl
     clear hF227
     exact then_normal ⟨(4 - (k + 1)), by omega, k + 1, by omega, rfl, s228, s229, s230, s231, s232, s233, s234, s235, s236, K214, B211, B212, B213⟩
    ·replace c196 := of_decide_eq_false c196
     refine wq_exit (then_exit (then_exit ?_))
     have l237 : 4 = k := by omega
     subst l237
     refine in_here (in_normal (then_normal (wq_region (wl_mv rfl rfl rfl s191 (wl_v (iv ((i + 1 : Nat) : Int)) rfl rfl (y_add rfl rfl rfl (i64_n (by omega) (by omega)) rr) (wl_v (iv ((i + 1 : Nat) : Int)) rfl rfl (y_asg rfl rfl rr) (wl_nil fun F238 hF239 => ?_)))))))
     obtain ⟨s240, s241, s242, s243, s244, s245, s246⟩ := t7 hF239 1 s186 2 s187 3 s188 4 s189 5 s190 50 s192 6 s193
     have s247 : F238 7 = iv ((i + 1 : Nat) : Int) := (hF239 7).trans rfl
     clear hF239
     exact then_normal ⟨(4 - (i + 1)), by omega, i + 1, by omega, rfl, s240, s241, s242, s243, s244, s245, s246, s247, K169, B181, B182, B183⟩
   ·replace c155 := of_decide_eq_false c155
    refine wq_exit (then_exit (then_exit ?_))
    have l248 : 4 = i := by omega
    subst l248
    refine in_here (then_normal (wq_region (wl_mv rfl rfl rfl s149 (wl_v (iv ((4 * u : Nat) : Int)) rfl rfl (y_mul rfl rfl rfl (i64_n (by omega) (by omega)) rr) (wl_mv rfl rfl rfl s150 (wl_v (iv (((4 * u) + v : Nat) : Int)) rfl rfl (y_add rfl rfl rfl (i64_n (by omega) (by omega)) rr) (wl_mv rfl rfl rfl s152 (wl_v (.pointer (some ⟨p24, (4 * u) + v, none⟩)) rfl rfl (y_atR ((4 * u) + v) (s := 1) rfl s148 rfl (by omega) Tryz.underlying68 (by omega) (by kernel_rfl) (by omega) rr) (wl_set_blk rfl rfl rfl rfl rfl B143 (by omega) (by kernel_rfl) fun w249 B250 k251 => ?_)))))))))
    have B252 := B141.all k251 (ap31.symm p1 rfl)
    have B253 := B142.all k251 (ap32.symm p9 rfl)
    have K254 := K130.trans k251 (Grew.ok (S := fun _ => False) gr30 noB_le)
    refine wl_nil fun F255 hF256 => ?_
    obtain ⟨s257, s258, s259, s260, s261, s262⟩ := t6 hF256 1 s146 2 s147 3 s148 4 s149 5 s150 50 s151
    clear hF256
    refine in_normal (then_normal (wq_region (wl_mv rfl rfl rfl s261 (wl_v (iv ((v + 1 : Nat) : Int)) rfl rfl (y_add rfl rfl rfl (i64_n (by omega) (by omega)) rr) (wl_v (iv ((v + 1 : Nat) : Int)) rfl rfl (y_asg rfl rfl rr) (wl_nil fun F263 hF264 => ?_))))))
    obtain ⟨s265, s266, s267, s268, s269⟩ := t5 hF264 1 s257 2 s258 3 s259 4 s260 50 s262
    have s270 : F263 5 = iv ((v + 1 : Nat) : Int) := (hF264 5).trans rfl
    clear hF264
    exact then_normal ⟨(4 - (v + 1)), by omega, v + 1, by omega, rfl, s265, s266, s267, s268, s269, s270, K254, B252, B253, (B250.next (qs_fwd _ u v (by omega)))⟩
  ·replace c108 := of_decide_eq_false c108
   refine wq_exit (then_exit (then_exit ?_))
   have l271 : 4 = v := by omega
   subst l271
   refine in_here (in_normal (then_normal (wq_region (wl_mv rfl rfl rfl s104 (wl_v (iv ((u + 1 : Nat) : Int)) rfl rfl (y_add rfl rfl rfl (i64_n (by omega) (by omega)) rr) (wl_v (iv ((u + 1 : Nat) : Int)) rfl rfl (y_asg rfl rfl rr) (wl_nil fun F272 hF273 => ?_)))))))
   obtain ⟨s274, s275, s276, s277⟩ := t4 hF273 1 s101 2 s102 3 s103 50 s105
   have s278 : F272 4 = iv ((u + 1 : Nat) : Int) := (hF273 4).trans rfl
   clear hF273
   exact then_normal ⟨(4 - (u + 1)), by omega, u + 1, by omega, rfl, s274, s275, s276, s277, s278, K87, B96, B97, B98⟩
 ·replace c76 := of_decide_eq_false c76
  refine wq_exit (then_exit (then_exit ?_))
  have l279 : 4 = u := by omega
  subst l279
  have B280 : Blk w56 p24 68 (fwd (clB 1048576 b)) := (B67.last)
  refine in_here (then_normal (wq_seq (wq_region (wl_v (blkV (fwd (clB 1048576 b))) rfl rfl (y_load_blk blkT_arr rfl s72 B280 rr) (wl_store_blk blkT_arr rfl rfl rfl s71 rfl B66 fun w281 B282 k283 => ?_)))))
  have K286 := K57.trans k283 (Grew.ok (S := fun _ => False) gr15 noB_le)
  refine wl_nil fun F287 hF288 => ?_
  obtain ⟨s289, s290⟩ := t2 hF288 2 s71 50 s73
  clear hF288
  refine then_normal (wq_ret ?_)
  exact end_blk blkT_arr s290 rfl rfl s289 B282 ⟨rfl, K286⟩
theorem tdiv_rnd (n : Int) : (n < Int.tdiv n 16 * 16 → Int.tdiv n 16 - 1 = n / 16) ∧ (¬ n < Int.tdiv n 16 * 16 → Int.tdiv n 16 = n / 16) := by
  rcases Int.le_total 0 n with h | h
  · have e := Int.tdiv_eq_ediv_of_nonneg (b := 16) h
    rw [e]; omega
  · have e : Int.tdiv n 16 = -((-n) / 16) := by
      have e1 := Int.neg_tdiv (a := -n) (b := 16)
      rw [Int.neg_neg] at e1
      rw [e1, Int.tdiv_eq_ediv_of_nonneg (by omega)]
    rw [e]; omega
theorem ref_back (b : Nat → Int) (w0 : World) :
  Calls Tryz.prog 85 #[blkV (b)] w0 fun e w' => e = .returned (blkV (backB b)) ∧ Kept (fun _ => False) w0 w' := by
 refine calls_wq (args := [blkV b]) 29 Tryz.func85 rfl rfl (Nat.le_of_ble_eq_true rfl) ?_
 have K0 := Kept.refl (fun _ => False) w0
 refine wq_seq (wq_region (wl_box_blk rfl rfl rfl rfl fun p1 w2 e5 B3 k4 => ?_))
 have g6 := onB_new (Nat.le_of_eq e5.symm)
 clear e5 g6
 have K8 := K0.tr k4
 refine wl_alloc_blk rfl rfl rfl blkT_arr.2.2 fun p9 w10 e13 B11 k12 => ?_
 have g14 := onB_new (Nat.le_of_eq e13.symm)
 have gr15 : Grew w0 noB (onB p9) := Grew.new K8 g14
 clear e13 g14
 have B17 := B3.all k12 id
 have K18 := K8.tr k12
 refine wl_nil fun F19 hF20 => ?_
 have s21 : F19 29 = undef := (hF20 29).trans rfl
 have s22 : F19 1 = pt p1 0 := (hF20 1).trans rfl
 have s23 : F19 2 = pt p9 0 := (hF20 2).trans rfl
 clear hF20
 refine then_normal (wq_seq (wq_region (wl_v (blkV b) rfl rfl (y_load_blk blkT_arr rfl s22 B17 rr) (wl_cs rfl rfl rfl rfl rfl (fun _ _ => by kernel_rfl) (vsC rfl vsN) (ref_forward b  _   ) fun w24 k25 => ?_))))
 have B26 := B17.all k25 id
 have B27 := B11.all k25 id
 have K28 := K18.tr k25
 refine wl_alloc_blk rfl rfl rfl blkT_arr.2.2 fun p29 w30 e33 B31 k32 => ?_
 have g34 := onB_new (Nat.le_of_eq e33.symm)
 have gr35 : Grew w0 noB (onB p29) := Grew.new K28 g34
 have ap36 : Apart (onB p29) (onB p1) := Apart.new g34 (onB_live B26.lt)
 have ap37 : Apart (onB p29) (onB p9) := Apart.new g34 (onB_live B27.lt)
 clear e33 g34
 have B38 := B26.all k32 id
 have B39 := B27.all k32 id
 have K40 := K28.tr k32
 refine wl_store_blk blkT_arr rfl rfl rfl rfl rfl B31 fun w41 B42 k43 => ?_
 have B44 := B38.all k43 (ap36.symm p1 rfl)
 have B45 := B39.all k43 (ap37.symm p9 rfl)
 have K46 := K40.trans k43 (Grew.ok (S := fun _ => False) gr35 noB_le)
 refine wl_nil fun F47 hF48 => ?_
 obtain ⟨s49, s50⟩ := t2 hF48 29 s21 2 s23
 have s51 : F47 3 = pt p29 0 := (hF48 3).trans rfl
 clear hF48
 refine then_normal (wq_seq (wq_seq (wq_region (wl_v (iv 0) rfl rfl (y_asg rfl rfl rr) (wl_nil fun F52 hF53 => ?_)))))
 obtain ⟨s54, s55, s56⟩ := t3 hF53 29 s49 2 s50 3 s51
 have s57 : F52 4 = iv 0 := (hF53 4).trans rfl
 clear hF53
 refine then_normal (wq_block (wq_loop (fun nn FF ww => ∃ (k : Nat), (k ≤ 16) ∧ nn = 16 - k ∧ FF 2 = pt p9 0 ∧ FF 3 = pt p29 0 ∧ FF 29 = undef ∧ FF 4 = iv ((k : Nat) : Int) ∧ Kept (fun _ => False) w0 ww ∧ Blk ww p1 68 b ∧ Blk ww p9 68 (fun _ => 0) ∧ Blk ww p29 68 (upto k (fwd (clB 1048576 b)) (backB b))) (16 - 0) ⟨0, by omega, rfl, s55, s56, s54, s57, K46, B44, B45, B42.first⟩ ?_))
 rintro n61 F58 w59 ⟨k, i62, hn61, s63, s64, s65, s66, K60, B67, B68, B69⟩
 refine wq_seq (wq_seq (wq_region (wl_mv rfl rfl rfl s66 (wl_v (.bool (decide (((k : Nat) : Int) < 16))) rfl rfl (y_lss rfl rfl rfl rfl rr) (wl_nil fun F70 hF71 => ?_)))))
 obtain ⟨s72, s73, s74, s75⟩ := t4 hF71 2 s63 3 s64 29 s65 4 s66
 have s76 : F70 10 = .bool (decide (((k : Nat) : Int) < 16)) := (hF71 10).trans rfl
 clear hF71
 refine then_normal ?_
 refine wq_cond s76 (fun c77 => ?_) (fun c77 => ?_)
 ·replace c77 := of_decide_eq_true c77
  refine wq_skip (then_normal (wq_seq (wq_block (wq_seq ?_))))
  have hf := fwd_le (clB 1048576 b) 1048576 (fun i _ => clB_le b i) k
  have ht := tdiv_rnd (fwd (clB 1048576 b) k + 8)
  have hr : rnd (fwd (clB 1048576 b) k) = (fwd (clB 1048576 b) k + 8) / 16 := rfl
  refine wq_region (wl_mv rfl rfl rfl s75 (wl_v (.pointer (some ⟨p29, k, none⟩)) rfl rfl (y_atR k (s := 1) rfl s73 rfl (by omega) Tryz.underlying68 (by omega) (by kernel_rfl) (by omega) rr) (wl_v (iv (fwd (clB 1048576 b) k)) rfl rfl (y_ldR rfl rfl Tryz.underlying3 ((B69.cell (by omega)).trans (some_int (upto_at k _ _))) rr) (wl_v (iv ((fwd (clB 1048576 b) k) + 8)) rfl rfl (y_add rfl rfl rfl (i64_i rfl (by omega)) rr) (wl_v (iv ((fwd (clB 1048576 b) k) + 8)) rfl rfl (y_asg rfl rfl rr) (wl_nil fun F78 hF79 => ?_))))))
  obtain ⟨s80, s81, s82, s83⟩ := t4 hF79 2 s72 3 s73 29 s74 4 s75
  have s84 : F78 5 = iv ((fwd (clB 1048576 b) k) + 8) := (hF79 5).trans rfl
  clear hF79
  refine then_normal (wq_seq ?_)
  have ht3 : -16777224 ≤ Int.tdiv (fwd (clB 1048576 b) k + 8) 16 ∧ Int.tdiv (fwd (clB 1048576 b) k + 8) 16 ≤ 16777224 := by rcases Int.lt_or_le (fwd (clB 1048576 b) k + 8) (Int.tdiv (fwd (clB 1048576 b) k + 8) 16 * 16) with h | h; have := ht.1 h; omega; have := ht.2 (by omega); omega
  refine wq_region (wl_mv rfl rfl rfl s84 (wl_v (iv (Int.tdiv ((fwd (clB 1048576 b) k) + 8) 16)) rfl rfl (y_quo rfl rfl rfl (by first | decide | omega) (i64_i rfl (by omega)) rr) (wl_v (iv (Int.tdiv ((fwd (clB 1048576 b) k) + 8) 16)) rfl rfl (y_asg rfl rfl rr) (wl_nil fun F85 hF86 => ?_))))
  obtain ⟨s87, s88, s89, s90, s91⟩ := t5 hF86 2 s80 3 s81 29 s82 4 s83 5 s84
  have s92 : F85 6 = iv (Int.tdiv ((fwd (clB 1048576 b) k) + 8) 16) := (hF86 6).trans rfl
  clear hF86
  refine then_normal (wq_seq (wq_seq (wq_region (wl_mv rfl rfl rfl s92 (wl_v (iv ((Int.tdiv ((fwd (clB 1048576 b) k) + 8) 16) * 16)) rfl rfl (y_mul rfl rfl rfl (i64_i rfl (by omega)) rr) (wl_mv rfl rfl rfl s91 (wl_v (.bool (decide (((fwd (clB 1048576 b) k) + 8) < ((Int.tdiv ((fwd (clB 1048576 b) k) + 8) 16) * 16)))) rfl rfl (y_gtr rfl rfl rfl rfl rr) (wl_nil fun F93 hF94 => ?_))))))))
  obtain ⟨s95, s96, s97, s98, s99⟩ := t5 hF94 2 s87 3 s88 29 s89 4 s90 6 s92
  have s100 : F93 22 = .bool (decide (((fwd (clB 1048576 b) k) + 8) < ((Int.tdiv ((fwd (clB 1048576 b) k) + 8) 16) * 16))) := (hF94 22).trans rfl
  clear hF94
  refine then_normal ?_
  refine wq_cond s100 (fun c101 => ?_) (fun c101 => ?_)
  ·replace c101 := of_decide_eq_true c101
   refine wq_region (wl_mv rfl rfl rfl s99 (wl_v (iv (rnd (fwd (clB 1048576 b) k))) rfl rfl (y_sub rfl rfl rfl (i64_i (by rw [ht.1 (by omega)]; rfl) (by omega)) rr) (wl_v (iv (rnd (fwd (clB 1048576 b) k))) rfl rfl (y_asg rfl rfl rr) (wl_nil fun F102 hF103 => ?_))))
   obtain ⟨s104, s105, s106, s107⟩ := t4 hF103 2 s95 3 s96 29 s97 4 s98
   have s108 : F102 6 = iv (rnd (fwd (clB 1048576 b) k)) := (hF103 6).trans rfl
   clear hF103
   refine then_normal (wq_region (wl_mv rfl rfl rfl s107 (wl_mv rfl rfl rfl s108 (wl_v (.pointer (some ⟨p29, k, none⟩)) rfl rfl (y_atR k (s := 1) rfl s105 rfl (by omega) Tryz.underlying68 (by omega) (by kernel_rfl) (by omega) rr) (wl_set_blk rfl rfl rfl rfl rfl B69 (by omega) (by kernel_rfl) fun w109 B110 k111 => ?_)))))
   have B112 := B67.all k111 (ap36.symm p1 rfl)
   have B113 := B68.all k111 (ap37.symm p9 rfl)
   have K114 := K60.trans k111 (Grew.ok (S := fun _ => False) gr35 noB_le)
   refine wl_nil fun F115 hF116 => ?_
   obtain ⟨s117, s118, s119, s120⟩ := t4 hF116 2 s104 3 s105 29 s106 4 s107
   clear hF116
   refine in_normal (then_normal (wq_region (wl_mv rfl rfl rfl s120 (wl_v (iv ((k + 1 : Nat) : Int)) rfl rfl (y_add rfl rfl rfl (i64_n (by omega) (by omega)) rr) (wl_v (iv ((k + 1 : Nat) : Int)) rfl rfl (y_asg rfl rfl rr) (wl_nil fun F121 hF122 => ?_))))))
   obtain ⟨s123, s124, s125⟩ := t3 hF122 2 s117 3 s118 29 s119
   have s126 : F121 4 = iv ((k + 1 : Nat) : Int) := (hF122 4).trans rfl
   clear hF122
   exact then_normal ⟨(16 - (k + 1)), by omega, k + 1, by omega, rfl, s123, s124, s125, s126, K114, B112, B113, (B110.next rfl)⟩
  ·replace c101 := of_decide_eq_false c101
   refine wq_skip (then_normal ?_)
   have s127 : F93 6 = iv (rnd (fwd (clB 1048576 b) k)) := s99.trans (congrArg (Value.int .i64) (ht.2 (by omega)))
   refine wq_region (wl_mv rfl rfl rfl s98 (wl_mv rfl rfl rfl s127 (wl_v (.pointer (some ⟨p29, k, none⟩)) rfl rfl (y_atR k (s := 1) rfl s96 rfl (by omega) Tryz.underlying68 (by omega) (by kernel_rfl) (by omega) rr) (wl_set_blk rfl rfl rfl rfl rfl B69 (by omega) (by kernel_rfl) fun w128 B129 k130 => ?_))))
   have B131 := B67.all k130 (ap36.symm p1 rfl)
   have B132 := B68.all k130 (ap37.symm p9 rfl)
   have K133 := K60.trans k130 (Grew.ok (S := fun _ => False) gr35 noB_le)
   refine wl_nil fun F134 hF135 => ?_
   obtain ⟨s136, s137, s138, s139⟩ := t4 hF135 2 s95 3 s96 29 s97 4 s98
   clear hF135
   refine in_normal (then_normal (wq_region (wl_mv rfl rfl rfl s139 (wl_v (iv ((k + 1 : Nat) : Int)) rfl rfl (y_add rfl rfl rfl (i64_n (by omega) (by omega)) rr) (wl_v (iv ((k + 1 : Nat) : Int)) rfl rfl (y_asg rfl rfl rr) (wl_nil fun F140 hF141 => ?_))))))
   obtain ⟨s142, s143, s144⟩ := t3 hF141 2 s136 3 s137 29 s138
   have s145 : F140 4 = iv ((k + 1 : Nat) : Int) := (hF141 4).trans rfl
   clear hF141
   exact then_normal ⟨(16 - (k + 1)), by omega, k + 1, by omega, rfl, s142, s143, s144, s145, K133, B131, B132, (B129.next rfl)⟩
 ·replace c77 := of_decide_eq_false c77
  refine wq_exit (then_exit (then_exit ?_))
  have l146 : 16 = k := by omega
  subst l146
  have B147 : Blk w59 p29 68 (backB b) := (B69.last)
  refine in_here (then_normal (wq_seq (wq_region (wl_v (blkV (backB b)) rfl rfl (y_load_blk blkT_arr rfl s73 B147 rr) (wl_store_blk blkT_arr rfl rfl rfl s72 rfl B68 fun w148 B149 k150 => ?_)))))
  have K153 := K60.trans k150 (Grew.ok (S := fun _ => False) gr15 noB_le)
  refine wl_nil fun F154 hF155 => ?_
  obtain ⟨s156, s157⟩ := t2 hF155 2 s72 29 s74
  clear hF155
  refine then_normal (wq_ret ?_)
  exact end_blk blkT_arr s157 rfl rfl s156 B149 ⟨rfl, K153⟩
theorem ref_more (a b : Nat → Int) (w0 : World) :
  Calls Tryz.prog 84 #[blkV (a), blkV (b)] w0 fun e w' => e = .returned (blkV (moreB a b)) ∧ Kept (fun _ => False) w0 w' := by
 refine calls_wq (args := [blkV a, blkV b]) 24 Tryz.func84 rfl rfl (Nat.le_of_ble_eq_true rfl) ?_
 have K0 := Kept.refl (fun _ => False) w0
 refine wq_seq (wq_region (wl_box_blk rfl rfl rfl rfl fun p1 w2 e5 B3 k4 => ?_))
 have g6 := onB_new (Nat.le_of_eq e5.symm)
 clear e5 g6
 have K8 := K0.tr k4
 refine wl_box_blk rfl rfl rfl rfl fun p9 w10 e13 B11 k12 => ?_
 have g14 := onB_new (Nat.le_of_eq e13.symm)
 clear e13 g14
 have B17 := B3.all k12 id
 have K18 := K8.tr k12
 refine wl_alloc_blk rfl rfl rfl blkT_arr.2.2 fun p19 w20 e23 B21 k22 => ?_
 have g24 := onB_new (Nat.le_of_eq e23.symm)
 have gr25 : Grew w0 noB (onB p19) := Grew.new K18 g24
 clear e23 g24
 have B28 := B17.all k22 id
 have B29 := B11.all k22 id
 have K30 := K18.tr k22
 refine wl_nil fun F31 hF32 => ?_
 have s33 : F31 24 = undef := (hF32 24).trans rfl
 have s34 : F31 2 = pt p1 0 := (hF32 2).trans rfl
 have s35 : F31 3 = pt p9 0 := (hF32 3).trans rfl
 have s36 : F31 4 = pt p19 0 := (hF32 4).trans rfl
 clear hF32
 refine then_normal (wq_seq (wq_region (wl_v (blkV (fun _ => 0)) rfl rfl (y_buildR (cells := (arrL 16 (fun _ => 0)).toArray) rfl (by kernel_rfl) rfl rr) (wl_alloc_blk rfl rfl rfl blkT_arr.2.2 fun p37 w38 e41 B39 k40 => ?_))))
 have g42 := onB_new (Nat.le_of_eq e41.symm)
 have gr43 : Grew w0 noB (onB p37) := Grew.new K30 g42
 have ap44 : Apart (onB p37) (onB p1) := Apart.new g42 (onB_live B28.lt)
 have ap45 : Apart (onB p37) (onB p9) := Apart.new g42 (onB_live B29.lt)
 have ap46 : Apart (onB p37) (onB p19) := Apart.new g42 (onB_live B21.lt)
 clear e41 g42
 have B47 := B28.all k40 id
 have B48 := B29.all k40 id
 have B49 := B21.all k40 id
 have K50 := K30.tr k40
 refine wl_store_blk blkT_arr rfl rfl rfl rfl rfl B39 fun w51 B52 k53 => ?_
 have B54 := B47.all k53 (ap44.symm p1 rfl)
 have B55 := B48.all k53 (ap45.symm p9 rfl)
 have B56 := B49.all k53 (ap46.symm p19 rfl)
 have K57 := K50.trans k53 (Grew.ok (S := fun _ => False) gr43 noB_le)
 refine wl_nil fun F58 hF59 => ?_
 obtain ⟨s60, s61, s62, s63⟩ := t4 hF59 24 s33 2 s34 3 s35 4 s36
 have s64 : F58 5 = pt p37 0 := (hF59 5).trans rfl
 clear hF59
 refine then_normal (wq_seq (wq_seq (wq_region (wl_v (iv 0) rfl rfl (y_asg rfl rfl rr) (wl_nil fun F65 hF66 => ?_)))))
 obtain ⟨s67, s68, s69, s70, s71⟩ := t5 hF66 24 s60 2 s61 3 s62 4 s63 5 s64
 have s72 : F65 6 = iv 0 := (hF66 6).trans rfl
 clear hF66
 refine then_normal (wq_block (wq_loop (fun nn FF ww => ∃ (k : Nat), (k ≤ 16) ∧ nn = 16 - k ∧ FF 2 = pt p1 0 ∧ FF 3 = pt p9 0 ∧ FF 4 = pt p19 0 ∧ FF 5 = pt p37 0 ∧ FF 24 = undef ∧ FF 6 = iv ((k : Nat) : Int) ∧ Kept (fun _ => False) w0 ww ∧ Blk ww p1 68 a ∧ Blk ww p9 68 b ∧ Blk ww p19 68 (fun _ => 0) ∧ Blk ww p37 68 (upto k (fun _ => 0) (moreB a b))) (16 - 0) ⟨0, by omega, rfl, s68, s69, s70, s71, s67, s72, K57, B54, B55, B56, B52.first⟩ ?_))
 rintro n76 F73 w74 ⟨k, i77, hn76, s78, s79, s80, s81, s82, s83, K75, B84, B85, B86, B87⟩
 refine wq_seq (wq_seq (wq_region (wl_mv rfl rfl rfl s83 (wl_v (.bool (decide (((k : Nat) : Int) < 16))) rfl rfl (y_lss rfl rfl rfl rfl rr) (wl_nil fun F88 hF89 => ?_)))))
 obtain ⟨s90, s91, s92, s93, s94, s95⟩ := t6 hF89 2 s78 3 s79 4 s80 5 s81 24 s82 6 s83
 have s96 : F88 9 = .bool (decide (((k : Nat) : Int) < 16)) := (hF89 9).trans rfl
 clear hF89
 refine then_normal ?_
 refine wq_cond s96 (fun c97 => ?_) (fun c97 => ?_)
 ·replace c97 := of_decide_eq_true c97
  refine wq_skip (then_normal (wq_seq (wq_block ?_)))
  have h1 : -1048576 ≤ cl 1048576 (a k) ∧ cl 1048576 (a k) ≤ 1048576 := clB_le a k
  have h2 : -1048576 ≤ cl 1048576 (b k) ∧ cl 1048576 (b k) ≤ 1048576 := clB_le b k
  refine wq_tail 11 [some 12, some 13, some 14, some 15, some 16, some 17, some 18, some 19, some 20, some 21, some 22] [Pd.eq (iv ((k : Nat) : Int)), Pd.eq (iv ((k : Nat) : Int)), Pd.eq (.pointer (some ⟨p1, k, none⟩)), Pd.eq (iv (a k)), Pd.eq (iv (cl 1048576 (a k))), Pd.eq (iv ((k : Nat) : Int)), Pd.eq (.pointer (some ⟨p9, k, none⟩)), Pd.eq (iv (b k)), Pd.eq (iv (cl 1048576 (b k))), Pd.eq (iv ((cl 1048576 (a k)) + (cl 1048576 (b k)))), Pd.eq (.pointer (some ⟨p37, k, none⟩))] (by kernel_rfl) (by kernel_rfl) (by kernel_rfl) ?_ ?_
  ·refine stepsF_cons ?_ ?_
   ·refine StepF.one rfl fun F_ w_ hR hout hD => ?_
    exact (y_mov rfl ((hout 6 rfl (by decide)).trans s95) ⟨rfl, Kept.refl _ _⟩)
   refine stepsF_cons ?_ ?_
   ·refine StepF.one rfl fun F_ w_ hR hout hD => ?_
    exact (y_mov rfl ((hout 6 rfl (by decide)).trans s95) ⟨rfl, Kept.refl _ _⟩)
   refine stepsF_cons ?_ ?_
   ·refine StepF.one rfl fun F_ w_ hR hout hD => ?_
    have g13 : F_ 13 = iv ((k : Nat) : Int) := (hD.get 0 rfl rfl rfl)
    exact (y_atR k (s := 1) rfl ((hout 2 rfl (by decide)).trans s90) g13 (by omega) Tryz.underlying68 (by omega) (by kernel_rfl) (by omega) ⟨rfl, Kept.refl _ _⟩)
   refine stepsF_cons ?_ ?_
   ·refine StepF.one rfl fun F_ w_ hR hout hD => ?_
    have g14 : F_ 14 = .pointer (some ⟨p1, k, none⟩) := (hD.get 0 rfl rfl rfl)
    exact (y_ldR rfl g14 Tryz.underlying3 ((B84.all hR id).cell (by omega)) ⟨rfl, Kept.refl _ _⟩)
   refine stepsF_cons ?_ ?_
   ·refine StepF.one rfl fun F_ w_ hR hout hD => ?_
    have g15 : F_ 15 = iv (a k) := (hD.get 0 rfl rfl rfl)
    exact (y_cs rfl rfl rfl (fun _ _ => by kernel_rfl) (ev_func _) (vsC g15 vsN) (ref_clamp (a k)  _   ) (fun e_ w_ h_ => ⟨_, h_.1, rfl, h_.2⟩))
   refine stepsF_cons ?_ ?_
   ·refine StepF.one rfl fun F_ w_ hR hout hD => ?_
    exact (y_mov rfl ((hout 6 rfl (by decide)).trans s95) ⟨rfl, Kept.refl _ _⟩)
   refine stepsF_cons ?_ ?_
   ·refine StepF.one rfl fun F_ w_ hR hout hD => ?_
    have g17 : F_ 17 = iv ((k : Nat) : Int) := (hD.get 0 rfl rfl rfl)
    exact (y_atR k (s := 1) rfl ((hout 3 rfl (by decide)).trans s91) g17 (by omega) Tryz.underlying68 (by omega) (by kernel_rfl) (by omega) ⟨rfl, Kept.refl _ _⟩)
   refine stepsF_cons ?_ ?_
   ·refine StepF.one rfl fun F_ w_ hR hout hD => ?_
    have g18 : F_ 18 = .pointer (some ⟨p9, k, none⟩) := (hD.get 0 rfl rfl rfl)
    exact (y_ldR rfl g18 Tryz.underlying3 ((B85.all hR id).cell (by omega)) ⟨rfl, Kept.refl _ _⟩)
   refine stepsF_cons ?_ ?_
   ·refine StepF.one rfl fun F_ w_ hR hout hD => ?_
    have g19 : F_ 19 = iv (b k) := (hD.get 0 rfl rfl rfl)
    exact (y_cs rfl rfl rfl (fun _ _ => by kernel_rfl) (ev_func _) (vsC g19 vsN) (ref_clamp (b k)  _   ) (fun e_ w_ h_ => ⟨_, h_.1, rfl, h_.2⟩))
   refine stepsF_cons ?_ ?_
   ·refine StepF.one rfl fun F_ w_ hR hout hD => ?_
    have g16 : F_ 16 = iv (cl 1048576 (a k)) := (hD.get 0 rfl rfl rfl)
    have g20 : F_ 20 = iv (cl 1048576 (b k)) := (hD.get 1 rfl rfl rfl)
    exact (y_add rfl g16 g20 (i64_i rfl (by omega)) ⟨rfl, Kept.refl _ _⟩)
   refine stepsF_cons ?_ ?_
   ·refine StepF.one rfl fun F_ w_ hR hout hD => ?_
    have g12 : F_ 12 = iv ((k : Nat) : Int) := (hD.get 0 rfl rfl rfl)
    exact (y_atR k (s := 1) rfl ((hout 5 rfl (by decide)).trans s93) g12 (by omega) Tryz.underlying68 (by omega) (by kernel_rfl) (by omega) ⟨rfl, Kept.refl _ _⟩)
   exact stepsF_nil
  intro v98 F99 w100 k101 G102 hF103
  have B105 := B84.all k101 id
  have B106 := B85.all k101 id
  have B107 := B86.all k101 id
  have B108 := B87.all k101 id
  have K109 := K75.tr k101
  obtain ⟨s110, s111, s112, s113, s114, s115⟩ := t6 hF103 2 s90 3 s91 4 s92 5 s93 24 s94 6 s95
  have s116 : F99 21 = iv ((cl 1048576 (a k)) + (cl 1048576 (b k))) := (hF103 21).trans (G102 9 (by decide))
  have s117 : F99 22 = .pointer (some ⟨p37, k, none⟩) := (hF103 22).trans (G102 10 (by decide))
  clear G102 hF103
  refine wl_set_blk rfl rfl rfl s117 s116 B108 (by omega) (by kernel_rfl) fun w118 B119 k120 => ?_
  have B121 := B105.all k120 (ap44.symm p1 rfl)
  have B122 := B106.all k120 (ap45.symm p9 rfl)
  have B123 := B107.all k120 (ap46.symm p19 rfl)
  have K124 := K109.trans k120 (Grew.ok (S := fun _ => False) gr43 noB_le)
  refine wl_nil fun F125 hF126 => ?_
  obtain ⟨s127, s128, s129, s130, s131, s132⟩ := t6 hF126 2 s110 3 s111 4 s112 5 s113 24 s114 6 s115
  clear hF126
  refine in_normal (then_normal (wq_region (wl_mv rfl rfl rfl s132 (wl_v (iv ((k + 1 : Nat) : Int)) rfl rfl (y_add rfl rfl rfl (i64_n (by omega) (by omega)) rr) (wl_v (iv ((k + 1 : Nat) : Int)) rfl rfl (y_asg rfl rfl rr) (wl_nil fun F133 hF134 => ?_))))))
  obtain ⟨s135, s136, s137, s138, s139⟩ := t5 hF134 2 s127 3 s128 4 s129 5 s130 24 s131
  have s140 : F133 6 = iv ((k + 1 : Nat) : Int) := (hF134 6).trans rfl
  clear hF134
  exact then_normal ⟨(16 - (k + 1)), by omega, k + 1, by omega, rfl, s135, s136, s137, s138, s139, s140, K124, B121, B122, B123, (B119.next rfl)⟩
 ·replace c97 := of_decide_eq_false c97
  refine wq_exit (then_exit (then_exit ?_))
  have l141 : 16 = k := by omega
  subst l141
  have B142 : Blk w74 p37 68 (moreB a b) := (B87.last)
  refine in_here (then_normal (wq_seq (wq_region (wl_v (blkV (moreB a b)) rfl rfl (y_load_blk blkT_arr rfl s93 B142 rr) (wl_store_blk blkT_arr rfl rfl rfl s92 rfl B86 fun w143 B144 k145 => ?_)))))
  have K149 := K75.trans k145 (Grew.ok (S := fun _ => False) gr25 noB_le)
  refine wl_nil fun F150 hF151 => ?_
  obtain ⟨s152, s153⟩ := t2 hF151 4 s92 24 s94
  clear hF151
  refine then_normal (wq_ret ?_)
  exact end_blk blkT_arr s153 rfl rfl s152 B144 ⟨rfl, K149⟩
end Go.Proofs.YtknjpdcpmpfklaaGreatDoor
set_option maxRecDepth 100000
namespace Go.Proofs.YtknjpdcpmpfklaaGreatDoor
open Go.RowKit
def Pd.blk (n : Nat) (t : TypeId) (b : Nat → Int) : Pd := ⟨fun v w => ∃ p, v = .pointer (some ⟨p, 0, none⟩) ∧ n ≤ p ∧ Blk w p t b, fun _ _ _ ⟨p, e, hn, h⟩ k => ⟨p, e, hn, h.all k id⟩⟩
section
variable {P : Program} {ρ : Operand → Value} {o : Oper} {w : World} {R : Value → World → Prop}
theorem y_alloc_blkP {t : TypeId} (ho : o.op = .alloc t) (hz : ∀ w, (zeroValue t).run P w = .ok (.agg (arrL 16 (fun _ => 0)).toArray) w) (h : R (.pointer (some ⟨w.heap.size, 0, none⟩)) (w.alloc (.cells (arrL 16 (fun _ => 0)).toArray t))) : Yields P ρ o w R :=
  y_of (v := .pointer (some ⟨w.heap.size, 0, none⟩)) (w' := w.alloc (.cells (arrL 16 (fun _ => 0)).toArray t)) (by simp [execOp, ho, hz, go_sem]) h
end
end Go.Proofs.YtknjpdcpmpfklaaGreatDoor
set_option maxRecDepth 100000
namespace Go.Proofs.YtknjpdcpmpfklaaGreatDoor
open Go.RowKit
theorem bref_predict (k x y : Int) (c : Ch) (f : FD) (f0 f1 f2 : Value) (g : FD) (g0 g1 g2 : Value) (h : FD) (h0 h1 h2 : Value) (T_f0 : Nat → Prop) (T_f1 : Nat → Prop) (T_f2 : Nat → Prop) (T_g0 : Nat → Prop) (T_g1 : Nat → Prop) (T_g2 : Nat → Prop) (T_h0 : Nat → Prop) (T_h1 : Nat → Prop) (T_h2 : Nat → Prop) (w0 : World) (h_f0 : Byt w0 T_f0 f0 ((f).p0)) (h_f1 : Byt w0 T_f1 f1 ((f).p1)) (h_f2 : Byt w0 T_f2 f2 ((f).p2)) (h_g0 : Byt w0 T_g0 g0 ((g).p0)) (h_g1 : Byt w0 T_g1 g1 ((g).p1)) (h_g2 : Byt w0 T_g2 g2 ((g).p2)) (h_h0 : Byt w0 T_h0 h0 ((h).p0)) (h_h1 : Byt w0 T_h1 h1 ((h).p1)) (h_h2 : Byt w0 T_h2 h2 ((h).p2)) :
  Calls Tryz.prog 45 #[.agg #[.int .i64 ((f).W), .int .i64 ((f).H), f0, f1, f2], .agg #[.int .i64 ((g).W), .int .i64 ((g).H), g0, g1, g2], .agg #[.int .i64 ((h).W), .int .i64 ((h).H), h0, h1, h2], .int .i64 (k), .int .i64 (x), .int .i64 (y), .agg (chW (c)).toArray] w0 fun e w' => e = .returned (.tuple #[blkV (cpB f g h k x y c), .int .i64 (cpE f g h k x y c)]) ∧ Kept (fun _ => False) w0 w' := by
 refine calls_wq (args := [.agg #[iv (f.W), iv (f.H), f0, f1, f2], .agg #[iv (g.W), iv (g.H), g0, g1, g2], .agg #[iv (h.W), iv (h.H), h0, h1, h2], iv k, iv x, iv y, .agg (chW c).toArray]) 85 Tryz.func45 rfl rfl (Nat.le_of_ble_eq_true rfl) ?_
 have K0 := Kept.refl (fun _ => False) w0
 have g_f0 := Grew.refl w0 T_f0
 have g_f1 := Grew.refl w0 T_f1
 have g_f2 := Grew.refl w0 T_f2
 have g_g0 := Grew.refl w0 T_g0
 have g_g1 := Grew.refl w0 T_g1
 have g_g2 := Grew.refl w0 T_g2
 have g_h0 := Grew.refl w0 T_h0
 have g_h1 := Grew.refl w0 T_h1
 have g_h2 := Grew.refl w0 T_h2
 refine wq_seq (wq_region (wl_box_stc (vs := [iv (f.W), iv (f.H), f0, f1, f2]) rfl rfl rfl rfl fun p1 w2 B4 g5 k3 => ?_))
 have B16 := h_f0.all k3 Apart.none
 have B17 := h_f1.all k3 Apart.none
 have B18 := h_f2.all k3 Apart.none
 have B19 := h_g0.all k3 Apart.none
 have B20 := h_g1.all k3 Apart.none
 have B21 := h_g2.all k3 Apart.none
 have B22 := h_h0.all k3 Apart.none
 have B23 := h_h1.all k3 Apart.none
 have B24 := h_h2.all k3 Apart.none
 have K25 := K0.tr k3
 refine wl_box_stc (vs := [iv (g.W), iv (g.H), g0, g1, g2]) rfl rfl rfl rfl fun p26 w27 B29 g30 k28 => ?_
 have B42 := B16.all k28 Apart.none
 have B43 := B17.all k28 Apart.none
 have B44 := B18.all k28 Apart.none
 have B45 := B19.all k28 Apart.none
 have B46 := B20.all k28 Apart.none
 have B47 := B21.all k28 Apart.none
 have B48 := B22.all k28 Apart.none
 have B49 := B23.all k28 Apart.none
 have B50 := B24.all k28 Apart.none
 have B51 := B4.all k28 id
 have K52 := K25.tr k28
 refine wl_box_stc (vs := [iv (h.W), iv (h.H), h0, h1, h2]) rfl rfl rfl rfl fun p53 w54 B56 g57 k55 => ?_
 have B70 := B42.all k55 Apart.none
 have B71 := B43.all k55 Apart.none
 have B72 := B44.all k55 Apart.none
 have B73 := B45.all k55 Apart.none
 have B74 := B46.all k55 Apart.none
 have B75 := B47.all k55 Apart.none
 have B76 := B48.all k55 Apart.none
 have B77 := B49.all k55 Apart.none
 have B78 := B50.all k55 Apart.none
 have B79 := B51.all k55 id
 have B80 := B29.all k55 id
 have K81 := K52.tr k55
 refine wl_box_stc (vs := (chW c)) rfl rfl rfl rfl fun p82 w83 B85 g86 k84 => ?_
 have B100 := B70.all k84 Apart.none
 have B101 := B71.all k84 Apart.none
 have B102 := B72.all k84 Apart.none
 have B103 := B73.all k84 Apart.none
 have B104 := B74.all k84 Apart.none
 have B105 := B75.all k84 Apart.none
 have B106 := B76.all k84 Apart.none
 have B107 := B77.all k84 Apart.none
 have B108 := B78.all k84 Apart.none
 have B109 := B79.all k84 id
 have B110 := B80.all k84 id
 have B111 := B56.all k84 id
 have K112 := K81.tr k84
 refine wl_alloc_blk rfl rfl rfl blkT_arr.2.2 fun p113 w114 e117 B115 k116 => ?_
 have g118 := onB_new (Nat.le_of_eq e117.symm)
 have gr119 : Grew w0 noB (onB p113) := Grew.new K112 g118
 clear e117 g118
 have B133 := B100.all k116 Apart.none
 have B134 := B101.all k116 Apart.none
 have B135 := B102.all k116 Apart.none
 have B136 := B103.all k116 Apart.none
 have B137 := B104.all k116 Apart.none
 have B138 := B105.all k116 Apart.none
 have B139 := B106.all k116 Apart.none
 have B140 := B107.all k116 Apart.none
 have B141 := B108.all k116 Apart.none
 have B142 := B109.all k116 id
 have B143 := B110.all k116 id
 have B144 := B111.all k116 id
 have B145 := B85.all k116 id
 have K146 := K112.tr k116
 refine wl_v (iv 0) rfl rfl (y_asg rfl rfl rr) (wl_nil fun F147 hF148 => ?_)
 have s149 : F147 3 = iv k := (hF148 3).trans rfl
 have s150 : F147 4 = iv x := (hF148 4).trans rfl
 have s151 : F147 5 = iv y := (hF148 5).trans rfl
 have s152 : F147 85 = undef := (hF148 85).trans rfl
 have s153 : F147 7 = pt p1 0 := (hF148 7).trans rfl
 have s154 : F147 8 = pt p26 0 := (hF148 8).trans rfl
 have s155 : F147 9 = pt p53 0 := (hF148 9).trans rfl
 have s156 : F147 13 = pt p82 0 := (hF148 13).trans rfl
 have s157 : F147 14 = pt p113 0 := (hF148 14).trans rfl
 clear hF148
 refine then_normal (wq_seq (wq_seq ?_))
 by_cases d158 : (c.m) < 0
 ·skip
  refine wq_region (wl_v (pt p82 0) rfl rfl (y_fieldR (n := 1) rfl s156 Tryz.underlying71 rfl (by kernel_rfl) (by decide) rfl rr) (wl_v (iv (c.m)) rfl rfl (y_ld_stc rfl rfl Tryz.underlying3 B145 rfl rfl rr) (wl_v (.bool true) rfl rfl (y_lss rfl rfl rfl (decide_eq_true d158) rr) (wl_v (.bool true) rfl rfl (y_mov rfl rfl rr) (wl_unless 3 false 23 rfl rfl rfl (Or.inl rfl) rfl (wl_unless 3 false 23 rfl rfl rfl (Or.inl rfl) rfl (wl_unless 3 false 23 rfl rfl rfl (Or.inl rfl) rfl (wl_v (.bool true) rfl rfl (y_pickT rfl rfl rfl rr) (wl_nil fun F159 hF160 => ?_)))))))))
  obtain ⟨s164, s169⟩ := t2 hF160 85 s152 14 s157
  have s170 : F159 27 = .bool true := (hF160 27).trans rfl
  clear hF160
  refine then_normal ?_
  refine wq_cond (t := true) s170 (fun _ => ?_) (fun e => by cases e)
  refine wq_seq ?_
  have hR := cp_bad (f := f) (p := g) (n := h) (k := k) (x := x) (y := y) (c := c) (by omega)
  refine wq_region (wl_v (blkV (fun _ => 0)) rfl rfl (y_buildR (cells := (arrL 16 (fun _ => 0)).toArray) rfl (by kernel_rfl) rfl rr) (wl_store_blk blkT_arr rfl rfl rfl s169 rfl B115 fun w171 B172 k173 => ?_))
  have K187 := K146.trans k173 (Grew.ok (S := fun _ => False) gr119 noB_le)
  refine wl_v (iv 120) rfl rfl (y_asg rfl rfl rr) (wl_nil fun F188 hF189 => ?_)
  obtain ⟨s190, s191⟩ := t2 hF189 85 s164 14 s169
  have s192 : F188 15 = iv 120 := (hF189 15).trans rfl
  clear hF189
  refine then_normal (wq_ret (then_ret ?_))
  exact end_2 s190 rfl (res_blk blkT_arr rfl s191 B172) (res_tmp (v := iv 120) rfl s192) ⟨(by first | (rw [hR.1, hR.2, hME (by assumption)]; done) | (rw [hR.1, hR.2]; done)), K187⟩
 ·skip
  refine wq_region (wl_v (pt p82 0) rfl rfl (y_fieldR (n := 1) rfl s156 Tryz.underlying71 rfl (by kernel_rfl) (by decide) rfl rr) (wl_v (iv (c.m)) rfl rfl (y_ld_stc rfl rfl Tryz.underlying3 B145 rfl rfl rr) (wl_v (.bool false) rfl rfl (y_lss rfl rfl rfl (decide_eq_false d158) rr) (wl_v (.bool false) rfl rfl (y_mov rfl rfl rr) (wl_vw (pt p82 0) 3 false 23 rfl rfl rfl rfl rfl (y_fieldR (n := 1) rfl s156 Tryz.underlying71 rfl (by kernel_rfl) (by decide) rfl rr) (wl_vw (iv (c.m)) 3 false 23 rfl rfl rfl rfl rfl (y_ld_stc rfl rfl Tryz.underlying3 B145 rfl rfl rr) (wl_vw (.bool (decide (6 < (c.m)))) 3 false 23 rfl rfl rfl rfl rfl (y_gtr rfl rfl rfl rfl rr) (wl_v (.bool (decide (6 < (c.m)))) rfl rfl (y_pickF rfl rfl rfl rr) (wl_nil fun F193 hF194 => ?_)))))))))
  obtain ⟨s195, s196, s197, s198, s199, s200, s201, s202, s203⟩ := t9 hF194 3 s149 4 s150 5 s151 85 s152 7 s153 8 s154 9 s155 13 s156 14 s157
  have s204 : F193 27 = .bool (decide (6 < (c.m))) := (hF194 27).trans rfl
  clear hF194
  refine then_normal ?_
  refine wq_cond s204 (fun c205 => ?_) (fun c205 => ?_)
  ·replace c205 := of_decide_eq_true c205
   refine wq_seq ?_
   have hR := cp_bad (f := f) (p := g) (n := h) (k := k) (x := x) (y := y) (c := c) (by omega)
   refine wq_region (wl_v (blkV (fun _ => 0)) rfl rfl (y_buildR (cells := (arrL 16 (fun _ => 0)).toArray) rfl (by kernel_rfl) rfl rr) (wl_store_blk blkT_arr rfl rfl rfl s203 rfl B115 fun w206 B207 k208 => ?_))
   have K222 := K146.trans k208 (Grew.ok (S := fun _ => False) gr119 noB_le)
   refine wl_v (iv 120) rfl rfl (y_asg rfl rfl rr) (wl_nil fun F223 hF224 => ?_)
   obtain ⟨s225, s226⟩ := t2 hF224 85 s198 14 s203
   have s227 : F223 15 = iv 120 := (hF224 15).trans rfl
   clear hF224
   refine then_normal (wq_ret (then_ret ?_))
   exact end_2 s225 rfl (res_blk blkT_arr rfl s226 B207) (res_tmp (v := iv 120) rfl s227) ⟨(by first | (rw [hR.1, hR.2, hME (by assumption)]; done) | (rw [hR.1, hR.2]; done)), K222⟩
  ·replace c205 := of_decide_eq_false c205
   refine wq_skip (then_normal (wq_seq (wq_seq (wq_region (wl_v (pt p82 0) rfl rfl (y_fieldR (n := 1) rfl s202 Tryz.underlying71 rfl (by kernel_rfl) (by decide) rfl rr) (wl_v (iv (c.m)) rfl rfl (y_ld_stc rfl rfl Tryz.underlying3 B145 rfl rfl rr) (wl_v (.bool (decide ((c.m) < 4))) rfl rfl (y_lss rfl rfl rfl rfl rr) (wl_nil fun F228 hF229 => ?_))))))))
   obtain ⟨s230, s231, s232, s233, s234, s235, s236, s237, s238⟩ := t9 hF229 3 s195 4 s196 5 s197 85 s198 7 s199 8 s200 9 s201 13 s202 14 s203
   have s239 : F228 31 = .bool (decide ((c.m) < 4)) := (hF229 31).trans rfl
   clear hF229
   refine then_normal ?_
   refine wq_cond s239 (fun c240 => ?_) (fun c240 => ?_)
   ·replace c240 := of_decide_eq_true c240
    refine wq_seq ?_
    have hR := cp_own (f := f) (p := g) (n := h) (k := k) (x := x) (y := y) (c := c) (by omega)
    refine wq_region (wl_v (.agg #[iv (f.W), iv (f.H), f0, f1, f2]) rfl rfl (y_load_stc stcT_frame rfl s234 B142 rr) (wl_mv rfl rfl rfl s230 (wl_mv rfl rfl rfl s231 (wl_mv rfl rfl rfl s232 (wl_v (pt p82 0) rfl rfl (y_fieldR (n := 1) rfl s237 Tryz.underlying71 rfl (by kernel_rfl) (by decide) rfl rr) (wl_v (iv (c.m)) rfl rfl (y_ld_stc rfl rfl Tryz.underlying3 B145 rfl rfl rr) (wl_cs rfl rfl rfl rfl rfl (fun _ _ => by kernel_rfl) (vsC rfl (vsC rfl (vsC rfl (vsC rfl (vsC rfl vsN))))) (iref_predict k x y (c.m) f f0 f1 f2 T_f0 T_f1 T_f2 _  B133 B134 B135 ) fun w241 k242 => ?_)))))))
    have B256 := B115.all k242 id
    have K257 := K146.tr k242
    refine wl_v (blkV (predB f k x y (c.m))) rfl rfl (y_ext rfl rfl rfl rr) (wl_v (iv (predE f k x y (c.m))) rfl rfl (y_ext rfl rfl rfl rr) (wl_store_blk blkT_arr rfl rfl rfl s238 rfl B256 fun w258 B259 k260 => ?_))
    have K274 := K257.trans k260 (Grew.ok (S := fun _ => False) gr119 noB_le)
    refine wl_v (iv (predE f k x y (c.m))) rfl rfl (y_asg rfl rfl rr) (wl_nil fun F275 hF276 => ?_)
    obtain ⟨s277, s278⟩ := t2 hF276 85 s233 14 s238
    have s279 : F275 15 = iv (predE f k x y (c.m)) := (hF276 15).trans rfl
    clear hF276
    refine then_normal (wq_ret (then_ret ?_))
    exact end_2 s277 rfl (res_blk blkT_arr rfl s278 B259) (res_tmp (v := iv (predE f k x y (c.m))) rfl s279) ⟨(by first | (rw [hR.1, hR.2, hME (by assumption)]; done) | (rw [hR.1, hR.2]; done)), K274⟩
   ·replace c240 := of_decide_eq_false c240
    refine wq_skip (then_normal (wq_seq (wq_region (wl_v (.agg #[iv (g.W), iv (g.H), g0, g1, g2]) rfl rfl (y_load_stc stcT_frame rfl s235 B143 rr) (wl_mv rfl rfl rfl s230 (wl_mv rfl rfl rfl s231 (wl_mv rfl rfl rfl s232 (wl_v (pt p82 1) rfl rfl (y_fieldR (n := 2) rfl s237 Tryz.underlying71 rfl (by kernel_rfl) (by decide) rfl rr) (wl_v (.agg #[iv (c.px), iv (c.py)]) rfl rfl (y_ldPart (n := 2) stcT_vector rfl rfl B145 (Nat.le_of_ble_eq_true rfl) rfl rr) (wl_cs rfl rfl rfl rfl rfl (fun _ _ => by kernel_rfl) (vsC rfl (vsC rfl (vsC rfl (vsC rfl (vsC rfl vsN))))) (mref_predict k x y (c.px) (c.py) g g0 g1 g2 T_g0 T_g1 T_g2 _  B136 B137 B138 ) fun w280 k281 => ?_))))))))))
    have B288 := B139.all k281 Apart.none
    have B289 := B140.all k281 Apart.none
    have B290 := B141.all k281 Apart.none
    have B293 := B144.all k281 id
    have B294 := B145.all k281 id
    have B295 := B115.all k281 id
    have K296 := K146.tr k281
    refine wl_v (.tuple #[blkV (mvB g k x y (c.px) (c.py)), iv (mvE g k x y (c.px) (c.py))]) rfl rfl (y_mov rfl rfl rr) (wl_v (blkV (mvB g k x y (c.px) (c.py))) rfl rfl (y_ext rfl rfl rfl rr) (wl_v (iv (mvE g k x y (c.px) (c.py))) rfl rfl (y_ext rfl rfl rfl rr) (wl_alloc_blk rfl rfl rfl blkT_arr.2.2 fun p297 w298 e301 B299 k300 => ?_)))
    have g302 := onB_new (Nat.le_of_eq e301.symm)
    have gr303 : Grew w0 noB (onB p297) := Grew.new K296 g302
    have ap310 : Apart (onB p297) T_h0 := Apart.new g302 B288.live
    have ap311 : Apart (onB p297) T_h1 := Apart.new g302 B289.live
    have ap312 : Apart (onB p297) T_h2 := Apart.new g302 B290.live
    have ap315 : Apart (onB p297) (onB p53) := Apart.new g302 (onB_live B293.lt)
    have ap316 : Apart (onB p297) (onB p82) := Apart.new g302 (onB_live B294.lt)
    have ap317 : Apart (onB p297) (onB p113) := Apart.new g302 (onB_live B295.lt)
    clear e301 g302
    have B324 := B288.all k300 Apart.none
    have B325 := B289.all k300 Apart.none
    have B326 := B290.all k300 Apart.none
    have B329 := B293.all k300 id
    have B330 := B294.all k300 id
    have B331 := B295.all k300 id
    have K332 := K296.tr k300
    refine wl_store_blk blkT_arr rfl rfl rfl rfl rfl B299 fun w333 B334 k335 => ?_
    have B342 := B324.all k335 ap310.symm
    have B343 := B325.all k335 ap311.symm
    have B344 := B326.all k335 ap312.symm
    have B347 := B329.all k335 (ap315.symm p53 rfl)
    have B348 := B330.all k335 (ap316.symm p82 rfl)
    have B349 := B331.all k335 (ap317.symm p113 rfl)
    have K350 := K332.trans k335 (Grew.ok (S := fun _ => False) gr303 noB_le)
    refine wl_v (iv (mvE g k x y (c.px) (c.py))) rfl rfl (y_asg rfl rfl rr) (wl_nil fun F351 hF352 => ?_)
    obtain ⟨s353, s354, s355, s356, s357, s358, s359⟩ := t7 hF352 3 s230 4 s231 5 s232 85 s233 9 s236 13 s237 14 s238
    have s360 : F351 16 = pt p297 0 := (hF352 16).trans rfl
    have s361 : F351 17 = iv (mvE g k x y (c.px) (c.py)) := (hF352 17).trans rfl
    clear hF352
    refine then_normal (wq_seq (wq_region (wl_v (.agg #[iv (h.W), iv (h.H), h0, h1, h2]) rfl rfl (y_load_stc stcT_frame rfl s357 B347 rr) (wl_mv rfl rfl rfl s353 (wl_mv rfl rfl rfl s354 (wl_mv rfl rfl rfl s355 (wl_v (pt p82 3) rfl rfl (y_fieldR (n := 2) rfl s358 Tryz.underlying71 rfl (by kernel_rfl) (by decide) rfl rr) (wl_v (.agg #[iv (c.nx), iv (c.ny)]) rfl rfl (y_ldPart (n := 2) stcT_vector rfl rfl B348 (Nat.le_of_ble_eq_true rfl) rfl rr) (wl_cs rfl rfl rfl rfl rfl (fun _ _ => by kernel_rfl) (vsC rfl (vsC rfl (vsC rfl (vsC rfl (vsC rfl vsN))))) (mref_predict k x y (c.nx) (c.ny) h h0 h1 h2 T_h0 T_h1 T_h2 _  B342 B343 B344 ) fun w362 k363 => ?_)))))))))
    have B376 := B348.all k363 id
    have B377 := B349.all k363 id
    have B378 := B334.all k363 id
    have K379 := K350.tr k363
    refine wl_v (.tuple #[blkV (mvB h k x y (c.nx) (c.ny)), iv (mvE h k x y (c.nx) (c.ny))]) rfl rfl (y_mov rfl rfl rr) (wl_v (blkV (mvB h k x y (c.nx) (c.ny))) rfl rfl (y_ext rfl rfl rfl rr) (wl_v (iv (mvE h k x y (c.nx) (c.ny))) rfl rfl (y_ext rfl rfl rfl rr) (wl_alloc_blk rfl rfl rfl blkT_arr.2.2 fun p380 w381 e384 B382 k383 => ?_)))
    have g385 := onB_new (Nat.le_of_eq e384.symm)
    have gr386 : Grew w0 noB (onB p380) := Grew.new K379 g385
    have ap399 : Apart (onB p380) (onB p82) := Apart.new g385 (onB_live B376.lt)
    have ap400 : Apart (onB p380) (onB p113) := Apart.new g385 (onB_live B377.lt)
    have ap401 : Apart (onB p380) (onB p297) := Apart.new g385 (onB_live B378.lt)
    clear e384 g385
    have B414 := B376.all k383 id
    have B415 := B377.all k383 id
    have B416 := B378.all k383 id
    have K417 := K379.tr k383
    refine wl_store_blk blkT_arr rfl rfl rfl rfl rfl B382 fun w418 B419 k420 => ?_
    have B433 := B414.all k420 (ap399.symm p82 rfl)
    have B434 := B415.all k420 (ap400.symm p113 rfl)
    have B435 := B416.all k420 (ap401.symm p297 rfl)
    have K436 := K417.trans k420 (Grew.ok (S := fun _ => False) gr386 noB_le)
    refine wl_v (iv (mvE h k x y (c.nx) (c.ny))) rfl rfl (y_asg rfl rfl rr) (wl_nil fun F437 hF438 => ?_)
    obtain ⟨s439, s440, s441, s442, s443⟩ := t5 hF438 85 s356 13 s358 14 s359 16 s360 17 s361
    have s444 : F437 18 = pt p380 0 := (hF438 18).trans rfl
    have s445 : F437 19 = iv (mvE h k x y (c.nx) (c.ny)) := (hF438 19).trans rfl
    clear hF438
    refine then_normal (wq_seq (wq_block (wq_seq (wq_region (wl_v (pt p82 0) rfl rfl (y_fieldR (n := 1) rfl s440 Tryz.underlying71 rfl (by kernel_rfl) (by decide) rfl rr) (wl_v (iv (c.m)) rfl rfl (y_ld_stc rfl rfl Tryz.underlying3 B433 rfl rfl rr) (wl_v (.bool (decide ((c.m) = 5))) rfl rfl (y_eqlI rfl rfl rfl rfl rr) (wl_v (.bool (decide ((c.m) = 5))) rfl rfl (y_asg rfl rfl rr) (wl_nil fun F446 hF447 => ?_)))))))))
    obtain ⟨s448, s449, s450, s451, s452, s453, s454⟩ := t7 hF447 85 s439 13 s440 14 s441 16 s442 17 s443 18 s444 19 s445
    have s455 : F446 61 = .bool (decide ((c.m) = 5)) := (hF447 61).trans rfl
    clear hF447
    refine then_normal ?_
    refine wq_cond s455 (fun c456 => ?_) (fun c456 => ?_)
    ·replace c456 := of_decide_eq_true c456
     refine wq_seq ?_
     have hR := cp_next (f := f) (p := g) (n := h) (k := k) (x := x) (y := y) (c := c) (by omega)
     refine wq_region (wl_v (blkV (mvB h k x y (c.nx) (c.ny))) rfl rfl (y_load_blk blkT_arr rfl s453 B419 rr) (wl_mv rfl rfl rfl s454 (wl_store_blk blkT_arr rfl rfl rfl s450 rfl B434 fun w457 B458 k459 => ?_)))
     have K475 := K436.trans k459 (Grew.ok (S := fun _ => False) gr119 noB_le)
     refine wl_v (iv (mvE h k x y (c.nx) (c.ny))) rfl rfl (y_asg rfl rfl rr) (wl_nil fun F476 hF477 => ?_)
     obtain ⟨s478, s479⟩ := t2 hF477 85 s448 14 s450
     have s480 : F476 15 = iv (mvE h k x y (c.nx) (c.ny)) := (hF477 15).trans rfl
     clear hF477
     refine then_normal (wq_ret (in_ret (then_ret ?_)))
     exact end_2 s478 rfl (res_blk blkT_arr rfl s479 B458) (res_tmp (v := iv (mvE h k x y (c.nx) (c.ny))) rfl s480) ⟨(by first | (rw [hR.1, hR.2, hME (by assumption)]; done) | (rw [hR.1, hR.2]; done)), K475⟩
    ·replace c456 := of_decide_eq_false c456
     refine wq_seq ?_
     by_cases d481 : (mvE g k x y (c.px) (c.py)) ≠ 0
     ·skip
      refine wq_region (wl_mv rfl rfl rfl s452 (wl_v (.bool true) rfl rfl (y_neqI rfl rfl rfl (decide_eq_true d481) rr) (wl_v (.bool true) rfl rfl (y_mov rfl rfl rr) (wl_unless 2 false 70 rfl rfl rfl (Or.inl rfl) rfl (wl_unless 2 false 70 rfl rfl rfl (Or.inl rfl) rfl (wl_unless 2 false 70 rfl rfl rfl (Or.inl rfl) rfl (wl_v (.bool true) rfl rfl (y_pickT rfl rfl rfl rr) (wl_v (.bool true) rfl rfl (y_asg rfl rfl rr) (wl_nil fun F482 hF483 => ?_)))))))))
      obtain ⟨s484, s485, s486, s487⟩ := t4 hF483 85 s448 14 s450 16 s451 17 s452
      have s490 : F482 67 = .bool true := (hF483 67).trans rfl
      clear hF483
      refine then_normal ?_
      refine wq_cond (t := true) s490 (fun _ => ?_) (fun e => by cases e)
      refine wq_seq ?_
      first | have hR := cp_past (f := f) (p := g) (n := h) (k := k) (x := x) (y := y) (c := c) (by omega) | have hR := cp_pastE (f := f) (p := g) (n := h) (k := k) (x := x) (y := y) (c := c) (by omega) (by assumption)
      have hME : mvE g k x y c.px c.py ≠ 0 → mvB g k x y c.px c.py = fun _ => 0 := fun z => mv_err z
      refine wq_region (wl_v (blkV (mvB g k x y (c.px) (c.py))) rfl rfl (y_load_blk blkT_arr rfl s486 B435 rr) (wl_mv rfl rfl rfl s487 (wl_store_blk blkT_arr rfl rfl rfl s485 rfl B434 fun w491 B492 k493 => ?_)))
      have K509 := K436.trans k493 (Grew.ok (S := fun _ => False) gr119 noB_le)
      refine wl_v (iv (mvE g k x y (c.px) (c.py))) rfl rfl (y_asg rfl rfl rr) (wl_nil fun F510 hF511 => ?_)
      obtain ⟨s512, s513⟩ := t2 hF511 85 s484 14 s485
      have s514 : F510 15 = iv (mvE g k x y (c.px) (c.py)) := (hF511 15).trans rfl
      clear hF511
      refine then_normal (wq_ret (in_ret (then_ret ?_)))
      exact end_2 s512 rfl (res_blk blkT_arr rfl s513 B492) (res_tmp (v := iv (mvE g k x y (c.px) (c.py))) rfl s514) ⟨(by first | (rw [hR.1, hR.2, hME (by assumption)]; done) | (rw [hR.1, hR.2]; done)), K509⟩
     ·skip
      refine wq_region (wl_mv rfl rfl rfl s452 (wl_v (.bool false) rfl rfl (y_neqI rfl rfl rfl (decide_eq_false d481) rr) (wl_v (.bool false) rfl rfl (y_mov rfl rfl rr) (wl_vw (pt p82 0) 2 false 70 rfl rfl rfl rfl rfl (y_fieldR (n := 1) rfl s449 Tryz.underlying71 rfl (by kernel_rfl) (by decide) rfl rr) (wl_vw (iv (c.m)) 2 false 70 rfl rfl rfl rfl rfl (y_ld_stc rfl rfl Tryz.underlying3 B433 rfl rfl rr) (wl_vw (.bool (decide ((c.m) = 4))) 2 false 70 rfl rfl rfl rfl rfl (y_eqlI rfl rfl rfl rfl rr) (wl_v (.bool (decide ((c.m) = 4))) rfl rfl (y_pickF rfl rfl rfl rr) (wl_v (.bool (decide ((c.m) = 4))) rfl rfl (y_asg rfl rfl rr) (wl_nil fun F515 hF516 => ?_)))))))))
      obtain ⟨s517, s518, s519, s520, s521, s522⟩ := t6 hF516 85 s448 14 s450 16 s451 17 s452 18 s453 19 s454
      have s523 : F515 67 = .bool (decide ((c.m) = 4)) := (hF516 67).trans rfl
      clear hF516
      refine then_normal ?_
      refine wq_cond s523 (fun c524 => ?_) (fun c524 => ?_)
      ·replace c524 := of_decide_eq_true c524
       refine wq_seq ?_
       first | have hR := cp_past (f := f) (p := g) (n := h) (k := k) (x := x) (y := y) (c := c) (by omega) | have hR := cp_pastE (f := f) (p := g) (n := h) (k := k) (x := x) (y := y) (c := c) (by omega) (by assumption)
       have hME : mvE g k x y c.px c.py ≠ 0 → mvB g k x y c.px c.py = fun _ => 0 := fun z => mv_err z
       refine wq_region (wl_v (blkV (mvB g k x y (c.px) (c.py))) rfl rfl (y_load_blk blkT_arr rfl s519 B435 rr) (wl_mv rfl rfl rfl s520 (wl_store_blk blkT_arr rfl rfl rfl s518 rfl B434 fun w525 B526 k527 => ?_)))
       have K543 := K436.trans k527 (Grew.ok (S := fun _ => False) gr119 noB_le)
       refine wl_v (iv (mvE g k x y (c.px) (c.py))) rfl rfl (y_asg rfl rfl rr) (wl_nil fun F544 hF545 => ?_)
       obtain ⟨s546, s547⟩ := t2 hF545 85 s517 14 s518
       have s548 : F544 15 = iv (mvE g k x y (c.px) (c.py)) := (hF545 15).trans rfl
       clear hF545
       refine then_normal (wq_ret (in_ret (then_ret ?_)))
       exact end_2 s546 rfl (res_blk blkT_arr rfl s547 B526) (res_tmp (v := iv (mvE g k x y (c.px) (c.py))) rfl s548) ⟨(by first | (rw [hR.1, hR.2, hME (by assumption)]; done) | (rw [hR.1, hR.2]; done)), K543⟩
      ·replace c524 := of_decide_eq_false c524
       refine wq_seq (wq_region (wl_mv rfl rfl rfl s522 (wl_v (.bool (decide ((mvE h k x y (c.nx) (c.ny)) ≠ 0))) rfl rfl (y_neqI rfl rfl rfl rfl rr) (wl_v (.bool (decide ((mvE h k x y (c.nx) (c.ny)) ≠ 0))) rfl rfl (y_asg rfl rfl rr) (wl_nil fun F549 hF550 => ?_)))))
       obtain ⟨s551, s552, s553, s554, s555⟩ := t5 hF550 85 s517 14 s518 16 s519 18 s521 19 s522
       have s556 : F549 77 = .bool (decide ((mvE h k x y (c.nx) (c.ny)) ≠ 0)) := (hF550 77).trans rfl
       clear hF550
       refine then_normal ?_
       refine wq_cond s556 (fun c557 => ?_) (fun c557 => ?_)
       ·replace c557 := of_decide_eq_true c557
        refine wq_seq ?_
        have hR := cp_both2 (f := f) (p := g) (n := h) (k := k) (x := x) (y := y) (c := c) (by omega) (by first | assumption | (apply Decidable.byContradiction; assumption)) (by assumption)
        refine wq_region (wl_v (blkV (fun _ => 0)) rfl rfl (y_buildR (cells := (arrL 16 (fun _ => 0)).toArray) rfl (by kernel_rfl) rfl rr) (wl_mv rfl rfl rfl s555 (wl_store_blk blkT_arr rfl rfl rfl s552 rfl B434 fun w558 B559 k560 => ?_)))
        have K576 := K436.trans k560 (Grew.ok (S := fun _ => False) gr119 noB_le)
        refine wl_v (iv (mvE h k x y (c.nx) (c.ny))) rfl rfl (y_asg rfl rfl rr) (wl_nil fun F577 hF578 => ?_)
        obtain ⟨s579, s580⟩ := t2 hF578 85 s551 14 s552
        have s581 : F577 15 = iv (mvE h k x y (c.nx) (c.ny)) := (hF578 15).trans rfl
        clear hF578
        refine then_normal (wq_ret (in_ret (then_ret ?_)))
        exact end_2 s579 rfl (res_blk blkT_arr rfl s580 B559) (res_tmp (v := iv (mvE h k x y (c.nx) (c.ny))) rfl s581) ⟨(by first | (rw [hR.1, hR.2, hME (by assumption)]; done) | (rw [hR.1, hR.2]; done)), K576⟩
       ·replace c557 := of_decide_eq_false c557
        refine wq_skip (in_normal (then_normal (wq_seq ?_)))
        have hR := cp_both (f := f) (p := g) (n := h) (k := k) (x := x) (y := y) (c := c) (by omega) (by first | assumption | (apply Decidable.byContradiction; assumption)) (by first | assumption | (apply Decidable.byContradiction; assumption))
        refine wq_region (wl_v (blkV (mvB g k x y (c.px) (c.py))) rfl rfl (y_load_blk blkT_arr rfl s553 B435 rr) (wl_v (blkV (mvB h k x y (c.nx) (c.ny))) rfl rfl (y_load_blk blkT_arr rfl s554 B419 rr) (wl_cs rfl rfl rfl rfl rfl (fun _ _ => by kernel_rfl) (vsC rfl (vsC rfl vsN)) (mref_both (mvB g k x y (c.px) (c.py)) (mvB h k x y (c.nx) (c.ny))  _   ) fun w582 k583 => ?_)))
        have B597 := B434.all k583 id
        have K600 := K436.tr k583
        refine wl_store_blk blkT_arr rfl rfl rfl s552 rfl B597 fun w601 B602 k603 => ?_
        have K619 := K600.trans k603 (Grew.ok (S := fun _ => False) gr119 noB_le)
        refine wl_v (iv 0) rfl rfl (y_asg rfl rfl rr) (wl_nil fun F620 hF621 => ?_)
        obtain ⟨s622, s623⟩ := t2 hF621 85 s551 14 s552
        have s624 : F620 15 = iv 0 := (hF621 15).trans rfl
        clear hF621
        refine then_normal (wq_ret ?_)
        exact end_2 s622 rfl (res_blk blkT_arr rfl s623 B602) (res_tmp (v := iv 0) rfl s624) ⟨(by first | (rw [hR.1, hR.2, hME (by assumption)]; done) | (rw [hR.1, hR.2]; done)), K619⟩
theorem bref_build (b : Nat → Int) (c : Ch) (q : Int) (w0 : World) :
  Calls Tryz.prog 46 #[blkV (b), .agg (chW (c)).toArray, .int .i64 (q)] w0 fun e w' => e = .returned (.tuple #[blkV (buB b c.b q), .int .i64 (ern q)]) ∧ Kept (fun _ => False) w0 w' := by
 refine calls_wq (args := [blkV b, .agg (chW c).toArray, iv q]) 39 Tryz.func46 rfl rfl (Nat.le_of_ble_eq_true rfl) ?_
 have K0 := Kept.refl (fun _ => False) w0
 refine wq_seq (wq_region (wl_box_blk rfl rfl rfl rfl fun p1 w2 e5 B3 k4 => ?_))
 have g6 := onB_new (Nat.le_of_eq e5.symm)
 clear e5 g6
 have K8 := K0.tr k4
 refine wl_box_stc (vs := (chW c)) rfl rfl rfl rfl fun p9 w10 B12 g13 k11 => ?_
 have B16 := B3.all k11 id
 have K17 := K8.tr k11
 refine wl_alloc_blk rfl rfl rfl blkT_arr.2.2 fun p18 w19 e22 B20 k21 => ?_
 have g23 := onB_new (Nat.le_of_eq e22.symm)
 have gr24 : Grew w0 noB (onB p18) := Grew.new K17 g23
 clear e22 g23
 have B27 := B16.all k21 id
 have B28 := B12.all k21 id
 have K29 := K17.tr k21
 refine wl_v (iv 0) rfl rfl (y_asg rfl rfl rr) (wl_nil fun F30 hF31 => ?_)
 have s32 : F30 2 = iv q := (hF31 2).trans rfl
 have s33 : F30 39 = undef := (hF31 39).trans rfl
 have s34 : F30 3 = pt p1 0 := (hF31 3).trans rfl
 have s35 : F30 4 = pt p9 0 := (hF31 4).trans rfl
 have s36 : F30 6 = pt p18 0 := (hF31 6).trans rfl
 clear hF31
 refine then_normal (wq_seq (wq_region (wl_v (pt p9 5) rfl rfl (y_fieldR (n := 16) rfl s35 Tryz.underlying71 rfl (by kernel_rfl) (by decide) rfl rr) (wl_v (blkV (c.b)) rfl rfl (y_ldPart (n := 16) (us := arrL 16 (c.b)) stcT_block rfl rfl B28 (Nat.le_of_ble_eq_true rfl) rfl rr) (wl_mv rfl rfl rfl s32 (wl_cs rfl rfl rfl rfl rfl (fun _ _ => by kernel_rfl) (vsC rfl (vsC rfl vsN)) (qref_up (c.b) q  _   ) fun w37 k38 => ?_))))))
 have B39 := B27.all k38 id
 have B40 := B28.all k38 id
 have B41 := B20.all k38 id
 have K42 := K29.tr k38
 refine wl_v (.tuple #[blkV (upB (c.b) q), iv (ern q)]) rfl rfl (y_mov rfl rfl rr) (wl_v (blkV (upB (c.b) q)) rfl rfl (y_ext rfl rfl rfl rr) (wl_v (iv (ern q)) rfl rfl (y_ext rfl rfl rfl rr) (wl_alloc_blk rfl rfl rfl blkT_arr.2.2 fun p43 w44 e47 B45 k46 => ?_)))
 have g48 := onB_new (Nat.le_of_eq e47.symm)
 have gr49 : Grew w0 noB (onB p43) := Grew.new K42 g48
 have ap50 : Apart (onB p43) (onB p1) := Apart.new g48 (onB_live B39.lt)
 have ap51 : Apart (onB p43) (onB p9) := Apart.new g48 (onB_live B40.lt)
 have ap52 : Apart (onB p43) (onB p18) := Apart.new g48 (onB_live B41.lt)
 clear e47 g48
 have B53 := B39.all k46 id
 have B54 := B40.all k46 id
 have B55 := B41.all k46 id
 have K56 := K42.tr k46
 refine wl_store_blk blkT_arr rfl rfl rfl rfl rfl B45 fun w57 B58 k59 => ?_
 have B60 := B53.all k59 (ap50.symm p1 rfl)
 have B61 := B54.all k59 (ap51.symm p9 rfl)
 have B62 := B55.all k59 (ap52.symm p18 rfl)
 have K63 := K56.trans k59 (Grew.ok (S := fun _ => False) gr49 noB_le)
 refine wl_v (iv (ern q)) rfl rfl (y_asg rfl rfl rr) (wl_nil fun F64 hF65 => ?_)
 obtain ⟨s66, s67, s68⟩ := t3 hF65 39 s33 3 s34 6 s36
 have s69 : F64 8 = pt p43 0 := (hF65 8).trans rfl
 have s70 : F64 9 = iv (ern q) := (hF65 9).trans rfl
 clear hF65
 refine then_normal (wq_seq (wq_seq (wq_region (wl_mv rfl rfl rfl s70 (wl_v (.bool (decide ((ern q) ≠ 0))) rfl rfl (y_neqI rfl rfl rfl rfl rr) (wl_nil fun F71 hF72 => ?_))))))
 obtain ⟨s73, s74, s75, s76, s77⟩ := t5 hF72 39 s66 3 s67 6 s68 8 s69 9 s70
 have s78 : F71 20 = .bool (decide ((ern q) ≠ 0)) := (hF72 20).trans rfl
 clear hF72
 refine then_normal ?_
 refine wq_cond s78 (fun c79 => ?_) (fun c79 => ?_)
 ·replace c79 := of_decide_eq_true c79
  refine wq_seq ?_
  have hR := bu_no (b := b) (l := c.b) (q := q) (by assumption)
  refine wq_region (wl_v (blkV (fun _ => 0)) rfl rfl (y_buildR (cells := (arrL 16 (fun _ => 0)).toArray) rfl (by kernel_rfl) rfl rr) (wl_mv rfl rfl rfl s77 (wl_store_blk blkT_arr rfl rfl rfl s75 rfl B62 fun w80 B81 k82 => ?_)))
  have K86 := K63.trans k82 (Grew.ok (S := fun _ => False) gr24 noB_le)
  refine wl_v (iv (ern q)) rfl rfl (y_asg rfl rfl rr) (wl_nil fun F87 hF88 => ?_)
  obtain ⟨s89, s90⟩ := t2 hF88 39 s73 6 s75
  have s91 : F87 7 = iv (ern q) := (hF88 7).trans rfl
  clear hF88
  refine then_normal (wq_ret (then_ret ?_))
  exact end_2 s89 rfl (res_blk blkT_arr rfl s90 B81) (res_tmp (v := iv (ern q)) rfl s91) ⟨(by first | rw [hR, hq0] | rw [hR]), K86⟩
 ·replace c79 := of_decide_eq_false c79
  refine wq_skip (then_normal (wq_seq ?_))
  have hq0 : ern q = 0 := by first | assumption | (apply Decidable.byContradiction; assumption)
  have hR := bu_yes (b := b) (l := c.b) hq0
  refine wq_tail 5 [some 23, some 24, some 25, some 26, some 10] [Pd.eq (blkV b), Pd.eq (blkV (upB (c.b) q)), Pd.eq (blkV (backB (upB (c.b) q))), Pd.eq (blkV (moreB b (backB (upB (c.b) q)))), Pd.blk w57.heap.size 68 (fun _ => 0)] (by kernel_rfl) (by kernel_rfl) (by kernel_rfl) ?_ ?_
  ·refine stepsF_cons ?_ ?_
   ·refine StepF.one rfl fun F_ w_ hR hout hD => ?_
    exact (y_load_blk blkT_arr rfl ((hout 3 rfl (by decide)).trans s74) (B60.all hR id) ⟨rfl, Kept.refl _ _⟩)
   refine stepsF_cons ?_ ?_
   ·refine StepF.one rfl fun F_ w_ hR hout hD => ?_
    exact (y_load_blk blkT_arr rfl ((hout 8 rfl (by decide)).trans s76) (B58.all hR id) ⟨rfl, Kept.refl _ _⟩)
   refine stepsF_cons ?_ ?_
   ·refine StepF.one rfl fun F_ w_ hR hout hD => ?_
    have g24 : F_ 24 = blkV (upB (c.b) q) := (hD.get 0 rfl rfl rfl)
    exact (y_cs rfl rfl rfl (fun _ _ => by kernel_rfl) (ev_func _) (vsC g24 vsN) (ref_back (upB (c.b) q)  _   ) (fun e_ w_ h_ => ⟨_, h_.1, rfl, h_.2⟩))
   refine stepsF_cons ?_ ?_
   ·refine StepF.one rfl fun F_ w_ hR hout hD => ?_
    have g23 : F_ 23 = blkV b := (hD.get 0 rfl rfl rfl)
    have g25 : F_ 25 = blkV (backB (upB (c.b) q)) := (hD.get 1 rfl rfl rfl)
    exact (y_cs rfl rfl rfl (fun _ _ => by kernel_rfl) (ev_func _) (vsC g23 (vsC g25 vsN)) (ref_more b (backB (upB (c.b) q))  _   ) (fun e_ w_ h_ => ⟨_, h_.1, rfl, h_.2⟩))
   refine stepsF_cons ?_ ?_
   ·refine StepF.one rfl fun F_ w_ hR hout hD => ?_
    exact y_alloc_blkP rfl blkT_arr.2.2 ⟨⟨_, rfl, hR.size, Blk.new _ _ _⟩, (Kept.refl _ _).alloc _⟩
   exact stepsF_nil
  intro v92 F93 w94 k95 G96 hF97
  have B99 := B60.all k95 id
  have B100 := B61.all k95 id
  have B101 := B62.all k95 id
  have B102 := B58.all k95 id
  have K103 := K63.tr k95
  obtain ⟨s104, s105⟩ := t2 hF97 39 s73 6 s75
  obtain ⟨p108, e107, e109, B110⟩ := G96 4 (by decide)
  replace B110 : Blk w94 p108 68 (fun _ => 0) := B110
  have gr111 : Grew w0 noB (onB p108) := Grew.new K63 (onB_new e109)
  have ap112 : Apart (onB p108) (onB p1) := Apart.new (onB_new e109) (onB_live B60.lt)
  have ap113 : Apart (onB p108) (onB p9) := Apart.new (onB_new e109) (onB_live B61.lt)
  have ap114 : Apart (onB p108) (onB p18) := Apart.new (onB_new e109) (onB_live B62.lt)
  have ap115 : Apart (onB p108) (onB p43) := Apart.new (onB_new e109) (onB_live B58.lt)
  have s106 : F93 10 = pt p108 0 := (hF97 10).trans e107
  have s116 : F93 26 = blkV (moreB b (backB (upB (c.b) q))) := (hF97 26).trans (G96 3 (by decide))
  clear G96 hF97
  refine wl_store_blk blkT_arr rfl rfl rfl s106 s116 B110 fun w117 B118 k119 => ?_
  have B120 := B99.all k119 (ap112.symm p1 rfl)
  have B121 := B100.all k119 (ap113.symm p9 rfl)
  have B122 := B101.all k119 (ap114.symm p18 rfl)
  have B123 := B102.all k119 (ap115.symm p43 rfl)
  have K124 := K103.trans k119 (Grew.ok (S := fun _ => False) gr111 noB_le)
  refine wl_nil fun F125 hF126 => ?_
  obtain ⟨s127, s128, s129⟩ := t3 hF126 39 s104 6 s105 10 s106
  clear hF126
  refine then_normal (wq_seq (wq_seq (wq_region (wl_v (iv 0) rfl rfl (y_asg rfl rfl rr) (wl_nil fun F130 hF131 => ?_)))))
  obtain ⟨s132, s133, s134⟩ := t3 hF131 39 s127 6 s128 10 s129
  have s135 : F130 11 = iv 0 := (hF131 11).trans rfl
  clear hF131
  refine then_normal (wq_block (wq_loop (fun nn FF ww => ∃ (i : Nat), (i ≤ 16) ∧ nn = 16 - i ∧ FF 6 = pt p18 0 ∧ FF 10 = pt p108 0 ∧ FF 39 = undef ∧ FF 11 = iv ((i : Nat) : Int) ∧ Kept (fun _ => False) w0 ww ∧ Blk ww p1 68 b ∧ Stc ww p9 71 (chW c) ∧ Blk ww p18 68 (fun _ => 0) ∧ Blk ww p43 68 (upB (c.b) q) ∧ Blk ww p108 68 (upto i (moreB b (backB (upB c.b q))) (c8M (moreB b (backB (upB c.b q)))))) (16 - 0) ⟨0, by omega, rfl, s133, s134, s132, s135, K124, B120, B121, B122, B123, B118.first⟩ ?_))
  rintro n139 F136 w137 ⟨i, i140, hn139, s141, s142, s143, s144, K138, B145, B146, B147, B148, B149⟩
  refine wq_seq (wq_seq (wq_region (wl_mv rfl rfl rfl s144 (wl_v (.bool (decide (((i : Nat) : Int) < 16))) rfl rfl (y_lss rfl rfl rfl rfl rr) (wl_nil fun F150 hF151 => ?_)))))
  obtain ⟨s152, s153, s154, s155⟩ := t4 hF151 6 s141 10 s142 39 s143 11 s144
  have s156 : F150 28 = .bool (decide (((i : Nat) : Int) < 16)) := (hF151 28).trans rfl
  clear hF151
  refine then_normal ?_
  refine wq_cond s156 (fun c157 => ?_) (fun c157 => ?_)
  ·replace c157 := of_decide_eq_true c157
   refine wq_skip (then_normal (wq_seq (wq_block (wq_region (wl_mv rfl rfl rfl s155 (wl_mv rfl rfl rfl s155 (wl_v (.pointer (some ⟨p108, i, none⟩)) rfl rfl (y_atR i (s := 1) rfl s153 rfl (by omega) Tryz.underlying68 (by omega) (by kernel_rfl) (by omega) rr) (wl_v (iv (moreB b (backB (upB c.b q)) i)) rfl rfl (y_ldR rfl rfl Tryz.underlying3 ((B149.cell (by omega)).trans (some_int (upto_at i _ _))) rr) (wl_v (iv (max (moreB b (backB (upB c.b q)) i) 0)) rfl rfl (y_maxR rfl rfl rfl rfl rr) (wl_v (iv (c8M (moreB b (backB (upB c.b q))) i)) rfl rfl (y_minR rfl rfl rfl (by unfold c8M; omega) rr) (wl_v (.pointer (some ⟨p108, i, none⟩)) rfl rfl (y_atR i (s := 1) rfl s153 rfl (by omega) Tryz.underlying68 (by omega) (by kernel_rfl) (by omega) rr) ?_)))))))))))
   refine wl_set_blk rfl rfl rfl rfl rfl B149 (by omega) (by kernel_rfl) fun w158 B159 k160 => ?_
   have B161 := B145.all k160 (ap112.symm p1 rfl)
   have B162 := B146.all k160 (ap113.symm p9 rfl)
   have B163 := B147.all k160 (ap114.symm p18 rfl)
   have B164 := B148.all k160 (ap115.symm p43 rfl)
   have K165 := K138.trans k160 (Grew.ok (S := fun _ => False) gr111 noB_le)
   refine wl_nil fun F166 hF167 => ?_
   obtain ⟨s168, s169, s170, s171⟩ := t4 hF167 6 s152 10 s153 39 s154 11 s155
   clear hF167
   refine in_normal (then_normal (wq_region (wl_mv rfl rfl rfl s171 (wl_v (iv ((i + 1 : Nat) : Int)) rfl rfl (y_add rfl rfl rfl (i64_n (by omega) (by omega)) rr) (wl_v (iv ((i + 1 : Nat) : Int)) rfl rfl (y_asg rfl rfl rr) (wl_nil fun F172 hF173 => ?_))))))
   obtain ⟨s174, s175, s176⟩ := t3 hF173 6 s168 10 s169 39 s170
   have s177 : F172 11 = iv ((i + 1 : Nat) : Int) := (hF173 11).trans rfl
   clear hF173
   exact then_normal ⟨(16 - (i + 1)), by omega, i + 1, by omega, rfl, s174, s175, s176, s177, K165, B161, B162, B163, B164, (B159.next rfl)⟩
  ·replace c157 := of_decide_eq_false c157
   refine wq_exit (then_exit (then_exit ?_))
   have l178 : 16 = i := by omega
   subst l178
   have B179 : Blk w137 p108 68 (c8M (moreB b (backB (upB c.b q)))) := (B149.last)
   refine in_here (then_normal (wq_seq (wq_region (wl_v (blkV (c8M (moreB b (backB (upB c.b q))))) rfl rfl (y_load_blk blkT_arr rfl s153 B179 rr) (wl_store_blk blkT_arr rfl rfl rfl s152 rfl B147 fun w180 B181 k182 => ?_)))))
   have K187 := K138.trans k182 (Grew.ok (S := fun _ => False) gr24 noB_le)
   refine wl_v (iv 0) rfl rfl (y_asg rfl rfl rr) (wl_nil fun F188 hF189 => ?_)
   obtain ⟨s190, s191⟩ := t2 hF189 6 s152 39 s154
   have s192 : F188 7 = iv 0 := (hF189 7).trans rfl
   clear hF189
   refine then_normal (wq_ret ?_)
   exact end_2 s191 rfl (res_blk blkT_arr rfl s190 B181) (res_tmp (v := iv 0) rfl s192) ⟨(by first | rw [hR, hq0] | rw [hR]), K187⟩
end Go.Proofs.YtknjpdcpmpfklaaGreatDoor
set_option maxRecDepth 100000
namespace Go.Proofs.YtknjpdcpmpfklaaGreatDoor
open Go.RowKit
structure Thm where
  B : Value → (Nat → Prop) → World → Prop
  st : ∀ (v : Value) (w w' : World) (S T : Nat → Prop), B v T w → Kept S w w' → Apart T S → B v T w'
  li : ∀ (v : Value) (w : World) (T : Nat → Prop), B v T w → Live w T
inductive Pm where
  | eq (v : Value)
  | new (t : Thm)
def Pm.none : Pm := .eq undef
def Pm.isNew : Pm → Bool
  | .eq _ => false
  | .new _ => true
structure Eld where
  A : World → Prop
  T : Nat → Prop
  st : ∀ (w w' : World) (S : Nat → Prop), A w → Kept S w w' → Apart T S → A w'
  li : ∀ w, A w → Live w T
def usM (Uz : List (Option (Bool × Nat))) (i : Nat) : Option (Bool × Nat) := Uz.getD i none
def usedM (Uz : List (Option (Bool × Nat))) (L : Nat → Bool) (q : Bool × Nat) : Prop := ∃ i, usM Uz i = some q ∧ L i = true
structure JM (S : Nat → Prop) (w0 : World) (Gs : List Pm) (Uz : List (Option (Bool × Nat))) (Es : List Eld) (Bs : List (Nat → Prop)) (M : List (Nat × Nat)) (L : Nat → Bool) (v : Nat → Value) (Tf : Nat → Nat → Prop) (w : World) : Prop where
  kept : Kept S w0 w
  vals : ∀ i x, L i = true → Gs.getD i Pm.none = .eq x → v i = x
  things : ∀ i t, L i = true → Gs.getD i Pm.none = .new t → ¬ usedM Uz L (true, i) → t.B (v i) (Tf i) w
  olds : ∀ (e : Nat) (E : Eld), Es[e]? = some E → ¬ usedM Uz L (false, e) → E.A w
  grew : ∀ i t, L i = true → Gs.getD i Pm.none = .new t → Grew w0 (Bs.getD i noB) (Tf i)
  tt : ∀ i j t t', i ≠ j → L i = true → L j = true → Gs.getD i Pm.none = .new t → Gs.getD j Pm.none = .new t' → ¬ usedM Uz L (true, i) → ¬ usedM Uz L (true, j) → Apart (Tf i) (Tf j)
  te : ∀ (i e : Nat) (t : Thm) (E : Eld), L i = true → Gs.getD i Pm.none = .new t → ¬ usedM Uz L (true, i) → Es[e]? = some E → ¬ usedM Uz L (false, e) → Apart (Tf i) E.T
  clos : ∀ j i, (j, i) ∈ M → L j = true → L i = true
def uniqB (Uz : List (Option (Bool × Nat))) : Bool := (List.range Uz.length).all fun i => (List.range Uz.length).all fun j => match usM Uz i with
  | some q => i == j || !(usM Uz j == some q)
  | none => true
def wfU (os : List Oper) (Gs : List Pm) (nE : Nat) (Uz : List (Option (Bool × Nat))) : Bool := uniqB Uz && (List.range Uz.length).all fun i => match usM Uz i with
  | none => true
  | some (true, j) => (Gs.getD j Pm.none).isNew && (match os[i]? with | some o => o.after.toList.any (fun e => Region.binds .any e && e.on == j) | none => false)
  | some (false, e) => Nat.blt e nE
def BsL (Es : List Eld) (Bs : List (Nat → Prop)) : List (Option (Bool × Nat)) → List (Nat → Prop) → Prop
  | [], _ => True
  | none :: r, b :: bs => b = noB ∧ BsL Es Bs r bs
  | some (true, j) :: r, b :: bs => b = Bs.getD j noB ∧ BsL Es Bs r bs
  | some (false, e) :: r, b :: bs => (∀ E, Es[e]? = some E → b = E.T) ∧ BsL Es Bs r bs
  | _ :: _, [] => False
def SubL (S : Nat → Prop) : List (Nat → Prop) → Prop
  | [] => True
  | b :: r => (∀ x, b x → S x) ∧ SubL S r
def EldsM (S : Nat → Prop) (w0 : World) : List Eld → Prop
  | [] => True
  | E :: r => ((∀ b, E.T b → S b) ∧ E.A w0 ∧ (∀ (k : Nat) (E' : Eld), r[k]? = some E' → Apart E.T E'.T)) ∧ EldsM S w0 r
theorem us_lt {Uz : List (Option (Bool × Nat))} {i : Nat} {q : Bool × Nat} (h : usM Uz i = some q) : i < Uz.length := by
  unfold usM at h
  rcases Nat.lt_or_ge i Uz.length with h' | h'
  · exact h'
  · simp [List.getD, List.getElem?_eq_none h'] at h
theorem uniq_at {Uz : List (Option (Bool × Nat))} (h : uniqB Uz = true) {i j : Nat} {q : Bool × Nat} (hi : usM Uz i = some q) (hj : usM Uz j = some q) : i = j := by
  have := List.all_eq_true.1 (List.all_eq_true.1 h i (List.mem_range.2 (us_lt hi))) j (List.mem_range.2 (us_lt hj))
  rw [hi, hj] at this
  simpa using this
theorem bs_at {Es : List Eld} {Bs : List (Nat → Prop)} : ∀ {Uz : List (Option (Bool × Nat))} {bs : List (Nat → Prop)}, BsL Es Bs Uz bs → ∀ i, i < Uz.length → match usM Uz i with
    | none => bs.getD i noB = noB
    | some (true, j) => bs.getD i noB = Bs.getD j noB
    | some (false, e) => ∀ E, Es[e]? = some E → bs.getD i noB = E.T := by
  intro Uz
  induction Uz with
  | nil => intro bs _ i hi; exact absurd hi (Nat.not_lt_zero _)
  | cons u r ih =>
    intro bs h i hi
    cases bs with
    | nil => exact (by cases u with | none => exact h.elim | some q => obtain ⟨b, j⟩ := q; cases b <;> exact h.elim)
    | cons b bs =>
      cases i with
      | zero =>
        cases u with
        | none => exact h.1
        | some q => obtain ⟨x, j⟩ := q; cases x <;> exact h.1
      | succ i =>
        have hr : BsL Es Bs r bs := by
          cases u with
          | none => exact h.2
          | some q => obtain ⟨x, j⟩ := q; cases x <;> exact h.2
        exact ih hr i (Nat.lt_of_succ_lt_succ hi)
theorem sub_at {S : Nat → Prop} : ∀ {Bs : List (Nat → Prop)}, SubL S Bs → ∀ i x, Bs.getD i noB x → S x := by
  intro Bs
  induction Bs with
  | nil => intro _ i x h; exact absurd h (by simp [List.getD, noB])
  | cons b r ih =>
    intro h i x hx
    cases i with
    | zero => exact h.1 x hx
    | succ i => exact ih h.2 i x hx
theorem EldsM.at {S : Nat → Prop} {w0 : World} : ∀ {Es : List Eld}, EldsM S w0 Es → ∀ (e : Nat) (E : Eld), Es[e]? = some E → (∀ b, E.T b → S b) ∧ E.A w0 := by
  intro Es
  induction Es with
  | nil => intro _ e E h; simp at h
  | cons x r ih =>
    intro h e E he
    cases e with
    | zero => simp at he; subst he; exact ⟨h.1.1, h.1.2.1⟩
    | succ e => exact ih h.2 e E (by simpa using he)
theorem EldsM.far {S : Nat → Prop} {w0 : World} : ∀ {Es : List Eld}, EldsM S w0 Es → ∀ (e e' : Nat) (E E' : Eld), e ≠ e' → Es[e]? = some E → Es[e']? = some E' → Apart E.T E'.T := by
  intro Es
  induction Es with
  | nil => intro _ e e' E E' _ h; simp at h
  | cons x r ih =>
    intro h e e' E E' hne he he'
    cases e with
    | zero =>
      cases e' with
      | zero => exact absurd rfl hne
      | succ k => simp at he; subst he; exact h.1.2.2 k E' (by simpa using he')
    | succ k =>
      cases e' with
      | zero => simp at he'; subst he'; exact (h.1.2.2 k E (by simpa using he)).symm
      | succ k' => exact ih h.2 k k' E E' (fun z => hne (by rw [z])) (by simpa using he) (by simpa using he')
def LeftM (Gs : List Pm) (i : Nat) (Tu : Nat → Prop) (w : World) (v : Value) (w' : World) : Prop := match Gs.getD i Pm.none with
  | .eq x => v = x ∧ Kept Tu w w'
  | .new t => Kept Tu w w' ∧ ∃ T', t.B v T' w' ∧ Grew w Tu T'
def useT (Uz : List (Option (Bool × Nat))) (Es : List Eld) (Tf : Nat → Nat → Prop) (i : Nat) (Tu : Nat → Prop) : Prop := match usM Uz i with
  | none => Tu = noB
  | some (true, j) => Tu = Tf j
  | some (false, e) => ∀ E, Es[e]? = some E → Tu = E.T
theorem wfU_at {os : List Oper} {Gs : List Pm} {nE : Nat} {Uz : List (Option (Bool × Nat))} (h : wfU os Gs nE Uz = true) {i : Nat} {q : Bool × Nat} (hi : usM Uz i = some q) : match q with
    | (true, j) => (∃ t, Gs.getD j Pm.none = .new t) ∧ ∃ o, os[i]? = some o ∧ ∃ e ∈ o.after.toList, Region.binds .any e = true ∧ e.on = j
    | (false, e) => e < nE := by
  unfold wfU at h
  simp only [Bool.and_eq_true] at h
  have := List.all_eq_true.1 h.2 i (List.mem_range.2 (us_lt hi))
  rw [hi] at this
  obtain ⟨b, j⟩ := q
  cases b with
  | false => simpa [Nat.blt_eq] using this
  | true =>
    simp only [Bool.and_eq_true] at this
    refine ⟨?_, ?_⟩
    · cases hg : Gs.getD j Pm.none with
      | eq x => rw [hg] at this; simp [Pm.isNew] at this
      | new t => exact ⟨t, rfl⟩
    · cases ho : os[i]? with
      | none => rw [ho] at this; simp at this
      | some o =>
        rw [ho] at this
        obtain ⟨e, he, hb⟩ := List.any_eq_true.1 this.2
        simp only [Bool.and_eq_true, beq_iff_eq] at hb
        exact ⟨o, rfl, e, he, hb.1, hb.2⟩
theorem used_up {Uz : List (Option (Bool × Nat))} {L : Nat → Bool} {i : Nat} {q : Bool × Nat} (h : ¬ usedM Uz (upL L i) q) : ¬ usedM Uz L q := fun ⟨k, hk, hl⟩ => h ⟨k, hk, by unfold upL; split <;> first | rfl | exact hl⟩
theorem up_cases {L : Nat → Bool} {i j : Nat} (h : upL L i j = true) : j = i ∨ (j ≠ i ∧ L j = true) := by
  by_cases e : j = i
  · exact .inl e
  · exact .inr ⟨e, by rwa [show upL L i j = L j from if_neg e] at h⟩
def setT (Tf : Nat → Nat → Prop) (i : Nat) (T' : Nat → Prop) : Nat → Nat → Prop := fun c => if c = i then T' else Tf c
theorem JM.more {S : Nat → Prop} {w0 w w' : World} {os : List Oper} {Gs : List Pm} {Uz : List (Option (Bool × Nat))} {Es : List Eld} {Bs : List (Nat → Prop)} {M : List (Nat × Nat)} {L : Nat → Bool} {v : Nat → Value} {Tf : Nat → Nat → Prop} {i : Nat} {x : Value} {Tu : Nat → Prop}
    (hwf : wfU os Gs Es.length Uz = true) (hlen : Uz.length = os.length) (hio : i < os.length) (hBs : BsL Es Bs Uz Bs) (hSub : SubL S Bs) (hE : EldsM S w0 Es) (h : JM S w0 Gs Uz Es Bs M L v Tf w) (hi : L i = false) (hM : ∀ k, (i, k) ∈ M → L k = true) (hU : ∀ j, usM Uz i = some (true, j) → L j = true) (hT : useT Uz Es Tf i Tu) (hx : LeftM Gs i Tu w x w') : ∃ Tf', JM S w0 Gs Uz Es Bs M (upL L i) (upV v i x) Tf' w' := by
  have huq : uniqB Uz = true := by unfold wfU at hwf; simp only [Bool.and_eq_true] at hwf; exact hwf.1
  have hcl : ∀ j k, (j, k) ∈ M → upL L i j = true → upL L i k = true := fun j k hm hj => by
    have hk : L k = true := by
      rcases up_cases hj with rfl | ⟨_, hj⟩
      · exact hM k hm
      · exact h.clos j k hm hj
    unfold upL; split <;> first | rfl | exact hk
  have free : ∀ q, usM Uz i = some q → ¬ usedM Uz L q := fun q hq ⟨k, hk, hl⟩ => by
    rw [uniq_at huq hk hq, hi] at hl; cases hl
  have hgu : Grew w0 (Bs.getD i noB) Tu := by
    have hb := bs_at hBs i (by omega)
    unfold useT at hT
    cases hu : usM Uz i with
    | none => rw [hu] at hT; simp only at hT; subst hT; exact fun _ z => z.elim
    | some q =>
      have hq := wfU_at hwf hu
      obtain ⟨b, j⟩ := q
      cases b with
      | true =>
        rw [hu] at hT hb
        simp only at hT hb hq
        obtain ⟨⟨t, ht⟩, _⟩ := hq
        subst hT; rw [hb]; exact h.grew j t (hU j hu) ht
      | false =>
        rw [hu] at hT hb
        simp only at hT hb hq
        obtain ⟨E, hE'⟩ : ∃ E, Es[j]? = some E := ⟨Es[j], List.getElem?_eq_getElem hq⟩
        rw [hT E hE', hb E hE']; exact Grew.refl _ _
  have hkS : Kept Tu w w' → Kept S w0 w' := fun hk => h.kept.trans hk (fun b hb hTb => (hgu b hTb).elim (fun z => sub_at hSub i b z) (fun z => absurd hb (Nat.not_lt.2 z)))
  have farT : ∀ j t, L j = true → Gs.getD j Pm.none = .new t → ¬ usedM Uz (upL L i) (true, j) → Apart (Tf j) Tu := fun j t hj ht hn => by
    unfold useT at hT
    cases hu : usM Uz i with
    | none => rw [hu] at hT; simp only at hT; subst hT; exact fun _ _ z => z
    | some q =>
      have hq := wfU_at hwf hu
      obtain ⟨b, k⟩ := q
      cases b with
      | true =>
        rw [hu] at hT
        simp only at hT hq
        obtain ⟨⟨t', ht'⟩, _⟩ := hq
        subst hT
        exact h.tt j k t t' (fun e => hn ⟨i, by rw [hu, e], by unfold upL; simp⟩) hj (hU k hu) ht ht' (used_up hn) (free _ hu)
      | false =>
        rw [hu] at hT
        simp only at hT hq
        obtain ⟨E, hE'⟩ : ∃ E, Es[k]? = some E := ⟨Es[k], List.getElem?_eq_getElem hq⟩
        rw [hT E hE']; exact h.te j k t E hj ht (used_up hn) hE' (free _ hu)
  have farE : ∀ (e : Nat) (E : Eld), Es[e]? = some E → ¬ usedM Uz (upL L i) (false, e) → Apart E.T Tu := fun e E he hn => by
    unfold useT at hT
    cases hu : usM Uz i with
    | none => rw [hu] at hT; simp only at hT; subst hT; exact fun _ _ z => z
    | some q =>
      have hq := wfU_at hwf hu
      obtain ⟨b, k⟩ := q
      cases b with
      | true =>
        rw [hu] at hT
        simp only at hT hq
        obtain ⟨⟨t', ht'⟩, _⟩ := hq
        subst hT
        exact (h.te k e t' E (hU k hu) ht' (free _ hu) he (used_up hn)).symm
      | false =>
        rw [hu] at hT
        simp only at hT hq
        obtain ⟨E', hE'⟩ : ∃ E, Es[k]? = some E := ⟨Es[k], List.getElem?_eq_getElem hq⟩
        rw [hT E' hE']; exact hE.far e k E E' (fun z => hn ⟨i, by rw [hu, z], by unfold upL; simp⟩) he hE'
  unfold LeftM at hx
  cases eg : Gs.getD i Pm.none with
  | eq y =>
    rw [eg] at hx
    obtain ⟨hv, kU⟩ := hx
    refine ⟨Tf, hkS kU, fun j z hj hz => ?_, fun j t hj ht hn => ?_, fun e E he hn => (E.st w w' Tu (h.olds e E he (used_up hn)) kU (farE e E he hn)), fun j t hj ht => ?_, fun a b t t' hab ha hb hta htb hna hnb => ?_, fun a e t E ha hta hna he hne => ?_, hcl⟩
    · rcases up_cases hj with rfl | ⟨hji, hj⟩
      · rw [show upV v j x j = x from if_pos rfl, hv]; rw [eg] at hz; cases hz; rfl
      · rw [show upV v i x j = v j from if_neg hji]; exact h.vals j z hj hz
    · rcases up_cases hj with rfl | ⟨hji, hj⟩
      · rw [eg] at ht; cases ht
      · rw [show upV v i x j = v j from if_neg hji]; exact t.st _ w w' Tu _ (h.things j t hj ht (used_up hn)) kU (farT j t hj ht hn)
    · rcases up_cases hj with rfl | ⟨_, hj⟩
      · rw [eg] at ht; cases ht
      · exact h.grew j t hj ht
    · rcases up_cases ha with rfl | ⟨_, ha⟩
      · rw [eg] at hta; cases hta
      · rcases up_cases hb with rfl | ⟨_, hb⟩
        · rw [eg] at htb; cases htb
        · exact h.tt a b t t' hab ha hb hta htb (used_up hna) (used_up hnb)
    · rcases up_cases ha with rfl | ⟨_, ha⟩
      · rw [eg] at hta; cases hta
      · exact h.te a e t E ha hta (used_up hna) he (used_up hne)
  | new y =>
    rw [eg] at hx
    obtain ⟨kU, T', hB, hG⟩ := hx
    have fi : setT Tf i T' i = T' := if_pos rfl
    have fj : ∀ c, c ≠ i → setT Tf i T' c = Tf c := fun c hc => if_neg hc
    have nT : ∀ j t, L j = true → Gs.getD j Pm.none = .new t → ¬ usedM Uz (upL L i) (true, j) → Apart T' (Tf j) := fun j t hj ht hn => ((farT j t hj ht hn).symm).grew hG (t.li _ w _ (h.things j t hj ht (used_up hn)))
    refine ⟨setT Tf i T', hkS kU, fun j z hj hz => ?_, fun j t hj ht hn => ?_, fun e E he hn => (E.st w w' Tu (h.olds e E he (used_up hn)) kU (farE e E he hn)), fun j t hj ht => ?_, fun a b t t' hab ha hb hta htb hna hnb => ?_, fun a e t E ha hta hna he hne => ?_, hcl⟩
    · rcases up_cases hj with rfl | ⟨hji, hj⟩
      · rw [eg] at hz; cases hz
      · rw [show upV v i x j = v j from if_neg hji]; exact h.vals j z hj hz
    · rcases up_cases hj with rfl | ⟨hji, hj⟩
      · rw [eg] at ht; cases ht
        rw [show upV v j x j = x from if_pos rfl, fi]; exact hB
      · rw [show upV v i x j = v j from if_neg hji, fj j hji]; exact t.st _ w w' Tu _ (h.things j t hj ht (used_up hn)) kU (farT j t hj ht hn)
    · rcases up_cases hj with rfl | ⟨hji, hj⟩
      · rw [fi]
        exact fun b hb => (hG b hb).elim (fun z => hgu b z) (fun z => .inr (Nat.le_trans h.kept.size z))
      · rw [fj j hji]; exact h.grew j t hj ht
    · rcases up_cases ha with rfl | ⟨hai, ha2⟩
      · rcases up_cases hb with rfl | ⟨hbi, hb2⟩
        · exact absurd rfl hab
        · rw [fi, fj b hbi]; exact nT b t' hb2 htb hnb
      · rcases up_cases hb with rfl | ⟨hbi, hb2⟩
        · rw [fi, fj a hai]; exact (nT a t ha2 hta hna).symm
        · rw [fj a hai, fj b hbi]; exact h.tt a b t t' hab ha2 hb2 hta htb (used_up hna) (used_up hnb)
    · rcases up_cases ha with rfl | ⟨hai, ha⟩
      · rw [fi]; exact ((farE e E he hne).symm).grew hG (E.li w (h.olds e E he (used_up hne)))
      · rw [fj a hai]; exact h.te a e t E ha hta (used_up hna) he (used_up hne)
def freeB (Uz : List (Option (Bool × Nat))) (M : List (Nat × Nat)) (i : Nat) (q : Bool × Nat) : Bool := (List.range Uz.length).all fun k => !(usM Uz k == some q) || k == i || M.contains (k, i)
def thingM (w0 : World) (Gs : List Pm) (Uz : List (Option (Bool × Nat))) (Bs : List (Nat → Prop)) (M : List (Nat × Nat)) (i j : Nat) (x : Value) (w : World) : Prop := match Gs.getD j Pm.none with
  | .eq _ => True
  | .new t => freeB Uz M i (true, j) = true → ∃ T, t.B x T w ∧ Grew w0 (Bs.getD j noB) T
def valM (Gs : List Pm) (j : Nat) (x : Value) : Prop := match Gs.getD j Pm.none with
  | .eq y => x = y
  | .new _ => True
def ToldM (w0 : World) (Gs : List Pm) (Uz : List (Option (Bool × Nat))) (Bs : List (Nat → Prop)) (M : List (Nat × Nat)) (i : Nat) : Nat → Value → World → Prop := fun j x w => valM Gs j x ∧ thingM w0 Gs Uz Bs M i j x w ∧ ∀ k, (j, k) ∈ M → ∃ y, thingM w0 Gs Uz Bs M i k y w
def AheadM (Uz : List (Option (Bool × Nat))) (Es : List Eld) (M : List (Nat × Nat)) (i : Nat) (w : World) : Prop := ∀ (e : Nat) (E : Eld), Es[e]? = some E → freeB Uz M i (false, e) = true → E.A w
def UseM (w0 : World) (D : List (Option Tmp)) (Gs : List Pm) (Uz : List (Option (Bool × Nat))) (Es : List Eld) (Bs : List (Nat → Prop)) (F : Nat → Value) (w : World) (i : Nat) (Tu : Nat → Prop) : Prop := match usM Uz i with
  | none => Tu = noB
  | some (true, j) => ∀ t, Gs.getD j Pm.none = .new t → ∃ x, t.B x Tu w ∧ Grew w0 (Bs.getD j noB) Tu ∧ ∀ d, D.getD j none = some d → F d = x
  | some (false, e) => ∀ E, Es[e]? = some E → Tu = E.T ∧ E.A w
section
variable {P : Program} {N : Nat} {F : Nat → Value} {w : World} {Q : Exit → (Nat → Value) → World → Prop} {S : Nat → Prop} {M : List (Nat × Nat)} {D : List (Option Tmp)} {Gs : List Pm} {Uz : List (Option (Bool × Nat))} {Es : List Eld} {Bs : List (Nat → Prop)}
def StepFM (S : Nat → Prop) (M : List (Nat × Nat)) (N : Nat) (P : Program) (D : List (Option Tmp)) (Gs : List Pm) (Uz : List (Option (Bool × Nat))) (Es : List Eld) (Bs : List (Nat → Prop)) (F0 : Nat → Value) (w0 : World) (i : Nat) (o : Oper) : Prop :=
  ∀ (F : Nat → Value) (w : World) (Tu : Nat → Prop), Kept S w0 w → (∀ t, Nat.blt t N = true → some t ∉ D → F t = F0 t) → DepsF D (ToldM w0 Gs Uz Bs M i) F w o.after.toList → AheadM Uz Es M i w → UseM w0 D Gs Uz Es Bs F w i Tu →
    match o.guard with
    | none => Yields P (ev F) o w (LeftM Gs i Tu w)
    | some (j, want) => ∃ d, D.getD j none = some d ∧
      ((F d = .bool want ∧ Yields P (ev F) o w (LeftM Gs i Tu w)) ∨ ((F d = .bool (!want) ∨ F d = undef) ∧ Gs.getD i Pm.none = .eq undef))
def StepsFM (S : Nat → Prop) (M : List (Nat × Nat)) (N : Nat) (P : Program) (D : List (Option Tmp)) (Gs : List Pm) (Uz : List (Option (Bool × Nat))) (Es : List Eld) (Bs : List (Nat → Prop)) (F0 : Nat → Value) (w0 : World) : Nat → List Oper → Prop
  | _, [] => True
  | i, o :: r => StepFM S M N P D Gs Uz Es Bs F0 w0 i o ∧ StepsFM S M N P D Gs Uz Es Bs F0 w0 (i + 1) r
theorem StepFM.one {F0 : Nat → Value} {w0 : World} {i : Nat} {o : Oper} (hg : o.guard = none) (hu : usM Uz i = none)
    (h : ∀ (F : Nat → Value) (w : World), Kept S w0 w → (∀ t, Nat.blt t N = true → some t ∉ D → F t = F0 t) → DepsF D (ToldM w0 Gs Uz Bs M i) F w o.after.toList → AheadM Uz Es M i w → Yields P (ev F) o w (LeftM Gs i noB w)) : StepFM S M N P D Gs Uz Es Bs F0 w0 i o := by
  intro F w Tu h1 h2 h3 h4 h5
  unfold UseM at h5
  rw [hu] at h5; simp only at h5; subst h5
  rw [hg]; exact h F w h1 h2 h3 h4
theorem StepFM.when {F0 : Nat → Value} {w0 : World} {i : Nat} {o : Oper} (j : Nat) (want : Bool) (d : Tmp) (hg : o.guard = some (j, want)) (hd : D.getD j none = some d) (hu : usM Uz i = none)
    (h : ∀ (F : Nat → Value) (w : World), Kept S w0 w → (∀ t, Nat.blt t N = true → some t ∉ D → F t = F0 t) → DepsF D (ToldM w0 Gs Uz Bs M i) F w o.after.toList → AheadM Uz Es M i w → F d = .bool want ∧ Yields P (ev F) o w (LeftM Gs i noB w)) : StepFM S M N P D Gs Uz Es Bs F0 w0 i o := by
  intro F w Tu h1 h2 h3 h4 h5
  unfold UseM at h5
  rw [hu] at h5; simp only at h5; subst h5
  rw [hg]; exact ⟨d, hd, .inl (h F w h1 h2 h3 h4)⟩
theorem free_not {L : Nat → Bool} {i : Nat} {q : Bool × Nat} (hi : L i = false) (hc : ∀ j k, (j, k) ∈ M → L j = true → L k = true) (h : freeB Uz M i q = true) : ¬ usedM Uz L q := fun ⟨k, hk, hl⟩ => by
  have := List.all_eq_true.1 h k (List.mem_range.2 (us_lt hk))
  simp only [hk, beq_self_eq_true, Bool.not_true, Bool.false_or, Bool.or_eq_true, beq_iff_eq] at this
  rcases this with e | e
  · rw [e, hi] at hl; cases hl
  · have := hc k i (by simpa using e) hl; rw [hi] at this; cases this
theorem StepFM.step {os : List Oper} {w0 : World} {i : Nat} {o : Oper} {a0 : Act} (hwf : wfU os Gs Es.length Uz = true) (hlen : Uz.length = os.length) (hBs : BsL Es Bs Uz Bs) (hSub : SubL S Bs) (hE : EldsM S w0 Es) (hmo : mustOk os M = true) (hio : os[i]? = some o) (ha : Fr N F a0) (h : StepFM S M N P D Gs Uz Es Bs F w0 i o) : StepJ os P D (fun L v w => ∃ Tf, JM S w0 Gs Uz Es Bs M L v Tf w) a0 i o := by
  rintro L v a w ⟨Tf, hJ⟩ hi hdone hout hhere _
  have hi' : i < os.length := by
    rcases Nat.lt_or_ge i os.length with h' | h'
    · exact h'
    · rw [List.getElem?_eq_none h'] at hio; cases hio
  have key : ∀ c, L c = true → ∀ x, (∀ d, D[c]? = some (some d) → x = v c) → (x = v c) → thingM w0 Gs Uz Bs M i c x w := fun c hc x _ hx => by
    unfold thingM
    cases e' : Gs.getD c Pm.none with
    | eq y => trivial
    | new t =>
      intro hf
      rw [hx]
      exact ⟨Tf c, hJ.things c t hc e' (free_not hi hJ.clos hf), hJ.grew c t hc e'⟩
  have hDe : ∀ c d, D.getD c none = some d → D[c]? = some (some d) := fun c d hd => by
    unfold List.getD at hd
    cases hq : D[c]? with
    | none => rw [hq] at hd; cases hd
    | some y => rw [hq] at hd; simp at hd; rw [hd]
  have hdeps : DepsF D (ToldM w0 Gs Uz Bs M i) (fun t => a.tmps.getD t undef) w o.after.toList := by
    refine Deps.toF (Deps.mk fun e he hb d hd => ?_)
    have hl := hdone e he hb
    rw [hhere e.on d hl (hDe e.on d hd)]
    refine ⟨?_, key e.on hl _ (fun _ _ => rfl) rfl, fun c hc => ⟨v c, key c (hJ.clos _ _ hc hl) _ (fun _ _ => rfl) rfl⟩⟩
    unfold valM
    cases e' : Gs.getD e.on Pm.none with
    | eq y => exact hJ.vals e.on y hl e'
    | new t => trivial
  have hM : ∀ k, (i, k) ∈ M → L k = true := fun k hk => by
    have := List.all_eq_true.1 hmo _ hk
    simp only [hio] at this
    obtain ⟨e, he, hb⟩ := List.any_eq_true.1 this
    simp only [Bool.and_eq_true, Bool.or_eq_true, beq_iff_eq] at hb
    have hl := hdone e he hb.1
    rcases hb.2 with h1 | h1
    · rw [← h1]; exact hl
    · exact hJ.clos _ _ (by simpa using h1) hl
  have hU : ∀ j, usM Uz i = some (true, j) → L j = true := fun j hj => by
    obtain ⟨_, o', ho', e, he, hb, hej⟩ := wfU_at hwf hj
    rw [hio] at ho'; cases ho'
    rw [← hej]; exact hdone e he hb
  have huq : uniqB Uz = true := by unfold wfU at hwf; simp only [Bool.and_eq_true] at hwf; exact hwf.1
  have free : ∀ q, usM Uz i = some q → ¬ usedM Uz L q := fun q hq ⟨k, hk, hl⟩ => by
    rw [uniq_at huq hk hq, hi] at hl; cases hl
  obtain ⟨Tu, hTu⟩ : ∃ Tu, useT Uz Es Tf i Tu := by
    unfold useT
    cases usM Uz i with
    | none => exact ⟨noB, rfl⟩
    | some q =>
      obtain ⟨b, j⟩ := q
      cases b with
      | true => exact ⟨Tf j, rfl⟩
      | false =>
        cases he : Es[j]? with
        | none => exact ⟨noB, fun E hE => by rw [he] at hE; cases hE⟩
        | some E => exact ⟨E.T, fun E' hE' => by rw [he] at hE'; cases hE'; rfl⟩
  have huse : UseM w0 D Gs Uz Es Bs (fun t => a.tmps.getD t undef) w i Tu := by
    have hTu' := hTu
    unfold useT at hTu'
    unfold UseM
    cases hu : usM Uz i with
    | none => rw [hu] at hTu'; exact hTu'
    | some q =>
      obtain ⟨b, j⟩ := q
      rw [hu] at hTu'
      cases b with
      | true =>
        simp only at hTu' ⊢
        subst hTu'
        exact fun t ht => ⟨v j, hJ.things j t (hU j hu) ht (free _ hu), hJ.grew j t (hU j hu) ht, fun d hd => hhere j d (hU j hu) (hDe j d hd)⟩
      | false => exact fun E hE' => ⟨hTu' E hE', hJ.olds j E hE' (free _ hu)⟩
  have h1 := h (fun t => a.tmps.getD t undef) w Tu hJ.kept (fun t hb ht => by rw [← ha.at' t hb]; exact hout t ht) hdeps (fun e E he hf => hJ.olds e E he (free_not hi hJ.clos hf)) huse
  have more : ∀ (x : Value) (w' : World), LeftM Gs i Tu w x w' → ∃ Tf', JM S w0 Gs Uz Es Bs M (upL L i) (upV v i x) Tf' w' := fun x w' hx => JM.more hwf hlen hi' hBs hSub hE hJ hi hM hU hTu hx
  rw [← eval_ev a] at h1
  unfold goes
  cases hg : o.guard with
  | none => rw [hg] at h1; exact ⟨fun _ => h1.mono' fun x w' hx => more x w' hx, fun e => by cases e⟩
  | some g =>
    obtain ⟨j, want⟩ := g
    rw [hg] at h1
    obtain ⟨d, hd, h1⟩ := h1
    simp only [hd]
    have hev : a.eval (.tmp d) = a.tmps.getD d undef := rfl
    rcases h1 with ⟨hv, hy⟩ | ⟨hv, hs⟩
    · rw [hev, hv]; exact ⟨fun _ => hy.mono' fun x w' hx => more x w' hx, fun e => by simp at e⟩
    · refine ⟨fun e => ?_, fun _ => more undef w (by unfold LeftM; rw [hs]; exact ⟨rfl, Kept.refl _ _⟩)⟩
      rcases hv with hv | hv
      · rw [hev, hv] at e; cases want <;> simp at e
      · rw [hev, hv] at e; simp [undef] at e
theorem StepsFM.steps {all : List Oper} {w0 : World} {a0 : Act} (hwf : wfU all Gs Es.length Uz = true) (hlen : Uz.length = all.length) (hBs : BsL Es Bs Uz Bs) (hSub : SubL S Bs) (hE : EldsM S w0 Es) (hmo : mustOk all M = true) (ha : Fr N F a0) : ∀ {os : List Oper} {i : Nat}, (∀ k o, os[k]? = some o → all[i + k]? = some o) → StepsFM S M N P D Gs Uz Es Bs F w0 i os → StepsJ all P D (fun L v w => ∃ Tf, JM S w0 Gs Uz Es Bs M L v Tf w) a0 i os := by
  intro os
  induction os with
  | nil => intro i _ _; exact trivial
  | cons o r ih =>
    intro i hat h
    exact ⟨h.1.step hwf hlen hBs hSub hE hmo (hat 0 o rfl) ha, ih (fun k o' hk => by have := hat (k + 1) o' hk; rwa [show i + (k + 1) = i + 1 + k by omega] at this) h.2⟩
end
end Go.Proofs.YtknjpdcpmpfklaaGreatDoor
set_option maxRecDepth 100000
namespace Go.Proofs.YtknjpdcpmpfklaaGreatDoor
open Go.RowKit
theorem stcT_seq : StcT Tryz.prog 23 4 := ⟨_, Tryz.underlying23, rfl, by kernel_rfl⟩
theorem stcT_head : StcT Tryz.prog 25 4 := ⟨_, Tryz.underlying25, rfl, by kernel_rfl⟩
theorem tmod8 {n : Int} (h : 8 ≤ n) : Int.tmod n 8 = n % 8 := Int.tmod_eq_emod_of_nonneg (by omega)
theorem href_side (n : Int) (w0 : World) :
  Calls Tryz.prog 65 #[.int .i64 (n)] w0 fun e w' => e = .returned (.bool (decide (sideOk n))) ∧ Kept (fun _ => False) w0 w' := by
 refine calls_wq (args := [iv n]) 14 Tryz.func65 rfl rfl (Nat.le_of_ble_eq_true rfl) ?_
 have K0 := Kept.refl (fun _ => False) w0
 refine wq_seq (wq_region (wl_v (.bool false) rfl rfl (y_asg rfl rfl rr) (wl_nil fun F1 hF2 => ?_)))
 have s3 : F1 0 = iv n := (hF2 0).trans rfl
 have s4 : F1 14 = undef := (hF2 14).trans rfl
 clear hF2
 refine then_normal (wq_seq ?_)
 by_cases d5 : 8 ≤ n
 ·skip
  by_cases d6 : n ≤ 64
  ·skip
   refine wq_region (wl_mv rfl rfl rfl s3 (wl_v (.bool true) rfl rfl (y_geq rfl rfl rfl (decide_eq_true d5) rr) (wl_v (.bool true) rfl rfl (y_mov rfl rfl rr) (wl_vw (iv n) 2 true 5 rfl rfl rfl rfl rfl (y_mov rfl s3 rr) (wl_vw (.bool true) 2 true 5 rfl rfl rfl rfl rfl (y_leq rfl rfl rfl (decide_eq_true d6) rr) (wl_v (.bool true) rfl rfl (y_pickT rfl rfl rfl rr) (wl_v (.bool true) rfl rfl (y_mov rfl rfl rr) (wl_vw (iv n) 6 true 9 rfl rfl rfl rfl rfl (y_mov rfl s3 rr) (wl_vw (iv (n % 8)) 6 true 9 rfl rfl rfl rfl rfl (y_rem rfl rfl rfl (by first | decide | omega) (tmod8 (by omega)) rr) (wl_vw (.bool (decide ((n % 8) = 0))) 6 true 9 rfl rfl rfl rfl rfl (y_eqlI rfl rfl rfl rfl rr) (wl_v (.bool (decide ((n % 8) = 0))) rfl rfl (y_pickT rfl rfl rfl rr) ?_)))))))))))
   refine wl_v (.bool (decide ((n % 8) = 0))) rfl rfl (y_asg rfl rfl rr) (wl_nil fun F7 hF8 => ?_)
   have s9 := (hF8 14).trans s4
   have s10 : F7 2 = .bool (decide ((n % 8) = 0)) := (hF8 2).trans rfl
   clear hF8
   refine then_normal (wq_ret ?_)
   exact end_tmp (v := .bool (decide ((n % 8) = 0))) s9 rfl rfl s10 ⟨(by first | rw [decide_eq_true (p := sideOk n) (by unfold sideOk; omega)] | rw [decide_eq_false (p := sideOk n) (by unfold sideOk; omega)] | rw [show decide (sideOk n) = decide (n % 8 = 0) from decide_eq_decide.2 (by unfold sideOk; omega)]), K0⟩
  ·skip
   refine wq_region (wl_mv rfl rfl rfl s3 (wl_v (.bool true) rfl rfl (y_geq rfl rfl rfl (decide_eq_true d5) rr) (wl_v (.bool true) rfl rfl (y_mov rfl rfl rr) (wl_vw (iv n) 2 true 5 rfl rfl rfl rfl rfl (y_mov rfl s3 rr) (wl_vw (.bool false) 2 true 5 rfl rfl rfl rfl rfl (y_leq rfl rfl rfl (decide_eq_false d6) rr) (wl_v (.bool false) rfl rfl (y_pickT rfl rfl rfl rr) (wl_v (.bool false) rfl rfl (y_mov rfl rfl rr) (wl_unless 6 true 9 rfl rfl rfl (Or.inl rfl) rfl (wl_unless 6 true 9 rfl rfl rfl (Or.inl rfl) rfl (wl_unless 6 true 9 rfl rfl rfl (Or.inl rfl) rfl (wl_v (.bool false) rfl rfl (y_pickF rfl rfl rfl rr) ?_)))))))))))
   refine wl_v (.bool false) rfl rfl (y_asg rfl rfl rr) (wl_nil fun F11 hF12 => ?_)
   have s13 := (hF12 14).trans s4
   have s14 : F11 2 = .bool false := (hF12 2).trans rfl
   clear hF12
   refine then_normal (wq_ret ?_)
   exact end_tmp (v := .bool false) s13 rfl rfl s14 ⟨(by first | rw [decide_eq_true (p := sideOk n) (by unfold sideOk; omega)] | rw [decide_eq_false (p := sideOk n) (by unfold sideOk; omega)] | rw [show decide (sideOk n) = decide (n % 8 = 0) from decide_eq_decide.2 (by unfold sideOk; omega)]), K0⟩
 ·skip
  refine wq_region (wl_mv rfl rfl rfl s3 (wl_v (.bool false) rfl rfl (y_geq rfl rfl rfl (decide_eq_false d5) rr) (wl_v (.bool false) rfl rfl (y_mov rfl rfl rr) (wl_unless 2 true 5 rfl rfl rfl (Or.inl rfl) rfl (wl_unless 2 true 5 rfl rfl rfl (Or.inl rfl) rfl (wl_v (.bool false) rfl rfl (y_pickF rfl rfl rfl rr) (wl_v (.bool false) rfl rfl (y_mov rfl rfl rr) (wl_unless 6 true 9 rfl rfl rfl (Or.inl rfl) rfl (wl_unless 6 true 9 rfl rfl rfl (Or.inl rfl) rfl (wl_unless 6 true 9 rfl rfl rfl (Or.inl rfl) rfl (wl_v (.bool false) rfl rfl (y_pickF rfl rfl rfl rr) ?_)))))))))))
  refine wl_v (.bool false) rfl rfl (y_asg rfl rfl rr) (wl_nil fun F15 hF16 => ?_)
  have s17 := (hF16 14).trans s4
  have s18 : F15 2 = .bool false := (hF16 2).trans rfl
  clear hF16
  refine then_normal (wq_ret ?_)
  exact end_tmp (v := .bool false) s17 rfl rfl s18 ⟨(by first | rw [decide_eq_true (p := sideOk n) (by unfold sideOk; omega)] | rw [decide_eq_false (p := sideOk n) (by unfold sideOk; omega)] | rw [show decide (sideOk n) = decide (n % 8 = 0) from decide_eq_decide.2 (by unfold sideOk; omega)]), K0⟩
theorem href_seq (W H R B : Int) (w0 : World) :
  Calls Tryz.prog 32 #[.agg #[.int .i64 (W), .int .i64 (H), .int .i64 (R), .int .i64 (B)]] w0 fun e w' => e = .returned (.int .i64 (seqE W H R B)) ∧ Kept (fun _ => False) w0 w' := by
 refine calls_wq (args := [.agg #[iv W, iv H, iv R, iv B]]) 35 Tryz.func32 rfl rfl (Nat.le_of_ble_eq_true rfl) ?_
 have K0 := Kept.refl (fun _ => False) w0
 refine wq_seq (wq_region (wl_box_stc (vs := [iv W, iv H, iv R, iv B]) rfl rfl rfl rfl fun p1 w2 B4 g5 k3 => ?_))
 have K7 := K0.tr k3
 refine wl_v (iv 0) rfl rfl (y_asg rfl rfl rr) (wl_nil fun F8 hF9 => ?_)
 have s10 : F8 35 = undef := (hF9 35).trans rfl
 have s11 : F8 1 = pt p1 0 := (hF9 1).trans rfl
 clear hF9
 refine then_normal (wq_seq (wq_seq ?_))
 rcases Bool.eq_false_or_eq_true (decide (sideOk W)) with d12 | d12
 ·skip
  rcases Bool.eq_false_or_eq_true (decide (sideOk H)) with d13 | d13
  ·skip
   by_cases d14 : R < 1
   ·skip
    refine wq_region (wl_v (pt p1 0) rfl rfl (y_fieldR (n := 1) rfl s11 Tryz.underlying23 rfl (by kernel_rfl) (by decide) rfl rr) (wl_v (iv W) rfl rfl (y_ld_stc rfl rfl Tryz.underlying3 B4 rfl rfl rr) (wl_call (R := fun v_ w_ => v_ = .bool true ∧ Kept (fun _ => False) w2 w_) rfl rfl (y_cs rfl rfl rfl (fun _ _ => by kernel_rfl) (ev_func _) (vsC rfl vsN) (href_side W  _   ) (fun e_ w_ h_ => ⟨_, h_.1, (congrArg Value.bool d12), h_.2⟩)) ?_)))
    rintro _ w15 ⟨rfl, k16⟩
    have B17 := B4.all k16 id
    have K18 := K7.tr k16
    refine wl_v (.bool false) rfl rfl (y_not rfl rfl rfl rr) (wl_v (.bool false) rfl rfl (y_mov rfl rfl rr) (wl_vw (pt p1 1) 4 false 7 rfl rfl rfl rfl rfl (y_fieldR (n := 1) rfl s11 Tryz.underlying23 rfl (by kernel_rfl) (by decide) rfl rr) (wl_vw (iv H) 4 false 7 rfl rfl rfl rfl rfl (y_ld_stc rfl rfl Tryz.underlying3 B17 rfl rfl rr) (wl_callw (R := fun v_ w_ => v_ = .bool true ∧ Kept (fun _ => False) w15 w_) 4 false 7 rfl rfl rfl rfl rfl (y_cs rfl rfl rfl (fun _ _ => by kernel_rfl) (ev_func _) (vsC rfl vsN) (href_side H  _   ) (fun e_ w_ h_ => ⟨_, h_.1, (congrArg Value.bool d13), h_.2⟩)) ?_))))
    rintro _ w19 ⟨rfl, k20⟩
    have B21 := B17.all k20 id
    have K22 := K18.tr k20
    refine wl_vw (.bool false) 4 false 7 rfl rfl rfl rfl rfl (y_not rfl rfl rfl rr) (wl_v (.bool false) rfl rfl (y_pickF rfl rfl rfl rr) (wl_v (.bool false) rfl rfl (y_mov rfl rfl rr) (wl_vw (pt p1 2) 10 false 13 rfl rfl rfl rfl rfl (y_fieldR (n := 1) rfl s11 Tryz.underlying23 rfl (by kernel_rfl) (by decide) rfl rr) (wl_vw (iv R) 10 false 13 rfl rfl rfl rfl rfl (y_ld_stc rfl rfl Tryz.underlying3 B21 rfl rfl rr) (wl_vw (.bool true) 10 false 13 rfl rfl rfl rfl rfl (y_lss rfl rfl rfl (decide_eq_true d14) rr) (wl_v (.bool true) rfl rfl (y_pickF rfl rfl rfl rr) (wl_v (.bool true) rfl rfl (y_mov rfl rfl rr) (wl_unless 15 false 18 rfl rfl rfl (Or.inl rfl) rfl (wl_unless 15 false 18 rfl rfl rfl (Or.inl rfl) rfl (wl_unless 15 false 18 rfl rfl rfl (Or.inl rfl) rfl (wl_v (.bool true) rfl rfl (y_pickT rfl rfl rfl rr) ?_)))))))))))
    refine wl_v (.bool true) rfl rfl (y_mov rfl rfl rr) (wl_unless 20 false 23 rfl rfl rfl (Or.inl rfl) rfl (wl_unless 20 false 23 rfl rfl rfl (Or.inl rfl) rfl (wl_unless 20 false 23 rfl rfl rfl (Or.inl rfl) rfl (wl_unless 20 false 23 rfl rfl rfl (Or.inl rfl) rfl (wl_unless 20 false 23 rfl rfl rfl (Or.inl rfl) rfl (wl_v (.bool true) rfl rfl (y_pickT rfl rfl rfl rr) (wl_v (.bool true) rfl rfl (y_mov rfl rfl rr) (wl_unless 27 false 30 rfl rfl rfl (Or.inl rfl) rfl (wl_unless 27 false 30 rfl rfl rfl (Or.inl rfl) rfl (wl_unless 27 false 30 rfl rfl rfl (Or.inl rfl) rfl (wl_v (.bool true) rfl rfl (y_pickT rfl rfl rfl rr) ?_)))))))))))
    refine wl_nil fun F23 hF24 => ?_
    have s25 := (hF24 35).trans s10
    have s26 : F23 34 = .bool true := (hF24 34).trans rfl
    clear hF24
    refine then_normal ?_
    refine wq_cond (t := true) s26 (fun _ => ?_) (fun e => by cases e)
    refine wq_seq (wq_region (wl_v (iv 110) rfl rfl (y_asg rfl rfl rr) (wl_nil fun F27 hF28 => ?_)))
    have s29 := (hF28 35).trans s25
    have s30 : F27 2 = iv 110 := (hF28 2).trans rfl
    clear hF28
    refine then_normal (wq_ret (then_ret ?_))
    exact end_tmp (v := iv 110) s29 rfl rfl s30 ⟨(by first | rw [show seqE W H R B = 0 from if_pos ⟨of_decide_eq_true (by assumption), of_decide_eq_true (by assumption), by omega, by omega, by omega, by omega⟩] | rw [show seqE W H R B = 110 from if_neg (by unfold seqOk; rintro ⟨h1, h2, h3, h4, h5, h6⟩; first | omega | (exact absurd h1 (of_decide_eq_false (by assumption))) | (exact absurd h2 (of_decide_eq_false (by assumption))) | (simp_all; done))]), K22⟩
   ·skip
    by_cases d31 : 16777216 < R
    ·skip
     refine wq_region (wl_v (pt p1 0) rfl rfl (y_fieldR (n := 1) rfl s11 Tryz.underlying23 rfl (by kernel_rfl) (by decide) rfl rr) (wl_v (iv W) rfl rfl (y_ld_stc rfl rfl Tryz.underlying3 B4 rfl rfl rr) (wl_call (R := fun v_ w_ => v_ = .bool true ∧ Kept (fun _ => False) w2 w_) rfl rfl (y_cs rfl rfl rfl (fun _ _ => by kernel_rfl) (ev_func _) (vsC rfl vsN) (href_side W  _   ) (fun e_ w_ h_ => ⟨_, h_.1, (congrArg Value.bool d12), h_.2⟩)) ?_)))
     rintro _ w32 ⟨rfl, k33⟩
     have B34 := B4.all k33 id
     have K35 := K7.tr k33
     refine wl_v (.bool false) rfl rfl (y_not rfl rfl rfl rr) (wl_v (.bool false) rfl rfl (y_mov rfl rfl rr) (wl_vw (pt p1 1) 4 false 7 rfl rfl rfl rfl rfl (y_fieldR (n := 1) rfl s11 Tryz.underlying23 rfl (by kernel_rfl) (by decide) rfl rr) (wl_vw (iv H) 4 false 7 rfl rfl rfl rfl rfl (y_ld_stc rfl rfl Tryz.underlying3 B34 rfl rfl rr) (wl_callw (R := fun v_ w_ => v_ = .bool true ∧ Kept (fun _ => False) w32 w_) 4 false 7 rfl rfl rfl rfl rfl (y_cs rfl rfl rfl (fun _ _ => by kernel_rfl) (ev_func _) (vsC rfl vsN) (href_side H  _   ) (fun e_ w_ h_ => ⟨_, h_.1, (congrArg Value.bool d13), h_.2⟩)) ?_))))
     rintro _ w36 ⟨rfl, k37⟩
     have B38 := B34.all k37 id
     have K39 := K35.tr k37
     refine wl_vw (.bool false) 4 false 7 rfl rfl rfl rfl rfl (y_not rfl rfl rfl rr) (wl_v (.bool false) rfl rfl (y_pickF rfl rfl rfl rr) (wl_v (.bool false) rfl rfl (y_mov rfl rfl rr) (wl_vw (pt p1 2) 10 false 13 rfl rfl rfl rfl rfl (y_fieldR (n := 1) rfl s11 Tryz.underlying23 rfl (by kernel_rfl) (by decide) rfl rr) (wl_vw (iv R) 10 false 13 rfl rfl rfl rfl rfl (y_ld_stc rfl rfl Tryz.underlying3 B38 rfl rfl rr) (wl_vw (.bool false) 10 false 13 rfl rfl rfl rfl rfl (y_lss rfl rfl rfl (decide_eq_false d14) rr) (wl_v (.bool false) rfl rfl (y_pickF rfl rfl rfl rr) (wl_v (.bool false) rfl rfl (y_mov rfl rfl rr) (wl_vw (pt p1 2) 15 false 18 rfl rfl rfl rfl rfl (y_fieldR (n := 1) rfl s11 Tryz.underlying23 rfl (by kernel_rfl) (by decide) rfl rr) (wl_vw (iv R) 15 false 18 rfl rfl rfl rfl rfl (y_ld_stc rfl rfl Tryz.underlying3 B38 rfl rfl rr) (wl_vw (.bool true) 15 false 18 rfl rfl rfl rfl rfl (y_gtr rfl rfl rfl (decide_eq_true d31) rr) (wl_v (.bool true) rfl rfl (y_pickF rfl rfl rfl rr) ?_)))))))))))
     refine wl_v (.bool true) rfl rfl (y_mov rfl rfl rr) (wl_unless 20 false 23 rfl rfl rfl (Or.inl rfl) rfl (wl_unless 20 false 23 rfl rfl rfl (Or.inl rfl) rfl (wl_unless 20 false 23 rfl rfl rfl (Or.inl rfl) rfl (wl_unless 20 false 23 rfl rfl rfl (Or.inl rfl) rfl (wl_unless 20 false 23 rfl rfl rfl (Or.inl rfl) rfl (wl_v (.bool true) rfl rfl (y_pickT rfl rfl rfl rr) (wl_v (.bool true) rfl rfl (y_mov rfl rfl rr) (wl_unless 27 false 30 rfl rfl rfl (Or.inl rfl) rfl (wl_unless 27 false 30 rfl rfl rfl (Or.inl rfl) rfl (wl_unless 27 false 30 rfl rfl rfl (Or.inl rfl) rfl (wl_v (.bool true) rfl rfl (y_pickT rfl rfl rfl rr) ?_)))))))))))
     refine wl_nil fun F40 hF41 => ?_
     have s42 := (hF41 35).trans s10
     have s43 : F40 34 = .bool true := (hF41 34).trans rfl
     clear hF41
     refine then_normal ?_
     refine wq_cond (t := true) s43 (fun _ => ?_) (fun e => by cases e)
     refine wq_seq (wq_region (wl_v (iv 110) rfl rfl (y_asg rfl rfl rr) (wl_nil fun F44 hF45 => ?_)))
     have s46 := (hF45 35).trans s42
     have s47 : F44 2 = iv 110 := (hF45 2).trans rfl
     clear hF45
     refine then_normal (wq_ret (then_ret ?_))
     exact end_tmp (v := iv 110) s46 rfl rfl s47 ⟨(by first | rw [show seqE W H R B = 0 from if_pos ⟨of_decide_eq_true (by assumption), of_decide_eq_true (by assumption), by omega, by omega, by omega, by omega⟩] | rw [show seqE W H R B = 110 from if_neg (by unfold seqOk; rintro ⟨h1, h2, h3, h4, h5, h6⟩; first | omega | (exact absurd h1 (of_decide_eq_false (by assumption))) | (exact absurd h2 (of_decide_eq_false (by assumption))) | (simp_all; done))]), K39⟩
    ·skip
     by_cases d48 : B < R
     ·skip
      refine wq_region (wl_v (pt p1 0) rfl rfl (y_fieldR (n := 1) rfl s11 Tryz.underlying23 rfl (by kernel_rfl) (by decide) rfl rr) (wl_v (iv W) rfl rfl (y_ld_stc rfl rfl Tryz.underlying3 B4 rfl rfl rr) (wl_call (R := fun v_ w_ => v_ = .bool true ∧ Kept (fun _ => False) w2 w_) rfl rfl (y_cs rfl rfl rfl (fun _ _ => by kernel_rfl) (ev_func _) (vsC rfl vsN) (href_side W  _   ) (fun e_ w_ h_ => ⟨_, h_.1, (congrArg Value.bool d12), h_.2⟩)) ?_)))
      rintro _ w49 ⟨rfl, k50⟩
      have B51 := B4.all k50 id
      have K52 := K7.tr k50
      refine wl_v (.bool false) rfl rfl (y_not rfl rfl rfl rr) (wl_v (.bool false) rfl rfl (y_mov rfl rfl rr) (wl_vw (pt p1 1) 4 false 7 rfl rfl rfl rfl rfl (y_fieldR (n := 1) rfl s11 Tryz.underlying23 rfl (by kernel_rfl) (by decide) rfl rr) (wl_vw (iv H) 4 false 7 rfl rfl rfl rfl rfl (y_ld_stc rfl rfl Tryz.underlying3 B51 rfl rfl rr) (wl_callw (R := fun v_ w_ => v_ = .bool true ∧ Kept (fun _ => False) w49 w_) 4 false 7 rfl rfl rfl rfl rfl (y_cs rfl rfl rfl (fun _ _ => by kernel_rfl) (ev_func _) (vsC rfl vsN) (href_side H  _   ) (fun e_ w_ h_ => ⟨_, h_.1, (congrArg Value.bool d13), h_.2⟩)) ?_))))
      rintro _ w53 ⟨rfl, k54⟩
      have B55 := B51.all k54 id
      have K56 := K52.tr k54
      refine wl_vw (.bool false) 4 false 7 rfl rfl rfl rfl rfl (y_not rfl rfl rfl rr) (wl_v (.bool false) rfl rfl (y_pickF rfl rfl rfl rr) (wl_v (.bool false) rfl rfl (y_mov rfl rfl rr) (wl_vw (pt p1 2) 10 false 13 rfl rfl rfl rfl rfl (y_fieldR (n := 1) rfl s11 Tryz.underlying23 rfl (by kernel_rfl) (by decide) rfl rr) (wl_vw (iv R) 10 false 13 rfl rfl rfl rfl rfl (y_ld_stc rfl rfl Tryz.underlying3 B55 rfl rfl rr) (wl_vw (.bool false) 10 false 13 rfl rfl rfl rfl rfl (y_lss rfl rfl rfl (decide_eq_false d14) rr) (wl_v (.bool false) rfl rfl (y_pickF rfl rfl rfl rr) (wl_v (.bool false) rfl rfl (y_mov rfl rfl rr) (wl_vw (pt p1 2) 15 false 18 rfl rfl rfl rfl rfl (y_fieldR (n := 1) rfl s11 Tryz.underlying23 rfl (by kernel_rfl) (by decide) rfl rr) (wl_vw (iv R) 15 false 18 rfl rfl rfl rfl rfl (y_ld_stc rfl rfl Tryz.underlying3 B55 rfl rfl rr) (wl_vw (.bool false) 15 false 18 rfl rfl rfl rfl rfl (y_gtr rfl rfl rfl (decide_eq_false d31) rr) (wl_v (.bool false) rfl rfl (y_pickF rfl rfl rfl rr) ?_)))))))))))
      refine wl_v (.bool false) rfl rfl (y_mov rfl rfl rr) (wl_vw (pt p1 3) 20 false 23 rfl rfl rfl rfl rfl (y_fieldR (n := 1) rfl s11 Tryz.underlying23 rfl (by kernel_rfl) (by decide) rfl rr) (wl_vw (iv B) 20 false 23 rfl rfl rfl rfl rfl (y_ld_stc rfl rfl Tryz.underlying3 B55 rfl rfl rr) (wl_vw (pt p1 2) 20 false 23 rfl rfl rfl rfl rfl (y_fieldR (n := 1) rfl s11 Tryz.underlying23 rfl (by kernel_rfl) (by decide) rfl rr) (wl_vw (iv R) 20 false 23 rfl rfl rfl rfl rfl (y_ld_stc rfl rfl Tryz.underlying3 B55 rfl rfl rr) (wl_vw (.bool true) 20 false 23 rfl rfl rfl rfl rfl (y_lss rfl rfl rfl (decide_eq_true d48) rr) (wl_v (.bool true) rfl rfl (y_pickF rfl rfl rfl rr) (wl_v (.bool true) rfl rfl (y_mov rfl rfl rr) (wl_unless 27 false 30 rfl rfl rfl (Or.inl rfl) rfl (wl_unless 27 false 30 rfl rfl rfl (Or.inl rfl) rfl (wl_unless 27 false 30 rfl rfl rfl (Or.inl rfl) rfl (wl_v (.bool true) rfl rfl (y_pickT rfl rfl rfl rr) ?_)))))))))))
      refine wl_nil fun F57 hF58 => ?_
      have s59 := (hF58 35).trans s10
      have s60 : F57 34 = .bool true := (hF58 34).trans rfl
      clear hF58
      refine then_normal ?_
      refine wq_cond (t := true) s60 (fun _ => ?_) (fun e => by cases e)
      refine wq_seq (wq_region (wl_v (iv 110) rfl rfl (y_asg rfl rfl rr) (wl_nil fun F61 hF62 => ?_)))
      have s63 := (hF62 35).trans s59
      have s64 : F61 2 = iv 110 := (hF62 2).trans rfl
      clear hF62
      refine then_normal (wq_ret (then_ret ?_))
      exact end_tmp (v := iv 110) s63 rfl rfl s64 ⟨(by first | rw [show seqE W H R B = 0 from if_pos ⟨of_decide_eq_true (by assumption), of_decide_eq_true (by assumption), by omega, by omega, by omega, by omega⟩] | rw [show seqE W H R B = 110 from if_neg (by unfold seqOk; rintro ⟨h1, h2, h3, h4, h5, h6⟩; first | omega | (exact absurd h1 (of_decide_eq_false (by assumption))) | (exact absurd h2 (of_decide_eq_false (by assumption))) | (simp_all; done))]), K56⟩
     ·skip
      refine wq_region (wl_v (pt p1 0) rfl rfl (y_fieldR (n := 1) rfl s11 Tryz.underlying23 rfl (by kernel_rfl) (by decide) rfl rr) (wl_v (iv W) rfl rfl (y_ld_stc rfl rfl Tryz.underlying3 B4 rfl rfl rr) (wl_call (R := fun v_ w_ => v_ = .bool true ∧ Kept (fun _ => False) w2 w_) rfl rfl (y_cs rfl rfl rfl (fun _ _ => by kernel_rfl) (ev_func _) (vsC rfl vsN) (href_side W  _   ) (fun e_ w_ h_ => ⟨_, h_.1, (congrArg Value.bool d12), h_.2⟩)) ?_)))
      rintro _ w65 ⟨rfl, k66⟩
      have B67 := B4.all k66 id
      have K68 := K7.tr k66
      refine wl_v (.bool false) rfl rfl (y_not rfl rfl rfl rr) (wl_v (.bool false) rfl rfl (y_mov rfl rfl rr) (wl_vw (pt p1 1) 4 false 7 rfl rfl rfl rfl rfl (y_fieldR (n := 1) rfl s11 Tryz.underlying23 rfl (by kernel_rfl) (by decide) rfl rr) (wl_vw (iv H) 4 false 7 rfl rfl rfl rfl rfl (y_ld_stc rfl rfl Tryz.underlying3 B67 rfl rfl rr) (wl_callw (R := fun v_ w_ => v_ = .bool true ∧ Kept (fun _ => False) w65 w_) 4 false 7 rfl rfl rfl rfl rfl (y_cs rfl rfl rfl (fun _ _ => by kernel_rfl) (ev_func _) (vsC rfl vsN) (href_side H  _   ) (fun e_ w_ h_ => ⟨_, h_.1, (congrArg Value.bool d13), h_.2⟩)) ?_))))
      rintro _ w69 ⟨rfl, k70⟩
      have B71 := B67.all k70 id
      have K72 := K68.tr k70
      refine wl_vw (.bool false) 4 false 7 rfl rfl rfl rfl rfl (y_not rfl rfl rfl rr) (wl_v (.bool false) rfl rfl (y_pickF rfl rfl rfl rr) (wl_v (.bool false) rfl rfl (y_mov rfl rfl rr) (wl_vw (pt p1 2) 10 false 13 rfl rfl rfl rfl rfl (y_fieldR (n := 1) rfl s11 Tryz.underlying23 rfl (by kernel_rfl) (by decide) rfl rr) (wl_vw (iv R) 10 false 13 rfl rfl rfl rfl rfl (y_ld_stc rfl rfl Tryz.underlying3 B71 rfl rfl rr) (wl_vw (.bool false) 10 false 13 rfl rfl rfl rfl rfl (y_lss rfl rfl rfl (decide_eq_false d14) rr) (wl_v (.bool false) rfl rfl (y_pickF rfl rfl rfl rr) (wl_v (.bool false) rfl rfl (y_mov rfl rfl rr) (wl_vw (pt p1 2) 15 false 18 rfl rfl rfl rfl rfl (y_fieldR (n := 1) rfl s11 Tryz.underlying23 rfl (by kernel_rfl) (by decide) rfl rr) (wl_vw (iv R) 15 false 18 rfl rfl rfl rfl rfl (y_ld_stc rfl rfl Tryz.underlying3 B71 rfl rfl rr) (wl_vw (.bool false) 15 false 18 rfl rfl rfl rfl rfl (y_gtr rfl rfl rfl (decide_eq_false d31) rr) (wl_v (.bool false) rfl rfl (y_pickF rfl rfl rfl rr) ?_)))))))))))
      refine wl_v (.bool false) rfl rfl (y_mov rfl rfl rr) (wl_vw (pt p1 3) 20 false 23 rfl rfl rfl rfl rfl (y_fieldR (n := 1) rfl s11 Tryz.underlying23 rfl (by kernel_rfl) (by decide) rfl rr) (wl_vw (iv B) 20 false 23 rfl rfl rfl rfl rfl (y_ld_stc rfl rfl Tryz.underlying3 B71 rfl rfl rr) (wl_vw (pt p1 2) 20 false 23 rfl rfl rfl rfl rfl (y_fieldR (n := 1) rfl s11 Tryz.underlying23 rfl (by kernel_rfl) (by decide) rfl rr) (wl_vw (iv R) 20 false 23 rfl rfl rfl rfl rfl (y_ld_stc rfl rfl Tryz.underlying3 B71 rfl rfl rr) (wl_vw (.bool false) 20 false 23 rfl rfl rfl rfl rfl (y_lss rfl rfl rfl (decide_eq_false d48) rr) (wl_v (.bool false) rfl rfl (y_pickF rfl rfl rfl rr) (wl_v (.bool false) rfl rfl (y_mov rfl rfl rr) (wl_vw (pt p1 3) 27 false 30 rfl rfl rfl rfl rfl (y_fieldR (n := 1) rfl s11 Tryz.underlying23 rfl (by kernel_rfl) (by decide) rfl rr) (wl_vw (iv B) 27 false 30 rfl rfl rfl rfl rfl (y_ld_stc rfl rfl Tryz.underlying3 B71 rfl rfl rr) (wl_vw (.bool (decide (1073741824 < B))) 27 false 30 rfl rfl rfl rfl rfl (y_gtr rfl rfl rfl rfl rr) (wl_v (.bool (decide (1073741824 < B))) rfl rfl (y_pickF rfl rfl rfl rr) ?_)))))))))))
      refine wl_nil fun F73 hF74 => ?_
      have s75 := (hF74 35).trans s10
      have s76 : F73 34 = .bool (decide (1073741824 < B)) := (hF74 34).trans rfl
      clear hF74
      refine then_normal ?_
      refine wq_cond s76 (fun c77 => ?_) (fun c77 => ?_)
      ·replace c77 := of_decide_eq_true c77
       refine wq_seq (wq_region (wl_v (iv 110) rfl rfl (y_asg rfl rfl rr) (wl_nil fun F78 hF79 => ?_)))
       have s80 := (hF79 35).trans s75
       have s81 : F78 2 = iv 110 := (hF79 2).trans rfl
       clear hF79
       refine then_normal (wq_ret (then_ret ?_))
       exact end_tmp (v := iv 110) s80 rfl rfl s81 ⟨(by first | rw [show seqE W H R B = 0 from if_pos ⟨of_decide_eq_true (by assumption), of_decide_eq_true (by assumption), by omega, by omega, by omega, by omega⟩] | rw [show seqE W H R B = 110 from if_neg (by unfold seqOk; rintro ⟨h1, h2, h3, h4, h5, h6⟩; first | omega | (exact absurd h1 (of_decide_eq_false (by assumption))) | (exact absurd h2 (of_decide_eq_false (by assumption))) | (simp_all; done))]), K72⟩
      ·replace c77 := of_decide_eq_false c77
       refine wq_skip (then_normal (wq_seq (wq_region (wl_v (iv 0) rfl rfl (y_asg rfl rfl rr) (wl_nil fun F82 hF83 => ?_)))))
       have s84 := (hF83 35).trans s75
       have s85 : F82 2 = iv 0 := (hF83 2).trans rfl
       clear hF83
       refine then_normal (wq_ret ?_)
       exact end_tmp (v := iv 0) s84 rfl rfl s85 ⟨(by first | rw [show seqE W H R B = 0 from if_pos ⟨of_decide_eq_true (by assumption), of_decide_eq_true (by assumption), by omega, by omega, by omega, by omega⟩] | rw [show seqE W H R B = 110 from if_neg (by unfold seqOk; rintro ⟨h1, h2, h3, h4, h5, h6⟩; first | omega | (exact absurd h1 (of_decide_eq_false (by assumption))) | (exact absurd h2 (of_decide_eq_false (by assumption))) | (simp_all; done))]), K72⟩
  ·skip
   refine wq_region (wl_v (pt p1 0) rfl rfl (y_fieldR (n := 1) rfl s11 Tryz.underlying23 rfl (by kernel_rfl) (by decide) rfl rr) (wl_v (iv W) rfl rfl (y_ld_stc rfl rfl Tryz.underlying3 B4 rfl rfl rr) (wl_call (R := fun v_ w_ => v_ = .bool true ∧ Kept (fun _ => False) w2 w_) rfl rfl (y_cs rfl rfl rfl (fun _ _ => by kernel_rfl) (ev_func _) (vsC rfl vsN) (href_side W  _   ) (fun e_ w_ h_ => ⟨_, h_.1, (congrArg Value.bool d12), h_.2⟩)) ?_)))
   rintro _ w86 ⟨rfl, k87⟩
   have B88 := B4.all k87 id
   have K89 := K7.tr k87
   refine wl_v (.bool false) rfl rfl (y_not rfl rfl rfl rr) (wl_v (.bool false) rfl rfl (y_mov rfl rfl rr) (wl_vw (pt p1 1) 4 false 7 rfl rfl rfl rfl rfl (y_fieldR (n := 1) rfl s11 Tryz.underlying23 rfl (by kernel_rfl) (by decide) rfl rr) (wl_vw (iv H) 4 false 7 rfl rfl rfl rfl rfl (y_ld_stc rfl rfl Tryz.underlying3 B88 rfl rfl rr) (wl_callw (R := fun v_ w_ => v_ = .bool false ∧ Kept (fun _ => False) w86 w_) 4 false 7 rfl rfl rfl rfl rfl (y_cs rfl rfl rfl (fun _ _ => by kernel_rfl) (ev_func _) (vsC rfl vsN) (href_side H  _   ) (fun e_ w_ h_ => ⟨_, h_.1, (congrArg Value.bool d13), h_.2⟩)) ?_))))
   rintro _ w90 ⟨rfl, k91⟩
   have K93 := K89.tr k91
   refine wl_vw (.bool true) 4 false 7 rfl rfl rfl rfl rfl (y_not rfl rfl rfl rr) (wl_v (.bool true) rfl rfl (y_pickF rfl rfl rfl rr) (wl_v (.bool true) rfl rfl (y_mov rfl rfl rr) (wl_unless 10 false 13 rfl rfl rfl (Or.inl rfl) rfl (wl_unless 10 false 13 rfl rfl rfl (Or.inl rfl) rfl (wl_unless 10 false 13 rfl rfl rfl (Or.inl rfl) rfl (wl_v (.bool true) rfl rfl (y_pickT rfl rfl rfl rr) (wl_v (.bool true) rfl rfl (y_mov rfl rfl rr) (wl_unless 15 false 18 rfl rfl rfl (Or.inl rfl) rfl (wl_unless 15 false 18 rfl rfl rfl (Or.inl rfl) rfl (wl_unless 15 false 18 rfl rfl rfl (Or.inl rfl) rfl (wl_v (.bool true) rfl rfl (y_pickT rfl rfl rfl rr) ?_)))))))))))
   refine wl_v (.bool true) rfl rfl (y_mov rfl rfl rr) (wl_unless 20 false 23 rfl rfl rfl (Or.inl rfl) rfl (wl_unless 20 false 23 rfl rfl rfl (Or.inl rfl) rfl (wl_unless 20 false 23 rfl rfl rfl (Or.inl rfl) rfl (wl_unless 20 false 23 rfl rfl rfl (Or.inl rfl) rfl (wl_unless 20 false 23 rfl rfl rfl (Or.inl rfl) rfl (wl_v (.bool true) rfl rfl (y_pickT rfl rfl rfl rr) (wl_v (.bool true) rfl rfl (y_mov rfl rfl rr) (wl_unless 27 false 30 rfl rfl rfl (Or.inl rfl) rfl (wl_unless 27 false 30 rfl rfl rfl (Or.inl rfl) rfl (wl_unless 27 false 30 rfl rfl rfl (Or.inl rfl) rfl (wl_v (.bool true) rfl rfl (y_pickT rfl rfl rfl rr) ?_)))))))))))
   refine wl_nil fun F94 hF95 => ?_
   have s96 := (hF95 35).trans s10
   have s97 : F94 34 = .bool true := (hF95 34).trans rfl
   clear hF95
   refine then_normal ?_
   refine wq_cond (t := true) s97 (fun _ => ?_) (fun e => by cases e)
   refine wq_seq (wq_region (wl_v (iv 110) rfl rfl (y_asg rfl rfl rr) (wl_nil fun F98 hF99 => ?_)))
   have s100 := (hF99 35).trans s96
   have s101 : F98 2 = iv 110 := (hF99 2).trans rfl
   clear hF99
   refine then_normal (wq_ret (then_ret ?_))
   exact end_tmp (v := iv 110) s100 rfl rfl s101 ⟨(by first | rw [show seqE W H R B = 0 from if_pos ⟨of_decide_eq_true (by assumption), of_decide_eq_true (by assumption), by omega, by omega, by omega, by omega⟩] | rw [show seqE W H R B = 110 from if_neg (by unfold seqOk; rintro ⟨h1, h2, h3, h4, h5, h6⟩; first | omega | (exact absurd h1 (of_decide_eq_false (by assumption))) | (exact absurd h2 (of_decide_eq_false (by assumption))) | (simp_all; done))]), K93⟩
 ·skip
  refine wq_region (wl_v (pt p1 0) rfl rfl (y_fieldR (n := 1) rfl s11 Tryz.underlying23 rfl (by kernel_rfl) (by decide) rfl rr) (wl_v (iv W) rfl rfl (y_ld_stc rfl rfl Tryz.underlying3 B4 rfl rfl rr) (wl_call (R := fun v_ w_ => v_ = .bool false ∧ Kept (fun _ => False) w2 w_) rfl rfl (y_cs rfl rfl rfl (fun _ _ => by kernel_rfl) (ev_func _) (vsC rfl vsN) (href_side W  _   ) (fun e_ w_ h_ => ⟨_, h_.1, (congrArg Value.bool d12), h_.2⟩)) ?_)))
  rintro _ w102 ⟨rfl, k103⟩
  have K105 := K7.tr k103
  refine wl_v (.bool true) rfl rfl (y_not rfl rfl rfl rr) (wl_v (.bool true) rfl rfl (y_mov rfl rfl rr) (wl_unless 4 false 7 rfl rfl rfl (Or.inl rfl) rfl (wl_unless 4 false 7 rfl rfl rfl (Or.inl rfl) rfl (wl_unless 4 false 7 rfl rfl rfl (Or.inl rfl) rfl (wl_unless 4 false 7 rfl rfl rfl (Or.inl rfl) rfl (wl_v (.bool true) rfl rfl (y_pickT rfl rfl rfl rr) (wl_v (.bool true) rfl rfl (y_mov rfl rfl rr) (wl_unless 10 false 13 rfl rfl rfl (Or.inl rfl) rfl (wl_unless 10 false 13 rfl rfl rfl (Or.inl rfl) rfl (wl_unless 10 false 13 rfl rfl rfl (Or.inl rfl) rfl (wl_v (.bool true) rfl rfl (y_pickT rfl rfl rfl rr) ?_)))))))))))
  refine wl_v (.bool true) rfl rfl (y_mov rfl rfl rr) (wl_unless 15 false 18 rfl rfl rfl (Or.inl rfl) rfl (wl_unless 15 false 18 rfl rfl rfl (Or.inl rfl) rfl (wl_unless 15 false 18 rfl rfl rfl (Or.inl rfl) rfl (wl_v (.bool true) rfl rfl (y_pickT rfl rfl rfl rr) (wl_v (.bool true) rfl rfl (y_mov rfl rfl rr) (wl_unless 20 false 23 rfl rfl rfl (Or.inl rfl) rfl (wl_unless 20 false 23 rfl rfl rfl (Or.inl rfl) rfl (wl_unless 20 false 23 rfl rfl rfl (Or.inl rfl) rfl (wl_unless 20 false 23 rfl rfl rfl (Or.inl rfl) rfl (wl_unless 20 false 23 rfl rfl rfl (Or.inl rfl) rfl (wl_v (.bool true) rfl rfl (y_pickT rfl rfl rfl rr) ?_)))))))))))
  refine wl_v (.bool true) rfl rfl (y_mov rfl rfl rr) (wl_unless 27 false 30 rfl rfl rfl (Or.inl rfl) rfl (wl_unless 27 false 30 rfl rfl rfl (Or.inl rfl) rfl (wl_unless 27 false 30 rfl rfl rfl (Or.inl rfl) rfl (wl_v (.bool true) rfl rfl (y_pickT rfl rfl rfl rr) (wl_nil fun F106 hF107 => ?_)))))
  have s108 := (hF107 35).trans s10
  have s109 : F106 34 = .bool true := (hF107 34).trans rfl
  clear hF107
  refine then_normal ?_
  refine wq_cond (t := true) s109 (fun _ => ?_) (fun e => by cases e)
  refine wq_seq (wq_region (wl_v (iv 110) rfl rfl (y_asg rfl rfl rr) (wl_nil fun F110 hF111 => ?_)))
  have s112 := (hF111 35).trans s108
  have s113 : F110 2 = iv 110 := (hF111 2).trans rfl
  clear hF111
  refine then_normal (wq_ret (then_ret ?_))
  exact end_tmp (v := iv 110) s112 rfl rfl s113 ⟨(by first | rw [show seqE W H R B = 0 from if_pos ⟨of_decide_eq_true (by assumption), of_decide_eq_true (by assumption), by omega, by omega, by omega, by omega⟩] | rw [show seqE W H R B = 110 from if_neg (by unfold seqOk; rintro ⟨h1, h2, h3, h4, h5, h6⟩; first | omega | (exact absurd h1 (of_decide_eq_false (by assumption))) | (exact absurd h2 (of_decide_eq_false (by assumption))) | (simp_all; done))]), K105⟩
theorem href_head (K Q D F : Int) (w0 : World) :
  Calls Tryz.prog 33 #[.agg #[.int .i64 (K), .int .i64 (Q), .int .i64 (D), .int .i64 (F)]] w0 fun e w' => e = .returned (.int .i64 (headE K Q D F)) ∧ Kept (fun _ => False) w0 w' := by
 refine calls_wq (args := [.agg #[iv K, iv Q, iv D, iv F]]) 41 Tryz.func33 rfl rfl (Nat.le_of_ble_eq_true rfl) ?_
 have K0 := Kept.refl (fun _ => False) w0
 refine wq_seq (wq_region (wl_box_stc (vs := [iv K, iv Q, iv D, iv F]) rfl rfl rfl rfl fun p1 w2 B4 g5 k3 => ?_))
 have K7 := K0.tr k3
 refine wl_v (iv 0) rfl rfl (y_asg rfl rfl rr) (wl_nil fun F8 hF9 => ?_)
 have s10 : F8 41 = undef := (hF9 41).trans rfl
 have s11 : F8 1 = pt p1 0 := (hF9 1).trans rfl
 clear hF9
 refine then_normal (wq_seq (wq_seq ?_))
 by_cases d12 : K < 0
 ·skip
  refine wq_region (wl_v (pt p1 0) rfl rfl (y_fieldR (n := 1) rfl s11 Tryz.underlying25 rfl (by kernel_rfl) (by decide) rfl rr) (wl_v (iv K) rfl rfl (y_ld_stc rfl rfl Tryz.underlying3 B4 rfl rfl rr) (wl_v (.bool true) rfl rfl (y_lss rfl rfl rfl (decide_eq_true d12) rr) (wl_v (.bool true) rfl rfl (y_mov rfl rfl rr) (wl_unless 3 false 6 rfl rfl rfl (Or.inl rfl) rfl (wl_unless 3 false 6 rfl rfl rfl (Or.inl rfl) rfl (wl_unless 3 false 6 rfl rfl rfl (Or.inl rfl) rfl (wl_v (.bool true) rfl rfl (y_pickT rfl rfl rfl rr) (wl_v (.bool true) rfl rfl (y_mov rfl rfl rr) (wl_unless 8 false 11 rfl rfl rfl (Or.inl rfl) rfl (wl_unless 8 false 11 rfl rfl rfl (Or.inl rfl) rfl ?_)))))))))))
  refine wl_unless 8 false 11 rfl rfl rfl (Or.inl rfl) rfl (wl_v (.bool true) rfl rfl (y_pickT rfl rfl rfl rr) (wl_v (.bool true) rfl rfl (y_mov rfl rfl rr) (wl_unless 13 false 16 rfl rfl rfl (Or.inl rfl) rfl (wl_unless 13 false 16 rfl rfl rfl (Or.inl rfl) rfl (wl_unless 13 false 16 rfl rfl rfl (Or.inl rfl) rfl (wl_v (.bool true) rfl rfl (y_pickT rfl rfl rfl rr) (wl_v (.bool true) rfl rfl (y_mov rfl rfl rr) (wl_unless 18 false 21 rfl rfl rfl (Or.inl rfl) rfl (wl_unless 18 false 21 rfl rfl rfl (Or.inl rfl) rfl (wl_unless 18 false 21 rfl rfl rfl (Or.inl rfl) rfl (wl_v (.bool true) rfl rfl (y_pickT rfl rfl rfl rr) ?_)))))))))))
  refine wl_v (.bool true) rfl rfl (y_mov rfl rfl rr) (wl_unless 23 false 26 rfl rfl rfl (Or.inl rfl) rfl (wl_unless 23 false 26 rfl rfl rfl (Or.inl rfl) rfl (wl_unless 23 false 26 rfl rfl rfl (Or.inl rfl) rfl (wl_v (.bool true) rfl rfl (y_pickT rfl rfl rfl rr) (wl_v (.bool true) rfl rfl (y_mov rfl rfl rr) (wl_unless 28 false 31 rfl rfl rfl (Or.inl rfl) rfl (wl_unless 28 false 31 rfl rfl rfl (Or.inl rfl) rfl (wl_unless 28 false 31 rfl rfl rfl (Or.inl rfl) rfl (wl_v (.bool true) rfl rfl (y_pickT rfl rfl rfl rr) (wl_v (.bool true) rfl rfl (y_mov rfl rfl rr) (wl_unless 33 false 36 rfl rfl rfl (Or.inl rfl) rfl ?_)))))))))))
  refine wl_unless 33 false 36 rfl rfl rfl (Or.inl rfl) rfl (wl_unless 33 false 36 rfl rfl rfl (Or.inl rfl) rfl (wl_v (.bool true) rfl rfl (y_pickT rfl rfl rfl rr) (wl_nil fun F13 hF14 => ?_)))
  have s15 := (hF14 41).trans s10
  have s16 : F13 40 = .bool true := (hF14 40).trans rfl
  clear hF14
  refine then_normal ?_
  refine wq_cond (t := true) s16 (fun _ => ?_) (fun e => by cases e)
  refine wq_seq (wq_region (wl_v (iv 110) rfl rfl (y_asg rfl rfl rr) (wl_nil fun F17 hF18 => ?_)))
  have s19 := (hF18 41).trans s15
  have s20 : F17 2 = iv 110 := (hF18 2).trans rfl
  clear hF18
  refine then_normal (wq_ret (then_ret ?_))
  exact end_tmp (v := iv 110) s19 rfl rfl s20 ⟨(by first | rw [show headE K Q D F = 0 from if_pos (by unfold headOk; omega)] | rw [show headE K Q D F = 110 from if_neg (by unfold headOk; omega)]), K7⟩
 ·skip
  by_cases d21 : 2 < K
  ·skip
   refine wq_region (wl_v (pt p1 0) rfl rfl (y_fieldR (n := 1) rfl s11 Tryz.underlying25 rfl (by kernel_rfl) (by decide) rfl rr) (wl_v (iv K) rfl rfl (y_ld_stc rfl rfl Tryz.underlying3 B4 rfl rfl rr) (wl_v (.bool false) rfl rfl (y_lss rfl rfl rfl (decide_eq_false d12) rr) (wl_v (.bool false) rfl rfl (y_mov rfl rfl rr) (wl_vw (pt p1 0) 3 false 6 rfl rfl rfl rfl rfl (y_fieldR (n := 1) rfl s11 Tryz.underlying25 rfl (by kernel_rfl) (by decide) rfl rr) (wl_vw (iv K) 3 false 6 rfl rfl rfl rfl rfl (y_ld_stc rfl rfl Tryz.underlying3 B4 rfl rfl rr) (wl_vw (.bool true) 3 false 6 rfl rfl rfl rfl rfl (y_gtr rfl rfl rfl (decide_eq_true d21) rr) (wl_v (.bool true) rfl rfl (y_pickF rfl rfl rfl rr) (wl_v (.bool true) rfl rfl (y_mov rfl rfl rr) (wl_unless 8 false 11 rfl rfl rfl (Or.inl rfl) rfl (wl_unless 8 false 11 rfl rfl rfl (Or.inl rfl) rfl ?_)))))))))))
   refine wl_unless 8 false 11 rfl rfl rfl (Or.inl rfl) rfl (wl_v (.bool true) rfl rfl (y_pickT rfl rfl rfl rr) (wl_v (.bool true) rfl rfl (y_mov rfl rfl rr) (wl_unless 13 false 16 rfl rfl rfl (Or.inl rfl) rfl (wl_unless 13 false 16 rfl rfl rfl (Or.inl rfl) rfl (wl_unless 13 false 16 rfl rfl rfl (Or.inl rfl) rfl (wl_v (.bool true) rfl rfl (y_pickT rfl rfl rfl rr) (wl_v (.bool true) rfl rfl (y_mov rfl rfl rr) (wl_unless 18 false 21 rfl rfl rfl (Or.inl rfl) rfl (wl_unless 18 false 21 rfl rfl rfl (Or.inl rfl) rfl (wl_unless 18 false 21 rfl rfl rfl (Or.inl rfl) rfl (wl_v (.bool true) rfl rfl (y_pickT rfl rfl rfl rr) ?_)))))))))))
   refine wl_v (.bool true) rfl rfl (y_mov rfl rfl rr) (wl_unless 23 false 26 rfl rfl rfl (Or.inl rfl) rfl (wl_unless 23 false 26 rfl rfl rfl (Or.inl rfl) rfl (wl_unless 23 false 26 rfl rfl rfl (Or.inl rfl) rfl (wl_v (.bool true) rfl rfl (y_pickT rfl rfl rfl rr) (wl_v (.bool true) rfl rfl (y_mov rfl rfl rr) (wl_unless 28 false 31 rfl rfl rfl (Or.inl rfl) rfl (wl_unless 28 false 31 rfl rfl rfl (Or.inl rfl) rfl (wl_unless 28 false 31 rfl rfl rfl (Or.inl rfl) rfl (wl_v (.bool true) rfl rfl (y_pickT rfl rfl rfl rr) (wl_v (.bool true) rfl rfl (y_mov rfl rfl rr) (wl_unless 33 false 36 rfl rfl rfl (Or.inl rfl) rfl ?_)))))))))))
   refine wl_unless 33 false 36 rfl rfl rfl (Or.inl rfl) rfl (wl_unless 33 false 36 rfl rfl rfl (Or.inl rfl) rfl (wl_v (.bool true) rfl rfl (y_pickT rfl rfl rfl rr) (wl_nil fun F22 hF23 => ?_)))
   have s24 := (hF23 41).trans s10
   have s25 : F22 40 = .bool true := (hF23 40).trans rfl
   clear hF23
   refine then_normal ?_
   refine wq_cond (t := true) s25 (fun _ => ?_) (fun e => by cases e)
   refine wq_seq (wq_region (wl_v (iv 110) rfl rfl (y_asg rfl rfl rr) (wl_nil fun F26 hF27 => ?_)))
   have s28 := (hF27 41).trans s24
   have s29 : F26 2 = iv 110 := (hF27 2).trans rfl
   clear hF27
   refine then_normal (wq_ret (then_ret ?_))
   exact end_tmp (v := iv 110) s28 rfl rfl s29 ⟨(by first | rw [show headE K Q D F = 0 from if_pos (by unfold headOk; omega)] | rw [show headE K Q D F = 110 from if_neg (by unfold headOk; omega)]), K7⟩
  ·skip
   by_cases d30 : Q < 0
   ·skip
    refine wq_region (wl_v (pt p1 0) rfl rfl (y_fieldR (n := 1) rfl s11 Tryz.underlying25 rfl (by kernel_rfl) (by decide) rfl rr) (wl_v (iv K) rfl rfl (y_ld_stc rfl rfl Tryz.underlying3 B4 rfl rfl rr) (wl_v (.bool false) rfl rfl (y_lss rfl rfl rfl (decide_eq_false d12) rr) (wl_v (.bool false) rfl rfl (y_mov rfl rfl rr) (wl_vw (pt p1 0) 3 false 6 rfl rfl rfl rfl rfl (y_fieldR (n := 1) rfl s11 Tryz.underlying25 rfl (by kernel_rfl) (by decide) rfl rr) (wl_vw (iv K) 3 false 6 rfl rfl rfl rfl rfl (y_ld_stc rfl rfl Tryz.underlying3 B4 rfl rfl rr) (wl_vw (.bool false) 3 false 6 rfl rfl rfl rfl rfl (y_gtr rfl rfl rfl (decide_eq_false d21) rr) (wl_v (.bool false) rfl rfl (y_pickF rfl rfl rfl rr) (wl_v (.bool false) rfl rfl (y_mov rfl rfl rr) (wl_vw (pt p1 1) 8 false 11 rfl rfl rfl rfl rfl (y_fieldR (n := 1) rfl s11 Tryz.underlying25 rfl (by kernel_rfl) (by decide) rfl rr) (wl_vw (iv Q) 8 false 11 rfl rfl rfl rfl rfl (y_ld_stc rfl rfl Tryz.underlying3 B4 rfl rfl rr) ?_)))))))))))
    refine wl_vw (.bool true) 8 false 11 rfl rfl rfl rfl rfl (y_lss rfl rfl rfl (decide_eq_true d30) rr) (wl_v (.bool true) rfl rfl (y_pickF rfl rfl rfl rr) (wl_v (.bool true) rfl rfl (y_mov rfl rfl rr) (wl_unless 13 false 16 rfl rfl rfl (Or.inl rfl) rfl (wl_unless 13 false 16 rfl rfl rfl (Or.inl rfl) rfl (wl_unless 13 false 16 rfl rfl rfl (Or.inl rfl) rfl (wl_v (.bool true) rfl rfl (y_pickT rfl rfl rfl rr) (wl_v (.bool true) rfl rfl (y_mov rfl rfl rr) (wl_unless 18 false 21 rfl rfl rfl (Or.inl rfl) rfl (wl_unless 18 false 21 rfl rfl rfl (Or.inl rfl) rfl (wl_unless 18 false 21 rfl rfl rfl (Or.inl rfl) rfl (wl_v (.bool true) rfl rfl (y_pickT rfl rfl rfl rr) ?_)))))))))))
    refine wl_v (.bool true) rfl rfl (y_mov rfl rfl rr) (wl_unless 23 false 26 rfl rfl rfl (Or.inl rfl) rfl (wl_unless 23 false 26 rfl rfl rfl (Or.inl rfl) rfl (wl_unless 23 false 26 rfl rfl rfl (Or.inl rfl) rfl (wl_v (.bool true) rfl rfl (y_pickT rfl rfl rfl rr) (wl_v (.bool true) rfl rfl (y_mov rfl rfl rr) (wl_unless 28 false 31 rfl rfl rfl (Or.inl rfl) rfl (wl_unless 28 false 31 rfl rfl rfl (Or.inl rfl) rfl (wl_unless 28 false 31 rfl rfl rfl (Or.inl rfl) rfl (wl_v (.bool true) rfl rfl (y_pickT rfl rfl rfl rr) (wl_v (.bool true) rfl rfl (y_mov rfl rfl rr) (wl_unless 33 false 36 rfl rfl rfl (Or.inl rfl) rfl ?_)))))))))))
    refine wl_unless 33 false 36 rfl rfl rfl (Or.inl rfl) rfl (wl_unless 33 false 36 rfl rfl rfl (Or.inl rfl) rfl (wl_v (.bool true) rfl rfl (y_pickT rfl rfl rfl rr) (wl_nil fun F31 hF32 => ?_)))
    have s33 := (hF32 41).trans s10
    have s34 : F31 40 = .bool true := (hF32 40).trans rfl
    clear hF32
    refine then_normal ?_
    refine wq_cond (t := true) s34 (fun _ => ?_) (fun e => by cases e)
    refine wq_seq (wq_region (wl_v (iv 110) rfl rfl (y_asg rfl rfl rr) (wl_nil fun F35 hF36 => ?_)))
    have s37 := (hF36 41).trans s33
    have s38 : F35 2 = iv 110 := (hF36 2).trans rfl
    clear hF36
    refine then_normal (wq_ret (then_ret ?_))
    exact end_tmp (v := iv 110) s37 rfl rfl s38 ⟨(by first | rw [show headE K Q D F = 0 from if_pos (by unfold headOk; omega)] | rw [show headE K Q D F = 110 from if_neg (by unfold headOk; omega)]), K7⟩
   ·skip
    by_cases d39 : 20 < Q
    ·skip
     refine wq_region (wl_v (pt p1 0) rfl rfl (y_fieldR (n := 1) rfl s11 Tryz.underlying25 rfl (by kernel_rfl) (by decide) rfl rr) (wl_v (iv K) rfl rfl (y_ld_stc rfl rfl Tryz.underlying3 B4 rfl rfl rr) (wl_v (.bool false) rfl rfl (y_lss rfl rfl rfl (decide_eq_false d12) rr) (wl_v (.bool false) rfl rfl (y_mov rfl rfl rr) (wl_vw (pt p1 0) 3 false 6 rfl rfl rfl rfl rfl (y_fieldR (n := 1) rfl s11 Tryz.underlying25 rfl (by kernel_rfl) (by decide) rfl rr) (wl_vw (iv K) 3 false 6 rfl rfl rfl rfl rfl (y_ld_stc rfl rfl Tryz.underlying3 B4 rfl rfl rr) (wl_vw (.bool false) 3 false 6 rfl rfl rfl rfl rfl (y_gtr rfl rfl rfl (decide_eq_false d21) rr) (wl_v (.bool false) rfl rfl (y_pickF rfl rfl rfl rr) (wl_v (.bool false) rfl rfl (y_mov rfl rfl rr) (wl_vw (pt p1 1) 8 false 11 rfl rfl rfl rfl rfl (y_fieldR (n := 1) rfl s11 Tryz.underlying25 rfl (by kernel_rfl) (by decide) rfl rr) (wl_vw (iv Q) 8 false 11 rfl rfl rfl rfl rfl (y_ld_stc rfl rfl Tryz.underlying3 B4 rfl rfl rr) ?_)))))))))))
     refine wl_vw (.bool false) 8 false 11 rfl rfl rfl rfl rfl (y_lss rfl rfl rfl (decide_eq_false d30) rr) (wl_v (.bool false) rfl rfl (y_pickF rfl rfl rfl rr) (wl_v (.bool false) rfl rfl (y_mov rfl rfl rr) (wl_vw (pt p1 1) 13 false 16 rfl rfl rfl rfl rfl (y_fieldR (n := 1) rfl s11 Tryz.underlying25 rfl (by kernel_rfl) (by decide) rfl rr) (wl_vw (iv Q) 13 false 16 rfl rfl rfl rfl rfl (y_ld_stc rfl rfl Tryz.underlying3 B4 rfl rfl rr) (wl_vw (.bool true) 13 false 16 rfl rfl rfl rfl rfl (y_gtr rfl rfl rfl (decide_eq_true d39) rr) (wl_v (.bool true) rfl rfl (y_pickF rfl rfl rfl rr) (wl_v (.bool true) rfl rfl (y_mov rfl rfl rr) (wl_unless 18 false 21 rfl rfl rfl (Or.inl rfl) rfl (wl_unless 18 false 21 rfl rfl rfl (Or.inl rfl) rfl (wl_unless 18 false 21 rfl rfl rfl (Or.inl rfl) rfl (wl_v (.bool true) rfl rfl (y_pickT rfl rfl rfl rr) ?_)))))))))))
     refine wl_v (.bool true) rfl rfl (y_mov rfl rfl rr) (wl_unless 23 false 26 rfl rfl rfl (Or.inl rfl) rfl (wl_unless 23 false 26 rfl rfl rfl (Or.inl rfl) rfl (wl_unless 23 false 26 rfl rfl rfl (Or.inl rfl) rfl (wl_v (.bool true) rfl rfl (y_pickT rfl rfl rfl rr) (wl_v (.bool true) rfl rfl (y_mov rfl rfl rr) (wl_unless 28 false 31 rfl rfl rfl (Or.inl rfl) rfl (wl_unless 28 false 31 rfl rfl rfl (Or.inl rfl) rfl (wl_unless 28 false 31 rfl rfl rfl (Or.inl rfl) rfl (wl_v (.bool true) rfl rfl (y_pickT rfl rfl rfl rr) (wl_v (.bool true) rfl rfl (y_mov rfl rfl rr) (wl_unless 33 false 36 rfl rfl rfl (Or.inl rfl) rfl ?_)))))))))))
     refine wl_unless 33 false 36 rfl rfl rfl (Or.inl rfl) rfl (wl_unless 33 false 36 rfl rfl rfl (Or.inl rfl) rfl (wl_v (.bool true) rfl rfl (y_pickT rfl rfl rfl rr) (wl_nil fun F40 hF41 => ?_)))
     have s42 := (hF41 41).trans s10
     have s43 : F40 40 = .bool true := (hF41 40).trans rfl
     clear hF41
     refine then_normal ?_
     refine wq_cond (t := true) s43 (fun _ => ?_) (fun e => by cases e)
     refine wq_seq (wq_region (wl_v (iv 110) rfl rfl (y_asg rfl rfl rr) (wl_nil fun F44 hF45 => ?_)))
     have s46 := (hF45 41).trans s42
     have s47 : F44 2 = iv 110 := (hF45 2).trans rfl
     clear hF45
     refine then_normal (wq_ret (then_ret ?_))
     exact end_tmp (v := iv 110) s46 rfl rfl s47 ⟨(by first | rw [show headE K Q D F = 0 from if_pos (by unfold headOk; omega)] | rw [show headE K Q D F = 110 from if_neg (by unfold headOk; omega)]), K7⟩
    ·skip
     by_cases d48 : D < 0
     ·skip
      refine wq_region (wl_v (pt p1 0) rfl rfl (y_fieldR (n := 1) rfl s11 Tryz.underlying25 rfl (by kernel_rfl) (by decide) rfl rr) (wl_v (iv K) rfl rfl (y_ld_stc rfl rfl Tryz.underlying3 B4 rfl rfl rr) (wl_v (.bool false) rfl rfl (y_lss rfl rfl rfl (decide_eq_false d12) rr) (wl_v (.bool false) rfl rfl (y_mov rfl rfl rr) (wl_vw (pt p1 0) 3 false 6 rfl rfl rfl rfl rfl (y_fieldR (n := 1) rfl s11 Tryz.underlying25 rfl (by kernel_rfl) (by decide) rfl rr) (wl_vw (iv K) 3 false 6 rfl rfl rfl rfl rfl (y_ld_stc rfl rfl Tryz.underlying3 B4 rfl rfl rr) (wl_vw (.bool false) 3 false 6 rfl rfl rfl rfl rfl (y_gtr rfl rfl rfl (decide_eq_false d21) rr) (wl_v (.bool false) rfl rfl (y_pickF rfl rfl rfl rr) (wl_v (.bool false) rfl rfl (y_mov rfl rfl rr) (wl_vw (pt p1 1) 8 false 11 rfl rfl rfl rfl rfl (y_fieldR (n := 1) rfl s11 Tryz.underlying25 rfl (by kernel_rfl) (by decide) rfl rr) (wl_vw (iv Q) 8 false 11 rfl rfl rfl rfl rfl (y_ld_stc rfl rfl Tryz.underlying3 B4 rfl rfl rr) ?_)))))))))))
      refine wl_vw (.bool false) 8 false 11 rfl rfl rfl rfl rfl (y_lss rfl rfl rfl (decide_eq_false d30) rr) (wl_v (.bool false) rfl rfl (y_pickF rfl rfl rfl rr) (wl_v (.bool false) rfl rfl (y_mov rfl rfl rr) (wl_vw (pt p1 1) 13 false 16 rfl rfl rfl rfl rfl (y_fieldR (n := 1) rfl s11 Tryz.underlying25 rfl (by kernel_rfl) (by decide) rfl rr) (wl_vw (iv Q) 13 false 16 rfl rfl rfl rfl rfl (y_ld_stc rfl rfl Tryz.underlying3 B4 rfl rfl rr) (wl_vw (.bool false) 13 false 16 rfl rfl rfl rfl rfl (y_gtr rfl rfl rfl (decide_eq_false d39) rr) (wl_v (.bool false) rfl rfl (y_pickF rfl rfl rfl rr) (wl_v (.bool false) rfl rfl (y_mov rfl rfl rr) (wl_vw (pt p1 2) 18 false 21 rfl rfl rfl rfl rfl (y_fieldR (n := 1) rfl s11 Tryz.underlying25 rfl (by kernel_rfl) (by decide) rfl rr) (wl_vw (iv D) 18 false 21 rfl rfl rfl rfl rfl (y_ld_stc rfl rfl Tryz.underlying3 B4 rfl rfl rr) (wl_vw (.bool true) 18 false 21 rfl rfl rfl rfl rfl (y_lss rfl rfl rfl (decide_eq_true d48) rr) (wl_v (.bool true) rfl rfl (y_pickF rfl rfl rfl rr) ?_)))))))))))
      refine wl_v (.bool true) rfl rfl (y_mov rfl rfl rr) (wl_unless 23 false 26 rfl rfl rfl (Or.inl rfl) rfl (wl_unless 23 false 26 rfl rfl rfl (Or.inl rfl) rfl (wl_unless 23 false 26 rfl rfl rfl (Or.inl rfl) rfl (wl_v (.bool true) rfl rfl (y_pickT rfl rfl rfl rr) (wl_v (.bool true) rfl rfl (y_mov rfl rfl rr) (wl_unless 28 false 31 rfl rfl rfl (Or.inl rfl) rfl (wl_unless 28 false 31 rfl rfl rfl (Or.inl rfl) rfl (wl_unless 28 false 31 rfl rfl rfl (Or.inl rfl) rfl (wl_v (.bool true) rfl rfl (y_pickT rfl rfl rfl rr) (wl_v (.bool true) rfl rfl (y_mov rfl rfl rr) (wl_unless 33 false 36 rfl rfl rfl (Or.inl rfl) rfl ?_)))))))))))
      refine wl_unless 33 false 36 rfl rfl rfl (Or.inl rfl) rfl (wl_unless 33 false 36 rfl rfl rfl (Or.inl rfl) rfl (wl_v (.bool true) rfl rfl (y_pickT rfl rfl rfl rr) (wl_nil fun F49 hF50 => ?_)))
      have s51 := (hF50 41).trans s10
      have s52 : F49 40 = .bool true := (hF50 40).trans rfl
      clear hF50
      refine then_normal ?_
      refine wq_cond (t := true) s52 (fun _ => ?_) (fun e => by cases e)
      refine wq_seq (wq_region (wl_v (iv 110) rfl rfl (y_asg rfl rfl rr) (wl_nil fun F53 hF54 => ?_)))
      have s55 := (hF54 41).trans s51
      have s56 : F53 2 = iv 110 := (hF54 2).trans rfl
      clear hF54
      refine then_normal (wq_ret (then_ret ?_))
      exact end_tmp (v := iv 110) s55 rfl rfl s56 ⟨(by first | rw [show headE K Q D F = 0 from if_pos (by unfold headOk; omega)] | rw [show headE K Q D F = 110 from if_neg (by unfold headOk; omega)]), K7⟩
     ·skip
      by_cases d57 : 16777216 ≤ D
      ·skip
       refine wq_region (wl_v (pt p1 0) rfl rfl (y_fieldR (n := 1) rfl s11 Tryz.underlying25 rfl (by kernel_rfl) (by decide) rfl rr) (wl_v (iv K) rfl rfl (y_ld_stc rfl rfl Tryz.underlying3 B4 rfl rfl rr) (wl_v (.bool false) rfl rfl (y_lss rfl rfl rfl (decide_eq_false d12) rr) (wl_v (.bool false) rfl rfl (y_mov rfl rfl rr) (wl_vw (pt p1 0) 3 false 6 rfl rfl rfl rfl rfl (y_fieldR (n := 1) rfl s11 Tryz.underlying25 rfl (by kernel_rfl) (by decide) rfl rr) (wl_vw (iv K) 3 false 6 rfl rfl rfl rfl rfl (y_ld_stc rfl rfl Tryz.underlying3 B4 rfl rfl rr) (wl_vw (.bool false) 3 false 6 rfl rfl rfl rfl rfl (y_gtr rfl rfl rfl (decide_eq_false d21) rr) (wl_v (.bool false) rfl rfl (y_pickF rfl rfl rfl rr) (wl_v (.bool false) rfl rfl (y_mov rfl rfl rr) (wl_vw (pt p1 1) 8 false 11 rfl rfl rfl rfl rfl (y_fieldR (n := 1) rfl s11 Tryz.underlying25 rfl (by kernel_rfl) (by decide) rfl rr) (wl_vw (iv Q) 8 false 11 rfl rfl rfl rfl rfl (y_ld_stc rfl rfl Tryz.underlying3 B4 rfl rfl rr) ?_)))))))))))
       refine wl_vw (.bool false) 8 false 11 rfl rfl rfl rfl rfl (y_lss rfl rfl rfl (decide_eq_false d30) rr) (wl_v (.bool false) rfl rfl (y_pickF rfl rfl rfl rr) (wl_v (.bool false) rfl rfl (y_mov rfl rfl rr) (wl_vw (pt p1 1) 13 false 16 rfl rfl rfl rfl rfl (y_fieldR (n := 1) rfl s11 Tryz.underlying25 rfl (by kernel_rfl) (by decide) rfl rr) (wl_vw (iv Q) 13 false 16 rfl rfl rfl rfl rfl (y_ld_stc rfl rfl Tryz.underlying3 B4 rfl rfl rr) (wl_vw (.bool false) 13 false 16 rfl rfl rfl rfl rfl (y_gtr rfl rfl rfl (decide_eq_false d39) rr) (wl_v (.bool false) rfl rfl (y_pickF rfl rfl rfl rr) (wl_v (.bool false) rfl rfl (y_mov rfl rfl rr) (wl_vw (pt p1 2) 18 false 21 rfl rfl rfl rfl rfl (y_fieldR (n := 1) rfl s11 Tryz.underlying25 rfl (by kernel_rfl) (by decide) rfl rr) (wl_vw (iv D) 18 false 21 rfl rfl rfl rfl rfl (y_ld_stc rfl rfl Tryz.underlying3 B4 rfl rfl rr) (wl_vw (.bool false) 18 false 21 rfl rfl rfl rfl rfl (y_lss rfl rfl rfl (decide_eq_false d48) rr) (wl_v (.bool false) rfl rfl (y_pickF rfl rfl rfl rr) ?_)))))))))))
       refine wl_v (.bool false) rfl rfl (y_mov rfl rfl rr) (wl_vw (pt p1 2) 23 false 26 rfl rfl rfl rfl rfl (y_fieldR (n := 1) rfl s11 Tryz.underlying25 rfl (by kernel_rfl) (by decide) rfl rr) (wl_vw (iv D) 23 false 26 rfl rfl rfl rfl rfl (y_ld_stc rfl rfl Tryz.underlying3 B4 rfl rfl rr) (wl_vw (.bool true) 23 false 26 rfl rfl rfl rfl rfl (y_geq rfl rfl rfl (decide_eq_true d57) rr) (wl_v (.bool true) rfl rfl (y_pickF rfl rfl rfl rr) (wl_v (.bool true) rfl rfl (y_mov rfl rfl rr) (wl_unless 28 false 31 rfl rfl rfl (Or.inl rfl) rfl (wl_unless 28 false 31 rfl rfl rfl (Or.inl rfl) rfl (wl_unless 28 false 31 rfl rfl rfl (Or.inl rfl) rfl (wl_v (.bool true) rfl rfl (y_pickT rfl rfl rfl rr) (wl_v (.bool true) rfl rfl (y_mov rfl rfl rr) (wl_unless 33 false 36 rfl rfl rfl (Or.inl rfl) rfl ?_)))))))))))
       refine wl_unless 33 false 36 rfl rfl rfl (Or.inl rfl) rfl (wl_unless 33 false 36 rfl rfl rfl (Or.inl rfl) rfl (wl_v (.bool true) rfl rfl (y_pickT rfl rfl rfl rr) (wl_nil fun F58 hF59 => ?_)))
       have s60 := (hF59 41).trans s10
       have s61 : F58 40 = .bool true := (hF59 40).trans rfl
       clear hF59
       refine then_normal ?_
       refine wq_cond (t := true) s61 (fun _ => ?_) (fun e => by cases e)
       refine wq_seq (wq_region (wl_v (iv 110) rfl rfl (y_asg rfl rfl rr) (wl_nil fun F62 hF63 => ?_)))
       have s64 := (hF63 41).trans s60
       have s65 : F62 2 = iv 110 := (hF63 2).trans rfl
       clear hF63
       refine then_normal (wq_ret (then_ret ?_))
       exact end_tmp (v := iv 110) s64 rfl rfl s65 ⟨(by first | rw [show headE K Q D F = 0 from if_pos (by unfold headOk; omega)] | rw [show headE K Q D F = 110 from if_neg (by unfold headOk; omega)]), K7⟩
      ·skip
       by_cases d66 : F < 0
       ·skip
        refine wq_region (wl_v (pt p1 0) rfl rfl (y_fieldR (n := 1) rfl s11 Tryz.underlying25 rfl (by kernel_rfl) (by decide) rfl rr) (wl_v (iv K) rfl rfl (y_ld_stc rfl rfl Tryz.underlying3 B4 rfl rfl rr) (wl_v (.bool false) rfl rfl (y_lss rfl rfl rfl (decide_eq_false d12) rr) (wl_v (.bool false) rfl rfl (y_mov rfl rfl rr) (wl_vw (pt p1 0) 3 false 6 rfl rfl rfl rfl rfl (y_fieldR (n := 1) rfl s11 Tryz.underlying25 rfl (by kernel_rfl) (by decide) rfl rr) (wl_vw (iv K) 3 false 6 rfl rfl rfl rfl rfl (y_ld_stc rfl rfl Tryz.underlying3 B4 rfl rfl rr) (wl_vw (.bool false) 3 false 6 rfl rfl rfl rfl rfl (y_gtr rfl rfl rfl (decide_eq_false d21) rr) (wl_v (.bool false) rfl rfl (y_pickF rfl rfl rfl rr) (wl_v (.bool false) rfl rfl (y_mov rfl rfl rr) (wl_vw (pt p1 1) 8 false 11 rfl rfl rfl rfl rfl (y_fieldR (n := 1) rfl s11 Tryz.underlying25 rfl (by kernel_rfl) (by decide) rfl rr) (wl_vw (iv Q) 8 false 11 rfl rfl rfl rfl rfl (y_ld_stc rfl rfl Tryz.underlying3 B4 rfl rfl rr) ?_)))))))))))
        refine wl_vw (.bool false) 8 false 11 rfl rfl rfl rfl rfl (y_lss rfl rfl rfl (decide_eq_false d30) rr) (wl_v (.bool false) rfl rfl (y_pickF rfl rfl rfl rr) (wl_v (.bool false) rfl rfl (y_mov rfl rfl rr) (wl_vw (pt p1 1) 13 false 16 rfl rfl rfl rfl rfl (y_fieldR (n := 1) rfl s11 Tryz.underlying25 rfl (by kernel_rfl) (by decide) rfl rr) (wl_vw (iv Q) 13 false 16 rfl rfl rfl rfl rfl (y_ld_stc rfl rfl Tryz.underlying3 B4 rfl rfl rr) (wl_vw (.bool false) 13 false 16 rfl rfl rfl rfl rfl (y_gtr rfl rfl rfl (decide_eq_false d39) rr) (wl_v (.bool false) rfl rfl (y_pickF rfl rfl rfl rr) (wl_v (.bool false) rfl rfl (y_mov rfl rfl rr) (wl_vw (pt p1 2) 18 false 21 rfl rfl rfl rfl rfl (y_fieldR (n := 1) rfl s11 Tryz.underlying25 rfl (by kernel_rfl) (by decide) rfl rr) (wl_vw (iv D) 18 false 21 rfl rfl rfl rfl rfl (y_ld_stc rfl rfl Tryz.underlying3 B4 rfl rfl rr) (wl_vw (.bool false) 18 false 21 rfl rfl rfl rfl rfl (y_lss rfl rfl rfl (decide_eq_false d48) rr) (wl_v (.bool false) rfl rfl (y_pickF rfl rfl rfl rr) ?_)))))))))))
        refine wl_v (.bool false) rfl rfl (y_mov rfl rfl rr) (wl_vw (pt p1 2) 23 false 26 rfl rfl rfl rfl rfl (y_fieldR (n := 1) rfl s11 Tryz.underlying25 rfl (by kernel_rfl) (by decide) rfl rr) (wl_vw (iv D) 23 false 26 rfl rfl rfl rfl rfl (y_ld_stc rfl rfl Tryz.underlying3 B4 rfl rfl rr) (wl_vw (.bool false) 23 false 26 rfl rfl rfl rfl rfl (y_geq rfl rfl rfl (decide_eq_false d57) rr) (wl_v (.bool false) rfl rfl (y_pickF rfl rfl rfl rr) (wl_v (.bool false) rfl rfl (y_mov rfl rfl rr) (wl_vw (pt p1 3) 28 false 31 rfl rfl rfl rfl rfl (y_fieldR (n := 1) rfl s11 Tryz.underlying25 rfl (by kernel_rfl) (by decide) rfl rr) (wl_vw (iv F) 28 false 31 rfl rfl rfl rfl rfl (y_ld_stc rfl rfl Tryz.underlying3 B4 rfl rfl rr) (wl_vw (.bool true) 28 false 31 rfl rfl rfl rfl rfl (y_lss rfl rfl rfl (decide_eq_true d66) rr) (wl_v (.bool true) rfl rfl (y_pickF rfl rfl rfl rr) (wl_v (.bool true) rfl rfl (y_mov rfl rfl rr) (wl_unless 33 false 36 rfl rfl rfl (Or.inl rfl) rfl ?_)))))))))))
        refine wl_unless 33 false 36 rfl rfl rfl (Or.inl rfl) rfl (wl_unless 33 false 36 rfl rfl rfl (Or.inl rfl) rfl (wl_v (.bool true) rfl rfl (y_pickT rfl rfl rfl rr) (wl_nil fun F67 hF68 => ?_)))
        have s69 := (hF68 41).trans s10
        have s70 : F67 40 = .bool true := (hF68 40).trans rfl
        clear hF68
        refine then_normal ?_
        refine wq_cond (t := true) s70 (fun _ => ?_) (fun e => by cases e)
        refine wq_seq (wq_region (wl_v (iv 110) rfl rfl (y_asg rfl rfl rr) (wl_nil fun F71 hF72 => ?_)))
        have s73 := (hF72 41).trans s69
        have s74 : F71 2 = iv 110 := (hF72 2).trans rfl
        clear hF72
        refine then_normal (wq_ret (then_ret ?_))
        exact end_tmp (v := iv 110) s73 rfl rfl s74 ⟨(by first | rw [show headE K Q D F = 0 from if_pos (by unfold headOk; omega)] | rw [show headE K Q D F = 110 from if_neg (by unfold headOk; omega)]), K7⟩
       ·skip
        refine wq_region (wl_v (pt p1 0) rfl rfl (y_fieldR (n := 1) rfl s11 Tryz.underlying25 rfl (by kernel_rfl) (by decide) rfl rr) (wl_v (iv K) rfl rfl (y_ld_stc rfl rfl Tryz.underlying3 B4 rfl rfl rr) (wl_v (.bool false) rfl rfl (y_lss rfl rfl rfl (decide_eq_false d12) rr) (wl_v (.bool false) rfl rfl (y_mov rfl rfl rr) (wl_vw (pt p1 0) 3 false 6 rfl rfl rfl rfl rfl (y_fieldR (n := 1) rfl s11 Tryz.underlying25 rfl (by kernel_rfl) (by decide) rfl rr) (wl_vw (iv K) 3 false 6 rfl rfl rfl rfl rfl (y_ld_stc rfl rfl Tryz.underlying3 B4 rfl rfl rr) (wl_vw (.bool false) 3 false 6 rfl rfl rfl rfl rfl (y_gtr rfl rfl rfl (decide_eq_false d21) rr) (wl_v (.bool false) rfl rfl (y_pickF rfl rfl rfl rr) (wl_v (.bool false) rfl rfl (y_mov rfl rfl rr) (wl_vw (pt p1 1) 8 false 11 rfl rfl rfl rfl rfl (y_fieldR (n := 1) rfl s11 Tryz.underlying25 rfl (by kernel_rfl) (by decide) rfl rr) (wl_vw (iv Q) 8 false 11 rfl rfl rfl rfl rfl (y_ld_stc rfl rfl Tryz.underlying3 B4 rfl rfl rr) ?_)))))))))))
        refine wl_vw (.bool false) 8 false 11 rfl rfl rfl rfl rfl (y_lss rfl rfl rfl (decide_eq_false d30) rr) (wl_v (.bool false) rfl rfl (y_pickF rfl rfl rfl rr) (wl_v (.bool false) rfl rfl (y_mov rfl rfl rr) (wl_vw (pt p1 1) 13 false 16 rfl rfl rfl rfl rfl (y_fieldR (n := 1) rfl s11 Tryz.underlying25 rfl (by kernel_rfl) (by decide) rfl rr) (wl_vw (iv Q) 13 false 16 rfl rfl rfl rfl rfl (y_ld_stc rfl rfl Tryz.underlying3 B4 rfl rfl rr) (wl_vw (.bool false) 13 false 16 rfl rfl rfl rfl rfl (y_gtr rfl rfl rfl (decide_eq_false d39) rr) (wl_v (.bool false) rfl rfl (y_pickF rfl rfl rfl rr) (wl_v (.bool false) rfl rfl (y_mov rfl rfl rr) (wl_vw (pt p1 2) 18 false 21 rfl rfl rfl rfl rfl (y_fieldR (n := 1) rfl s11 Tryz.underlying25 rfl (by kernel_rfl) (by decide) rfl rr) (wl_vw (iv D) 18 false 21 rfl rfl rfl rfl rfl (y_ld_stc rfl rfl Tryz.underlying3 B4 rfl rfl rr) (wl_vw (.bool false) 18 false 21 rfl rfl rfl rfl rfl (y_lss rfl rfl rfl (decide_eq_false d48) rr) (wl_v (.bool false) rfl rfl (y_pickF rfl rfl rfl rr) ?_)))))))))))
        refine wl_v (.bool false) rfl rfl (y_mov rfl rfl rr) (wl_vw (pt p1 2) 23 false 26 rfl rfl rfl rfl rfl (y_fieldR (n := 1) rfl s11 Tryz.underlying25 rfl (by kernel_rfl) (by decide) rfl rr) (wl_vw (iv D) 23 false 26 rfl rfl rfl rfl rfl (y_ld_stc rfl rfl Tryz.underlying3 B4 rfl rfl rr) (wl_vw (.bool false) 23 false 26 rfl rfl rfl rfl rfl (y_geq rfl rfl rfl (decide_eq_false d57) rr) (wl_v (.bool false) rfl rfl (y_pickF rfl rfl rfl rr) (wl_v (.bool false) rfl rfl (y_mov rfl rfl rr) (wl_vw (pt p1 3) 28 false 31 rfl rfl rfl rfl rfl (y_fieldR (n := 1) rfl s11 Tryz.underlying25 rfl (by kernel_rfl) (by decide) rfl rr) (wl_vw (iv F) 28 false 31 rfl rfl rfl rfl rfl (y_ld_stc rfl rfl Tryz.underlying3 B4 rfl rfl rr) (wl_vw (.bool false) 28 false 31 rfl rfl rfl rfl rfl (y_lss rfl rfl rfl (decide_eq_false d66) rr) (wl_v (.bool false) rfl rfl (y_pickF rfl rfl rfl rr) (wl_v (.bool false) rfl rfl (y_mov rfl rfl rr) (wl_vw (pt p1 3) 33 false 36 rfl rfl rfl rfl rfl (y_fieldR (n := 1) rfl s11 Tryz.underlying25 rfl (by kernel_rfl) (by decide) rfl rr) ?_)))))))))))
        refine wl_vw (iv F) 33 false 36 rfl rfl rfl rfl rfl (y_ld_stc rfl rfl Tryz.underlying3 B4 rfl rfl rr) (wl_vw (.bool (decide (1073741824 < F))) 33 false 36 rfl rfl rfl rfl rfl (y_gtr rfl rfl rfl rfl rr) (wl_v (.bool (decide (1073741824 < F))) rfl rfl (y_pickF rfl rfl rfl rr) (wl_nil fun F75 hF76 => ?_)))
        have s77 := (hF76 41).trans s10
        have s78 : F75 40 = .bool (decide (1073741824 < F)) := (hF76 40).trans rfl
        clear hF76
        refine then_normal ?_
        refine wq_cond s78 (fun c79 => ?_) (fun c79 => ?_)
        ·replace c79 := of_decide_eq_true c79
         refine wq_seq (wq_region (wl_v (iv 110) rfl rfl (y_asg rfl rfl rr) (wl_nil fun F80 hF81 => ?_)))
         have s82 := (hF81 41).trans s77
         have s83 : F80 2 = iv 110 := (hF81 2).trans rfl
         clear hF81
         refine then_normal (wq_ret (then_ret ?_))
         exact end_tmp (v := iv 110) s82 rfl rfl s83 ⟨(by first | rw [show headE K Q D F = 0 from if_pos (by unfold headOk; omega)] | rw [show headE K Q D F = 110 from if_neg (by unfold headOk; omega)]), K7⟩
        ·replace c79 := of_decide_eq_false c79
         refine wq_skip (then_normal (wq_seq (wq_region (wl_v (iv 0) rfl rfl (y_asg rfl rfl rr) (wl_nil fun F84 hF85 => ?_)))))
         have s86 := (hF85 41).trans s77
         have s87 : F84 2 = iv 0 := (hF85 2).trans rfl
         clear hF85
         refine then_normal (wq_ret ?_)
         exact end_tmp (v := iv 0) s86 rfl rfl s87 ⟨(by first | rw [show headE K Q D F = 0 from if_pos (by unfold headOk; omega)] | rw [show headE K Q D F = 110 from if_neg (by unfold headOk; omega)]), K7⟩
end Go.Proofs.YtknjpdcpmpfklaaGreatDoor
set_option maxRecDepth 100000
namespace Go.Proofs.YtknjpdcpmpfklaaGreatDoor
open Go.RowKit
def rCh : RowT Ch := { t := 32, e := 71, k := 21, by_ := 168, enc := chV, d := ⟨0, 0, 0, 0, 0, fun _ => 0⟩, z := .agg (chV ⟨0, 0, 0, 0, 0, fun _ => 0⟩).toArray }
instance rCh_ok : RowT.Ok rCh := ⟨Tryz.underlying32, by kernel_rfl, rfl, by decide, fun _ => rfl, fun c => one_ch c, by decide⟩
end Go.Proofs.YtknjpdcpmpfklaaGreatDoor
set_option maxRecDepth 100000
namespace Go.Proofs.YtknjpdcpmpfklaaGreatDoor
open Go.RowKit
theorem seq_is {W H R B : Int} (h : seqE W H R B = 0) : seqOk W H R B := Decidable.byContradiction fun hn => by unfold seqE at h; rw [if_neg hn] at h; cases h
theorem head_is {K Q D F : Int} (h : headE K Q D F = 0) : headOk K Q D F := Decidable.byContradiction fun hn => by unfold headE at h; rw [if_neg hn] at h; cases h
theorem seq_side {W H R B : Int} (h : seqOk W H R B) : 8 ≤ W ∧ W ≤ 64 ∧ W % 8 = 0 ∧ 8 ≤ H ∧ H ≤ 64 ∧ H % 8 = 0 := by
  obtain ⟨h1, h2, _⟩ := h; unfold sideOk at h1 h2; omega
theorem plN_0 {W : Int} {p : Nat} (h0 : 0 ≤ W) (hp : p = 0) : Int.tdiv W 4 = ((plN W p : Nat) : Int) := by
  rw [Int.tdiv_eq_ediv_of_nonneg h0]; unfold plN; rw [if_pos hp]; omega
theorem plN_p {W : Int} {p : Nat} (h0 : 0 ≤ W) (hp : p ≠ 0) : Int.tdiv W 8 = ((plN W p : Nat) : Int) := by
  rw [Int.tdiv_eq_ediv_of_nonneg h0]; unfold plN; rw [if_neg hp]; omega
theorem plN_le {W : Int} {p : Nat} (h : W ≤ 64) : plN W p ≤ 16 := by unfold plN; split <;> omega
theorem pXY_in {w i : Nat} (hw : 0 < w) (h16 : w ≤ 16) (hi : i ≤ 256) : 0 ≤ pX w i ∧ pX w i ≤ 16 ∧ 0 ≤ pY w i ∧ pY w i ≤ 256 := by
  have h1 := Nat.mod_lt i hw
  have h2 := Nat.div_le_self i w
  refine ⟨Int.natCast_nonneg _, Int.ofNat_le.2 (show i % w ≤ 16 by omega), Int.natCast_nonneg _, Int.ofNat_le.2 (show i / w ≤ 256 by omega)⟩
theorem fits_dec {W H R B : Int} {f : FD} {b : Bool} (h : b = true ↔ seqE W H R B = 0 ∧ checkE f = 0 ∧ W = f.W ∧ H = f.H) : b = decide (fitsP W H R B f) := by
  rw [Bool.eq_iff_iff, decide_eq_true_iff]; exact h.trans fits_iff.symm
theorem pcref_fits (W H R B : Int) (f : FD) (f0 f1 f2 : Value) (T_f0 : Nat → Prop) (T_f1 : Nat → Prop) (T_f2 : Nat → Prop) (w0 : World) (h_f0 : Byt w0 T_f0 f0 ((f).p0)) (h_f1 : Byt w0 T_f1 f1 ((f).p1)) (h_f2 : Byt w0 T_f2 f2 ((f).p2)) :
  Calls Tryz.prog 17 #[.agg #[.int .i64 (W), .int .i64 (H), .int .i64 (R), .int .i64 (B)], .agg #[.int .i64 ((f).W), .int .i64 ((f).H), f0, f1, f2]] w0 fun e w' => e = .returned (.bool (decide (fitsP W H R B f))) ∧ Kept (fun _ => False) w0 w' := by
 refine calls_wq (args := [.agg #[iv W, iv H, iv R, iv B], .agg #[iv (f.W), iv (f.H), f0, f1, f2]]) 27 Tryz.func17 rfl rfl (Nat.le_of_ble_eq_true rfl) ?_
 have K0 := Kept.refl (fun _ => False) w0
 have g_f0 := Grew.refl w0 T_f0
 have g_f1 := Grew.refl w0 T_f1
 have g_f2 := Grew.refl w0 T_f2
 refine wq_seq (wq_region (wl_box_stc (vs := [iv W, iv H, iv R, iv B]) rfl rfl rfl rfl fun p1 w2 B4 g5 k3 => ?_))
 have B10 := h_f0.all k3 Apart.none
 have B11 := h_f1.all k3 Apart.none
 have B12 := h_f2.all k3 Apart.none
 have K13 := K0.tr k3
 refine wl_box_stc (vs := [iv (f.W), iv (f.H), f0, f1, f2]) rfl rfl rfl rfl fun p14 w15 B17 g18 k16 => ?_
 have B24 := B10.all k16 Apart.none
 have B25 := B11.all k16 Apart.none
 have B26 := B12.all k16 Apart.none
 have B27 := B4.all k16 id
 have K28 := K13.tr k16
 refine wl_v (.bool false) rfl rfl (y_asg rfl rfl rr) (wl_nil fun F29 hF30 => ?_)
 have s31 : F29 27 = undef := (hF30 27).trans rfl
 have s32 : F29 2 = pt p1 0 := (hF30 2).trans rfl
 have s33 : F29 3 = pt p14 0 := (hF30 3).trans rfl
 clear hF30
 refine then_normal (wq_seq ?_)
 by_cases d34 : (seqE W H R B) = 0
 ·skip
  by_cases d35 : (checkE f) = 0
  ·skip
   by_cases d36 : W = (f.W)
   ·skip
    refine wq_region (wl_v (.agg #[iv W, iv H, iv R, iv B]) rfl rfl (y_load_stc stcT_seq rfl s32 B27 rr) (wl_cs rfl rfl rfl rfl rfl (fun _ _ => by kernel_rfl) (vsC rfl vsN) (href_seq W H R B  _   ) fun w37 k38 => ?_))
    have B39 := B24.all k38 Apart.none
    have B40 := B25.all k38 Apart.none
    have B41 := B26.all k38 Apart.none
    have B42 := B27.all k38 id
    have B43 := B17.all k38 id
    have K44 := K28.tr k38
    refine wl_v (.bool true) rfl rfl (y_eqlI rfl rfl rfl (decide_eq_true d34) rr) (wl_v (.bool true) rfl rfl (y_mov rfl rfl rr) (wl_vw (.agg #[iv (f.W), iv (f.H), f0, f1, f2]) 3 true 8 rfl rfl rfl rfl rfl (y_load_stc stcT_frame rfl s33 B43 rr) (wl_callw (R := fun v_ w_ => v_ = iv (checkE f) ∧ Kept (fun _ => False) w37 w_) 3 true 8 rfl rfl rfl rfl rfl (y_cs rfl rfl rfl (fun _ _ => by kernel_rfl) (ev_func _) (vsC rfl vsN) (fref_check f f0 f1 f2 T_f0 T_f1 T_f2 _  B39 B40 B41 ) (fun e_ w_ h_ => ⟨_, h_.1, rfl, h_.2⟩)) ?_)))
    rintro _ w45 ⟨rfl, k46⟩
    have B50 := B42.all k46 id
    have B51 := B43.all k46 id
    have K52 := K44.tr k46
    refine wl_vw (.bool true) 3 true 8 rfl rfl rfl rfl rfl (y_eqlI rfl rfl rfl (decide_eq_true d35) rr) (wl_v (.bool true) rfl rfl (y_pickT rfl rfl rfl rr) (wl_v (.bool true) rfl rfl (y_mov rfl rfl rr) (wl_vw (pt p1 0) 8 true 13 rfl rfl rfl rfl rfl (y_fieldR (n := 1) rfl s32 Tryz.underlying23 rfl (by kernel_rfl) (by decide) rfl rr) (wl_vw (iv W) 8 true 13 rfl rfl rfl rfl rfl (y_ld_stc rfl rfl Tryz.underlying3 B50 rfl rfl rr) (wl_vw (pt p14 0) 8 true 13 rfl rfl rfl rfl rfl (y_fieldR (n := 1) rfl s33 Tryz.underlying29 rfl (by kernel_rfl) (by decide) rfl rr) (wl_vw (iv (f.W)) 8 true 13 rfl rfl rfl rfl rfl (y_ld_stc rfl rfl Tryz.underlying3 B51 rfl rfl rr) (wl_vw (.bool true) 8 true 13 rfl rfl rfl rfl rfl (y_eqlI rfl rfl rfl (decide_eq_true d36) rr) (wl_v (.bool true) rfl rfl (y_pickT rfl rfl rfl rr) (wl_v (.bool true) rfl rfl (y_mov rfl rfl rr) (wl_vw (pt p1 1) 15 true 20 rfl rfl rfl rfl rfl (y_fieldR (n := 1) rfl s32 Tryz.underlying23 rfl (by kernel_rfl) (by decide) rfl rr) (wl_vw (iv H) 15 true 20 rfl rfl rfl rfl rfl (y_ld_stc rfl rfl Tryz.underlying3 B50 rfl rfl rr) ?_)))))))))))
    refine wl_vw (pt p14 1) 15 true 20 rfl rfl rfl rfl rfl (y_fieldR (n := 1) rfl s33 Tryz.underlying29 rfl (by kernel_rfl) (by decide) rfl rr) (wl_vw (iv (f.H)) 15 true 20 rfl rfl rfl rfl rfl (y_ld_stc rfl rfl Tryz.underlying3 B51 rfl rfl rr) (wl_vw (.bool (decide (H = (f.H)))) 15 true 20 rfl rfl rfl rfl rfl (y_eqlI rfl rfl rfl rfl rr) (wl_v (.bool (decide (H = (f.H)))) rfl rfl (y_pickT rfl rfl rfl rr) (wl_v (.bool (decide (H = (f.H)))) rfl rfl (y_asg rfl rfl rr) (wl_nil fun F53 hF54 => ?_)))))
    have s55 := (hF54 27).trans s31
    have s56 : F53 4 = .bool (decide (H = (f.H))) := (hF54 4).trans rfl
    clear hF54
    refine then_normal (wq_ret ?_)
    exact end_tmp (v := .bool (decide (H = (f.H)))) s55 rfl rfl s56 ⟨(retB (fits_dec (by simp_all))), K52⟩
   ·skip
    refine wq_region (wl_v (.agg #[iv W, iv H, iv R, iv B]) rfl rfl (y_load_stc stcT_seq rfl s32 B27 rr) (wl_cs rfl rfl rfl rfl rfl (fun _ _ => by kernel_rfl) (vsC rfl vsN) (href_seq W H R B  _   ) fun w57 k58 => ?_))
    have B59 := B24.all k58 Apart.none
    have B60 := B25.all k58 Apart.none
    have B61 := B26.all k58 Apart.none
    have B62 := B27.all k58 id
    have B63 := B17.all k58 id
    have K64 := K28.tr k58
    refine wl_v (.bool true) rfl rfl (y_eqlI rfl rfl rfl (decide_eq_true d34) rr) (wl_v (.bool true) rfl rfl (y_mov rfl rfl rr) (wl_vw (.agg #[iv (f.W), iv (f.H), f0, f1, f2]) 3 true 8 rfl rfl rfl rfl rfl (y_load_stc stcT_frame rfl s33 B63 rr) (wl_callw (R := fun v_ w_ => v_ = iv (checkE f) ∧ Kept (fun _ => False) w57 w_) 3 true 8 rfl rfl rfl rfl rfl (y_cs rfl rfl rfl (fun _ _ => by kernel_rfl) (ev_func _) (vsC rfl vsN) (fref_check f f0 f1 f2 T_f0 T_f1 T_f2 _  B59 B60 B61 ) (fun e_ w_ h_ => ⟨_, h_.1, rfl, h_.2⟩)) ?_)))
    rintro _ w65 ⟨rfl, k66⟩
    have B70 := B62.all k66 id
    have B71 := B63.all k66 id
    have K72 := K64.tr k66
    refine wl_vw (.bool true) 3 true 8 rfl rfl rfl rfl rfl (y_eqlI rfl rfl rfl (decide_eq_true d35) rr) (wl_v (.bool true) rfl rfl (y_pickT rfl rfl rfl rr) (wl_v (.bool true) rfl rfl (y_mov rfl rfl rr) (wl_vw (pt p1 0) 8 true 13 rfl rfl rfl rfl rfl (y_fieldR (n := 1) rfl s32 Tryz.underlying23 rfl (by kernel_rfl) (by decide) rfl rr) (wl_vw (iv W) 8 true 13 rfl rfl rfl rfl rfl (y_ld_stc rfl rfl Tryz.underlying3 B70 rfl rfl rr) (wl_vw (pt p14 0) 8 true 13 rfl rfl rfl rfl rfl (y_fieldR (n := 1) rfl s33 Tryz.underlying29 rfl (by kernel_rfl) (by decide) rfl rr) (wl_vw (iv (f.W)) 8 true 13 rfl rfl rfl rfl rfl (y_ld_stc rfl rfl Tryz.underlying3 B71 rfl rfl rr) (wl_vw (.bool false) 8 true 13 rfl rfl rfl rfl rfl (y_eqlI rfl rfl rfl (decide_eq_false d36) rr) (wl_v (.bool false) rfl rfl (y_pickT rfl rfl rfl rr) (wl_v (.bool false) rfl rfl (y_mov rfl rfl rr) (wl_unless 15 true 20 rfl rfl rfl (Or.inl rfl) rfl (wl_unless 15 true 20 rfl rfl rfl (Or.inl rfl) rfl ?_)))))))))))
    refine wl_unless 15 true 20 rfl rfl rfl (Or.inl rfl) rfl (wl_unless 15 true 20 rfl rfl rfl (Or.inl rfl) rfl (wl_unless 15 true 20 rfl rfl rfl (Or.inl rfl) rfl (wl_v (.bool false) rfl rfl (y_pickF rfl rfl rfl rr) (wl_v (.bool false) rfl rfl (y_asg rfl rfl rr) (wl_nil fun F73 hF74 => ?_)))))
    have s75 := (hF74 27).trans s31
    have s76 : F73 4 = .bool false := (hF74 4).trans rfl
    clear hF74
    refine then_normal (wq_ret ?_)
    exact end_tmp (v := .bool false) s75 rfl rfl s76 ⟨(retB (fits_dec (by simp_all))), K72⟩
  ·skip
   refine wq_region (wl_v (.agg #[iv W, iv H, iv R, iv B]) rfl rfl (y_load_stc stcT_seq rfl s32 B27 rr) (wl_cs rfl rfl rfl rfl rfl (fun _ _ => by kernel_rfl) (vsC rfl vsN) (href_seq W H R B  _   ) fun w77 k78 => ?_))
   have B79 := B24.all k78 Apart.none
   have B80 := B25.all k78 Apart.none
   have B81 := B26.all k78 Apart.none
   have B83 := B17.all k78 id
   have K84 := K28.tr k78
   refine wl_v (.bool true) rfl rfl (y_eqlI rfl rfl rfl (decide_eq_true d34) rr) (wl_v (.bool true) rfl rfl (y_mov rfl rfl rr) (wl_vw (.agg #[iv (f.W), iv (f.H), f0, f1, f2]) 3 true 8 rfl rfl rfl rfl rfl (y_load_stc stcT_frame rfl s33 B83 rr) (wl_callw (R := fun v_ w_ => v_ = iv (checkE f) ∧ Kept (fun _ => False) w77 w_) 3 true 8 rfl rfl rfl rfl rfl (y_cs rfl rfl rfl (fun _ _ => by kernel_rfl) (ev_func _) (vsC rfl vsN) (fref_check f f0 f1 f2 T_f0 T_f1 T_f2 _  B79 B80 B81 ) (fun e_ w_ h_ => ⟨_, h_.1, rfl, h_.2⟩)) ?_)))
   rintro _ w85 ⟨rfl, k86⟩
   have K92 := K84.tr k86
   refine wl_vw (.bool false) 3 true 8 rfl rfl rfl rfl rfl (y_eqlI rfl rfl rfl (decide_eq_false d35) rr) (wl_v (.bool false) rfl rfl (y_pickT rfl rfl rfl rr) (wl_v (.bool false) rfl rfl (y_mov rfl rfl rr) (wl_unless 8 true 13 rfl rfl rfl (Or.inl rfl) rfl (wl_unless 8 true 13 rfl rfl rfl (Or.inl rfl) rfl (wl_unless 8 true 13 rfl rfl rfl (Or.inl rfl) rfl (wl_unless 8 true 13 rfl rfl rfl (Or.inl rfl) rfl (wl_unless 8 true 13 rfl rfl rfl (Or.inl rfl) rfl (wl_v (.bool false) rfl rfl (y_pickF rfl rfl rfl rr) (wl_v (.bool false) rfl rfl (y_mov rfl rfl rr) (wl_unless 15 true 20 rfl rfl rfl (Or.inl rfl) rfl (wl_unless 15 true 20 rfl rfl rfl (Or.inl rfl) rfl ?_)))))))))))
   refine wl_unless 15 true 20 rfl rfl rfl (Or.inl rfl) rfl (wl_unless 15 true 20 rfl rfl rfl (Or.inl rfl) rfl (wl_unless 15 true 20 rfl rfl rfl (Or.inl rfl) rfl (wl_v (.bool false) rfl rfl (y_pickF rfl rfl rfl rr) (wl_v (.bool false) rfl rfl (y_asg rfl rfl rr) (wl_nil fun F93 hF94 => ?_)))))
   have s95 := (hF94 27).trans s31
   have s96 : F93 4 = .bool false := (hF94 4).trans rfl
   clear hF94
   refine then_normal (wq_ret ?_)
   exact end_tmp (v := .bool false) s95 rfl rfl s96 ⟨(retB (fits_dec (by simp_all))), K92⟩
 ·skip
  refine wq_region (wl_v (.agg #[iv W, iv H, iv R, iv B]) rfl rfl (y_load_stc stcT_seq rfl s32 B27 rr) (wl_cs rfl rfl rfl rfl rfl (fun _ _ => by kernel_rfl) (vsC rfl vsN) (href_seq W H R B  _   ) fun w97 k98 => ?_))
  have K104 := K28.tr k98
  refine wl_v (.bool false) rfl rfl (y_eqlI rfl rfl rfl (decide_eq_false d34) rr) (wl_v (.bool false) rfl rfl (y_mov rfl rfl rr) (wl_unless 3 true 8 rfl rfl rfl (Or.inl rfl) rfl (wl_unless 3 true 8 rfl rfl rfl (Or.inl rfl) rfl (wl_unless 3 true 8 rfl rfl rfl (Or.inl rfl) rfl (wl_v (.bool false) rfl rfl (y_pickF rfl rfl rfl rr) (wl_v (.bool false) rfl rfl (y_mov rfl rfl rr) (wl_unless 8 true 13 rfl rfl rfl (Or.inl rfl) rfl (wl_unless 8 true 13 rfl rfl rfl (Or.inl rfl) rfl (wl_unless 8 true 13 rfl rfl rfl (Or.inl rfl) rfl (wl_unless 8 true 13 rfl rfl rfl (Or.inl rfl) rfl (wl_unless 8 true 13 rfl rfl rfl (Or.inl rfl) rfl ?_)))))))))))
  refine wl_v (.bool false) rfl rfl (y_pickF rfl rfl rfl rr) (wl_v (.bool false) rfl rfl (y_mov rfl rfl rr) (wl_unless 15 true 20 rfl rfl rfl (Or.inl rfl) rfl (wl_unless 15 true 20 rfl rfl rfl (Or.inl rfl) rfl (wl_unless 15 true 20 rfl rfl rfl (Or.inl rfl) rfl (wl_unless 15 true 20 rfl rfl rfl (Or.inl rfl) rfl (wl_unless 15 true 20 rfl rfl rfl (Or.inl rfl) rfl (wl_v (.bool false) rfl rfl (y_pickF rfl rfl rfl rr) (wl_v (.bool false) rfl rfl (y_asg rfl rfl rr) (wl_nil fun F105 hF106 => ?_)))))))))
  have s107 := (hF106 27).trans s31
  have s108 : F105 4 = .bool false := (hF106 4).trans rfl
  clear hF106
  refine then_normal (wq_ret ?_)
  exact end_tmp (v := .bool false) s107 rfl rfl s108 ⟨(retB (fits_dec (by simp_all))), K104⟩
theorem pcref_blocks (W H R B : Int) (p : Nat) (w0 : World) (hs : seqOk W H R B) :
  Calls Tryz.prog 35 #[.agg #[.int .i64 (W), .int .i64 (H), .int .i64 (R), .int .i64 (B)], .int .i64 (((p : Nat) : Int))] w0 fun e w' => e = .returned (.tuple #[.int .i64 (((plN W p : Nat) : Int)), .int .i64 (((plN H p : Nat) : Int))]) ∧ Kept (fun _ => False) w0 w' := by
 refine calls_wq (args := [.agg #[iv W, iv H, iv R, iv B], iv ((p : Nat) : Int)]) 20 Tryz.func35 rfl rfl (Nat.le_of_ble_eq_true rfl) ?_
 have K0 := Kept.refl (fun _ => False) w0
 have hsd := seq_side hs
 have hpw := plN_le (W := W) (p := p) hsd.2.1
 have hph := plN_le (W := H) (p := p) hsd.2.2.2.2.1
 refine wq_seq (wq_region (wl_box_stc (vs := [iv W, iv H, iv R, iv B]) rfl rfl rfl rfl fun p1 w2 B4 g5 k3 => ?_))
 have K7 := K0.tr k3
 refine wl_v (iv 0) rfl rfl (y_asg rfl rfl rr) (wl_v (iv 0) rfl rfl (y_asg rfl rfl rr) (wl_nil fun F8 hF9 => ?_))
 have s10 : F8 1 = iv ((p : Nat) : Int) := (hF9 1).trans rfl
 have s11 : F8 20 = undef := (hF9 20).trans rfl
 have s12 : F8 2 = pt p1 0 := (hF9 2).trans rfl
 clear hF9
 refine then_normal (wq_seq (wq_seq (wq_region (wl_mv rfl rfl rfl s10 (wl_v (.bool (decide (((p : Nat) : Int) = 0))) rfl rfl (y_eqlI rfl rfl rfl rfl rr) (wl_nil fun F13 hF14 => ?_))))))
 obtain ⟨s15, s16⟩ := t2 hF14 20 s11 2 s12
 have s17 : F13 7 = .bool (decide (((p : Nat) : Int) = 0)) := (hF14 7).trans rfl
 clear hF14
 refine then_normal ?_
 refine wq_cond s17 (fun c18 => ?_) (fun c18 => ?_)
 ·replace c18 := of_decide_eq_true c18
  refine wq_seq ?_
  refine wq_said [some 8, some 9, some 10, some 11, some 12, some 13, some 4, some 5] [Pd.eq (pt p1 0), Pd.eq (iv W), Pd.eq (iv ((plN W p : Nat) : Int)), Pd.eq (pt p1 1), Pd.eq (iv H), Pd.eq (iv ((plN H p : Nat) : Int)), Pd.eq (iv ((plN W p : Nat) : Int)), Pd.eq (iv ((plN H p : Nat) : Int))] (by kernel_rfl) (by kernel_rfl) ?_ ?_
  ·refine stepsF_cons ?_ ?_
   ·refine StepF.one rfl fun F_ w_ hR hout hD => ?_
    exact (y_fieldR (n := 1) rfl ((hout 2 rfl (by decide)).trans s16) Tryz.underlying23 rfl (by kernel_rfl) (by decide) rfl ⟨rfl, Kept.refl _ _⟩)
   refine stepsF_cons ?_ ?_
   ·refine StepF.one rfl fun F_ w_ hR hout hD => ?_
    have g8 : F_ 8 = pt p1 0 := (hD.get 0 rfl rfl rfl)
    exact (y_ld_stc rfl g8 Tryz.underlying3 (B4.all hR id) rfl rfl ⟨rfl, Kept.refl _ _⟩)
   refine stepsF_cons ?_ ?_
   ·refine StepF.one rfl fun F_ w_ hR hout hD => ?_
    have g9 : F_ 9 = iv W := (hD.get 0 rfl rfl rfl)
    exact (y_quo rfl g9 rfl (by first | decide | omega) (i64_n (plN_0 (by omega) (by omega)) (by omega)) ⟨rfl, Kept.refl _ _⟩)
   refine stepsF_cons ?_ ?_
   ·refine StepF.one rfl fun F_ w_ hR hout hD => ?_
    exact (y_fieldR (n := 1) rfl ((hout 2 rfl (by decide)).trans s16) Tryz.underlying23 rfl (by kernel_rfl) (by decide) rfl ⟨rfl, Kept.refl _ _⟩)
   refine stepsF_cons ?_ ?_
   ·refine StepF.one rfl fun F_ w_ hR hout hD => ?_
    have g11 : F_ 11 = pt p1 1 := (hD.get 0 rfl rfl rfl)
    exact (y_ld_stc rfl g11 Tryz.underlying3 (B4.all hR id) rfl rfl ⟨rfl, Kept.refl _ _⟩)
   refine stepsF_cons ?_ ?_
   ·refine StepF.one rfl fun F_ w_ hR hout hD => ?_
    have g12 : F_ 12 = iv H := (hD.get 0 rfl rfl rfl)
    exact (y_quo rfl g12 rfl (by first | decide | omega) (i64_n (plN_0 (by omega) (by omega)) (by omega)) ⟨rfl, Kept.refl _ _⟩)
   refine stepsF_cons ?_ ?_
   ·refine StepF.one rfl fun F_ w_ hR hout hD => ?_
    have g10 : F_ 10 = iv ((plN W p : Nat) : Int) := (hD.get 0 rfl rfl rfl)
    exact (y_asg rfl g10 ⟨rfl, Kept.refl _ _⟩)
   refine stepsF_cons ?_ ?_
   ·refine StepF.one rfl fun F_ w_ hR hout hD => ?_
    have g13 : F_ 13 = iv ((plN H p : Nat) : Int) := (hD.get 0 rfl rfl rfl)
    exact (y_asg rfl g13 ⟨rfl, Kept.refl _ _⟩)
   exact stepsF_nil
  intro v19 F20 w21 k22 G23 hF24
  have K27 := K7.tr k22
  have s28 := (hF24 20).trans s15
  have s29 : F20 4 = iv ((plN W p : Nat) : Int) := (hF24 4).trans (G23 6 (by decide))
  have s30 : F20 5 = iv ((plN H p : Nat) : Int) := (hF24 5).trans (G23 7 (by decide))
  clear G23 hF24
  refine then_normal (wq_ret (then_ret ?_))
  exact end_2 s28 rfl (res_tmp (v := iv ((plN W p : Nat) : Int)) rfl s29) (res_tmp (v := iv ((plN H p : Nat) : Int)) rfl s30) ⟨rfl, K27⟩
 ·replace c18 := of_decide_eq_false c18
  refine wq_skip (then_normal (wq_seq ?_))
  refine wq_said [some 14, some 15, some 16, some 17, some 18, some 19, some 4, some 5] [Pd.eq (pt p1 0), Pd.eq (iv W), Pd.eq (iv ((plN W p : Nat) : Int)), Pd.eq (pt p1 1), Pd.eq (iv H), Pd.eq (iv ((plN H p : Nat) : Int)), Pd.eq (iv ((plN W p : Nat) : Int)), Pd.eq (iv ((plN H p : Nat) : Int))] (by kernel_rfl) (by kernel_rfl) ?_ ?_
  ·refine stepsF_cons ?_ ?_
   ·refine StepF.one rfl fun F_ w_ hR hout hD => ?_
    exact (y_fieldR (n := 1) rfl ((hout 2 rfl (by decide)).trans s16) Tryz.underlying23 rfl (by kernel_rfl) (by decide) rfl ⟨rfl, Kept.refl _ _⟩)
   refine stepsF_cons ?_ ?_
   ·refine StepF.one rfl fun F_ w_ hR hout hD => ?_
    have g14 : F_ 14 = pt p1 0 := (hD.get 0 rfl rfl rfl)
    exact (y_ld_stc rfl g14 Tryz.underlying3 (B4.all hR id) rfl rfl ⟨rfl, Kept.refl _ _⟩)
   refine stepsF_cons ?_ ?_
   ·refine StepF.one rfl fun F_ w_ hR hout hD => ?_
    have g15 : F_ 15 = iv W := (hD.get 0 rfl rfl rfl)
    exact (y_quo rfl g15 rfl (by first | decide | omega) (i64_n (plN_p (by omega) (by omega)) (by omega)) ⟨rfl, Kept.refl _ _⟩)
   refine stepsF_cons ?_ ?_
   ·refine StepF.one rfl fun F_ w_ hR hout hD => ?_
    exact (y_fieldR (n := 1) rfl ((hout 2 rfl (by decide)).trans s16) Tryz.underlying23 rfl (by kernel_rfl) (by decide) rfl ⟨rfl, Kept.refl _ _⟩)
   refine stepsF_cons ?_ ?_
   ·refine StepF.one rfl fun F_ w_ hR hout hD => ?_
    have g17 : F_ 17 = pt p1 1 := (hD.get 0 rfl rfl rfl)
    exact (y_ld_stc rfl g17 Tryz.underlying3 (B4.all hR id) rfl rfl ⟨rfl, Kept.refl _ _⟩)
   refine stepsF_cons ?_ ?_
   ·refine StepF.one rfl fun F_ w_ hR hout hD => ?_
    have g18 : F_ 18 = iv H := (hD.get 0 rfl rfl rfl)
    exact (y_quo rfl g18 rfl (by first | decide | omega) (i64_n (plN_p (by omega) (by omega)) (by omega)) ⟨rfl, Kept.refl _ _⟩)
   refine stepsF_cons ?_ ?_
   ·refine StepF.one rfl fun F_ w_ hR hout hD => ?_
    have g16 : F_ 16 = iv ((plN W p : Nat) : Int) := (hD.get 0 rfl rfl rfl)
    exact (y_asg rfl g16 ⟨rfl, Kept.refl _ _⟩)
   refine stepsF_cons ?_ ?_
   ·refine StepF.one rfl fun F_ w_ hR hout hD => ?_
    have g19 : F_ 19 = iv ((plN H p : Nat) : Int) := (hD.get 0 rfl rfl rfl)
    exact (y_asg rfl g19 ⟨rfl, Kept.refl _ _⟩)
   exact stepsF_nil
  intro v31 F32 w33 k34 G35 hF36
  have K39 := K7.tr k34
  have s40 := (hF36 20).trans s15
  have s41 : F32 4 = iv ((plN W p : Nat) : Int) := (hF36 4).trans (G35 6 (by decide))
  have s42 : F32 5 = iv ((plN H p : Nat) : Int) := (hF36 5).trans (G35 7 (by decide))
  clear G35 hF36
  refine then_normal (wq_ret ?_)
  exact end_2 s40 rfl (res_tmp (v := iv ((plN W p : Nat) : Int)) rfl s41) (res_tmp (v := iv ((plN H p : Nat) : Int)) rfl s42) ⟨rfl, K39⟩
theorem pcref_empty (W H R B : Int) (w0 : World) (hs : seqOk W H R B) :
  Calls Tryz.prog 44 #[.agg #[.int .i64 (W), .int .i64 (H), .int .i64 (R), .int .i64 (B)]] w0 fun e w' => ∃ (v1 : Value) (T1 : Nat → Prop) (v2 : Value) (T2 : Nat → Prop) (v3 : Value) (T3 : Nat → Prop), e = .returned (.agg #[.int .i64 ((newF W H 0).W), .int .i64 ((newF W H 0).H), v1, v2, v3]) ∧ Kept (fun _ => False) w0 w' ∧ (Owb w' T1 v1 ((newF W H 0).p0) ∧ Grew w0 noB T1) ∧ (Owb w' T2 v2 ((newF W H 0).p1) ∧ Grew w0 noB T2) ∧ (Owb w' T3 v3 ((newF W H 0).p2) ∧ Grew w0 noB T3) ∧ Apart T1 T2 ∧ Apart T1 T3 ∧ Apart T2 T3 := by
 refine calls_wq (args := [.agg #[iv W, iv H, iv R, iv B]]) 36 Tryz.func44 rfl rfl (Nat.le_of_ble_eq_true rfl) ?_
 have K0 := Kept.refl (fun _ => False) w0
 have hsd := seq_side hs
 have hF := newF_yes 0 (sideB_of hs.1) (sideB_of hs.2.1)
 have hm0 : 0 ≤ W * H := Int.mul_nonneg (by omega) (by omega)
 have hm1 : W * H ≤ 64 * 64 := Int.mul_le_mul hsd.2.1 hsd.2.2.2.2.1 (by omega) (by omega)
 refine wq_seq (wq_region (wl_box_stc (vs := [iv W, iv H, iv R, iv B]) rfl rfl rfl rfl fun p1 w2 B4 g5 k3 => ?_))
 have K7 := K0.tr k3
 refine wl_alloc_stc (n := 5) (vs := [iv 0, iv 0, .slice none 0 0, .slice none 0 0, .slice none 0 0]) rfl rfl rfl (by kernel_rfl) fun p8 w9 B11 g12 k10 => ?_
 have gr13 : Grew w0 noB (onB p8) := Grew.new K7 g12
 have B15 := B4.all k10 id
 have K16 := K7.tr k10
 refine wl_nil fun F17 hF18 => ?_
 have s19 : F17 36 = undef := (hF18 36).trans rfl
 have s20 : F17 1 = pt p1 0 := (hF18 1).trans rfl
 have s21 : F17 2 = pt p8 0 := (hF18 2).trans rfl
 clear hF18
 refine then_normal (wq_seq (wq_region (wl_v (pt p1 0) rfl rfl (y_fieldR (n := 1) rfl s20 Tryz.underlying23 rfl (by kernel_rfl) (by decide) rfl rr) (wl_v (iv W) rfl rfl (y_ld_stc rfl rfl Tryz.underlying3 B15 rfl rfl rr) (wl_v (pt p1 1) rfl rfl (y_fieldR (n := 1) rfl s20 Tryz.underlying23 rfl (by kernel_rfl) (by decide) rfl rr) (wl_v (iv H) rfl rfl (y_ld_stc rfl rfl Tryz.underlying3 B15 rfl rfl rr) (wl_v (.agg #[iv W, iv H, .slice none 0 0, .slice none 0 0, .slice none 0 0]) rfl rfl (y_buildL (l' := [(0, iv W), (1, iv H)]) (cells := #[iv W, iv H, .slice none 0 0, .slice none 0 0, .slice none 0 0]) rfl (bpC rfl (bpC rfl bpN)) (by kernel_rfl) rfl rr) (wl_alloc_stc (n := 5) (vs := [iv 0, iv 0, .slice none 0 0, .slice none 0 0, .slice none 0 0]) rfl rfl rfl (by kernel_rfl) fun p22 w23 B25 g26 k24 => ?_))))))))
 have gr27 : Grew w0 noB (onB p22) := Grew.new K16 g26
 have ap28 : Apart (onB p22) (onB p1) := Apart.new g26 (onB_live B15.lt)
 have ap29 : Apart (onB p22) (onB p8) := Apart.new g26 (onB_live B11.lt)
 have B30 := B15.all k24 id
 have B31 := B11.all k24 id
 have K32 := K16.tr k24
 refine wl_store_stc (us := [iv W, iv H, .slice none 0 0, .slice none 0 0, .slice none 0 0]) stcT_frame rfl rfl rfl rfl rfl B25 rfl (oneI rfl (oneI rfl (oneI rfl (oneI rfl (oneI rfl oneN))))) fun w33 B34 k35 => ?_
 have B36 := B30.all k35 (ap28.symm p1 rfl)
 have B37 := B31.all k35 (ap29.symm p8 rfl)
 have K38 := K32.trans k35 (Grew.ok (S := fun _ => False) gr27 noB_le)
 refine wl_nil fun F39 hF40 => ?_
 obtain ⟨s41, s42, s43⟩ := t3 hF40 36 s19 1 s20 2 s21
 have s44 : F39 3 = pt p22 0 := (hF40 3).trans rfl
 clear hF40
 refine then_normal (wq_seq (wq_region (wl_v (pt p1 0) rfl rfl (y_fieldR (n := 1) rfl s42 Tryz.underlying23 rfl (by kernel_rfl) (by decide) rfl rr) (wl_v (iv W) rfl rfl (y_ld_stc rfl rfl Tryz.underlying3 B36 rfl rfl rr) (wl_v (pt p1 1) rfl rfl (y_fieldR (n := 1) rfl s42 Tryz.underlying23 rfl (by kernel_rfl) (by decide) rfl rr) (wl_v (iv H) rfl rfl (y_ld_stc rfl rfl Tryz.underlying3 B36 rfl rfl rr) (wl_v (iv (((W * H).toNat : Nat) : Int)) rfl rfl (y_mul rfl rfl rfl (i64_n (by omega) (by omega)) rr) (wl_makeB (n := (W * H).toNat) rfl rfl rfl rfl rfl (by omega) (by omega) (by omega) fun v45 w46 T50 B48 g49 k47 => ?_))))))))
 have gr51 : Grew w0 noB T50 := Grew.new K38 g49
 have ap53 : Apart T50 (onB p8) := Apart.new g49 (onB_live B37.lt)
 have ap54 : Apart T50 (onB p22) := Apart.new g49 (onB_live B34.lt)
 have B55 := B36.all k47 id
 have B56 := B37.all k47 id
 have B57 := B34.all k47 id
 have K58 := K38.tr k47
 refine wl_v (pt p22 2) rfl rfl (y_fieldR (n := 3) rfl s44 Tryz.underlying29 rfl (by kernel_rfl) (by decide) rfl rr) (wl_v (pt p22 2) rfl rfl (y_atR 0 (s := 1) rfl rfl rfl (by omega) Tryz.underlying27 (by omega) (by kernel_rfl) (by omega) rr) (wl_set_stc rfl rfl rfl rfl rfl B57 rfl B48.oneC (by kernel_rfl) fun w59 B60 k61 => ?_))
 replace B60 : Stc w59 p22 29 [iv W, iv H, v45, .slice none 0 0, .slice none 0 0] := B60
 have B62 := B55.all k61 (ap28.symm p1 rfl)
 have B63 := B56.all k61 (ap29.symm p8 rfl)
 have B64 := B48.all k61 ap54
 have K65 := K58.trans k61 (Grew.ok (S := fun _ => False) gr27 noB_le)
 refine wl_nil fun F66 hF67 => ?_
 obtain ⟨s68, s69, s70, s71⟩ := t4 hF67 36 s41 1 s42 2 s43 3 s44
 clear hF67
 refine then_normal (wq_seq (wq_region (wl_v (pt p1 0) rfl rfl (y_fieldR (n := 1) rfl s69 Tryz.underlying23 rfl (by kernel_rfl) (by decide) rfl rr) (wl_v (iv W) rfl rfl (y_ld_stc rfl rfl Tryz.underlying3 B62 rfl rfl rr) (wl_v (pt p1 1) rfl rfl (y_fieldR (n := 1) rfl s69 Tryz.underlying23 rfl (by kernel_rfl) (by decide) rfl rr) (wl_v (iv H) rfl rfl (y_ld_stc rfl rfl Tryz.underlying3 B62 rfl rfl rr) (wl_v (iv (W * H)) rfl rfl (y_mul rfl rfl rfl (i64_i rfl (by omega)) rr) (wl_v (iv (((W * H / 4).toNat : Nat) : Int)) rfl rfl (y_quo rfl rfl rfl (by first | decide | omega) (i64_n (by rw [tdiv4 hm0]; omega) (by omega)) rr) (wl_makeB (n := (W * H / 4).toNat) rfl rfl rfl rfl rfl (by omega) (by omega) (by omega) fun v72 w73 T77 B75 g76 k74 => ?_)))))))))
 have gr78 : Grew w0 noB T77 := Grew.new K65 g76
 have ap80 : Apart T77 (onB p8) := Apart.new g76 (onB_live B63.lt)
 have ap81 : Apart T77 (onB p22) := Apart.new g76 (onB_live B60.lt)
 have ap82 : Apart T77 T50 := Apart.new g76 B64.live
 have B83 := B62.all k74 id
 have B84 := B63.all k74 id
 have B85 := B60.all k74 id
 have B86 := B64.all k74 Apart.none
 have K87 := K65.tr k74
 refine wl_v (pt p22 2) rfl rfl (y_fieldR (n := 3) rfl s71 Tryz.underlying29 rfl (by kernel_rfl) (by decide) rfl rr) (wl_v (pt p22 3) rfl rfl (y_atR 1 (s := 1) rfl rfl rfl (by omega) Tryz.underlying27 (by omega) (by kernel_rfl) (by omega) rr) (wl_set_stc rfl rfl rfl rfl rfl B85 rfl B75.oneC (by kernel_rfl) fun w88 B89 k90 => ?_))
 replace B89 : Stc w88 p22 29 [iv W, iv H, v45, v72, .slice none 0 0] := B89
 have B91 := B83.all k90 (ap28.symm p1 rfl)
 have B92 := B84.all k90 (ap29.symm p8 rfl)
 have B93 := B86.all k90 ap54
 have B94 := B75.all k90 ap81
 have K95 := K87.trans k90 (Grew.ok (S := fun _ => False) gr27 noB_le)
 refine wl_nil fun F96 hF97 => ?_
 obtain ⟨s98, s99, s100, s101⟩ := t4 hF97 36 s68 1 s69 2 s70 3 s71
 clear hF97
 refine then_normal (wq_seq (wq_region (wl_v (pt p1 0) rfl rfl (y_fieldR (n := 1) rfl s99 Tryz.underlying23 rfl (by kernel_rfl) (by decide) rfl rr) (wl_v (iv W) rfl rfl (y_ld_stc rfl rfl Tryz.underlying3 B91 rfl rfl rr) (wl_v (pt p1 1) rfl rfl (y_fieldR (n := 1) rfl s99 Tryz.underlying23 rfl (by kernel_rfl) (by decide) rfl rr) (wl_v (iv H) rfl rfl (y_ld_stc rfl rfl Tryz.underlying3 B91 rfl rfl rr) (wl_v (iv (W * H)) rfl rfl (y_mul rfl rfl rfl (i64_i rfl (by omega)) rr) (wl_v (iv (((W * H / 4).toNat : Nat) : Int)) rfl rfl (y_quo rfl rfl rfl (by first | decide | omega) (i64_n (by rw [tdiv4 hm0]; omega) (by omega)) rr) (wl_makeB (n := (W * H / 4).toNat) rfl rfl rfl rfl rfl (by omega) (by omega) (by omega) fun v102 w103 T107 B105 g106 k104 => ?_)))))))))
 have gr108 : Grew w0 noB T107 := Grew.new K95 g106
 have ap110 : Apart T107 (onB p8) := Apart.new g106 (onB_live B92.lt)
 have ap111 : Apart T107 (onB p22) := Apart.new g106 (onB_live B89.lt)
 have ap112 : Apart T107 T50 := Apart.new g106 B93.live
 have ap113 : Apart T107 T77 := Apart.new g106 B94.live
 have B115 := B92.all k104 id
 have B116 := B89.all k104 id
 have B117 := B93.all k104 Apart.none
 have B118 := B94.all k104 Apart.none
 have K119 := K95.tr k104
 refine wl_v (pt p22 2) rfl rfl (y_fieldR (n := 3) rfl s101 Tryz.underlying29 rfl (by kernel_rfl) (by decide) rfl rr) (wl_v (pt p22 4) rfl rfl (y_atR 2 (s := 1) rfl rfl rfl (by omega) Tryz.underlying27 (by omega) (by kernel_rfl) (by omega) rr) (wl_set_stc rfl rfl rfl rfl rfl B116 rfl B105.oneC (by kernel_rfl) fun w120 B121 k122 => ?_))
 replace B121 : Stc w120 p22 29 [iv W, iv H, v45, v72, v102] := B121
 have B124 := B115.all k122 (ap29.symm p8 rfl)
 have B125 := B117.all k122 ap54
 have B126 := B118.all k122 ap81
 have B127 := B105.all k122 ap111
 have K128 := K119.trans k122 (Grew.ok (S := fun _ => False) gr27 noB_le)
 refine wl_nil fun F129 hF130 => ?_
 obtain ⟨s131, s132, s133⟩ := t3 hF130 36 s98 2 s100 3 s101
 clear hF130
 refine then_normal (wq_seq (wq_region (wl_v (.agg #[iv W, iv H, v45, v72, v102]) rfl rfl (y_load_stc stcT_frame rfl s133 B121 rr) (wl_store_stc (us := [iv W, iv H, v45, v72, v102]) stcT_frame rfl rfl rfl s132 rfl B124 rfl (oneI rfl (oneI rfl (oneI B125.one (oneI B126.one (oneI B127.one oneN))))) fun w134 B135 k136 => ?_))))
 have B139 := B125.all k136 ap53
 have B140 := B126.all k136 ap80
 have B141 := B127.all k136 ap110
 have K142 := K128.trans k136 (Grew.ok (S := fun _ => False) gr13 noB_le)
 refine wl_nil fun F143 hF144 => ?_
 obtain ⟨s145, s146⟩ := t2 hF144 36 s131 2 s132
 clear hF144
 refine then_normal (wq_ret ?_)
 exact end_stc (vs := [iv W, iv H, v45, v72, v102]) stcT_frame s145 rfl rfl s146 B135 ⟨v45, T50, v72, T77, v102, T107, (by rw [hF]), K142, ⟨(by rw [hF]; exact B139), gr51⟩, ⟨(by rw [hF]; exact B140), gr78⟩, ⟨(by rw [hF]; exact B141), gr108⟩, ap82.symm, ap112.symm, ap113.symm⟩
def sameChs (a b : List Ch) : Bool := decide (a.length = b.length) && (List.range a.length).all fun i => sameCh (a.getD i chZ) (b.getD i chZ)
theorem sameChs_len {a b : List Ch} (h : a.length ≠ b.length) : sameChs a b = false := by unfold sameChs; rw [decide_eq_false h]; rfl
theorem sameChs_no {a b : List Ch} {i : Nat} (hi : i < a.length) (h : sameCh (a.getD i chZ) (b.getD i chZ) = false) : sameChs a b = false := by
  unfold sameChs
  rw [Bool.and_eq_false_iff]; right
  rw [List.all_eq_false]
  exact ⟨i, List.mem_range.2 hi, by rw [h]; exact Bool.false_ne_true⟩
theorem sameChs_yes {a b : List Ch} (hl : a.length = b.length) (h : ∀ i, i < a.length → sameCh (a.getD i chZ) (b.getD i chZ) = true) : sameChs a b = true := by
  unfold sameChs
  rw [decide_eq_true hl, Bool.true_and, List.all_eq_true]
  exact fun i hi => h i (List.mem_range.1 hi)
theorem sameChs_self (a : List Ch) : sameChs a a = true := sameChs_yes rfl fun _ _ => sameCh_self _
theorem pcref_same (v : Value) (a : List Ch) (u : Value) (b : List Ch) (T_a : Nat → Prop) (T_b : Nat → Prop) (w0 : World) (h_a : RoA rCh w0 T_a v (a)) (h_b : RoA rCh w0 T_b u (b)) :
  Calls Tryz.prog 14 #[v, u] w0 fun e w' => e = .returned (.bool (sameChs a b)) ∧ Kept (fun _ => False) w0 w' := by
 refine calls_wq (args := [v, u]) 26 Tryz.func14 rfl rfl (Nat.le_of_ble_eq_true rfl) ?_
 have K0 := Kept.refl (fun _ => False) w0
 have hsa := h_a.short
 have g_a := Grew.refl w0 T_a
 have g_b := Grew.refl w0 T_b
 refine wq_seq (wq_region (wl_v (.bool false) rfl rfl (y_asg rfl rfl rr) (wl_nil fun F1 hF2 => ?_)))
 have s3 : F1 0 = v := (hF2 0).trans rfl
 have s4 : F1 1 = u := (hF2 1).trans rfl
 have s5 : F1 26 = undef := (hF2 26).trans rfl
 clear hF2
 refine then_normal (wq_seq (wq_seq (wq_region (wl_mv rfl rfl rfl s3 (wl_v (iv ((a.length : Nat) : Int)) rfl rfl (y_lenRo (r := rCh) rfl rfl rfl h_a rr) (wl_mv rfl rfl rfl s4 (wl_v (iv ((b.length : Nat) : Int)) rfl rfl (y_lenRo (r := rCh) rfl rfl rfl h_b rr) (wl_v (.bool (decide (((a.length : Nat) : Int) ≠ ((b.length : Nat) : Int)))) rfl rfl (y_neqI rfl rfl rfl rfl rr) (wl_nil fun F6 hF7 => ?_)))))))))
 obtain ⟨s8, s9, s10⟩ := t3 hF7 0 s3 1 s4 26 s5
 have s11 : F6 10 = .bool (decide (((a.length : Nat) : Int) ≠ ((b.length : Nat) : Int))) := (hF7 10).trans rfl
 clear hF7
 refine then_normal ?_
 refine wq_cond s11 (fun c12 => ?_) (fun c12 => ?_)
 ·replace c12 := of_decide_eq_true c12
  refine wq_seq (wq_region (wl_v (.bool false) rfl rfl (y_asg rfl rfl rr) (wl_nil fun F13 hF14 => ?_)))
  have s15 := (hF14 26).trans s10
  have s16 : F13 4 = .bool false := (hF14 4).trans rfl
  clear hF14
  refine then_normal (wq_ret (then_ret ?_))
  exact end_tmp (v := .bool false) s15 rfl rfl s16 ⟨(by first | rw [sameChs_len (by omega)] | rw [sameChs_yes hlab hall] | rw [sameChs_no (i := i) (by omega) (by simp_all)]), K0⟩
 ·replace c12 := of_decide_eq_false c12
  refine wq_skip (then_normal (wq_seq (wq_seq ?_)))
  have hlab : a.length = b.length := by omega
  refine wq_region (wl_v (iv 0) rfl rfl (y_asg rfl rfl rr) (wl_nil fun F17 hF18 => ?_))
  obtain ⟨s19, s20, s21⟩ := t3 hF18 0 s8 1 s9 26 s10
  have s22 : F17 5 = iv 0 := (hF18 5).trans rfl
  clear hF18
  refine then_normal (wq_block (wq_loop (fun nn FF ww => ∃ (i : Nat), (i ≤ a.length) ∧ (∀ j, j < i → sameCh (a.getD j chZ) (b.getD j chZ) = true) ∧ nn = a.length - i ∧ FF 0 = v ∧ FF 1 = u ∧ FF 26 = undef ∧ FF 5 = iv ((i : Nat) : Int) ∧ Kept (fun _ => False) w0 ww ∧ RoA rCh ww T_a v a ∧ RoA rCh ww T_b u b) (a.length - 0) ⟨0, by omega, (fun j hj => absurd hj (by omega)), rfl, s19, s20, s21, s22, K0, h_a, h_b⟩ ?_))
  rintro n26 F23 w24 ⟨i, i27, hall, hn26, s28, s29, s30, s31, K25, B32, B33⟩
  refine wq_seq (wq_seq (wq_region (wl_mv rfl rfl rfl s31 (wl_mv rfl rfl rfl s28 (wl_v (iv ((a.length : Nat) : Int)) rfl rfl (y_lenRo (r := rCh) rfl rfl rfl B32 rr) (wl_v (.bool (decide (((i : Nat) : Int) < ((a.length : Nat) : Int)))) rfl rfl (y_lss rfl rfl rfl rfl rr) (wl_nil fun F34 hF35 => ?_)))))))
  obtain ⟨s36, s37, s38, s39⟩ := t4 hF35 0 s28 1 s29 26 s30 5 s31
  have s40 : F34 14 = .bool (decide (((i : Nat) : Int) < ((a.length : Nat) : Int))) := (hF35 14).trans rfl
  clear hF35
  refine then_normal ?_
  refine wq_cond s40 (fun c41 => ?_) (fun c41 => ?_)
  ·replace c41 := of_decide_eq_true c41
   refine wq_skip (then_normal (wq_seq (wq_block (wq_seq ?_))))
   refine wq_said [some 17, some 18, some 19, some 20, some 21, some 22, some 23, some 24, some 25] [Pd.eq v, Pd.eq (iv ((i : Nat) : Int)), Pd.eq (bytAddr v (i * 21)), Pd.eq (.agg (chW (a.getD i ⟨0, 0, 0, 0, 0, fun _ => 0⟩)).toArray), Pd.eq u, Pd.eq (iv ((i : Nat) : Int)), Pd.eq (bytAddr u (i * 21)), Pd.eq (.agg (chW (b.getD i ⟨0, 0, 0, 0, 0, fun _ => 0⟩)).toArray), Pd.eq (.bool (!sameCh (a.getD i ⟨0, 0, 0, 0, 0, fun _ => 0⟩) (b.getD i ⟨0, 0, 0, 0, 0, fun _ => 0⟩)))] (by kernel_rfl) (by kernel_rfl) ?_ ?_
   ·refine stepsF_cons ?_ ?_
    ·refine StepF.one rfl fun F_ w_ hR hout hD => ?_
     exact (y_mov rfl ((hout 0 rfl (by decide)).trans s36) ⟨rfl, Kept.refl _ _⟩)
    refine stepsF_cons ?_ ?_
    ·refine StepF.one rfl fun F_ w_ hR hout hD => ?_
     exact (y_mov rfl ((hout 5 rfl (by decide)).trans s39) ⟨rfl, Kept.refl _ _⟩)
    refine stepsF_cons ?_ ?_
    ·refine StepF.one rfl fun F_ w_ hR hout hD => ?_
     have g17 : F_ 17 = v := (hD.get 0 rfl rfl rfl)
     have g18 : F_ 18 = iv ((i : Nat) : Int) := (hD.get 1 rfl rfl rfl)
     exact (y_atRo (r := rCh) i rfl g17 g18 (by omega) (B32.all hR Apart.none) (by omega) ⟨rfl, Kept.refl _ _⟩)
    refine stepsF_cons ?_ ?_
    ·refine StepF.one rfl fun F_ w_ hR hout hD => ?_
     have g19 : F_ 19 = bytAddr v (i * 21) := (hD.get 0 rfl rfl rfl)
     exact (y_ldRoP (r := rCh) (n := 21) i 0 stcT_choice rfl g19 (B32.all hR Apart.none) (by omega) (by decide) rfl ⟨rfl, Kept.refl _ _⟩)
    refine stepsF_cons ?_ ?_
    ·refine StepF.one rfl fun F_ w_ hR hout hD => ?_
     exact (y_mov rfl ((hout 1 rfl (by decide)).trans s37) ⟨rfl, Kept.refl _ _⟩)
    refine stepsF_cons ?_ ?_
    ·refine StepF.one rfl fun F_ w_ hR hout hD => ?_
     exact (y_mov rfl ((hout 5 rfl (by decide)).trans s39) ⟨rfl, Kept.refl _ _⟩)
    refine stepsF_cons ?_ ?_
    ·refine StepF.one rfl fun F_ w_ hR hout hD => ?_
     have g21 : F_ 21 = u := (hD.get 0 rfl rfl rfl)
     have g22 : F_ 22 = iv ((i : Nat) : Int) := (hD.get 1 rfl rfl rfl)
     exact (y_atRo (r := rCh) i rfl g21 g22 (by omega) (B33.all hR Apart.none) (by omega) ⟨rfl, Kept.refl _ _⟩)
    refine stepsF_cons ?_ ?_
    ·refine StepF.one rfl fun F_ w_ hR hout hD => ?_
     have g23 : F_ 23 = bytAddr u (i * 21) := (hD.get 0 rfl rfl rfl)
     exact (y_ldRoP (r := rCh) (n := 21) i 0 stcT_choice rfl g23 (B33.all hR Apart.none) (by omega) (by decide) rfl ⟨rfl, Kept.refl _ _⟩)
    refine stepsF_cons ?_ ?_
    ·refine StepF.one rfl fun F_ w_ hR hout hD => ?_
     have g20 : F_ 20 = .agg (chW (a.getD i ⟨0, 0, 0, 0, 0, fun _ => 0⟩)).toArray := (hD.get 0 rfl rfl rfl)
     have g24 : F_ 24 = .agg (chW (b.getD i ⟨0, 0, 0, 0, 0, fun _ => 0⟩)).toArray := (hD.get 1 rfl rfl rfl)
     exact (y_neqCh (c := a.getD i ⟨0, 0, 0, 0, 0, fun _ => 0⟩) (d := b.getD i ⟨0, 0, 0, 0, 0, fun _ => 0⟩) rfl g20 g24 rfl ⟨rfl, Kept.refl _ _⟩)
    exact stepsF_nil
   intro v42 F43 w44 k45 G46 hF47
   have B49 := B32.all k45 Apart.none
   have B50 := B33.all k45 Apart.none
   have K51 := K25.tr k45
   obtain ⟨s52, s53, s54, s55⟩ := t4 hF47 0 s36 1 s37 26 s38 5 s39
   have s56 : F43 25 = .bool (!sameCh (a.getD i ⟨0, 0, 0, 0, 0, fun _ => 0⟩) (b.getD i ⟨0, 0, 0, 0, 0, fun _ => 0⟩)) := (hF47 25).trans (G46 8 (by decide))
   clear G46 hF47
   refine then_normal ?_
   refine wq_cond s56 (fun c57 => ?_) (fun c57 => ?_)
   ·skip
    refine wq_seq (wq_region (wl_v (.bool false) rfl rfl (y_asg rfl rfl rr) (wl_nil fun F58 hF59 => ?_)))
    have s60 := (hF59 26).trans s54
    have s61 : F58 4 = .bool false := (hF59 4).trans rfl
    clear hF59
    refine then_normal (wq_ret (in_ret (then_ret (then_ret (in_ret (then_ret ?_))))))
    exact end_tmp (v := .bool false) s60 rfl rfl s61 ⟨(by first | rw [sameChs_len (by omega)] | rw [sameChs_yes hlab hall] | rw [sameChs_no (i := i) (by omega) (by simp_all)]), K51⟩
   ·skip
    refine wq_skip (in_normal (then_normal (wq_region (wl_mv rfl rfl rfl s55 (wl_v (iv ((i + 1 : Nat) : Int)) rfl rfl (y_add rfl rfl rfl (i64_n (by omega) (by omega)) rr) (wl_v (iv ((i + 1 : Nat) : Int)) rfl rfl (y_asg rfl rfl rr) (wl_nil fun F62 hF63 => ?_)))))))
    obtain ⟨s64, s65, s66⟩ := t3 hF63 0 s52 1 s53 26 s54
    have s67 : F62 5 = iv ((i + 1 : Nat) : Int) := (hF63 5).trans rfl
    clear hF63
    exact then_normal ⟨(a.length - (i + 1)), by omega, i + 1, by omega, (fun j hj => by by_cases e : j = i; subst e; simp_all; exact hall j (by omega)), rfl, s64, s65, s66, s67, K51, B49, B50⟩
  ·replace c41 := of_decide_eq_false c41
   refine wq_exit (then_exit (then_exit ?_))
   have l68 : a.length = i := by omega
   subst l68
   refine in_here (then_normal (wq_seq (wq_region (wl_v (.bool true) rfl rfl (y_asg rfl rfl rr) (wl_nil fun F69 hF70 => ?_)))))
   have s71 := (hF70 26).trans s38
   have s72 : F69 4 = .bool true := (hF70 4).trans rfl
   clear hF70
   refine then_normal (wq_ret ?_)
   exact end_tmp (v := .bool true) s71 rfl rfl s72 ⟨(by first | rw [sameChs_len (by omega)] | rw [sameChs_yes hlab hall] | rw [sameChs_no (i := i) (by omega) (by simp_all)]), K25⟩
end Go.Proofs.YtknjpdcpmpfklaaGreatDoor
