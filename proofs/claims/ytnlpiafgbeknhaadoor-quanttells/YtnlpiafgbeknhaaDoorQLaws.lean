/- The walks of the laws of layer 5. -/
import Derived.Test.YtnlpiafgbeknhaaDoorQRf
namespace Go.Proofs.YtnlpiafgbeknhaaDoor
open Go.RowKit

set_option maxHeartbeats 4000000 in
set_option maxRecDepth 100000 in
theorem qtells_walk (b : Nat → Int) (q : Int) (w0 : World) (hs : StepsAt w0) :
    Calls Tryd.prog 3 #[blkV (b), .int .i64 (q)] w0 fun e w' => e = .returned (.bool true) ∧ Kept (fun _ => False) w0 w' := by
  refine calls_wq (args := [blkV (b), .int .i64 (q)]) 102 Tryd.func3 rfl rfl (Nat.le_of_ble_eq_true rfl) ?_
  have K0 := Kept.refl (fun _ => False) w0
  have hq := stp_any q
  refine wq_seq ?_
  refine wq_region ?_
  refine wl_box_blk rfl rfl rfl rfl fun p1 w2 e5 B3 k4 => ?_
  have lp6 : w0.heap.size ≤ p1 := by have h_ := K0.size; omega
  clear e5
  have K7 := K0.trans k4 (fun _ _ x => x)
  refine wl_v (.bool false) rfl rfl (y_asg rfl rfl ⟨rfl, rfl⟩) ?_
  refine wl_nil fun F8 hF9 => ?_
  have s10 : F8 1 = .int .i64 (q) := (hF9 1).trans rfl
  have s11 : F8 2 = .pointer (some ⟨p1, 0, none⟩) := (hF9 2).trans rfl
  clear hF9
  refine then_normal ?_
  refine wq_seq ?_
  refine wq_region ?_
  refine wl_call (R := fun v_ w_ => v_ = .bool true ∧ Kept (fun _ => False) w2 w_) rfl rfl (y_cs rfl rfl rfl (fun _ _ => by kernel_rfl) (ev_func _) vsN (qawake_any  _ (hs.all K7)) (fun e_ w_ h_ => ⟨_, h_.1, rfl, h_.2⟩)) ?_
  rintro _ w12 ⟨rfl, k13⟩
  have B14 := B3.all k13 id
  have K15 := K7.trans k13 (fun _ _ x => x)
  refine wl_v (.bool true) rfl rfl (y_asg rfl rfl ⟨rfl, rfl⟩) ?_
  refine wl_nil fun F16 hF17 => ?_
  have s18 : F16 1 = .int .i64 (q) := (hF17 1).trans s10
  have s19 : F16 2 = .pointer (some ⟨p1, 0, none⟩) := (hF17 2).trans s11
  have s20 : F16 5 = .bool true := (hF17 5).trans rfl
  clear hF17
  refine then_normal ?_
  refine wq_seq ?_
  refine wq_region ?_
  refine wl_v (.int .i64 (q)) rfl rfl (y_mov rfl s18 ⟨rfl, rfl⟩) ?_
  refine wl_call (R := fun v_ w_ => v_ = .tuple #[.int .i64 (stp (q)), .int .i64 (ern (q))] ∧ Kept (fun _ => False) w12 w_) rfl rfl (y_cs rfl rfl rfl (fun _ _ => by kernel_rfl) (ev_func _) (vsC rfl vsN) (step_any (q) _ (hs.all K15)) (fun e_ w_ h_ => ⟨_, h_.1, rfl, h_.2⟩)) ?_
  rintro _ w21 ⟨rfl, k22⟩
  have B23 := B14.all k22 id
  have K24 := K15.trans k22 (fun _ _ x => x)
  refine wl_v (.tuple #[.int .i64 (stp (q)), .int .i64 (ern (q))]) rfl rfl (y_mov rfl rfl ⟨rfl, rfl⟩) ?_
  refine wl_v (.int .i64 (stp (q))) rfl rfl (y_ext rfl rfl rfl ⟨rfl, rfl⟩) ?_
  refine wl_v (.int .i64 (ern (q))) rfl rfl (y_ext rfl rfl rfl ⟨rfl, rfl⟩) ?_
  refine wl_v (.int .i64 (stp (q))) rfl rfl (y_asg rfl rfl ⟨rfl, rfl⟩) ?_
  refine wl_v (.int .i64 (ern (q))) rfl rfl (y_asg rfl rfl ⟨rfl, rfl⟩) ?_
  refine wl_nil fun F25 hF26 => ?_
  have s27 : F25 1 = .int .i64 (q) := (hF26 1).trans s18
  have s28 : F25 2 = .pointer (some ⟨p1, 0, none⟩) := (hF26 2).trans s19
  have s29 : F25 5 = .bool true := (hF26 5).trans s20
  have s30 : F25 6 = .int .i64 (stp (q)) := (hF26 6).trans rfl
  have s31 : F25 7 = .int .i64 (ern (q)) := (hF26 7).trans rfl
  clear hF26
  refine then_normal ?_
  refine wq_seq ?_
  refine wq_region ?_
  refine wl_v (.int .i64 (q)) rfl rfl (y_mov rfl s27 ⟨rfl, rfl⟩) ?_
  refine wl_call (R := fun v_ w_ => v_ = .tuple #[.int .i64 (stp (q)), .int .i64 (ern (q))] ∧ Kept (fun _ => False) w21 w_) rfl rfl (y_cs rfl rfl rfl (fun _ _ => by kernel_rfl) (ev_func _) (vsC rfl vsN) (qref_step (q) _ ) (fun e_ w_ h_ => ⟨_, h_.1, rfl, h_.2⟩)) ?_
  rintro _ w32 ⟨rfl, k33⟩
  have B34 := B23.all k33 id
  have K35 := K24.trans k33 (fun _ _ x => x)
  refine wl_v (.tuple #[.int .i64 (stp (q)), .int .i64 (ern (q))]) rfl rfl (y_mov rfl rfl ⟨rfl, rfl⟩) ?_
  refine wl_v (.int .i64 (stp (q))) rfl rfl (y_ext rfl rfl rfl ⟨rfl, rfl⟩) ?_
  refine wl_v (.int .i64 (ern (q))) rfl rfl (y_ext rfl rfl rfl ⟨rfl, rfl⟩) ?_
  refine wl_v (.int .i64 (stp (q))) rfl rfl (y_asg rfl rfl ⟨rfl, rfl⟩) ?_
  refine wl_v (.int .i64 (ern (q))) rfl rfl (y_asg rfl rfl ⟨rfl, rfl⟩) ?_
  refine wl_nil fun F36 hF37 => ?_
  have s38 : F36 1 = .int .i64 (q) := (hF37 1).trans s27
  have s39 : F36 2 = .pointer (some ⟨p1, 0, none⟩) := (hF37 2).trans s28
  have s40 : F36 5 = .bool true := (hF37 5).trans s29
  have s41 : F36 6 = .int .i64 (stp (q)) := (hF37 6).trans s30
  have s42 : F36 7 = .int .i64 (ern (q)) := (hF37 7).trans s31
  have s43 : F36 8 = .int .i64 (stp (q)) := (hF37 8).trans rfl
  have s44 : F36 9 = .int .i64 (ern (q)) := (hF37 9).trans rfl
  clear hF37
  refine then_normal ?_
  refine wq_seq ?_
  refine wq_region ?_
  refine wl_v (.int .i64 (q)) rfl rfl (y_mov rfl s38 ⟨rfl, rfl⟩) ?_
  refine wl_call (R := fun v_ w_ => v_ = .tuple #[.int .i64 (stp (q) / 2), .int .i64 (ern (q))] ∧ Kept (fun _ => False) w32 w_) rfl rfl (y_cs rfl rfl rfl (fun _ _ => by kernel_rfl) (ev_func _) (vsC rfl vsN) (bound_any (q) _ (hs.all K35)) (fun e_ w_ h_ => ⟨_, h_.1, rfl, h_.2⟩)) ?_
  rintro _ w45 ⟨rfl, k46⟩
  have B47 := B34.all k46 id
  have K48 := K35.trans k46 (fun _ _ x => x)
  refine wl_v (.tuple #[.int .i64 (stp (q) / 2), .int .i64 (ern (q))]) rfl rfl (y_mov rfl rfl ⟨rfl, rfl⟩) ?_
  refine wl_v (.int .i64 (stp (q) / 2)) rfl rfl (y_ext rfl rfl rfl ⟨rfl, rfl⟩) ?_
  refine wl_v (.int .i64 (ern (q))) rfl rfl (y_ext rfl rfl rfl ⟨rfl, rfl⟩) ?_
  refine wl_v (.int .i64 (stp (q) / 2)) rfl rfl (y_asg rfl rfl ⟨rfl, rfl⟩) ?_
  refine wl_v (.int .i64 (ern (q))) rfl rfl (y_asg rfl rfl ⟨rfl, rfl⟩) ?_
  refine wl_nil fun F49 hF50 => ?_
  have s51 : F49 1 = .int .i64 (q) := (hF50 1).trans s38
  have s52 : F49 2 = .pointer (some ⟨p1, 0, none⟩) := (hF50 2).trans s39
  have s53 : F49 5 = .bool true := (hF50 5).trans s40
  have s54 : F49 6 = .int .i64 (stp (q)) := (hF50 6).trans s41
  have s55 : F49 7 = .int .i64 (ern (q)) := (hF50 7).trans s42
  have s56 : F49 8 = .int .i64 (stp (q)) := (hF50 8).trans s43
  have s57 : F49 9 = .int .i64 (ern (q)) := (hF50 9).trans s44
  have s58 : F49 10 = .int .i64 (stp (q) / 2) := (hF50 10).trans rfl
  have s59 : F49 11 = .int .i64 (ern (q)) := (hF50 11).trans rfl
  clear hF50
  refine then_normal ?_
  refine wq_seq ?_
  refine wq_region ?_
  refine wl_v (blkV (b)) rfl rfl (y_load_blk blkT_arr rfl s52 B47 ⟨rfl, rfl⟩) ?_
  refine wl_v (.int .i64 (q)) rfl rfl (y_mov rfl s51 ⟨rfl, rfl⟩) ?_
  refine wl_call (R := fun v_ w_ => v_ = .tuple #[blkV (downB (b) (q)), .int .i64 (ern (q))] ∧ Kept (fun _ => False) w45 w_) rfl rfl (y_cs rfl rfl rfl (fun _ _ => by kernel_rfl) (ev_func _) (vsC rfl (vsC rfl vsN)) (down_any (b) (q) _ (hs.all K48)) (fun e_ w_ h_ => ⟨_, h_.1, rfl, h_.2⟩)) ?_
  rintro _ w60 ⟨rfl, k61⟩
  have B62 := B47.all k61 id
  have K63 := K48.trans k61 (fun _ _ x => x)
  refine wl_v (.tuple #[blkV (downB (b) (q)), .int .i64 (ern (q))]) rfl rfl (y_mov rfl rfl ⟨rfl, rfl⟩) ?_
  refine wl_v (blkV (downB (b) (q))) rfl rfl (y_ext rfl rfl rfl ⟨rfl, rfl⟩) ?_
  refine wl_v (.int .i64 (ern (q))) rfl rfl (y_ext rfl rfl rfl ⟨rfl, rfl⟩) ?_
  refine wl_alloc_blk rfl rfl rfl blkT_block.2.2 fun p64 w65 e68 B66 k67 => ?_
  have ne69 : p1 ≠ p64 := by have h_ := B62.lt; omega
  have lp70 : w0.heap.size ≤ p64 := by have h_ := K63.size; omega
  clear e68
  have B71 := B62.all k67 id
  have K72 := K63.trans k67 (fun _ _ x => x)
  refine wl_store_blk blkT_block rfl rfl rfl rfl rfl B66 fun w73 B74 k75 => ?_
  have B76 := B71.all k75 ne69
  have K77 := K72.trans k75 (fun _ hi e => absurd (e ▸ hi) (Nat.not_lt.2 lp70))
  refine wl_v (.int .i64 (ern (q))) rfl rfl (y_asg rfl rfl ⟨rfl, rfl⟩) ?_
  refine wl_nil fun F78 hF79 => ?_
  have s80 : F78 1 = .int .i64 (q) := (hF79 1).trans s51
  have s81 : F78 2 = .pointer (some ⟨p1, 0, none⟩) := (hF79 2).trans s52
  have s82 : F78 5 = .bool true := (hF79 5).trans s53
  have s83 : F78 6 = .int .i64 (stp (q)) := (hF79 6).trans s54
  have s84 : F78 7 = .int .i64 (ern (q)) := (hF79 7).trans s55
  have s85 : F78 8 = .int .i64 (stp (q)) := (hF79 8).trans s56
  have s86 : F78 9 = .int .i64 (ern (q)) := (hF79 9).trans s57
  have s87 : F78 10 = .int .i64 (stp (q) / 2) := (hF79 10).trans s58
  have s88 : F78 11 = .int .i64 (ern (q)) := (hF79 11).trans s59
  have s89 : F78 12 = .pointer (some ⟨p64, 0, none⟩) := (hF79 12).trans rfl
  have s90 : F78 13 = .int .i64 (ern (q)) := (hF79 13).trans rfl
  clear hF79
  refine then_normal ?_
  refine wq_seq ?_
  refine wq_region ?_
  refine wl_v (blkV (b)) rfl rfl (y_load_blk blkT_arr rfl s81 B76 ⟨rfl, rfl⟩) ?_
  refine wl_v (.int .i64 (q)) rfl rfl (y_mov rfl s80 ⟨rfl, rfl⟩) ?_
  refine wl_call (R := fun v_ w_ => v_ = .tuple #[blkV (downB (b) (q)), .int .i64 (ern (q))] ∧ Kept (fun _ => False) w73 w_) rfl rfl (y_cs rfl rfl rfl (fun _ _ => by kernel_rfl) (ev_func _) (vsC rfl (vsC rfl vsN)) (qref_down (b) (q) _ ) (fun e_ w_ h_ => ⟨_, h_.1, rfl, h_.2⟩)) ?_
  rintro _ w91 ⟨rfl, k92⟩
  have B93 := B76.all k92 id
  have B94 := B74.all k92 id
  have K95 := K77.trans k92 (fun _ _ x => x)
  refine wl_v (.tuple #[blkV (downB (b) (q)), .int .i64 (ern (q))]) rfl rfl (y_mov rfl rfl ⟨rfl, rfl⟩) ?_
  refine wl_v (blkV (downB (b) (q))) rfl rfl (y_ext rfl rfl rfl ⟨rfl, rfl⟩) ?_
  refine wl_v (.int .i64 (ern (q))) rfl rfl (y_ext rfl rfl rfl ⟨rfl, rfl⟩) ?_
  refine wl_alloc_blk rfl rfl rfl blkT_arr.2.2 fun p96 w97 e100 B98 k99 => ?_
  have ne101 : p1 ≠ p96 := by have h_ := B93.lt; omega
  have ne102 : p64 ≠ p96 := by have h_ := B94.lt; omega
  have lp103 : w0.heap.size ≤ p96 := by have h_ := K95.size; omega
  clear e100
  have B104 := B93.all k99 id
  have B105 := B94.all k99 id
  have K106 := K95.trans k99 (fun _ _ x => x)
  refine wl_store_blk blkT_arr rfl rfl rfl rfl rfl B98 fun w107 B108 k109 => ?_
  have B110 := B104.all k109 ne101
  have B111 := B105.all k109 ne102
  have K112 := K106.trans k109 (fun _ hi e => absurd (e ▸ hi) (Nat.not_lt.2 lp103))
  refine wl_v (.int .i64 (ern (q))) rfl rfl (y_asg rfl rfl ⟨rfl, rfl⟩) ?_
  refine wl_nil fun F113 hF114 => ?_
  have s115 : F113 1 = .int .i64 (q) := (hF114 1).trans s80
  have s116 : F113 2 = .pointer (some ⟨p1, 0, none⟩) := (hF114 2).trans s81
  have s117 : F113 5 = .bool true := (hF114 5).trans s82
  have s118 : F113 6 = .int .i64 (stp (q)) := (hF114 6).trans s83
  have s119 : F113 7 = .int .i64 (ern (q)) := (hF114 7).trans s84
  have s120 : F113 8 = .int .i64 (stp (q)) := (hF114 8).trans s85
  have s121 : F113 9 = .int .i64 (ern (q)) := (hF114 9).trans s86
  have s122 : F113 10 = .int .i64 (stp (q) / 2) := (hF114 10).trans s87
  have s123 : F113 11 = .int .i64 (ern (q)) := (hF114 11).trans s88
  have s124 : F113 12 = .pointer (some ⟨p64, 0, none⟩) := (hF114 12).trans s89
  have s125 : F113 13 = .int .i64 (ern (q)) := (hF114 13).trans s90
  have s126 : F113 14 = .pointer (some ⟨p96, 0, none⟩) := (hF114 14).trans rfl
  have s127 : F113 15 = .int .i64 (ern (q)) := (hF114 15).trans rfl
  clear hF114
  refine then_normal ?_
  refine wq_seq ?_
  refine wq_region ?_
  refine wl_v (blkV (b)) rfl rfl (y_load_blk blkT_arr rfl s116 B110 ⟨rfl, rfl⟩) ?_
  refine wl_v (.int .i64 (q)) rfl rfl (y_mov rfl s115 ⟨rfl, rfl⟩) ?_
  refine wl_call (R := fun v_ w_ => v_ = .tuple #[blkV (upB (b) (q)), .int .i64 (ern (q))] ∧ Kept (fun _ => False) w107 w_) rfl rfl (y_cs rfl rfl rfl (fun _ _ => by kernel_rfl) (ev_func _) (vsC rfl (vsC rfl vsN)) (up_any (b) (q) _ (hs.all K112)) (fun e_ w_ h_ => ⟨_, h_.1, rfl, h_.2⟩)) ?_
  rintro _ w128 ⟨rfl, k129⟩
  have B130 := B110.all k129 id
  have B131 := B111.all k129 id
  have B132 := B108.all k129 id
  have K133 := K112.trans k129 (fun _ _ x => x)
  refine wl_v (.tuple #[blkV (upB (b) (q)), .int .i64 (ern (q))]) rfl rfl (y_mov rfl rfl ⟨rfl, rfl⟩) ?_
  refine wl_v (blkV (upB (b) (q))) rfl rfl (y_ext rfl rfl rfl ⟨rfl, rfl⟩) ?_
  refine wl_v (.int .i64 (ern (q))) rfl rfl (y_ext rfl rfl rfl ⟨rfl, rfl⟩) ?_
  refine wl_alloc_blk rfl rfl rfl blkT_block.2.2 fun p134 w135 e138 B136 k137 => ?_
  have ne139 : p1 ≠ p134 := by have h_ := B130.lt; omega
  have ne140 : p64 ≠ p134 := by have h_ := B131.lt; omega
  have ne141 : p96 ≠ p134 := by have h_ := B132.lt; omega
  have lp142 : w0.heap.size ≤ p134 := by have h_ := K133.size; omega
  clear e138
  have B143 := B130.all k137 id
  have B144 := B131.all k137 id
  have B145 := B132.all k137 id
  have K146 := K133.trans k137 (fun _ _ x => x)
  refine wl_store_blk blkT_block rfl rfl rfl rfl rfl B136 fun w147 B148 k149 => ?_
  have B150 := B143.all k149 ne139
  have B151 := B144.all k149 ne140
  have B152 := B145.all k149 ne141
  have K153 := K146.trans k149 (fun _ hi e => absurd (e ▸ hi) (Nat.not_lt.2 lp142))
  refine wl_v (.int .i64 (ern (q))) rfl rfl (y_asg rfl rfl ⟨rfl, rfl⟩) ?_
  refine wl_nil fun F154 hF155 => ?_
  have s156 : F154 1 = .int .i64 (q) := (hF155 1).trans s115
  have s157 : F154 2 = .pointer (some ⟨p1, 0, none⟩) := (hF155 2).trans s116
  have s158 : F154 5 = .bool true := (hF155 5).trans s117
  have s159 : F154 6 = .int .i64 (stp (q)) := (hF155 6).trans s118
  have s160 : F154 7 = .int .i64 (ern (q)) := (hF155 7).trans s119
  have s161 : F154 8 = .int .i64 (stp (q)) := (hF155 8).trans s120
  have s162 : F154 9 = .int .i64 (ern (q)) := (hF155 9).trans s121
  have s163 : F154 10 = .int .i64 (stp (q) / 2) := (hF155 10).trans s122
  have s164 : F154 11 = .int .i64 (ern (q)) := (hF155 11).trans s123
  have s165 : F154 12 = .pointer (some ⟨p64, 0, none⟩) := (hF155 12).trans s124
  have s166 : F154 13 = .int .i64 (ern (q)) := (hF155 13).trans s125
  have s167 : F154 14 = .pointer (some ⟨p96, 0, none⟩) := (hF155 14).trans s126
  have s168 : F154 15 = .int .i64 (ern (q)) := (hF155 15).trans s127
  have s169 : F154 16 = .pointer (some ⟨p134, 0, none⟩) := (hF155 16).trans rfl
  have s170 : F154 17 = .int .i64 (ern (q)) := (hF155 17).trans rfl
  clear hF155
  refine then_normal ?_
  refine wq_seq ?_
  refine wq_region ?_
  refine wl_v (blkV (b)) rfl rfl (y_load_blk blkT_arr rfl s157 B150 ⟨rfl, rfl⟩) ?_
  refine wl_v (.int .i64 (q)) rfl rfl (y_mov rfl s156 ⟨rfl, rfl⟩) ?_
  refine wl_call (R := fun v_ w_ => v_ = .tuple #[blkV (upB (b) (q)), .int .i64 (ern (q))] ∧ Kept (fun _ => False) w147 w_) rfl rfl (y_cs rfl rfl rfl (fun _ _ => by kernel_rfl) (ev_func _) (vsC rfl (vsC rfl vsN)) (qref_up (b) (q) _ ) (fun e_ w_ h_ => ⟨_, h_.1, rfl, h_.2⟩)) ?_
  rintro _ w171 ⟨rfl, k172⟩
  have B173 := B150.all k172 id
  have B174 := B151.all k172 id
  have B175 := B152.all k172 id
  have B176 := B148.all k172 id
  have K177 := K153.trans k172 (fun _ _ x => x)
  refine wl_v (.tuple #[blkV (upB (b) (q)), .int .i64 (ern (q))]) rfl rfl (y_mov rfl rfl ⟨rfl, rfl⟩) ?_
  refine wl_v (blkV (upB (b) (q))) rfl rfl (y_ext rfl rfl rfl ⟨rfl, rfl⟩) ?_
  refine wl_v (.int .i64 (ern (q))) rfl rfl (y_ext rfl rfl rfl ⟨rfl, rfl⟩) ?_
  refine wl_alloc_blk rfl rfl rfl blkT_arr.2.2 fun p178 w179 e182 B180 k181 => ?_
  have ne183 : p1 ≠ p178 := by have h_ := B173.lt; omega
  have ne184 : p64 ≠ p178 := by have h_ := B174.lt; omega
  have ne185 : p96 ≠ p178 := by have h_ := B175.lt; omega
  have ne186 : p134 ≠ p178 := by have h_ := B176.lt; omega
  have lp187 : w0.heap.size ≤ p178 := by have h_ := K177.size; omega
  clear e182
  have B188 := B173.all k181 id
  have B189 := B174.all k181 id
  have B190 := B175.all k181 id
  have B191 := B176.all k181 id
  have K192 := K177.trans k181 (fun _ _ x => x)
  refine wl_store_blk blkT_arr rfl rfl rfl rfl rfl B180 fun w193 B194 k195 => ?_
  have B196 := B188.all k195 ne183
  have B197 := B189.all k195 ne184
  have B198 := B190.all k195 ne185
  have B199 := B191.all k195 ne186
  have K200 := K192.trans k195 (fun _ hi e => absurd (e ▸ hi) (Nat.not_lt.2 lp187))
  refine wl_v (.int .i64 (ern (q))) rfl rfl (y_asg rfl rfl ⟨rfl, rfl⟩) ?_
  refine wl_nil fun F201 hF202 => ?_
  have s203 : F201 5 = .bool true := (hF202 5).trans s158
  have s204 : F201 6 = .int .i64 (stp (q)) := (hF202 6).trans s159
  have s205 : F201 7 = .int .i64 (ern (q)) := (hF202 7).trans s160
  have s206 : F201 8 = .int .i64 (stp (q)) := (hF202 8).trans s161
  have s207 : F201 9 = .int .i64 (ern (q)) := (hF202 9).trans s162
  have s208 : F201 10 = .int .i64 (stp (q) / 2) := (hF202 10).trans s163
  have s209 : F201 11 = .int .i64 (ern (q)) := (hF202 11).trans s164
  have s210 : F201 12 = .pointer (some ⟨p64, 0, none⟩) := (hF202 12).trans s165
  have s211 : F201 13 = .int .i64 (ern (q)) := (hF202 13).trans s166
  have s212 : F201 14 = .pointer (some ⟨p96, 0, none⟩) := (hF202 14).trans s167
  have s213 : F201 15 = .int .i64 (ern (q)) := (hF202 15).trans s168
  have s214 : F201 16 = .pointer (some ⟨p134, 0, none⟩) := (hF202 16).trans s169
  have s215 : F201 17 = .int .i64 (ern (q)) := (hF202 17).trans s170
  have s216 : F201 18 = .pointer (some ⟨p178, 0, none⟩) := (hF202 18).trans rfl
  have s217 : F201 19 = .int .i64 (ern (q)) := (hF202 19).trans rfl
  clear hF202
  refine then_normal ?_
  refine wq_seq ?_
  refine wq_region ?_
  refine wl_v (.bool true) rfl rfl (y_mov rfl s203 ⟨rfl, rfl⟩) ?_
  refine wl_v (.bool true) rfl rfl (y_mov rfl rfl ⟨rfl, rfl⟩) ?_
  refine wl_vw (.int .i64 (stp (q))) 1 true 61 rfl rfl rfl rfl rfl (y_mov rfl s204 ⟨rfl, rfl⟩) ?_
  refine wl_vw (.int .i64 (stp (q))) 1 true 61 rfl rfl rfl rfl rfl (y_mov rfl s206 ⟨rfl, rfl⟩) ?_
  refine wl_vw (.bool true) 1 true 61 rfl rfl rfl rfl rfl (y_eqlI rfl rfl rfl (decide_eq_true rfl) ⟨rfl, rfl⟩) ?_
  refine wl_v (.bool true) rfl rfl (y_pickT rfl rfl rfl ⟨rfl, rfl⟩) ?_
  refine wl_v (.bool true) rfl rfl (y_mov rfl rfl ⟨rfl, rfl⟩) ?_
  refine wl_vw (.int .i64 (ern (q))) 6 true 66 rfl rfl rfl rfl rfl (y_mov rfl s205 ⟨rfl, rfl⟩) ?_
  refine wl_vw (.int .i64 (ern (q))) 6 true 66 rfl rfl rfl rfl rfl (y_mov rfl s207 ⟨rfl, rfl⟩) ?_
  refine wl_vw (.bool true) 6 true 66 rfl rfl rfl rfl rfl (y_eqlI rfl rfl rfl (decide_eq_true rfl) ⟨rfl, rfl⟩) ?_
  refine wl_v (.bool true) rfl rfl (y_pickT rfl rfl rfl ⟨rfl, rfl⟩) ?_
  refine wl_v (.bool true) rfl rfl (y_mov rfl rfl ⟨rfl, rfl⟩) ?_
  refine wl_vw (.int .i64 (stp (q) / 2)) 11 true 71 rfl rfl rfl rfl rfl (y_mov rfl s208 ⟨rfl, rfl⟩) ?_
  refine wl_vw (.int .i64 (stp (q))) 11 true 71 rfl rfl rfl rfl rfl (y_mov rfl s206 ⟨rfl, rfl⟩) ?_
  refine wl_vw (.int .i64 (stp q / 2)) 11 true 71 rfl rfl rfl rfl rfl (y_quo rfl rfl rfl (by first | decide | omega) (i64_i (Int.tdiv_eq_ediv_of_nonneg (by omega)) (by omega)) ⟨rfl, rfl⟩) ?_
  refine wl_vw (.bool true) 11 true 71 rfl rfl rfl rfl rfl (y_eqlI rfl rfl rfl (decide_eq_true rfl) ⟨rfl, rfl⟩) ?_
  refine wl_v (.bool true) rfl rfl (y_pickT rfl rfl rfl ⟨rfl, rfl⟩) ?_
  refine wl_v (.bool true) rfl rfl (y_mov rfl rfl ⟨rfl, rfl⟩) ?_
  refine wl_vw (.int .i64 (ern (q))) 17 true 77 rfl rfl rfl rfl rfl (y_mov rfl s209 ⟨rfl, rfl⟩) ?_
  refine wl_vw (.int .i64 (ern (q))) 17 true 77 rfl rfl rfl rfl rfl (y_mov rfl s207 ⟨rfl, rfl⟩) ?_
  refine wl_vw (.bool true) 17 true 77 rfl rfl rfl rfl rfl (y_eqlI rfl rfl rfl (decide_eq_true rfl) ⟨rfl, rfl⟩) ?_
  refine wl_v (.bool true) rfl rfl (y_pickT rfl rfl rfl ⟨rfl, rfl⟩) ?_
  refine wl_v (.bool true) rfl rfl (y_mov rfl rfl ⟨rfl, rfl⟩) ?_
  refine wl_vw (blkV (downB (b) (q))) 22 true 82 rfl rfl rfl rfl rfl (y_load_blk blkT_block rfl s210 B197 ⟨rfl, rfl⟩) ?_
  refine wl_vw (blkV (downB (b) (q))) 22 true 82 rfl rfl rfl rfl rfl (y_load_blk blkT_arr rfl s212 B198 ⟨rfl, rfl⟩) ?_
  refine wl_vw (.bool true) 22 true 82 rfl rfl rfl rfl rfl (y_sameR rfl rfl rfl (sameB_self _) ⟨rfl, rfl⟩) ?_
  refine wl_v (.bool true) rfl rfl (y_pickT rfl rfl rfl ⟨rfl, rfl⟩) ?_
  refine wl_v (.bool true) rfl rfl (y_mov rfl rfl ⟨rfl, rfl⟩) ?_
  refine wl_vw (.int .i64 (ern (q))) 27 true 87 rfl rfl rfl rfl rfl (y_mov rfl s211 ⟨rfl, rfl⟩) ?_
  refine wl_vw (.int .i64 (ern (q))) 27 true 87 rfl rfl rfl rfl rfl (y_mov rfl s213 ⟨rfl, rfl⟩) ?_
  refine wl_vw (.bool true) 27 true 87 rfl rfl rfl rfl rfl (y_eqlI rfl rfl rfl (decide_eq_true rfl) ⟨rfl, rfl⟩) ?_
  refine wl_v (.bool true) rfl rfl (y_pickT rfl rfl rfl ⟨rfl, rfl⟩) ?_
  refine wl_v (.bool true) rfl rfl (y_mov rfl rfl ⟨rfl, rfl⟩) ?_
  refine wl_vw (blkV (upB (b) (q))) 32 true 92 rfl rfl rfl rfl rfl (y_load_blk blkT_block rfl s214 B199 ⟨rfl, rfl⟩) ?_
  refine wl_vw (blkV (upB (b) (q))) 32 true 92 rfl rfl rfl rfl rfl (y_load_blk blkT_arr rfl s216 B194 ⟨rfl, rfl⟩) ?_
  refine wl_vw (.bool true) 32 true 92 rfl rfl rfl rfl rfl (y_sameR rfl rfl rfl (sameB_self _) ⟨rfl, rfl⟩) ?_
  refine wl_v (.bool true) rfl rfl (y_pickT rfl rfl rfl ⟨rfl, rfl⟩) ?_
  refine wl_v (.bool true) rfl rfl (y_mov rfl rfl ⟨rfl, rfl⟩) ?_
  refine wl_vw (.int .i64 (ern (q))) 37 true 97 rfl rfl rfl rfl rfl (y_mov rfl s215 ⟨rfl, rfl⟩) ?_
  refine wl_vw (.int .i64 (ern (q))) 37 true 97 rfl rfl rfl rfl rfl (y_mov rfl s217 ⟨rfl, rfl⟩) ?_
  refine wl_vw (.bool true) 37 true 97 rfl rfl rfl rfl rfl (y_eqlI rfl rfl rfl (decide_eq_true rfl) ⟨rfl, rfl⟩) ?_
  refine wl_v (.bool true) rfl rfl (y_pickT rfl rfl rfl ⟨rfl, rfl⟩) ?_
  refine wl_v (.bool true) rfl rfl (y_asg rfl rfl ⟨rfl, rfl⟩) ?_
  refine wl_nil fun F218 hF219 => ?_
  have s220 : F218 4 = .bool true := (hF219 4).trans rfl
  clear hF219
  refine then_normal ?_
  refine wq_ret ?_
  exact end_tmp (v := .bool true) rfl s220 ⟨rfl, K200⟩

theorem mod_nat (q n : Nat) : Int.tmod (q : Int) (n : Int) = ((q % n : Nat) : Int) := by rw [Int.tmod_eq_emod_of_nonneg (by omega)]; rfl
theorem diff_no {a b : Nat → Int} (h : ∀ i, i < 16 → a i = b i) : (!sameB a b) = false := by rw [sameB_true h]; rfl

set_option maxHeartbeats 4000000 in
set_option maxRecDepth 100000 in
theorem qnear_walk (b : Nat → Int) (q : Nat) (w0 : World) (hs : StepsAt w0) (hq : q < 256) :
    Calls Tryd.prog 4 #[blkV (b), .int .u8 (((q : Nat) : Int))] w0 fun e w' => e = .returned (.bool true) ∧ Kept (fun _ => False) w0 w' := by
  refine calls_wq (args := [blkV (b), .int .u8 (((q : Nat) : Int))]) 128 Tryd.func4 rfl rfl (Nat.le_of_ble_eq_true rfl) ?_
  have K0 := Kept.refl (fun _ => False) w0
  obtain ⟨k, hkq⟩ : ∃ k, k = q % 21 := ⟨_, rfl⟩
  have hk : k < 21 := by omega
  have he := ern_nat hk
  have hst := stp_in hk
  have hc := clB_at 524288 (by omega) b
  refine wq_seq ?_
  refine wq_region ?_
  refine wl_box_blk rfl rfl rfl rfl fun p1 w2 e5 B3 k4 => ?_
  have lp6 : w0.heap.size ≤ p1 := by have h_ := K0.size; omega
  clear e5
  have K7 := K0.trans k4 (fun _ _ x => x)
  refine wl_v (.bool false) rfl rfl (y_asg rfl rfl ⟨rfl, rfl⟩) ?_
  refine wl_nil fun F8 hF9 => ?_
  have s10 : F8 1 = .int .u8 (((q : Nat) : Int)) := (hF9 1).trans rfl
  have s11 : F8 2 = .pointer (some ⟨p1, 0, none⟩) := (hF9 2).trans rfl
  clear hF9
  refine then_normal ?_
  refine wq_seq ?_
  refine wq_region ?_
  refine wl_call (R := fun v_ w_ => v_ = .bool true ∧ Kept (fun _ => False) w2 w_) rfl rfl (y_cs rfl rfl rfl (fun _ _ => by kernel_rfl) (ev_func _) vsN (qawake_any  _ (hs.all K7)) (fun e_ w_ h_ => ⟨_, h_.1, rfl, h_.2⟩)) ?_
  rintro _ w12 ⟨rfl, k13⟩
  have B14 := B3.all k13 id
  have K15 := K7.trans k13 (fun _ _ x => x)
  refine wl_v (.bool true) rfl rfl (y_asg rfl rfl ⟨rfl, rfl⟩) ?_
  refine wl_nil fun F16 hF17 => ?_
  have s18 : F16 1 = .int .u8 (((q : Nat) : Int)) := (hF17 1).trans s10
  have s19 : F16 2 = .pointer (some ⟨p1, 0, none⟩) := (hF17 2).trans s11
  have s20 : F16 5 = .bool true := (hF17 5).trans rfl
  clear hF17
  refine then_normal ?_
  refine wq_seq ?_
  refine wq_region ?_
  refine wl_v (.int .u8 (((q : Nat) : Int))) rfl rfl (y_mov rfl s18 ⟨rfl, rfl⟩) ?_
  refine wl_v (.int .i64 (((q : Nat) : Int))) rfl rfl (y_convR rfl rfl Tryd.underlying5 Tryd.underlying3 (i64_i rfl (by omega)) ⟨rfl, rfl⟩) ?_
  refine wl_v (.int .i64 (((k : Nat) : Int))) rfl rfl (y_rem rfl rfl rfl (by first | decide | omega) ((mod_nat q 21).trans (by rw [hkq])) ⟨rfl, rfl⟩) ?_
  refine wl_v (.int .i64 (((k : Nat) : Int))) rfl rfl (y_asg rfl rfl ⟨rfl, rfl⟩) ?_
  refine wl_nil fun F21 hF22 => ?_
  have s23 : F21 2 = .pointer (some ⟨p1, 0, none⟩) := (hF22 2).trans s19
  have s24 : F21 5 = .bool true := (hF22 5).trans s20
  have s25 : F21 6 = .int .i64 (((k : Nat) : Int)) := (hF22 6).trans rfl
  clear hF22
  refine then_normal ?_
  refine wq_seq ?_
  refine wq_seq ?_
  refine wq_region ?_
  refine wl_v (.int .i64 (0)) rfl rfl (y_asg rfl rfl ⟨rfl, rfl⟩) ?_
  refine wl_nil fun F26 hF27 => ?_
  have s28 : F26 2 = .pointer (some ⟨p1, 0, none⟩) := (hF27 2).trans s23
  have s29 : F26 5 = .bool true := (hF27 5).trans s24
  have s30 : F26 6 = .int .i64 (((k : Nat) : Int)) := (hF27 6).trans s25
  have s31 : F26 7 = .int .i64 (0) := (hF27 7).trans rfl
  clear hF27
  refine then_normal ?_
  refine wq_block ?_
  refine wq_loop (fun nn FF ww => ∃ (i : Nat), i ≤ 16 ∧ nn = 16 - i ∧ FF 2 = .pointer (some ⟨p1, 0, none⟩) ∧ FF 5 = .bool true ∧ FF 6 = .int .i64 (((k : Nat) : Int)) ∧ FF 7 = .int .i64 (((i : Nat) : Int)) ∧ Kept (fun _ => False) w0 ww ∧ Blk ww p1 22 (upto i b (clB 524288 b))) (16 - (0)) ⟨0, by omega, rfl, s28, s29, s30, s31, K15, B14.first⟩ ?_
  rintro n35 F32 w33 ⟨i, i36, hn35, s37, s38, s39, s40, K34, B41⟩
  refine wq_seq ?_
  refine wq_seq ?_
  refine wq_region ?_
  refine wl_v (.int .i64 (((i : Nat) : Int))) rfl rfl (y_mov rfl s40 ⟨rfl, rfl⟩) ?_
  refine wl_v (.bool (decide ((((i : Nat) : Int)) < (16)))) rfl rfl (y_lss rfl rfl rfl rfl ⟨rfl, rfl⟩) ?_
  refine wl_nil fun F42 hF43 => ?_
  have s44 : F42 2 = .pointer (some ⟨p1, 0, none⟩) := (hF43 2).trans s37
  have s45 : F42 5 = .bool true := (hF43 5).trans s38
  have s46 : F42 6 = .int .i64 (((k : Nat) : Int)) := (hF43 6).trans s39
  have s47 : F42 7 = .int .i64 (((i : Nat) : Int)) := (hF43 7).trans s40
  have s48 : F42 22 = .bool (decide ((((i : Nat) : Int)) < (16))) := (hF43 22).trans rfl
  clear hF43
  refine then_normal ?_
  refine wq_cond s48 (fun c49 => ?_) (fun c49 => ?_)
  · replace c49 := of_decide_eq_true c49
    refine wq_skip ?_
    refine then_normal ?_
    refine wq_seq ?_
    refine wq_block ?_
    refine wq_region ?_
    refine wl_v (.int .i64 (((i : Nat) : Int))) rfl rfl (y_mov rfl s47 ⟨rfl, rfl⟩) ?_
    refine wl_v (.int .i64 (((i : Nat) : Int))) rfl rfl (y_mov rfl s47 ⟨rfl, rfl⟩) ?_
    refine wl_v (.pointer (some ⟨p1, i, none⟩)) rfl rfl (y_atR (i) (s := 1) rfl s44 rfl (by omega) Tryd.underlying22 (by omega) (by kernel_rfl) (by omega) ⟨rfl, rfl⟩) ?_
    refine wl_v (.int .i64 (b i)) rfl rfl (y_ldR rfl rfl Tryd.underlying3 (((B41).cell (by omega)).trans (some_int (upto_at i _ _))) ⟨rfl, rfl⟩) ?_
    refine wl_v (.int .i64 (max (b i) (-524288))) rfl rfl (y_maxR rfl rfl rfl rfl ⟨rfl, rfl⟩) ?_
    refine wl_v (.int .i64 (cl 524288 (b i))) rfl rfl (y_minR rfl rfl rfl (by unfold cl; omega) ⟨rfl, rfl⟩) ?_
    refine wl_v (.pointer (some ⟨p1, i, none⟩)) rfl rfl (y_atR (i) (s := 1) rfl s44 rfl (by omega) Tryd.underlying22 (by omega) (by kernel_rfl) (by omega) ⟨rfl, rfl⟩) ?_
    refine wl_set_blk rfl rfl rfl rfl rfl B41 (by omega) (by kernel_rfl) fun w50 B51 k52 => ?_
    have K53 := K34.trans k52 (fun _ hi e => absurd (e ▸ hi) (Nat.not_lt.2 lp6))
    refine wl_nil fun F54 hF55 => ?_
    have s56 : F54 2 = .pointer (some ⟨p1, 0, none⟩) := (hF55 2).trans s44
    have s57 : F54 5 = .bool true := (hF55 5).trans s45
    have s58 : F54 6 = .int .i64 (((k : Nat) : Int)) := (hF55 6).trans s46
    have s59 : F54 7 = .int .i64 (((i : Nat) : Int)) := (hF55 7).trans s47
    clear hF55
    refine in_normal ?_
    refine then_normal ?_
    refine wq_region ?_
    refine wl_v (.int .i64 (((i : Nat) : Int))) rfl rfl (y_mov rfl s59 ⟨rfl, rfl⟩) ?_
    refine wl_v (.int .i64 (((i + 1 : Nat) : Int))) rfl rfl (y_add rfl rfl rfl (i64_n (by omega) (by omega)) ⟨rfl, rfl⟩) ?_
    refine wl_v (.int .i64 (((i + 1 : Nat) : Int))) rfl rfl (y_asg rfl rfl ⟨rfl, rfl⟩) ?_
    refine wl_nil fun F60 hF61 => ?_
    have s62 : F60 2 = .pointer (some ⟨p1, 0, none⟩) := (hF61 2).trans s56
    have s63 : F60 5 = .bool true := (hF61 5).trans s57
    have s64 : F60 6 = .int .i64 (((k : Nat) : Int)) := (hF61 6).trans s58
    have s65 : F60 7 = .int .i64 (((i + 1 : Nat) : Int)) := (hF61 7).trans rfl
    clear hF61
    exact then_normal ⟨(16 - (i + 1)), by omega, i + 1, by omega, rfl, s62, s63, s64, s65, K53, (B51.next rfl)⟩
  · replace c49 := of_decide_eq_false c49
    refine wq_exit ?_
    refine then_exit ?_
    refine then_exit ?_
    have l66 : 16 = i := by omega
    subst l66
    have B67 : Blk w33 p1 22 (clB 524288 b) := (B41.last)
    refine in_here ?_
    refine then_normal ?_
    refine wq_seq ?_
    refine wq_region ?_
    refine wl_v (.int .i64 (((k : Nat) : Int))) rfl rfl (y_mov rfl s46 ⟨rfl, rfl⟩) ?_
    refine wl_call (R := fun v_ w_ => v_ = .tuple #[.int .i64 (stp (((k : Nat) : Int)) / 2), .int .i64 (ern (((k : Nat) : Int)))] ∧ Kept (fun _ => False) w33 w_) rfl rfl (y_cs rfl rfl rfl (fun _ _ => by kernel_rfl) (ev_func _) (vsC rfl vsN) (bound_any (((k : Nat) : Int)) _ (hs.all K34)) (fun e_ w_ h_ => ⟨_, h_.1, rfl, h_.2⟩)) ?_
    rintro _ w68 ⟨rfl, k69⟩
    have B70 := B67.all k69 id
    have K71 := K34.trans k69 (fun _ _ x => x)
    refine wl_v (.tuple #[.int .i64 (stp (((k : Nat) : Int)) / 2), .int .i64 (ern (((k : Nat) : Int)))]) rfl rfl (y_mov rfl rfl ⟨rfl, rfl⟩) ?_
    refine wl_v (.int .i64 (stp (((k : Nat) : Int)) / 2)) rfl rfl (y_ext rfl rfl rfl ⟨rfl, rfl⟩) ?_
    refine wl_v (.int .i64 (ern (((k : Nat) : Int)))) rfl rfl (y_ext rfl rfl rfl ⟨rfl, rfl⟩) ?_
    refine wl_v (.int .i64 (stp (((k : Nat) : Int)) / 2)) rfl rfl (y_asg rfl rfl ⟨rfl, rfl⟩) ?_
    refine wl_v (.int .i64 (ern (((k : Nat) : Int)))) rfl rfl (y_asg rfl rfl ⟨rfl, rfl⟩) ?_
    refine wl_nil fun F72 hF73 => ?_
    have s74 : F72 2 = .pointer (some ⟨p1, 0, none⟩) := (hF73 2).trans s44
    have s75 : F72 5 = .bool true := (hF73 5).trans s45
    have s76 : F72 6 = .int .i64 (((k : Nat) : Int)) := (hF73 6).trans s46
    have s77 : F72 8 = .int .i64 (stp (((k : Nat) : Int)) / 2) := (hF73 8).trans rfl
    have s78 : F72 9 = .int .i64 (ern (((k : Nat) : Int))) := (hF73 9).trans rfl
    clear hF73
    refine then_normal ?_
    refine wq_seq ?_
    refine wq_region ?_
    refine wl_v (blkV (clB 524288 b)) rfl rfl (y_load_blk blkT_arr rfl s74 B70 ⟨rfl, rfl⟩) ?_
    refine wl_v (.int .i64 (((k : Nat) : Int))) rfl rfl (y_mov rfl s76 ⟨rfl, rfl⟩) ?_
    refine wl_call (R := fun v_ w_ => v_ = .tuple #[blkV (downB (clB 524288 b) (((k : Nat) : Int))), .int .i64 (ern (((k : Nat) : Int)))] ∧ Kept (fun _ => False) w68 w_) rfl rfl (y_cs rfl rfl rfl (fun _ _ => by kernel_rfl) (ev_func _) (vsC rfl (vsC rfl vsN)) (down_any (clB 524288 b) (((k : Nat) : Int)) _ (hs.all K71)) (fun e_ w_ h_ => ⟨_, h_.1, rfl, h_.2⟩)) ?_
    rintro _ w79 ⟨rfl, k80⟩
    have B81 := B70.all k80 id
    have K82 := K71.trans k80 (fun _ _ x => x)
    refine wl_v (.tuple #[blkV (downB (clB 524288 b) (((k : Nat) : Int))), .int .i64 (ern (((k : Nat) : Int)))]) rfl rfl (y_mov rfl rfl ⟨rfl, rfl⟩) ?_
    refine wl_v (blkV (downB (clB 524288 b) (((k : Nat) : Int)))) rfl rfl (y_ext rfl rfl rfl ⟨rfl, rfl⟩) ?_
    refine wl_v (.int .i64 (ern (((k : Nat) : Int)))) rfl rfl (y_ext rfl rfl rfl ⟨rfl, rfl⟩) ?_
    refine wl_alloc_blk rfl rfl rfl blkT_block.2.2 fun p83 w84 e87 B85 k86 => ?_
    have ne88 : p1 ≠ p83 := by have h_ := B81.lt; omega
    have lp89 : w0.heap.size ≤ p83 := by have h_ := K82.size; omega
    clear e87
    have B90 := B81.all k86 id
    have K91 := K82.trans k86 (fun _ _ x => x)
    refine wl_store_blk blkT_block rfl rfl rfl rfl rfl B85 fun w92 B93 k94 => ?_
    have B95 := B90.all k94 ne88
    have K96 := K91.trans k94 (fun _ hi e => absurd (e ▸ hi) (Nat.not_lt.2 lp89))
    refine wl_v (.int .i64 (ern (((k : Nat) : Int)))) rfl rfl (y_asg rfl rfl ⟨rfl, rfl⟩) ?_
    refine wl_nil fun F97 hF98 => ?_
    have s99 : F97 2 = .pointer (some ⟨p1, 0, none⟩) := (hF98 2).trans s74
    have s100 : F97 5 = .bool true := (hF98 5).trans s75
    have s101 : F97 6 = .int .i64 (((k : Nat) : Int)) := (hF98 6).trans s76
    have s102 : F97 8 = .int .i64 (stp (((k : Nat) : Int)) / 2) := (hF98 8).trans s77
    have s103 : F97 9 = .int .i64 (ern (((k : Nat) : Int))) := (hF98 9).trans s78
    have s104 : F97 10 = .pointer (some ⟨p83, 0, none⟩) := (hF98 10).trans rfl
    have s105 : F97 11 = .int .i64 (ern (((k : Nat) : Int))) := (hF98 11).trans rfl
    clear hF98
    refine then_normal ?_
    refine wq_seq ?_
    refine wq_region ?_
    refine wl_v (blkV (downB (clB 524288 b) (((k : Nat) : Int)))) rfl rfl (y_load_blk blkT_block rfl s104 B93 ⟨rfl, rfl⟩) ?_
    refine wl_v (.int .i64 (((k : Nat) : Int))) rfl rfl (y_mov rfl s101 ⟨rfl, rfl⟩) ?_
    refine wl_call (R := fun v_ w_ => v_ = .tuple #[blkV (upB (downB (clB 524288 b) (((k : Nat) : Int))) (((k : Nat) : Int))), .int .i64 (ern (((k : Nat) : Int)))] ∧ Kept (fun _ => False) w92 w_) rfl rfl (y_cs rfl rfl rfl (fun _ _ => by kernel_rfl) (ev_func _) (vsC rfl (vsC rfl vsN)) (up_any (downB (clB 524288 b) (((k : Nat) : Int))) (((k : Nat) : Int)) _ (hs.all K96)) (fun e_ w_ h_ => ⟨_, h_.1, rfl, h_.2⟩)) ?_
    rintro _ w106 ⟨rfl, k107⟩
    have B108 := B95.all k107 id
    have B109 := B93.all k107 id
    have K110 := K96.trans k107 (fun _ _ x => x)
    refine wl_v (.tuple #[blkV (upB (downB (clB 524288 b) (((k : Nat) : Int))) (((k : Nat) : Int))), .int .i64 (ern (((k : Nat) : Int)))]) rfl rfl (y_mov rfl rfl ⟨rfl, rfl⟩) ?_
    refine wl_v (blkV (upB (downB (clB 524288 b) (((k : Nat) : Int))) (((k : Nat) : Int)))) rfl rfl (y_ext rfl rfl rfl ⟨rfl, rfl⟩) ?_
    refine wl_v (.int .i64 (ern (((k : Nat) : Int)))) rfl rfl (y_ext rfl rfl rfl ⟨rfl, rfl⟩) ?_
    refine wl_alloc_blk rfl rfl rfl blkT_block.2.2 fun p111 w112 e115 B113 k114 => ?_
    have ne116 : p1 ≠ p111 := by have h_ := B108.lt; omega
    have ne117 : p83 ≠ p111 := by have h_ := B109.lt; omega
    have lp118 : w0.heap.size ≤ p111 := by have h_ := K110.size; omega
    clear e115
    have B119 := B108.all k114 id
    have B120 := B109.all k114 id
    have K121 := K110.trans k114 (fun _ _ x => x)
    refine wl_store_blk blkT_block rfl rfl rfl rfl rfl B113 fun w122 B123 k124 => ?_
    have B125 := B119.all k124 ne116
    have B126 := B120.all k124 ne117
    have K127 := K121.trans k124 (fun _ hi e => absurd (e ▸ hi) (Nat.not_lt.2 lp118))
    refine wl_v (.int .i64 (ern (((k : Nat) : Int)))) rfl rfl (y_asg rfl rfl ⟨rfl, rfl⟩) ?_
    refine wl_nil fun F128 hF129 => ?_
    have s130 : F128 2 = .pointer (some ⟨p1, 0, none⟩) := (hF129 2).trans s99
    have s131 : F128 5 = .bool true := (hF129 5).trans s100
    have s132 : F128 6 = .int .i64 (((k : Nat) : Int)) := (hF129 6).trans s101
    have s133 : F128 8 = .int .i64 (stp (((k : Nat) : Int)) / 2) := (hF129 8).trans s102
    have s134 : F128 9 = .int .i64 (ern (((k : Nat) : Int))) := (hF129 9).trans s103
    have s135 : F128 10 = .pointer (some ⟨p83, 0, none⟩) := (hF129 10).trans s104
    have s136 : F128 11 = .int .i64 (ern (((k : Nat) : Int))) := (hF129 11).trans s105
    have s137 : F128 12 = .pointer (some ⟨p111, 0, none⟩) := (hF129 12).trans rfl
    have s138 : F128 13 = .int .i64 (ern (((k : Nat) : Int))) := (hF129 13).trans rfl
    clear hF129
    refine then_normal ?_
    refine wq_seq ?_
    refine wq_region ?_
    refine wl_v (blkV (upB (downB (clB 524288 b) (((k : Nat) : Int))) (((k : Nat) : Int)))) rfl rfl (y_load_blk blkT_block rfl s137 B123 ⟨rfl, rfl⟩) ?_
    refine wl_v (.int .i64 (((k : Nat) : Int))) rfl rfl (y_mov rfl s132 ⟨rfl, rfl⟩) ?_
    refine wl_call (R := fun v_ w_ => v_ = .tuple #[blkV (downB (upB (downB (clB 524288 b) (((k : Nat) : Int))) (((k : Nat) : Int))) (((k : Nat) : Int))), .int .i64 (ern (((k : Nat) : Int)))] ∧ Kept (fun _ => False) w122 w_) rfl rfl (y_cs rfl rfl rfl (fun _ _ => by kernel_rfl) (ev_func _) (vsC rfl (vsC rfl vsN)) (down_any (upB (downB (clB 524288 b) (((k : Nat) : Int))) (((k : Nat) : Int))) (((k : Nat) : Int)) _ (hs.all K127)) (fun e_ w_ h_ => ⟨_, h_.1, rfl, h_.2⟩)) ?_
    rintro _ w139 ⟨rfl, k140⟩
    have B141 := B125.all k140 id
    have B142 := B126.all k140 id
    have B143 := B123.all k140 id
    have K144 := K127.trans k140 (fun _ _ x => x)
    refine wl_v (.tuple #[blkV (downB (upB (downB (clB 524288 b) (((k : Nat) : Int))) (((k : Nat) : Int))) (((k : Nat) : Int))), .int .i64 (ern (((k : Nat) : Int)))]) rfl rfl (y_mov rfl rfl ⟨rfl, rfl⟩) ?_
    refine wl_v (blkV (downB (upB (downB (clB 524288 b) (((k : Nat) : Int))) (((k : Nat) : Int))) (((k : Nat) : Int)))) rfl rfl (y_ext rfl rfl rfl ⟨rfl, rfl⟩) ?_
    refine wl_v (.int .i64 (ern (((k : Nat) : Int)))) rfl rfl (y_ext rfl rfl rfl ⟨rfl, rfl⟩) ?_
    refine wl_alloc_blk rfl rfl rfl blkT_block.2.2 fun p145 w146 e149 B147 k148 => ?_
    have ne150 : p1 ≠ p145 := by have h_ := B141.lt; omega
    have ne151 : p83 ≠ p145 := by have h_ := B142.lt; omega
    have ne152 : p111 ≠ p145 := by have h_ := B143.lt; omega
    have lp153 : w0.heap.size ≤ p145 := by have h_ := K144.size; omega
    clear e149
    have B154 := B141.all k148 id
    have B155 := B142.all k148 id
    have B156 := B143.all k148 id
    have K157 := K144.trans k148 (fun _ _ x => x)
    refine wl_store_blk blkT_block rfl rfl rfl rfl rfl B147 fun w158 B159 k160 => ?_
    have B161 := B154.all k160 ne150
    have B162 := B155.all k160 ne151
    have B163 := B156.all k160 ne152
    have K164 := K157.trans k160 (fun _ hi e => absurd (e ▸ hi) (Nat.not_lt.2 lp153))
    refine wl_v (.int .i64 (ern (((k : Nat) : Int)))) rfl rfl (y_asg rfl rfl ⟨rfl, rfl⟩) ?_
    refine wl_nil fun F165 hF166 => ?_
    have s167 : F165 2 = .pointer (some ⟨p1, 0, none⟩) := (hF166 2).trans s130
    have s168 : F165 5 = .bool true := (hF166 5).trans s131
    have s169 : F165 6 = .int .i64 (((k : Nat) : Int)) := (hF166 6).trans s132
    have s170 : F165 8 = .int .i64 (stp (((k : Nat) : Int)) / 2) := (hF166 8).trans s133
    have s171 : F165 9 = .int .i64 (ern (((k : Nat) : Int))) := (hF166 9).trans s134
    have s172 : F165 10 = .pointer (some ⟨p83, 0, none⟩) := (hF166 10).trans s135
    have s173 : F165 11 = .int .i64 (ern (((k : Nat) : Int))) := (hF166 11).trans s136
    have s174 : F165 12 = .pointer (some ⟨p111, 0, none⟩) := (hF166 12).trans s137
    have s175 : F165 13 = .int .i64 (ern (((k : Nat) : Int))) := (hF166 13).trans s138
    have s176 : F165 14 = .pointer (some ⟨p145, 0, none⟩) := (hF166 14).trans rfl
    clear hF166
    refine then_normal ?_
    refine wq_seq ?_
    refine wq_seq ?_
    by_cases d177 : (((k : Nat) : Int)) = (0)
    · skip
      refine wq_region ?_
      refine wl_v (.int .i64 (ern (((k : Nat) : Int)))) rfl rfl (y_mov rfl s171 ⟨rfl, rfl⟩) ?_
      refine wl_v (.bool false) rfl rfl (y_neqI rfl rfl rfl (decide_eq_false (fun h => h he)) ⟨rfl, rfl⟩) ?_
      refine wl_v (.bool false) rfl rfl (y_mov rfl rfl ⟨rfl, rfl⟩) ?_
      refine wl_vw (.int .i64 (ern (((k : Nat) : Int)))) 2 false 57 rfl rfl rfl rfl rfl (y_mov rfl s173 ⟨rfl, rfl⟩) ?_
      refine wl_vw (.bool false) 2 false 57 rfl rfl rfl rfl rfl (y_neqI rfl rfl rfl (decide_eq_false (fun h => h he)) ⟨rfl, rfl⟩) ?_
      refine wl_v (.bool false) rfl rfl (y_pickF rfl rfl rfl ⟨rfl, rfl⟩) ?_
      refine wl_v (.bool false) rfl rfl (y_mov rfl rfl ⟨rfl, rfl⟩) ?_
      refine wl_vw (.int .i64 (ern (((k : Nat) : Int)))) 6 false 61 rfl rfl rfl rfl rfl (y_mov rfl s175 ⟨rfl, rfl⟩) ?_
      refine wl_vw (.bool false) 6 false 61 rfl rfl rfl rfl rfl (y_neqI rfl rfl rfl (decide_eq_false (fun h => h he)) ⟨rfl, rfl⟩) ?_
      refine wl_v (.bool false) rfl rfl (y_pickF rfl rfl rfl ⟨rfl, rfl⟩) ?_
      refine wl_v (.bool false) rfl rfl (y_mov rfl rfl ⟨rfl, rfl⟩) ?_
      refine wl_vw (blkV (downB (upB (downB (clB 524288 b) (((k : Nat) : Int))) (((k : Nat) : Int))) (((k : Nat) : Int)))) 10 false 65 rfl rfl rfl rfl rfl (y_load_blk blkT_block rfl s176 B159 ⟨rfl, rfl⟩) ?_
      refine wl_vw (blkV (downB (clB 524288 b) (((k : Nat) : Int)))) 10 false 65 rfl rfl rfl rfl rfl (y_load_blk blkT_block rfl s172 B162 ⟨rfl, rfl⟩) ?_
      refine wl_vw (.bool false) 10 false 65 rfl rfl rfl rfl rfl (y_diffR rfl rfl rfl (diff_no fun i _ => (near_block hk i (hc i)).2.2) ⟨rfl, rfl⟩) ?_
      refine wl_v (.bool false) rfl rfl (y_pickF rfl rfl rfl ⟨rfl, rfl⟩) ?_
      refine wl_v (.bool false) rfl rfl (y_mov rfl rfl ⟨rfl, rfl⟩) ?_
      refine wl_vw (.int .i64 (((k : Nat) : Int))) 15 false 70 rfl rfl rfl rfl rfl (y_mov rfl s169 ⟨rfl, rfl⟩) ?_
      refine wl_vw (.bool true) 15 false 70 rfl rfl rfl rfl rfl (y_eqlI rfl rfl rfl (decide_eq_true d177) ⟨rfl, rfl⟩) ?_
      refine wl_vw (.bool true) 15 false 70 rfl rfl rfl rfl rfl (y_mov rfl rfl ⟨rfl, rfl⟩) ?_
      refine wl_vw (blkV (upB (downB (clB 524288 b) (((k : Nat) : Int))) (((k : Nat) : Int)))) 18 true 73 rfl rfl rfl rfl rfl (y_load_blk blkT_block rfl s174 B163 ⟨rfl, rfl⟩) ?_
      refine wl_vw (blkV (clB 524288 b)) 18 true 73 rfl rfl rfl rfl rfl (y_load_blk blkT_arr rfl s167 B161 ⟨rfl, rfl⟩) ?_
      refine wl_vw (.bool false) 18 true 73 rfl rfl rfl rfl rfl (y_diffR rfl rfl rfl (diff_no fun i _ => near_zero (by omega) i (hc i)) ⟨rfl, rfl⟩) ?_
      refine wl_vw (.bool false) 15 false 70 rfl rfl rfl rfl rfl (y_pickT rfl rfl rfl ⟨rfl, rfl⟩) ?_
      refine wl_v (.bool false) rfl rfl (y_pickF rfl rfl rfl ⟨rfl, rfl⟩) ?_
      refine wl_nil fun F178 hF179 => ?_
      have s180 : F178 2 = .pointer (some ⟨p1, 0, none⟩) := (hF179 2).trans s167
      have s181 : F178 5 = .bool true := (hF179 5).trans s168
      have s182 : F178 8 = .int .i64 (stp (((k : Nat) : Int)) / 2) := (hF179 8).trans s170
      have s183 : F178 10 = .pointer (some ⟨p83, 0, none⟩) := (hF179 10).trans s172
      have s184 : F178 12 = .pointer (some ⟨p111, 0, none⟩) := (hF179 12).trans s174
      have s185 : F178 78 = .bool false := (hF179 78).trans rfl
      clear hF179
      refine then_normal ?_
      refine wq_cond (t := false) s185 (fun e => by cases e) (fun _ => ?_)
      refine wq_skip ?_
      refine then_normal ?_
      refine wq_seq ?_
      refine wq_seq ?_
      refine wq_region ?_
      refine wl_v (.int .i64 (0)) rfl rfl (y_asg rfl rfl ⟨rfl, rfl⟩) ?_
      refine wl_nil fun F186 hF187 => ?_
      have s188 : F186 2 = .pointer (some ⟨p1, 0, none⟩) := (hF187 2).trans s180
      have s189 : F186 5 = .bool true := (hF187 5).trans s181
      have s190 : F186 8 = .int .i64 (stp (((k : Nat) : Int)) / 2) := (hF187 8).trans s182
      have s191 : F186 10 = .pointer (some ⟨p83, 0, none⟩) := (hF187 10).trans s183
      have s192 : F186 12 = .pointer (some ⟨p111, 0, none⟩) := (hF187 12).trans s184
      have s193 : F186 16 = .int .i64 (0) := (hF187 16).trans rfl
      clear hF187
      refine then_normal ?_
      refine wq_block ?_
      refine wq_loop (fun nn FF ww => ∃ (i : Nat), i ≤ 16 ∧ nn = 16 - i ∧ FF 2 = .pointer (some ⟨p1, 0, none⟩) ∧ FF 5 = .bool true ∧ FF 8 = .int .i64 (stp (((k : Nat) : Int)) / 2) ∧ FF 10 = .pointer (some ⟨p83, 0, none⟩) ∧ FF 12 = .pointer (some ⟨p111, 0, none⟩) ∧ FF 16 = .int .i64 (((i : Nat) : Int)) ∧ Kept (fun _ => False) w0 ww ∧ Blk ww p1 22 (clB 524288 b) ∧ Blk ww p83 27 (downB (clB 524288 b) (((k : Nat) : Int))) ∧ Blk ww p111 27 (upB (downB (clB 524288 b) (((k : Nat) : Int))) (((k : Nat) : Int))) ∧ Blk ww p145 27 (downB (upB (downB (clB 524288 b) (((k : Nat) : Int))) (((k : Nat) : Int))) (((k : Nat) : Int)))) (16 - (0)) ⟨0, by omega, rfl, s188, s189, s190, s191, s192, s193, K164, B161, B162, B163, B159⟩ ?_
      rintro n197 F194 w195 ⟨i, i198, hn197, s199, s200, s201, s202, s203, s204, K196, B205, B206, B207, B208⟩
      refine wq_seq ?_
      refine wq_seq ?_
      refine wq_region ?_
      refine wl_v (.int .i64 (((i : Nat) : Int))) rfl rfl (y_mov rfl s204 ⟨rfl, rfl⟩) ?_
      refine wl_v (.bool (decide ((((i : Nat) : Int)) < (16)))) rfl rfl (y_lss rfl rfl rfl rfl ⟨rfl, rfl⟩) ?_
      refine wl_nil fun F209 hF210 => ?_
      have s211 : F209 2 = .pointer (some ⟨p1, 0, none⟩) := (hF210 2).trans s199
      have s212 : F209 5 = .bool true := (hF210 5).trans s200
      have s213 : F209 8 = .int .i64 (stp (((k : Nat) : Int)) / 2) := (hF210 8).trans s201
      have s214 : F209 10 = .pointer (some ⟨p83, 0, none⟩) := (hF210 10).trans s202
      have s215 : F209 12 = .pointer (some ⟨p111, 0, none⟩) := (hF210 12).trans s203
      have s216 : F209 16 = .int .i64 (((i : Nat) : Int)) := (hF210 16).trans s204
      have s217 : F209 80 = .bool (decide ((((i : Nat) : Int)) < (16))) := (hF210 80).trans rfl
      clear hF210
      refine then_normal ?_
      refine wq_cond s217 (fun c218 => ?_) (fun c218 => ?_)
      · replace c218 := of_decide_eq_true c218
        refine wq_skip ?_
        refine then_normal ?_
        refine wq_seq ?_
        refine wq_block ?_
        refine wq_seq ?_
        have hb := near_block hk i (hc i)
        have hci := hc i
        have hn := lev_near (n := clB 524288 b i) (s := stp k) hst.1
        have hg := lev_sign (n := clB 524288 b i) (s := stp k) hst.1
        rw [← hb.2.1] at hn
        rw [← hb.1] at hg
        by_cases d219 : (0) < ((downB (clB 524288 b) (((k : Nat) : Int))) (i))
        · skip
          by_cases d220 : ((downB (clB 524288 b) (((k : Nat) : Int))) (i)) < (0)
          · skip
            refine wq_said [some 83, some 84, some 85, some 86, some 87, some 88, some 89, some 90, some 91, some 92, some 93, some 94, some 95, some 96, some 97, some 98, some 99, some 100, some 101, some 102, some 103, some 104, some 105, some 106, some 107, some 108, some 109, some 110, some 111, some 112, some 113, some 114, some 115, some 116, some 117, some 118, some 119, some 120, some 121, some 122, some 123, some 124, some 125, some 126] [Pd.eq (.int .i64 (((i : Nat) : Int))), Pd.eq (.pointer (some ⟨p111, i, none⟩)), Pd.eq (.int .i64 ((upB (downB (clB 524288 b) (((k : Nat) : Int))) (((k : Nat) : Int))) (i))), Pd.eq (.int .i64 (((i : Nat) : Int))), Pd.eq (.pointer (some ⟨p1, i, none⟩)), Pd.eq (.int .i64 ((clB 524288 b) (i))), Pd.eq (.int .i64 (((upB (downB (clB 524288 b) (((k : Nat) : Int))) (((k : Nat) : Int))) (i)) - ((clB 524288 b) (i)))), Pd.eq (.int .i64 (stp (((k : Nat) : Int)) / 2)), Pd.eq (.bool false), Pd.eq (.bool false), Pd.eq (.int .i64 (((i : Nat) : Int))), Pd.eq (.pointer (some ⟨p1, i, none⟩)), Pd.eq (.int .i64 ((clB 524288 b) (i))), Pd.eq (.int .i64 (((i : Nat) : Int))), Pd.eq (.pointer (some ⟨p111, i, none⟩)), Pd.eq (.int .i64 ((upB (downB (clB 524288 b) (((k : Nat) : Int))) (((k : Nat) : Int))) (i))), Pd.eq (.int .i64 (((clB 524288 b) (i)) - ((upB (downB (clB 524288 b) (((k : Nat) : Int))) (((k : Nat) : Int))) (i)))), Pd.eq (.int .i64 (stp (((k : Nat) : Int)) / 2)), Pd.eq (.bool false), Pd.eq (.bool false), Pd.eq (.bool false), Pd.eq (.int .i64 (((i : Nat) : Int))), Pd.eq (.pointer (some ⟨p83, i, none⟩)), Pd.eq (.int .i64 ((downB (clB 524288 b) (((k : Nat) : Int))) (i))), Pd.eq (.bool true), Pd.eq (.bool true), Pd.eq (.int .i64 (((i : Nat) : Int))), Pd.eq (.pointer (some ⟨p1, i, none⟩)), Pd.eq (.int .i64 ((clB 524288 b) (i))), Pd.eq (.bool false), Pd.eq (.bool false), Pd.eq (.bool false), Pd.eq (.bool false), Pd.eq (.int .i64 (((i : Nat) : Int))), Pd.eq (.pointer (some ⟨p83, i, none⟩)), Pd.eq (.int .i64 ((downB (clB 524288 b) (((k : Nat) : Int))) (i))), Pd.eq (.bool true), Pd.eq (.bool true), Pd.eq (.int .i64 (((i : Nat) : Int))), Pd.eq (.pointer (some ⟨p1, i, none⟩)), Pd.eq (.int .i64 ((clB 524288 b) (i))), Pd.eq (.bool false), Pd.eq (.bool false), Pd.eq (.bool false)] (by kernel_rfl) (by kernel_rfl) ?_ ?_
            · refine stepsF_cons ?_ ?_
              · refine StepF.one rfl fun F_ w_ hR hout hD => ?_
                exact (y_mov rfl ((hout 16 (by decide)).trans s216) ⟨rfl, Kept.refl _ _⟩)
              refine stepsF_cons ?_ ?_
              · refine StepF.one rfl fun F_ w_ hR hout hD => ?_
                have g83 : F_ 83 = .int .i64 (((i : Nat) : Int)) := hD.get 0 rfl rfl rfl
                exact (y_atR (i) (s := 1) rfl ((hout 12 (by decide)).trans s215) g83 (by omega) Tryd.underlying27 (by omega) (by kernel_rfl) (by omega) ⟨rfl, Kept.refl _ _⟩)
              refine stepsF_cons ?_ ?_
              · refine StepF.one rfl fun F_ w_ hR hout hD => ?_
                have g84 : F_ 84 = .pointer (some ⟨p111, i, none⟩) := hD.get 0 rfl rfl rfl
                exact (y_ldR rfl g84 Tryd.underlying3 (((B207.all hR id)).cell (by omega)) ⟨rfl, Kept.refl _ _⟩)
              refine stepsF_cons ?_ ?_
              · refine StepF.one rfl fun F_ w_ hR hout hD => ?_
                exact (y_mov rfl ((hout 16 (by decide)).trans s216) ⟨rfl, Kept.refl _ _⟩)
              refine stepsF_cons ?_ ?_
              · refine StepF.one rfl fun F_ w_ hR hout hD => ?_
                have g86 : F_ 86 = .int .i64 (((i : Nat) : Int)) := hD.get 0 rfl rfl rfl
                exact (y_atR (i) (s := 1) rfl ((hout 2 (by decide)).trans s211) g86 (by omega) Tryd.underlying22 (by omega) (by kernel_rfl) (by omega) ⟨rfl, Kept.refl _ _⟩)
              refine stepsF_cons ?_ ?_
              · refine StepF.one rfl fun F_ w_ hR hout hD => ?_
                have g87 : F_ 87 = .pointer (some ⟨p1, i, none⟩) := hD.get 0 rfl rfl rfl
                exact (y_ldR rfl g87 Tryd.underlying3 (((B205.all hR id)).cell (by omega)) ⟨rfl, Kept.refl _ _⟩)
              refine stepsF_cons ?_ ?_
              · refine StepF.one rfl fun F_ w_ hR hout hD => ?_
                have g85 : F_ 85 = .int .i64 ((upB (downB (clB 524288 b) (((k : Nat) : Int))) (((k : Nat) : Int))) (i)) := hD.get 0 rfl rfl rfl
                have g88 : F_ 88 = .int .i64 ((clB 524288 b) (i)) := hD.get 1 rfl rfl rfl
                exact (y_sub rfl g85 g88 (i64_i rfl (by omega)) ⟨rfl, Kept.refl _ _⟩)
              refine stepsF_cons ?_ ?_
              · refine StepF.one rfl fun F_ w_ hR hout hD => ?_
                exact (y_mov rfl ((hout 8 (by decide)).trans s213) ⟨rfl, Kept.refl _ _⟩)
              refine stepsF_cons ?_ ?_
              · refine StepF.one rfl fun F_ w_ hR hout hD => ?_
                have g89 : F_ 89 = .int .i64 (((upB (downB (clB 524288 b) (((k : Nat) : Int))) (((k : Nat) : Int))) (i)) - ((clB 524288 b) (i))) := hD.get 0 rfl rfl rfl
                have g90 : F_ 90 = .int .i64 (stp (((k : Nat) : Int)) / 2) := hD.get 1 rfl rfl rfl
                exact (y_gtr rfl g89 g90 (decide_eq_false (by omega)) ⟨rfl, Kept.refl _ _⟩)
              refine stepsF_cons ?_ ?_
              · refine StepF.one rfl fun F_ w_ hR hout hD => ?_
                have g91 : F_ 91 = .bool false := hD.get 0 rfl rfl rfl
                exact (y_mov rfl g91 ⟨rfl, Kept.refl _ _⟩)
              refine stepsF_cons ?_ ?_
              · refine StepF.when 9 false 92 rfl rfl fun F_ w_ hR hout hD => ?_
                have g92 : F_ 92 = .bool false := hD.get 0 rfl rfl rfl
                exact ⟨g92, (y_mov rfl ((hout 16 (by decide)).trans s216) ⟨rfl, Kept.refl _ _⟩)⟩
              refine stepsF_cons ?_ ?_
              · refine StepF.when 9 false 92 rfl rfl fun F_ w_ hR hout hD => ?_
                have g92 : F_ 92 = .bool false := hD.get 1 rfl rfl rfl
                have g93 : F_ 93 = .int .i64 (((i : Nat) : Int)) := hD.get 0 rfl rfl rfl
                exact ⟨g92, (y_atR (i) (s := 1) rfl ((hout 2 (by decide)).trans s211) g93 (by omega) Tryd.underlying22 (by omega) (by kernel_rfl) (by omega) ⟨rfl, Kept.refl _ _⟩)⟩
              refine stepsF_cons ?_ ?_
              · refine StepF.when 9 false 92 rfl rfl fun F_ w_ hR hout hD => ?_
                have g92 : F_ 92 = .bool false := hD.get 1 rfl rfl rfl
                have g94 : F_ 94 = .pointer (some ⟨p1, i, none⟩) := hD.get 0 rfl rfl rfl
                exact ⟨g92, (y_ldR rfl g94 Tryd.underlying3 (((B205.all hR id)).cell (by omega)) ⟨rfl, Kept.refl _ _⟩)⟩
              refine stepsF_cons ?_ ?_
              · refine StepF.when 9 false 92 rfl rfl fun F_ w_ hR hout hD => ?_
                have g92 : F_ 92 = .bool false := hD.get 0 rfl rfl rfl
                exact ⟨g92, (y_mov rfl ((hout 16 (by decide)).trans s216) ⟨rfl, Kept.refl _ _⟩)⟩
              refine stepsF_cons ?_ ?_
              · refine StepF.when 9 false 92 rfl rfl fun F_ w_ hR hout hD => ?_
                have g92 : F_ 92 = .bool false := hD.get 1 rfl rfl rfl
                have g96 : F_ 96 = .int .i64 (((i : Nat) : Int)) := hD.get 0 rfl rfl rfl
                exact ⟨g92, (y_atR (i) (s := 1) rfl ((hout 12 (by decide)).trans s215) g96 (by omega) Tryd.underlying27 (by omega) (by kernel_rfl) (by omega) ⟨rfl, Kept.refl _ _⟩)⟩
              refine stepsF_cons ?_ ?_
              · refine StepF.when 9 false 92 rfl rfl fun F_ w_ hR hout hD => ?_
                have g92 : F_ 92 = .bool false := hD.get 1 rfl rfl rfl
                have g97 : F_ 97 = .pointer (some ⟨p111, i, none⟩) := hD.get 0 rfl rfl rfl
                exact ⟨g92, (y_ldR rfl g97 Tryd.underlying3 (((B207.all hR id)).cell (by omega)) ⟨rfl, Kept.refl _ _⟩)⟩
              refine stepsF_cons ?_ ?_
              · refine StepF.when 9 false 92 rfl rfl fun F_ w_ hR hout hD => ?_
                have g92 : F_ 92 = .bool false := hD.get 2 rfl rfl rfl
                have g95 : F_ 95 = .int .i64 ((clB 524288 b) (i)) := hD.get 0 rfl rfl rfl
                have g98 : F_ 98 = .int .i64 ((upB (downB (clB 524288 b) (((k : Nat) : Int))) (((k : Nat) : Int))) (i)) := hD.get 1 rfl rfl rfl
                exact ⟨g92, (y_sub rfl g95 g98 (i64_i rfl (by omega)) ⟨rfl, Kept.refl _ _⟩)⟩
              refine stepsF_cons ?_ ?_
              · refine StepF.when 9 false 92 rfl rfl fun F_ w_ hR hout hD => ?_
                have g92 : F_ 92 = .bool false := hD.get 0 rfl rfl rfl
                exact ⟨g92, (y_mov rfl ((hout 8 (by decide)).trans s213) ⟨rfl, Kept.refl _ _⟩)⟩
              refine stepsF_cons ?_ ?_
              · refine StepF.when 9 false 92 rfl rfl fun F_ w_ hR hout hD => ?_
                have g92 : F_ 92 = .bool false := hD.get 2 rfl rfl rfl
                have g99 : F_ 99 = .int .i64 (((clB 524288 b) (i)) - ((upB (downB (clB 524288 b) (((k : Nat) : Int))) (((k : Nat) : Int))) (i))) := hD.get 0 rfl rfl rfl
                have g100 : F_ 100 = .int .i64 (stp (((k : Nat) : Int)) / 2) := hD.get 1 rfl rfl rfl
                exact ⟨g92, (y_gtr rfl g99 g100 (decide_eq_false (by omega)) ⟨rfl, Kept.refl _ _⟩)⟩
              refine stepsF_cons ?_ ?_
              · refine StepF.one rfl fun F_ w_ hR hout hD => ?_
                have g92 : F_ 92 = .bool false := hD.get 0 rfl rfl rfl
                have g101 : F_ 101 = .bool false := hD.get 1 rfl rfl rfl
                exact (y_pickF rfl g92 g101 ⟨rfl, Kept.refl _ _⟩)
              refine stepsF_cons ?_ ?_
              · refine StepF.one rfl fun F_ w_ hR hout hD => ?_
                have g102 : F_ 102 = .bool false := hD.get 0 rfl rfl rfl
                exact (y_mov rfl g102 ⟨rfl, Kept.refl _ _⟩)
              refine stepsF_cons ?_ ?_
              · refine StepF.when 20 false 103 rfl rfl fun F_ w_ hR hout hD => ?_
                have g103 : F_ 103 = .bool false := hD.get 0 rfl rfl rfl
                exact ⟨g103, (y_mov rfl ((hout 16 (by decide)).trans s216) ⟨rfl, Kept.refl _ _⟩)⟩
              refine stepsF_cons ?_ ?_
              · refine StepF.when 20 false 103 rfl rfl fun F_ w_ hR hout hD => ?_
                have g103 : F_ 103 = .bool false := hD.get 1 rfl rfl rfl
                have g104 : F_ 104 = .int .i64 (((i : Nat) : Int)) := hD.get 0 rfl rfl rfl
                exact ⟨g103, (y_atR (i) (s := 1) rfl ((hout 10 (by decide)).trans s214) g104 (by omega) Tryd.underlying27 (by omega) (by kernel_rfl) (by omega) ⟨rfl, Kept.refl _ _⟩)⟩
              refine stepsF_cons ?_ ?_
              · refine StepF.when 20 false 103 rfl rfl fun F_ w_ hR hout hD => ?_
                have g103 : F_ 103 = .bool false := hD.get 1 rfl rfl rfl
                have g105 : F_ 105 = .pointer (some ⟨p83, i, none⟩) := hD.get 0 rfl rfl rfl
                exact ⟨g103, (y_ldR rfl g105 Tryd.underlying3 (((B206.all hR id)).cell (by omega)) ⟨rfl, Kept.refl _ _⟩)⟩
              refine stepsF_cons ?_ ?_
              · refine StepF.when 20 false 103 rfl rfl fun F_ w_ hR hout hD => ?_
                have g103 : F_ 103 = .bool false := hD.get 1 rfl rfl rfl
                have g106 : F_ 106 = .int .i64 ((downB (clB 524288 b) (((k : Nat) : Int))) (i)) := hD.get 0 rfl rfl rfl
                exact ⟨g103, (y_gtr rfl g106 rfl (decide_eq_true d219) ⟨rfl, Kept.refl _ _⟩)⟩
              refine stepsF_cons ?_ ?_
              · refine StepF.when 20 false 103 rfl rfl fun F_ w_ hR hout hD => ?_
                have g103 : F_ 103 = .bool false := hD.get 1 rfl rfl rfl
                have g107 : F_ 107 = .bool true := hD.get 0 rfl rfl rfl
                exact ⟨g103, (y_mov rfl g107 ⟨rfl, Kept.refl _ _⟩)⟩
              refine stepsF_cons ?_ ?_
              · refine StepF.when 25 true 108 rfl rfl fun F_ w_ hR hout hD => ?_
                have g108 : F_ 108 = .bool true := hD.get 0 rfl rfl rfl
                exact ⟨g108, (y_mov rfl ((hout 16 (by decide)).trans s216) ⟨rfl, Kept.refl _ _⟩)⟩
              refine stepsF_cons ?_ ?_
              · refine StepF.when 25 true 108 rfl rfl fun F_ w_ hR hout hD => ?_
                have g108 : F_ 108 = .bool true := hD.get 1 rfl rfl rfl
                have g109 : F_ 109 = .int .i64 (((i : Nat) : Int)) := hD.get 0 rfl rfl rfl
                exact ⟨g108, (y_atR (i) (s := 1) rfl ((hout 2 (by decide)).trans s211) g109 (by omega) Tryd.underlying22 (by omega) (by kernel_rfl) (by omega) ⟨rfl, Kept.refl _ _⟩)⟩
              refine stepsF_cons ?_ ?_
              · refine StepF.when 25 true 108 rfl rfl fun F_ w_ hR hout hD => ?_
                have g108 : F_ 108 = .bool true := hD.get 1 rfl rfl rfl
                have g110 : F_ 110 = .pointer (some ⟨p1, i, none⟩) := hD.get 0 rfl rfl rfl
                exact ⟨g108, (y_ldR rfl g110 Tryd.underlying3 (((B205.all hR id)).cell (by omega)) ⟨rfl, Kept.refl _ _⟩)⟩
              refine stepsF_cons ?_ ?_
              · refine StepF.when 25 true 108 rfl rfl fun F_ w_ hR hout hD => ?_
                have g108 : F_ 108 = .bool true := hD.get 1 rfl rfl rfl
                have g111 : F_ 111 = .int .i64 ((clB 524288 b) (i)) := hD.get 0 rfl rfl rfl
                exact ⟨g108, (y_lss rfl g111 rfl (decide_eq_false (by omega)) ⟨rfl, Kept.refl _ _⟩)⟩
              refine stepsF_cons ?_ ?_
              · refine StepF.when 20 false 103 rfl rfl fun F_ w_ hR hout hD => ?_
                have g103 : F_ 103 = .bool false := hD.get 2 rfl rfl rfl
                have g108 : F_ 108 = .bool true := hD.get 0 rfl rfl rfl
                have g112 : F_ 112 = .bool false := hD.get 1 rfl rfl rfl
                exact ⟨g103, (y_pickT rfl g108 g112 ⟨rfl, Kept.refl _ _⟩)⟩
              refine stepsF_cons ?_ ?_
              · refine StepF.one rfl fun F_ w_ hR hout hD => ?_
                have g103 : F_ 103 = .bool false := hD.get 0 rfl rfl rfl
                have g113 : F_ 113 = .bool false := hD.get 1 rfl rfl rfl
                exact (y_pickF rfl g103 g113 ⟨rfl, Kept.refl _ _⟩)
              refine stepsF_cons ?_ ?_
              · refine StepF.one rfl fun F_ w_ hR hout hD => ?_
                have g114 : F_ 114 = .bool false := hD.get 0 rfl rfl rfl
                exact (y_mov rfl g114 ⟨rfl, Kept.refl _ _⟩)
              refine stepsF_cons ?_ ?_
              · refine StepF.when 32 false 115 rfl rfl fun F_ w_ hR hout hD => ?_
                have g115 : F_ 115 = .bool false := hD.get 0 rfl rfl rfl
                exact ⟨g115, (y_mov rfl ((hout 16 (by decide)).trans s216) ⟨rfl, Kept.refl _ _⟩)⟩
              refine stepsF_cons ?_ ?_
              · refine StepF.when 32 false 115 rfl rfl fun F_ w_ hR hout hD => ?_
                have g115 : F_ 115 = .bool false := hD.get 1 rfl rfl rfl
                have g116 : F_ 116 = .int .i64 (((i : Nat) : Int)) := hD.get 0 rfl rfl rfl
                exact ⟨g115, (y_atR (i) (s := 1) rfl ((hout 10 (by decide)).trans s214) g116 (by omega) Tryd.underlying27 (by omega) (by kernel_rfl) (by omega) ⟨rfl, Kept.refl _ _⟩)⟩
              refine stepsF_cons ?_ ?_
              · refine StepF.when 32 false 115 rfl rfl fun F_ w_ hR hout hD => ?_
                have g115 : F_ 115 = .bool false := hD.get 1 rfl rfl rfl
                have g117 : F_ 117 = .pointer (some ⟨p83, i, none⟩) := hD.get 0 rfl rfl rfl
                exact ⟨g115, (y_ldR rfl g117 Tryd.underlying3 (((B206.all hR id)).cell (by omega)) ⟨rfl, Kept.refl _ _⟩)⟩
              refine stepsF_cons ?_ ?_
              · refine StepF.when 32 false 115 rfl rfl fun F_ w_ hR hout hD => ?_
                have g115 : F_ 115 = .bool false := hD.get 1 rfl rfl rfl
                have g118 : F_ 118 = .int .i64 ((downB (clB 524288 b) (((k : Nat) : Int))) (i)) := hD.get 0 rfl rfl rfl
                exact ⟨g115, (y_lss rfl g118 rfl (decide_eq_true d220) ⟨rfl, Kept.refl _ _⟩)⟩
              refine stepsF_cons ?_ ?_
              · refine StepF.when 32 false 115 rfl rfl fun F_ w_ hR hout hD => ?_
                have g115 : F_ 115 = .bool false := hD.get 1 rfl rfl rfl
                have g119 : F_ 119 = .bool true := hD.get 0 rfl rfl rfl
                exact ⟨g115, (y_mov rfl g119 ⟨rfl, Kept.refl _ _⟩)⟩
              refine stepsF_cons ?_ ?_
              · refine StepF.when 37 true 120 rfl rfl fun F_ w_ hR hout hD => ?_
                have g120 : F_ 120 = .bool true := hD.get 0 rfl rfl rfl
                exact ⟨g120, (y_mov rfl ((hout 16 (by decide)).trans s216) ⟨rfl, Kept.refl _ _⟩)⟩
              refine stepsF_cons ?_ ?_
              · refine StepF.when 37 true 120 rfl rfl fun F_ w_ hR hout hD => ?_
                have g120 : F_ 120 = .bool true := hD.get 1 rfl rfl rfl
                have g121 : F_ 121 = .int .i64 (((i : Nat) : Int)) := hD.get 0 rfl rfl rfl
                exact ⟨g120, (y_atR (i) (s := 1) rfl ((hout 2 (by decide)).trans s211) g121 (by omega) Tryd.underlying22 (by omega) (by kernel_rfl) (by omega) ⟨rfl, Kept.refl _ _⟩)⟩
              refine stepsF_cons ?_ ?_
              · refine StepF.when 37 true 120 rfl rfl fun F_ w_ hR hout hD => ?_
                have g120 : F_ 120 = .bool true := hD.get 1 rfl rfl rfl
                have g122 : F_ 122 = .pointer (some ⟨p1, i, none⟩) := hD.get 0 rfl rfl rfl
                exact ⟨g120, (y_ldR rfl g122 Tryd.underlying3 (((B205.all hR id)).cell (by omega)) ⟨rfl, Kept.refl _ _⟩)⟩
              refine stepsF_cons ?_ ?_
              · refine StepF.when 37 true 120 rfl rfl fun F_ w_ hR hout hD => ?_
                have g120 : F_ 120 = .bool true := hD.get 1 rfl rfl rfl
                have g123 : F_ 123 = .int .i64 ((clB 524288 b) (i)) := hD.get 0 rfl rfl rfl
                exact ⟨g120, (y_gtr rfl g123 rfl (decide_eq_false (by omega)) ⟨rfl, Kept.refl _ _⟩)⟩
              refine stepsF_cons ?_ ?_
              · refine StepF.when 32 false 115 rfl rfl fun F_ w_ hR hout hD => ?_
                have g115 : F_ 115 = .bool false := hD.get 2 rfl rfl rfl
                have g120 : F_ 120 = .bool true := hD.get 0 rfl rfl rfl
                have g124 : F_ 124 = .bool false := hD.get 1 rfl rfl rfl
                exact ⟨g115, (y_pickT rfl g120 g124 ⟨rfl, Kept.refl _ _⟩)⟩
              refine stepsF_cons ?_ ?_
              · refine StepF.one rfl fun F_ w_ hR hout hD => ?_
                have g115 : F_ 115 = .bool false := hD.get 0 rfl rfl rfl
                have g125 : F_ 125 = .bool false := hD.get 1 rfl rfl rfl
                exact (y_pickF rfl g115 g125 ⟨rfl, Kept.refl _ _⟩)
              exact stepsF_nil
            intro v221 F222 w223 k224 G225 hF226
            have B227 := B205.all k224 id
            have B228 := B206.all k224 id
            have B229 := B207.all k224 id
            have B230 := B208.all k224 id
            have K231 := K196.trans k224 (fun _ _ x => x)
            have s232 : F222 2 = .pointer (some ⟨p1, 0, none⟩) := (hF226 2).trans s211
            have s233 : F222 5 = .bool true := (hF226 5).trans s212
            have s234 : F222 8 = .int .i64 (stp (((k : Nat) : Int)) / 2) := (hF226 8).trans s213
            have s235 : F222 10 = .pointer (some ⟨p83, 0, none⟩) := (hF226 10).trans s214
            have s236 : F222 12 = .pointer (some ⟨p111, 0, none⟩) := (hF226 12).trans s215
            have s237 : F222 16 = .int .i64 (((i : Nat) : Int)) := (hF226 16).trans s216
            have s238 : F222 126 = .bool false := (hF226 126).trans (G225 43 (by decide))
            clear G225 hF226
            refine then_normal ?_
            refine wq_cond (t := false) s238 (fun e => by cases e) (fun _ => ?_)
            refine wq_skip ?_
            refine in_normal ?_
            refine then_normal ?_
            refine wq_region ?_
            refine wl_v (.int .i64 (((i : Nat) : Int))) rfl rfl (y_mov rfl s237 ⟨rfl, rfl⟩) ?_
            refine wl_v (.int .i64 (((i + 1 : Nat) : Int))) rfl rfl (y_add rfl rfl rfl (i64_n (by omega) (by omega)) ⟨rfl, rfl⟩) ?_
            refine wl_v (.int .i64 (((i + 1 : Nat) : Int))) rfl rfl (y_asg rfl rfl ⟨rfl, rfl⟩) ?_
            refine wl_nil fun F239 hF240 => ?_
            have s241 : F239 2 = .pointer (some ⟨p1, 0, none⟩) := (hF240 2).trans s232
            have s242 : F239 5 = .bool true := (hF240 5).trans s233
            have s243 : F239 8 = .int .i64 (stp (((k : Nat) : Int)) / 2) := (hF240 8).trans s234
            have s244 : F239 10 = .pointer (some ⟨p83, 0, none⟩) := (hF240 10).trans s235
            have s245 : F239 12 = .pointer (some ⟨p111, 0, none⟩) := (hF240 12).trans s236
            have s246 : F239 16 = .int .i64 (((i + 1 : Nat) : Int)) := (hF240 16).trans rfl
            clear hF240
            exact then_normal ⟨(16 - (i + 1)), by omega, i + 1, by omega, rfl, s241, s242, s243, s244, s245, s246, K231, B227, B228, B229, B230⟩
          · skip
            refine wq_said [some 83, some 84, some 85, some 86, some 87, some 88, some 89, some 90, some 91, some 92, some 93, some 94, some 95, some 96, some 97, some 98, some 99, some 100, some 101, some 102, some 103, some 104, some 105, some 106, some 107, some 108, some 109, some 110, some 111, some 112, some 113, some 114, some 115, some 116, some 117, some 118, some 119, some 120, some 121, some 122, some 123, some 124, some 125, some 126] [Pd.eq (.int .i64 (((i : Nat) : Int))), Pd.eq (.pointer (some ⟨p111, i, none⟩)), Pd.eq (.int .i64 ((upB (downB (clB 524288 b) (((k : Nat) : Int))) (((k : Nat) : Int))) (i))), Pd.eq (.int .i64 (((i : Nat) : Int))), Pd.eq (.pointer (some ⟨p1, i, none⟩)), Pd.eq (.int .i64 ((clB 524288 b) (i))), Pd.eq (.int .i64 (((upB (downB (clB 524288 b) (((k : Nat) : Int))) (((k : Nat) : Int))) (i)) - ((clB 524288 b) (i)))), Pd.eq (.int .i64 (stp (((k : Nat) : Int)) / 2)), Pd.eq (.bool false), Pd.eq (.bool false), Pd.eq (.int .i64 (((i : Nat) : Int))), Pd.eq (.pointer (some ⟨p1, i, none⟩)), Pd.eq (.int .i64 ((clB 524288 b) (i))), Pd.eq (.int .i64 (((i : Nat) : Int))), Pd.eq (.pointer (some ⟨p111, i, none⟩)), Pd.eq (.int .i64 ((upB (downB (clB 524288 b) (((k : Nat) : Int))) (((k : Nat) : Int))) (i))), Pd.eq (.int .i64 (((clB 524288 b) (i)) - ((upB (downB (clB 524288 b) (((k : Nat) : Int))) (((k : Nat) : Int))) (i)))), Pd.eq (.int .i64 (stp (((k : Nat) : Int)) / 2)), Pd.eq (.bool false), Pd.eq (.bool false), Pd.eq (.bool false), Pd.eq (.int .i64 (((i : Nat) : Int))), Pd.eq (.pointer (some ⟨p83, i, none⟩)), Pd.eq (.int .i64 ((downB (clB 524288 b) (((k : Nat) : Int))) (i))), Pd.eq (.bool true), Pd.eq (.bool true), Pd.eq (.int .i64 (((i : Nat) : Int))), Pd.eq (.pointer (some ⟨p1, i, none⟩)), Pd.eq (.int .i64 ((clB 524288 b) (i))), Pd.eq (.bool false), Pd.eq (.bool false), Pd.eq (.bool false), Pd.eq (.bool false), Pd.eq (.int .i64 (((i : Nat) : Int))), Pd.eq (.pointer (some ⟨p83, i, none⟩)), Pd.eq (.int .i64 ((downB (clB 524288 b) (((k : Nat) : Int))) (i))), Pd.eq (.bool false), Pd.eq (.bool false), Pd.eq undef, Pd.eq undef, Pd.eq undef, Pd.eq undef, Pd.eq (.bool false), Pd.eq (.bool false)] (by kernel_rfl) (by kernel_rfl) ?_ ?_
            · refine stepsF_cons ?_ ?_
              · refine StepF.one rfl fun F_ w_ hR hout hD => ?_
                exact (y_mov rfl ((hout 16 (by decide)).trans s216) ⟨rfl, Kept.refl _ _⟩)
              refine stepsF_cons ?_ ?_
              · refine StepF.one rfl fun F_ w_ hR hout hD => ?_
                have g83 : F_ 83 = .int .i64 (((i : Nat) : Int)) := hD.get 0 rfl rfl rfl
                exact (y_atR (i) (s := 1) rfl ((hout 12 (by decide)).trans s215) g83 (by omega) Tryd.underlying27 (by omega) (by kernel_rfl) (by omega) ⟨rfl, Kept.refl _ _⟩)
              refine stepsF_cons ?_ ?_
              · refine StepF.one rfl fun F_ w_ hR hout hD => ?_
                have g84 : F_ 84 = .pointer (some ⟨p111, i, none⟩) := hD.get 0 rfl rfl rfl
                exact (y_ldR rfl g84 Tryd.underlying3 (((B207.all hR id)).cell (by omega)) ⟨rfl, Kept.refl _ _⟩)
              refine stepsF_cons ?_ ?_
              · refine StepF.one rfl fun F_ w_ hR hout hD => ?_
                exact (y_mov rfl ((hout 16 (by decide)).trans s216) ⟨rfl, Kept.refl _ _⟩)
              refine stepsF_cons ?_ ?_
              · refine StepF.one rfl fun F_ w_ hR hout hD => ?_
                have g86 : F_ 86 = .int .i64 (((i : Nat) : Int)) := hD.get 0 rfl rfl rfl
                exact (y_atR (i) (s := 1) rfl ((hout 2 (by decide)).trans s211) g86 (by omega) Tryd.underlying22 (by omega) (by kernel_rfl) (by omega) ⟨rfl, Kept.refl _ _⟩)
              refine stepsF_cons ?_ ?_
              · refine StepF.one rfl fun F_ w_ hR hout hD => ?_
                have g87 : F_ 87 = .pointer (some ⟨p1, i, none⟩) := hD.get 0 rfl rfl rfl
                exact (y_ldR rfl g87 Tryd.underlying3 (((B205.all hR id)).cell (by omega)) ⟨rfl, Kept.refl _ _⟩)
              refine stepsF_cons ?_ ?_
              · refine StepF.one rfl fun F_ w_ hR hout hD => ?_
                have g85 : F_ 85 = .int .i64 ((upB (downB (clB 524288 b) (((k : Nat) : Int))) (((k : Nat) : Int))) (i)) := hD.get 0 rfl rfl rfl
                have g88 : F_ 88 = .int .i64 ((clB 524288 b) (i)) := hD.get 1 rfl rfl rfl
                exact (y_sub rfl g85 g88 (i64_i rfl (by omega)) ⟨rfl, Kept.refl _ _⟩)
              refine stepsF_cons ?_ ?_
              · refine StepF.one rfl fun F_ w_ hR hout hD => ?_
                exact (y_mov rfl ((hout 8 (by decide)).trans s213) ⟨rfl, Kept.refl _ _⟩)
              refine stepsF_cons ?_ ?_
              · refine StepF.one rfl fun F_ w_ hR hout hD => ?_
                have g89 : F_ 89 = .int .i64 (((upB (downB (clB 524288 b) (((k : Nat) : Int))) (((k : Nat) : Int))) (i)) - ((clB 524288 b) (i))) := hD.get 0 rfl rfl rfl
                have g90 : F_ 90 = .int .i64 (stp (((k : Nat) : Int)) / 2) := hD.get 1 rfl rfl rfl
                exact (y_gtr rfl g89 g90 (decide_eq_false (by omega)) ⟨rfl, Kept.refl _ _⟩)
              refine stepsF_cons ?_ ?_
              · refine StepF.one rfl fun F_ w_ hR hout hD => ?_
                have g91 : F_ 91 = .bool false := hD.get 0 rfl rfl rfl
                exact (y_mov rfl g91 ⟨rfl, Kept.refl _ _⟩)
              refine stepsF_cons ?_ ?_
              · refine StepF.when 9 false 92 rfl rfl fun F_ w_ hR hout hD => ?_
                have g92 : F_ 92 = .bool false := hD.get 0 rfl rfl rfl
                exact ⟨g92, (y_mov rfl ((hout 16 (by decide)).trans s216) ⟨rfl, Kept.refl _ _⟩)⟩
              refine stepsF_cons ?_ ?_
              · refine StepF.when 9 false 92 rfl rfl fun F_ w_ hR hout hD => ?_
                have g92 : F_ 92 = .bool false := hD.get 1 rfl rfl rfl
                have g93 : F_ 93 = .int .i64 (((i : Nat) : Int)) := hD.get 0 rfl rfl rfl
                exact ⟨g92, (y_atR (i) (s := 1) rfl ((hout 2 (by decide)).trans s211) g93 (by omega) Tryd.underlying22 (by omega) (by kernel_rfl) (by omega) ⟨rfl, Kept.refl _ _⟩)⟩
              refine stepsF_cons ?_ ?_
              · refine StepF.when 9 false 92 rfl rfl fun F_ w_ hR hout hD => ?_
                have g92 : F_ 92 = .bool false := hD.get 1 rfl rfl rfl
                have g94 : F_ 94 = .pointer (some ⟨p1, i, none⟩) := hD.get 0 rfl rfl rfl
                exact ⟨g92, (y_ldR rfl g94 Tryd.underlying3 (((B205.all hR id)).cell (by omega)) ⟨rfl, Kept.refl _ _⟩)⟩
              refine stepsF_cons ?_ ?_
              · refine StepF.when 9 false 92 rfl rfl fun F_ w_ hR hout hD => ?_
                have g92 : F_ 92 = .bool false := hD.get 0 rfl rfl rfl
                exact ⟨g92, (y_mov rfl ((hout 16 (by decide)).trans s216) ⟨rfl, Kept.refl _ _⟩)⟩
              refine stepsF_cons ?_ ?_
              · refine StepF.when 9 false 92 rfl rfl fun F_ w_ hR hout hD => ?_
                have g92 : F_ 92 = .bool false := hD.get 1 rfl rfl rfl
                have g96 : F_ 96 = .int .i64 (((i : Nat) : Int)) := hD.get 0 rfl rfl rfl
                exact ⟨g92, (y_atR (i) (s := 1) rfl ((hout 12 (by decide)).trans s215) g96 (by omega) Tryd.underlying27 (by omega) (by kernel_rfl) (by omega) ⟨rfl, Kept.refl _ _⟩)⟩
              refine stepsF_cons ?_ ?_
              · refine StepF.when 9 false 92 rfl rfl fun F_ w_ hR hout hD => ?_
                have g92 : F_ 92 = .bool false := hD.get 1 rfl rfl rfl
                have g97 : F_ 97 = .pointer (some ⟨p111, i, none⟩) := hD.get 0 rfl rfl rfl
                exact ⟨g92, (y_ldR rfl g97 Tryd.underlying3 (((B207.all hR id)).cell (by omega)) ⟨rfl, Kept.refl _ _⟩)⟩
              refine stepsF_cons ?_ ?_
              · refine StepF.when 9 false 92 rfl rfl fun F_ w_ hR hout hD => ?_
                have g92 : F_ 92 = .bool false := hD.get 2 rfl rfl rfl
                have g95 : F_ 95 = .int .i64 ((clB 524288 b) (i)) := hD.get 0 rfl rfl rfl
                have g98 : F_ 98 = .int .i64 ((upB (downB (clB 524288 b) (((k : Nat) : Int))) (((k : Nat) : Int))) (i)) := hD.get 1 rfl rfl rfl
                exact ⟨g92, (y_sub rfl g95 g98 (i64_i rfl (by omega)) ⟨rfl, Kept.refl _ _⟩)⟩
              refine stepsF_cons ?_ ?_
              · refine StepF.when 9 false 92 rfl rfl fun F_ w_ hR hout hD => ?_
                have g92 : F_ 92 = .bool false := hD.get 0 rfl rfl rfl
                exact ⟨g92, (y_mov rfl ((hout 8 (by decide)).trans s213) ⟨rfl, Kept.refl _ _⟩)⟩
              refine stepsF_cons ?_ ?_
              · refine StepF.when 9 false 92 rfl rfl fun F_ w_ hR hout hD => ?_
                have g92 : F_ 92 = .bool false := hD.get 2 rfl rfl rfl
                have g99 : F_ 99 = .int .i64 (((clB 524288 b) (i)) - ((upB (downB (clB 524288 b) (((k : Nat) : Int))) (((k : Nat) : Int))) (i))) := hD.get 0 rfl rfl rfl
                have g100 : F_ 100 = .int .i64 (stp (((k : Nat) : Int)) / 2) := hD.get 1 rfl rfl rfl
                exact ⟨g92, (y_gtr rfl g99 g100 (decide_eq_false (by omega)) ⟨rfl, Kept.refl _ _⟩)⟩
              refine stepsF_cons ?_ ?_
              · refine StepF.one rfl fun F_ w_ hR hout hD => ?_
                have g92 : F_ 92 = .bool false := hD.get 0 rfl rfl rfl
                have g101 : F_ 101 = .bool false := hD.get 1 rfl rfl rfl
                exact (y_pickF rfl g92 g101 ⟨rfl, Kept.refl _ _⟩)
              refine stepsF_cons ?_ ?_
              · refine StepF.one rfl fun F_ w_ hR hout hD => ?_
                have g102 : F_ 102 = .bool false := hD.get 0 rfl rfl rfl
                exact (y_mov rfl g102 ⟨rfl, Kept.refl _ _⟩)
              refine stepsF_cons ?_ ?_
              · refine StepF.when 20 false 103 rfl rfl fun F_ w_ hR hout hD => ?_
                have g103 : F_ 103 = .bool false := hD.get 0 rfl rfl rfl
                exact ⟨g103, (y_mov rfl ((hout 16 (by decide)).trans s216) ⟨rfl, Kept.refl _ _⟩)⟩
              refine stepsF_cons ?_ ?_
              · refine StepF.when 20 false 103 rfl rfl fun F_ w_ hR hout hD => ?_
                have g103 : F_ 103 = .bool false := hD.get 1 rfl rfl rfl
                have g104 : F_ 104 = .int .i64 (((i : Nat) : Int)) := hD.get 0 rfl rfl rfl
                exact ⟨g103, (y_atR (i) (s := 1) rfl ((hout 10 (by decide)).trans s214) g104 (by omega) Tryd.underlying27 (by omega) (by kernel_rfl) (by omega) ⟨rfl, Kept.refl _ _⟩)⟩
              refine stepsF_cons ?_ ?_
              · refine StepF.when 20 false 103 rfl rfl fun F_ w_ hR hout hD => ?_
                have g103 : F_ 103 = .bool false := hD.get 1 rfl rfl rfl
                have g105 : F_ 105 = .pointer (some ⟨p83, i, none⟩) := hD.get 0 rfl rfl rfl
                exact ⟨g103, (y_ldR rfl g105 Tryd.underlying3 (((B206.all hR id)).cell (by omega)) ⟨rfl, Kept.refl _ _⟩)⟩
              refine stepsF_cons ?_ ?_
              · refine StepF.when 20 false 103 rfl rfl fun F_ w_ hR hout hD => ?_
                have g103 : F_ 103 = .bool false := hD.get 1 rfl rfl rfl
                have g106 : F_ 106 = .int .i64 ((downB (clB 524288 b) (((k : Nat) : Int))) (i)) := hD.get 0 rfl rfl rfl
                exact ⟨g103, (y_gtr rfl g106 rfl (decide_eq_true d219) ⟨rfl, Kept.refl _ _⟩)⟩
              refine stepsF_cons ?_ ?_
              · refine StepF.when 20 false 103 rfl rfl fun F_ w_ hR hout hD => ?_
                have g103 : F_ 103 = .bool false := hD.get 1 rfl rfl rfl
                have g107 : F_ 107 = .bool true := hD.get 0 rfl rfl rfl
                exact ⟨g103, (y_mov rfl g107 ⟨rfl, Kept.refl _ _⟩)⟩
              refine stepsF_cons ?_ ?_
              · refine StepF.when 25 true 108 rfl rfl fun F_ w_ hR hout hD => ?_
                have g108 : F_ 108 = .bool true := hD.get 0 rfl rfl rfl
                exact ⟨g108, (y_mov rfl ((hout 16 (by decide)).trans s216) ⟨rfl, Kept.refl _ _⟩)⟩
              refine stepsF_cons ?_ ?_
              · refine StepF.when 25 true 108 rfl rfl fun F_ w_ hR hout hD => ?_
                have g108 : F_ 108 = .bool true := hD.get 1 rfl rfl rfl
                have g109 : F_ 109 = .int .i64 (((i : Nat) : Int)) := hD.get 0 rfl rfl rfl
                exact ⟨g108, (y_atR (i) (s := 1) rfl ((hout 2 (by decide)).trans s211) g109 (by omega) Tryd.underlying22 (by omega) (by kernel_rfl) (by omega) ⟨rfl, Kept.refl _ _⟩)⟩
              refine stepsF_cons ?_ ?_
              · refine StepF.when 25 true 108 rfl rfl fun F_ w_ hR hout hD => ?_
                have g108 : F_ 108 = .bool true := hD.get 1 rfl rfl rfl
                have g110 : F_ 110 = .pointer (some ⟨p1, i, none⟩) := hD.get 0 rfl rfl rfl
                exact ⟨g108, (y_ldR rfl g110 Tryd.underlying3 (((B205.all hR id)).cell (by omega)) ⟨rfl, Kept.refl _ _⟩)⟩
              refine stepsF_cons ?_ ?_
              · refine StepF.when 25 true 108 rfl rfl fun F_ w_ hR hout hD => ?_
                have g108 : F_ 108 = .bool true := hD.get 1 rfl rfl rfl
                have g111 : F_ 111 = .int .i64 ((clB 524288 b) (i)) := hD.get 0 rfl rfl rfl
                exact ⟨g108, (y_lss rfl g111 rfl (decide_eq_false (by omega)) ⟨rfl, Kept.refl _ _⟩)⟩
              refine stepsF_cons ?_ ?_
              · refine StepF.when 20 false 103 rfl rfl fun F_ w_ hR hout hD => ?_
                have g103 : F_ 103 = .bool false := hD.get 2 rfl rfl rfl
                have g108 : F_ 108 = .bool true := hD.get 0 rfl rfl rfl
                have g112 : F_ 112 = .bool false := hD.get 1 rfl rfl rfl
                exact ⟨g103, (y_pickT rfl g108 g112 ⟨rfl, Kept.refl _ _⟩)⟩
              refine stepsF_cons ?_ ?_
              · refine StepF.one rfl fun F_ w_ hR hout hD => ?_
                have g103 : F_ 103 = .bool false := hD.get 0 rfl rfl rfl
                have g113 : F_ 113 = .bool false := hD.get 1 rfl rfl rfl
                exact (y_pickF rfl g103 g113 ⟨rfl, Kept.refl _ _⟩)
              refine stepsF_cons ?_ ?_
              · refine StepF.one rfl fun F_ w_ hR hout hD => ?_
                have g114 : F_ 114 = .bool false := hD.get 0 rfl rfl rfl
                exact (y_mov rfl g114 ⟨rfl, Kept.refl _ _⟩)
              refine stepsF_cons ?_ ?_
              · refine StepF.when 32 false 115 rfl rfl fun F_ w_ hR hout hD => ?_
                have g115 : F_ 115 = .bool false := hD.get 0 rfl rfl rfl
                exact ⟨g115, (y_mov rfl ((hout 16 (by decide)).trans s216) ⟨rfl, Kept.refl _ _⟩)⟩
              refine stepsF_cons ?_ ?_
              · refine StepF.when 32 false 115 rfl rfl fun F_ w_ hR hout hD => ?_
                have g115 : F_ 115 = .bool false := hD.get 1 rfl rfl rfl
                have g116 : F_ 116 = .int .i64 (((i : Nat) : Int)) := hD.get 0 rfl rfl rfl
                exact ⟨g115, (y_atR (i) (s := 1) rfl ((hout 10 (by decide)).trans s214) g116 (by omega) Tryd.underlying27 (by omega) (by kernel_rfl) (by omega) ⟨rfl, Kept.refl _ _⟩)⟩
              refine stepsF_cons ?_ ?_
              · refine StepF.when 32 false 115 rfl rfl fun F_ w_ hR hout hD => ?_
                have g115 : F_ 115 = .bool false := hD.get 1 rfl rfl rfl
                have g117 : F_ 117 = .pointer (some ⟨p83, i, none⟩) := hD.get 0 rfl rfl rfl
                exact ⟨g115, (y_ldR rfl g117 Tryd.underlying3 (((B206.all hR id)).cell (by omega)) ⟨rfl, Kept.refl _ _⟩)⟩
              refine stepsF_cons ?_ ?_
              · refine StepF.when 32 false 115 rfl rfl fun F_ w_ hR hout hD => ?_
                have g115 : F_ 115 = .bool false := hD.get 1 rfl rfl rfl
                have g118 : F_ 118 = .int .i64 ((downB (clB 524288 b) (((k : Nat) : Int))) (i)) := hD.get 0 rfl rfl rfl
                exact ⟨g115, (y_lss rfl g118 rfl (decide_eq_false d220) ⟨rfl, Kept.refl _ _⟩)⟩
              refine stepsF_cons ?_ ?_
              · refine StepF.when 32 false 115 rfl rfl fun F_ w_ hR hout hD => ?_
                have g115 : F_ 115 = .bool false := hD.get 1 rfl rfl rfl
                have g119 : F_ 119 = .bool false := hD.get 0 rfl rfl rfl
                exact ⟨g115, (y_mov rfl g119 ⟨rfl, Kept.refl _ _⟩)⟩
              refine stepsF_cons ?_ ?_
              · refine StepF.unless 37 true 120 rfl rfl fun F_ w_ hR hout hD => ?_
                have g120 : F_ 120 = .bool false := hD.get 0 rfl rfl rfl
                exact ⟨Or.inl g120, rfl⟩
              refine stepsF_cons ?_ ?_
              · refine StepF.unless 37 true 120 rfl rfl fun F_ w_ hR hout hD => ?_
                have g120 : F_ 120 = .bool false := hD.get 1 rfl rfl rfl
                exact ⟨Or.inl g120, rfl⟩
              refine stepsF_cons ?_ ?_
              · refine StepF.unless 37 true 120 rfl rfl fun F_ w_ hR hout hD => ?_
                have g120 : F_ 120 = .bool false := hD.get 1 rfl rfl rfl
                exact ⟨Or.inl g120, rfl⟩
              refine stepsF_cons ?_ ?_
              · refine StepF.unless 37 true 120 rfl rfl fun F_ w_ hR hout hD => ?_
                have g120 : F_ 120 = .bool false := hD.get 1 rfl rfl rfl
                exact ⟨Or.inl g120, rfl⟩
              refine stepsF_cons ?_ ?_
              · refine StepF.when 32 false 115 rfl rfl fun F_ w_ hR hout hD => ?_
                have g115 : F_ 115 = .bool false := hD.get 2 rfl rfl rfl
                have g120 : F_ 120 = .bool false := hD.get 0 rfl rfl rfl
                exact ⟨g115, (y_pickF rfl g120 rfl ⟨rfl, Kept.refl _ _⟩)⟩
              refine stepsF_cons ?_ ?_
              · refine StepF.one rfl fun F_ w_ hR hout hD => ?_
                have g115 : F_ 115 = .bool false := hD.get 0 rfl rfl rfl
                have g125 : F_ 125 = .bool false := hD.get 1 rfl rfl rfl
                exact (y_pickF rfl g115 g125 ⟨rfl, Kept.refl _ _⟩)
              exact stepsF_nil
            intro v247 F248 w249 k250 G251 hF252
            have B253 := B205.all k250 id
            have B254 := B206.all k250 id
            have B255 := B207.all k250 id
            have B256 := B208.all k250 id
            have K257 := K196.trans k250 (fun _ _ x => x)
            have s258 : F248 2 = .pointer (some ⟨p1, 0, none⟩) := (hF252 2).trans s211
            have s259 : F248 5 = .bool true := (hF252 5).trans s212
            have s260 : F248 8 = .int .i64 (stp (((k : Nat) : Int)) / 2) := (hF252 8).trans s213
            have s261 : F248 10 = .pointer (some ⟨p83, 0, none⟩) := (hF252 10).trans s214
            have s262 : F248 12 = .pointer (some ⟨p111, 0, none⟩) := (hF252 12).trans s215
            have s263 : F248 16 = .int .i64 (((i : Nat) : Int)) := (hF252 16).trans s216
            have s264 : F248 126 = .bool false := (hF252 126).trans (G251 43 (by decide))
            clear G251 hF252
            refine then_normal ?_
            refine wq_cond (t := false) s264 (fun e => by cases e) (fun _ => ?_)
            refine wq_skip ?_
            refine in_normal ?_
            refine then_normal ?_
            refine wq_region ?_
            refine wl_v (.int .i64 (((i : Nat) : Int))) rfl rfl (y_mov rfl s263 ⟨rfl, rfl⟩) ?_
            refine wl_v (.int .i64 (((i + 1 : Nat) : Int))) rfl rfl (y_add rfl rfl rfl (i64_n (by omega) (by omega)) ⟨rfl, rfl⟩) ?_
            refine wl_v (.int .i64 (((i + 1 : Nat) : Int))) rfl rfl (y_asg rfl rfl ⟨rfl, rfl⟩) ?_
            refine wl_nil fun F265 hF266 => ?_
            have s267 : F265 2 = .pointer (some ⟨p1, 0, none⟩) := (hF266 2).trans s258
            have s268 : F265 5 = .bool true := (hF266 5).trans s259
            have s269 : F265 8 = .int .i64 (stp (((k : Nat) : Int)) / 2) := (hF266 8).trans s260
            have s270 : F265 10 = .pointer (some ⟨p83, 0, none⟩) := (hF266 10).trans s261
            have s271 : F265 12 = .pointer (some ⟨p111, 0, none⟩) := (hF266 12).trans s262
            have s272 : F265 16 = .int .i64 (((i + 1 : Nat) : Int)) := (hF266 16).trans rfl
            clear hF266
            exact then_normal ⟨(16 - (i + 1)), by omega, i + 1, by omega, rfl, s267, s268, s269, s270, s271, s272, K257, B253, B254, B255, B256⟩
        · skip
          by_cases d273 : ((downB (clB 524288 b) (((k : Nat) : Int))) (i)) < (0)
          · skip
            refine wq_said [some 83, some 84, some 85, some 86, some 87, some 88, some 89, some 90, some 91, some 92, some 93, some 94, some 95, some 96, some 97, some 98, some 99, some 100, some 101, some 102, some 103, some 104, some 105, some 106, some 107, some 108, some 109, some 110, some 111, some 112, some 113, some 114, some 115, some 116, some 117, some 118, some 119, some 120, some 121, some 122, some 123, some 124, some 125, some 126] [Pd.eq (.int .i64 (((i : Nat) : Int))), Pd.eq (.pointer (some ⟨p111, i, none⟩)), Pd.eq (.int .i64 ((upB (downB (clB 524288 b) (((k : Nat) : Int))) (((k : Nat) : Int))) (i))), Pd.eq (.int .i64 (((i : Nat) : Int))), Pd.eq (.pointer (some ⟨p1, i, none⟩)), Pd.eq (.int .i64 ((clB 524288 b) (i))), Pd.eq (.int .i64 (((upB (downB (clB 524288 b) (((k : Nat) : Int))) (((k : Nat) : Int))) (i)) - ((clB 524288 b) (i)))), Pd.eq (.int .i64 (stp (((k : Nat) : Int)) / 2)), Pd.eq (.bool false), Pd.eq (.bool false), Pd.eq (.int .i64 (((i : Nat) : Int))), Pd.eq (.pointer (some ⟨p1, i, none⟩)), Pd.eq (.int .i64 ((clB 524288 b) (i))), Pd.eq (.int .i64 (((i : Nat) : Int))), Pd.eq (.pointer (some ⟨p111, i, none⟩)), Pd.eq (.int .i64 ((upB (downB (clB 524288 b) (((k : Nat) : Int))) (((k : Nat) : Int))) (i))), Pd.eq (.int .i64 (((clB 524288 b) (i)) - ((upB (downB (clB 524288 b) (((k : Nat) : Int))) (((k : Nat) : Int))) (i)))), Pd.eq (.int .i64 (stp (((k : Nat) : Int)) / 2)), Pd.eq (.bool false), Pd.eq (.bool false), Pd.eq (.bool false), Pd.eq (.int .i64 (((i : Nat) : Int))), Pd.eq (.pointer (some ⟨p83, i, none⟩)), Pd.eq (.int .i64 ((downB (clB 524288 b) (((k : Nat) : Int))) (i))), Pd.eq (.bool false), Pd.eq (.bool false), Pd.eq undef, Pd.eq undef, Pd.eq undef, Pd.eq undef, Pd.eq (.bool false), Pd.eq (.bool false), Pd.eq (.bool false), Pd.eq (.int .i64 (((i : Nat) : Int))), Pd.eq (.pointer (some ⟨p83, i, none⟩)), Pd.eq (.int .i64 ((downB (clB 524288 b) (((k : Nat) : Int))) (i))), Pd.eq (.bool true), Pd.eq (.bool true), Pd.eq (.int .i64 (((i : Nat) : Int))), Pd.eq (.pointer (some ⟨p1, i, none⟩)), Pd.eq (.int .i64 ((clB 524288 b) (i))), Pd.eq (.bool false), Pd.eq (.bool false), Pd.eq (.bool false)] (by kernel_rfl) (by kernel_rfl) ?_ ?_
            · refine stepsF_cons ?_ ?_
              · refine StepF.one rfl fun F_ w_ hR hout hD => ?_
                exact (y_mov rfl ((hout 16 (by decide)).trans s216) ⟨rfl, Kept.refl _ _⟩)
              refine stepsF_cons ?_ ?_
              · refine StepF.one rfl fun F_ w_ hR hout hD => ?_
                have g83 : F_ 83 = .int .i64 (((i : Nat) : Int)) := hD.get 0 rfl rfl rfl
                exact (y_atR (i) (s := 1) rfl ((hout 12 (by decide)).trans s215) g83 (by omega) Tryd.underlying27 (by omega) (by kernel_rfl) (by omega) ⟨rfl, Kept.refl _ _⟩)
              refine stepsF_cons ?_ ?_
              · refine StepF.one rfl fun F_ w_ hR hout hD => ?_
                have g84 : F_ 84 = .pointer (some ⟨p111, i, none⟩) := hD.get 0 rfl rfl rfl
                exact (y_ldR rfl g84 Tryd.underlying3 (((B207.all hR id)).cell (by omega)) ⟨rfl, Kept.refl _ _⟩)
              refine stepsF_cons ?_ ?_
              · refine StepF.one rfl fun F_ w_ hR hout hD => ?_
                exact (y_mov rfl ((hout 16 (by decide)).trans s216) ⟨rfl, Kept.refl _ _⟩)
              refine stepsF_cons ?_ ?_
              · refine StepF.one rfl fun F_ w_ hR hout hD => ?_
                have g86 : F_ 86 = .int .i64 (((i : Nat) : Int)) := hD.get 0 rfl rfl rfl
                exact (y_atR (i) (s := 1) rfl ((hout 2 (by decide)).trans s211) g86 (by omega) Tryd.underlying22 (by omega) (by kernel_rfl) (by omega) ⟨rfl, Kept.refl _ _⟩)
              refine stepsF_cons ?_ ?_
              · refine StepF.one rfl fun F_ w_ hR hout hD => ?_
                have g87 : F_ 87 = .pointer (some ⟨p1, i, none⟩) := hD.get 0 rfl rfl rfl
                exact (y_ldR rfl g87 Tryd.underlying3 (((B205.all hR id)).cell (by omega)) ⟨rfl, Kept.refl _ _⟩)
              refine stepsF_cons ?_ ?_
              · refine StepF.one rfl fun F_ w_ hR hout hD => ?_
                have g85 : F_ 85 = .int .i64 ((upB (downB (clB 524288 b) (((k : Nat) : Int))) (((k : Nat) : Int))) (i)) := hD.get 0 rfl rfl rfl
                have g88 : F_ 88 = .int .i64 ((clB 524288 b) (i)) := hD.get 1 rfl rfl rfl
                exact (y_sub rfl g85 g88 (i64_i rfl (by omega)) ⟨rfl, Kept.refl _ _⟩)
              refine stepsF_cons ?_ ?_
              · refine StepF.one rfl fun F_ w_ hR hout hD => ?_
                exact (y_mov rfl ((hout 8 (by decide)).trans s213) ⟨rfl, Kept.refl _ _⟩)
              refine stepsF_cons ?_ ?_
              · refine StepF.one rfl fun F_ w_ hR hout hD => ?_
                have g89 : F_ 89 = .int .i64 (((upB (downB (clB 524288 b) (((k : Nat) : Int))) (((k : Nat) : Int))) (i)) - ((clB 524288 b) (i))) := hD.get 0 rfl rfl rfl
                have g90 : F_ 90 = .int .i64 (stp (((k : Nat) : Int)) / 2) := hD.get 1 rfl rfl rfl
                exact (y_gtr rfl g89 g90 (decide_eq_false (by omega)) ⟨rfl, Kept.refl _ _⟩)
              refine stepsF_cons ?_ ?_
              · refine StepF.one rfl fun F_ w_ hR hout hD => ?_
                have g91 : F_ 91 = .bool false := hD.get 0 rfl rfl rfl
                exact (y_mov rfl g91 ⟨rfl, Kept.refl _ _⟩)
              refine stepsF_cons ?_ ?_
              · refine StepF.when 9 false 92 rfl rfl fun F_ w_ hR hout hD => ?_
                have g92 : F_ 92 = .bool false := hD.get 0 rfl rfl rfl
                exact ⟨g92, (y_mov rfl ((hout 16 (by decide)).trans s216) ⟨rfl, Kept.refl _ _⟩)⟩
              refine stepsF_cons ?_ ?_
              · refine StepF.when 9 false 92 rfl rfl fun F_ w_ hR hout hD => ?_
                have g92 : F_ 92 = .bool false := hD.get 1 rfl rfl rfl
                have g93 : F_ 93 = .int .i64 (((i : Nat) : Int)) := hD.get 0 rfl rfl rfl
                exact ⟨g92, (y_atR (i) (s := 1) rfl ((hout 2 (by decide)).trans s211) g93 (by omega) Tryd.underlying22 (by omega) (by kernel_rfl) (by omega) ⟨rfl, Kept.refl _ _⟩)⟩
              refine stepsF_cons ?_ ?_
              · refine StepF.when 9 false 92 rfl rfl fun F_ w_ hR hout hD => ?_
                have g92 : F_ 92 = .bool false := hD.get 1 rfl rfl rfl
                have g94 : F_ 94 = .pointer (some ⟨p1, i, none⟩) := hD.get 0 rfl rfl rfl
                exact ⟨g92, (y_ldR rfl g94 Tryd.underlying3 (((B205.all hR id)).cell (by omega)) ⟨rfl, Kept.refl _ _⟩)⟩
              refine stepsF_cons ?_ ?_
              · refine StepF.when 9 false 92 rfl rfl fun F_ w_ hR hout hD => ?_
                have g92 : F_ 92 = .bool false := hD.get 0 rfl rfl rfl
                exact ⟨g92, (y_mov rfl ((hout 16 (by decide)).trans s216) ⟨rfl, Kept.refl _ _⟩)⟩
              refine stepsF_cons ?_ ?_
              · refine StepF.when 9 false 92 rfl rfl fun F_ w_ hR hout hD => ?_
                have g92 : F_ 92 = .bool false := hD.get 1 rfl rfl rfl
                have g96 : F_ 96 = .int .i64 (((i : Nat) : Int)) := hD.get 0 rfl rfl rfl
                exact ⟨g92, (y_atR (i) (s := 1) rfl ((hout 12 (by decide)).trans s215) g96 (by omega) Tryd.underlying27 (by omega) (by kernel_rfl) (by omega) ⟨rfl, Kept.refl _ _⟩)⟩
              refine stepsF_cons ?_ ?_
              · refine StepF.when 9 false 92 rfl rfl fun F_ w_ hR hout hD => ?_
                have g92 : F_ 92 = .bool false := hD.get 1 rfl rfl rfl
                have g97 : F_ 97 = .pointer (some ⟨p111, i, none⟩) := hD.get 0 rfl rfl rfl
                exact ⟨g92, (y_ldR rfl g97 Tryd.underlying3 (((B207.all hR id)).cell (by omega)) ⟨rfl, Kept.refl _ _⟩)⟩
              refine stepsF_cons ?_ ?_
              · refine StepF.when 9 false 92 rfl rfl fun F_ w_ hR hout hD => ?_
                have g92 : F_ 92 = .bool false := hD.get 2 rfl rfl rfl
                have g95 : F_ 95 = .int .i64 ((clB 524288 b) (i)) := hD.get 0 rfl rfl rfl
                have g98 : F_ 98 = .int .i64 ((upB (downB (clB 524288 b) (((k : Nat) : Int))) (((k : Nat) : Int))) (i)) := hD.get 1 rfl rfl rfl
                exact ⟨g92, (y_sub rfl g95 g98 (i64_i rfl (by omega)) ⟨rfl, Kept.refl _ _⟩)⟩
              refine stepsF_cons ?_ ?_
              · refine StepF.when 9 false 92 rfl rfl fun F_ w_ hR hout hD => ?_
                have g92 : F_ 92 = .bool false := hD.get 0 rfl rfl rfl
                exact ⟨g92, (y_mov rfl ((hout 8 (by decide)).trans s213) ⟨rfl, Kept.refl _ _⟩)⟩
              refine stepsF_cons ?_ ?_
              · refine StepF.when 9 false 92 rfl rfl fun F_ w_ hR hout hD => ?_
                have g92 : F_ 92 = .bool false := hD.get 2 rfl rfl rfl
                have g99 : F_ 99 = .int .i64 (((clB 524288 b) (i)) - ((upB (downB (clB 524288 b) (((k : Nat) : Int))) (((k : Nat) : Int))) (i))) := hD.get 0 rfl rfl rfl
                have g100 : F_ 100 = .int .i64 (stp (((k : Nat) : Int)) / 2) := hD.get 1 rfl rfl rfl
                exact ⟨g92, (y_gtr rfl g99 g100 (decide_eq_false (by omega)) ⟨rfl, Kept.refl _ _⟩)⟩
              refine stepsF_cons ?_ ?_
              · refine StepF.one rfl fun F_ w_ hR hout hD => ?_
                have g92 : F_ 92 = .bool false := hD.get 0 rfl rfl rfl
                have g101 : F_ 101 = .bool false := hD.get 1 rfl rfl rfl
                exact (y_pickF rfl g92 g101 ⟨rfl, Kept.refl _ _⟩)
              refine stepsF_cons ?_ ?_
              · refine StepF.one rfl fun F_ w_ hR hout hD => ?_
                have g102 : F_ 102 = .bool false := hD.get 0 rfl rfl rfl
                exact (y_mov rfl g102 ⟨rfl, Kept.refl _ _⟩)
              refine stepsF_cons ?_ ?_
              · refine StepF.when 20 false 103 rfl rfl fun F_ w_ hR hout hD => ?_
                have g103 : F_ 103 = .bool false := hD.get 0 rfl rfl rfl
                exact ⟨g103, (y_mov rfl ((hout 16 (by decide)).trans s216) ⟨rfl, Kept.refl _ _⟩)⟩
              refine stepsF_cons ?_ ?_
              · refine StepF.when 20 false 103 rfl rfl fun F_ w_ hR hout hD => ?_
                have g103 : F_ 103 = .bool false := hD.get 1 rfl rfl rfl
                have g104 : F_ 104 = .int .i64 (((i : Nat) : Int)) := hD.get 0 rfl rfl rfl
                exact ⟨g103, (y_atR (i) (s := 1) rfl ((hout 10 (by decide)).trans s214) g104 (by omega) Tryd.underlying27 (by omega) (by kernel_rfl) (by omega) ⟨rfl, Kept.refl _ _⟩)⟩
              refine stepsF_cons ?_ ?_
              · refine StepF.when 20 false 103 rfl rfl fun F_ w_ hR hout hD => ?_
                have g103 : F_ 103 = .bool false := hD.get 1 rfl rfl rfl
                have g105 : F_ 105 = .pointer (some ⟨p83, i, none⟩) := hD.get 0 rfl rfl rfl
                exact ⟨g103, (y_ldR rfl g105 Tryd.underlying3 (((B206.all hR id)).cell (by omega)) ⟨rfl, Kept.refl _ _⟩)⟩
              refine stepsF_cons ?_ ?_
              · refine StepF.when 20 false 103 rfl rfl fun F_ w_ hR hout hD => ?_
                have g103 : F_ 103 = .bool false := hD.get 1 rfl rfl rfl
                have g106 : F_ 106 = .int .i64 ((downB (clB 524288 b) (((k : Nat) : Int))) (i)) := hD.get 0 rfl rfl rfl
                exact ⟨g103, (y_gtr rfl g106 rfl (decide_eq_false d219) ⟨rfl, Kept.refl _ _⟩)⟩
              refine stepsF_cons ?_ ?_
              · refine StepF.when 20 false 103 rfl rfl fun F_ w_ hR hout hD => ?_
                have g103 : F_ 103 = .bool false := hD.get 1 rfl rfl rfl
                have g107 : F_ 107 = .bool false := hD.get 0 rfl rfl rfl
                exact ⟨g103, (y_mov rfl g107 ⟨rfl, Kept.refl _ _⟩)⟩
              refine stepsF_cons ?_ ?_
              · refine StepF.unless 25 true 108 rfl rfl fun F_ w_ hR hout hD => ?_
                have g108 : F_ 108 = .bool false := hD.get 0 rfl rfl rfl
                exact ⟨Or.inl g108, rfl⟩
              refine stepsF_cons ?_ ?_
              · refine StepF.unless 25 true 108 rfl rfl fun F_ w_ hR hout hD => ?_
                have g108 : F_ 108 = .bool false := hD.get 1 rfl rfl rfl
                exact ⟨Or.inl g108, rfl⟩
              refine stepsF_cons ?_ ?_
              · refine StepF.unless 25 true 108 rfl rfl fun F_ w_ hR hout hD => ?_
                have g108 : F_ 108 = .bool false := hD.get 1 rfl rfl rfl
                exact ⟨Or.inl g108, rfl⟩
              refine stepsF_cons ?_ ?_
              · refine StepF.unless 25 true 108 rfl rfl fun F_ w_ hR hout hD => ?_
                have g108 : F_ 108 = .bool false := hD.get 1 rfl rfl rfl
                exact ⟨Or.inl g108, rfl⟩
              refine stepsF_cons ?_ ?_
              · refine StepF.when 20 false 103 rfl rfl fun F_ w_ hR hout hD => ?_
                have g103 : F_ 103 = .bool false := hD.get 2 rfl rfl rfl
                have g108 : F_ 108 = .bool false := hD.get 0 rfl rfl rfl
                exact ⟨g103, (y_pickF rfl g108 rfl ⟨rfl, Kept.refl _ _⟩)⟩
              refine stepsF_cons ?_ ?_
              · refine StepF.one rfl fun F_ w_ hR hout hD => ?_
                have g103 : F_ 103 = .bool false := hD.get 0 rfl rfl rfl
                have g113 : F_ 113 = .bool false := hD.get 1 rfl rfl rfl
                exact (y_pickF rfl g103 g113 ⟨rfl, Kept.refl _ _⟩)
              refine stepsF_cons ?_ ?_
              · refine StepF.one rfl fun F_ w_ hR hout hD => ?_
                have g114 : F_ 114 = .bool false := hD.get 0 rfl rfl rfl
                exact (y_mov rfl g114 ⟨rfl, Kept.refl _ _⟩)
              refine stepsF_cons ?_ ?_
              · refine StepF.when 32 false 115 rfl rfl fun F_ w_ hR hout hD => ?_
                have g115 : F_ 115 = .bool false := hD.get 0 rfl rfl rfl
                exact ⟨g115, (y_mov rfl ((hout 16 (by decide)).trans s216) ⟨rfl, Kept.refl _ _⟩)⟩
              refine stepsF_cons ?_ ?_
              · refine StepF.when 32 false 115 rfl rfl fun F_ w_ hR hout hD => ?_
                have g115 : F_ 115 = .bool false := hD.get 1 rfl rfl rfl
                have g116 : F_ 116 = .int .i64 (((i : Nat) : Int)) := hD.get 0 rfl rfl rfl
                exact ⟨g115, (y_atR (i) (s := 1) rfl ((hout 10 (by decide)).trans s214) g116 (by omega) Tryd.underlying27 (by omega) (by kernel_rfl) (by omega) ⟨rfl, Kept.refl _ _⟩)⟩
              refine stepsF_cons ?_ ?_
              · refine StepF.when 32 false 115 rfl rfl fun F_ w_ hR hout hD => ?_
                have g115 : F_ 115 = .bool false := hD.get 1 rfl rfl rfl
                have g117 : F_ 117 = .pointer (some ⟨p83, i, none⟩) := hD.get 0 rfl rfl rfl
                exact ⟨g115, (y_ldR rfl g117 Tryd.underlying3 (((B206.all hR id)).cell (by omega)) ⟨rfl, Kept.refl _ _⟩)⟩
              refine stepsF_cons ?_ ?_
              · refine StepF.when 32 false 115 rfl rfl fun F_ w_ hR hout hD => ?_
                have g115 : F_ 115 = .bool false := hD.get 1 rfl rfl rfl
                have g118 : F_ 118 = .int .i64 ((downB (clB 524288 b) (((k : Nat) : Int))) (i)) := hD.get 0 rfl rfl rfl
                exact ⟨g115, (y_lss rfl g118 rfl (decide_eq_true d273) ⟨rfl, Kept.refl _ _⟩)⟩
              refine stepsF_cons ?_ ?_
              · refine StepF.when 32 false 115 rfl rfl fun F_ w_ hR hout hD => ?_
                have g115 : F_ 115 = .bool false := hD.get 1 rfl rfl rfl
                have g119 : F_ 119 = .bool true := hD.get 0 rfl rfl rfl
                exact ⟨g115, (y_mov rfl g119 ⟨rfl, Kept.refl _ _⟩)⟩
              refine stepsF_cons ?_ ?_
              · refine StepF.when 37 true 120 rfl rfl fun F_ w_ hR hout hD => ?_
                have g120 : F_ 120 = .bool true := hD.get 0 rfl rfl rfl
                exact ⟨g120, (y_mov rfl ((hout 16 (by decide)).trans s216) ⟨rfl, Kept.refl _ _⟩)⟩
              refine stepsF_cons ?_ ?_
              · refine StepF.when 37 true 120 rfl rfl fun F_ w_ hR hout hD => ?_
                have g120 : F_ 120 = .bool true := hD.get 1 rfl rfl rfl
                have g121 : F_ 121 = .int .i64 (((i : Nat) : Int)) := hD.get 0 rfl rfl rfl
                exact ⟨g120, (y_atR (i) (s := 1) rfl ((hout 2 (by decide)).trans s211) g121 (by omega) Tryd.underlying22 (by omega) (by kernel_rfl) (by omega) ⟨rfl, Kept.refl _ _⟩)⟩
              refine stepsF_cons ?_ ?_
              · refine StepF.when 37 true 120 rfl rfl fun F_ w_ hR hout hD => ?_
                have g120 : F_ 120 = .bool true := hD.get 1 rfl rfl rfl
                have g122 : F_ 122 = .pointer (some ⟨p1, i, none⟩) := hD.get 0 rfl rfl rfl
                exact ⟨g120, (y_ldR rfl g122 Tryd.underlying3 (((B205.all hR id)).cell (by omega)) ⟨rfl, Kept.refl _ _⟩)⟩
              refine stepsF_cons ?_ ?_
              · refine StepF.when 37 true 120 rfl rfl fun F_ w_ hR hout hD => ?_
                have g120 : F_ 120 = .bool true := hD.get 1 rfl rfl rfl
                have g123 : F_ 123 = .int .i64 ((clB 524288 b) (i)) := hD.get 0 rfl rfl rfl
                exact ⟨g120, (y_gtr rfl g123 rfl (decide_eq_false (by omega)) ⟨rfl, Kept.refl _ _⟩)⟩
              refine stepsF_cons ?_ ?_
              · refine StepF.when 32 false 115 rfl rfl fun F_ w_ hR hout hD => ?_
                have g115 : F_ 115 = .bool false := hD.get 2 rfl rfl rfl
                have g120 : F_ 120 = .bool true := hD.get 0 rfl rfl rfl
                have g124 : F_ 124 = .bool false := hD.get 1 rfl rfl rfl
                exact ⟨g115, (y_pickT rfl g120 g124 ⟨rfl, Kept.refl _ _⟩)⟩
              refine stepsF_cons ?_ ?_
              · refine StepF.one rfl fun F_ w_ hR hout hD => ?_
                have g115 : F_ 115 = .bool false := hD.get 0 rfl rfl rfl
                have g125 : F_ 125 = .bool false := hD.get 1 rfl rfl rfl
                exact (y_pickF rfl g115 g125 ⟨rfl, Kept.refl _ _⟩)
              exact stepsF_nil
            intro v274 F275 w276 k277 G278 hF279
            have B280 := B205.all k277 id
            have B281 := B206.all k277 id
            have B282 := B207.all k277 id
            have B283 := B208.all k277 id
            have K284 := K196.trans k277 (fun _ _ x => x)
            have s285 : F275 2 = .pointer (some ⟨p1, 0, none⟩) := (hF279 2).trans s211
            have s286 : F275 5 = .bool true := (hF279 5).trans s212
            have s287 : F275 8 = .int .i64 (stp (((k : Nat) : Int)) / 2) := (hF279 8).trans s213
            have s288 : F275 10 = .pointer (some ⟨p83, 0, none⟩) := (hF279 10).trans s214
            have s289 : F275 12 = .pointer (some ⟨p111, 0, none⟩) := (hF279 12).trans s215
            have s290 : F275 16 = .int .i64 (((i : Nat) : Int)) := (hF279 16).trans s216
            have s291 : F275 126 = .bool false := (hF279 126).trans (G278 43 (by decide))
            clear G278 hF279
            refine then_normal ?_
            refine wq_cond (t := false) s291 (fun e => by cases e) (fun _ => ?_)
            refine wq_skip ?_
            refine in_normal ?_
            refine then_normal ?_
            refine wq_region ?_
            refine wl_v (.int .i64 (((i : Nat) : Int))) rfl rfl (y_mov rfl s290 ⟨rfl, rfl⟩) ?_
            refine wl_v (.int .i64 (((i + 1 : Nat) : Int))) rfl rfl (y_add rfl rfl rfl (i64_n (by omega) (by omega)) ⟨rfl, rfl⟩) ?_
            refine wl_v (.int .i64 (((i + 1 : Nat) : Int))) rfl rfl (y_asg rfl rfl ⟨rfl, rfl⟩) ?_
            refine wl_nil fun F292 hF293 => ?_
            have s294 : F292 2 = .pointer (some ⟨p1, 0, none⟩) := (hF293 2).trans s285
            have s295 : F292 5 = .bool true := (hF293 5).trans s286
            have s296 : F292 8 = .int .i64 (stp (((k : Nat) : Int)) / 2) := (hF293 8).trans s287
            have s297 : F292 10 = .pointer (some ⟨p83, 0, none⟩) := (hF293 10).trans s288
            have s298 : F292 12 = .pointer (some ⟨p111, 0, none⟩) := (hF293 12).trans s289
            have s299 : F292 16 = .int .i64 (((i + 1 : Nat) : Int)) := (hF293 16).trans rfl
            clear hF293
            exact then_normal ⟨(16 - (i + 1)), by omega, i + 1, by omega, rfl, s294, s295, s296, s297, s298, s299, K284, B280, B281, B282, B283⟩
          · skip
            refine wq_said [some 83, some 84, some 85, some 86, some 87, some 88, some 89, some 90, some 91, some 92, some 93, some 94, some 95, some 96, some 97, some 98, some 99, some 100, some 101, some 102, some 103, some 104, some 105, some 106, some 107, some 108, some 109, some 110, some 111, some 112, some 113, some 114, some 115, some 116, some 117, some 118, some 119, some 120, some 121, some 122, some 123, some 124, some 125, some 126] [Pd.eq (.int .i64 (((i : Nat) : Int))), Pd.eq (.pointer (some ⟨p111, i, none⟩)), Pd.eq (.int .i64 ((upB (downB (clB 524288 b) (((k : Nat) : Int))) (((k : Nat) : Int))) (i))), Pd.eq (.int .i64 (((i : Nat) : Int))), Pd.eq (.pointer (some ⟨p1, i, none⟩)), Pd.eq (.int .i64 ((clB 524288 b) (i))), Pd.eq (.int .i64 (((upB (downB (clB 524288 b) (((k : Nat) : Int))) (((k : Nat) : Int))) (i)) - ((clB 524288 b) (i)))), Pd.eq (.int .i64 (stp (((k : Nat) : Int)) / 2)), Pd.eq (.bool false), Pd.eq (.bool false), Pd.eq (.int .i64 (((i : Nat) : Int))), Pd.eq (.pointer (some ⟨p1, i, none⟩)), Pd.eq (.int .i64 ((clB 524288 b) (i))), Pd.eq (.int .i64 (((i : Nat) : Int))), Pd.eq (.pointer (some ⟨p111, i, none⟩)), Pd.eq (.int .i64 ((upB (downB (clB 524288 b) (((k : Nat) : Int))) (((k : Nat) : Int))) (i))), Pd.eq (.int .i64 (((clB 524288 b) (i)) - ((upB (downB (clB 524288 b) (((k : Nat) : Int))) (((k : Nat) : Int))) (i)))), Pd.eq (.int .i64 (stp (((k : Nat) : Int)) / 2)), Pd.eq (.bool false), Pd.eq (.bool false), Pd.eq (.bool false), Pd.eq (.int .i64 (((i : Nat) : Int))), Pd.eq (.pointer (some ⟨p83, i, none⟩)), Pd.eq (.int .i64 ((downB (clB 524288 b) (((k : Nat) : Int))) (i))), Pd.eq (.bool false), Pd.eq (.bool false), Pd.eq undef, Pd.eq undef, Pd.eq undef, Pd.eq undef, Pd.eq (.bool false), Pd.eq (.bool false), Pd.eq (.bool false), Pd.eq (.int .i64 (((i : Nat) : Int))), Pd.eq (.pointer (some ⟨p83, i, none⟩)), Pd.eq (.int .i64 ((downB (clB 524288 b) (((k : Nat) : Int))) (i))), Pd.eq (.bool false), Pd.eq (.bool false), Pd.eq undef, Pd.eq undef, Pd.eq undef, Pd.eq undef, Pd.eq (.bool false), Pd.eq (.bool false)] (by kernel_rfl) (by kernel_rfl) ?_ ?_
            · refine stepsF_cons ?_ ?_
              · refine StepF.one rfl fun F_ w_ hR hout hD => ?_
                exact (y_mov rfl ((hout 16 (by decide)).trans s216) ⟨rfl, Kept.refl _ _⟩)
              refine stepsF_cons ?_ ?_
              · refine StepF.one rfl fun F_ w_ hR hout hD => ?_
                have g83 : F_ 83 = .int .i64 (((i : Nat) : Int)) := hD.get 0 rfl rfl rfl
                exact (y_atR (i) (s := 1) rfl ((hout 12 (by decide)).trans s215) g83 (by omega) Tryd.underlying27 (by omega) (by kernel_rfl) (by omega) ⟨rfl, Kept.refl _ _⟩)
              refine stepsF_cons ?_ ?_
              · refine StepF.one rfl fun F_ w_ hR hout hD => ?_
                have g84 : F_ 84 = .pointer (some ⟨p111, i, none⟩) := hD.get 0 rfl rfl rfl
                exact (y_ldR rfl g84 Tryd.underlying3 (((B207.all hR id)).cell (by omega)) ⟨rfl, Kept.refl _ _⟩)
              refine stepsF_cons ?_ ?_
              · refine StepF.one rfl fun F_ w_ hR hout hD => ?_
                exact (y_mov rfl ((hout 16 (by decide)).trans s216) ⟨rfl, Kept.refl _ _⟩)
              refine stepsF_cons ?_ ?_
              · refine StepF.one rfl fun F_ w_ hR hout hD => ?_
                have g86 : F_ 86 = .int .i64 (((i : Nat) : Int)) := hD.get 0 rfl rfl rfl
                exact (y_atR (i) (s := 1) rfl ((hout 2 (by decide)).trans s211) g86 (by omega) Tryd.underlying22 (by omega) (by kernel_rfl) (by omega) ⟨rfl, Kept.refl _ _⟩)
              refine stepsF_cons ?_ ?_
              · refine StepF.one rfl fun F_ w_ hR hout hD => ?_
                have g87 : F_ 87 = .pointer (some ⟨p1, i, none⟩) := hD.get 0 rfl rfl rfl
                exact (y_ldR rfl g87 Tryd.underlying3 (((B205.all hR id)).cell (by omega)) ⟨rfl, Kept.refl _ _⟩)
              refine stepsF_cons ?_ ?_
              · refine StepF.one rfl fun F_ w_ hR hout hD => ?_
                have g85 : F_ 85 = .int .i64 ((upB (downB (clB 524288 b) (((k : Nat) : Int))) (((k : Nat) : Int))) (i)) := hD.get 0 rfl rfl rfl
                have g88 : F_ 88 = .int .i64 ((clB 524288 b) (i)) := hD.get 1 rfl rfl rfl
                exact (y_sub rfl g85 g88 (i64_i rfl (by omega)) ⟨rfl, Kept.refl _ _⟩)
              refine stepsF_cons ?_ ?_
              · refine StepF.one rfl fun F_ w_ hR hout hD => ?_
                exact (y_mov rfl ((hout 8 (by decide)).trans s213) ⟨rfl, Kept.refl _ _⟩)
              refine stepsF_cons ?_ ?_
              · refine StepF.one rfl fun F_ w_ hR hout hD => ?_
                have g89 : F_ 89 = .int .i64 (((upB (downB (clB 524288 b) (((k : Nat) : Int))) (((k : Nat) : Int))) (i)) - ((clB 524288 b) (i))) := hD.get 0 rfl rfl rfl
                have g90 : F_ 90 = .int .i64 (stp (((k : Nat) : Int)) / 2) := hD.get 1 rfl rfl rfl
                exact (y_gtr rfl g89 g90 (decide_eq_false (by omega)) ⟨rfl, Kept.refl _ _⟩)
              refine stepsF_cons ?_ ?_
              · refine StepF.one rfl fun F_ w_ hR hout hD => ?_
                have g91 : F_ 91 = .bool false := hD.get 0 rfl rfl rfl
                exact (y_mov rfl g91 ⟨rfl, Kept.refl _ _⟩)
              refine stepsF_cons ?_ ?_
              · refine StepF.when 9 false 92 rfl rfl fun F_ w_ hR hout hD => ?_
                have g92 : F_ 92 = .bool false := hD.get 0 rfl rfl rfl
                exact ⟨g92, (y_mov rfl ((hout 16 (by decide)).trans s216) ⟨rfl, Kept.refl _ _⟩)⟩
              refine stepsF_cons ?_ ?_
              · refine StepF.when 9 false 92 rfl rfl fun F_ w_ hR hout hD => ?_
                have g92 : F_ 92 = .bool false := hD.get 1 rfl rfl rfl
                have g93 : F_ 93 = .int .i64 (((i : Nat) : Int)) := hD.get 0 rfl rfl rfl
                exact ⟨g92, (y_atR (i) (s := 1) rfl ((hout 2 (by decide)).trans s211) g93 (by omega) Tryd.underlying22 (by omega) (by kernel_rfl) (by omega) ⟨rfl, Kept.refl _ _⟩)⟩
              refine stepsF_cons ?_ ?_
              · refine StepF.when 9 false 92 rfl rfl fun F_ w_ hR hout hD => ?_
                have g92 : F_ 92 = .bool false := hD.get 1 rfl rfl rfl
                have g94 : F_ 94 = .pointer (some ⟨p1, i, none⟩) := hD.get 0 rfl rfl rfl
                exact ⟨g92, (y_ldR rfl g94 Tryd.underlying3 (((B205.all hR id)).cell (by omega)) ⟨rfl, Kept.refl _ _⟩)⟩
              refine stepsF_cons ?_ ?_
              · refine StepF.when 9 false 92 rfl rfl fun F_ w_ hR hout hD => ?_
                have g92 : F_ 92 = .bool false := hD.get 0 rfl rfl rfl
                exact ⟨g92, (y_mov rfl ((hout 16 (by decide)).trans s216) ⟨rfl, Kept.refl _ _⟩)⟩
              refine stepsF_cons ?_ ?_
              · refine StepF.when 9 false 92 rfl rfl fun F_ w_ hR hout hD => ?_
                have g92 : F_ 92 = .bool false := hD.get 1 rfl rfl rfl
                have g96 : F_ 96 = .int .i64 (((i : Nat) : Int)) := hD.get 0 rfl rfl rfl
                exact ⟨g92, (y_atR (i) (s := 1) rfl ((hout 12 (by decide)).trans s215) g96 (by omega) Tryd.underlying27 (by omega) (by kernel_rfl) (by omega) ⟨rfl, Kept.refl _ _⟩)⟩
              refine stepsF_cons ?_ ?_
              · refine StepF.when 9 false 92 rfl rfl fun F_ w_ hR hout hD => ?_
                have g92 : F_ 92 = .bool false := hD.get 1 rfl rfl rfl
                have g97 : F_ 97 = .pointer (some ⟨p111, i, none⟩) := hD.get 0 rfl rfl rfl
                exact ⟨g92, (y_ldR rfl g97 Tryd.underlying3 (((B207.all hR id)).cell (by omega)) ⟨rfl, Kept.refl _ _⟩)⟩
              refine stepsF_cons ?_ ?_
              · refine StepF.when 9 false 92 rfl rfl fun F_ w_ hR hout hD => ?_
                have g92 : F_ 92 = .bool false := hD.get 2 rfl rfl rfl
                have g95 : F_ 95 = .int .i64 ((clB 524288 b) (i)) := hD.get 0 rfl rfl rfl
                have g98 : F_ 98 = .int .i64 ((upB (downB (clB 524288 b) (((k : Nat) : Int))) (((k : Nat) : Int))) (i)) := hD.get 1 rfl rfl rfl
                exact ⟨g92, (y_sub rfl g95 g98 (i64_i rfl (by omega)) ⟨rfl, Kept.refl _ _⟩)⟩
              refine stepsF_cons ?_ ?_
              · refine StepF.when 9 false 92 rfl rfl fun F_ w_ hR hout hD => ?_
                have g92 : F_ 92 = .bool false := hD.get 0 rfl rfl rfl
                exact ⟨g92, (y_mov rfl ((hout 8 (by decide)).trans s213) ⟨rfl, Kept.refl _ _⟩)⟩
              refine stepsF_cons ?_ ?_
              · refine StepF.when 9 false 92 rfl rfl fun F_ w_ hR hout hD => ?_
                have g92 : F_ 92 = .bool false := hD.get 2 rfl rfl rfl
                have g99 : F_ 99 = .int .i64 (((clB 524288 b) (i)) - ((upB (downB (clB 524288 b) (((k : Nat) : Int))) (((k : Nat) : Int))) (i))) := hD.get 0 rfl rfl rfl
                have g100 : F_ 100 = .int .i64 (stp (((k : Nat) : Int)) / 2) := hD.get 1 rfl rfl rfl
                exact ⟨g92, (y_gtr rfl g99 g100 (decide_eq_false (by omega)) ⟨rfl, Kept.refl _ _⟩)⟩
              refine stepsF_cons ?_ ?_
              · refine StepF.one rfl fun F_ w_ hR hout hD => ?_
                have g92 : F_ 92 = .bool false := hD.get 0 rfl rfl rfl
                have g101 : F_ 101 = .bool false := hD.get 1 rfl rfl rfl
                exact (y_pickF rfl g92 g101 ⟨rfl, Kept.refl _ _⟩)
              refine stepsF_cons ?_ ?_
              · refine StepF.one rfl fun F_ w_ hR hout hD => ?_
                have g102 : F_ 102 = .bool false := hD.get 0 rfl rfl rfl
                exact (y_mov rfl g102 ⟨rfl, Kept.refl _ _⟩)
              refine stepsF_cons ?_ ?_
              · refine StepF.when 20 false 103 rfl rfl fun F_ w_ hR hout hD => ?_
                have g103 : F_ 103 = .bool false := hD.get 0 rfl rfl rfl
                exact ⟨g103, (y_mov rfl ((hout 16 (by decide)).trans s216) ⟨rfl, Kept.refl _ _⟩)⟩
              refine stepsF_cons ?_ ?_
              · refine StepF.when 20 false 103 rfl rfl fun F_ w_ hR hout hD => ?_
                have g103 : F_ 103 = .bool false := hD.get 1 rfl rfl rfl
                have g104 : F_ 104 = .int .i64 (((i : Nat) : Int)) := hD.get 0 rfl rfl rfl
                exact ⟨g103, (y_atR (i) (s := 1) rfl ((hout 10 (by decide)).trans s214) g104 (by omega) Tryd.underlying27 (by omega) (by kernel_rfl) (by omega) ⟨rfl, Kept.refl _ _⟩)⟩
              refine stepsF_cons ?_ ?_
              · refine StepF.when 20 false 103 rfl rfl fun F_ w_ hR hout hD => ?_
                have g103 : F_ 103 = .bool false := hD.get 1 rfl rfl rfl
                have g105 : F_ 105 = .pointer (some ⟨p83, i, none⟩) := hD.get 0 rfl rfl rfl
                exact ⟨g103, (y_ldR rfl g105 Tryd.underlying3 (((B206.all hR id)).cell (by omega)) ⟨rfl, Kept.refl _ _⟩)⟩
              refine stepsF_cons ?_ ?_
              · refine StepF.when 20 false 103 rfl rfl fun F_ w_ hR hout hD => ?_
                have g103 : F_ 103 = .bool false := hD.get 1 rfl rfl rfl
                have g106 : F_ 106 = .int .i64 ((downB (clB 524288 b) (((k : Nat) : Int))) (i)) := hD.get 0 rfl rfl rfl
                exact ⟨g103, (y_gtr rfl g106 rfl (decide_eq_false d219) ⟨rfl, Kept.refl _ _⟩)⟩
              refine stepsF_cons ?_ ?_
              · refine StepF.when 20 false 103 rfl rfl fun F_ w_ hR hout hD => ?_
                have g103 : F_ 103 = .bool false := hD.get 1 rfl rfl rfl
                have g107 : F_ 107 = .bool false := hD.get 0 rfl rfl rfl
                exact ⟨g103, (y_mov rfl g107 ⟨rfl, Kept.refl _ _⟩)⟩
              refine stepsF_cons ?_ ?_
              · refine StepF.unless 25 true 108 rfl rfl fun F_ w_ hR hout hD => ?_
                have g108 : F_ 108 = .bool false := hD.get 0 rfl rfl rfl
                exact ⟨Or.inl g108, rfl⟩
              refine stepsF_cons ?_ ?_
              · refine StepF.unless 25 true 108 rfl rfl fun F_ w_ hR hout hD => ?_
                have g108 : F_ 108 = .bool false := hD.get 1 rfl rfl rfl
                exact ⟨Or.inl g108, rfl⟩
              refine stepsF_cons ?_ ?_
              · refine StepF.unless 25 true 108 rfl rfl fun F_ w_ hR hout hD => ?_
                have g108 : F_ 108 = .bool false := hD.get 1 rfl rfl rfl
                exact ⟨Or.inl g108, rfl⟩
              refine stepsF_cons ?_ ?_
              · refine StepF.unless 25 true 108 rfl rfl fun F_ w_ hR hout hD => ?_
                have g108 : F_ 108 = .bool false := hD.get 1 rfl rfl rfl
                exact ⟨Or.inl g108, rfl⟩
              refine stepsF_cons ?_ ?_
              · refine StepF.when 20 false 103 rfl rfl fun F_ w_ hR hout hD => ?_
                have g103 : F_ 103 = .bool false := hD.get 2 rfl rfl rfl
                have g108 : F_ 108 = .bool false := hD.get 0 rfl rfl rfl
                exact ⟨g103, (y_pickF rfl g108 rfl ⟨rfl, Kept.refl _ _⟩)⟩
              refine stepsF_cons ?_ ?_
              · refine StepF.one rfl fun F_ w_ hR hout hD => ?_
                have g103 : F_ 103 = .bool false := hD.get 0 rfl rfl rfl
                have g113 : F_ 113 = .bool false := hD.get 1 rfl rfl rfl
                exact (y_pickF rfl g103 g113 ⟨rfl, Kept.refl _ _⟩)
              refine stepsF_cons ?_ ?_
              · refine StepF.one rfl fun F_ w_ hR hout hD => ?_
                have g114 : F_ 114 = .bool false := hD.get 0 rfl rfl rfl
                exact (y_mov rfl g114 ⟨rfl, Kept.refl _ _⟩)
              refine stepsF_cons ?_ ?_
              · refine StepF.when 32 false 115 rfl rfl fun F_ w_ hR hout hD => ?_
                have g115 : F_ 115 = .bool false := hD.get 0 rfl rfl rfl
                exact ⟨g115, (y_mov rfl ((hout 16 (by decide)).trans s216) ⟨rfl, Kept.refl _ _⟩)⟩
              refine stepsF_cons ?_ ?_
              · refine StepF.when 32 false 115 rfl rfl fun F_ w_ hR hout hD => ?_
                have g115 : F_ 115 = .bool false := hD.get 1 rfl rfl rfl
                have g116 : F_ 116 = .int .i64 (((i : Nat) : Int)) := hD.get 0 rfl rfl rfl
                exact ⟨g115, (y_atR (i) (s := 1) rfl ((hout 10 (by decide)).trans s214) g116 (by omega) Tryd.underlying27 (by omega) (by kernel_rfl) (by omega) ⟨rfl, Kept.refl _ _⟩)⟩
              refine stepsF_cons ?_ ?_
              · refine StepF.when 32 false 115 rfl rfl fun F_ w_ hR hout hD => ?_
                have g115 : F_ 115 = .bool false := hD.get 1 rfl rfl rfl
                have g117 : F_ 117 = .pointer (some ⟨p83, i, none⟩) := hD.get 0 rfl rfl rfl
                exact ⟨g115, (y_ldR rfl g117 Tryd.underlying3 (((B206.all hR id)).cell (by omega)) ⟨rfl, Kept.refl _ _⟩)⟩
              refine stepsF_cons ?_ ?_
              · refine StepF.when 32 false 115 rfl rfl fun F_ w_ hR hout hD => ?_
                have g115 : F_ 115 = .bool false := hD.get 1 rfl rfl rfl
                have g118 : F_ 118 = .int .i64 ((downB (clB 524288 b) (((k : Nat) : Int))) (i)) := hD.get 0 rfl rfl rfl
                exact ⟨g115, (y_lss rfl g118 rfl (decide_eq_false d273) ⟨rfl, Kept.refl _ _⟩)⟩
              refine stepsF_cons ?_ ?_
              · refine StepF.when 32 false 115 rfl rfl fun F_ w_ hR hout hD => ?_
                have g115 : F_ 115 = .bool false := hD.get 1 rfl rfl rfl
                have g119 : F_ 119 = .bool false := hD.get 0 rfl rfl rfl
                exact ⟨g115, (y_mov rfl g119 ⟨rfl, Kept.refl _ _⟩)⟩
              refine stepsF_cons ?_ ?_
              · refine StepF.unless 37 true 120 rfl rfl fun F_ w_ hR hout hD => ?_
                have g120 : F_ 120 = .bool false := hD.get 0 rfl rfl rfl
                exact ⟨Or.inl g120, rfl⟩
              refine stepsF_cons ?_ ?_
              · refine StepF.unless 37 true 120 rfl rfl fun F_ w_ hR hout hD => ?_
                have g120 : F_ 120 = .bool false := hD.get 1 rfl rfl rfl
                exact ⟨Or.inl g120, rfl⟩
              refine stepsF_cons ?_ ?_
              · refine StepF.unless 37 true 120 rfl rfl fun F_ w_ hR hout hD => ?_
                have g120 : F_ 120 = .bool false := hD.get 1 rfl rfl rfl
                exact ⟨Or.inl g120, rfl⟩
              refine stepsF_cons ?_ ?_
              · refine StepF.unless 37 true 120 rfl rfl fun F_ w_ hR hout hD => ?_
                have g120 : F_ 120 = .bool false := hD.get 1 rfl rfl rfl
                exact ⟨Or.inl g120, rfl⟩
              refine stepsF_cons ?_ ?_
              · refine StepF.when 32 false 115 rfl rfl fun F_ w_ hR hout hD => ?_
                have g115 : F_ 115 = .bool false := hD.get 2 rfl rfl rfl
                have g120 : F_ 120 = .bool false := hD.get 0 rfl rfl rfl
                exact ⟨g115, (y_pickF rfl g120 rfl ⟨rfl, Kept.refl _ _⟩)⟩
              refine stepsF_cons ?_ ?_
              · refine StepF.one rfl fun F_ w_ hR hout hD => ?_
                have g115 : F_ 115 = .bool false := hD.get 0 rfl rfl rfl
                have g125 : F_ 125 = .bool false := hD.get 1 rfl rfl rfl
                exact (y_pickF rfl g115 g125 ⟨rfl, Kept.refl _ _⟩)
              exact stepsF_nil
            intro v300 F301 w302 k303 G304 hF305
            have B306 := B205.all k303 id
            have B307 := B206.all k303 id
            have B308 := B207.all k303 id
            have B309 := B208.all k303 id
            have K310 := K196.trans k303 (fun _ _ x => x)
            have s311 : F301 2 = .pointer (some ⟨p1, 0, none⟩) := (hF305 2).trans s211
            have s312 : F301 5 = .bool true := (hF305 5).trans s212
            have s313 : F301 8 = .int .i64 (stp (((k : Nat) : Int)) / 2) := (hF305 8).trans s213
            have s314 : F301 10 = .pointer (some ⟨p83, 0, none⟩) := (hF305 10).trans s214
            have s315 : F301 12 = .pointer (some ⟨p111, 0, none⟩) := (hF305 12).trans s215
            have s316 : F301 16 = .int .i64 (((i : Nat) : Int)) := (hF305 16).trans s216
            have s317 : F301 126 = .bool false := (hF305 126).trans (G304 43 (by decide))
            clear G304 hF305
            refine then_normal ?_
            refine wq_cond (t := false) s317 (fun e => by cases e) (fun _ => ?_)
            refine wq_skip ?_
            refine in_normal ?_
            refine then_normal ?_
            refine wq_region ?_
            refine wl_v (.int .i64 (((i : Nat) : Int))) rfl rfl (y_mov rfl s316 ⟨rfl, rfl⟩) ?_
            refine wl_v (.int .i64 (((i + 1 : Nat) : Int))) rfl rfl (y_add rfl rfl rfl (i64_n (by omega) (by omega)) ⟨rfl, rfl⟩) ?_
            refine wl_v (.int .i64 (((i + 1 : Nat) : Int))) rfl rfl (y_asg rfl rfl ⟨rfl, rfl⟩) ?_
            refine wl_nil fun F318 hF319 => ?_
            have s320 : F318 2 = .pointer (some ⟨p1, 0, none⟩) := (hF319 2).trans s311
            have s321 : F318 5 = .bool true := (hF319 5).trans s312
            have s322 : F318 8 = .int .i64 (stp (((k : Nat) : Int)) / 2) := (hF319 8).trans s313
            have s323 : F318 10 = .pointer (some ⟨p83, 0, none⟩) := (hF319 10).trans s314
            have s324 : F318 12 = .pointer (some ⟨p111, 0, none⟩) := (hF319 12).trans s315
            have s325 : F318 16 = .int .i64 (((i + 1 : Nat) : Int)) := (hF319 16).trans rfl
            clear hF319
            exact then_normal ⟨(16 - (i + 1)), by omega, i + 1, by omega, rfl, s320, s321, s322, s323, s324, s325, K310, B306, B307, B308, B309⟩
      · replace c218 := of_decide_eq_false c218
        refine wq_exit ?_
        refine then_exit ?_
        refine then_exit ?_
        have l326 : 16 = i := by omega
        subst l326
        refine in_here ?_
        refine then_normal ?_
        refine wq_seq ?_
        refine wq_region ?_
        refine wl_v (.bool true) rfl rfl (y_mov rfl s212 ⟨rfl, rfl⟩) ?_
        refine wl_v (.bool true) rfl rfl (y_asg rfl rfl ⟨rfl, rfl⟩) ?_
        refine wl_nil fun F327 hF328 => ?_
        have s329 : F327 4 = .bool true := (hF328 4).trans rfl
        clear hF328
        refine then_normal ?_
        refine wq_ret ?_
        exact end_tmp (v := .bool true) rfl s329 ⟨rfl, K196⟩
    · skip
      refine wq_region ?_
      refine wl_v (.int .i64 (ern (((k : Nat) : Int)))) rfl rfl (y_mov rfl s171 ⟨rfl, rfl⟩) ?_
      refine wl_v (.bool false) rfl rfl (y_neqI rfl rfl rfl (decide_eq_false (fun h => h he)) ⟨rfl, rfl⟩) ?_
      refine wl_v (.bool false) rfl rfl (y_mov rfl rfl ⟨rfl, rfl⟩) ?_
      refine wl_vw (.int .i64 (ern (((k : Nat) : Int)))) 2 false 57 rfl rfl rfl rfl rfl (y_mov rfl s173 ⟨rfl, rfl⟩) ?_
      refine wl_vw (.bool false) 2 false 57 rfl rfl rfl rfl rfl (y_neqI rfl rfl rfl (decide_eq_false (fun h => h he)) ⟨rfl, rfl⟩) ?_
      refine wl_v (.bool false) rfl rfl (y_pickF rfl rfl rfl ⟨rfl, rfl⟩) ?_
      refine wl_v (.bool false) rfl rfl (y_mov rfl rfl ⟨rfl, rfl⟩) ?_
      refine wl_vw (.int .i64 (ern (((k : Nat) : Int)))) 6 false 61 rfl rfl rfl rfl rfl (y_mov rfl s175 ⟨rfl, rfl⟩) ?_
      refine wl_vw (.bool false) 6 false 61 rfl rfl rfl rfl rfl (y_neqI rfl rfl rfl (decide_eq_false (fun h => h he)) ⟨rfl, rfl⟩) ?_
      refine wl_v (.bool false) rfl rfl (y_pickF rfl rfl rfl ⟨rfl, rfl⟩) ?_
      refine wl_v (.bool false) rfl rfl (y_mov rfl rfl ⟨rfl, rfl⟩) ?_
      refine wl_vw (blkV (downB (upB (downB (clB 524288 b) (((k : Nat) : Int))) (((k : Nat) : Int))) (((k : Nat) : Int)))) 10 false 65 rfl rfl rfl rfl rfl (y_load_blk blkT_block rfl s176 B159 ⟨rfl, rfl⟩) ?_
      refine wl_vw (blkV (downB (clB 524288 b) (((k : Nat) : Int)))) 10 false 65 rfl rfl rfl rfl rfl (y_load_blk blkT_block rfl s172 B162 ⟨rfl, rfl⟩) ?_
      refine wl_vw (.bool false) 10 false 65 rfl rfl rfl rfl rfl (y_diffR rfl rfl rfl (diff_no fun i _ => (near_block hk i (hc i)).2.2) ⟨rfl, rfl⟩) ?_
      refine wl_v (.bool false) rfl rfl (y_pickF rfl rfl rfl ⟨rfl, rfl⟩) ?_
      refine wl_v (.bool false) rfl rfl (y_mov rfl rfl ⟨rfl, rfl⟩) ?_
      refine wl_vw (.int .i64 (((k : Nat) : Int))) 15 false 70 rfl rfl rfl rfl rfl (y_mov rfl s169 ⟨rfl, rfl⟩) ?_
      refine wl_vw (.bool false) 15 false 70 rfl rfl rfl rfl rfl (y_eqlI rfl rfl rfl (decide_eq_false d177) ⟨rfl, rfl⟩) ?_
      refine wl_vw (.bool false) 15 false 70 rfl rfl rfl rfl rfl (y_mov rfl rfl ⟨rfl, rfl⟩) ?_
      refine wl_unless 18 true 73 rfl rfl rfl (Or.inl rfl) rfl ?_
      refine wl_unless 18 true 73 rfl rfl rfl (Or.inl rfl) rfl ?_
      refine wl_unless 18 true 73 rfl rfl rfl (Or.inl rfl) rfl ?_
      refine wl_vw (.bool false) 15 false 70 rfl rfl rfl rfl rfl (y_pickF rfl rfl rfl ⟨rfl, rfl⟩) ?_
      refine wl_v (.bool false) rfl rfl (y_pickF rfl rfl rfl ⟨rfl, rfl⟩) ?_
      refine wl_nil fun F330 hF331 => ?_
      have s332 : F330 2 = .pointer (some ⟨p1, 0, none⟩) := (hF331 2).trans s167
      have s333 : F330 5 = .bool true := (hF331 5).trans s168
      have s334 : F330 8 = .int .i64 (stp (((k : Nat) : Int)) / 2) := (hF331 8).trans s170
      have s335 : F330 10 = .pointer (some ⟨p83, 0, none⟩) := (hF331 10).trans s172
      have s336 : F330 12 = .pointer (some ⟨p111, 0, none⟩) := (hF331 12).trans s174
      have s337 : F330 78 = .bool false := (hF331 78).trans rfl
      clear hF331
      refine then_normal ?_
      refine wq_cond (t := false) s337 (fun e => by cases e) (fun _ => ?_)
      refine wq_skip ?_
      refine then_normal ?_
      refine wq_seq ?_
      refine wq_seq ?_
      refine wq_region ?_
      refine wl_v (.int .i64 (0)) rfl rfl (y_asg rfl rfl ⟨rfl, rfl⟩) ?_
      refine wl_nil fun F338 hF339 => ?_
      have s340 : F338 2 = .pointer (some ⟨p1, 0, none⟩) := (hF339 2).trans s332
      have s341 : F338 5 = .bool true := (hF339 5).trans s333
      have s342 : F338 8 = .int .i64 (stp (((k : Nat) : Int)) / 2) := (hF339 8).trans s334
      have s343 : F338 10 = .pointer (some ⟨p83, 0, none⟩) := (hF339 10).trans s335
      have s344 : F338 12 = .pointer (some ⟨p111, 0, none⟩) := (hF339 12).trans s336
      have s345 : F338 16 = .int .i64 (0) := (hF339 16).trans rfl
      clear hF339
      refine then_normal ?_
      refine wq_block ?_
      refine wq_loop (fun nn FF ww => ∃ (i : Nat), i ≤ 16 ∧ nn = 16 - i ∧ FF 2 = .pointer (some ⟨p1, 0, none⟩) ∧ FF 5 = .bool true ∧ FF 8 = .int .i64 (stp (((k : Nat) : Int)) / 2) ∧ FF 10 = .pointer (some ⟨p83, 0, none⟩) ∧ FF 12 = .pointer (some ⟨p111, 0, none⟩) ∧ FF 16 = .int .i64 (((i : Nat) : Int)) ∧ Kept (fun _ => False) w0 ww ∧ Blk ww p1 22 (clB 524288 b) ∧ Blk ww p83 27 (downB (clB 524288 b) (((k : Nat) : Int))) ∧ Blk ww p111 27 (upB (downB (clB 524288 b) (((k : Nat) : Int))) (((k : Nat) : Int))) ∧ Blk ww p145 27 (downB (upB (downB (clB 524288 b) (((k : Nat) : Int))) (((k : Nat) : Int))) (((k : Nat) : Int)))) (16 - (0)) ⟨0, by omega, rfl, s340, s341, s342, s343, s344, s345, K164, B161, B162, B163, B159⟩ ?_
      rintro n349 F346 w347 ⟨i, i350, hn349, s351, s352, s353, s354, s355, s356, K348, B357, B358, B359, B360⟩
      refine wq_seq ?_
      refine wq_seq ?_
      refine wq_region ?_
      refine wl_v (.int .i64 (((i : Nat) : Int))) rfl rfl (y_mov rfl s356 ⟨rfl, rfl⟩) ?_
      refine wl_v (.bool (decide ((((i : Nat) : Int)) < (16)))) rfl rfl (y_lss rfl rfl rfl rfl ⟨rfl, rfl⟩) ?_
      refine wl_nil fun F361 hF362 => ?_
      have s363 : F361 2 = .pointer (some ⟨p1, 0, none⟩) := (hF362 2).trans s351
      have s364 : F361 5 = .bool true := (hF362 5).trans s352
      have s365 : F361 8 = .int .i64 (stp (((k : Nat) : Int)) / 2) := (hF362 8).trans s353
      have s366 : F361 10 = .pointer (some ⟨p83, 0, none⟩) := (hF362 10).trans s354
      have s367 : F361 12 = .pointer (some ⟨p111, 0, none⟩) := (hF362 12).trans s355
      have s368 : F361 16 = .int .i64 (((i : Nat) : Int)) := (hF362 16).trans s356
      have s369 : F361 80 = .bool (decide ((((i : Nat) : Int)) < (16))) := (hF362 80).trans rfl
      clear hF362
      refine then_normal ?_
      refine wq_cond s369 (fun c370 => ?_) (fun c370 => ?_)
      · replace c370 := of_decide_eq_true c370
        refine wq_skip ?_
        refine then_normal ?_
        refine wq_seq ?_
        refine wq_block ?_
        refine wq_seq ?_
        have hb := near_block hk i (hc i)
        have hci := hc i
        have hn := lev_near (n := clB 524288 b i) (s := stp k) hst.1
        have hg := lev_sign (n := clB 524288 b i) (s := stp k) hst.1
        rw [← hb.2.1] at hn
        rw [← hb.1] at hg
        by_cases d371 : (0) < ((downB (clB 524288 b) (((k : Nat) : Int))) (i))
        · skip
          by_cases d372 : ((downB (clB 524288 b) (((k : Nat) : Int))) (i)) < (0)
          · skip
            refine wq_said [some 83, some 84, some 85, some 86, some 87, some 88, some 89, some 90, some 91, some 92, some 93, some 94, some 95, some 96, some 97, some 98, some 99, some 100, some 101, some 102, some 103, some 104, some 105, some 106, some 107, some 108, some 109, some 110, some 111, some 112, some 113, some 114, some 115, some 116, some 117, some 118, some 119, some 120, some 121, some 122, some 123, some 124, some 125, some 126] [Pd.eq (.int .i64 (((i : Nat) : Int))), Pd.eq (.pointer (some ⟨p111, i, none⟩)), Pd.eq (.int .i64 ((upB (downB (clB 524288 b) (((k : Nat) : Int))) (((k : Nat) : Int))) (i))), Pd.eq (.int .i64 (((i : Nat) : Int))), Pd.eq (.pointer (some ⟨p1, i, none⟩)), Pd.eq (.int .i64 ((clB 524288 b) (i))), Pd.eq (.int .i64 (((upB (downB (clB 524288 b) (((k : Nat) : Int))) (((k : Nat) : Int))) (i)) - ((clB 524288 b) (i)))), Pd.eq (.int .i64 (stp (((k : Nat) : Int)) / 2)), Pd.eq (.bool false), Pd.eq (.bool false), Pd.eq (.int .i64 (((i : Nat) : Int))), Pd.eq (.pointer (some ⟨p1, i, none⟩)), Pd.eq (.int .i64 ((clB 524288 b) (i))), Pd.eq (.int .i64 (((i : Nat) : Int))), Pd.eq (.pointer (some ⟨p111, i, none⟩)), Pd.eq (.int .i64 ((upB (downB (clB 524288 b) (((k : Nat) : Int))) (((k : Nat) : Int))) (i))), Pd.eq (.int .i64 (((clB 524288 b) (i)) - ((upB (downB (clB 524288 b) (((k : Nat) : Int))) (((k : Nat) : Int))) (i)))), Pd.eq (.int .i64 (stp (((k : Nat) : Int)) / 2)), Pd.eq (.bool false), Pd.eq (.bool false), Pd.eq (.bool false), Pd.eq (.int .i64 (((i : Nat) : Int))), Pd.eq (.pointer (some ⟨p83, i, none⟩)), Pd.eq (.int .i64 ((downB (clB 524288 b) (((k : Nat) : Int))) (i))), Pd.eq (.bool true), Pd.eq (.bool true), Pd.eq (.int .i64 (((i : Nat) : Int))), Pd.eq (.pointer (some ⟨p1, i, none⟩)), Pd.eq (.int .i64 ((clB 524288 b) (i))), Pd.eq (.bool false), Pd.eq (.bool false), Pd.eq (.bool false), Pd.eq (.bool false), Pd.eq (.int .i64 (((i : Nat) : Int))), Pd.eq (.pointer (some ⟨p83, i, none⟩)), Pd.eq (.int .i64 ((downB (clB 524288 b) (((k : Nat) : Int))) (i))), Pd.eq (.bool true), Pd.eq (.bool true), Pd.eq (.int .i64 (((i : Nat) : Int))), Pd.eq (.pointer (some ⟨p1, i, none⟩)), Pd.eq (.int .i64 ((clB 524288 b) (i))), Pd.eq (.bool false), Pd.eq (.bool false), Pd.eq (.bool false)] (by kernel_rfl) (by kernel_rfl) ?_ ?_
            · refine stepsF_cons ?_ ?_
              · refine StepF.one rfl fun F_ w_ hR hout hD => ?_
                exact (y_mov rfl ((hout 16 (by decide)).trans s368) ⟨rfl, Kept.refl _ _⟩)
              refine stepsF_cons ?_ ?_
              · refine StepF.one rfl fun F_ w_ hR hout hD => ?_
                have g83 : F_ 83 = .int .i64 (((i : Nat) : Int)) := hD.get 0 rfl rfl rfl
                exact (y_atR (i) (s := 1) rfl ((hout 12 (by decide)).trans s367) g83 (by omega) Tryd.underlying27 (by omega) (by kernel_rfl) (by omega) ⟨rfl, Kept.refl _ _⟩)
              refine stepsF_cons ?_ ?_
              · refine StepF.one rfl fun F_ w_ hR hout hD => ?_
                have g84 : F_ 84 = .pointer (some ⟨p111, i, none⟩) := hD.get 0 rfl rfl rfl
                exact (y_ldR rfl g84 Tryd.underlying3 (((B359.all hR id)).cell (by omega)) ⟨rfl, Kept.refl _ _⟩)
              refine stepsF_cons ?_ ?_
              · refine StepF.one rfl fun F_ w_ hR hout hD => ?_
                exact (y_mov rfl ((hout 16 (by decide)).trans s368) ⟨rfl, Kept.refl _ _⟩)
              refine stepsF_cons ?_ ?_
              · refine StepF.one rfl fun F_ w_ hR hout hD => ?_
                have g86 : F_ 86 = .int .i64 (((i : Nat) : Int)) := hD.get 0 rfl rfl rfl
                exact (y_atR (i) (s := 1) rfl ((hout 2 (by decide)).trans s363) g86 (by omega) Tryd.underlying22 (by omega) (by kernel_rfl) (by omega) ⟨rfl, Kept.refl _ _⟩)
              refine stepsF_cons ?_ ?_
              · refine StepF.one rfl fun F_ w_ hR hout hD => ?_
                have g87 : F_ 87 = .pointer (some ⟨p1, i, none⟩) := hD.get 0 rfl rfl rfl
                exact (y_ldR rfl g87 Tryd.underlying3 (((B357.all hR id)).cell (by omega)) ⟨rfl, Kept.refl _ _⟩)
              refine stepsF_cons ?_ ?_
              · refine StepF.one rfl fun F_ w_ hR hout hD => ?_
                have g85 : F_ 85 = .int .i64 ((upB (downB (clB 524288 b) (((k : Nat) : Int))) (((k : Nat) : Int))) (i)) := hD.get 0 rfl rfl rfl
                have g88 : F_ 88 = .int .i64 ((clB 524288 b) (i)) := hD.get 1 rfl rfl rfl
                exact (y_sub rfl g85 g88 (i64_i rfl (by omega)) ⟨rfl, Kept.refl _ _⟩)
              refine stepsF_cons ?_ ?_
              · refine StepF.one rfl fun F_ w_ hR hout hD => ?_
                exact (y_mov rfl ((hout 8 (by decide)).trans s365) ⟨rfl, Kept.refl _ _⟩)
              refine stepsF_cons ?_ ?_
              · refine StepF.one rfl fun F_ w_ hR hout hD => ?_
                have g89 : F_ 89 = .int .i64 (((upB (downB (clB 524288 b) (((k : Nat) : Int))) (((k : Nat) : Int))) (i)) - ((clB 524288 b) (i))) := hD.get 0 rfl rfl rfl
                have g90 : F_ 90 = .int .i64 (stp (((k : Nat) : Int)) / 2) := hD.get 1 rfl rfl rfl
                exact (y_gtr rfl g89 g90 (decide_eq_false (by omega)) ⟨rfl, Kept.refl _ _⟩)
              refine stepsF_cons ?_ ?_
              · refine StepF.one rfl fun F_ w_ hR hout hD => ?_
                have g91 : F_ 91 = .bool false := hD.get 0 rfl rfl rfl
                exact (y_mov rfl g91 ⟨rfl, Kept.refl _ _⟩)
              refine stepsF_cons ?_ ?_
              · refine StepF.when 9 false 92 rfl rfl fun F_ w_ hR hout hD => ?_
                have g92 : F_ 92 = .bool false := hD.get 0 rfl rfl rfl
                exact ⟨g92, (y_mov rfl ((hout 16 (by decide)).trans s368) ⟨rfl, Kept.refl _ _⟩)⟩
              refine stepsF_cons ?_ ?_
              · refine StepF.when 9 false 92 rfl rfl fun F_ w_ hR hout hD => ?_
                have g92 : F_ 92 = .bool false := hD.get 1 rfl rfl rfl
                have g93 : F_ 93 = .int .i64 (((i : Nat) : Int)) := hD.get 0 rfl rfl rfl
                exact ⟨g92, (y_atR (i) (s := 1) rfl ((hout 2 (by decide)).trans s363) g93 (by omega) Tryd.underlying22 (by omega) (by kernel_rfl) (by omega) ⟨rfl, Kept.refl _ _⟩)⟩
              refine stepsF_cons ?_ ?_
              · refine StepF.when 9 false 92 rfl rfl fun F_ w_ hR hout hD => ?_
                have g92 : F_ 92 = .bool false := hD.get 1 rfl rfl rfl
                have g94 : F_ 94 = .pointer (some ⟨p1, i, none⟩) := hD.get 0 rfl rfl rfl
                exact ⟨g92, (y_ldR rfl g94 Tryd.underlying3 (((B357.all hR id)).cell (by omega)) ⟨rfl, Kept.refl _ _⟩)⟩
              refine stepsF_cons ?_ ?_
              · refine StepF.when 9 false 92 rfl rfl fun F_ w_ hR hout hD => ?_
                have g92 : F_ 92 = .bool false := hD.get 0 rfl rfl rfl
                exact ⟨g92, (y_mov rfl ((hout 16 (by decide)).trans s368) ⟨rfl, Kept.refl _ _⟩)⟩
              refine stepsF_cons ?_ ?_
              · refine StepF.when 9 false 92 rfl rfl fun F_ w_ hR hout hD => ?_
                have g92 : F_ 92 = .bool false := hD.get 1 rfl rfl rfl
                have g96 : F_ 96 = .int .i64 (((i : Nat) : Int)) := hD.get 0 rfl rfl rfl
                exact ⟨g92, (y_atR (i) (s := 1) rfl ((hout 12 (by decide)).trans s367) g96 (by omega) Tryd.underlying27 (by omega) (by kernel_rfl) (by omega) ⟨rfl, Kept.refl _ _⟩)⟩
              refine stepsF_cons ?_ ?_
              · refine StepF.when 9 false 92 rfl rfl fun F_ w_ hR hout hD => ?_
                have g92 : F_ 92 = .bool false := hD.get 1 rfl rfl rfl
                have g97 : F_ 97 = .pointer (some ⟨p111, i, none⟩) := hD.get 0 rfl rfl rfl
                exact ⟨g92, (y_ldR rfl g97 Tryd.underlying3 (((B359.all hR id)).cell (by omega)) ⟨rfl, Kept.refl _ _⟩)⟩
              refine stepsF_cons ?_ ?_
              · refine StepF.when 9 false 92 rfl rfl fun F_ w_ hR hout hD => ?_
                have g92 : F_ 92 = .bool false := hD.get 2 rfl rfl rfl
                have g95 : F_ 95 = .int .i64 ((clB 524288 b) (i)) := hD.get 0 rfl rfl rfl
                have g98 : F_ 98 = .int .i64 ((upB (downB (clB 524288 b) (((k : Nat) : Int))) (((k : Nat) : Int))) (i)) := hD.get 1 rfl rfl rfl
                exact ⟨g92, (y_sub rfl g95 g98 (i64_i rfl (by omega)) ⟨rfl, Kept.refl _ _⟩)⟩
              refine stepsF_cons ?_ ?_
              · refine StepF.when 9 false 92 rfl rfl fun F_ w_ hR hout hD => ?_
                have g92 : F_ 92 = .bool false := hD.get 0 rfl rfl rfl
                exact ⟨g92, (y_mov rfl ((hout 8 (by decide)).trans s365) ⟨rfl, Kept.refl _ _⟩)⟩
              refine stepsF_cons ?_ ?_
              · refine StepF.when 9 false 92 rfl rfl fun F_ w_ hR hout hD => ?_
                have g92 : F_ 92 = .bool false := hD.get 2 rfl rfl rfl
                have g99 : F_ 99 = .int .i64 (((clB 524288 b) (i)) - ((upB (downB (clB 524288 b) (((k : Nat) : Int))) (((k : Nat) : Int))) (i))) := hD.get 0 rfl rfl rfl
                have g100 : F_ 100 = .int .i64 (stp (((k : Nat) : Int)) / 2) := hD.get 1 rfl rfl rfl
                exact ⟨g92, (y_gtr rfl g99 g100 (decide_eq_false (by omega)) ⟨rfl, Kept.refl _ _⟩)⟩
              refine stepsF_cons ?_ ?_
              · refine StepF.one rfl fun F_ w_ hR hout hD => ?_
                have g92 : F_ 92 = .bool false := hD.get 0 rfl rfl rfl
                have g101 : F_ 101 = .bool false := hD.get 1 rfl rfl rfl
                exact (y_pickF rfl g92 g101 ⟨rfl, Kept.refl _ _⟩)
              refine stepsF_cons ?_ ?_
              · refine StepF.one rfl fun F_ w_ hR hout hD => ?_
                have g102 : F_ 102 = .bool false := hD.get 0 rfl rfl rfl
                exact (y_mov rfl g102 ⟨rfl, Kept.refl _ _⟩)
              refine stepsF_cons ?_ ?_
              · refine StepF.when 20 false 103 rfl rfl fun F_ w_ hR hout hD => ?_
                have g103 : F_ 103 = .bool false := hD.get 0 rfl rfl rfl
                exact ⟨g103, (y_mov rfl ((hout 16 (by decide)).trans s368) ⟨rfl, Kept.refl _ _⟩)⟩
              refine stepsF_cons ?_ ?_
              · refine StepF.when 20 false 103 rfl rfl fun F_ w_ hR hout hD => ?_
                have g103 : F_ 103 = .bool false := hD.get 1 rfl rfl rfl
                have g104 : F_ 104 = .int .i64 (((i : Nat) : Int)) := hD.get 0 rfl rfl rfl
                exact ⟨g103, (y_atR (i) (s := 1) rfl ((hout 10 (by decide)).trans s366) g104 (by omega) Tryd.underlying27 (by omega) (by kernel_rfl) (by omega) ⟨rfl, Kept.refl _ _⟩)⟩
              refine stepsF_cons ?_ ?_
              · refine StepF.when 20 false 103 rfl rfl fun F_ w_ hR hout hD => ?_
                have g103 : F_ 103 = .bool false := hD.get 1 rfl rfl rfl
                have g105 : F_ 105 = .pointer (some ⟨p83, i, none⟩) := hD.get 0 rfl rfl rfl
                exact ⟨g103, (y_ldR rfl g105 Tryd.underlying3 (((B358.all hR id)).cell (by omega)) ⟨rfl, Kept.refl _ _⟩)⟩
              refine stepsF_cons ?_ ?_
              · refine StepF.when 20 false 103 rfl rfl fun F_ w_ hR hout hD => ?_
                have g103 : F_ 103 = .bool false := hD.get 1 rfl rfl rfl
                have g106 : F_ 106 = .int .i64 ((downB (clB 524288 b) (((k : Nat) : Int))) (i)) := hD.get 0 rfl rfl rfl
                exact ⟨g103, (y_gtr rfl g106 rfl (decide_eq_true d371) ⟨rfl, Kept.refl _ _⟩)⟩
              refine stepsF_cons ?_ ?_
              · refine StepF.when 20 false 103 rfl rfl fun F_ w_ hR hout hD => ?_
                have g103 : F_ 103 = .bool false := hD.get 1 rfl rfl rfl
                have g107 : F_ 107 = .bool true := hD.get 0 rfl rfl rfl
                exact ⟨g103, (y_mov rfl g107 ⟨rfl, Kept.refl _ _⟩)⟩
              refine stepsF_cons ?_ ?_
              · refine StepF.when 25 true 108 rfl rfl fun F_ w_ hR hout hD => ?_
                have g108 : F_ 108 = .bool true := hD.get 0 rfl rfl rfl
                exact ⟨g108, (y_mov rfl ((hout 16 (by decide)).trans s368) ⟨rfl, Kept.refl _ _⟩)⟩
              refine stepsF_cons ?_ ?_
              · refine StepF.when 25 true 108 rfl rfl fun F_ w_ hR hout hD => ?_
                have g108 : F_ 108 = .bool true := hD.get 1 rfl rfl rfl
                have g109 : F_ 109 = .int .i64 (((i : Nat) : Int)) := hD.get 0 rfl rfl rfl
                exact ⟨g108, (y_atR (i) (s := 1) rfl ((hout 2 (by decide)).trans s363) g109 (by omega) Tryd.underlying22 (by omega) (by kernel_rfl) (by omega) ⟨rfl, Kept.refl _ _⟩)⟩
              refine stepsF_cons ?_ ?_
              · refine StepF.when 25 true 108 rfl rfl fun F_ w_ hR hout hD => ?_
                have g108 : F_ 108 = .bool true := hD.get 1 rfl rfl rfl
                have g110 : F_ 110 = .pointer (some ⟨p1, i, none⟩) := hD.get 0 rfl rfl rfl
                exact ⟨g108, (y_ldR rfl g110 Tryd.underlying3 (((B357.all hR id)).cell (by omega)) ⟨rfl, Kept.refl _ _⟩)⟩
              refine stepsF_cons ?_ ?_
              · refine StepF.when 25 true 108 rfl rfl fun F_ w_ hR hout hD => ?_
                have g108 : F_ 108 = .bool true := hD.get 1 rfl rfl rfl
                have g111 : F_ 111 = .int .i64 ((clB 524288 b) (i)) := hD.get 0 rfl rfl rfl
                exact ⟨g108, (y_lss rfl g111 rfl (decide_eq_false (by omega)) ⟨rfl, Kept.refl _ _⟩)⟩
              refine stepsF_cons ?_ ?_
              · refine StepF.when 20 false 103 rfl rfl fun F_ w_ hR hout hD => ?_
                have g103 : F_ 103 = .bool false := hD.get 2 rfl rfl rfl
                have g108 : F_ 108 = .bool true := hD.get 0 rfl rfl rfl
                have g112 : F_ 112 = .bool false := hD.get 1 rfl rfl rfl
                exact ⟨g103, (y_pickT rfl g108 g112 ⟨rfl, Kept.refl _ _⟩)⟩
              refine stepsF_cons ?_ ?_
              · refine StepF.one rfl fun F_ w_ hR hout hD => ?_
                have g103 : F_ 103 = .bool false := hD.get 0 rfl rfl rfl
                have g113 : F_ 113 = .bool false := hD.get 1 rfl rfl rfl
                exact (y_pickF rfl g103 g113 ⟨rfl, Kept.refl _ _⟩)
              refine stepsF_cons ?_ ?_
              · refine StepF.one rfl fun F_ w_ hR hout hD => ?_
                have g114 : F_ 114 = .bool false := hD.get 0 rfl rfl rfl
                exact (y_mov rfl g114 ⟨rfl, Kept.refl _ _⟩)
              refine stepsF_cons ?_ ?_
              · refine StepF.when 32 false 115 rfl rfl fun F_ w_ hR hout hD => ?_
                have g115 : F_ 115 = .bool false := hD.get 0 rfl rfl rfl
                exact ⟨g115, (y_mov rfl ((hout 16 (by decide)).trans s368) ⟨rfl, Kept.refl _ _⟩)⟩
              refine stepsF_cons ?_ ?_
              · refine StepF.when 32 false 115 rfl rfl fun F_ w_ hR hout hD => ?_
                have g115 : F_ 115 = .bool false := hD.get 1 rfl rfl rfl
                have g116 : F_ 116 = .int .i64 (((i : Nat) : Int)) := hD.get 0 rfl rfl rfl
                exact ⟨g115, (y_atR (i) (s := 1) rfl ((hout 10 (by decide)).trans s366) g116 (by omega) Tryd.underlying27 (by omega) (by kernel_rfl) (by omega) ⟨rfl, Kept.refl _ _⟩)⟩
              refine stepsF_cons ?_ ?_
              · refine StepF.when 32 false 115 rfl rfl fun F_ w_ hR hout hD => ?_
                have g115 : F_ 115 = .bool false := hD.get 1 rfl rfl rfl
                have g117 : F_ 117 = .pointer (some ⟨p83, i, none⟩) := hD.get 0 rfl rfl rfl
                exact ⟨g115, (y_ldR rfl g117 Tryd.underlying3 (((B358.all hR id)).cell (by omega)) ⟨rfl, Kept.refl _ _⟩)⟩
              refine stepsF_cons ?_ ?_
              · refine StepF.when 32 false 115 rfl rfl fun F_ w_ hR hout hD => ?_
                have g115 : F_ 115 = .bool false := hD.get 1 rfl rfl rfl
                have g118 : F_ 118 = .int .i64 ((downB (clB 524288 b) (((k : Nat) : Int))) (i)) := hD.get 0 rfl rfl rfl
                exact ⟨g115, (y_lss rfl g118 rfl (decide_eq_true d372) ⟨rfl, Kept.refl _ _⟩)⟩
              refine stepsF_cons ?_ ?_
              · refine StepF.when 32 false 115 rfl rfl fun F_ w_ hR hout hD => ?_
                have g115 : F_ 115 = .bool false := hD.get 1 rfl rfl rfl
                have g119 : F_ 119 = .bool true := hD.get 0 rfl rfl rfl
                exact ⟨g115, (y_mov rfl g119 ⟨rfl, Kept.refl _ _⟩)⟩
              refine stepsF_cons ?_ ?_
              · refine StepF.when 37 true 120 rfl rfl fun F_ w_ hR hout hD => ?_
                have g120 : F_ 120 = .bool true := hD.get 0 rfl rfl rfl
                exact ⟨g120, (y_mov rfl ((hout 16 (by decide)).trans s368) ⟨rfl, Kept.refl _ _⟩)⟩
              refine stepsF_cons ?_ ?_
              · refine StepF.when 37 true 120 rfl rfl fun F_ w_ hR hout hD => ?_
                have g120 : F_ 120 = .bool true := hD.get 1 rfl rfl rfl
                have g121 : F_ 121 = .int .i64 (((i : Nat) : Int)) := hD.get 0 rfl rfl rfl
                exact ⟨g120, (y_atR (i) (s := 1) rfl ((hout 2 (by decide)).trans s363) g121 (by omega) Tryd.underlying22 (by omega) (by kernel_rfl) (by omega) ⟨rfl, Kept.refl _ _⟩)⟩
              refine stepsF_cons ?_ ?_
              · refine StepF.when 37 true 120 rfl rfl fun F_ w_ hR hout hD => ?_
                have g120 : F_ 120 = .bool true := hD.get 1 rfl rfl rfl
                have g122 : F_ 122 = .pointer (some ⟨p1, i, none⟩) := hD.get 0 rfl rfl rfl
                exact ⟨g120, (y_ldR rfl g122 Tryd.underlying3 (((B357.all hR id)).cell (by omega)) ⟨rfl, Kept.refl _ _⟩)⟩
              refine stepsF_cons ?_ ?_
              · refine StepF.when 37 true 120 rfl rfl fun F_ w_ hR hout hD => ?_
                have g120 : F_ 120 = .bool true := hD.get 1 rfl rfl rfl
                have g123 : F_ 123 = .int .i64 ((clB 524288 b) (i)) := hD.get 0 rfl rfl rfl
                exact ⟨g120, (y_gtr rfl g123 rfl (decide_eq_false (by omega)) ⟨rfl, Kept.refl _ _⟩)⟩
              refine stepsF_cons ?_ ?_
              · refine StepF.when 32 false 115 rfl rfl fun F_ w_ hR hout hD => ?_
                have g115 : F_ 115 = .bool false := hD.get 2 rfl rfl rfl
                have g120 : F_ 120 = .bool true := hD.get 0 rfl rfl rfl
                have g124 : F_ 124 = .bool false := hD.get 1 rfl rfl rfl
                exact ⟨g115, (y_pickT rfl g120 g124 ⟨rfl, Kept.refl _ _⟩)⟩
              refine stepsF_cons ?_ ?_
              · refine StepF.one rfl fun F_ w_ hR hout hD => ?_
                have g115 : F_ 115 = .bool false := hD.get 0 rfl rfl rfl
                have g125 : F_ 125 = .bool false := hD.get 1 rfl rfl rfl
                exact (y_pickF rfl g115 g125 ⟨rfl, Kept.refl _ _⟩)
              exact stepsF_nil
            intro v373 F374 w375 k376 G377 hF378
            have B379 := B357.all k376 id
            have B380 := B358.all k376 id
            have B381 := B359.all k376 id
            have B382 := B360.all k376 id
            have K383 := K348.trans k376 (fun _ _ x => x)
            have s384 : F374 2 = .pointer (some ⟨p1, 0, none⟩) := (hF378 2).trans s363
            have s385 : F374 5 = .bool true := (hF378 5).trans s364
            have s386 : F374 8 = .int .i64 (stp (((k : Nat) : Int)) / 2) := (hF378 8).trans s365
            have s387 : F374 10 = .pointer (some ⟨p83, 0, none⟩) := (hF378 10).trans s366
            have s388 : F374 12 = .pointer (some ⟨p111, 0, none⟩) := (hF378 12).trans s367
            have s389 : F374 16 = .int .i64 (((i : Nat) : Int)) := (hF378 16).trans s368
            have s390 : F374 126 = .bool false := (hF378 126).trans (G377 43 (by decide))
            clear G377 hF378
            refine then_normal ?_
            refine wq_cond (t := false) s390 (fun e => by cases e) (fun _ => ?_)
            refine wq_skip ?_
            refine in_normal ?_
            refine then_normal ?_
            refine wq_region ?_
            refine wl_v (.int .i64 (((i : Nat) : Int))) rfl rfl (y_mov rfl s389 ⟨rfl, rfl⟩) ?_
            refine wl_v (.int .i64 (((i + 1 : Nat) : Int))) rfl rfl (y_add rfl rfl rfl (i64_n (by omega) (by omega)) ⟨rfl, rfl⟩) ?_
            refine wl_v (.int .i64 (((i + 1 : Nat) : Int))) rfl rfl (y_asg rfl rfl ⟨rfl, rfl⟩) ?_
            refine wl_nil fun F391 hF392 => ?_
            have s393 : F391 2 = .pointer (some ⟨p1, 0, none⟩) := (hF392 2).trans s384
            have s394 : F391 5 = .bool true := (hF392 5).trans s385
            have s395 : F391 8 = .int .i64 (stp (((k : Nat) : Int)) / 2) := (hF392 8).trans s386
            have s396 : F391 10 = .pointer (some ⟨p83, 0, none⟩) := (hF392 10).trans s387
            have s397 : F391 12 = .pointer (some ⟨p111, 0, none⟩) := (hF392 12).trans s388
            have s398 : F391 16 = .int .i64 (((i + 1 : Nat) : Int)) := (hF392 16).trans rfl
            clear hF392
            exact then_normal ⟨(16 - (i + 1)), by omega, i + 1, by omega, rfl, s393, s394, s395, s396, s397, s398, K383, B379, B380, B381, B382⟩
          · skip
            refine wq_said [some 83, some 84, some 85, some 86, some 87, some 88, some 89, some 90, some 91, some 92, some 93, some 94, some 95, some 96, some 97, some 98, some 99, some 100, some 101, some 102, some 103, some 104, some 105, some 106, some 107, some 108, some 109, some 110, some 111, some 112, some 113, some 114, some 115, some 116, some 117, some 118, some 119, some 120, some 121, some 122, some 123, some 124, some 125, some 126] [Pd.eq (.int .i64 (((i : Nat) : Int))), Pd.eq (.pointer (some ⟨p111, i, none⟩)), Pd.eq (.int .i64 ((upB (downB (clB 524288 b) (((k : Nat) : Int))) (((k : Nat) : Int))) (i))), Pd.eq (.int .i64 (((i : Nat) : Int))), Pd.eq (.pointer (some ⟨p1, i, none⟩)), Pd.eq (.int .i64 ((clB 524288 b) (i))), Pd.eq (.int .i64 (((upB (downB (clB 524288 b) (((k : Nat) : Int))) (((k : Nat) : Int))) (i)) - ((clB 524288 b) (i)))), Pd.eq (.int .i64 (stp (((k : Nat) : Int)) / 2)), Pd.eq (.bool false), Pd.eq (.bool false), Pd.eq (.int .i64 (((i : Nat) : Int))), Pd.eq (.pointer (some ⟨p1, i, none⟩)), Pd.eq (.int .i64 ((clB 524288 b) (i))), Pd.eq (.int .i64 (((i : Nat) : Int))), Pd.eq (.pointer (some ⟨p111, i, none⟩)), Pd.eq (.int .i64 ((upB (downB (clB 524288 b) (((k : Nat) : Int))) (((k : Nat) : Int))) (i))), Pd.eq (.int .i64 (((clB 524288 b) (i)) - ((upB (downB (clB 524288 b) (((k : Nat) : Int))) (((k : Nat) : Int))) (i)))), Pd.eq (.int .i64 (stp (((k : Nat) : Int)) / 2)), Pd.eq (.bool false), Pd.eq (.bool false), Pd.eq (.bool false), Pd.eq (.int .i64 (((i : Nat) : Int))), Pd.eq (.pointer (some ⟨p83, i, none⟩)), Pd.eq (.int .i64 ((downB (clB 524288 b) (((k : Nat) : Int))) (i))), Pd.eq (.bool true), Pd.eq (.bool true), Pd.eq (.int .i64 (((i : Nat) : Int))), Pd.eq (.pointer (some ⟨p1, i, none⟩)), Pd.eq (.int .i64 ((clB 524288 b) (i))), Pd.eq (.bool false), Pd.eq (.bool false), Pd.eq (.bool false), Pd.eq (.bool false), Pd.eq (.int .i64 (((i : Nat) : Int))), Pd.eq (.pointer (some ⟨p83, i, none⟩)), Pd.eq (.int .i64 ((downB (clB 524288 b) (((k : Nat) : Int))) (i))), Pd.eq (.bool false), Pd.eq (.bool false), Pd.eq undef, Pd.eq undef, Pd.eq undef, Pd.eq undef, Pd.eq (.bool false), Pd.eq (.bool false)] (by kernel_rfl) (by kernel_rfl) ?_ ?_
            · refine stepsF_cons ?_ ?_
              · refine StepF.one rfl fun F_ w_ hR hout hD => ?_
                exact (y_mov rfl ((hout 16 (by decide)).trans s368) ⟨rfl, Kept.refl _ _⟩)
              refine stepsF_cons ?_ ?_
              · refine StepF.one rfl fun F_ w_ hR hout hD => ?_
                have g83 : F_ 83 = .int .i64 (((i : Nat) : Int)) := hD.get 0 rfl rfl rfl
                exact (y_atR (i) (s := 1) rfl ((hout 12 (by decide)).trans s367) g83 (by omega) Tryd.underlying27 (by omega) (by kernel_rfl) (by omega) ⟨rfl, Kept.refl _ _⟩)
              refine stepsF_cons ?_ ?_
              · refine StepF.one rfl fun F_ w_ hR hout hD => ?_
                have g84 : F_ 84 = .pointer (some ⟨p111, i, none⟩) := hD.get 0 rfl rfl rfl
                exact (y_ldR rfl g84 Tryd.underlying3 (((B359.all hR id)).cell (by omega)) ⟨rfl, Kept.refl _ _⟩)
              refine stepsF_cons ?_ ?_
              · refine StepF.one rfl fun F_ w_ hR hout hD => ?_
                exact (y_mov rfl ((hout 16 (by decide)).trans s368) ⟨rfl, Kept.refl _ _⟩)
              refine stepsF_cons ?_ ?_
              · refine StepF.one rfl fun F_ w_ hR hout hD => ?_
                have g86 : F_ 86 = .int .i64 (((i : Nat) : Int)) := hD.get 0 rfl rfl rfl
                exact (y_atR (i) (s := 1) rfl ((hout 2 (by decide)).trans s363) g86 (by omega) Tryd.underlying22 (by omega) (by kernel_rfl) (by omega) ⟨rfl, Kept.refl _ _⟩)
              refine stepsF_cons ?_ ?_
              · refine StepF.one rfl fun F_ w_ hR hout hD => ?_
                have g87 : F_ 87 = .pointer (some ⟨p1, i, none⟩) := hD.get 0 rfl rfl rfl
                exact (y_ldR rfl g87 Tryd.underlying3 (((B357.all hR id)).cell (by omega)) ⟨rfl, Kept.refl _ _⟩)
              refine stepsF_cons ?_ ?_
              · refine StepF.one rfl fun F_ w_ hR hout hD => ?_
                have g85 : F_ 85 = .int .i64 ((upB (downB (clB 524288 b) (((k : Nat) : Int))) (((k : Nat) : Int))) (i)) := hD.get 0 rfl rfl rfl
                have g88 : F_ 88 = .int .i64 ((clB 524288 b) (i)) := hD.get 1 rfl rfl rfl
                exact (y_sub rfl g85 g88 (i64_i rfl (by omega)) ⟨rfl, Kept.refl _ _⟩)
              refine stepsF_cons ?_ ?_
              · refine StepF.one rfl fun F_ w_ hR hout hD => ?_
                exact (y_mov rfl ((hout 8 (by decide)).trans s365) ⟨rfl, Kept.refl _ _⟩)
              refine stepsF_cons ?_ ?_
              · refine StepF.one rfl fun F_ w_ hR hout hD => ?_
                have g89 : F_ 89 = .int .i64 (((upB (downB (clB 524288 b) (((k : Nat) : Int))) (((k : Nat) : Int))) (i)) - ((clB 524288 b) (i))) := hD.get 0 rfl rfl rfl
                have g90 : F_ 90 = .int .i64 (stp (((k : Nat) : Int)) / 2) := hD.get 1 rfl rfl rfl
                exact (y_gtr rfl g89 g90 (decide_eq_false (by omega)) ⟨rfl, Kept.refl _ _⟩)
              refine stepsF_cons ?_ ?_
              · refine StepF.one rfl fun F_ w_ hR hout hD => ?_
                have g91 : F_ 91 = .bool false := hD.get 0 rfl rfl rfl
                exact (y_mov rfl g91 ⟨rfl, Kept.refl _ _⟩)
              refine stepsF_cons ?_ ?_
              · refine StepF.when 9 false 92 rfl rfl fun F_ w_ hR hout hD => ?_
                have g92 : F_ 92 = .bool false := hD.get 0 rfl rfl rfl
                exact ⟨g92, (y_mov rfl ((hout 16 (by decide)).trans s368) ⟨rfl, Kept.refl _ _⟩)⟩
              refine stepsF_cons ?_ ?_
              · refine StepF.when 9 false 92 rfl rfl fun F_ w_ hR hout hD => ?_
                have g92 : F_ 92 = .bool false := hD.get 1 rfl rfl rfl
                have g93 : F_ 93 = .int .i64 (((i : Nat) : Int)) := hD.get 0 rfl rfl rfl
                exact ⟨g92, (y_atR (i) (s := 1) rfl ((hout 2 (by decide)).trans s363) g93 (by omega) Tryd.underlying22 (by omega) (by kernel_rfl) (by omega) ⟨rfl, Kept.refl _ _⟩)⟩
              refine stepsF_cons ?_ ?_
              · refine StepF.when 9 false 92 rfl rfl fun F_ w_ hR hout hD => ?_
                have g92 : F_ 92 = .bool false := hD.get 1 rfl rfl rfl
                have g94 : F_ 94 = .pointer (some ⟨p1, i, none⟩) := hD.get 0 rfl rfl rfl
                exact ⟨g92, (y_ldR rfl g94 Tryd.underlying3 (((B357.all hR id)).cell (by omega)) ⟨rfl, Kept.refl _ _⟩)⟩
              refine stepsF_cons ?_ ?_
              · refine StepF.when 9 false 92 rfl rfl fun F_ w_ hR hout hD => ?_
                have g92 : F_ 92 = .bool false := hD.get 0 rfl rfl rfl
                exact ⟨g92, (y_mov rfl ((hout 16 (by decide)).trans s368) ⟨rfl, Kept.refl _ _⟩)⟩
              refine stepsF_cons ?_ ?_
              · refine StepF.when 9 false 92 rfl rfl fun F_ w_ hR hout hD => ?_
                have g92 : F_ 92 = .bool false := hD.get 1 rfl rfl rfl
                have g96 : F_ 96 = .int .i64 (((i : Nat) : Int)) := hD.get 0 rfl rfl rfl
                exact ⟨g92, (y_atR (i) (s := 1) rfl ((hout 12 (by decide)).trans s367) g96 (by omega) Tryd.underlying27 (by omega) (by kernel_rfl) (by omega) ⟨rfl, Kept.refl _ _⟩)⟩
              refine stepsF_cons ?_ ?_
              · refine StepF.when 9 false 92 rfl rfl fun F_ w_ hR hout hD => ?_
                have g92 : F_ 92 = .bool false := hD.get 1 rfl rfl rfl
                have g97 : F_ 97 = .pointer (some ⟨p111, i, none⟩) := hD.get 0 rfl rfl rfl
                exact ⟨g92, (y_ldR rfl g97 Tryd.underlying3 (((B359.all hR id)).cell (by omega)) ⟨rfl, Kept.refl _ _⟩)⟩
              refine stepsF_cons ?_ ?_
              · refine StepF.when 9 false 92 rfl rfl fun F_ w_ hR hout hD => ?_
                have g92 : F_ 92 = .bool false := hD.get 2 rfl rfl rfl
                have g95 : F_ 95 = .int .i64 ((clB 524288 b) (i)) := hD.get 0 rfl rfl rfl
                have g98 : F_ 98 = .int .i64 ((upB (downB (clB 524288 b) (((k : Nat) : Int))) (((k : Nat) : Int))) (i)) := hD.get 1 rfl rfl rfl
                exact ⟨g92, (y_sub rfl g95 g98 (i64_i rfl (by omega)) ⟨rfl, Kept.refl _ _⟩)⟩
              refine stepsF_cons ?_ ?_
              · refine StepF.when 9 false 92 rfl rfl fun F_ w_ hR hout hD => ?_
                have g92 : F_ 92 = .bool false := hD.get 0 rfl rfl rfl
                exact ⟨g92, (y_mov rfl ((hout 8 (by decide)).trans s365) ⟨rfl, Kept.refl _ _⟩)⟩
              refine stepsF_cons ?_ ?_
              · refine StepF.when 9 false 92 rfl rfl fun F_ w_ hR hout hD => ?_
                have g92 : F_ 92 = .bool false := hD.get 2 rfl rfl rfl
                have g99 : F_ 99 = .int .i64 (((clB 524288 b) (i)) - ((upB (downB (clB 524288 b) (((k : Nat) : Int))) (((k : Nat) : Int))) (i))) := hD.get 0 rfl rfl rfl
                have g100 : F_ 100 = .int .i64 (stp (((k : Nat) : Int)) / 2) := hD.get 1 rfl rfl rfl
                exact ⟨g92, (y_gtr rfl g99 g100 (decide_eq_false (by omega)) ⟨rfl, Kept.refl _ _⟩)⟩
              refine stepsF_cons ?_ ?_
              · refine StepF.one rfl fun F_ w_ hR hout hD => ?_
                have g92 : F_ 92 = .bool false := hD.get 0 rfl rfl rfl
                have g101 : F_ 101 = .bool false := hD.get 1 rfl rfl rfl
                exact (y_pickF rfl g92 g101 ⟨rfl, Kept.refl _ _⟩)
              refine stepsF_cons ?_ ?_
              · refine StepF.one rfl fun F_ w_ hR hout hD => ?_
                have g102 : F_ 102 = .bool false := hD.get 0 rfl rfl rfl
                exact (y_mov rfl g102 ⟨rfl, Kept.refl _ _⟩)
              refine stepsF_cons ?_ ?_
              · refine StepF.when 20 false 103 rfl rfl fun F_ w_ hR hout hD => ?_
                have g103 : F_ 103 = .bool false := hD.get 0 rfl rfl rfl
                exact ⟨g103, (y_mov rfl ((hout 16 (by decide)).trans s368) ⟨rfl, Kept.refl _ _⟩)⟩
              refine stepsF_cons ?_ ?_
              · refine StepF.when 20 false 103 rfl rfl fun F_ w_ hR hout hD => ?_
                have g103 : F_ 103 = .bool false := hD.get 1 rfl rfl rfl
                have g104 : F_ 104 = .int .i64 (((i : Nat) : Int)) := hD.get 0 rfl rfl rfl
                exact ⟨g103, (y_atR (i) (s := 1) rfl ((hout 10 (by decide)).trans s366) g104 (by omega) Tryd.underlying27 (by omega) (by kernel_rfl) (by omega) ⟨rfl, Kept.refl _ _⟩)⟩
              refine stepsF_cons ?_ ?_
              · refine StepF.when 20 false 103 rfl rfl fun F_ w_ hR hout hD => ?_
                have g103 : F_ 103 = .bool false := hD.get 1 rfl rfl rfl
                have g105 : F_ 105 = .pointer (some ⟨p83, i, none⟩) := hD.get 0 rfl rfl rfl
                exact ⟨g103, (y_ldR rfl g105 Tryd.underlying3 (((B358.all hR id)).cell (by omega)) ⟨rfl, Kept.refl _ _⟩)⟩
              refine stepsF_cons ?_ ?_
              · refine StepF.when 20 false 103 rfl rfl fun F_ w_ hR hout hD => ?_
                have g103 : F_ 103 = .bool false := hD.get 1 rfl rfl rfl
                have g106 : F_ 106 = .int .i64 ((downB (clB 524288 b) (((k : Nat) : Int))) (i)) := hD.get 0 rfl rfl rfl
                exact ⟨g103, (y_gtr rfl g106 rfl (decide_eq_true d371) ⟨rfl, Kept.refl _ _⟩)⟩
              refine stepsF_cons ?_ ?_
              · refine StepF.when 20 false 103 rfl rfl fun F_ w_ hR hout hD => ?_
                have g103 : F_ 103 = .bool false := hD.get 1 rfl rfl rfl
                have g107 : F_ 107 = .bool true := hD.get 0 rfl rfl rfl
                exact ⟨g103, (y_mov rfl g107 ⟨rfl, Kept.refl _ _⟩)⟩
              refine stepsF_cons ?_ ?_
              · refine StepF.when 25 true 108 rfl rfl fun F_ w_ hR hout hD => ?_
                have g108 : F_ 108 = .bool true := hD.get 0 rfl rfl rfl
                exact ⟨g108, (y_mov rfl ((hout 16 (by decide)).trans s368) ⟨rfl, Kept.refl _ _⟩)⟩
              refine stepsF_cons ?_ ?_
              · refine StepF.when 25 true 108 rfl rfl fun F_ w_ hR hout hD => ?_
                have g108 : F_ 108 = .bool true := hD.get 1 rfl rfl rfl
                have g109 : F_ 109 = .int .i64 (((i : Nat) : Int)) := hD.get 0 rfl rfl rfl
                exact ⟨g108, (y_atR (i) (s := 1) rfl ((hout 2 (by decide)).trans s363) g109 (by omega) Tryd.underlying22 (by omega) (by kernel_rfl) (by omega) ⟨rfl, Kept.refl _ _⟩)⟩
              refine stepsF_cons ?_ ?_
              · refine StepF.when 25 true 108 rfl rfl fun F_ w_ hR hout hD => ?_
                have g108 : F_ 108 = .bool true := hD.get 1 rfl rfl rfl
                have g110 : F_ 110 = .pointer (some ⟨p1, i, none⟩) := hD.get 0 rfl rfl rfl
                exact ⟨g108, (y_ldR rfl g110 Tryd.underlying3 (((B357.all hR id)).cell (by omega)) ⟨rfl, Kept.refl _ _⟩)⟩
              refine stepsF_cons ?_ ?_
              · refine StepF.when 25 true 108 rfl rfl fun F_ w_ hR hout hD => ?_
                have g108 : F_ 108 = .bool true := hD.get 1 rfl rfl rfl
                have g111 : F_ 111 = .int .i64 ((clB 524288 b) (i)) := hD.get 0 rfl rfl rfl
                exact ⟨g108, (y_lss rfl g111 rfl (decide_eq_false (by omega)) ⟨rfl, Kept.refl _ _⟩)⟩
              refine stepsF_cons ?_ ?_
              · refine StepF.when 20 false 103 rfl rfl fun F_ w_ hR hout hD => ?_
                have g103 : F_ 103 = .bool false := hD.get 2 rfl rfl rfl
                have g108 : F_ 108 = .bool true := hD.get 0 rfl rfl rfl
                have g112 : F_ 112 = .bool false := hD.get 1 rfl rfl rfl
                exact ⟨g103, (y_pickT rfl g108 g112 ⟨rfl, Kept.refl _ _⟩)⟩
              refine stepsF_cons ?_ ?_
              · refine StepF.one rfl fun F_ w_ hR hout hD => ?_
                have g103 : F_ 103 = .bool false := hD.get 0 rfl rfl rfl
                have g113 : F_ 113 = .bool false := hD.get 1 rfl rfl rfl
                exact (y_pickF rfl g103 g113 ⟨rfl, Kept.refl _ _⟩)
              refine stepsF_cons ?_ ?_
              · refine StepF.one rfl fun F_ w_ hR hout hD => ?_
                have g114 : F_ 114 = .bool false := hD.get 0 rfl rfl rfl
                exact (y_mov rfl g114 ⟨rfl, Kept.refl _ _⟩)
              refine stepsF_cons ?_ ?_
              · refine StepF.when 32 false 115 rfl rfl fun F_ w_ hR hout hD => ?_
                have g115 : F_ 115 = .bool false := hD.get 0 rfl rfl rfl
                exact ⟨g115, (y_mov rfl ((hout 16 (by decide)).trans s368) ⟨rfl, Kept.refl _ _⟩)⟩
              refine stepsF_cons ?_ ?_
              · refine StepF.when 32 false 115 rfl rfl fun F_ w_ hR hout hD => ?_
                have g115 : F_ 115 = .bool false := hD.get 1 rfl rfl rfl
                have g116 : F_ 116 = .int .i64 (((i : Nat) : Int)) := hD.get 0 rfl rfl rfl
                exact ⟨g115, (y_atR (i) (s := 1) rfl ((hout 10 (by decide)).trans s366) g116 (by omega) Tryd.underlying27 (by omega) (by kernel_rfl) (by omega) ⟨rfl, Kept.refl _ _⟩)⟩
              refine stepsF_cons ?_ ?_
              · refine StepF.when 32 false 115 rfl rfl fun F_ w_ hR hout hD => ?_
                have g115 : F_ 115 = .bool false := hD.get 1 rfl rfl rfl
                have g117 : F_ 117 = .pointer (some ⟨p83, i, none⟩) := hD.get 0 rfl rfl rfl
                exact ⟨g115, (y_ldR rfl g117 Tryd.underlying3 (((B358.all hR id)).cell (by omega)) ⟨rfl, Kept.refl _ _⟩)⟩
              refine stepsF_cons ?_ ?_
              · refine StepF.when 32 false 115 rfl rfl fun F_ w_ hR hout hD => ?_
                have g115 : F_ 115 = .bool false := hD.get 1 rfl rfl rfl
                have g118 : F_ 118 = .int .i64 ((downB (clB 524288 b) (((k : Nat) : Int))) (i)) := hD.get 0 rfl rfl rfl
                exact ⟨g115, (y_lss rfl g118 rfl (decide_eq_false d372) ⟨rfl, Kept.refl _ _⟩)⟩
              refine stepsF_cons ?_ ?_
              · refine StepF.when 32 false 115 rfl rfl fun F_ w_ hR hout hD => ?_
                have g115 : F_ 115 = .bool false := hD.get 1 rfl rfl rfl
                have g119 : F_ 119 = .bool false := hD.get 0 rfl rfl rfl
                exact ⟨g115, (y_mov rfl g119 ⟨rfl, Kept.refl _ _⟩)⟩
              refine stepsF_cons ?_ ?_
              · refine StepF.unless 37 true 120 rfl rfl fun F_ w_ hR hout hD => ?_
                have g120 : F_ 120 = .bool false := hD.get 0 rfl rfl rfl
                exact ⟨Or.inl g120, rfl⟩
              refine stepsF_cons ?_ ?_
              · refine StepF.unless 37 true 120 rfl rfl fun F_ w_ hR hout hD => ?_
                have g120 : F_ 120 = .bool false := hD.get 1 rfl rfl rfl
                exact ⟨Or.inl g120, rfl⟩
              refine stepsF_cons ?_ ?_
              · refine StepF.unless 37 true 120 rfl rfl fun F_ w_ hR hout hD => ?_
                have g120 : F_ 120 = .bool false := hD.get 1 rfl rfl rfl
                exact ⟨Or.inl g120, rfl⟩
              refine stepsF_cons ?_ ?_
              · refine StepF.unless 37 true 120 rfl rfl fun F_ w_ hR hout hD => ?_
                have g120 : F_ 120 = .bool false := hD.get 1 rfl rfl rfl
                exact ⟨Or.inl g120, rfl⟩
              refine stepsF_cons ?_ ?_
              · refine StepF.when 32 false 115 rfl rfl fun F_ w_ hR hout hD => ?_
                have g115 : F_ 115 = .bool false := hD.get 2 rfl rfl rfl
                have g120 : F_ 120 = .bool false := hD.get 0 rfl rfl rfl
                exact ⟨g115, (y_pickF rfl g120 rfl ⟨rfl, Kept.refl _ _⟩)⟩
              refine stepsF_cons ?_ ?_
              · refine StepF.one rfl fun F_ w_ hR hout hD => ?_
                have g115 : F_ 115 = .bool false := hD.get 0 rfl rfl rfl
                have g125 : F_ 125 = .bool false := hD.get 1 rfl rfl rfl
                exact (y_pickF rfl g115 g125 ⟨rfl, Kept.refl _ _⟩)
              exact stepsF_nil
            intro v399 F400 w401 k402 G403 hF404
            have B405 := B357.all k402 id
            have B406 := B358.all k402 id
            have B407 := B359.all k402 id
            have B408 := B360.all k402 id
            have K409 := K348.trans k402 (fun _ _ x => x)
            have s410 : F400 2 = .pointer (some ⟨p1, 0, none⟩) := (hF404 2).trans s363
            have s411 : F400 5 = .bool true := (hF404 5).trans s364
            have s412 : F400 8 = .int .i64 (stp (((k : Nat) : Int)) / 2) := (hF404 8).trans s365
            have s413 : F400 10 = .pointer (some ⟨p83, 0, none⟩) := (hF404 10).trans s366
            have s414 : F400 12 = .pointer (some ⟨p111, 0, none⟩) := (hF404 12).trans s367
            have s415 : F400 16 = .int .i64 (((i : Nat) : Int)) := (hF404 16).trans s368
            have s416 : F400 126 = .bool false := (hF404 126).trans (G403 43 (by decide))
            clear G403 hF404
            refine then_normal ?_
            refine wq_cond (t := false) s416 (fun e => by cases e) (fun _ => ?_)
            refine wq_skip ?_
            refine in_normal ?_
            refine then_normal ?_
            refine wq_region ?_
            refine wl_v (.int .i64 (((i : Nat) : Int))) rfl rfl (y_mov rfl s415 ⟨rfl, rfl⟩) ?_
            refine wl_v (.int .i64 (((i + 1 : Nat) : Int))) rfl rfl (y_add rfl rfl rfl (i64_n (by omega) (by omega)) ⟨rfl, rfl⟩) ?_
            refine wl_v (.int .i64 (((i + 1 : Nat) : Int))) rfl rfl (y_asg rfl rfl ⟨rfl, rfl⟩) ?_
            refine wl_nil fun F417 hF418 => ?_
            have s419 : F417 2 = .pointer (some ⟨p1, 0, none⟩) := (hF418 2).trans s410
            have s420 : F417 5 = .bool true := (hF418 5).trans s411
            have s421 : F417 8 = .int .i64 (stp (((k : Nat) : Int)) / 2) := (hF418 8).trans s412
            have s422 : F417 10 = .pointer (some ⟨p83, 0, none⟩) := (hF418 10).trans s413
            have s423 : F417 12 = .pointer (some ⟨p111, 0, none⟩) := (hF418 12).trans s414
            have s424 : F417 16 = .int .i64 (((i + 1 : Nat) : Int)) := (hF418 16).trans rfl
            clear hF418
            exact then_normal ⟨(16 - (i + 1)), by omega, i + 1, by omega, rfl, s419, s420, s421, s422, s423, s424, K409, B405, B406, B407, B408⟩
        · skip
          by_cases d425 : ((downB (clB 524288 b) (((k : Nat) : Int))) (i)) < (0)
          · skip
            refine wq_said [some 83, some 84, some 85, some 86, some 87, some 88, some 89, some 90, some 91, some 92, some 93, some 94, some 95, some 96, some 97, some 98, some 99, some 100, some 101, some 102, some 103, some 104, some 105, some 106, some 107, some 108, some 109, some 110, some 111, some 112, some 113, some 114, some 115, some 116, some 117, some 118, some 119, some 120, some 121, some 122, some 123, some 124, some 125, some 126] [Pd.eq (.int .i64 (((i : Nat) : Int))), Pd.eq (.pointer (some ⟨p111, i, none⟩)), Pd.eq (.int .i64 ((upB (downB (clB 524288 b) (((k : Nat) : Int))) (((k : Nat) : Int))) (i))), Pd.eq (.int .i64 (((i : Nat) : Int))), Pd.eq (.pointer (some ⟨p1, i, none⟩)), Pd.eq (.int .i64 ((clB 524288 b) (i))), Pd.eq (.int .i64 (((upB (downB (clB 524288 b) (((k : Nat) : Int))) (((k : Nat) : Int))) (i)) - ((clB 524288 b) (i)))), Pd.eq (.int .i64 (stp (((k : Nat) : Int)) / 2)), Pd.eq (.bool false), Pd.eq (.bool false), Pd.eq (.int .i64 (((i : Nat) : Int))), Pd.eq (.pointer (some ⟨p1, i, none⟩)), Pd.eq (.int .i64 ((clB 524288 b) (i))), Pd.eq (.int .i64 (((i : Nat) : Int))), Pd.eq (.pointer (some ⟨p111, i, none⟩)), Pd.eq (.int .i64 ((upB (downB (clB 524288 b) (((k : Nat) : Int))) (((k : Nat) : Int))) (i))), Pd.eq (.int .i64 (((clB 524288 b) (i)) - ((upB (downB (clB 524288 b) (((k : Nat) : Int))) (((k : Nat) : Int))) (i)))), Pd.eq (.int .i64 (stp (((k : Nat) : Int)) / 2)), Pd.eq (.bool false), Pd.eq (.bool false), Pd.eq (.bool false), Pd.eq (.int .i64 (((i : Nat) : Int))), Pd.eq (.pointer (some ⟨p83, i, none⟩)), Pd.eq (.int .i64 ((downB (clB 524288 b) (((k : Nat) : Int))) (i))), Pd.eq (.bool false), Pd.eq (.bool false), Pd.eq undef, Pd.eq undef, Pd.eq undef, Pd.eq undef, Pd.eq (.bool false), Pd.eq (.bool false), Pd.eq (.bool false), Pd.eq (.int .i64 (((i : Nat) : Int))), Pd.eq (.pointer (some ⟨p83, i, none⟩)), Pd.eq (.int .i64 ((downB (clB 524288 b) (((k : Nat) : Int))) (i))), Pd.eq (.bool true), Pd.eq (.bool true), Pd.eq (.int .i64 (((i : Nat) : Int))), Pd.eq (.pointer (some ⟨p1, i, none⟩)), Pd.eq (.int .i64 ((clB 524288 b) (i))), Pd.eq (.bool false), Pd.eq (.bool false), Pd.eq (.bool false)] (by kernel_rfl) (by kernel_rfl) ?_ ?_
            · refine stepsF_cons ?_ ?_
              · refine StepF.one rfl fun F_ w_ hR hout hD => ?_
                exact (y_mov rfl ((hout 16 (by decide)).trans s368) ⟨rfl, Kept.refl _ _⟩)
              refine stepsF_cons ?_ ?_
              · refine StepF.one rfl fun F_ w_ hR hout hD => ?_
                have g83 : F_ 83 = .int .i64 (((i : Nat) : Int)) := hD.get 0 rfl rfl rfl
                exact (y_atR (i) (s := 1) rfl ((hout 12 (by decide)).trans s367) g83 (by omega) Tryd.underlying27 (by omega) (by kernel_rfl) (by omega) ⟨rfl, Kept.refl _ _⟩)
              refine stepsF_cons ?_ ?_
              · refine StepF.one rfl fun F_ w_ hR hout hD => ?_
                have g84 : F_ 84 = .pointer (some ⟨p111, i, none⟩) := hD.get 0 rfl rfl rfl
                exact (y_ldR rfl g84 Tryd.underlying3 (((B359.all hR id)).cell (by omega)) ⟨rfl, Kept.refl _ _⟩)
              refine stepsF_cons ?_ ?_
              · refine StepF.one rfl fun F_ w_ hR hout hD => ?_
                exact (y_mov rfl ((hout 16 (by decide)).trans s368) ⟨rfl, Kept.refl _ _⟩)
              refine stepsF_cons ?_ ?_
              · refine StepF.one rfl fun F_ w_ hR hout hD => ?_
                have g86 : F_ 86 = .int .i64 (((i : Nat) : Int)) := hD.get 0 rfl rfl rfl
                exact (y_atR (i) (s := 1) rfl ((hout 2 (by decide)).trans s363) g86 (by omega) Tryd.underlying22 (by omega) (by kernel_rfl) (by omega) ⟨rfl, Kept.refl _ _⟩)
              refine stepsF_cons ?_ ?_
              · refine StepF.one rfl fun F_ w_ hR hout hD => ?_
                have g87 : F_ 87 = .pointer (some ⟨p1, i, none⟩) := hD.get 0 rfl rfl rfl
                exact (y_ldR rfl g87 Tryd.underlying3 (((B357.all hR id)).cell (by omega)) ⟨rfl, Kept.refl _ _⟩)
              refine stepsF_cons ?_ ?_
              · refine StepF.one rfl fun F_ w_ hR hout hD => ?_
                have g85 : F_ 85 = .int .i64 ((upB (downB (clB 524288 b) (((k : Nat) : Int))) (((k : Nat) : Int))) (i)) := hD.get 0 rfl rfl rfl
                have g88 : F_ 88 = .int .i64 ((clB 524288 b) (i)) := hD.get 1 rfl rfl rfl
                exact (y_sub rfl g85 g88 (i64_i rfl (by omega)) ⟨rfl, Kept.refl _ _⟩)
              refine stepsF_cons ?_ ?_
              · refine StepF.one rfl fun F_ w_ hR hout hD => ?_
                exact (y_mov rfl ((hout 8 (by decide)).trans s365) ⟨rfl, Kept.refl _ _⟩)
              refine stepsF_cons ?_ ?_
              · refine StepF.one rfl fun F_ w_ hR hout hD => ?_
                have g89 : F_ 89 = .int .i64 (((upB (downB (clB 524288 b) (((k : Nat) : Int))) (((k : Nat) : Int))) (i)) - ((clB 524288 b) (i))) := hD.get 0 rfl rfl rfl
                have g90 : F_ 90 = .int .i64 (stp (((k : Nat) : Int)) / 2) := hD.get 1 rfl rfl rfl
                exact (y_gtr rfl g89 g90 (decide_eq_false (by omega)) ⟨rfl, Kept.refl _ _⟩)
              refine stepsF_cons ?_ ?_
              · refine StepF.one rfl fun F_ w_ hR hout hD => ?_
                have g91 : F_ 91 = .bool false := hD.get 0 rfl rfl rfl
                exact (y_mov rfl g91 ⟨rfl, Kept.refl _ _⟩)
              refine stepsF_cons ?_ ?_
              · refine StepF.when 9 false 92 rfl rfl fun F_ w_ hR hout hD => ?_
                have g92 : F_ 92 = .bool false := hD.get 0 rfl rfl rfl
                exact ⟨g92, (y_mov rfl ((hout 16 (by decide)).trans s368) ⟨rfl, Kept.refl _ _⟩)⟩
              refine stepsF_cons ?_ ?_
              · refine StepF.when 9 false 92 rfl rfl fun F_ w_ hR hout hD => ?_
                have g92 : F_ 92 = .bool false := hD.get 1 rfl rfl rfl
                have g93 : F_ 93 = .int .i64 (((i : Nat) : Int)) := hD.get 0 rfl rfl rfl
                exact ⟨g92, (y_atR (i) (s := 1) rfl ((hout 2 (by decide)).trans s363) g93 (by omega) Tryd.underlying22 (by omega) (by kernel_rfl) (by omega) ⟨rfl, Kept.refl _ _⟩)⟩
              refine stepsF_cons ?_ ?_
              · refine StepF.when 9 false 92 rfl rfl fun F_ w_ hR hout hD => ?_
                have g92 : F_ 92 = .bool false := hD.get 1 rfl rfl rfl
                have g94 : F_ 94 = .pointer (some ⟨p1, i, none⟩) := hD.get 0 rfl rfl rfl
                exact ⟨g92, (y_ldR rfl g94 Tryd.underlying3 (((B357.all hR id)).cell (by omega)) ⟨rfl, Kept.refl _ _⟩)⟩
              refine stepsF_cons ?_ ?_
              · refine StepF.when 9 false 92 rfl rfl fun F_ w_ hR hout hD => ?_
                have g92 : F_ 92 = .bool false := hD.get 0 rfl rfl rfl
                exact ⟨g92, (y_mov rfl ((hout 16 (by decide)).trans s368) ⟨rfl, Kept.refl _ _⟩)⟩
              refine stepsF_cons ?_ ?_
              · refine StepF.when 9 false 92 rfl rfl fun F_ w_ hR hout hD => ?_
                have g92 : F_ 92 = .bool false := hD.get 1 rfl rfl rfl
                have g96 : F_ 96 = .int .i64 (((i : Nat) : Int)) := hD.get 0 rfl rfl rfl
                exact ⟨g92, (y_atR (i) (s := 1) rfl ((hout 12 (by decide)).trans s367) g96 (by omega) Tryd.underlying27 (by omega) (by kernel_rfl) (by omega) ⟨rfl, Kept.refl _ _⟩)⟩
              refine stepsF_cons ?_ ?_
              · refine StepF.when 9 false 92 rfl rfl fun F_ w_ hR hout hD => ?_
                have g92 : F_ 92 = .bool false := hD.get 1 rfl rfl rfl
                have g97 : F_ 97 = .pointer (some ⟨p111, i, none⟩) := hD.get 0 rfl rfl rfl
                exact ⟨g92, (y_ldR rfl g97 Tryd.underlying3 (((B359.all hR id)).cell (by omega)) ⟨rfl, Kept.refl _ _⟩)⟩
              refine stepsF_cons ?_ ?_
              · refine StepF.when 9 false 92 rfl rfl fun F_ w_ hR hout hD => ?_
                have g92 : F_ 92 = .bool false := hD.get 2 rfl rfl rfl
                have g95 : F_ 95 = .int .i64 ((clB 524288 b) (i)) := hD.get 0 rfl rfl rfl
                have g98 : F_ 98 = .int .i64 ((upB (downB (clB 524288 b) (((k : Nat) : Int))) (((k : Nat) : Int))) (i)) := hD.get 1 rfl rfl rfl
                exact ⟨g92, (y_sub rfl g95 g98 (i64_i rfl (by omega)) ⟨rfl, Kept.refl _ _⟩)⟩
              refine stepsF_cons ?_ ?_
              · refine StepF.when 9 false 92 rfl rfl fun F_ w_ hR hout hD => ?_
                have g92 : F_ 92 = .bool false := hD.get 0 rfl rfl rfl
                exact ⟨g92, (y_mov rfl ((hout 8 (by decide)).trans s365) ⟨rfl, Kept.refl _ _⟩)⟩
              refine stepsF_cons ?_ ?_
              · refine StepF.when 9 false 92 rfl rfl fun F_ w_ hR hout hD => ?_
                have g92 : F_ 92 = .bool false := hD.get 2 rfl rfl rfl
                have g99 : F_ 99 = .int .i64 (((clB 524288 b) (i)) - ((upB (downB (clB 524288 b) (((k : Nat) : Int))) (((k : Nat) : Int))) (i))) := hD.get 0 rfl rfl rfl
                have g100 : F_ 100 = .int .i64 (stp (((k : Nat) : Int)) / 2) := hD.get 1 rfl rfl rfl
                exact ⟨g92, (y_gtr rfl g99 g100 (decide_eq_false (by omega)) ⟨rfl, Kept.refl _ _⟩)⟩
              refine stepsF_cons ?_ ?_
              · refine StepF.one rfl fun F_ w_ hR hout hD => ?_
                have g92 : F_ 92 = .bool false := hD.get 0 rfl rfl rfl
                have g101 : F_ 101 = .bool false := hD.get 1 rfl rfl rfl
                exact (y_pickF rfl g92 g101 ⟨rfl, Kept.refl _ _⟩)
              refine stepsF_cons ?_ ?_
              · refine StepF.one rfl fun F_ w_ hR hout hD => ?_
                have g102 : F_ 102 = .bool false := hD.get 0 rfl rfl rfl
                exact (y_mov rfl g102 ⟨rfl, Kept.refl _ _⟩)
              refine stepsF_cons ?_ ?_
              · refine StepF.when 20 false 103 rfl rfl fun F_ w_ hR hout hD => ?_
                have g103 : F_ 103 = .bool false := hD.get 0 rfl rfl rfl
                exact ⟨g103, (y_mov rfl ((hout 16 (by decide)).trans s368) ⟨rfl, Kept.refl _ _⟩)⟩
              refine stepsF_cons ?_ ?_
              · refine StepF.when 20 false 103 rfl rfl fun F_ w_ hR hout hD => ?_
                have g103 : F_ 103 = .bool false := hD.get 1 rfl rfl rfl
                have g104 : F_ 104 = .int .i64 (((i : Nat) : Int)) := hD.get 0 rfl rfl rfl
                exact ⟨g103, (y_atR (i) (s := 1) rfl ((hout 10 (by decide)).trans s366) g104 (by omega) Tryd.underlying27 (by omega) (by kernel_rfl) (by omega) ⟨rfl, Kept.refl _ _⟩)⟩
              refine stepsF_cons ?_ ?_
              · refine StepF.when 20 false 103 rfl rfl fun F_ w_ hR hout hD => ?_
                have g103 : F_ 103 = .bool false := hD.get 1 rfl rfl rfl
                have g105 : F_ 105 = .pointer (some ⟨p83, i, none⟩) := hD.get 0 rfl rfl rfl
                exact ⟨g103, (y_ldR rfl g105 Tryd.underlying3 (((B358.all hR id)).cell (by omega)) ⟨rfl, Kept.refl _ _⟩)⟩
              refine stepsF_cons ?_ ?_
              · refine StepF.when 20 false 103 rfl rfl fun F_ w_ hR hout hD => ?_
                have g103 : F_ 103 = .bool false := hD.get 1 rfl rfl rfl
                have g106 : F_ 106 = .int .i64 ((downB (clB 524288 b) (((k : Nat) : Int))) (i)) := hD.get 0 rfl rfl rfl
                exact ⟨g103, (y_gtr rfl g106 rfl (decide_eq_false d371) ⟨rfl, Kept.refl _ _⟩)⟩
              refine stepsF_cons ?_ ?_
              · refine StepF.when 20 false 103 rfl rfl fun F_ w_ hR hout hD => ?_
                have g103 : F_ 103 = .bool false := hD.get 1 rfl rfl rfl
                have g107 : F_ 107 = .bool false := hD.get 0 rfl rfl rfl
                exact ⟨g103, (y_mov rfl g107 ⟨rfl, Kept.refl _ _⟩)⟩
              refine stepsF_cons ?_ ?_
              · refine StepF.unless 25 true 108 rfl rfl fun F_ w_ hR hout hD => ?_
                have g108 : F_ 108 = .bool false := hD.get 0 rfl rfl rfl
                exact ⟨Or.inl g108, rfl⟩
              refine stepsF_cons ?_ ?_
              · refine StepF.unless 25 true 108 rfl rfl fun F_ w_ hR hout hD => ?_
                have g108 : F_ 108 = .bool false := hD.get 1 rfl rfl rfl
                exact ⟨Or.inl g108, rfl⟩
              refine stepsF_cons ?_ ?_
              · refine StepF.unless 25 true 108 rfl rfl fun F_ w_ hR hout hD => ?_
                have g108 : F_ 108 = .bool false := hD.get 1 rfl rfl rfl
                exact ⟨Or.inl g108, rfl⟩
              refine stepsF_cons ?_ ?_
              · refine StepF.unless 25 true 108 rfl rfl fun F_ w_ hR hout hD => ?_
                have g108 : F_ 108 = .bool false := hD.get 1 rfl rfl rfl
                exact ⟨Or.inl g108, rfl⟩
              refine stepsF_cons ?_ ?_
              · refine StepF.when 20 false 103 rfl rfl fun F_ w_ hR hout hD => ?_
                have g103 : F_ 103 = .bool false := hD.get 2 rfl rfl rfl
                have g108 : F_ 108 = .bool false := hD.get 0 rfl rfl rfl
                exact ⟨g103, (y_pickF rfl g108 rfl ⟨rfl, Kept.refl _ _⟩)⟩
              refine stepsF_cons ?_ ?_
              · refine StepF.one rfl fun F_ w_ hR hout hD => ?_
                have g103 : F_ 103 = .bool false := hD.get 0 rfl rfl rfl
                have g113 : F_ 113 = .bool false := hD.get 1 rfl rfl rfl
                exact (y_pickF rfl g103 g113 ⟨rfl, Kept.refl _ _⟩)
              refine stepsF_cons ?_ ?_
              · refine StepF.one rfl fun F_ w_ hR hout hD => ?_
                have g114 : F_ 114 = .bool false := hD.get 0 rfl rfl rfl
                exact (y_mov rfl g114 ⟨rfl, Kept.refl _ _⟩)
              refine stepsF_cons ?_ ?_
              · refine StepF.when 32 false 115 rfl rfl fun F_ w_ hR hout hD => ?_
                have g115 : F_ 115 = .bool false := hD.get 0 rfl rfl rfl
                exact ⟨g115, (y_mov rfl ((hout 16 (by decide)).trans s368) ⟨rfl, Kept.refl _ _⟩)⟩
              refine stepsF_cons ?_ ?_
              · refine StepF.when 32 false 115 rfl rfl fun F_ w_ hR hout hD => ?_
                have g115 : F_ 115 = .bool false := hD.get 1 rfl rfl rfl
                have g116 : F_ 116 = .int .i64 (((i : Nat) : Int)) := hD.get 0 rfl rfl rfl
                exact ⟨g115, (y_atR (i) (s := 1) rfl ((hout 10 (by decide)).trans s366) g116 (by omega) Tryd.underlying27 (by omega) (by kernel_rfl) (by omega) ⟨rfl, Kept.refl _ _⟩)⟩
              refine stepsF_cons ?_ ?_
              · refine StepF.when 32 false 115 rfl rfl fun F_ w_ hR hout hD => ?_
                have g115 : F_ 115 = .bool false := hD.get 1 rfl rfl rfl
                have g117 : F_ 117 = .pointer (some ⟨p83, i, none⟩) := hD.get 0 rfl rfl rfl
                exact ⟨g115, (y_ldR rfl g117 Tryd.underlying3 (((B358.all hR id)).cell (by omega)) ⟨rfl, Kept.refl _ _⟩)⟩
              refine stepsF_cons ?_ ?_
              · refine StepF.when 32 false 115 rfl rfl fun F_ w_ hR hout hD => ?_
                have g115 : F_ 115 = .bool false := hD.get 1 rfl rfl rfl
                have g118 : F_ 118 = .int .i64 ((downB (clB 524288 b) (((k : Nat) : Int))) (i)) := hD.get 0 rfl rfl rfl
                exact ⟨g115, (y_lss rfl g118 rfl (decide_eq_true d425) ⟨rfl, Kept.refl _ _⟩)⟩
              refine stepsF_cons ?_ ?_
              · refine StepF.when 32 false 115 rfl rfl fun F_ w_ hR hout hD => ?_
                have g115 : F_ 115 = .bool false := hD.get 1 rfl rfl rfl
                have g119 : F_ 119 = .bool true := hD.get 0 rfl rfl rfl
                exact ⟨g115, (y_mov rfl g119 ⟨rfl, Kept.refl _ _⟩)⟩
              refine stepsF_cons ?_ ?_
              · refine StepF.when 37 true 120 rfl rfl fun F_ w_ hR hout hD => ?_
                have g120 : F_ 120 = .bool true := hD.get 0 rfl rfl rfl
                exact ⟨g120, (y_mov rfl ((hout 16 (by decide)).trans s368) ⟨rfl, Kept.refl _ _⟩)⟩
              refine stepsF_cons ?_ ?_
              · refine StepF.when 37 true 120 rfl rfl fun F_ w_ hR hout hD => ?_
                have g120 : F_ 120 = .bool true := hD.get 1 rfl rfl rfl
                have g121 : F_ 121 = .int .i64 (((i : Nat) : Int)) := hD.get 0 rfl rfl rfl
                exact ⟨g120, (y_atR (i) (s := 1) rfl ((hout 2 (by decide)).trans s363) g121 (by omega) Tryd.underlying22 (by omega) (by kernel_rfl) (by omega) ⟨rfl, Kept.refl _ _⟩)⟩
              refine stepsF_cons ?_ ?_
              · refine StepF.when 37 true 120 rfl rfl fun F_ w_ hR hout hD => ?_
                have g120 : F_ 120 = .bool true := hD.get 1 rfl rfl rfl
                have g122 : F_ 122 = .pointer (some ⟨p1, i, none⟩) := hD.get 0 rfl rfl rfl
                exact ⟨g120, (y_ldR rfl g122 Tryd.underlying3 (((B357.all hR id)).cell (by omega)) ⟨rfl, Kept.refl _ _⟩)⟩
              refine stepsF_cons ?_ ?_
              · refine StepF.when 37 true 120 rfl rfl fun F_ w_ hR hout hD => ?_
                have g120 : F_ 120 = .bool true := hD.get 1 rfl rfl rfl
                have g123 : F_ 123 = .int .i64 ((clB 524288 b) (i)) := hD.get 0 rfl rfl rfl
                exact ⟨g120, (y_gtr rfl g123 rfl (decide_eq_false (by omega)) ⟨rfl, Kept.refl _ _⟩)⟩
              refine stepsF_cons ?_ ?_
              · refine StepF.when 32 false 115 rfl rfl fun F_ w_ hR hout hD => ?_
                have g115 : F_ 115 = .bool false := hD.get 2 rfl rfl rfl
                have g120 : F_ 120 = .bool true := hD.get 0 rfl rfl rfl
                have g124 : F_ 124 = .bool false := hD.get 1 rfl rfl rfl
                exact ⟨g115, (y_pickT rfl g120 g124 ⟨rfl, Kept.refl _ _⟩)⟩
              refine stepsF_cons ?_ ?_
              · refine StepF.one rfl fun F_ w_ hR hout hD => ?_
                have g115 : F_ 115 = .bool false := hD.get 0 rfl rfl rfl
                have g125 : F_ 125 = .bool false := hD.get 1 rfl rfl rfl
                exact (y_pickF rfl g115 g125 ⟨rfl, Kept.refl _ _⟩)
              exact stepsF_nil
            intro v426 F427 w428 k429 G430 hF431
            have B432 := B357.all k429 id
            have B433 := B358.all k429 id
            have B434 := B359.all k429 id
            have B435 := B360.all k429 id
            have K436 := K348.trans k429 (fun _ _ x => x)
            have s437 : F427 2 = .pointer (some ⟨p1, 0, none⟩) := (hF431 2).trans s363
            have s438 : F427 5 = .bool true := (hF431 5).trans s364
            have s439 : F427 8 = .int .i64 (stp (((k : Nat) : Int)) / 2) := (hF431 8).trans s365
            have s440 : F427 10 = .pointer (some ⟨p83, 0, none⟩) := (hF431 10).trans s366
            have s441 : F427 12 = .pointer (some ⟨p111, 0, none⟩) := (hF431 12).trans s367
            have s442 : F427 16 = .int .i64 (((i : Nat) : Int)) := (hF431 16).trans s368
            have s443 : F427 126 = .bool false := (hF431 126).trans (G430 43 (by decide))
            clear G430 hF431
            refine then_normal ?_
            refine wq_cond (t := false) s443 (fun e => by cases e) (fun _ => ?_)
            refine wq_skip ?_
            refine in_normal ?_
            refine then_normal ?_
            refine wq_region ?_
            refine wl_v (.int .i64 (((i : Nat) : Int))) rfl rfl (y_mov rfl s442 ⟨rfl, rfl⟩) ?_
            refine wl_v (.int .i64 (((i + 1 : Nat) : Int))) rfl rfl (y_add rfl rfl rfl (i64_n (by omega) (by omega)) ⟨rfl, rfl⟩) ?_
            refine wl_v (.int .i64 (((i + 1 : Nat) : Int))) rfl rfl (y_asg rfl rfl ⟨rfl, rfl⟩) ?_
            refine wl_nil fun F444 hF445 => ?_
            have s446 : F444 2 = .pointer (some ⟨p1, 0, none⟩) := (hF445 2).trans s437
            have s447 : F444 5 = .bool true := (hF445 5).trans s438
            have s448 : F444 8 = .int .i64 (stp (((k : Nat) : Int)) / 2) := (hF445 8).trans s439
            have s449 : F444 10 = .pointer (some ⟨p83, 0, none⟩) := (hF445 10).trans s440
            have s450 : F444 12 = .pointer (some ⟨p111, 0, none⟩) := (hF445 12).trans s441
            have s451 : F444 16 = .int .i64 (((i + 1 : Nat) : Int)) := (hF445 16).trans rfl
            clear hF445
            exact then_normal ⟨(16 - (i + 1)), by omega, i + 1, by omega, rfl, s446, s447, s448, s449, s450, s451, K436, B432, B433, B434, B435⟩
          · skip
            refine wq_said [some 83, some 84, some 85, some 86, some 87, some 88, some 89, some 90, some 91, some 92, some 93, some 94, some 95, some 96, some 97, some 98, some 99, some 100, some 101, some 102, some 103, some 104, some 105, some 106, some 107, some 108, some 109, some 110, some 111, some 112, some 113, some 114, some 115, some 116, some 117, some 118, some 119, some 120, some 121, some 122, some 123, some 124, some 125, some 126] [Pd.eq (.int .i64 (((i : Nat) : Int))), Pd.eq (.pointer (some ⟨p111, i, none⟩)), Pd.eq (.int .i64 ((upB (downB (clB 524288 b) (((k : Nat) : Int))) (((k : Nat) : Int))) (i))), Pd.eq (.int .i64 (((i : Nat) : Int))), Pd.eq (.pointer (some ⟨p1, i, none⟩)), Pd.eq (.int .i64 ((clB 524288 b) (i))), Pd.eq (.int .i64 (((upB (downB (clB 524288 b) (((k : Nat) : Int))) (((k : Nat) : Int))) (i)) - ((clB 524288 b) (i)))), Pd.eq (.int .i64 (stp (((k : Nat) : Int)) / 2)), Pd.eq (.bool false), Pd.eq (.bool false), Pd.eq (.int .i64 (((i : Nat) : Int))), Pd.eq (.pointer (some ⟨p1, i, none⟩)), Pd.eq (.int .i64 ((clB 524288 b) (i))), Pd.eq (.int .i64 (((i : Nat) : Int))), Pd.eq (.pointer (some ⟨p111, i, none⟩)), Pd.eq (.int .i64 ((upB (downB (clB 524288 b) (((k : Nat) : Int))) (((k : Nat) : Int))) (i))), Pd.eq (.int .i64 (((clB 524288 b) (i)) - ((upB (downB (clB 524288 b) (((k : Nat) : Int))) (((k : Nat) : Int))) (i)))), Pd.eq (.int .i64 (stp (((k : Nat) : Int)) / 2)), Pd.eq (.bool false), Pd.eq (.bool false), Pd.eq (.bool false), Pd.eq (.int .i64 (((i : Nat) : Int))), Pd.eq (.pointer (some ⟨p83, i, none⟩)), Pd.eq (.int .i64 ((downB (clB 524288 b) (((k : Nat) : Int))) (i))), Pd.eq (.bool false), Pd.eq (.bool false), Pd.eq undef, Pd.eq undef, Pd.eq undef, Pd.eq undef, Pd.eq (.bool false), Pd.eq (.bool false), Pd.eq (.bool false), Pd.eq (.int .i64 (((i : Nat) : Int))), Pd.eq (.pointer (some ⟨p83, i, none⟩)), Pd.eq (.int .i64 ((downB (clB 524288 b) (((k : Nat) : Int))) (i))), Pd.eq (.bool false), Pd.eq (.bool false), Pd.eq undef, Pd.eq undef, Pd.eq undef, Pd.eq undef, Pd.eq (.bool false), Pd.eq (.bool false)] (by kernel_rfl) (by kernel_rfl) ?_ ?_
            · refine stepsF_cons ?_ ?_
              · refine StepF.one rfl fun F_ w_ hR hout hD => ?_
                exact (y_mov rfl ((hout 16 (by decide)).trans s368) ⟨rfl, Kept.refl _ _⟩)
              refine stepsF_cons ?_ ?_
              · refine StepF.one rfl fun F_ w_ hR hout hD => ?_
                have g83 : F_ 83 = .int .i64 (((i : Nat) : Int)) := hD.get 0 rfl rfl rfl
                exact (y_atR (i) (s := 1) rfl ((hout 12 (by decide)).trans s367) g83 (by omega) Tryd.underlying27 (by omega) (by kernel_rfl) (by omega) ⟨rfl, Kept.refl _ _⟩)
              refine stepsF_cons ?_ ?_
              · refine StepF.one rfl fun F_ w_ hR hout hD => ?_
                have g84 : F_ 84 = .pointer (some ⟨p111, i, none⟩) := hD.get 0 rfl rfl rfl
                exact (y_ldR rfl g84 Tryd.underlying3 (((B359.all hR id)).cell (by omega)) ⟨rfl, Kept.refl _ _⟩)
              refine stepsF_cons ?_ ?_
              · refine StepF.one rfl fun F_ w_ hR hout hD => ?_
                exact (y_mov rfl ((hout 16 (by decide)).trans s368) ⟨rfl, Kept.refl _ _⟩)
              refine stepsF_cons ?_ ?_
              · refine StepF.one rfl fun F_ w_ hR hout hD => ?_
                have g86 : F_ 86 = .int .i64 (((i : Nat) : Int)) := hD.get 0 rfl rfl rfl
                exact (y_atR (i) (s := 1) rfl ((hout 2 (by decide)).trans s363) g86 (by omega) Tryd.underlying22 (by omega) (by kernel_rfl) (by omega) ⟨rfl, Kept.refl _ _⟩)
              refine stepsF_cons ?_ ?_
              · refine StepF.one rfl fun F_ w_ hR hout hD => ?_
                have g87 : F_ 87 = .pointer (some ⟨p1, i, none⟩) := hD.get 0 rfl rfl rfl
                exact (y_ldR rfl g87 Tryd.underlying3 (((B357.all hR id)).cell (by omega)) ⟨rfl, Kept.refl _ _⟩)
              refine stepsF_cons ?_ ?_
              · refine StepF.one rfl fun F_ w_ hR hout hD => ?_
                have g85 : F_ 85 = .int .i64 ((upB (downB (clB 524288 b) (((k : Nat) : Int))) (((k : Nat) : Int))) (i)) := hD.get 0 rfl rfl rfl
                have g88 : F_ 88 = .int .i64 ((clB 524288 b) (i)) := hD.get 1 rfl rfl rfl
                exact (y_sub rfl g85 g88 (i64_i rfl (by omega)) ⟨rfl, Kept.refl _ _⟩)
              refine stepsF_cons ?_ ?_
              · refine StepF.one rfl fun F_ w_ hR hout hD => ?_
                exact (y_mov rfl ((hout 8 (by decide)).trans s365) ⟨rfl, Kept.refl _ _⟩)
              refine stepsF_cons ?_ ?_
              · refine StepF.one rfl fun F_ w_ hR hout hD => ?_
                have g89 : F_ 89 = .int .i64 (((upB (downB (clB 524288 b) (((k : Nat) : Int))) (((k : Nat) : Int))) (i)) - ((clB 524288 b) (i))) := hD.get 0 rfl rfl rfl
                have g90 : F_ 90 = .int .i64 (stp (((k : Nat) : Int)) / 2) := hD.get 1 rfl rfl rfl
                exact (y_gtr rfl g89 g90 (decide_eq_false (by omega)) ⟨rfl, Kept.refl _ _⟩)
              refine stepsF_cons ?_ ?_
              · refine StepF.one rfl fun F_ w_ hR hout hD => ?_
                have g91 : F_ 91 = .bool false := hD.get 0 rfl rfl rfl
                exact (y_mov rfl g91 ⟨rfl, Kept.refl _ _⟩)
              refine stepsF_cons ?_ ?_
              · refine StepF.when 9 false 92 rfl rfl fun F_ w_ hR hout hD => ?_
                have g92 : F_ 92 = .bool false := hD.get 0 rfl rfl rfl
                exact ⟨g92, (y_mov rfl ((hout 16 (by decide)).trans s368) ⟨rfl, Kept.refl _ _⟩)⟩
              refine stepsF_cons ?_ ?_
              · refine StepF.when 9 false 92 rfl rfl fun F_ w_ hR hout hD => ?_
                have g92 : F_ 92 = .bool false := hD.get 1 rfl rfl rfl
                have g93 : F_ 93 = .int .i64 (((i : Nat) : Int)) := hD.get 0 rfl rfl rfl
                exact ⟨g92, (y_atR (i) (s := 1) rfl ((hout 2 (by decide)).trans s363) g93 (by omega) Tryd.underlying22 (by omega) (by kernel_rfl) (by omega) ⟨rfl, Kept.refl _ _⟩)⟩
              refine stepsF_cons ?_ ?_
              · refine StepF.when 9 false 92 rfl rfl fun F_ w_ hR hout hD => ?_
                have g92 : F_ 92 = .bool false := hD.get 1 rfl rfl rfl
                have g94 : F_ 94 = .pointer (some ⟨p1, i, none⟩) := hD.get 0 rfl rfl rfl
                exact ⟨g92, (y_ldR rfl g94 Tryd.underlying3 (((B357.all hR id)).cell (by omega)) ⟨rfl, Kept.refl _ _⟩)⟩
              refine stepsF_cons ?_ ?_
              · refine StepF.when 9 false 92 rfl rfl fun F_ w_ hR hout hD => ?_
                have g92 : F_ 92 = .bool false := hD.get 0 rfl rfl rfl
                exact ⟨g92, (y_mov rfl ((hout 16 (by decide)).trans s368) ⟨rfl, Kept.refl _ _⟩)⟩
              refine stepsF_cons ?_ ?_
              · refine StepF.when 9 false 92 rfl rfl fun F_ w_ hR hout hD => ?_
                have g92 : F_ 92 = .bool false := hD.get 1 rfl rfl rfl
                have g96 : F_ 96 = .int .i64 (((i : Nat) : Int)) := hD.get 0 rfl rfl rfl
                exact ⟨g92, (y_atR (i) (s := 1) rfl ((hout 12 (by decide)).trans s367) g96 (by omega) Tryd.underlying27 (by omega) (by kernel_rfl) (by omega) ⟨rfl, Kept.refl _ _⟩)⟩
              refine stepsF_cons ?_ ?_
              · refine StepF.when 9 false 92 rfl rfl fun F_ w_ hR hout hD => ?_
                have g92 : F_ 92 = .bool false := hD.get 1 rfl rfl rfl
                have g97 : F_ 97 = .pointer (some ⟨p111, i, none⟩) := hD.get 0 rfl rfl rfl
                exact ⟨g92, (y_ldR rfl g97 Tryd.underlying3 (((B359.all hR id)).cell (by omega)) ⟨rfl, Kept.refl _ _⟩)⟩
              refine stepsF_cons ?_ ?_
              · refine StepF.when 9 false 92 rfl rfl fun F_ w_ hR hout hD => ?_
                have g92 : F_ 92 = .bool false := hD.get 2 rfl rfl rfl
                have g95 : F_ 95 = .int .i64 ((clB 524288 b) (i)) := hD.get 0 rfl rfl rfl
                have g98 : F_ 98 = .int .i64 ((upB (downB (clB 524288 b) (((k : Nat) : Int))) (((k : Nat) : Int))) (i)) := hD.get 1 rfl rfl rfl
                exact ⟨g92, (y_sub rfl g95 g98 (i64_i rfl (by omega)) ⟨rfl, Kept.refl _ _⟩)⟩
              refine stepsF_cons ?_ ?_
              · refine StepF.when 9 false 92 rfl rfl fun F_ w_ hR hout hD => ?_
                have g92 : F_ 92 = .bool false := hD.get 0 rfl rfl rfl
                exact ⟨g92, (y_mov rfl ((hout 8 (by decide)).trans s365) ⟨rfl, Kept.refl _ _⟩)⟩
              refine stepsF_cons ?_ ?_
              · refine StepF.when 9 false 92 rfl rfl fun F_ w_ hR hout hD => ?_
                have g92 : F_ 92 = .bool false := hD.get 2 rfl rfl rfl
                have g99 : F_ 99 = .int .i64 (((clB 524288 b) (i)) - ((upB (downB (clB 524288 b) (((k : Nat) : Int))) (((k : Nat) : Int))) (i))) := hD.get 0 rfl rfl rfl
                have g100 : F_ 100 = .int .i64 (stp (((k : Nat) : Int)) / 2) := hD.get 1 rfl rfl rfl
                exact ⟨g92, (y_gtr rfl g99 g100 (decide_eq_false (by omega)) ⟨rfl, Kept.refl _ _⟩)⟩
              refine stepsF_cons ?_ ?_
              · refine StepF.one rfl fun F_ w_ hR hout hD => ?_
                have g92 : F_ 92 = .bool false := hD.get 0 rfl rfl rfl
                have g101 : F_ 101 = .bool false := hD.get 1 rfl rfl rfl
                exact (y_pickF rfl g92 g101 ⟨rfl, Kept.refl _ _⟩)
              refine stepsF_cons ?_ ?_
              · refine StepF.one rfl fun F_ w_ hR hout hD => ?_
                have g102 : F_ 102 = .bool false := hD.get 0 rfl rfl rfl
                exact (y_mov rfl g102 ⟨rfl, Kept.refl _ _⟩)
              refine stepsF_cons ?_ ?_
              · refine StepF.when 20 false 103 rfl rfl fun F_ w_ hR hout hD => ?_
                have g103 : F_ 103 = .bool false := hD.get 0 rfl rfl rfl
                exact ⟨g103, (y_mov rfl ((hout 16 (by decide)).trans s368) ⟨rfl, Kept.refl _ _⟩)⟩
              refine stepsF_cons ?_ ?_
              · refine StepF.when 20 false 103 rfl rfl fun F_ w_ hR hout hD => ?_
                have g103 : F_ 103 = .bool false := hD.get 1 rfl rfl rfl
                have g104 : F_ 104 = .int .i64 (((i : Nat) : Int)) := hD.get 0 rfl rfl rfl
                exact ⟨g103, (y_atR (i) (s := 1) rfl ((hout 10 (by decide)).trans s366) g104 (by omega) Tryd.underlying27 (by omega) (by kernel_rfl) (by omega) ⟨rfl, Kept.refl _ _⟩)⟩
              refine stepsF_cons ?_ ?_
              · refine StepF.when 20 false 103 rfl rfl fun F_ w_ hR hout hD => ?_
                have g103 : F_ 103 = .bool false := hD.get 1 rfl rfl rfl
                have g105 : F_ 105 = .pointer (some ⟨p83, i, none⟩) := hD.get 0 rfl rfl rfl
                exact ⟨g103, (y_ldR rfl g105 Tryd.underlying3 (((B358.all hR id)).cell (by omega)) ⟨rfl, Kept.refl _ _⟩)⟩
              refine stepsF_cons ?_ ?_
              · refine StepF.when 20 false 103 rfl rfl fun F_ w_ hR hout hD => ?_
                have g103 : F_ 103 = .bool false := hD.get 1 rfl rfl rfl
                have g106 : F_ 106 = .int .i64 ((downB (clB 524288 b) (((k : Nat) : Int))) (i)) := hD.get 0 rfl rfl rfl
                exact ⟨g103, (y_gtr rfl g106 rfl (decide_eq_false d371) ⟨rfl, Kept.refl _ _⟩)⟩
              refine stepsF_cons ?_ ?_
              · refine StepF.when 20 false 103 rfl rfl fun F_ w_ hR hout hD => ?_
                have g103 : F_ 103 = .bool false := hD.get 1 rfl rfl rfl
                have g107 : F_ 107 = .bool false := hD.get 0 rfl rfl rfl
                exact ⟨g103, (y_mov rfl g107 ⟨rfl, Kept.refl _ _⟩)⟩
              refine stepsF_cons ?_ ?_
              · refine StepF.unless 25 true 108 rfl rfl fun F_ w_ hR hout hD => ?_
                have g108 : F_ 108 = .bool false := hD.get 0 rfl rfl rfl
                exact ⟨Or.inl g108, rfl⟩
              refine stepsF_cons ?_ ?_
              · refine StepF.unless 25 true 108 rfl rfl fun F_ w_ hR hout hD => ?_
                have g108 : F_ 108 = .bool false := hD.get 1 rfl rfl rfl
                exact ⟨Or.inl g108, rfl⟩
              refine stepsF_cons ?_ ?_
              · refine StepF.unless 25 true 108 rfl rfl fun F_ w_ hR hout hD => ?_
                have g108 : F_ 108 = .bool false := hD.get 1 rfl rfl rfl
                exact ⟨Or.inl g108, rfl⟩
              refine stepsF_cons ?_ ?_
              · refine StepF.unless 25 true 108 rfl rfl fun F_ w_ hR hout hD => ?_
                have g108 : F_ 108 = .bool false := hD.get 1 rfl rfl rfl
                exact ⟨Or.inl g108, rfl⟩
              refine stepsF_cons ?_ ?_
              · refine StepF.when 20 false 103 rfl rfl fun F_ w_ hR hout hD => ?_
                have g103 : F_ 103 = .bool false := hD.get 2 rfl rfl rfl
                have g108 : F_ 108 = .bool false := hD.get 0 rfl rfl rfl
                exact ⟨g103, (y_pickF rfl g108 rfl ⟨rfl, Kept.refl _ _⟩)⟩
              refine stepsF_cons ?_ ?_
              · refine StepF.one rfl fun F_ w_ hR hout hD => ?_
                have g103 : F_ 103 = .bool false := hD.get 0 rfl rfl rfl
                have g113 : F_ 113 = .bool false := hD.get 1 rfl rfl rfl
                exact (y_pickF rfl g103 g113 ⟨rfl, Kept.refl _ _⟩)
              refine stepsF_cons ?_ ?_
              · refine StepF.one rfl fun F_ w_ hR hout hD => ?_
                have g114 : F_ 114 = .bool false := hD.get 0 rfl rfl rfl
                exact (y_mov rfl g114 ⟨rfl, Kept.refl _ _⟩)
              refine stepsF_cons ?_ ?_
              · refine StepF.when 32 false 115 rfl rfl fun F_ w_ hR hout hD => ?_
                have g115 : F_ 115 = .bool false := hD.get 0 rfl rfl rfl
                exact ⟨g115, (y_mov rfl ((hout 16 (by decide)).trans s368) ⟨rfl, Kept.refl _ _⟩)⟩
              refine stepsF_cons ?_ ?_
              · refine StepF.when 32 false 115 rfl rfl fun F_ w_ hR hout hD => ?_
                have g115 : F_ 115 = .bool false := hD.get 1 rfl rfl rfl
                have g116 : F_ 116 = .int .i64 (((i : Nat) : Int)) := hD.get 0 rfl rfl rfl
                exact ⟨g115, (y_atR (i) (s := 1) rfl ((hout 10 (by decide)).trans s366) g116 (by omega) Tryd.underlying27 (by omega) (by kernel_rfl) (by omega) ⟨rfl, Kept.refl _ _⟩)⟩
              refine stepsF_cons ?_ ?_
              · refine StepF.when 32 false 115 rfl rfl fun F_ w_ hR hout hD => ?_
                have g115 : F_ 115 = .bool false := hD.get 1 rfl rfl rfl
                have g117 : F_ 117 = .pointer (some ⟨p83, i, none⟩) := hD.get 0 rfl rfl rfl
                exact ⟨g115, (y_ldR rfl g117 Tryd.underlying3 (((B358.all hR id)).cell (by omega)) ⟨rfl, Kept.refl _ _⟩)⟩
              refine stepsF_cons ?_ ?_
              · refine StepF.when 32 false 115 rfl rfl fun F_ w_ hR hout hD => ?_
                have g115 : F_ 115 = .bool false := hD.get 1 rfl rfl rfl
                have g118 : F_ 118 = .int .i64 ((downB (clB 524288 b) (((k : Nat) : Int))) (i)) := hD.get 0 rfl rfl rfl
                exact ⟨g115, (y_lss rfl g118 rfl (decide_eq_false d425) ⟨rfl, Kept.refl _ _⟩)⟩
              refine stepsF_cons ?_ ?_
              · refine StepF.when 32 false 115 rfl rfl fun F_ w_ hR hout hD => ?_
                have g115 : F_ 115 = .bool false := hD.get 1 rfl rfl rfl
                have g119 : F_ 119 = .bool false := hD.get 0 rfl rfl rfl
                exact ⟨g115, (y_mov rfl g119 ⟨rfl, Kept.refl _ _⟩)⟩
              refine stepsF_cons ?_ ?_
              · refine StepF.unless 37 true 120 rfl rfl fun F_ w_ hR hout hD => ?_
                have g120 : F_ 120 = .bool false := hD.get 0 rfl rfl rfl
                exact ⟨Or.inl g120, rfl⟩
              refine stepsF_cons ?_ ?_
              · refine StepF.unless 37 true 120 rfl rfl fun F_ w_ hR hout hD => ?_
                have g120 : F_ 120 = .bool false := hD.get 1 rfl rfl rfl
                exact ⟨Or.inl g120, rfl⟩
              refine stepsF_cons ?_ ?_
              · refine StepF.unless 37 true 120 rfl rfl fun F_ w_ hR hout hD => ?_
                have g120 : F_ 120 = .bool false := hD.get 1 rfl rfl rfl
                exact ⟨Or.inl g120, rfl⟩
              refine stepsF_cons ?_ ?_
              · refine StepF.unless 37 true 120 rfl rfl fun F_ w_ hR hout hD => ?_
                have g120 : F_ 120 = .bool false := hD.get 1 rfl rfl rfl
                exact ⟨Or.inl g120, rfl⟩
              refine stepsF_cons ?_ ?_
              · refine StepF.when 32 false 115 rfl rfl fun F_ w_ hR hout hD => ?_
                have g115 : F_ 115 = .bool false := hD.get 2 rfl rfl rfl
                have g120 : F_ 120 = .bool false := hD.get 0 rfl rfl rfl
                exact ⟨g115, (y_pickF rfl g120 rfl ⟨rfl, Kept.refl _ _⟩)⟩
              refine stepsF_cons ?_ ?_
              · refine StepF.one rfl fun F_ w_ hR hout hD => ?_
                have g115 : F_ 115 = .bool false := hD.get 0 rfl rfl rfl
                have g125 : F_ 125 = .bool false := hD.get 1 rfl rfl rfl
                exact (y_pickF rfl g115 g125 ⟨rfl, Kept.refl _ _⟩)
              exact stepsF_nil
            intro v452 F453 w454 k455 G456 hF457
            have B458 := B357.all k455 id
            have B459 := B358.all k455 id
            have B460 := B359.all k455 id
            have B461 := B360.all k455 id
            have K462 := K348.trans k455 (fun _ _ x => x)
            have s463 : F453 2 = .pointer (some ⟨p1, 0, none⟩) := (hF457 2).trans s363
            have s464 : F453 5 = .bool true := (hF457 5).trans s364
            have s465 : F453 8 = .int .i64 (stp (((k : Nat) : Int)) / 2) := (hF457 8).trans s365
            have s466 : F453 10 = .pointer (some ⟨p83, 0, none⟩) := (hF457 10).trans s366
            have s467 : F453 12 = .pointer (some ⟨p111, 0, none⟩) := (hF457 12).trans s367
            have s468 : F453 16 = .int .i64 (((i : Nat) : Int)) := (hF457 16).trans s368
            have s469 : F453 126 = .bool false := (hF457 126).trans (G456 43 (by decide))
            clear G456 hF457
            refine then_normal ?_
            refine wq_cond (t := false) s469 (fun e => by cases e) (fun _ => ?_)
            refine wq_skip ?_
            refine in_normal ?_
            refine then_normal ?_
            refine wq_region ?_
            refine wl_v (.int .i64 (((i : Nat) : Int))) rfl rfl (y_mov rfl s468 ⟨rfl, rfl⟩) ?_
            refine wl_v (.int .i64 (((i + 1 : Nat) : Int))) rfl rfl (y_add rfl rfl rfl (i64_n (by omega) (by omega)) ⟨rfl, rfl⟩) ?_
            refine wl_v (.int .i64 (((i + 1 : Nat) : Int))) rfl rfl (y_asg rfl rfl ⟨rfl, rfl⟩) ?_
            refine wl_nil fun F470 hF471 => ?_
            have s472 : F470 2 = .pointer (some ⟨p1, 0, none⟩) := (hF471 2).trans s463
            have s473 : F470 5 = .bool true := (hF471 5).trans s464
            have s474 : F470 8 = .int .i64 (stp (((k : Nat) : Int)) / 2) := (hF471 8).trans s465
            have s475 : F470 10 = .pointer (some ⟨p83, 0, none⟩) := (hF471 10).trans s466
            have s476 : F470 12 = .pointer (some ⟨p111, 0, none⟩) := (hF471 12).trans s467
            have s477 : F470 16 = .int .i64 (((i + 1 : Nat) : Int)) := (hF471 16).trans rfl
            clear hF471
            exact then_normal ⟨(16 - (i + 1)), by omega, i + 1, by omega, rfl, s472, s473, s474, s475, s476, s477, K462, B458, B459, B460, B461⟩
      · replace c370 := of_decide_eq_false c370
        refine wq_exit ?_
        refine then_exit ?_
        refine then_exit ?_
        have l478 : 16 = i := by omega
        subst l478
        refine in_here ?_
        refine then_normal ?_
        refine wq_seq ?_
        refine wq_region ?_
        refine wl_v (.bool true) rfl rfl (y_mov rfl s364 ⟨rfl, rfl⟩) ?_
        refine wl_v (.bool true) rfl rfl (y_asg rfl rfl ⟨rfl, rfl⟩) ?_
        refine wl_nil fun F479 hF480 => ?_
        have s481 : F479 4 = .bool true := (hF480 4).trans rfl
        clear hF480
        refine then_normal ?_
        refine wq_ret ?_
        exact end_tmp (v := .bool true) rfl s481 ⟨rfl, K348⟩

set_option maxHeartbeats 4000000 in
set_option maxRecDepth 100000 in
theorem qwaves_walk (b : Nat → Int) (q : Nat) (w0 : World) (hs : StepsAt w0) (hw : Waves w0) (hq : q < 256) :
    Calls Tryd.prog 5 #[blkV (b), .int .u8 (((q : Nat) : Int))] w0 fun e w' => e = .returned (.bool true) ∧ Kept (fun _ => False) w0 w' := by
  refine calls_wq (args := [blkV (b), .int .u8 (((q : Nat) : Int))]) 93 Tryd.func5 rfl rfl (Nat.le_of_ble_eq_true rfl) ?_
  have K0 := Kept.refl (fun _ => False) w0
  obtain ⟨k, hkq⟩ : ∃ k, k = q % 21 := ⟨_, rfl⟩
  have hk : k < 21 := by omega
  have he := ern_nat hk
  have hst := stp_in hk
  have hc := clB_at 255 (by omega) b
  have hnr := fun i hi => waves_near b hk i hi
  refine wq_seq ?_
  refine wq_region ?_
  refine wl_box_blk rfl rfl rfl rfl fun p1 w2 e5 B3 k4 => ?_
  have lp6 : w0.heap.size ≤ p1 := by have h_ := K0.size; omega
  clear e5
  have K7 := K0.trans k4 (fun _ _ x => x)
  refine wl_v (.bool false) rfl rfl (y_asg rfl rfl ⟨rfl, rfl⟩) ?_
  refine wl_nil fun F8 hF9 => ?_
  have s10 : F8 1 = .int .u8 (((q : Nat) : Int)) := (hF9 1).trans rfl
  have s11 : F8 2 = .pointer (some ⟨p1, 0, none⟩) := (hF9 2).trans rfl
  clear hF9
  refine then_normal ?_
  refine wq_seq ?_
  refine wq_region ?_
  refine wl_call (R := fun v_ w_ => v_ = .bool true ∧ Kept (fun _ => False) w2 w_) rfl rfl (y_cs rfl rfl rfl (fun _ _ => by kernel_rfl) (ev_func _) vsN (qawake_any  _ (hs.all K7)) (fun e_ w_ h_ => ⟨_, h_.1, rfl, h_.2⟩)) ?_
  rintro _ w12 ⟨rfl, k13⟩
  have B14 := B3.all k13 id
  have K15 := K7.trans k13 (fun _ _ x => x)
  refine wl_v (.bool true) rfl rfl (y_asg rfl rfl ⟨rfl, rfl⟩) ?_
  refine wl_nil fun F16 hF17 => ?_
  have s18 : F16 1 = .int .u8 (((q : Nat) : Int)) := (hF17 1).trans s10
  have s19 : F16 2 = .pointer (some ⟨p1, 0, none⟩) := (hF17 2).trans s11
  have s20 : F16 5 = .bool true := (hF17 5).trans rfl
  clear hF17
  refine then_normal ?_
  refine wq_seq ?_
  refine wq_region ?_
  refine wl_v (.int .u8 (((q : Nat) : Int))) rfl rfl (y_mov rfl s18 ⟨rfl, rfl⟩) ?_
  refine wl_v (.int .i64 (((q : Nat) : Int))) rfl rfl (y_convR rfl rfl Tryd.underlying5 Tryd.underlying3 (i64_i rfl (by omega)) ⟨rfl, rfl⟩) ?_
  refine wl_v (.int .i64 (((k : Nat) : Int))) rfl rfl (y_rem rfl rfl rfl (by first | decide | omega) ((mod_nat q 21).trans (by rw [hkq])) ⟨rfl, rfl⟩) ?_
  refine wl_v (.int .i64 (((k : Nat) : Int))) rfl rfl (y_asg rfl rfl ⟨rfl, rfl⟩) ?_
  refine wl_nil fun F21 hF22 => ?_
  have s23 : F21 2 = .pointer (some ⟨p1, 0, none⟩) := (hF22 2).trans s19
  have s24 : F21 5 = .bool true := (hF22 5).trans s20
  have s25 : F21 6 = .int .i64 (((k : Nat) : Int)) := (hF22 6).trans rfl
  clear hF22
  refine then_normal ?_
  refine wq_seq ?_
  refine wq_seq ?_
  refine wq_region ?_
  refine wl_v (.int .i64 (0)) rfl rfl (y_asg rfl rfl ⟨rfl, rfl⟩) ?_
  refine wl_nil fun F26 hF27 => ?_
  have s28 : F26 2 = .pointer (some ⟨p1, 0, none⟩) := (hF27 2).trans s23
  have s29 : F26 5 = .bool true := (hF27 5).trans s24
  have s30 : F26 6 = .int .i64 (((k : Nat) : Int)) := (hF27 6).trans s25
  have s31 : F26 7 = .int .i64 (0) := (hF27 7).trans rfl
  clear hF27
  refine then_normal ?_
  refine wq_block ?_
  refine wq_loop (fun nn FF ww => ∃ (i : Nat), i ≤ 16 ∧ nn = 16 - i ∧ FF 2 = .pointer (some ⟨p1, 0, none⟩) ∧ FF 5 = .bool true ∧ FF 6 = .int .i64 (((k : Nat) : Int)) ∧ FF 7 = .int .i64 (((i : Nat) : Int)) ∧ Kept (fun _ => False) w0 ww ∧ Blk ww p1 22 (upto i b (clB 255 b))) (16 - (0)) ⟨0, by omega, rfl, s28, s29, s30, s31, K15, B14.first⟩ ?_
  rintro n35 F32 w33 ⟨i, i36, hn35, s37, s38, s39, s40, K34, B41⟩
  refine wq_seq ?_
  refine wq_seq ?_
  refine wq_region ?_
  refine wl_v (.int .i64 (((i : Nat) : Int))) rfl rfl (y_mov rfl s40 ⟨rfl, rfl⟩) ?_
  refine wl_v (.bool (decide ((((i : Nat) : Int)) < (16)))) rfl rfl (y_lss rfl rfl rfl rfl ⟨rfl, rfl⟩) ?_
  refine wl_nil fun F42 hF43 => ?_
  have s44 : F42 2 = .pointer (some ⟨p1, 0, none⟩) := (hF43 2).trans s37
  have s45 : F42 5 = .bool true := (hF43 5).trans s38
  have s46 : F42 6 = .int .i64 (((k : Nat) : Int)) := (hF43 6).trans s39
  have s47 : F42 7 = .int .i64 (((i : Nat) : Int)) := (hF43 7).trans s40
  have s48 : F42 21 = .bool (decide ((((i : Nat) : Int)) < (16))) := (hF43 21).trans rfl
  clear hF43
  refine then_normal ?_
  refine wq_cond s48 (fun c49 => ?_) (fun c49 => ?_)
  · replace c49 := of_decide_eq_true c49
    refine wq_skip ?_
    refine then_normal ?_
    refine wq_seq ?_
    refine wq_block ?_
    refine wq_region ?_
    refine wl_v (.int .i64 (((i : Nat) : Int))) rfl rfl (y_mov rfl s47 ⟨rfl, rfl⟩) ?_
    refine wl_v (.int .i64 (((i : Nat) : Int))) rfl rfl (y_mov rfl s47 ⟨rfl, rfl⟩) ?_
    refine wl_v (.pointer (some ⟨p1, i, none⟩)) rfl rfl (y_atR (i) (s := 1) rfl s44 rfl (by omega) Tryd.underlying22 (by omega) (by kernel_rfl) (by omega) ⟨rfl, rfl⟩) ?_
    refine wl_v (.int .i64 (b i)) rfl rfl (y_ldR rfl rfl Tryd.underlying3 (((B41).cell (by omega)).trans (some_int (upto_at i _ _))) ⟨rfl, rfl⟩) ?_
    refine wl_v (.int .i64 (max (b i) (-255))) rfl rfl (y_maxR rfl rfl rfl rfl ⟨rfl, rfl⟩) ?_
    refine wl_v (.int .i64 (cl 255 (b i))) rfl rfl (y_minR rfl rfl rfl (by unfold cl; omega) ⟨rfl, rfl⟩) ?_
    refine wl_v (.pointer (some ⟨p1, i, none⟩)) rfl rfl (y_atR (i) (s := 1) rfl s44 rfl (by omega) Tryd.underlying22 (by omega) (by kernel_rfl) (by omega) ⟨rfl, rfl⟩) ?_
    refine wl_set_blk rfl rfl rfl rfl rfl B41 (by omega) (by kernel_rfl) fun w50 B51 k52 => ?_
    have K53 := K34.trans k52 (fun _ hi e => absurd (e ▸ hi) (Nat.not_lt.2 lp6))
    refine wl_nil fun F54 hF55 => ?_
    have s56 : F54 2 = .pointer (some ⟨p1, 0, none⟩) := (hF55 2).trans s44
    have s57 : F54 5 = .bool true := (hF55 5).trans s45
    have s58 : F54 6 = .int .i64 (((k : Nat) : Int)) := (hF55 6).trans s46
    have s59 : F54 7 = .int .i64 (((i : Nat) : Int)) := (hF55 7).trans s47
    clear hF55
    refine in_normal ?_
    refine then_normal ?_
    refine wq_region ?_
    refine wl_v (.int .i64 (((i : Nat) : Int))) rfl rfl (y_mov rfl s59 ⟨rfl, rfl⟩) ?_
    refine wl_v (.int .i64 (((i + 1 : Nat) : Int))) rfl rfl (y_add rfl rfl rfl (i64_n (by omega) (by omega)) ⟨rfl, rfl⟩) ?_
    refine wl_v (.int .i64 (((i + 1 : Nat) : Int))) rfl rfl (y_asg rfl rfl ⟨rfl, rfl⟩) ?_
    refine wl_nil fun F60 hF61 => ?_
    have s62 : F60 2 = .pointer (some ⟨p1, 0, none⟩) := (hF61 2).trans s56
    have s63 : F60 5 = .bool true := (hF61 5).trans s57
    have s64 : F60 6 = .int .i64 (((k : Nat) : Int)) := (hF61 6).trans s58
    have s65 : F60 7 = .int .i64 (((i + 1 : Nat) : Int)) := (hF61 7).trans rfl
    clear hF61
    exact then_normal ⟨(16 - (i + 1)), by omega, i + 1, by omega, rfl, s62, s63, s64, s65, K53, (B51.next rfl)⟩
  · replace c49 := of_decide_eq_false c49
    refine wq_exit ?_
    refine then_exit ?_
    refine then_exit ?_
    have l66 : 16 = i := by omega
    subst l66
    have B67 : Blk w33 p1 22 (clB 255 b) := (B41.last)
    refine in_here ?_
    refine then_normal ?_
    refine wq_seq ?_
    refine wq_region ?_
    refine wl_v (.int .i64 (((k : Nat) : Int))) rfl rfl (y_mov rfl s46 ⟨rfl, rfl⟩) ?_
    refine wl_call (R := fun v_ w_ => v_ = .tuple #[.int .i64 (stp (((k : Nat) : Int)) / 2), .int .i64 (ern (((k : Nat) : Int)))] ∧ Kept (fun _ => False) w33 w_) rfl rfl (y_cs rfl rfl rfl (fun _ _ => by kernel_rfl) (ev_func _) (vsC rfl vsN) (bound_any (((k : Nat) : Int)) _ (hs.all K34)) (fun e_ w_ h_ => ⟨_, h_.1, rfl, h_.2⟩)) ?_
    rintro _ w68 ⟨rfl, k69⟩
    have B70 := B67.all k69 id
    have K71 := K34.trans k69 (fun _ _ x => x)
    refine wl_v (.tuple #[.int .i64 (stp (((k : Nat) : Int)) / 2), .int .i64 (ern (((k : Nat) : Int)))]) rfl rfl (y_mov rfl rfl ⟨rfl, rfl⟩) ?_
    refine wl_v (.int .i64 (stp (((k : Nat) : Int)) / 2)) rfl rfl (y_ext rfl rfl rfl ⟨rfl, rfl⟩) ?_
    refine wl_v (.int .i64 (ern (((k : Nat) : Int)))) rfl rfl (y_ext rfl rfl rfl ⟨rfl, rfl⟩) ?_
    refine wl_v (.int .i64 (stp (((k : Nat) : Int)) / 2)) rfl rfl (y_asg rfl rfl ⟨rfl, rfl⟩) ?_
    refine wl_v (.int .i64 (ern (((k : Nat) : Int)))) rfl rfl (y_asg rfl rfl ⟨rfl, rfl⟩) ?_
    refine wl_nil fun F72 hF73 => ?_
    have s74 : F72 2 = .pointer (some ⟨p1, 0, none⟩) := (hF73 2).trans s44
    have s75 : F72 5 = .bool true := (hF73 5).trans s45
    have s76 : F72 6 = .int .i64 (((k : Nat) : Int)) := (hF73 6).trans s46
    have s77 : F72 8 = .int .i64 (stp (((k : Nat) : Int)) / 2) := (hF73 8).trans rfl
    clear hF73
    refine then_normal ?_
    refine wq_seq ?_
    refine wq_region ?_
    refine wl_v (blkV (clB 255 b)) rfl rfl (y_load_blk blkT_arr rfl s74 B70 ⟨rfl, rfl⟩) ?_
    refine wl_call (R := fun v_ w_ => v_ = blkV (fwd (clB 1048576 (clB 255 b))) ∧ Kept (fun _ => False) w68 w_) rfl rfl (y_cs rfl rfl rfl (fun _ _ => by kernel_rfl) (ev_func _) (vsC rfl vsN) (forward_any (clB 255 b) _ (hw.all K71)) (fun e_ w_ h_ => ⟨_, h_.1, rfl, h_.2⟩)) ?_
    rintro _ w78 ⟨rfl, k79⟩
    have B80 := B70.all k79 id
    have K81 := K71.trans k79 (fun _ _ x => x)
    refine wl_v (.int .i64 (((k : Nat) : Int))) rfl rfl (y_mov rfl s76 ⟨rfl, rfl⟩) ?_
    refine wl_call (R := fun v_ w_ => v_ = .tuple #[blkV (downB (fwd (clB 1048576 (clB 255 b))) (((k : Nat) : Int))), .int .i64 (ern (((k : Nat) : Int)))] ∧ Kept (fun _ => False) w78 w_) rfl rfl (y_cs rfl rfl rfl (fun _ _ => by kernel_rfl) (ev_func _) (vsC rfl (vsC rfl vsN)) (down_any (fwd (clB 1048576 (clB 255 b))) (((k : Nat) : Int)) _ (hs.all K81)) (fun e_ w_ h_ => ⟨_, h_.1, rfl, h_.2⟩)) ?_
    rintro _ w82 ⟨rfl, k83⟩
    have B84 := B80.all k83 id
    have K85 := K81.trans k83 (fun _ _ x => x)
    refine wl_v (.tuple #[blkV (downB (fwd (clB 1048576 (clB 255 b))) (((k : Nat) : Int))), .int .i64 (ern (((k : Nat) : Int)))]) rfl rfl (y_mov rfl rfl ⟨rfl, rfl⟩) ?_
    refine wl_v (blkV (downB (fwd (clB 1048576 (clB 255 b))) (((k : Nat) : Int)))) rfl rfl (y_ext rfl rfl rfl ⟨rfl, rfl⟩) ?_
    refine wl_v (.int .i64 (ern (((k : Nat) : Int)))) rfl rfl (y_ext rfl rfl rfl ⟨rfl, rfl⟩) ?_
    refine wl_alloc_blk rfl rfl rfl blkT_block.2.2 fun p86 w87 e90 B88 k89 => ?_
    have ne91 : p1 ≠ p86 := by have h_ := B84.lt; omega
    have lp92 : w0.heap.size ≤ p86 := by have h_ := K85.size; omega
    clear e90
    have B93 := B84.all k89 id
    have K94 := K85.trans k89 (fun _ _ x => x)
    refine wl_store_blk blkT_block rfl rfl rfl rfl rfl B88 fun w95 B96 k97 => ?_
    have B98 := B93.all k97 ne91
    have K99 := K94.trans k97 (fun _ hi e => absurd (e ▸ hi) (Nat.not_lt.2 lp92))
    refine wl_v (.int .i64 (ern (((k : Nat) : Int)))) rfl rfl (y_asg rfl rfl ⟨rfl, rfl⟩) ?_
    refine wl_nil fun F100 hF101 => ?_
    have s102 : F100 2 = .pointer (some ⟨p1, 0, none⟩) := (hF101 2).trans s74
    have s103 : F100 5 = .bool true := (hF101 5).trans s75
    have s104 : F100 6 = .int .i64 (((k : Nat) : Int)) := (hF101 6).trans s76
    have s105 : F100 8 = .int .i64 (stp (((k : Nat) : Int)) / 2) := (hF101 8).trans s77
    have s106 : F100 10 = .pointer (some ⟨p86, 0, none⟩) := (hF101 10).trans rfl
    have s107 : F100 11 = .int .i64 (ern (((k : Nat) : Int))) := (hF101 11).trans rfl
    clear hF101
    refine then_normal ?_
    refine wq_seq ?_
    refine wq_region ?_
    refine wl_v (blkV (downB (fwd (clB 1048576 (clB 255 b))) (((k : Nat) : Int)))) rfl rfl (y_load_blk blkT_block rfl s106 B96 ⟨rfl, rfl⟩) ?_
    refine wl_v (.int .i64 (((k : Nat) : Int))) rfl rfl (y_mov rfl s104 ⟨rfl, rfl⟩) ?_
    refine wl_call (R := fun v_ w_ => v_ = .tuple #[blkV (upB (downB (fwd (clB 1048576 (clB 255 b))) (((k : Nat) : Int))) (((k : Nat) : Int))), .int .i64 (ern (((k : Nat) : Int)))] ∧ Kept (fun _ => False) w95 w_) rfl rfl (y_cs rfl rfl rfl (fun _ _ => by kernel_rfl) (ev_func _) (vsC rfl (vsC rfl vsN)) (up_any (downB (fwd (clB 1048576 (clB 255 b))) (((k : Nat) : Int))) (((k : Nat) : Int)) _ (hs.all K99)) (fun e_ w_ h_ => ⟨_, h_.1, rfl, h_.2⟩)) ?_
    rintro _ w108 ⟨rfl, k109⟩
    have B110 := B98.all k109 id
    have B111 := B96.all k109 id
    have K112 := K99.trans k109 (fun _ _ x => x)
    refine wl_v (.tuple #[blkV (upB (downB (fwd (clB 1048576 (clB 255 b))) (((k : Nat) : Int))) (((k : Nat) : Int))), .int .i64 (ern (((k : Nat) : Int)))]) rfl rfl (y_mov rfl rfl ⟨rfl, rfl⟩) ?_
    refine wl_v (blkV (upB (downB (fwd (clB 1048576 (clB 255 b))) (((k : Nat) : Int))) (((k : Nat) : Int)))) rfl rfl (y_ext rfl rfl rfl ⟨rfl, rfl⟩) ?_
    refine wl_v (.int .i64 (ern (((k : Nat) : Int)))) rfl rfl (y_ext rfl rfl rfl ⟨rfl, rfl⟩) ?_
    refine wl_alloc_blk rfl rfl rfl blkT_block.2.2 fun p113 w114 e117 B115 k116 => ?_
    have ne118 : p1 ≠ p113 := by have h_ := B110.lt; omega
    have ne119 : p86 ≠ p113 := by have h_ := B111.lt; omega
    have lp120 : w0.heap.size ≤ p113 := by have h_ := K112.size; omega
    clear e117
    have B121 := B110.all k116 id
    have B122 := B111.all k116 id
    have K123 := K112.trans k116 (fun _ _ x => x)
    refine wl_store_blk blkT_block rfl rfl rfl rfl rfl B115 fun w124 B125 k126 => ?_
    have B127 := B121.all k126 ne118
    have B128 := B122.all k126 ne119
    have K129 := K123.trans k126 (fun _ hi e => absurd (e ▸ hi) (Nat.not_lt.2 lp120))
    refine wl_v (.int .i64 (ern (((k : Nat) : Int)))) rfl rfl (y_asg rfl rfl ⟨rfl, rfl⟩) ?_
    refine wl_nil fun F130 hF131 => ?_
    have s132 : F130 2 = .pointer (some ⟨p1, 0, none⟩) := (hF131 2).trans s102
    have s133 : F130 5 = .bool true := (hF131 5).trans s103
    have s134 : F130 6 = .int .i64 (((k : Nat) : Int)) := (hF131 6).trans s104
    have s135 : F130 8 = .int .i64 (stp (((k : Nat) : Int)) / 2) := (hF131 8).trans s105
    have s136 : F130 11 = .int .i64 (ern (((k : Nat) : Int))) := (hF131 11).trans s107
    have s137 : F130 12 = .pointer (some ⟨p113, 0, none⟩) := (hF131 12).trans rfl
    have s138 : F130 13 = .int .i64 (ern (((k : Nat) : Int))) := (hF131 13).trans rfl
    clear hF131
    refine then_normal ?_
    refine wq_seq ?_
    refine wq_region ?_
    refine wl_v (blkV (upB (downB (fwd (clB 1048576 (clB 255 b))) (((k : Nat) : Int))) (((k : Nat) : Int)))) rfl rfl (y_load_blk blkT_block rfl s137 B125 ⟨rfl, rfl⟩) ?_
    refine wl_call (R := fun v_ w_ => v_ = blkV (backB (upB (downB (fwd (clB 1048576 (clB 255 b))) (((k : Nat) : Int))) (((k : Nat) : Int)))) ∧ Kept (fun _ => False) w124 w_) rfl rfl (y_cs rfl rfl rfl (fun _ _ => by kernel_rfl) (ev_func _) (vsC rfl vsN) (back_any (upB (downB (fwd (clB 1048576 (clB 255 b))) (((k : Nat) : Int))) (((k : Nat) : Int))) _ (hw.all K129)) (fun e_ w_ h_ => ⟨_, h_.1, rfl, h_.2⟩)) ?_
    rintro _ w139 ⟨rfl, k140⟩
    have B141 := B127.all k140 id
    have B142 := B128.all k140 id
    have B143 := B125.all k140 id
    have K144 := K129.trans k140 (fun _ _ x => x)
    refine wl_alloc_blk rfl rfl rfl blkT_block.2.2 fun p145 w146 e149 B147 k148 => ?_
    have ne150 : p1 ≠ p145 := by have h_ := B141.lt; omega
    have ne151 : p86 ≠ p145 := by have h_ := B142.lt; omega
    have ne152 : p113 ≠ p145 := by have h_ := B143.lt; omega
    have lp153 : w0.heap.size ≤ p145 := by have h_ := K144.size; omega
    clear e149
    have B154 := B141.all k148 id
    have B155 := B142.all k148 id
    have B156 := B143.all k148 id
    have K157 := K144.trans k148 (fun _ _ x => x)
    refine wl_store_blk blkT_block rfl rfl rfl rfl rfl B147 fun w158 B159 k160 => ?_
    have B161 := B154.all k160 ne150
    have B162 := B155.all k160 ne151
    have B163 := B156.all k160 ne152
    have K164 := K157.trans k160 (fun _ hi e => absurd (e ▸ hi) (Nat.not_lt.2 lp153))
    refine wl_nil fun F165 hF166 => ?_
    have s167 : F165 2 = .pointer (some ⟨p1, 0, none⟩) := (hF166 2).trans s132
    have s168 : F165 5 = .bool true := (hF166 5).trans s133
    have s169 : F165 6 = .int .i64 (((k : Nat) : Int)) := (hF166 6).trans s134
    have s170 : F165 8 = .int .i64 (stp (((k : Nat) : Int)) / 2) := (hF166 8).trans s135
    have s171 : F165 11 = .int .i64 (ern (((k : Nat) : Int))) := (hF166 11).trans s136
    have s172 : F165 13 = .int .i64 (ern (((k : Nat) : Int))) := (hF166 13).trans s138
    have s173 : F165 14 = .pointer (some ⟨p145, 0, none⟩) := (hF166 14).trans rfl
    clear hF166
    refine then_normal ?_
    refine wq_seq ?_
    refine wq_seq ?_
    refine wq_region ?_
    refine wl_v (.int .i64 (0)) rfl rfl (y_asg rfl rfl ⟨rfl, rfl⟩) ?_
    refine wl_nil fun F174 hF175 => ?_
    have s176 : F174 2 = .pointer (some ⟨p1, 0, none⟩) := (hF175 2).trans s167
    have s177 : F174 5 = .bool true := (hF175 5).trans s168
    have s178 : F174 6 = .int .i64 (((k : Nat) : Int)) := (hF175 6).trans s169
    have s179 : F174 8 = .int .i64 (stp (((k : Nat) : Int)) / 2) := (hF175 8).trans s170
    have s180 : F174 11 = .int .i64 (ern (((k : Nat) : Int))) := (hF175 11).trans s171
    have s181 : F174 13 = .int .i64 (ern (((k : Nat) : Int))) := (hF175 13).trans s172
    have s182 : F174 14 = .pointer (some ⟨p145, 0, none⟩) := (hF175 14).trans s173
    have s183 : F174 15 = .int .i64 (0) := (hF175 15).trans rfl
    clear hF175
    refine then_normal ?_
    refine wq_block ?_
    refine wq_loop (fun nn FF ww => ∃ (i : Nat), i ≤ 16 ∧ nn = 16 - i ∧ FF 2 = .pointer (some ⟨p1, 0, none⟩) ∧ FF 5 = .bool true ∧ FF 6 = .int .i64 (((k : Nat) : Int)) ∧ FF 8 = .int .i64 (stp (((k : Nat) : Int)) / 2) ∧ FF 11 = .int .i64 (ern (((k : Nat) : Int))) ∧ FF 13 = .int .i64 (ern (((k : Nat) : Int))) ∧ FF 14 = .pointer (some ⟨p145, 0, none⟩) ∧ FF 15 = .int .i64 (((i : Nat) : Int)) ∧ Kept (fun _ => False) w0 ww ∧ Blk ww p1 22 (clB 255 b) ∧ Blk ww p86 27 (downB (fwd (clB 1048576 (clB 255 b))) (((k : Nat) : Int))) ∧ Blk ww p113 27 (upB (downB (fwd (clB 1048576 (clB 255 b))) (((k : Nat) : Int))) (((k : Nat) : Int))) ∧ Blk ww p145 27 (backB (upB (downB (fwd (clB 1048576 (clB 255 b))) (((k : Nat) : Int))) (((k : Nat) : Int))))) (16 - (0)) ⟨0, by omega, rfl, s176, s177, s178, s179, s180, s181, s182, s183, K164, B161, B162, B163, B159⟩ ?_
    rintro n187 F184 w185 ⟨i, i188, hn187, s189, s190, s191, s192, s193, s194, s195, s196, K186, B197, B198, B199, B200⟩
    refine wq_seq ?_
    refine wq_seq ?_
    refine wq_region ?_
    refine wl_v (.int .i64 (((i : Nat) : Int))) rfl rfl (y_mov rfl s196 ⟨rfl, rfl⟩) ?_
    refine wl_v (.bool (decide ((((i : Nat) : Int)) < (16)))) rfl rfl (y_lss rfl rfl rfl rfl ⟨rfl, rfl⟩) ?_
    refine wl_nil fun F201 hF202 => ?_
    have s203 : F201 2 = .pointer (some ⟨p1, 0, none⟩) := (hF202 2).trans s189
    have s204 : F201 5 = .bool true := (hF202 5).trans s190
    have s205 : F201 6 = .int .i64 (((k : Nat) : Int)) := (hF202 6).trans s191
    have s206 : F201 8 = .int .i64 (stp (((k : Nat) : Int)) / 2) := (hF202 8).trans s192
    have s207 : F201 11 = .int .i64 (ern (((k : Nat) : Int))) := (hF202 11).trans s193
    have s208 : F201 13 = .int .i64 (ern (((k : Nat) : Int))) := (hF202 13).trans s194
    have s209 : F201 14 = .pointer (some ⟨p145, 0, none⟩) := (hF202 14).trans s195
    have s210 : F201 15 = .int .i64 (((i : Nat) : Int)) := (hF202 15).trans s196
    have s211 : F201 52 = .bool (decide ((((i : Nat) : Int)) < (16))) := (hF202 52).trans rfl
    clear hF202
    refine then_normal ?_
    refine wq_cond s211 (fun c212 => ?_) (fun c212 => ?_)
    · replace c212 := of_decide_eq_true c212
      refine wq_skip ?_
      refine then_normal ?_
      refine wq_seq ?_
      refine wq_block ?_
      refine wq_seq ?_
      have hn := hnr i (by omega)
      have hci := hc i
      refine wq_said [some 55, some 56, some 57, some 58, some 59, some 60, some 61, some 62, some 63, some 64, some 65, some 66, some 67, some 68, some 69, some 70, some 71, some 72, some 73, some 74] [Pd.eq (.int .i64 (((i : Nat) : Int))), Pd.eq (.pointer (some ⟨p145, i, none⟩)), Pd.eq (.int .i64 ((backB (upB (downB (fwd (clB 1048576 (clB 255 b))) (((k : Nat) : Int))) (((k : Nat) : Int)))) (i))), Pd.eq (.int .i64 (((i : Nat) : Int))), Pd.eq (.pointer (some ⟨p1, i, none⟩)), Pd.eq (.int .i64 ((clB 255 b) (i))), Pd.eq (.int .i64 (((backB (upB (downB (fwd (clB 1048576 (clB 255 b))) (((k : Nat) : Int))) (((k : Nat) : Int)))) (i)) - ((clB 255 b) (i)))), Pd.eq (.int .i64 (stp (((k : Nat) : Int)) / 2)), Pd.eq (.bool false), Pd.eq (.bool false), Pd.eq (.int .i64 (((i : Nat) : Int))), Pd.eq (.pointer (some ⟨p1, i, none⟩)), Pd.eq (.int .i64 ((clB 255 b) (i))), Pd.eq (.int .i64 (((i : Nat) : Int))), Pd.eq (.pointer (some ⟨p145, i, none⟩)), Pd.eq (.int .i64 ((backB (upB (downB (fwd (clB 1048576 (clB 255 b))) (((k : Nat) : Int))) (((k : Nat) : Int)))) (i))), Pd.eq (.int .i64 (((clB 255 b) (i)) - ((backB (upB (downB (fwd (clB 1048576 (clB 255 b))) (((k : Nat) : Int))) (((k : Nat) : Int)))) (i)))), Pd.eq (.int .i64 (stp (((k : Nat) : Int)) / 2)), Pd.eq (.bool false), Pd.eq (.bool false)] (by kernel_rfl) (by kernel_rfl) ?_ ?_
      · refine stepsF_cons ?_ ?_
        · refine StepF.one rfl fun F_ w_ hR hout hD => ?_
          exact (y_mov rfl ((hout 15 (by decide)).trans s210) ⟨rfl, Kept.refl _ _⟩)
        refine stepsF_cons ?_ ?_
        · refine StepF.one rfl fun F_ w_ hR hout hD => ?_
          have g55 : F_ 55 = .int .i64 (((i : Nat) : Int)) := hD.get 0 rfl rfl rfl
          exact (y_atR (i) (s := 1) rfl ((hout 14 (by decide)).trans s209) g55 (by omega) Tryd.underlying27 (by omega) (by kernel_rfl) (by omega) ⟨rfl, Kept.refl _ _⟩)
        refine stepsF_cons ?_ ?_
        · refine StepF.one rfl fun F_ w_ hR hout hD => ?_
          have g56 : F_ 56 = .pointer (some ⟨p145, i, none⟩) := hD.get 0 rfl rfl rfl
          exact (y_ldR rfl g56 Tryd.underlying3 (((B200.all hR id)).cell (by omega)) ⟨rfl, Kept.refl _ _⟩)
        refine stepsF_cons ?_ ?_
        · refine StepF.one rfl fun F_ w_ hR hout hD => ?_
          exact (y_mov rfl ((hout 15 (by decide)).trans s210) ⟨rfl, Kept.refl _ _⟩)
        refine stepsF_cons ?_ ?_
        · refine StepF.one rfl fun F_ w_ hR hout hD => ?_
          have g58 : F_ 58 = .int .i64 (((i : Nat) : Int)) := hD.get 0 rfl rfl rfl
          exact (y_atR (i) (s := 1) rfl ((hout 2 (by decide)).trans s203) g58 (by omega) Tryd.underlying22 (by omega) (by kernel_rfl) (by omega) ⟨rfl, Kept.refl _ _⟩)
        refine stepsF_cons ?_ ?_
        · refine StepF.one rfl fun F_ w_ hR hout hD => ?_
          have g59 : F_ 59 = .pointer (some ⟨p1, i, none⟩) := hD.get 0 rfl rfl rfl
          exact (y_ldR rfl g59 Tryd.underlying3 (((B197.all hR id)).cell (by omega)) ⟨rfl, Kept.refl _ _⟩)
        refine stepsF_cons ?_ ?_
        · refine StepF.one rfl fun F_ w_ hR hout hD => ?_
          have g57 : F_ 57 = .int .i64 ((backB (upB (downB (fwd (clB 1048576 (clB 255 b))) (((k : Nat) : Int))) (((k : Nat) : Int)))) (i)) := hD.get 0 rfl rfl rfl
          have g60 : F_ 60 = .int .i64 ((clB 255 b) (i)) := hD.get 1 rfl rfl rfl
          exact (y_sub rfl g57 g60 (i64_i rfl (by omega)) ⟨rfl, Kept.refl _ _⟩)
        refine stepsF_cons ?_ ?_
        · refine StepF.one rfl fun F_ w_ hR hout hD => ?_
          exact (y_mov rfl ((hout 8 (by decide)).trans s206) ⟨rfl, Kept.refl _ _⟩)
        refine stepsF_cons ?_ ?_
        · refine StepF.one rfl fun F_ w_ hR hout hD => ?_
          have g61 : F_ 61 = .int .i64 (((backB (upB (downB (fwd (clB 1048576 (clB 255 b))) (((k : Nat) : Int))) (((k : Nat) : Int)))) (i)) - ((clB 255 b) (i))) := hD.get 0 rfl rfl rfl
          have g62 : F_ 62 = .int .i64 (stp (((k : Nat) : Int)) / 2) := hD.get 1 rfl rfl rfl
          exact (y_gtr rfl g61 g62 (decide_eq_false (by omega)) ⟨rfl, Kept.refl _ _⟩)
        refine stepsF_cons ?_ ?_
        · refine StepF.one rfl fun F_ w_ hR hout hD => ?_
          have g63 : F_ 63 = .bool false := hD.get 0 rfl rfl rfl
          exact (y_mov rfl g63 ⟨rfl, Kept.refl _ _⟩)
        refine stepsF_cons ?_ ?_
        · refine StepF.when 9 false 64 rfl rfl fun F_ w_ hR hout hD => ?_
          have g64 : F_ 64 = .bool false := hD.get 0 rfl rfl rfl
          exact ⟨g64, (y_mov rfl ((hout 15 (by decide)).trans s210) ⟨rfl, Kept.refl _ _⟩)⟩
        refine stepsF_cons ?_ ?_
        · refine StepF.when 9 false 64 rfl rfl fun F_ w_ hR hout hD => ?_
          have g64 : F_ 64 = .bool false := hD.get 1 rfl rfl rfl
          have g65 : F_ 65 = .int .i64 (((i : Nat) : Int)) := hD.get 0 rfl rfl rfl
          exact ⟨g64, (y_atR (i) (s := 1) rfl ((hout 2 (by decide)).trans s203) g65 (by omega) Tryd.underlying22 (by omega) (by kernel_rfl) (by omega) ⟨rfl, Kept.refl _ _⟩)⟩
        refine stepsF_cons ?_ ?_
        · refine StepF.when 9 false 64 rfl rfl fun F_ w_ hR hout hD => ?_
          have g64 : F_ 64 = .bool false := hD.get 1 rfl rfl rfl
          have g66 : F_ 66 = .pointer (some ⟨p1, i, none⟩) := hD.get 0 rfl rfl rfl
          exact ⟨g64, (y_ldR rfl g66 Tryd.underlying3 (((B197.all hR id)).cell (by omega)) ⟨rfl, Kept.refl _ _⟩)⟩
        refine stepsF_cons ?_ ?_
        · refine StepF.when 9 false 64 rfl rfl fun F_ w_ hR hout hD => ?_
          have g64 : F_ 64 = .bool false := hD.get 0 rfl rfl rfl
          exact ⟨g64, (y_mov rfl ((hout 15 (by decide)).trans s210) ⟨rfl, Kept.refl _ _⟩)⟩
        refine stepsF_cons ?_ ?_
        · refine StepF.when 9 false 64 rfl rfl fun F_ w_ hR hout hD => ?_
          have g64 : F_ 64 = .bool false := hD.get 1 rfl rfl rfl
          have g68 : F_ 68 = .int .i64 (((i : Nat) : Int)) := hD.get 0 rfl rfl rfl
          exact ⟨g64, (y_atR (i) (s := 1) rfl ((hout 14 (by decide)).trans s209) g68 (by omega) Tryd.underlying27 (by omega) (by kernel_rfl) (by omega) ⟨rfl, Kept.refl _ _⟩)⟩
        refine stepsF_cons ?_ ?_
        · refine StepF.when 9 false 64 rfl rfl fun F_ w_ hR hout hD => ?_
          have g64 : F_ 64 = .bool false := hD.get 1 rfl rfl rfl
          have g69 : F_ 69 = .pointer (some ⟨p145, i, none⟩) := hD.get 0 rfl rfl rfl
          exact ⟨g64, (y_ldR rfl g69 Tryd.underlying3 (((B200.all hR id)).cell (by omega)) ⟨rfl, Kept.refl _ _⟩)⟩
        refine stepsF_cons ?_ ?_
        · refine StepF.when 9 false 64 rfl rfl fun F_ w_ hR hout hD => ?_
          have g64 : F_ 64 = .bool false := hD.get 2 rfl rfl rfl
          have g67 : F_ 67 = .int .i64 ((clB 255 b) (i)) := hD.get 0 rfl rfl rfl
          have g70 : F_ 70 = .int .i64 ((backB (upB (downB (fwd (clB 1048576 (clB 255 b))) (((k : Nat) : Int))) (((k : Nat) : Int)))) (i)) := hD.get 1 rfl rfl rfl
          exact ⟨g64, (y_sub rfl g67 g70 (i64_i rfl (by omega)) ⟨rfl, Kept.refl _ _⟩)⟩
        refine stepsF_cons ?_ ?_
        · refine StepF.when 9 false 64 rfl rfl fun F_ w_ hR hout hD => ?_
          have g64 : F_ 64 = .bool false := hD.get 0 rfl rfl rfl
          exact ⟨g64, (y_mov rfl ((hout 8 (by decide)).trans s206) ⟨rfl, Kept.refl _ _⟩)⟩
        refine stepsF_cons ?_ ?_
        · refine StepF.when 9 false 64 rfl rfl fun F_ w_ hR hout hD => ?_
          have g64 : F_ 64 = .bool false := hD.get 2 rfl rfl rfl
          have g71 : F_ 71 = .int .i64 (((clB 255 b) (i)) - ((backB (upB (downB (fwd (clB 1048576 (clB 255 b))) (((k : Nat) : Int))) (((k : Nat) : Int)))) (i))) := hD.get 0 rfl rfl rfl
          have g72 : F_ 72 = .int .i64 (stp (((k : Nat) : Int)) / 2) := hD.get 1 rfl rfl rfl
          exact ⟨g64, (y_gtr rfl g71 g72 (decide_eq_false (by omega)) ⟨rfl, Kept.refl _ _⟩)⟩
        refine stepsF_cons ?_ ?_
        · refine StepF.one rfl fun F_ w_ hR hout hD => ?_
          have g64 : F_ 64 = .bool false := hD.get 0 rfl rfl rfl
          have g73 : F_ 73 = .bool false := hD.get 1 rfl rfl rfl
          exact (y_pickF rfl g64 g73 ⟨rfl, Kept.refl _ _⟩)
        exact stepsF_nil
      intro v213 F214 w215 k216 G217 hF218
      have B219 := B197.all k216 id
      have B220 := B198.all k216 id
      have B221 := B199.all k216 id
      have B222 := B200.all k216 id
      have K223 := K186.trans k216 (fun _ _ x => x)
      have s224 : F214 2 = .pointer (some ⟨p1, 0, none⟩) := (hF218 2).trans s203
      have s225 : F214 5 = .bool true := (hF218 5).trans s204
      have s226 : F214 6 = .int .i64 (((k : Nat) : Int)) := (hF218 6).trans s205
      have s227 : F214 8 = .int .i64 (stp (((k : Nat) : Int)) / 2) := (hF218 8).trans s206
      have s228 : F214 11 = .int .i64 (ern (((k : Nat) : Int))) := (hF218 11).trans s207
      have s229 : F214 13 = .int .i64 (ern (((k : Nat) : Int))) := (hF218 13).trans s208
      have s230 : F214 14 = .pointer (some ⟨p145, 0, none⟩) := (hF218 14).trans s209
      have s231 : F214 15 = .int .i64 (((i : Nat) : Int)) := (hF218 15).trans s210
      have s232 : F214 74 = .bool false := (hF218 74).trans (G217 19 (by decide))
      clear G217 hF218
      refine then_normal ?_
      refine wq_cond (t := false) s232 (fun e => by cases e) (fun _ => ?_)
      refine wq_skip ?_
      refine in_normal ?_
      refine then_normal ?_
      refine wq_region ?_
      refine wl_v (.int .i64 (((i : Nat) : Int))) rfl rfl (y_mov rfl s231 ⟨rfl, rfl⟩) ?_
      refine wl_v (.int .i64 (((i + 1 : Nat) : Int))) rfl rfl (y_add rfl rfl rfl (i64_n (by omega) (by omega)) ⟨rfl, rfl⟩) ?_
      refine wl_v (.int .i64 (((i + 1 : Nat) : Int))) rfl rfl (y_asg rfl rfl ⟨rfl, rfl⟩) ?_
      refine wl_nil fun F233 hF234 => ?_
      have s235 : F233 2 = .pointer (some ⟨p1, 0, none⟩) := (hF234 2).trans s224
      have s236 : F233 5 = .bool true := (hF234 5).trans s225
      have s237 : F233 6 = .int .i64 (((k : Nat) : Int)) := (hF234 6).trans s226
      have s238 : F233 8 = .int .i64 (stp (((k : Nat) : Int)) / 2) := (hF234 8).trans s227
      have s239 : F233 11 = .int .i64 (ern (((k : Nat) : Int))) := (hF234 11).trans s228
      have s240 : F233 13 = .int .i64 (ern (((k : Nat) : Int))) := (hF234 13).trans s229
      have s241 : F233 14 = .pointer (some ⟨p145, 0, none⟩) := (hF234 14).trans s230
      have s242 : F233 15 = .int .i64 (((i + 1 : Nat) : Int)) := (hF234 15).trans rfl
      clear hF234
      exact then_normal ⟨(16 - (i + 1)), by omega, i + 1, by omega, rfl, s235, s236, s237, s238, s239, s240, s241, s242, K223, B219, B220, B221, B222⟩
    · replace c212 := of_decide_eq_false c212
      refine wq_exit ?_
      refine then_exit ?_
      refine then_exit ?_
      have l243 : 16 = i := by omega
      subst l243
      refine in_here ?_
      refine then_normal ?_
      refine wq_seq ?_
      by_cases d244 : (0) < (((k : Nat) : Int))
      · skip
        refine wq_region ?_
        refine wl_v (.bool true) rfl rfl (y_mov rfl s204 ⟨rfl, rfl⟩) ?_
        refine wl_v (.bool true) rfl rfl (y_mov rfl rfl ⟨rfl, rfl⟩) ?_
        refine wl_vw (.int .i64 (ern (((k : Nat) : Int)))) 1 true 76 rfl rfl rfl rfl rfl (y_mov rfl s207 ⟨rfl, rfl⟩) ?_
        refine wl_vw (.bool true) 1 true 76 rfl rfl rfl rfl rfl (y_eqlI rfl rfl rfl (decide_eq_true he) ⟨rfl, rfl⟩) ?_
        refine wl_v (.bool true) rfl rfl (y_pickT rfl rfl rfl ⟨rfl, rfl⟩) ?_
        refine wl_v (.bool true) rfl rfl (y_mov rfl rfl ⟨rfl, rfl⟩) ?_
        refine wl_vw (.int .i64 (ern (((k : Nat) : Int)))) 5 true 80 rfl rfl rfl rfl rfl (y_mov rfl s208 ⟨rfl, rfl⟩) ?_
        refine wl_vw (.bool true) 5 true 80 rfl rfl rfl rfl rfl (y_eqlI rfl rfl rfl (decide_eq_true he) ⟨rfl, rfl⟩) ?_
        refine wl_v (.bool true) rfl rfl (y_pickT rfl rfl rfl ⟨rfl, rfl⟩) ?_
        refine wl_v (.bool true) rfl rfl (y_mov rfl rfl ⟨rfl, rfl⟩) ?_
        refine wl_vw (.int .i64 (((k : Nat) : Int))) 9 true 84 rfl rfl rfl rfl rfl (y_mov rfl s205 ⟨rfl, rfl⟩) ?_
        refine wl_vw (.bool true) 9 true 84 rfl rfl rfl rfl rfl (y_gtr rfl rfl rfl (decide_eq_true d244) ⟨rfl, rfl⟩) ?_
        refine wl_vw (.bool true) 9 true 84 rfl rfl rfl rfl rfl (y_mov rfl rfl ⟨rfl, rfl⟩) ?_
        refine wl_unless 12 false 87 rfl rfl rfl (Or.inl rfl) rfl ?_
        refine wl_unless 12 false 87 rfl rfl rfl (Or.inl rfl) rfl ?_
        refine wl_unless 12 false 87 rfl rfl rfl (Or.inl rfl) rfl ?_
        refine wl_vw (.bool true) 9 true 84 rfl rfl rfl rfl rfl (y_pickT rfl rfl rfl ⟨rfl, rfl⟩) ?_
        refine wl_v (.bool true) rfl rfl (y_pickT rfl rfl rfl ⟨rfl, rfl⟩) ?_
        refine wl_v (.bool true) rfl rfl (y_asg rfl rfl ⟨rfl, rfl⟩) ?_
        refine wl_nil fun F245 hF246 => ?_
        have s247 : F245 4 = .bool true := (hF246 4).trans rfl
        clear hF246
        refine then_normal ?_
        refine wq_ret ?_
        exact end_tmp (v := .bool true) rfl s247 ⟨rfl, K186⟩
      · skip
        refine wq_region ?_
        refine wl_v (.bool true) rfl rfl (y_mov rfl s204 ⟨rfl, rfl⟩) ?_
        refine wl_v (.bool true) rfl rfl (y_mov rfl rfl ⟨rfl, rfl⟩) ?_
        refine wl_vw (.int .i64 (ern (((k : Nat) : Int)))) 1 true 76 rfl rfl rfl rfl rfl (y_mov rfl s207 ⟨rfl, rfl⟩) ?_
        refine wl_vw (.bool true) 1 true 76 rfl rfl rfl rfl rfl (y_eqlI rfl rfl rfl (decide_eq_true he) ⟨rfl, rfl⟩) ?_
        refine wl_v (.bool true) rfl rfl (y_pickT rfl rfl rfl ⟨rfl, rfl⟩) ?_
        refine wl_v (.bool true) rfl rfl (y_mov rfl rfl ⟨rfl, rfl⟩) ?_
        refine wl_vw (.int .i64 (ern (((k : Nat) : Int)))) 5 true 80 rfl rfl rfl rfl rfl (y_mov rfl s208 ⟨rfl, rfl⟩) ?_
        refine wl_vw (.bool true) 5 true 80 rfl rfl rfl rfl rfl (y_eqlI rfl rfl rfl (decide_eq_true he) ⟨rfl, rfl⟩) ?_
        refine wl_v (.bool true) rfl rfl (y_pickT rfl rfl rfl ⟨rfl, rfl⟩) ?_
        refine wl_v (.bool true) rfl rfl (y_mov rfl rfl ⟨rfl, rfl⟩) ?_
        refine wl_vw (.int .i64 (((k : Nat) : Int))) 9 true 84 rfl rfl rfl rfl rfl (y_mov rfl s205 ⟨rfl, rfl⟩) ?_
        refine wl_vw (.bool false) 9 true 84 rfl rfl rfl rfl rfl (y_gtr rfl rfl rfl (decide_eq_false d244) ⟨rfl, rfl⟩) ?_
        refine wl_vw (.bool false) 9 true 84 rfl rfl rfl rfl rfl (y_mov rfl rfl ⟨rfl, rfl⟩) ?_
        refine wl_vw (blkV (backB (upB (downB (fwd (clB 1048576 (clB 255 b))) (((k : Nat) : Int))) (((k : Nat) : Int))))) 12 false 87 rfl rfl rfl rfl rfl (y_load_blk blkT_block rfl s209 B200 ⟨rfl, rfl⟩) ?_
        refine wl_vw (blkV (clB 255 b)) 12 false 87 rfl rfl rfl rfl rfl (y_load_blk blkT_arr rfl s203 B197 ⟨rfl, rfl⟩) ?_
        refine wl_vw (.bool true) 12 false 87 rfl rfl rfl rfl rfl (y_sameR rfl rfl rfl (sameB_true fun i hi => by have h0 : k = 0 := (by omega); have h1 := hnr i hi; have h2 : stp (k : Int) = 1 := (by rw [h0]; rfl); rw [h2] at h1; omega) ⟨rfl, rfl⟩) ?_
        refine wl_vw (.bool true) 9 true 84 rfl rfl rfl rfl rfl (y_pickF rfl rfl rfl ⟨rfl, rfl⟩) ?_
        refine wl_v (.bool true) rfl rfl (y_pickT rfl rfl rfl ⟨rfl, rfl⟩) ?_
        refine wl_v (.bool true) rfl rfl (y_asg rfl rfl ⟨rfl, rfl⟩) ?_
        refine wl_nil fun F248 hF249 => ?_
        have s250 : F248 4 = .bool true := (hF249 4).trans rfl
        clear hF249
        refine then_normal ?_
        refine wq_ret ?_
        exact end_tmp (v := .bool true) rfl s250 ⟨rfl, K186⟩

set_option maxHeartbeats 4000000 in
set_option maxRecDepth 100000 in
theorem qrises_walk (a : Int) (m q : Nat) (w0 : World) (hs : StepsAt w0) (ha : -2147483648 ≤ a ∧ a ≤ 2147483647) (hm : m < 65536) (hq : q < 256) :
    Calls Tryd.prog 6 #[.int .i32 (a), .int .u16 (((m : Nat) : Int)), .int .u8 (((q : Nat) : Int))] w0 fun e w' => e = .returned (.bool true) ∧ Kept (fun _ => False) w0 w' := by
  refine calls_wq (args := [.int .i32 (a), .int .u16 (((m : Nat) : Int)), .int .u8 (((q : Nat) : Int))]) 81 Tryd.func6 rfl rfl (Nat.le_of_ble_eq_true rfl) ?_
  have K0 := Kept.refl (fun _ => False) w0
  obtain ⟨k, hkq⟩ : ∃ k, k = q % 20 := ⟨_, rfl⟩
  have hk : k < 20 := by omega
  have he := ern_nat (k := k) (by omega)
  have hst := stp_in (k := k) (by omega)
  have hup : stp (k : Int) < stp ((k + 1 : Nat) : Int) := by rw [stp_nat (by omega), stp_nat (by omega)]; exact stl_more k hk
  have hx0 : downB (blL [a, a + (m : Int)]) k 0 = lev (cl 1048576 a) (stp k) := down_at he 0
  have hx1 : downB (blL [a, a + (m : Int)]) k 1 = lev (cl 1048576 (a + (m : Int))) (stp k) := down_at he 1
  have hy0 : downB (blL [a, -a]) k 0 = lev (cl 1048576 a) (stp k) := down_at he 0
  have hy1 : downB (blL [a, -a]) k 1 = lev (cl 1048576 (-a)) (stp k) := down_at he 1
  have hcn : cl 1048576 (-a) = -(cl 1048576 a) := by unfold cl; omega
  have hmo : cl 1048576 a ≤ cl 1048576 (a + (m : Int)) := by unfold cl; omega
  have hle := lev_mono (s := stp k) hst.1 hmo
  have hod := lev_odd (cl 1048576 a) (stp k) hst.1
  have hbd := lev_le (cl_le 1048576 a (by omega)) hst
  rw [hcn, hod] at hy1
  refine wq_seq ?_
  refine wq_region ?_
  refine wl_v (.bool false) rfl rfl (y_asg rfl rfl ⟨rfl, rfl⟩) ?_
  refine wl_nil fun F1 hF2 => ?_
  have s3 : F1 0 = .int .i32 (a) := (hF2 0).trans rfl
  have s4 : F1 1 = .int .u16 (((m : Nat) : Int)) := (hF2 1).trans rfl
  have s5 : F1 2 = .int .u8 (((q : Nat) : Int)) := (hF2 2).trans rfl
  clear hF2
  refine then_normal ?_
  refine wq_seq ?_
  refine wq_region ?_
  refine wl_call (R := fun v_ w_ => v_ = .bool true ∧ Kept (fun _ => False) w0 w_) rfl rfl (y_cs rfl rfl rfl (fun _ _ => by kernel_rfl) (ev_func _) vsN (qawake_any  _ (hs.all K0)) (fun e_ w_ h_ => ⟨_, h_.1, rfl, h_.2⟩)) ?_
  rintro _ w6 ⟨rfl, k7⟩
  have K8 := K0.trans k7 (fun _ _ x => x)
  refine wl_v (.bool true) rfl rfl (y_asg rfl rfl ⟨rfl, rfl⟩) ?_
  refine wl_nil fun F9 hF10 => ?_
  have s11 : F9 0 = .int .i32 (a) := (hF10 0).trans s3
  have s12 : F9 1 = .int .u16 (((m : Nat) : Int)) := (hF10 1).trans s4
  have s13 : F9 2 = .int .u8 (((q : Nat) : Int)) := (hF10 2).trans s5
  have s14 : F9 7 = .bool true := (hF10 7).trans rfl
  clear hF10
  refine then_normal ?_
  refine wq_seq ?_
  refine wq_region ?_
  refine wl_v (.int .u8 (((q : Nat) : Int))) rfl rfl (y_mov rfl s13 ⟨rfl, rfl⟩) ?_
  refine wl_v (.int .i64 (((q : Nat) : Int))) rfl rfl (y_convR rfl rfl Tryd.underlying5 Tryd.underlying3 (i64_i rfl (by omega)) ⟨rfl, rfl⟩) ?_
  refine wl_v (.int .i64 (((k : Nat) : Int))) rfl rfl (y_rem rfl rfl rfl (by first | decide | omega) ((mod_nat q 20).trans (by rw [hkq])) ⟨rfl, rfl⟩) ?_
  refine wl_v (.int .i64 (((k : Nat) : Int))) rfl rfl (y_asg rfl rfl ⟨rfl, rfl⟩) ?_
  refine wl_nil fun F15 hF16 => ?_
  have s17 : F15 0 = .int .i32 (a) := (hF16 0).trans s11
  have s18 : F15 1 = .int .u16 (((m : Nat) : Int)) := (hF16 1).trans s12
  have s19 : F15 7 = .bool true := (hF16 7).trans s14
  have s20 : F15 8 = .int .i64 (((k : Nat) : Int)) := (hF16 8).trans rfl
  clear hF16
  refine then_normal ?_
  refine wq_seq ?_
  refine wq_region ?_
  refine wl_v (.int .i64 (((k : Nat) : Int))) rfl rfl (y_mov rfl s20 ⟨rfl, rfl⟩) ?_
  refine wl_call (R := fun v_ w_ => v_ = .tuple #[.int .i64 (stp (((k : Nat) : Int))), .int .i64 (ern (((k : Nat) : Int)))] ∧ Kept (fun _ => False) w6 w_) rfl rfl (y_cs rfl rfl rfl (fun _ _ => by kernel_rfl) (ev_func _) (vsC rfl vsN) (step_any (((k : Nat) : Int)) _ (hs.all K8)) (fun e_ w_ h_ => ⟨_, h_.1, rfl, h_.2⟩)) ?_
  rintro _ w21 ⟨rfl, k22⟩
  have K23 := K8.trans k22 (fun _ _ x => x)
  refine wl_v (.tuple #[.int .i64 (stp (((k : Nat) : Int))), .int .i64 (ern (((k : Nat) : Int)))]) rfl rfl (y_mov rfl rfl ⟨rfl, rfl⟩) ?_
  refine wl_v (.int .i64 (stp (((k : Nat) : Int)))) rfl rfl (y_ext rfl rfl rfl ⟨rfl, rfl⟩) ?_
  refine wl_v (.int .i64 (ern (((k : Nat) : Int)))) rfl rfl (y_ext rfl rfl rfl ⟨rfl, rfl⟩) ?_
  refine wl_v (.int .i64 (stp (((k : Nat) : Int)))) rfl rfl (y_asg rfl rfl ⟨rfl, rfl⟩) ?_
  refine wl_v (.int .i64 (ern (((k : Nat) : Int)))) rfl rfl (y_asg rfl rfl ⟨rfl, rfl⟩) ?_
  refine wl_nil fun F24 hF25 => ?_
  have s26 : F24 0 = .int .i32 (a) := (hF25 0).trans s17
  have s27 : F24 1 = .int .u16 (((m : Nat) : Int)) := (hF25 1).trans s18
  have s28 : F24 7 = .bool true := (hF25 7).trans s19
  have s29 : F24 8 = .int .i64 (((k : Nat) : Int)) := (hF25 8).trans s20
  have s30 : F24 9 = .int .i64 (stp (((k : Nat) : Int))) := (hF25 9).trans rfl
  clear hF25
  refine then_normal ?_
  refine wq_seq ?_
  refine wq_region ?_
  refine wl_v (.int .i64 (((k : Nat) : Int))) rfl rfl (y_mov rfl s29 ⟨rfl, rfl⟩) ?_
  refine wl_v (.int .i64 (((k + 1 : Nat) : Int))) rfl rfl (y_add rfl rfl rfl (i64_n (by omega) (by omega)) ⟨rfl, rfl⟩) ?_
  refine wl_call (R := fun v_ w_ => v_ = .tuple #[.int .i64 (stp (((k + 1 : Nat) : Int))), .int .i64 (ern (((k + 1 : Nat) : Int)))] ∧ Kept (fun _ => False) w21 w_) rfl rfl (y_cs rfl rfl rfl (fun _ _ => by kernel_rfl) (ev_func _) (vsC rfl vsN) (step_any (((k + 1 : Nat) : Int)) _ (hs.all K23)) (fun e_ w_ h_ => ⟨_, h_.1, rfl, h_.2⟩)) ?_
  rintro _ w31 ⟨rfl, k32⟩
  have K33 := K23.trans k32 (fun _ _ x => x)
  refine wl_v (.tuple #[.int .i64 (stp (((k + 1 : Nat) : Int))), .int .i64 (ern (((k + 1 : Nat) : Int)))]) rfl rfl (y_mov rfl rfl ⟨rfl, rfl⟩) ?_
  refine wl_v (.int .i64 (stp (((k + 1 : Nat) : Int)))) rfl rfl (y_ext rfl rfl rfl ⟨rfl, rfl⟩) ?_
  refine wl_v (.int .i64 (ern (((k + 1 : Nat) : Int)))) rfl rfl (y_ext rfl rfl rfl ⟨rfl, rfl⟩) ?_
  refine wl_v (.int .i64 (stp (((k + 1 : Nat) : Int)))) rfl rfl (y_asg rfl rfl ⟨rfl, rfl⟩) ?_
  refine wl_v (.int .i64 (ern (((k + 1 : Nat) : Int)))) rfl rfl (y_asg rfl rfl ⟨rfl, rfl⟩) ?_
  refine wl_nil fun F34 hF35 => ?_
  have s36 : F34 0 = .int .i32 (a) := (hF35 0).trans s26
  have s37 : F34 1 = .int .u16 (((m : Nat) : Int)) := (hF35 1).trans s27
  have s38 : F34 7 = .bool true := (hF35 7).trans s28
  have s39 : F34 8 = .int .i64 (((k : Nat) : Int)) := (hF35 8).trans s29
  have s40 : F34 9 = .int .i64 (stp (((k : Nat) : Int))) := (hF35 9).trans s30
  have s41 : F34 11 = .int .i64 (stp (((k + 1 : Nat) : Int))) := (hF35 11).trans rfl
  clear hF35
  refine then_normal ?_
  refine wq_seq ?_
  refine wq_region ?_
  refine wl_v (.int .i32 (a)) rfl rfl (y_mov rfl s36 ⟨rfl, rfl⟩) ?_
  refine wl_v (.int .i64 (a)) rfl rfl (y_convR rfl rfl Tryd.underlying21 Tryd.underlying3 (i64_i rfl (by omega)) ⟨rfl, rfl⟩) ?_
  refine wl_v (.int .i32 (a)) rfl rfl (y_mov rfl s36 ⟨rfl, rfl⟩) ?_
  refine wl_v (.int .i64 (a)) rfl rfl (y_convR rfl rfl Tryd.underlying21 Tryd.underlying3 (i64_i rfl (by omega)) ⟨rfl, rfl⟩) ?_
  refine wl_v (.int .u16 (((m : Nat) : Int))) rfl rfl (y_mov rfl s37 ⟨rfl, rfl⟩) ?_
  refine wl_v (.int .i64 (((m : Nat) : Int))) rfl rfl (y_convR rfl rfl Tryd.underlying35 Tryd.underlying3 (i64_i rfl (by omega)) ⟨rfl, rfl⟩) ?_
  refine wl_v (.int .i64 ((a) + (((m : Nat) : Int)))) rfl rfl (y_add rfl rfl rfl (i64_i rfl (by omega)) ⟨rfl, rfl⟩) ?_
  refine wl_v (blkV (blL [a, (a) + (((m : Nat) : Int))])) rfl rfl (y_buildL (l' := [(0, .int .i64 (a)), (1, .int .i64 ((a) + (((m : Nat) : Int))))]) (cells := (arrL 16 (blL [a, (a) + (((m : Nat) : Int))])).toArray) rfl (bpC rfl (bpC rfl bpN)) (by kernel_rfl) rfl ⟨rfl, rfl⟩) ?_
  refine wl_v (.int .i64 (((k : Nat) : Int))) rfl rfl (y_mov rfl s39 ⟨rfl, rfl⟩) ?_
  refine wl_call (R := fun v_ w_ => v_ = .tuple #[blkV (downB (blL [a, (a) + (((m : Nat) : Int))]) (((k : Nat) : Int))), .int .i64 (ern (((k : Nat) : Int)))] ∧ Kept (fun _ => False) w31 w_) rfl rfl (y_cs rfl rfl rfl (fun _ _ => by kernel_rfl) (ev_func _) (vsC rfl (vsC rfl vsN)) (down_any (blL [a, (a) + (((m : Nat) : Int))]) (((k : Nat) : Int)) _ (hs.all K33)) (fun e_ w_ h_ => ⟨_, h_.1, rfl, h_.2⟩)) ?_
  rintro _ w42 ⟨rfl, k43⟩
  have K44 := K33.trans k43 (fun _ _ x => x)
  refine wl_v (.tuple #[blkV (downB (blL [a, (a) + (((m : Nat) : Int))]) (((k : Nat) : Int))), .int .i64 (ern (((k : Nat) : Int)))]) rfl rfl (y_mov rfl rfl ⟨rfl, rfl⟩) ?_
  refine wl_v (blkV (downB (blL [a, (a) + (((m : Nat) : Int))]) (((k : Nat) : Int)))) rfl rfl (y_ext rfl rfl rfl ⟨rfl, rfl⟩) ?_
  refine wl_v (.int .i64 (ern (((k : Nat) : Int)))) rfl rfl (y_ext rfl rfl rfl ⟨rfl, rfl⟩) ?_
  refine wl_alloc_blk rfl rfl rfl blkT_block.2.2 fun p45 w46 e49 B47 k48 => ?_
  have lp50 : w0.heap.size ≤ p45 := by have h_ := K44.size; omega
  clear e49
  have K51 := K44.trans k48 (fun _ _ x => x)
  refine wl_store_blk blkT_block rfl rfl rfl rfl rfl B47 fun w52 B53 k54 => ?_
  have K55 := K51.trans k54 (fun _ hi e => absurd (e ▸ hi) (Nat.not_lt.2 lp50))
  refine wl_v (.int .i64 (ern (((k : Nat) : Int)))) rfl rfl (y_asg rfl rfl ⟨rfl, rfl⟩) ?_
  refine wl_nil fun F56 hF57 => ?_
  have s58 : F56 0 = .int .i32 (a) := (hF57 0).trans s36
  have s59 : F56 7 = .bool true := (hF57 7).trans s38
  have s60 : F56 8 = .int .i64 (((k : Nat) : Int)) := (hF57 8).trans s39
  have s61 : F56 9 = .int .i64 (stp (((k : Nat) : Int))) := (hF57 9).trans s40
  have s62 : F56 11 = .int .i64 (stp (((k + 1 : Nat) : Int))) := (hF57 11).trans s41
  have s63 : F56 13 = .pointer (some ⟨p45, 0, none⟩) := (hF57 13).trans rfl
  clear hF57
  refine then_normal ?_
  refine wq_seq ?_
  refine wq_region ?_
  refine wl_v (.int .i32 (a)) rfl rfl (y_mov rfl s58 ⟨rfl, rfl⟩) ?_
  refine wl_v (.int .i64 (a)) rfl rfl (y_convR rfl rfl Tryd.underlying21 Tryd.underlying3 (i64_i rfl (by omega)) ⟨rfl, rfl⟩) ?_
  refine wl_v (.int .i32 (a)) rfl rfl (y_mov rfl s58 ⟨rfl, rfl⟩) ?_
  refine wl_v (.int .i64 (a)) rfl rfl (y_convR rfl rfl Tryd.underlying21 Tryd.underlying3 (i64_i rfl (by omega)) ⟨rfl, rfl⟩) ?_
  refine wl_v (.int .i64 (-(a))) rfl rfl (y_neg rfl rfl (i64_i rfl (by omega)) ⟨rfl, rfl⟩) ?_
  refine wl_v (blkV (blL [a, -(a)])) rfl rfl (y_buildL (l' := [(0, .int .i64 (a)), (1, .int .i64 (-(a)))]) (cells := (arrL 16 (blL [a, -(a)])).toArray) rfl (bpC rfl (bpC rfl bpN)) (by kernel_rfl) rfl ⟨rfl, rfl⟩) ?_
  refine wl_v (.int .i64 (((k : Nat) : Int))) rfl rfl (y_mov rfl s60 ⟨rfl, rfl⟩) ?_
  refine wl_call (R := fun v_ w_ => v_ = .tuple #[blkV (downB (blL [a, -(a)]) (((k : Nat) : Int))), .int .i64 (ern (((k : Nat) : Int)))] ∧ Kept (fun _ => False) w52 w_) rfl rfl (y_cs rfl rfl rfl (fun _ _ => by kernel_rfl) (ev_func _) (vsC rfl (vsC rfl vsN)) (down_any (blL [a, -(a)]) (((k : Nat) : Int)) _ (hs.all K55)) (fun e_ w_ h_ => ⟨_, h_.1, rfl, h_.2⟩)) ?_
  rintro _ w64 ⟨rfl, k65⟩
  have B66 := B53.all k65 id
  have K67 := K55.trans k65 (fun _ _ x => x)
  refine wl_v (.tuple #[blkV (downB (blL [a, -(a)]) (((k : Nat) : Int))), .int .i64 (ern (((k : Nat) : Int)))]) rfl rfl (y_mov rfl rfl ⟨rfl, rfl⟩) ?_
  refine wl_v (blkV (downB (blL [a, -(a)]) (((k : Nat) : Int)))) rfl rfl (y_ext rfl rfl rfl ⟨rfl, rfl⟩) ?_
  refine wl_v (.int .i64 (ern (((k : Nat) : Int)))) rfl rfl (y_ext rfl rfl rfl ⟨rfl, rfl⟩) ?_
  refine wl_alloc_blk rfl rfl rfl blkT_block.2.2 fun p68 w69 e72 B70 k71 => ?_
  have ne73 : p45 ≠ p68 := by have h_ := B66.lt; omega
  have lp74 : w0.heap.size ≤ p68 := by have h_ := K67.size; omega
  clear e72
  have B75 := B66.all k71 id
  have K76 := K67.trans k71 (fun _ _ x => x)
  refine wl_store_blk blkT_block rfl rfl rfl rfl rfl B70 fun w77 B78 k79 => ?_
  have B80 := B75.all k79 ne73
  have K81 := K76.trans k79 (fun _ hi e => absurd (e ▸ hi) (Nat.not_lt.2 lp74))
  refine wl_v (.int .i64 (ern (((k : Nat) : Int)))) rfl rfl (y_asg rfl rfl ⟨rfl, rfl⟩) ?_
  refine wl_nil fun F82 hF83 => ?_
  have s84 : F82 7 = .bool true := (hF83 7).trans s59
  have s85 : F82 9 = .int .i64 (stp (((k : Nat) : Int))) := (hF83 9).trans s61
  have s86 : F82 11 = .int .i64 (stp (((k + 1 : Nat) : Int))) := (hF83 11).trans s62
  have s87 : F82 13 = .pointer (some ⟨p45, 0, none⟩) := (hF83 13).trans s63
  have s88 : F82 15 = .pointer (some ⟨p68, 0, none⟩) := (hF83 15).trans rfl
  clear hF83
  refine then_normal ?_
  refine wq_seq ?_
  refine wq_region ?_
  refine wl_v (.bool true) rfl rfl (y_mov rfl s84 ⟨rfl, rfl⟩) ?_
  refine wl_v (.bool true) rfl rfl (y_mov rfl rfl ⟨rfl, rfl⟩) ?_
  refine wl_vw (.int .i64 (stp (((k : Nat) : Int)))) 1 true 57 rfl rfl rfl rfl rfl (y_mov rfl s85 ⟨rfl, rfl⟩) ?_
  refine wl_vw (.int .i64 (stp (((k + 1 : Nat) : Int)))) 1 true 57 rfl rfl rfl rfl rfl (y_mov rfl s86 ⟨rfl, rfl⟩) ?_
  refine wl_vw (.bool true) 1 true 57 rfl rfl rfl rfl rfl (y_lss rfl rfl rfl (decide_eq_true hup) ⟨rfl, rfl⟩) ?_
  refine wl_v (.bool true) rfl rfl (y_pickT rfl rfl rfl ⟨rfl, rfl⟩) ?_
  refine wl_v (.bool true) rfl rfl (y_mov rfl rfl ⟨rfl, rfl⟩) ?_
  refine wl_vw (.int .i64 (stp (((k : Nat) : Int)))) 6 true 62 rfl rfl rfl rfl rfl (y_mov rfl s85 ⟨rfl, rfl⟩) ?_
  refine wl_vw (.bool true) 6 true 62 rfl rfl rfl rfl rfl (y_geq rfl rfl rfl (decide_eq_true hst.1) ⟨rfl, rfl⟩) ?_
  refine wl_v (.bool true) rfl rfl (y_pickT rfl rfl rfl ⟨rfl, rfl⟩) ?_
  refine wl_v (.bool true) rfl rfl (y_mov rfl rfl ⟨rfl, rfl⟩) ?_
  refine wl_vw (.pointer (some ⟨p45, 0, none⟩)) 10 true 66 rfl rfl rfl rfl rfl (y_atR (0) (s := 1) rfl s87 rfl (by omega) Tryd.underlying27 (by omega) (by kernel_rfl) (by omega) ⟨rfl, rfl⟩) ?_
  refine wl_vw (.int .i64 (lev (cl 1048576 a) (stp k))) 10 true 66 rfl rfl rfl rfl rfl (y_ldR rfl rfl Tryd.underlying3 (((B80).cell (by omega)).trans (some_int hx0)) ⟨rfl, rfl⟩) ?_
  refine wl_vw (.pointer (some ⟨p45, 1, none⟩)) 10 true 66 rfl rfl rfl rfl rfl (y_atR (1) (s := 1) rfl s87 rfl (by omega) Tryd.underlying27 (by omega) (by kernel_rfl) (by omega) ⟨rfl, rfl⟩) ?_
  refine wl_vw (.int .i64 (lev (cl 1048576 (a + (m : Int))) (stp k))) 10 true 66 rfl rfl rfl rfl rfl (y_ldR rfl rfl Tryd.underlying3 (((B80).cell (by omega)).trans (some_int hx1)) ⟨rfl, rfl⟩) ?_
  refine wl_vw (.bool true) 10 true 66 rfl rfl rfl rfl rfl (y_leq rfl rfl rfl (decide_eq_true hle) ⟨rfl, rfl⟩) ?_
  refine wl_v (.bool true) rfl rfl (y_pickT rfl rfl rfl ⟨rfl, rfl⟩) ?_
  refine wl_v (.bool true) rfl rfl (y_mov rfl rfl ⟨rfl, rfl⟩) ?_
  refine wl_vw (.pointer (some ⟨p68, 0, none⟩)) 17 true 73 rfl rfl rfl rfl rfl (y_atR (0) (s := 1) rfl s88 rfl (by omega) Tryd.underlying27 (by omega) (by kernel_rfl) (by omega) ⟨rfl, rfl⟩) ?_
  refine wl_vw (.int .i64 (lev (cl 1048576 a) (stp k))) 17 true 73 rfl rfl rfl rfl rfl (y_ldR rfl rfl Tryd.underlying3 (((B78).cell (by omega)).trans (some_int hy0)) ⟨rfl, rfl⟩) ?_
  refine wl_vw (.pointer (some ⟨p68, 1, none⟩)) 17 true 73 rfl rfl rfl rfl rfl (y_atR (1) (s := 1) rfl s88 rfl (by omega) Tryd.underlying27 (by omega) (by kernel_rfl) (by omega) ⟨rfl, rfl⟩) ?_
  refine wl_vw (.int .i64 (-(lev (cl 1048576 a) (stp k)))) 17 true 73 rfl rfl rfl rfl rfl (y_ldR rfl rfl Tryd.underlying3 (((B78).cell (by omega)).trans (some_int hy1)) ⟨rfl, rfl⟩) ?_
  refine wl_vw (.int .i64 (-(-(lev (cl 1048576 a) (stp k))))) 17 true 73 rfl rfl rfl rfl rfl (y_neg rfl rfl (i64_i rfl (by omega)) ⟨rfl, rfl⟩) ?_
  refine wl_vw (.bool true) 17 true 73 rfl rfl rfl rfl rfl (y_eqlI rfl rfl rfl (decide_eq_true (by omega)) ⟨rfl, rfl⟩) ?_
  refine wl_v (.bool true) rfl rfl (y_pickT rfl rfl rfl ⟨rfl, rfl⟩) ?_
  refine wl_v (.bool true) rfl rfl (y_asg rfl rfl ⟨rfl, rfl⟩) ?_
  refine wl_nil fun F89 hF90 => ?_
  have s91 : F89 6 = .bool true := (hF90 6).trans rfl
  clear hF90
  refine then_normal ?_
  refine wq_ret ?_
  exact end_tmp (v := .bool true) rfl s91 ⟨rfl, K81⟩

set_option maxHeartbeats 4000000 in
set_option maxRecDepth 100000 in
theorem qcoarse_walk (b : Nat → Int) (q m : Nat) (w0 : World) (hs : StepsAt w0) (hq : q < 256) (hm : m < 256) :
    Calls Tryd.prog 7 #[blkV (b), .int .u8 (((q : Nat) : Int)), .int .u8 (((m : Nat) : Int))] w0 fun e w' => e = .returned (.bool true) ∧ Kept (fun _ => False) w0 w' := by
  refine calls_wq (args := [blkV (b), .int .u8 (((q : Nat) : Int)), .int .u8 (((m : Nat) : Int))]) 79 Tryd.func7 rfl rfl (Nat.le_of_ble_eq_true rfl) ?_
  have K0 := Kept.refl (fun _ => False) w0
  obtain ⟨k, hkq⟩ : ∃ k, k = q % 21 := ⟨_, rfl⟩
  obtain ⟨l, hlm⟩ : ∃ l, l = min (k + m % 21) 20 := ⟨_, rfl⟩
  have hk : k < 21 := by omega
  have hl : l < 21 := by omega
  have he := ern_nat hk
  have hel := ern_nat hl
  have hst := stp_in hk
  have hsl := stp_in hl
  have hup : stp (k : Int) ≤ stp (l : Int) := by rw [stp_nat hk, stp_nat hl]; exact stl_up k hk l hl (by omega)
  refine wq_seq ?_
  refine wq_region ?_
  refine wl_box_blk rfl rfl rfl rfl fun p1 w2 e5 B3 k4 => ?_
  have lp6 : w0.heap.size ≤ p1 := by have h_ := K0.size; omega
  clear e5
  have K7 := K0.trans k4 (fun _ _ x => x)
  refine wl_v (.bool false) rfl rfl (y_asg rfl rfl ⟨rfl, rfl⟩) ?_
  refine wl_nil fun F8 hF9 => ?_
  have s10 : F8 1 = .int .u8 (((q : Nat) : Int)) := (hF9 1).trans rfl
  have s11 : F8 2 = .int .u8 (((m : Nat) : Int)) := (hF9 2).trans rfl
  have s12 : F8 3 = .pointer (some ⟨p1, 0, none⟩) := (hF9 3).trans rfl
  clear hF9
  refine then_normal ?_
  refine wq_seq ?_
  refine wq_region ?_
  refine wl_call (R := fun v_ w_ => v_ = .bool true ∧ Kept (fun _ => False) w2 w_) rfl rfl (y_cs rfl rfl rfl (fun _ _ => by kernel_rfl) (ev_func _) vsN (qawake_any  _ (hs.all K7)) (fun e_ w_ h_ => ⟨_, h_.1, rfl, h_.2⟩)) ?_
  rintro _ w13 ⟨rfl, k14⟩
  have B15 := B3.all k14 id
  have K16 := K7.trans k14 (fun _ _ x => x)
  refine wl_v (.bool true) rfl rfl (y_asg rfl rfl ⟨rfl, rfl⟩) ?_
  refine wl_nil fun F17 hF18 => ?_
  have s19 : F17 1 = .int .u8 (((q : Nat) : Int)) := (hF18 1).trans s10
  have s20 : F17 2 = .int .u8 (((m : Nat) : Int)) := (hF18 2).trans s11
  have s21 : F17 3 = .pointer (some ⟨p1, 0, none⟩) := (hF18 3).trans s12
  have s22 : F17 7 = .bool true := (hF18 7).trans rfl
  clear hF18
  refine then_normal ?_
  refine wq_seq ?_
  refine wq_region ?_
  refine wl_v (.int .u8 (((q : Nat) : Int))) rfl rfl (y_mov rfl s19 ⟨rfl, rfl⟩) ?_
  refine wl_v (.int .i64 (((q : Nat) : Int))) rfl rfl (y_convR rfl rfl Tryd.underlying5 Tryd.underlying3 (i64_i rfl (by omega)) ⟨rfl, rfl⟩) ?_
  refine wl_v (.int .i64 (((k : Nat) : Int))) rfl rfl (y_rem rfl rfl rfl (by first | decide | omega) ((mod_nat q 21).trans (by rw [hkq])) ⟨rfl, rfl⟩) ?_
  refine wl_v (.int .i64 (((k : Nat) : Int))) rfl rfl (y_asg rfl rfl ⟨rfl, rfl⟩) ?_
  refine wl_nil fun F23 hF24 => ?_
  have s25 : F23 2 = .int .u8 (((m : Nat) : Int)) := (hF24 2).trans s20
  have s26 : F23 3 = .pointer (some ⟨p1, 0, none⟩) := (hF24 3).trans s21
  have s27 : F23 7 = .bool true := (hF24 7).trans s22
  have s28 : F23 8 = .int .i64 (((k : Nat) : Int)) := (hF24 8).trans rfl
  clear hF24
  refine then_normal ?_
  refine wq_seq ?_
  refine wq_region ?_
  refine wl_v (.int .i64 (((k : Nat) : Int))) rfl rfl (y_mov rfl s28 ⟨rfl, rfl⟩) ?_
  refine wl_v (.int .u8 (((m : Nat) : Int))) rfl rfl (y_mov rfl s25 ⟨rfl, rfl⟩) ?_
  refine wl_v (.int .i64 (((m : Nat) : Int))) rfl rfl (y_convR rfl rfl Tryd.underlying5 Tryd.underlying3 (i64_i rfl (by omega)) ⟨rfl, rfl⟩) ?_
  refine wl_v (.int .i64 (((m % 21 : Nat) : Int))) rfl rfl (y_rem rfl rfl rfl (by first | decide | omega) (mod_nat m 21) ⟨rfl, rfl⟩) ?_
  refine wl_v (.int .i64 (((k + (m % 21) : Nat) : Int))) rfl rfl (y_add rfl rfl rfl (i64_n (by omega) (by omega)) ⟨rfl, rfl⟩) ?_
  refine wl_v (.int .i64 (((l : Nat) : Int))) rfl rfl (y_minR rfl rfl rfl (by omega) ⟨rfl, rfl⟩) ?_
  refine wl_v (.int .i64 (((l : Nat) : Int))) rfl rfl (y_asg rfl rfl ⟨rfl, rfl⟩) ?_
  refine wl_nil fun F29 hF30 => ?_
  have s31 : F29 3 = .pointer (some ⟨p1, 0, none⟩) := (hF30 3).trans s26
  have s32 : F29 7 = .bool true := (hF30 7).trans s27
  have s33 : F29 8 = .int .i64 (((k : Nat) : Int)) := (hF30 8).trans s28
  have s34 : F29 9 = .int .i64 (((l : Nat) : Int)) := (hF30 9).trans rfl
  clear hF30
  refine then_normal ?_
  refine wq_seq ?_
  refine wq_region ?_
  refine wl_v (blkV (b)) rfl rfl (y_load_blk blkT_arr rfl s31 B15 ⟨rfl, rfl⟩) ?_
  refine wl_v (.int .i64 (((k : Nat) : Int))) rfl rfl (y_mov rfl s33 ⟨rfl, rfl⟩) ?_
  refine wl_call (R := fun v_ w_ => v_ = .tuple #[blkV (downB (b) (((k : Nat) : Int))), .int .i64 (ern (((k : Nat) : Int)))] ∧ Kept (fun _ => False) w13 w_) rfl rfl (y_cs rfl rfl rfl (fun _ _ => by kernel_rfl) (ev_func _) (vsC rfl (vsC rfl vsN)) (down_any (b) (((k : Nat) : Int)) _ (hs.all K16)) (fun e_ w_ h_ => ⟨_, h_.1, rfl, h_.2⟩)) ?_
  rintro _ w35 ⟨rfl, k36⟩
  have B37 := B15.all k36 id
  have K38 := K16.trans k36 (fun _ _ x => x)
  refine wl_v (.tuple #[blkV (downB (b) (((k : Nat) : Int))), .int .i64 (ern (((k : Nat) : Int)))]) rfl rfl (y_mov rfl rfl ⟨rfl, rfl⟩) ?_
  refine wl_v (blkV (downB (b) (((k : Nat) : Int)))) rfl rfl (y_ext rfl rfl rfl ⟨rfl, rfl⟩) ?_
  refine wl_v (.int .i64 (ern (((k : Nat) : Int)))) rfl rfl (y_ext rfl rfl rfl ⟨rfl, rfl⟩) ?_
  refine wl_alloc_blk rfl rfl rfl blkT_block.2.2 fun p39 w40 e43 B41 k42 => ?_
  have ne44 : p1 ≠ p39 := by have h_ := B37.lt; omega
  have lp45 : w0.heap.size ≤ p39 := by have h_ := K38.size; omega
  clear e43
  have B46 := B37.all k42 id
  have K47 := K38.trans k42 (fun _ _ x => x)
  refine wl_store_blk blkT_block rfl rfl rfl rfl rfl B41 fun w48 B49 k50 => ?_
  have B51 := B46.all k50 ne44
  have K52 := K47.trans k50 (fun _ hi e => absurd (e ▸ hi) (Nat.not_lt.2 lp45))
  refine wl_v (.int .i64 (ern (((k : Nat) : Int)))) rfl rfl (y_asg rfl rfl ⟨rfl, rfl⟩) ?_
  refine wl_nil fun F53 hF54 => ?_
  have s55 : F53 3 = .pointer (some ⟨p1, 0, none⟩) := (hF54 3).trans s31
  have s56 : F53 7 = .bool true := (hF54 7).trans s32
  have s57 : F53 9 = .int .i64 (((l : Nat) : Int)) := (hF54 9).trans s34
  have s58 : F53 10 = .pointer (some ⟨p39, 0, none⟩) := (hF54 10).trans rfl
  have s59 : F53 11 = .int .i64 (ern (((k : Nat) : Int))) := (hF54 11).trans rfl
  clear hF54
  refine then_normal ?_
  refine wq_seq ?_
  refine wq_region ?_
  refine wl_v (blkV (b)) rfl rfl (y_load_blk blkT_arr rfl s55 B51 ⟨rfl, rfl⟩) ?_
  refine wl_v (.int .i64 (((l : Nat) : Int))) rfl rfl (y_mov rfl s57 ⟨rfl, rfl⟩) ?_
  refine wl_call (R := fun v_ w_ => v_ = .tuple #[blkV (downB (b) (((l : Nat) : Int))), .int .i64 (ern (((l : Nat) : Int)))] ∧ Kept (fun _ => False) w48 w_) rfl rfl (y_cs rfl rfl rfl (fun _ _ => by kernel_rfl) (ev_func _) (vsC rfl (vsC rfl vsN)) (down_any (b) (((l : Nat) : Int)) _ (hs.all K52)) (fun e_ w_ h_ => ⟨_, h_.1, rfl, h_.2⟩)) ?_
  rintro _ w60 ⟨rfl, k61⟩
  have B62 := B51.all k61 id
  have B63 := B49.all k61 id
  have K64 := K52.trans k61 (fun _ _ x => x)
  refine wl_v (.tuple #[blkV (downB (b) (((l : Nat) : Int))), .int .i64 (ern (((l : Nat) : Int)))]) rfl rfl (y_mov rfl rfl ⟨rfl, rfl⟩) ?_
  refine wl_v (blkV (downB (b) (((l : Nat) : Int)))) rfl rfl (y_ext rfl rfl rfl ⟨rfl, rfl⟩) ?_
  refine wl_v (.int .i64 (ern (((l : Nat) : Int)))) rfl rfl (y_ext rfl rfl rfl ⟨rfl, rfl⟩) ?_
  refine wl_alloc_blk rfl rfl rfl blkT_block.2.2 fun p65 w66 e69 B67 k68 => ?_
  have ne70 : p1 ≠ p65 := by have h_ := B62.lt; omega
  have ne71 : p39 ≠ p65 := by have h_ := B63.lt; omega
  have lp72 : w0.heap.size ≤ p65 := by have h_ := K64.size; omega
  clear e69
  have B73 := B62.all k68 id
  have B74 := B63.all k68 id
  have K75 := K64.trans k68 (fun _ _ x => x)
  refine wl_store_blk blkT_block rfl rfl rfl rfl rfl B67 fun w76 B77 k78 => ?_
  have B79 := B73.all k78 ne70
  have B80 := B74.all k78 ne71
  have K81 := K75.trans k78 (fun _ hi e => absurd (e ▸ hi) (Nat.not_lt.2 lp72))
  refine wl_v (.int .i64 (ern (((l : Nat) : Int)))) rfl rfl (y_asg rfl rfl ⟨rfl, rfl⟩) ?_
  refine wl_nil fun F82 hF83 => ?_
  have s84 : F82 3 = .pointer (some ⟨p1, 0, none⟩) := (hF83 3).trans s55
  have s85 : F82 7 = .bool true := (hF83 7).trans s56
  have s86 : F82 10 = .pointer (some ⟨p39, 0, none⟩) := (hF83 10).trans s58
  have s87 : F82 11 = .int .i64 (ern (((k : Nat) : Int))) := (hF83 11).trans s59
  have s88 : F82 12 = .pointer (some ⟨p65, 0, none⟩) := (hF83 12).trans rfl
  have s89 : F82 13 = .int .i64 (ern (((l : Nat) : Int))) := (hF83 13).trans rfl
  clear hF83
  refine then_normal ?_
  refine wq_seq ?_
  refine wq_seq ?_
  refine wq_region ?_
  refine wl_v (.int .i64 (0)) rfl rfl (y_asg rfl rfl ⟨rfl, rfl⟩) ?_
  refine wl_nil fun F90 hF91 => ?_
  have s92 : F90 3 = .pointer (some ⟨p1, 0, none⟩) := (hF91 3).trans s84
  have s93 : F90 7 = .bool true := (hF91 7).trans s85
  have s94 : F90 10 = .pointer (some ⟨p39, 0, none⟩) := (hF91 10).trans s86
  have s95 : F90 11 = .int .i64 (ern (((k : Nat) : Int))) := (hF91 11).trans s87
  have s96 : F90 12 = .pointer (some ⟨p65, 0, none⟩) := (hF91 12).trans s88
  have s97 : F90 13 = .int .i64 (ern (((l : Nat) : Int))) := (hF91 13).trans s89
  have s98 : F90 14 = .int .i64 (0) := (hF91 14).trans rfl
  clear hF91
  refine then_normal ?_
  refine wq_block ?_
  refine wq_loop (fun nn FF ww => ∃ (i : Nat), i ≤ 16 ∧ nn = 16 - i ∧ FF 3 = .pointer (some ⟨p1, 0, none⟩) ∧ FF 7 = .bool true ∧ FF 10 = .pointer (some ⟨p39, 0, none⟩) ∧ FF 11 = .int .i64 (ern (((k : Nat) : Int))) ∧ FF 12 = .pointer (some ⟨p65, 0, none⟩) ∧ FF 13 = .int .i64 (ern (((l : Nat) : Int))) ∧ FF 14 = .int .i64 (((i : Nat) : Int)) ∧ Kept (fun _ => False) w0 ww ∧ Blk ww p1 22 (b) ∧ Blk ww p39 27 (downB (b) (((k : Nat) : Int))) ∧ Blk ww p65 27 (downB (b) (((l : Nat) : Int)))) (16 - (0)) ⟨0, by omega, rfl, s92, s93, s94, s95, s96, s97, s98, K81, B79, B80, B77⟩ ?_
  rintro n102 F99 w100 ⟨i, i103, hn102, s104, s105, s106, s107, s108, s109, s110, K101, B111, B112, B113⟩
  refine wq_seq ?_
  refine wq_seq ?_
  refine wq_region ?_
  refine wl_v (.int .i64 (((i : Nat) : Int))) rfl rfl (y_mov rfl s110 ⟨rfl, rfl⟩) ?_
  refine wl_v (.bool (decide ((((i : Nat) : Int)) < (16)))) rfl rfl (y_lss rfl rfl rfl rfl ⟨rfl, rfl⟩) ?_
  refine wl_nil fun F114 hF115 => ?_
  have s116 : F114 3 = .pointer (some ⟨p1, 0, none⟩) := (hF115 3).trans s104
  have s117 : F114 7 = .bool true := (hF115 7).trans s105
  have s118 : F114 10 = .pointer (some ⟨p39, 0, none⟩) := (hF115 10).trans s106
  have s119 : F114 11 = .int .i64 (ern (((k : Nat) : Int))) := (hF115 11).trans s107
  have s120 : F114 12 = .pointer (some ⟨p65, 0, none⟩) := (hF115 12).trans s108
  have s121 : F114 13 = .int .i64 (ern (((l : Nat) : Int))) := (hF115 13).trans s109
  have s122 : F114 14 = .int .i64 (((i : Nat) : Int)) := (hF115 14).trans s110
  have s123 : F114 38 = .bool (decide ((((i : Nat) : Int)) < (16))) := (hF115 38).trans rfl
  clear hF115
  refine then_normal ?_
  refine wq_cond s123 (fun c124 => ?_) (fun c124 => ?_)
  · replace c124 := of_decide_eq_true c124
    refine wq_skip ?_
    refine then_normal ?_
    refine wq_seq ?_
    refine wq_block ?_
    refine wq_seq ?_
    have hx : downB b k i = lev (cl 1048576 (b i)) (stp k) := down_at he i
    have hy : downB b l i = lev (cl 1048576 (b i)) (stp l) := down_at hel i
    have hco := lev_coarse (n := cl 1048576 (b i)) hst.1 hup
    have hb1 := lev_le (cl_le 1048576 (b i) (by omega)) hst
    have hb2 := lev_le (cl_le 1048576 (b i) (by omega)) hsl
    rw [← hx, ← hy] at hco
    rw [← hx] at hb1
    rw [← hy] at hb2
    by_cases d125 : ((b) (i)) = (0)
    · skip
      refine wq_said [some 41, some 42, some 43, some 44, some 45, some 46, some 47, some 48, some 49, some 50, some 51, some 52, some 53, some 54, some 55, some 56, some 57, some 58, some 59, some 60, some 61, some 62, some 63, some 64, some 65, some 66, some 67, some 68, some 69] [Pd.eq (.int .i64 (((i : Nat) : Int))), Pd.eq (.pointer (some ⟨p65, i, none⟩)), Pd.eq (.int .i64 ((downB (b) (((l : Nat) : Int))) (i))), Pd.eq (.int .i64 (((i : Nat) : Int))), Pd.eq (.pointer (some ⟨p65, i, none⟩)), Pd.eq (.int .i64 ((downB (b) (((l : Nat) : Int))) (i))), Pd.eq (.int .i64 (-((downB (b) (((l : Nat) : Int))) (i)))), Pd.eq (.int .i64 (max ((downB (b) (((l : Nat) : Int))) (i)) (-((downB (b) (((l : Nat) : Int))) (i))))), Pd.eq (.int .i64 (((i : Nat) : Int))), Pd.eq (.pointer (some ⟨p39, i, none⟩)), Pd.eq (.int .i64 ((downB (b) (((k : Nat) : Int))) (i))), Pd.eq (.int .i64 (((i : Nat) : Int))), Pd.eq (.pointer (some ⟨p39, i, none⟩)), Pd.eq (.int .i64 ((downB (b) (((k : Nat) : Int))) (i))), Pd.eq (.int .i64 (-((downB (b) (((k : Nat) : Int))) (i)))), Pd.eq (.int .i64 (max ((downB (b) (((k : Nat) : Int))) (i)) (-((downB (b) (((k : Nat) : Int))) (i))))), Pd.eq (.bool false), Pd.eq (.bool false), Pd.eq (.int .i64 (((i : Nat) : Int))), Pd.eq (.pointer (some ⟨p1, i, none⟩)), Pd.eq (.int .i64 ((b) (i))), Pd.eq (.bool true), Pd.eq (.bool true), Pd.eq (.int .i64 (((i : Nat) : Int))), Pd.eq (.pointer (some ⟨p39, i, none⟩)), Pd.eq (.int .i64 ((downB (b) (((k : Nat) : Int))) (i))), Pd.eq (.bool false), Pd.eq (.bool false), Pd.eq (.bool false)] (by kernel_rfl) (by kernel_rfl) ?_ ?_
      · refine stepsF_cons ?_ ?_
        · refine StepF.one rfl fun F_ w_ hR hout hD => ?_
          exact (y_mov rfl ((hout 14 (by decide)).trans s122) ⟨rfl, Kept.refl _ _⟩)
        refine stepsF_cons ?_ ?_
        · refine StepF.one rfl fun F_ w_ hR hout hD => ?_
          have g41 : F_ 41 = .int .i64 (((i : Nat) : Int)) := hD.get 0 rfl rfl rfl
          exact (y_atR (i) (s := 1) rfl ((hout 12 (by decide)).trans s120) g41 (by omega) Tryd.underlying27 (by omega) (by kernel_rfl) (by omega) ⟨rfl, Kept.refl _ _⟩)
        refine stepsF_cons ?_ ?_
        · refine StepF.one rfl fun F_ w_ hR hout hD => ?_
          have g42 : F_ 42 = .pointer (some ⟨p65, i, none⟩) := hD.get 0 rfl rfl rfl
          exact (y_ldR rfl g42 Tryd.underlying3 (((B113.all hR id)).cell (by omega)) ⟨rfl, Kept.refl _ _⟩)
        refine stepsF_cons ?_ ?_
        · refine StepF.one rfl fun F_ w_ hR hout hD => ?_
          exact (y_mov rfl ((hout 14 (by decide)).trans s122) ⟨rfl, Kept.refl _ _⟩)
        refine stepsF_cons ?_ ?_
        · refine StepF.one rfl fun F_ w_ hR hout hD => ?_
          have g44 : F_ 44 = .int .i64 (((i : Nat) : Int)) := hD.get 0 rfl rfl rfl
          exact (y_atR (i) (s := 1) rfl ((hout 12 (by decide)).trans s120) g44 (by omega) Tryd.underlying27 (by omega) (by kernel_rfl) (by omega) ⟨rfl, Kept.refl _ _⟩)
        refine stepsF_cons ?_ ?_
        · refine StepF.one rfl fun F_ w_ hR hout hD => ?_
          have g45 : F_ 45 = .pointer (some ⟨p65, i, none⟩) := hD.get 0 rfl rfl rfl
          exact (y_ldR rfl g45 Tryd.underlying3 (((B113.all hR id)).cell (by omega)) ⟨rfl, Kept.refl _ _⟩)
        refine stepsF_cons ?_ ?_
        · refine StepF.one rfl fun F_ w_ hR hout hD => ?_
          have g46 : F_ 46 = .int .i64 ((downB (b) (((l : Nat) : Int))) (i)) := hD.get 0 rfl rfl rfl
          exact (y_neg rfl g46 (i64_i rfl (by omega)) ⟨rfl, Kept.refl _ _⟩)
        refine stepsF_cons ?_ ?_
        · refine StepF.one rfl fun F_ w_ hR hout hD => ?_
          have g43 : F_ 43 = .int .i64 ((downB (b) (((l : Nat) : Int))) (i)) := hD.get 0 rfl rfl rfl
          have g47 : F_ 47 = .int .i64 (-((downB (b) (((l : Nat) : Int))) (i))) := hD.get 1 rfl rfl rfl
          exact (y_maxR rfl g43 g47 rfl ⟨rfl, Kept.refl _ _⟩)
        refine stepsF_cons ?_ ?_
        · refine StepF.one rfl fun F_ w_ hR hout hD => ?_
          exact (y_mov rfl ((hout 14 (by decide)).trans s122) ⟨rfl, Kept.refl _ _⟩)
        refine stepsF_cons ?_ ?_
        · refine StepF.one rfl fun F_ w_ hR hout hD => ?_
          have g49 : F_ 49 = .int .i64 (((i : Nat) : Int)) := hD.get 0 rfl rfl rfl
          exact (y_atR (i) (s := 1) rfl ((hout 10 (by decide)).trans s118) g49 (by omega) Tryd.underlying27 (by omega) (by kernel_rfl) (by omega) ⟨rfl, Kept.refl _ _⟩)
        refine stepsF_cons ?_ ?_
        · refine StepF.one rfl fun F_ w_ hR hout hD => ?_
          have g50 : F_ 50 = .pointer (some ⟨p39, i, none⟩) := hD.get 0 rfl rfl rfl
          exact (y_ldR rfl g50 Tryd.underlying3 (((B112.all hR id)).cell (by omega)) ⟨rfl, Kept.refl _ _⟩)
        refine stepsF_cons ?_ ?_
        · refine StepF.one rfl fun F_ w_ hR hout hD => ?_
          exact (y_mov rfl ((hout 14 (by decide)).trans s122) ⟨rfl, Kept.refl _ _⟩)
        refine stepsF_cons ?_ ?_
        · refine StepF.one rfl fun F_ w_ hR hout hD => ?_
          have g52 : F_ 52 = .int .i64 (((i : Nat) : Int)) := hD.get 0 rfl rfl rfl
          exact (y_atR (i) (s := 1) rfl ((hout 10 (by decide)).trans s118) g52 (by omega) Tryd.underlying27 (by omega) (by kernel_rfl) (by omega) ⟨rfl, Kept.refl _ _⟩)
        refine stepsF_cons ?_ ?_
        · refine StepF.one rfl fun F_ w_ hR hout hD => ?_
          have g53 : F_ 53 = .pointer (some ⟨p39, i, none⟩) := hD.get 0 rfl rfl rfl
          exact (y_ldR rfl g53 Tryd.underlying3 (((B112.all hR id)).cell (by omega)) ⟨rfl, Kept.refl _ _⟩)
        refine stepsF_cons ?_ ?_
        · refine StepF.one rfl fun F_ w_ hR hout hD => ?_
          have g54 : F_ 54 = .int .i64 ((downB (b) (((k : Nat) : Int))) (i)) := hD.get 0 rfl rfl rfl
          exact (y_neg rfl g54 (i64_i rfl (by omega)) ⟨rfl, Kept.refl _ _⟩)
        refine stepsF_cons ?_ ?_
        · refine StepF.one rfl fun F_ w_ hR hout hD => ?_
          have g51 : F_ 51 = .int .i64 ((downB (b) (((k : Nat) : Int))) (i)) := hD.get 0 rfl rfl rfl
          have g55 : F_ 55 = .int .i64 (-((downB (b) (((k : Nat) : Int))) (i))) := hD.get 1 rfl rfl rfl
          exact (y_maxR rfl g51 g55 rfl ⟨rfl, Kept.refl _ _⟩)
        refine stepsF_cons ?_ ?_
        · refine StepF.one rfl fun F_ w_ hR hout hD => ?_
          have g48 : F_ 48 = .int .i64 (max ((downB (b) (((l : Nat) : Int))) (i)) (-((downB (b) (((l : Nat) : Int))) (i)))) := hD.get 0 rfl rfl rfl
          have g56 : F_ 56 = .int .i64 (max ((downB (b) (((k : Nat) : Int))) (i)) (-((downB (b) (((k : Nat) : Int))) (i)))) := hD.get 1 rfl rfl rfl
          exact (y_gtr rfl g48 g56 (decide_eq_false (by omega)) ⟨rfl, Kept.refl _ _⟩)
        refine stepsF_cons ?_ ?_
        · refine StepF.one rfl fun F_ w_ hR hout hD => ?_
          have g57 : F_ 57 = .bool false := hD.get 0 rfl rfl rfl
          exact (y_mov rfl g57 ⟨rfl, Kept.refl _ _⟩)
        refine stepsF_cons ?_ ?_
        · refine StepF.when 17 false 58 rfl rfl fun F_ w_ hR hout hD => ?_
          have g58 : F_ 58 = .bool false := hD.get 0 rfl rfl rfl
          exact ⟨g58, (y_mov rfl ((hout 14 (by decide)).trans s122) ⟨rfl, Kept.refl _ _⟩)⟩
        refine stepsF_cons ?_ ?_
        · refine StepF.when 17 false 58 rfl rfl fun F_ w_ hR hout hD => ?_
          have g58 : F_ 58 = .bool false := hD.get 1 rfl rfl rfl
          have g59 : F_ 59 = .int .i64 (((i : Nat) : Int)) := hD.get 0 rfl rfl rfl
          exact ⟨g58, (y_atR (i) (s := 1) rfl ((hout 3 (by decide)).trans s116) g59 (by omega) Tryd.underlying22 (by omega) (by kernel_rfl) (by omega) ⟨rfl, Kept.refl _ _⟩)⟩
        refine stepsF_cons ?_ ?_
        · refine StepF.when 17 false 58 rfl rfl fun F_ w_ hR hout hD => ?_
          have g58 : F_ 58 = .bool false := hD.get 1 rfl rfl rfl
          have g60 : F_ 60 = .pointer (some ⟨p1, i, none⟩) := hD.get 0 rfl rfl rfl
          exact ⟨g58, (y_ldR rfl g60 Tryd.underlying3 (((B111.all hR id)).cell (by omega)) ⟨rfl, Kept.refl _ _⟩)⟩
        refine stepsF_cons ?_ ?_
        · refine StepF.when 17 false 58 rfl rfl fun F_ w_ hR hout hD => ?_
          have g58 : F_ 58 = .bool false := hD.get 1 rfl rfl rfl
          have g61 : F_ 61 = .int .i64 ((b) (i)) := hD.get 0 rfl rfl rfl
          exact ⟨g58, (y_eqlI rfl g61 rfl (decide_eq_true d125) ⟨rfl, Kept.refl _ _⟩)⟩
        refine stepsF_cons ?_ ?_
        · refine StepF.when 17 false 58 rfl rfl fun F_ w_ hR hout hD => ?_
          have g58 : F_ 58 = .bool false := hD.get 1 rfl rfl rfl
          have g62 : F_ 62 = .bool true := hD.get 0 rfl rfl rfl
          exact ⟨g58, (y_mov rfl g62 ⟨rfl, Kept.refl _ _⟩)⟩
        refine stepsF_cons ?_ ?_
        · refine StepF.when 22 true 63 rfl rfl fun F_ w_ hR hout hD => ?_
          have g63 : F_ 63 = .bool true := hD.get 0 rfl rfl rfl
          exact ⟨g63, (y_mov rfl ((hout 14 (by decide)).trans s122) ⟨rfl, Kept.refl _ _⟩)⟩
        refine stepsF_cons ?_ ?_
        · refine StepF.when 22 true 63 rfl rfl fun F_ w_ hR hout hD => ?_
          have g63 : F_ 63 = .bool true := hD.get 1 rfl rfl rfl
          have g64 : F_ 64 = .int .i64 (((i : Nat) : Int)) := hD.get 0 rfl rfl rfl
          exact ⟨g63, (y_atR (i) (s := 1) rfl ((hout 10 (by decide)).trans s118) g64 (by omega) Tryd.underlying27 (by omega) (by kernel_rfl) (by omega) ⟨rfl, Kept.refl _ _⟩)⟩
        refine stepsF_cons ?_ ?_
        · refine StepF.when 22 true 63 rfl rfl fun F_ w_ hR hout hD => ?_
          have g63 : F_ 63 = .bool true := hD.get 1 rfl rfl rfl
          have g65 : F_ 65 = .pointer (some ⟨p39, i, none⟩) := hD.get 0 rfl rfl rfl
          exact ⟨g63, (y_ldR rfl g65 Tryd.underlying3 (((B112.all hR id)).cell (by omega)) ⟨rfl, Kept.refl _ _⟩)⟩
        refine stepsF_cons ?_ ?_
        · refine StepF.when 22 true 63 rfl rfl fun F_ w_ hR hout hD => ?_
          have g63 : F_ 63 = .bool true := hD.get 1 rfl rfl rfl
          have g66 : F_ 66 = .int .i64 ((downB (b) (((k : Nat) : Int))) (i)) := hD.get 0 rfl rfl rfl
          exact ⟨g63, (y_neqI rfl g66 rfl (decide_eq_false (fun h => h (by rw [hx, show cl 1048576 (b i) = 0 by unfold cl; omega]; exact lev_zero _ hst.1))) ⟨rfl, Kept.refl _ _⟩)⟩
        refine stepsF_cons ?_ ?_
        · refine StepF.when 17 false 58 rfl rfl fun F_ w_ hR hout hD => ?_
          have g58 : F_ 58 = .bool false := hD.get 2 rfl rfl rfl
          have g63 : F_ 63 = .bool true := hD.get 0 rfl rfl rfl
          have g67 : F_ 67 = .bool false := hD.get 1 rfl rfl rfl
          exact ⟨g58, (y_pickT rfl g63 g67 ⟨rfl, Kept.refl _ _⟩)⟩
        refine stepsF_cons ?_ ?_
        · refine StepF.one rfl fun F_ w_ hR hout hD => ?_
          have g58 : F_ 58 = .bool false := hD.get 0 rfl rfl rfl
          have g68 : F_ 68 = .bool false := hD.get 1 rfl rfl rfl
          exact (y_pickF rfl g58 g68 ⟨rfl, Kept.refl _ _⟩)
        exact stepsF_nil
      intro v126 F127 w128 k129 G130 hF131
      have B132 := B111.all k129 id
      have B133 := B112.all k129 id
      have B134 := B113.all k129 id
      have K135 := K101.trans k129 (fun _ _ x => x)
      have s136 : F127 3 = .pointer (some ⟨p1, 0, none⟩) := (hF131 3).trans s116
      have s137 : F127 7 = .bool true := (hF131 7).trans s117
      have s138 : F127 10 = .pointer (some ⟨p39, 0, none⟩) := (hF131 10).trans s118
      have s139 : F127 11 = .int .i64 (ern (((k : Nat) : Int))) := (hF131 11).trans s119
      have s140 : F127 12 = .pointer (some ⟨p65, 0, none⟩) := (hF131 12).trans s120
      have s141 : F127 13 = .int .i64 (ern (((l : Nat) : Int))) := (hF131 13).trans s121
      have s142 : F127 14 = .int .i64 (((i : Nat) : Int)) := (hF131 14).trans s122
      have s143 : F127 69 = .bool false := (hF131 69).trans (G130 28 (by decide))
      clear G130 hF131
      refine then_normal ?_
      refine wq_cond (t := false) s143 (fun e => by cases e) (fun _ => ?_)
      refine wq_skip ?_
      refine in_normal ?_
      refine then_normal ?_
      refine wq_region ?_
      refine wl_v (.int .i64 (((i : Nat) : Int))) rfl rfl (y_mov rfl s142 ⟨rfl, rfl⟩) ?_
      refine wl_v (.int .i64 (((i + 1 : Nat) : Int))) rfl rfl (y_add rfl rfl rfl (i64_n (by omega) (by omega)) ⟨rfl, rfl⟩) ?_
      refine wl_v (.int .i64 (((i + 1 : Nat) : Int))) rfl rfl (y_asg rfl rfl ⟨rfl, rfl⟩) ?_
      refine wl_nil fun F144 hF145 => ?_
      have s146 : F144 3 = .pointer (some ⟨p1, 0, none⟩) := (hF145 3).trans s136
      have s147 : F144 7 = .bool true := (hF145 7).trans s137
      have s148 : F144 10 = .pointer (some ⟨p39, 0, none⟩) := (hF145 10).trans s138
      have s149 : F144 11 = .int .i64 (ern (((k : Nat) : Int))) := (hF145 11).trans s139
      have s150 : F144 12 = .pointer (some ⟨p65, 0, none⟩) := (hF145 12).trans s140
      have s151 : F144 13 = .int .i64 (ern (((l : Nat) : Int))) := (hF145 13).trans s141
      have s152 : F144 14 = .int .i64 (((i + 1 : Nat) : Int)) := (hF145 14).trans rfl
      clear hF145
      exact then_normal ⟨(16 - (i + 1)), by omega, i + 1, by omega, rfl, s146, s147, s148, s149, s150, s151, s152, K135, B132, B133, B134⟩
    · skip
      refine wq_said [some 41, some 42, some 43, some 44, some 45, some 46, some 47, some 48, some 49, some 50, some 51, some 52, some 53, some 54, some 55, some 56, some 57, some 58, some 59, some 60, some 61, some 62, some 63, some 64, some 65, some 66, some 67, some 68, some 69] [Pd.eq (.int .i64 (((i : Nat) : Int))), Pd.eq (.pointer (some ⟨p65, i, none⟩)), Pd.eq (.int .i64 ((downB (b) (((l : Nat) : Int))) (i))), Pd.eq (.int .i64 (((i : Nat) : Int))), Pd.eq (.pointer (some ⟨p65, i, none⟩)), Pd.eq (.int .i64 ((downB (b) (((l : Nat) : Int))) (i))), Pd.eq (.int .i64 (-((downB (b) (((l : Nat) : Int))) (i)))), Pd.eq (.int .i64 (max ((downB (b) (((l : Nat) : Int))) (i)) (-((downB (b) (((l : Nat) : Int))) (i))))), Pd.eq (.int .i64 (((i : Nat) : Int))), Pd.eq (.pointer (some ⟨p39, i, none⟩)), Pd.eq (.int .i64 ((downB (b) (((k : Nat) : Int))) (i))), Pd.eq (.int .i64 (((i : Nat) : Int))), Pd.eq (.pointer (some ⟨p39, i, none⟩)), Pd.eq (.int .i64 ((downB (b) (((k : Nat) : Int))) (i))), Pd.eq (.int .i64 (-((downB (b) (((k : Nat) : Int))) (i)))), Pd.eq (.int .i64 (max ((downB (b) (((k : Nat) : Int))) (i)) (-((downB (b) (((k : Nat) : Int))) (i))))), Pd.eq (.bool false), Pd.eq (.bool false), Pd.eq (.int .i64 (((i : Nat) : Int))), Pd.eq (.pointer (some ⟨p1, i, none⟩)), Pd.eq (.int .i64 ((b) (i))), Pd.eq (.bool false), Pd.eq (.bool false), Pd.eq undef, Pd.eq undef, Pd.eq undef, Pd.eq undef, Pd.eq (.bool false), Pd.eq (.bool false)] (by kernel_rfl) (by kernel_rfl) ?_ ?_
      · refine stepsF_cons ?_ ?_
        · refine StepF.one rfl fun F_ w_ hR hout hD => ?_
          exact (y_mov rfl ((hout 14 (by decide)).trans s122) ⟨rfl, Kept.refl _ _⟩)
        refine stepsF_cons ?_ ?_
        · refine StepF.one rfl fun F_ w_ hR hout hD => ?_
          have g41 : F_ 41 = .int .i64 (((i : Nat) : Int)) := hD.get 0 rfl rfl rfl
          exact (y_atR (i) (s := 1) rfl ((hout 12 (by decide)).trans s120) g41 (by omega) Tryd.underlying27 (by omega) (by kernel_rfl) (by omega) ⟨rfl, Kept.refl _ _⟩)
        refine stepsF_cons ?_ ?_
        · refine StepF.one rfl fun F_ w_ hR hout hD => ?_
          have g42 : F_ 42 = .pointer (some ⟨p65, i, none⟩) := hD.get 0 rfl rfl rfl
          exact (y_ldR rfl g42 Tryd.underlying3 (((B113.all hR id)).cell (by omega)) ⟨rfl, Kept.refl _ _⟩)
        refine stepsF_cons ?_ ?_
        · refine StepF.one rfl fun F_ w_ hR hout hD => ?_
          exact (y_mov rfl ((hout 14 (by decide)).trans s122) ⟨rfl, Kept.refl _ _⟩)
        refine stepsF_cons ?_ ?_
        · refine StepF.one rfl fun F_ w_ hR hout hD => ?_
          have g44 : F_ 44 = .int .i64 (((i : Nat) : Int)) := hD.get 0 rfl rfl rfl
          exact (y_atR (i) (s := 1) rfl ((hout 12 (by decide)).trans s120) g44 (by omega) Tryd.underlying27 (by omega) (by kernel_rfl) (by omega) ⟨rfl, Kept.refl _ _⟩)
        refine stepsF_cons ?_ ?_
        · refine StepF.one rfl fun F_ w_ hR hout hD => ?_
          have g45 : F_ 45 = .pointer (some ⟨p65, i, none⟩) := hD.get 0 rfl rfl rfl
          exact (y_ldR rfl g45 Tryd.underlying3 (((B113.all hR id)).cell (by omega)) ⟨rfl, Kept.refl _ _⟩)
        refine stepsF_cons ?_ ?_
        · refine StepF.one rfl fun F_ w_ hR hout hD => ?_
          have g46 : F_ 46 = .int .i64 ((downB (b) (((l : Nat) : Int))) (i)) := hD.get 0 rfl rfl rfl
          exact (y_neg rfl g46 (i64_i rfl (by omega)) ⟨rfl, Kept.refl _ _⟩)
        refine stepsF_cons ?_ ?_
        · refine StepF.one rfl fun F_ w_ hR hout hD => ?_
          have g43 : F_ 43 = .int .i64 ((downB (b) (((l : Nat) : Int))) (i)) := hD.get 0 rfl rfl rfl
          have g47 : F_ 47 = .int .i64 (-((downB (b) (((l : Nat) : Int))) (i))) := hD.get 1 rfl rfl rfl
          exact (y_maxR rfl g43 g47 rfl ⟨rfl, Kept.refl _ _⟩)
        refine stepsF_cons ?_ ?_
        · refine StepF.one rfl fun F_ w_ hR hout hD => ?_
          exact (y_mov rfl ((hout 14 (by decide)).trans s122) ⟨rfl, Kept.refl _ _⟩)
        refine stepsF_cons ?_ ?_
        · refine StepF.one rfl fun F_ w_ hR hout hD => ?_
          have g49 : F_ 49 = .int .i64 (((i : Nat) : Int)) := hD.get 0 rfl rfl rfl
          exact (y_atR (i) (s := 1) rfl ((hout 10 (by decide)).trans s118) g49 (by omega) Tryd.underlying27 (by omega) (by kernel_rfl) (by omega) ⟨rfl, Kept.refl _ _⟩)
        refine stepsF_cons ?_ ?_
        · refine StepF.one rfl fun F_ w_ hR hout hD => ?_
          have g50 : F_ 50 = .pointer (some ⟨p39, i, none⟩) := hD.get 0 rfl rfl rfl
          exact (y_ldR rfl g50 Tryd.underlying3 (((B112.all hR id)).cell (by omega)) ⟨rfl, Kept.refl _ _⟩)
        refine stepsF_cons ?_ ?_
        · refine StepF.one rfl fun F_ w_ hR hout hD => ?_
          exact (y_mov rfl ((hout 14 (by decide)).trans s122) ⟨rfl, Kept.refl _ _⟩)
        refine stepsF_cons ?_ ?_
        · refine StepF.one rfl fun F_ w_ hR hout hD => ?_
          have g52 : F_ 52 = .int .i64 (((i : Nat) : Int)) := hD.get 0 rfl rfl rfl
          exact (y_atR (i) (s := 1) rfl ((hout 10 (by decide)).trans s118) g52 (by omega) Tryd.underlying27 (by omega) (by kernel_rfl) (by omega) ⟨rfl, Kept.refl _ _⟩)
        refine stepsF_cons ?_ ?_
        · refine StepF.one rfl fun F_ w_ hR hout hD => ?_
          have g53 : F_ 53 = .pointer (some ⟨p39, i, none⟩) := hD.get 0 rfl rfl rfl
          exact (y_ldR rfl g53 Tryd.underlying3 (((B112.all hR id)).cell (by omega)) ⟨rfl, Kept.refl _ _⟩)
        refine stepsF_cons ?_ ?_
        · refine StepF.one rfl fun F_ w_ hR hout hD => ?_
          have g54 : F_ 54 = .int .i64 ((downB (b) (((k : Nat) : Int))) (i)) := hD.get 0 rfl rfl rfl
          exact (y_neg rfl g54 (i64_i rfl (by omega)) ⟨rfl, Kept.refl _ _⟩)
        refine stepsF_cons ?_ ?_
        · refine StepF.one rfl fun F_ w_ hR hout hD => ?_
          have g51 : F_ 51 = .int .i64 ((downB (b) (((k : Nat) : Int))) (i)) := hD.get 0 rfl rfl rfl
          have g55 : F_ 55 = .int .i64 (-((downB (b) (((k : Nat) : Int))) (i))) := hD.get 1 rfl rfl rfl
          exact (y_maxR rfl g51 g55 rfl ⟨rfl, Kept.refl _ _⟩)
        refine stepsF_cons ?_ ?_
        · refine StepF.one rfl fun F_ w_ hR hout hD => ?_
          have g48 : F_ 48 = .int .i64 (max ((downB (b) (((l : Nat) : Int))) (i)) (-((downB (b) (((l : Nat) : Int))) (i)))) := hD.get 0 rfl rfl rfl
          have g56 : F_ 56 = .int .i64 (max ((downB (b) (((k : Nat) : Int))) (i)) (-((downB (b) (((k : Nat) : Int))) (i)))) := hD.get 1 rfl rfl rfl
          exact (y_gtr rfl g48 g56 (decide_eq_false (by omega)) ⟨rfl, Kept.refl _ _⟩)
        refine stepsF_cons ?_ ?_
        · refine StepF.one rfl fun F_ w_ hR hout hD => ?_
          have g57 : F_ 57 = .bool false := hD.get 0 rfl rfl rfl
          exact (y_mov rfl g57 ⟨rfl, Kept.refl _ _⟩)
        refine stepsF_cons ?_ ?_
        · refine StepF.when 17 false 58 rfl rfl fun F_ w_ hR hout hD => ?_
          have g58 : F_ 58 = .bool false := hD.get 0 rfl rfl rfl
          exact ⟨g58, (y_mov rfl ((hout 14 (by decide)).trans s122) ⟨rfl, Kept.refl _ _⟩)⟩
        refine stepsF_cons ?_ ?_
        · refine StepF.when 17 false 58 rfl rfl fun F_ w_ hR hout hD => ?_
          have g58 : F_ 58 = .bool false := hD.get 1 rfl rfl rfl
          have g59 : F_ 59 = .int .i64 (((i : Nat) : Int)) := hD.get 0 rfl rfl rfl
          exact ⟨g58, (y_atR (i) (s := 1) rfl ((hout 3 (by decide)).trans s116) g59 (by omega) Tryd.underlying22 (by omega) (by kernel_rfl) (by omega) ⟨rfl, Kept.refl _ _⟩)⟩
        refine stepsF_cons ?_ ?_
        · refine StepF.when 17 false 58 rfl rfl fun F_ w_ hR hout hD => ?_
          have g58 : F_ 58 = .bool false := hD.get 1 rfl rfl rfl
          have g60 : F_ 60 = .pointer (some ⟨p1, i, none⟩) := hD.get 0 rfl rfl rfl
          exact ⟨g58, (y_ldR rfl g60 Tryd.underlying3 (((B111.all hR id)).cell (by omega)) ⟨rfl, Kept.refl _ _⟩)⟩
        refine stepsF_cons ?_ ?_
        · refine StepF.when 17 false 58 rfl rfl fun F_ w_ hR hout hD => ?_
          have g58 : F_ 58 = .bool false := hD.get 1 rfl rfl rfl
          have g61 : F_ 61 = .int .i64 ((b) (i)) := hD.get 0 rfl rfl rfl
          exact ⟨g58, (y_eqlI rfl g61 rfl (decide_eq_false d125) ⟨rfl, Kept.refl _ _⟩)⟩
        refine stepsF_cons ?_ ?_
        · refine StepF.when 17 false 58 rfl rfl fun F_ w_ hR hout hD => ?_
          have g58 : F_ 58 = .bool false := hD.get 1 rfl rfl rfl
          have g62 : F_ 62 = .bool false := hD.get 0 rfl rfl rfl
          exact ⟨g58, (y_mov rfl g62 ⟨rfl, Kept.refl _ _⟩)⟩
        refine stepsF_cons ?_ ?_
        · refine StepF.unless 22 true 63 rfl rfl fun F_ w_ hR hout hD => ?_
          have g63 : F_ 63 = .bool false := hD.get 0 rfl rfl rfl
          exact ⟨Or.inl g63, rfl⟩
        refine stepsF_cons ?_ ?_
        · refine StepF.unless 22 true 63 rfl rfl fun F_ w_ hR hout hD => ?_
          have g63 : F_ 63 = .bool false := hD.get 1 rfl rfl rfl
          exact ⟨Or.inl g63, rfl⟩
        refine stepsF_cons ?_ ?_
        · refine StepF.unless 22 true 63 rfl rfl fun F_ w_ hR hout hD => ?_
          have g63 : F_ 63 = .bool false := hD.get 1 rfl rfl rfl
          exact ⟨Or.inl g63, rfl⟩
        refine stepsF_cons ?_ ?_
        · refine StepF.unless 22 true 63 rfl rfl fun F_ w_ hR hout hD => ?_
          have g63 : F_ 63 = .bool false := hD.get 1 rfl rfl rfl
          exact ⟨Or.inl g63, rfl⟩
        refine stepsF_cons ?_ ?_
        · refine StepF.when 17 false 58 rfl rfl fun F_ w_ hR hout hD => ?_
          have g58 : F_ 58 = .bool false := hD.get 2 rfl rfl rfl
          have g63 : F_ 63 = .bool false := hD.get 0 rfl rfl rfl
          exact ⟨g58, (y_pickF rfl g63 rfl ⟨rfl, Kept.refl _ _⟩)⟩
        refine stepsF_cons ?_ ?_
        · refine StepF.one rfl fun F_ w_ hR hout hD => ?_
          have g58 : F_ 58 = .bool false := hD.get 0 rfl rfl rfl
          have g68 : F_ 68 = .bool false := hD.get 1 rfl rfl rfl
          exact (y_pickF rfl g58 g68 ⟨rfl, Kept.refl _ _⟩)
        exact stepsF_nil
      intro v153 F154 w155 k156 G157 hF158
      have B159 := B111.all k156 id
      have B160 := B112.all k156 id
      have B161 := B113.all k156 id
      have K162 := K101.trans k156 (fun _ _ x => x)
      have s163 : F154 3 = .pointer (some ⟨p1, 0, none⟩) := (hF158 3).trans s116
      have s164 : F154 7 = .bool true := (hF158 7).trans s117
      have s165 : F154 10 = .pointer (some ⟨p39, 0, none⟩) := (hF158 10).trans s118
      have s166 : F154 11 = .int .i64 (ern (((k : Nat) : Int))) := (hF158 11).trans s119
      have s167 : F154 12 = .pointer (some ⟨p65, 0, none⟩) := (hF158 12).trans s120
      have s168 : F154 13 = .int .i64 (ern (((l : Nat) : Int))) := (hF158 13).trans s121
      have s169 : F154 14 = .int .i64 (((i : Nat) : Int)) := (hF158 14).trans s122
      have s170 : F154 69 = .bool false := (hF158 69).trans (G157 28 (by decide))
      clear G157 hF158
      refine then_normal ?_
      refine wq_cond (t := false) s170 (fun e => by cases e) (fun _ => ?_)
      refine wq_skip ?_
      refine in_normal ?_
      refine then_normal ?_
      refine wq_region ?_
      refine wl_v (.int .i64 (((i : Nat) : Int))) rfl rfl (y_mov rfl s169 ⟨rfl, rfl⟩) ?_
      refine wl_v (.int .i64 (((i + 1 : Nat) : Int))) rfl rfl (y_add rfl rfl rfl (i64_n (by omega) (by omega)) ⟨rfl, rfl⟩) ?_
      refine wl_v (.int .i64 (((i + 1 : Nat) : Int))) rfl rfl (y_asg rfl rfl ⟨rfl, rfl⟩) ?_
      refine wl_nil fun F171 hF172 => ?_
      have s173 : F171 3 = .pointer (some ⟨p1, 0, none⟩) := (hF172 3).trans s163
      have s174 : F171 7 = .bool true := (hF172 7).trans s164
      have s175 : F171 10 = .pointer (some ⟨p39, 0, none⟩) := (hF172 10).trans s165
      have s176 : F171 11 = .int .i64 (ern (((k : Nat) : Int))) := (hF172 11).trans s166
      have s177 : F171 12 = .pointer (some ⟨p65, 0, none⟩) := (hF172 12).trans s167
      have s178 : F171 13 = .int .i64 (ern (((l : Nat) : Int))) := (hF172 13).trans s168
      have s179 : F171 14 = .int .i64 (((i + 1 : Nat) : Int)) := (hF172 14).trans rfl
      clear hF172
      exact then_normal ⟨(16 - (i + 1)), by omega, i + 1, by omega, rfl, s173, s174, s175, s176, s177, s178, s179, K162, B159, B160, B161⟩
  · replace c124 := of_decide_eq_false c124
    refine wq_exit ?_
    refine then_exit ?_
    refine then_exit ?_
    have l180 : 16 = i := by omega
    subst l180
    refine in_here ?_
    refine then_normal ?_
    refine wq_seq ?_
    refine wq_region ?_
    refine wl_v (.bool true) rfl rfl (y_mov rfl s117 ⟨rfl, rfl⟩) ?_
    refine wl_v (.bool true) rfl rfl (y_mov rfl rfl ⟨rfl, rfl⟩) ?_
    refine wl_vw (.int .i64 (ern (((k : Nat) : Int)))) 1 true 71 rfl rfl rfl rfl rfl (y_mov rfl s119 ⟨rfl, rfl⟩) ?_
    refine wl_vw (.bool true) 1 true 71 rfl rfl rfl rfl rfl (y_eqlI rfl rfl rfl (decide_eq_true he) ⟨rfl, rfl⟩) ?_
    refine wl_v (.bool true) rfl rfl (y_pickT rfl rfl rfl ⟨rfl, rfl⟩) ?_
    refine wl_v (.bool true) rfl rfl (y_mov rfl rfl ⟨rfl, rfl⟩) ?_
    refine wl_vw (.int .i64 (ern (((l : Nat) : Int)))) 5 true 75 rfl rfl rfl rfl rfl (y_mov rfl s121 ⟨rfl, rfl⟩) ?_
    refine wl_vw (.bool true) 5 true 75 rfl rfl rfl rfl rfl (y_eqlI rfl rfl rfl (decide_eq_true hel) ⟨rfl, rfl⟩) ?_
    refine wl_v (.bool true) rfl rfl (y_pickT rfl rfl rfl ⟨rfl, rfl⟩) ?_
    refine wl_v (.bool true) rfl rfl (y_asg rfl rfl ⟨rfl, rfl⟩) ?_
    refine wl_nil fun F181 hF182 => ?_
    have s183 : F181 6 = .bool true := (hF182 6).trans rfl
    clear hF182
    refine then_normal ?_
    refine wq_ret ?_
    exact end_tmp (v := .bool true) rfl s183 ⟨rfl, K101⟩

set_option maxHeartbeats 4000000 in
set_option maxRecDepth 100000 in
theorem qlittle_walk (n : Int) (q : Nat) (w0 : World) (hs : StepsAt w0) (hn : -32768 ≤ n ∧ n ≤ 32767) (hq : q < 256) :
    Calls Tryd.prog 8 #[.int .i16 (n), .int .u8 (((q : Nat) : Int))] w0 fun e w' => e = .returned (.bool true) ∧ Kept (fun _ => False) w0 w' := by
  refine calls_wq (args := [.int .i16 (n), .int .u8 (((q : Nat) : Int))]) 56 Tryd.func8 rfl rfl (Nat.le_of_ble_eq_true rfl) ?_
  have K0 := Kept.refl (fun _ => False) w0
  obtain ⟨k, hkq⟩ : ∃ k, k = q % 21 := ⟨_, rfl⟩
  have hk : k < 21 := by omega
  have he := ern_nat hk
  have hst := stp_in hk
  have hx : downB (blL [n]) k 0 = lev n (stp k) := by rw [down_at he 0]; exact congrArg (fun x => lev x (stp k)) (cl_id _ _ (by show _ ≤ n; omega) (by show n ≤ _; omega))
  have hli := lev_little (n := n) hst.1
  refine wq_seq ?_
  refine wq_region ?_
  refine wl_v (.bool false) rfl rfl (y_asg rfl rfl ⟨rfl, rfl⟩) ?_
  refine wl_nil fun F1 hF2 => ?_
  have s3 : F1 0 = .int .i16 (n) := (hF2 0).trans rfl
  have s4 : F1 1 = .int .u8 (((q : Nat) : Int)) := (hF2 1).trans rfl
  clear hF2
  refine then_normal ?_
  refine wq_seq ?_
  refine wq_region ?_
  refine wl_call (R := fun v_ w_ => v_ = .bool true ∧ Kept (fun _ => False) w0 w_) rfl rfl (y_cs rfl rfl rfl (fun _ _ => by kernel_rfl) (ev_func _) vsN (qawake_any  _ (hs.all K0)) (fun e_ w_ h_ => ⟨_, h_.1, rfl, h_.2⟩)) ?_
  rintro _ w5 ⟨rfl, k6⟩
  have K7 := K0.trans k6 (fun _ _ x => x)
  refine wl_v (.bool true) rfl rfl (y_asg rfl rfl ⟨rfl, rfl⟩) ?_
  refine wl_nil fun F8 hF9 => ?_
  have s10 : F8 0 = .int .i16 (n) := (hF9 0).trans s3
  have s11 : F8 1 = .int .u8 (((q : Nat) : Int)) := (hF9 1).trans s4
  have s12 : F8 5 = .bool true := (hF9 5).trans rfl
  clear hF9
  refine then_normal ?_
  refine wq_seq ?_
  refine wq_region ?_
  refine wl_v (.int .u8 (((q : Nat) : Int))) rfl rfl (y_mov rfl s11 ⟨rfl, rfl⟩) ?_
  refine wl_v (.int .i64 (((q : Nat) : Int))) rfl rfl (y_convR rfl rfl Tryd.underlying5 Tryd.underlying3 (i64_i rfl (by omega)) ⟨rfl, rfl⟩) ?_
  refine wl_v (.int .i64 (((k : Nat) : Int))) rfl rfl (y_rem rfl rfl rfl (by first | decide | omega) ((mod_nat q 21).trans (by rw [hkq])) ⟨rfl, rfl⟩) ?_
  refine wl_v (.int .i64 (((k : Nat) : Int))) rfl rfl (y_asg rfl rfl ⟨rfl, rfl⟩) ?_
  refine wl_nil fun F13 hF14 => ?_
  have s15 : F13 0 = .int .i16 (n) := (hF14 0).trans s10
  have s16 : F13 5 = .bool true := (hF14 5).trans s12
  have s17 : F13 6 = .int .i64 (((k : Nat) : Int)) := (hF14 6).trans rfl
  clear hF14
  refine then_normal ?_
  refine wq_seq ?_
  refine wq_region ?_
  refine wl_v (.int .i64 (((k : Nat) : Int))) rfl rfl (y_mov rfl s17 ⟨rfl, rfl⟩) ?_
  refine wl_call (R := fun v_ w_ => v_ = .tuple #[.int .i64 (stp (((k : Nat) : Int))), .int .i64 (ern (((k : Nat) : Int)))] ∧ Kept (fun _ => False) w5 w_) rfl rfl (y_cs rfl rfl rfl (fun _ _ => by kernel_rfl) (ev_func _) (vsC rfl vsN) (step_any (((k : Nat) : Int)) _ (hs.all K7)) (fun e_ w_ h_ => ⟨_, h_.1, rfl, h_.2⟩)) ?_
  rintro _ w18 ⟨rfl, k19⟩
  have K20 := K7.trans k19 (fun _ _ x => x)
  refine wl_v (.tuple #[.int .i64 (stp (((k : Nat) : Int))), .int .i64 (ern (((k : Nat) : Int)))]) rfl rfl (y_mov rfl rfl ⟨rfl, rfl⟩) ?_
  refine wl_v (.int .i64 (stp (((k : Nat) : Int)))) rfl rfl (y_ext rfl rfl rfl ⟨rfl, rfl⟩) ?_
  refine wl_v (.int .i64 (ern (((k : Nat) : Int)))) rfl rfl (y_ext rfl rfl rfl ⟨rfl, rfl⟩) ?_
  refine wl_v (.int .i64 (stp (((k : Nat) : Int)))) rfl rfl (y_asg rfl rfl ⟨rfl, rfl⟩) ?_
  refine wl_v (.int .i64 (ern (((k : Nat) : Int)))) rfl rfl (y_asg rfl rfl ⟨rfl, rfl⟩) ?_
  refine wl_nil fun F21 hF22 => ?_
  have s23 : F21 0 = .int .i16 (n) := (hF22 0).trans s15
  have s24 : F21 5 = .bool true := (hF22 5).trans s16
  have s25 : F21 6 = .int .i64 (((k : Nat) : Int)) := (hF22 6).trans s17
  have s26 : F21 7 = .int .i64 (stp (((k : Nat) : Int))) := (hF22 7).trans rfl
  clear hF22
  refine then_normal ?_
  refine wq_seq ?_
  refine wq_region ?_
  refine wl_v (.int .i64 (((k : Nat) : Int))) rfl rfl (y_mov rfl s25 ⟨rfl, rfl⟩) ?_
  refine wl_call (R := fun v_ w_ => v_ = .tuple #[.int .i64 (stp (((k : Nat) : Int)) / 2), .int .i64 (ern (((k : Nat) : Int)))] ∧ Kept (fun _ => False) w18 w_) rfl rfl (y_cs rfl rfl rfl (fun _ _ => by kernel_rfl) (ev_func _) (vsC rfl vsN) (bound_any (((k : Nat) : Int)) _ (hs.all K20)) (fun e_ w_ h_ => ⟨_, h_.1, rfl, h_.2⟩)) ?_
  rintro _ w27 ⟨rfl, k28⟩
  have K29 := K20.trans k28 (fun _ _ x => x)
  refine wl_v (.tuple #[.int .i64 (stp (((k : Nat) : Int)) / 2), .int .i64 (ern (((k : Nat) : Int)))]) rfl rfl (y_mov rfl rfl ⟨rfl, rfl⟩) ?_
  refine wl_v (.int .i64 (stp (((k : Nat) : Int)) / 2)) rfl rfl (y_ext rfl rfl rfl ⟨rfl, rfl⟩) ?_
  refine wl_v (.int .i64 (ern (((k : Nat) : Int)))) rfl rfl (y_ext rfl rfl rfl ⟨rfl, rfl⟩) ?_
  refine wl_v (.int .i64 (stp (((k : Nat) : Int)) / 2)) rfl rfl (y_asg rfl rfl ⟨rfl, rfl⟩) ?_
  refine wl_v (.int .i64 (ern (((k : Nat) : Int)))) rfl rfl (y_asg rfl rfl ⟨rfl, rfl⟩) ?_
  refine wl_nil fun F30 hF31 => ?_
  have s32 : F30 0 = .int .i16 (n) := (hF31 0).trans s23
  have s33 : F30 5 = .bool true := (hF31 5).trans s24
  have s34 : F30 6 = .int .i64 (((k : Nat) : Int)) := (hF31 6).trans s25
  have s35 : F30 7 = .int .i64 (stp (((k : Nat) : Int))) := (hF31 7).trans s26
  have s36 : F30 9 = .int .i64 (stp (((k : Nat) : Int)) / 2) := (hF31 9).trans rfl
  clear hF31
  refine then_normal ?_
  refine wq_seq ?_
  refine wq_region ?_
  refine wl_v (.int .i16 (n)) rfl rfl (y_mov rfl s32 ⟨rfl, rfl⟩) ?_
  refine wl_v (.int .i64 (n)) rfl rfl (y_convR rfl rfl Tryd.underlying38 Tryd.underlying3 (i64_i rfl (by omega)) ⟨rfl, rfl⟩) ?_
  refine wl_v (blkV (blL [n])) rfl rfl (y_buildL (l' := [(0, .int .i64 (n))]) (cells := (arrL 16 (blL [n])).toArray) rfl (bpC rfl bpN) (by kernel_rfl) rfl ⟨rfl, rfl⟩) ?_
  refine wl_v (.int .i64 (((k : Nat) : Int))) rfl rfl (y_mov rfl s34 ⟨rfl, rfl⟩) ?_
  refine wl_call (R := fun v_ w_ => v_ = .tuple #[blkV (downB (blL [n]) (((k : Nat) : Int))), .int .i64 (ern (((k : Nat) : Int)))] ∧ Kept (fun _ => False) w27 w_) rfl rfl (y_cs rfl rfl rfl (fun _ _ => by kernel_rfl) (ev_func _) (vsC rfl (vsC rfl vsN)) (down_any (blL [n]) (((k : Nat) : Int)) _ (hs.all K29)) (fun e_ w_ h_ => ⟨_, h_.1, rfl, h_.2⟩)) ?_
  rintro _ w37 ⟨rfl, k38⟩
  have K39 := K29.trans k38 (fun _ _ x => x)
  refine wl_v (.tuple #[blkV (downB (blL [n]) (((k : Nat) : Int))), .int .i64 (ern (((k : Nat) : Int)))]) rfl rfl (y_mov rfl rfl ⟨rfl, rfl⟩) ?_
  refine wl_v (blkV (downB (blL [n]) (((k : Nat) : Int)))) rfl rfl (y_ext rfl rfl rfl ⟨rfl, rfl⟩) ?_
  refine wl_v (.int .i64 (ern (((k : Nat) : Int)))) rfl rfl (y_ext rfl rfl rfl ⟨rfl, rfl⟩) ?_
  refine wl_alloc_blk rfl rfl rfl blkT_block.2.2 fun p40 w41 e44 B42 k43 => ?_
  have lp45 : w0.heap.size ≤ p40 := by have h_ := K39.size; omega
  clear e44
  have K46 := K39.trans k43 (fun _ _ x => x)
  refine wl_store_blk blkT_block rfl rfl rfl rfl rfl B42 fun w47 B48 k49 => ?_
  have K50 := K46.trans k49 (fun _ hi e => absurd (e ▸ hi) (Nat.not_lt.2 lp45))
  refine wl_v (.int .i64 (ern (((k : Nat) : Int)))) rfl rfl (y_asg rfl rfl ⟨rfl, rfl⟩) ?_
  refine wl_nil fun F51 hF52 => ?_
  have s53 : F51 0 = .int .i16 (n) := (hF52 0).trans s32
  have s54 : F51 5 = .bool true := (hF52 5).trans s33
  have s55 : F51 7 = .int .i64 (stp (((k : Nat) : Int))) := (hF52 7).trans s35
  have s56 : F51 9 = .int .i64 (stp (((k : Nat) : Int)) / 2) := (hF52 9).trans s36
  have s57 : F51 11 = .pointer (some ⟨p40, 0, none⟩) := (hF52 11).trans rfl
  have s58 : F51 12 = .int .i64 (ern (((k : Nat) : Int))) := (hF52 12).trans rfl
  clear hF52
  refine then_normal ?_
  refine wq_seq ?_
  refine wq_region ?_
  refine wl_v (.bool true) rfl rfl (y_mov rfl s54 ⟨rfl, rfl⟩) ?_
  refine wl_v (.bool true) rfl rfl (y_mov rfl rfl ⟨rfl, rfl⟩) ?_
  refine wl_vw (.int .i64 (ern (((k : Nat) : Int)))) 1 true 36 rfl rfl rfl rfl rfl (y_mov rfl s58 ⟨rfl, rfl⟩) ?_
  refine wl_vw (.bool true) 1 true 36 rfl rfl rfl rfl rfl (y_eqlI rfl rfl rfl (decide_eq_true he) ⟨rfl, rfl⟩) ?_
  refine wl_v (.bool true) rfl rfl (y_pickT rfl rfl rfl ⟨rfl, rfl⟩) ?_
  refine wl_v (.bool true) rfl rfl (y_mov rfl rfl ⟨rfl, rfl⟩) ?_
  refine wl_vw (.pointer (some ⟨p40, 0, none⟩)) 5 true 40 rfl rfl rfl rfl rfl (y_atR (0) (s := 1) rfl s57 rfl (by omega) Tryd.underlying27 (by omega) (by kernel_rfl) (by omega) ⟨rfl, rfl⟩) ?_
  refine wl_vw (.int .i64 (lev n (stp k))) 5 true 40 rfl rfl rfl rfl rfl (y_ldR rfl rfl Tryd.underlying3 (((B48).cell (by omega)).trans (some_int hx)) ⟨rfl, rfl⟩) ?_
  refine wl_vw (.bool (decide ((lev n (stp k)) = (0)))) 5 true 40 rfl rfl rfl rfl rfl (y_eqlI rfl rfl rfl rfl ⟨rfl, rfl⟩) ?_
  refine wl_vw (.int .i16 (n)) 5 true 40 rfl rfl rfl rfl rfl (y_mov rfl s53 ⟨rfl, rfl⟩) ?_
  refine wl_vw (.int .i64 (n)) 5 true 40 rfl rfl rfl rfl rfl (y_convR rfl rfl Tryd.underlying38 Tryd.underlying3 (i64_i rfl (by omega)) ⟨rfl, rfl⟩) ?_
  refine wl_vw (.int .i16 (n)) 5 true 40 rfl rfl rfl rfl rfl (y_mov rfl s53 ⟨rfl, rfl⟩) ?_
  refine wl_vw (.int .i64 (n)) 5 true 40 rfl rfl rfl rfl rfl (y_convR rfl rfl Tryd.underlying38 Tryd.underlying3 (i64_i rfl (by omega)) ⟨rfl, rfl⟩) ?_
  refine wl_vw (.int .i64 (-(n))) 5 true 40 rfl rfl rfl rfl rfl (y_neg rfl rfl (i64_i rfl (by omega)) ⟨rfl, rfl⟩) ?_
  refine wl_vw (.int .i64 (max (n) (-(n)))) 5 true 40 rfl rfl rfl rfl rfl (y_maxR rfl rfl rfl rfl ⟨rfl, rfl⟩) ?_
  refine wl_vw (.int .i64 (stp (((k : Nat) : Int)))) 5 true 40 rfl rfl rfl rfl rfl (y_mov rfl s55 ⟨rfl, rfl⟩) ?_
  refine wl_vw (.int .i64 (stp (((k : Nat) : Int)) / 2)) 5 true 40 rfl rfl rfl rfl rfl (y_mov rfl s56 ⟨rfl, rfl⟩) ?_
  refine wl_vw (.int .i64 ((stp (((k : Nat) : Int))) - (stp (((k : Nat) : Int)) / 2))) 5 true 40 rfl rfl rfl rfl rfl (y_sub rfl rfl rfl (i64_i rfl (by omega)) ⟨rfl, rfl⟩) ?_
  refine wl_vw (.bool (decide ((max (n) (-(n))) < ((stp (((k : Nat) : Int))) - (stp (((k : Nat) : Int)) / 2))))) 5 true 40 rfl rfl rfl rfl rfl (y_lss rfl rfl rfl rfl ⟨rfl, rfl⟩) ?_
  refine wl_vw (.bool true) 5 true 40 rfl rfl rfl rfl rfl (y_eqlB rfl rfl rfl Tryd.underlying4 (by rw [decide_eq_decide.2 hli]; exact beq_self_eq_true _) ⟨rfl, rfl⟩) ?_
  refine wl_v (.bool true) rfl rfl (y_pickT rfl rfl rfl ⟨rfl, rfl⟩) ?_
  refine wl_v (.bool true) rfl rfl (y_asg rfl rfl ⟨rfl, rfl⟩) ?_
  refine wl_nil fun F59 hF60 => ?_
  have s61 : F59 4 = .bool true := (hF60 4).trans rfl
  clear hF60
  refine then_normal ?_
  refine wq_ret ?_
  exact end_tmp (v := .bool true) rfl s61 ⟨rfl, K50⟩
end Go.Proofs.YtnlpiafgbeknhaaDoor
