/- What the document's scan functions do. -/
import Derived.Test.YtipimcnjcpckeaaDoorSPure
import Derived.Test.YtipimcnjcpckeaaDoorSs
import Derived.Test.YtipimcnjcpckeaaDoorSa
import Derived.Test.YtipimcnjcpckeaaDoorWx
namespace Go.Proofs.YtipimcnjcpckeaaDoor
open Go.RowKit

set_option maxHeartbeats 4000000 in
set_option maxRecDepth 100000 in
theorem sref_order (w0 : World) :
    Calls Tryd.prog 13 #[] w0 fun e w' => e = .returned (blkV (ordB)) ∧ Kept (fun _ => False) w0 w' := by
  refine calls_wq (args := []) 2 Tryd.func13 rfl rfl (Nat.le_of_ble_eq_true rfl) ?_
  have K0 := Kept.refl (fun _ => False) w0
  refine wq_seq ?_
  refine wq_region ?_
  refine wl_alloc_blk rfl rfl rfl blkT_arr.2.2 fun p1 w2 e5 B3 k4 => ?_
  have g6 := onB_new (Nat.le_of_eq e5.symm)
  have gr7 : Grew w0 noB (onB p1) := Grew.new K0 g6
  clear e5 g6
  have K8 := K0.trans k4 (fun _ _ x => x.elim)
  refine wl_nil fun F9 hF10 => ?_
  have s11 : F9 2 = undef := (hF10 2).trans rfl
  have s12 : F9 0 = .pointer (some ⟨p1, 0, none⟩) := (hF10 0).trans rfl
  clear hF10
  refine then_normal ?_
  refine wq_seq ?_
  refine wq_region ?_
  refine wl_v (blkV (blL [0, 1, 4, 8, 5, 2, 3, 6, 9, 12, 13, 10, 7, 11, 14, 15])) rfl rfl (y_buildR (cells := (arrL 16 (blL [0, 1, 4, 8, 5, 2, 3, 6, 9, 12, 13, 10, 7, 11, 14, 15])).toArray) rfl (by kernel_rfl) rfl ⟨rfl, rfl⟩) ?_
  refine wl_store_blk blkT_arr rfl rfl rfl s12 rfl B3 fun w13 B14 k15 => ?_
  have K16 := K8.trans k15 (Grew.ok (S := fun _ => False) gr7 noB_le)
  refine wl_nil fun F17 hF18 => ?_
  have s19 : F17 2 = undef := (hF18 2).trans s11
  have s20 : F17 0 = .pointer (some ⟨p1, 0, none⟩) := (hF18 0).trans s12
  clear hF18
  refine then_normal ?_
  refine wq_ret ?_
  exact end_blk blkT_arr s19 rfl rfl s20 B14 ⟨(congrArg Ending.returned (blkV_congr (by decide))), K16⟩

set_option maxHeartbeats 4000000 in
set_option maxRecDepth 100000 in
theorem sref_write (b : Nat → Int) (w0 : World) :
    Calls Tryd.prog 11 #[blkV (b)] w0 fun e w' => e = .returned (.string (strOf (scanBits b))) ∧ Kept (fun _ => False) w0 w' := by
  refine calls_wq (args := [blkV (b)]) 38 Tryd.func11 rfl rfl (Nat.le_of_ble_eq_true rfl) ?_
  have K0 := Kept.refl (fun _ => False) w0
  refine wq_seq ?_
  refine wq_region ?_
  refine wl_box_blk rfl rfl rfl rfl fun p1 w2 e5 B3 k4 => ?_
  have g6 := onB_new (Nat.le_of_eq e5.symm)
  have gr7 : Grew w0 noB (onB p1) := Grew.new K0 g6
  clear e5 g6
  have K8 := K0.trans k4 (fun _ _ x => x.elim)
  refine wl_v (.string (strOf ([]))) rfl rfl (y_asg rfl rfl ⟨rfl, rfl⟩) ?_
  refine wl_nil fun F9 hF10 => ?_
  have s11 : F9 38 = undef := (hF10 38).trans rfl
  have s12 : F9 1 = .pointer (some ⟨p1, 0, none⟩) := (hF10 1).trans rfl
  clear hF10
  refine then_normal ?_
  refine wq_seq ?_
  refine wq_region ?_
  refine wl_call (R := fun v_ w_ => v_ = blkV (ordB) ∧ Kept (fun _ => False) w2 w_) rfl rfl (y_cs rfl rfl rfl (fun _ _ => by kernel_rfl) (ev_func _) vsN (sref_order   _   ) (fun e_ w_ h_ => ⟨_, h_.1, rfl, h_.2⟩)) ?_
  rintro _ w13 ⟨rfl, k14⟩
  have B15 := B3.all k14 id
  have K16 := K8.trans k14 (fun _ _ x => x.elim)
  refine wl_alloc_blk rfl rfl rfl blkT_arr.2.2 fun p17 w18 e21 B19 k20 => ?_
  have g22 := onB_new (Nat.le_of_eq e21.symm)
  have gr23 : Grew w0 noB (onB p17) := Grew.new K16 g22
  have ap24 : Apart (onB p17) (onB p1) := Apart.new g22 (onB_live (B15).lt)
  clear e21 g22
  have B25 := B15.all k20 id
  have K26 := K16.trans k20 (fun _ _ x => x.elim)
  refine wl_store_blk blkT_arr rfl rfl rfl rfl rfl B19 fun w27 B28 k29 => ?_
  have B30 := B25.all k29 (fun x => (((ap24).symm) p1 rfl x))
  have K31 := K26.trans k29 (Grew.ok (S := fun _ => False) gr23 noB_le)
  refine wl_nil fun F32 hF33 => ?_
  have s34 : F32 38 = undef := (hF33 38).trans s11
  have s35 : F32 1 = .pointer (some ⟨p1, 0, none⟩) := (hF33 1).trans s12
  have s36 : F32 3 = .pointer (some ⟨p17, 0, none⟩) := (hF33 3).trans rfl
  clear hF33
  refine then_normal ?_
  refine wq_seq ?_
  refine wq_region ?_
  refine wl_v (.int .i64 (0)) rfl rfl (y_asg rfl rfl ⟨rfl, rfl⟩) ?_
  refine wl_nil fun F37 hF38 => ?_
  have s39 : F37 38 = undef := (hF38 38).trans s34
  have s40 : F37 1 = .pointer (some ⟨p1, 0, none⟩) := (hF38 1).trans s35
  have s41 : F37 3 = .pointer (some ⟨p17, 0, none⟩) := (hF38 3).trans s36
  have s42 : F37 4 = .int .i64 (0) := (hF38 4).trans rfl
  clear hF38
  refine then_normal ?_
  refine wq_seq ?_
  refine wq_region ?_
  refine wl_v (.int .i64 (0)) rfl rfl (y_asg rfl rfl ⟨rfl, rfl⟩) ?_
  refine wl_nil fun F43 hF44 => ?_
  have s45 : F43 38 = undef := (hF44 38).trans s39
  have s46 : F43 1 = .pointer (some ⟨p1, 0, none⟩) := (hF44 1).trans s40
  have s47 : F43 3 = .pointer (some ⟨p17, 0, none⟩) := (hF44 3).trans s41
  have s48 : F43 4 = .int .i64 (0) := (hF44 4).trans s42
  have s49 : F43 5 = .int .i64 (0) := (hF44 5).trans rfl
  clear hF44
  refine then_normal ?_
  refine wq_seq ?_
  refine wq_region ?_
  refine wl_v (.string (strOf ([]))) rfl rfl (y_asg rfl rfl ⟨rfl, rfl⟩) ?_
  refine wl_nil fun F50 hF51 => ?_
  have s52 : F50 38 = undef := (hF51 38).trans s45
  have s53 : F50 1 = .pointer (some ⟨p1, 0, none⟩) := (hF51 1).trans s46
  have s54 : F50 3 = .pointer (some ⟨p17, 0, none⟩) := (hF51 3).trans s47
  have s55 : F50 4 = .int .i64 (0) := (hF51 4).trans s48
  have s56 : F50 5 = .int .i64 (0) := (hF51 5).trans s49
  have s57 : F50 6 = .string (strOf ([])) := (hF51 6).trans rfl
  clear hF51
  refine then_normal ?_
  refine wq_seq ?_
  refine wq_seq ?_
  refine wq_region ?_
  refine wl_v (.int .i64 (0)) rfl rfl (y_asg rfl rfl ⟨rfl, rfl⟩) ?_
  refine wl_nil fun F58 hF59 => ?_
  have s60 : F58 38 = undef := (hF59 38).trans s52
  have s61 : F58 1 = .pointer (some ⟨p1, 0, none⟩) := (hF59 1).trans s53
  have s62 : F58 3 = .pointer (some ⟨p17, 0, none⟩) := (hF59 3).trans s54
  have s63 : F58 4 = .int .i64 (0) := (hF59 4).trans s55
  have s64 : F58 5 = .int .i64 (0) := (hF59 5).trans s56
  have s65 : F58 6 = .string (strOf ([])) := (hF59 6).trans s57
  have s66 : F58 7 = .int .i64 (0) := (hF59 7).trans rfl
  clear hF59
  refine then_normal ?_
  refine wq_block ?_
  refine wq_loop (fun nn FF ww => ∃ (k : Nat), k ≤ 16 ∧ nn = 16 - k ∧ FF 1 = .pointer (some ⟨p1, 0, none⟩) ∧ FF 3 = .pointer (some ⟨p17, 0, none⟩) ∧ FF 38 = undef ∧ FF 4 = .int .i64 ((((toldTo b k).1 : Nat) : Int)) ∧ FF 5 = .int .i64 ((((toldTo b k).2.1 : Nat) : Int)) ∧ FF 6 = .string (strOf ((toldTo b k).2.2)) ∧ FF 7 = .int .i64 (((k : Nat) : Int)) ∧ Kept (fun _ => False) w0 ww ∧ Blk ww p1 22 (b) ∧ Blk ww p17 22 (ordB)) (16 - (0)) ⟨0, by omega, rfl, s61, s62, s60, s63, s64, s65, s66, K31, B30, B28⟩ ?_
  rintro n70 F67 w68 ⟨k, i71, hn70, s72, s73, s74, s75, s76, s77, s78, K69, B79, B80⟩
  refine wq_seq ?_
  refine wq_seq ?_
  refine wq_region ?_
  refine wl_v (.int .i64 (((k : Nat) : Int))) rfl rfl (y_mov rfl s78 ⟨rfl, rfl⟩) ?_
  refine wl_v (.bool (decide ((((k : Nat) : Int)) < (16)))) rfl rfl (y_lss rfl rfl rfl rfl ⟨rfl, rfl⟩) ?_
  refine wl_nil fun F81 hF82 => ?_
  have s83 : F81 1 = .pointer (some ⟨p1, 0, none⟩) := (hF82 1).trans s72
  have s84 : F81 3 = .pointer (some ⟨p17, 0, none⟩) := (hF82 3).trans s73
  have s85 : F81 38 = undef := (hF82 38).trans s74
  have s86 : F81 4 = .int .i64 ((((toldTo b k).1 : Nat) : Int)) := (hF82 4).trans s75
  have s87 : F81 5 = .int .i64 ((((toldTo b k).2.1 : Nat) : Int)) := (hF82 5).trans s76
  have s88 : F81 6 = .string (strOf ((toldTo b k).2.2)) := (hF82 6).trans s77
  have s89 : F81 7 = .int .i64 (((k : Nat) : Int)) := (hF82 7).trans s78
  have s90 : F81 11 = .bool (decide ((((k : Nat) : Int)) < (16))) := (hF82 11).trans rfl
  clear hF82
  refine then_normal ?_
  refine wq_cond s90 (fun c91 => ?_) (fun c91 => ?_)
  · replace c91 := of_decide_eq_true c91
    refine wq_skip ?_
    refine then_normal ?_
    refine wq_seq ?_
    refine wq_block ?_
    refine wq_seq ?_
    have ho := ord_lt k (by omega)
    have ht := told_le b k
    refine wq_region ?_
    refine wl_v (.int .i64 (((k : Nat) : Int))) rfl rfl (y_mov rfl s89 ⟨rfl, rfl⟩) ?_
    refine wl_v (.pointer (some ⟨p17, k, none⟩)) rfl rfl (y_atR (k) (s := 1) rfl s84 rfl (by omega) Tryd.underlying22 (by omega) (by kernel_rfl) (by omega) ⟨rfl, rfl⟩) ?_
    refine wl_v (.int .i64 (((ord k : Nat) : Int))) rfl rfl (y_ldR rfl rfl Tryd.underlying3 (((B80).cell (by omega)).trans (some_int rfl)) ⟨rfl, rfl⟩) ?_
    refine wl_v (.pointer (some ⟨p1, ord k, none⟩)) rfl rfl (y_atR (ord k) (s := 1) rfl s83 rfl (by omega) Tryd.underlying22 (by omega) (by kernel_rfl) (by omega) ⟨rfl, rfl⟩) ?_
    refine wl_v (.int .i64 ((b) (ord k))) rfl rfl (y_ldR rfl rfl Tryd.underlying3 ((B79).cell (by omega)) ⟨rfl, rfl⟩) ?_
    refine wl_v (.int .i64 (max ((b) (ord k)) (-1048576))) rfl rfl (y_maxR rfl rfl rfl rfl ⟨rfl, rfl⟩) ?_
    refine wl_v (.int .i64 (lvl b k)) rfl rfl (y_minR rfl rfl rfl (by unfold lvl cl; omega) ⟨rfl, rfl⟩) ?_
    refine wl_v (.int .i64 (lvl b k)) rfl rfl (y_asg rfl rfl ⟨rfl, rfl⟩) ?_
    refine wl_nil fun F92 hF93 => ?_
    have s94 : F92 1 = .pointer (some ⟨p1, 0, none⟩) := (hF93 1).trans s83
    have s95 : F92 3 = .pointer (some ⟨p17, 0, none⟩) := (hF93 3).trans s84
    have s96 : F92 38 = undef := (hF93 38).trans s85
    have s97 : F92 4 = .int .i64 ((((toldTo b k).1 : Nat) : Int)) := (hF93 4).trans s86
    have s98 : F92 5 = .int .i64 ((((toldTo b k).2.1 : Nat) : Int)) := (hF93 5).trans s87
    have s99 : F92 6 = .string (strOf ((toldTo b k).2.2)) := (hF93 6).trans s88
    have s100 : F92 7 = .int .i64 (((k : Nat) : Int)) := (hF93 7).trans s89
    have s101 : F92 8 = .int .i64 (lvl b k) := (hF93 8).trans rfl
    clear hF93
    refine then_normal ?_
    refine wq_seq ?_
    refine wq_seq ?_
    refine wq_region ?_
    refine wl_v (.int .i64 (lvl b k)) rfl rfl (y_mov rfl s101 ⟨rfl, rfl⟩) ?_
    refine wl_v (.bool (decide ((lvl b k) = (0)))) rfl rfl (y_eqlI rfl rfl rfl rfl ⟨rfl, rfl⟩) ?_
    refine wl_nil fun F102 hF103 => ?_
    have s104 : F102 1 = .pointer (some ⟨p1, 0, none⟩) := (hF103 1).trans s94
    have s105 : F102 3 = .pointer (some ⟨p17, 0, none⟩) := (hF103 3).trans s95
    have s106 : F102 38 = undef := (hF103 38).trans s96
    have s107 : F102 4 = .int .i64 ((((toldTo b k).1 : Nat) : Int)) := (hF103 4).trans s97
    have s108 : F102 5 = .int .i64 ((((toldTo b k).2.1 : Nat) : Int)) := (hF103 5).trans s98
    have s109 : F102 6 = .string (strOf ((toldTo b k).2.2)) := (hF103 6).trans s99
    have s110 : F102 7 = .int .i64 (((k : Nat) : Int)) := (hF103 7).trans s100
    have s111 : F102 8 = .int .i64 (lvl b k) := (hF103 8).trans s101
    have s112 : F102 22 = .bool (decide ((lvl b k) = (0))) := (hF103 22).trans rfl
    clear hF103
    refine then_normal ?_
    refine wq_cond s112 (fun c113 => ?_) (fun c113 => ?_)
    · replace c113 := of_decide_eq_true c113
      refine wq_seq ?_
      refine wq_region ?_
      refine wl_v (.int .i64 ((((toldTo b k).2.1 : Nat) : Int))) rfl rfl (y_mov rfl s108 ⟨rfl, rfl⟩) ?_
      refine wl_v (.int .i64 (((((toldTo b k).2.1) + 1 : Nat) : Int))) rfl rfl (y_add rfl rfl rfl (i64_n (by omega) (by omega)) ⟨rfl, rfl⟩) ?_
      refine wl_v (.int .i64 (((((toldTo b k).2.1) + 1 : Nat) : Int))) rfl rfl (y_asg rfl rfl ⟨rfl, rfl⟩) ?_
      refine wl_nil fun F114 hF115 => ?_
      have s116 : F114 1 = .pointer (some ⟨p1, 0, none⟩) := (hF115 1).trans s104
      have s117 : F114 3 = .pointer (some ⟨p17, 0, none⟩) := (hF115 3).trans s105
      have s118 : F114 38 = undef := (hF115 38).trans s106
      have s119 : F114 4 = .int .i64 ((((toldTo b k).1 : Nat) : Int)) := (hF115 4).trans s107
      have s120 : F114 6 = .string (strOf ((toldTo b k).2.2)) := (hF115 6).trans s109
      have s121 : F114 7 = .int .i64 (((k : Nat) : Int)) := (hF115 7).trans s110
      have s122 : F114 5 = .int .i64 (((((toldTo b k).2.1) + 1 : Nat) : Int)) := (hF115 5).trans rfl
      clear hF115
      refine then_normal ?_
      refine wq_exit ?_
      refine then_exit ?_
      refine in_here ?_
      refine then_normal ?_
      refine wq_region ?_
      refine wl_v (.int .i64 (((k : Nat) : Int))) rfl rfl (y_mov rfl s121 ⟨rfl, rfl⟩) ?_
      refine wl_v (.int .i64 (((k + 1 : Nat) : Int))) rfl rfl (y_add rfl rfl rfl (i64_n (by omega) (by omega)) ⟨rfl, rfl⟩) ?_
      refine wl_v (.int .i64 (((k + 1 : Nat) : Int))) rfl rfl (y_asg rfl rfl ⟨rfl, rfl⟩) ?_
      refine wl_nil fun F123 hF124 => ?_
      have s125 : F123 1 = .pointer (some ⟨p1, 0, none⟩) := (hF124 1).trans s116
      have s126 : F123 3 = .pointer (some ⟨p17, 0, none⟩) := (hF124 3).trans s117
      have s127 : F123 38 = undef := (hF124 38).trans s118
      have s128 : F123 4 = .int .i64 ((((toldTo b k).1 : Nat) : Int)) := (hF124 4).trans s119
      have s129 : F123 6 = .string (strOf ((toldTo b k).2.2)) := (hF124 6).trans s120
      have s130 : F123 5 = .int .i64 (((((toldTo b k).2.1) + 1 : Nat) : Int)) := (hF124 5).trans s122
      have s131 : F123 7 = .int .i64 (((k + 1 : Nat) : Int)) := (hF124 7).trans rfl
      clear hF124
      exact then_normal ⟨(16 - (k + 1)), by omega, k + 1, by omega, rfl, s125, s126, s127, (by first | (rw [tell_zero b k (by assumption)]; exact s128) | (rw [tell_some b k (by assumption)]; exact s128)), (by first | (rw [tell_zero b k (by assumption)]; exact s130) | (rw [tell_some b k (by assumption)]; exact s130)), (by first | (rw [tell_zero b k (by assumption)]; exact s129) | (rw [tell_some b k (by assumption)]; exact s129)), s131, K69, B79, B80⟩
    · replace c113 := of_decide_eq_false c113
      refine wq_skip ?_
      refine then_normal ?_
      refine wq_seq ?_
      refine wq_region ?_
      refine wl_v (.int .i64 ((((toldTo b k).1 : Nat) : Int))) rfl rfl (y_mov rfl s107 ⟨rfl, rfl⟩) ?_
      refine wl_v (.int .i64 (((((toldTo b k).1) + 1 : Nat) : Int))) rfl rfl (y_add rfl rfl rfl (i64_n (by omega) (by omega)) ⟨rfl, rfl⟩) ?_
      refine wl_v (.int .i64 (((((toldTo b k).1) + 1 : Nat) : Int))) rfl rfl (y_asg rfl rfl ⟨rfl, rfl⟩) ?_
      refine wl_nil fun F132 hF133 => ?_
      have s134 : F132 1 = .pointer (some ⟨p1, 0, none⟩) := (hF133 1).trans s104
      have s135 : F132 3 = .pointer (some ⟨p17, 0, none⟩) := (hF133 3).trans s105
      have s136 : F132 38 = undef := (hF133 38).trans s106
      have s137 : F132 5 = .int .i64 ((((toldTo b k).2.1 : Nat) : Int)) := (hF133 5).trans s108
      have s138 : F132 6 = .string (strOf ((toldTo b k).2.2)) := (hF133 6).trans s109
      have s139 : F132 7 = .int .i64 (((k : Nat) : Int)) := (hF133 7).trans s110
      have s140 : F132 8 = .int .i64 (lvl b k) := (hF133 8).trans s111
      have s141 : F132 4 = .int .i64 (((((toldTo b k).1) + 1 : Nat) : Int)) := (hF133 4).trans rfl
      clear hF133
      refine then_normal ?_
      refine wq_seq ?_
      have h1 := wholeBits_short (((toldTo b k).2.1 : Nat) : Int)
      have h2 := signedBits_short (lvl b k)
      refine wq_region ?_
      refine wl_v (.string (strOf ((toldTo b k).2.2))) rfl rfl (y_mov rfl s138 ⟨rfl, rfl⟩) ?_
      refine wl_v (.int .i64 ((((toldTo b k).2.1 : Nat) : Int))) rfl rfl (y_mov rfl s137 ⟨rfl, rfl⟩) ?_
      refine wl_call (R := fun v_ w_ => v_ = .string (strOf (wholeBits ((((toldTo b k).2.1 : Nat) : Int)))) ∧ Kept (fun _ => False) w68 w_) rfl rfl (y_cs rfl rfl rfl (fun _ _ => by kernel_rfl) (ev_func _) (vsC rfl vsN) (t_refwhole ((((toldTo b k).2.1 : Nat) : Int))  _   ) (fun e_ w_ h_ => ⟨_, h_.1, rfl, h_.2⟩)) ?_
      rintro _ w142 ⟨rfl, k143⟩
      have B144 := B79.all k143 id
      have B145 := B80.all k143 id
      have K146 := K69.trans k143 (fun _ _ x => x.elim)
      refine wl_v (.string (strOf (((toldTo b k).2.2) ++ (wholeBits ((((toldTo b k).2.1 : Nat) : Int)))))) rfl rfl (y_catR rfl rfl rfl (by simp [strOf_size]; omega) (strOf_append _ _) ⟨rfl, rfl⟩) ?_
      refine wl_v (.int .i64 (lvl b k)) rfl rfl (y_mov rfl s140 ⟨rfl, rfl⟩) ?_
      refine wl_call (R := fun v_ w_ => v_ = .string (strOf (signedBits (lvl b k))) ∧ Kept (fun _ => False) w142 w_) rfl rfl (y_cs rfl rfl rfl (fun _ _ => by kernel_rfl) (ev_func _) (vsC rfl vsN) (t_refsigned (lvl b k)  _   ) (fun e_ w_ h_ => ⟨_, h_.1, rfl, h_.2⟩)) ?_
      rintro _ w147 ⟨rfl, k148⟩
      have B149 := B144.all k148 id
      have B150 := B145.all k148 id
      have K151 := K146.trans k148 (fun _ _ x => x.elim)
      refine wl_v (.string (strOf ((((toldTo b k).2.2) ++ (wholeBits ((((toldTo b k).2.1 : Nat) : Int)))) ++ (signedBits (lvl b k))))) rfl rfl (y_catR rfl rfl rfl (by simp [strOf_size]; omega) (strOf_append _ _) ⟨rfl, rfl⟩) ?_
      refine wl_v (.string (strOf ((((toldTo b k).2.2) ++ (wholeBits ((((toldTo b k).2.1 : Nat) : Int)))) ++ (signedBits (lvl b k))))) rfl rfl (y_asg rfl rfl ⟨rfl, rfl⟩) ?_
      refine wl_nil fun F152 hF153 => ?_
      have s154 : F152 1 = .pointer (some ⟨p1, 0, none⟩) := (hF153 1).trans s134
      have s155 : F152 3 = .pointer (some ⟨p17, 0, none⟩) := (hF153 3).trans s135
      have s156 : F152 38 = undef := (hF153 38).trans s136
      have s157 : F152 7 = .int .i64 (((k : Nat) : Int)) := (hF153 7).trans s139
      have s158 : F152 4 = .int .i64 (((((toldTo b k).1) + 1 : Nat) : Int)) := (hF153 4).trans s141
      have s159 : F152 6 = .string (strOf ((((toldTo b k).2.2) ++ (wholeBits ((((toldTo b k).2.1 : Nat) : Int)))) ++ (signedBits (lvl b k)))) := (hF153 6).trans rfl
      clear hF153
      refine then_normal ?_
      refine wq_region ?_
      refine wl_v (.int .i64 (0)) rfl rfl (y_asg rfl rfl ⟨rfl, rfl⟩) ?_
      refine wl_nil fun F160 hF161 => ?_
      have s162 : F160 1 = .pointer (some ⟨p1, 0, none⟩) := (hF161 1).trans s154
      have s163 : F160 3 = .pointer (some ⟨p17, 0, none⟩) := (hF161 3).trans s155
      have s164 : F160 38 = undef := (hF161 38).trans s156
      have s165 : F160 7 = .int .i64 (((k : Nat) : Int)) := (hF161 7).trans s157
      have s166 : F160 4 = .int .i64 (((((toldTo b k).1) + 1 : Nat) : Int)) := (hF161 4).trans s158
      have s167 : F160 6 = .string (strOf ((((toldTo b k).2.2) ++ (wholeBits ((((toldTo b k).2.1 : Nat) : Int)))) ++ (signedBits (lvl b k)))) := (hF161 6).trans s159
      have s168 : F160 5 = .int .i64 (0) := (hF161 5).trans rfl
      clear hF161
      refine in_normal ?_
      refine then_normal ?_
      refine wq_region ?_
      refine wl_v (.int .i64 (((k : Nat) : Int))) rfl rfl (y_mov rfl s165 ⟨rfl, rfl⟩) ?_
      refine wl_v (.int .i64 (((k + 1 : Nat) : Int))) rfl rfl (y_add rfl rfl rfl (i64_n (by omega) (by omega)) ⟨rfl, rfl⟩) ?_
      refine wl_v (.int .i64 (((k + 1 : Nat) : Int))) rfl rfl (y_asg rfl rfl ⟨rfl, rfl⟩) ?_
      refine wl_nil fun F169 hF170 => ?_
      have s171 : F169 1 = .pointer (some ⟨p1, 0, none⟩) := (hF170 1).trans s162
      have s172 : F169 3 = .pointer (some ⟨p17, 0, none⟩) := (hF170 3).trans s163
      have s173 : F169 38 = undef := (hF170 38).trans s164
      have s174 : F169 4 = .int .i64 (((((toldTo b k).1) + 1 : Nat) : Int)) := (hF170 4).trans s166
      have s175 : F169 6 = .string (strOf ((((toldTo b k).2.2) ++ (wholeBits ((((toldTo b k).2.1 : Nat) : Int)))) ++ (signedBits (lvl b k)))) := (hF170 6).trans s167
      have s176 : F169 5 = .int .i64 (0) := (hF170 5).trans s168
      have s177 : F169 7 = .int .i64 (((k + 1 : Nat) : Int)) := (hF170 7).trans rfl
      clear hF170
      exact then_normal ⟨(16 - (k + 1)), by omega, k + 1, by omega, rfl, s171, s172, s173, (by first | (rw [tell_zero b k (by assumption)]; exact s174) | (rw [tell_some b k (by assumption)]; exact s174)), (by first | (rw [tell_zero b k (by assumption)]; exact s176) | (rw [tell_some b k (by assumption)]; exact s176)), (by first | (rw [tell_zero b k (by assumption)]; exact s175) | (rw [tell_some b k (by assumption)]; exact s175)), s177, K151, B149, B150⟩
  · replace c91 := of_decide_eq_false c91
    refine wq_exit ?_
    refine then_exit ?_
    refine then_exit ?_
    have l178 : 16 = k := by omega
    subst l178
    refine in_here ?_
    refine then_normal ?_
    refine wq_seq ?_
    have h1 := wholeBits_short (((toldTo b 16).1 : Nat) : Int)
    have h2 := told_le b 16
    refine wq_region ?_
    refine wl_v (.int .i64 ((((toldTo b 16).1 : Nat) : Int))) rfl rfl (y_mov rfl s86 ⟨rfl, rfl⟩) ?_
    refine wl_call (R := fun v_ w_ => v_ = .string (strOf (wholeBits ((((toldTo b 16).1 : Nat) : Int)))) ∧ Kept (fun _ => False) w68 w_) rfl rfl (y_cs rfl rfl rfl (fun _ _ => by kernel_rfl) (ev_func _) (vsC rfl vsN) (t_refwhole ((((toldTo b 16).1 : Nat) : Int))  _   ) (fun e_ w_ h_ => ⟨_, h_.1, rfl, h_.2⟩)) ?_
    rintro _ w179 ⟨rfl, k180⟩
    have B181 := B79.all k180 id
    have B182 := B80.all k180 id
    have K183 := K69.trans k180 (fun _ _ x => x.elim)
    refine wl_v (.string (strOf ((toldTo b 16).2.2))) rfl rfl (y_mov rfl s88 ⟨rfl, rfl⟩) ?_
    refine wl_v (.string (strOf ((wholeBits ((((toldTo b 16).1 : Nat) : Int))) ++ ((toldTo b 16).2.2)))) rfl rfl (y_catR rfl rfl rfl (by simp [strOf_size]; omega) (strOf_append _ _) ⟨rfl, rfl⟩) ?_
    refine wl_v (.string (strOf ((wholeBits ((((toldTo b 16).1 : Nat) : Int))) ++ ((toldTo b 16).2.2)))) rfl rfl (y_asg rfl rfl ⟨rfl, rfl⟩) ?_
    refine wl_nil fun F184 hF185 => ?_
    have s186 : F184 38 = undef := (hF185 38).trans s85
    have s187 : F184 2 = .string (strOf ((wholeBits ((((toldTo b 16).1 : Nat) : Int))) ++ ((toldTo b 16).2.2))) := (hF185 2).trans rfl
    clear hF185
    refine then_normal ?_
    refine wq_ret ?_
    exact end_tmp (v := .string (strOf ((wholeBits ((((toldTo b 16).1 : Nat) : Int))) ++ ((toldTo b 16).2.2)))) s186 rfl rfl s187 ⟨(by rw [scan_told]), K183⟩

theorem rdOne_at (l : List Nat) (a : Nat) (s : Option Nat) : (a : Int) + (rdStep (wholeRd l 15) s).1 = (((rdOne l a s).1 : Nat) : Int) ∧ (rdOne l a s).1 ≤ a + 15 := by
  have h := rdStep_whole_le l 15 (by omega) s
  unfold rdOne
  simp only
  omega
theorem rd_bad {l : List Nat} {M i a : Nat} {b : Nat → Int} {s : Option Nat} {R : (Nat → Int) × Int × Option Nat} (hi : i < M) (h : rdRest l (M - i) a b s = R) (hb : rdBad (rdOne l a s)) : R = (fun _ => 0, 60, (rdOne l a s).2.2) := by
  obtain ⟨k, hk⟩ : ∃ k, M - i = k + 1 := ⟨M - i - 1, by omega⟩
  rw [hk, rdRest, if_pos hb] at h
  exact h.symm
theorem rd_ok {l : List Nat} {M i a : Nat} {b : Nat → Int} {s : Option Nat} {R : (Nat → Int) × Int × Option Nat} (hi : i < M) (h : rdRest l (M - i) a b s = R) (hb : ¬ rdBad (rdOne l a s)) :
    rdRest l (M - (i + 1)) ((rdOne l a s).1 + 1) (upd b (ord (rdOne l a s).1) (rdOne l a s).2.1) (rdOne l a s).2.2 = R := by
  obtain ⟨k, hk⟩ : ∃ k, M - i = k + 1 := ⟨M - i - 1, by omega⟩
  rw [hk, rdRest, if_neg hb] at h
  rw [show M - (i + 1) = k by omega]
  exact h
theorem rd_done {l : List Nat} {M i a : Nat} {b : Nat → Int} {s : Option Nat} {R : (Nat → Int) × Int × Option Nat} (hi : ¬ i < M) (h : rdRest l (M - i) a b s = R) : (s.isNone = true → R = (fun _ => 0, 60, s)) ∧ (s.isNone = false → R = (b, 0, s)) := by
  rw [show M - i = 0 by omega, rdRest] at h
  constructor
  · intro hs; rw [if_pos hs] at h; exact h.symm
  · intro hs; rw [if_neg (by rw [hs]; decide)] at h; exact h.symm

set_option maxHeartbeats 4000000 in
set_option maxRecDepth 100000 in
theorem sref_read (p : Nat) (l : List Nat) (st : Option Nat) (T_r : Nat → Prop) (w0 : World) (h_r : Rfi w0 T_r p (l) (st)) :
    Calls Tryd.prog 20 #[.pointer (some ⟨p, 0, none⟩)] w0 fun e w' => ∃ (T_r' : Nat → Prop), e = .returned (.tuple #[blkV ((scanRd l st).1), .int .i64 ((scanRd l st).2.1)]) ∧ Kept (T_r) w0 w' ∧ (Rfi w' T_r' p (l) ((scanRd l st).2.2) ∧ Grew w0 T_r T_r') := by
  refine calls_wq (args := [.pointer (some ⟨p, 0, none⟩)]) 51 Tryd.func20 rfl rfl (Nat.le_of_ble_eq_true rfl) ?_
  have K0 := Kept.refl (T_r) w0
  obtain ⟨M, hM⟩ : ∃ M, M = (rdStep (wholeRd l 16) st).1.toNat := ⟨_, rfl⟩
  have hle := rdStep_whole_le l 16 (by omega) st
  have g_r := Grew.refl w0 T_r
  refine wq_seq ?_
  refine wq_region ?_
  refine wl_alloc_blk rfl rfl rfl blkT_arr.2.2 fun p1 w2 e5 B3 k4 => ?_
  have g6 := onB_new (Nat.le_of_eq e5.symm)
  have gr7 : Grew w0 noB (onB p1) := Grew.new K0 g6
  have ap8 : Apart (onB p1) (T_r) := Apart.new g6 (h_r).live
  clear e5 g6
  have B9 := h_r.all k4 Apart.none
  have K10 := K0.trans k4 (fun _ _ x => x.elim)
  refine wl_v (.int .i64 (0)) rfl rfl (y_asg rfl rfl ⟨rfl, rfl⟩) ?_
  refine wl_nil fun F11 hF12 => ?_
  have s13 : F11 0 = .pointer (some ⟨p, 0, none⟩) := (hF12 0).trans rfl
  have s14 : F11 51 = undef := (hF12 51).trans rfl
  have s15 : F11 2 = .pointer (some ⟨p1, 0, none⟩) := (hF12 2).trans rfl
  clear hF12
  refine then_normal ?_
  refine wq_seq ?_
  refine wq_region ?_
  refine wl_call (R := fun v_ w_ => v_ = blkV (ordB) ∧ Kept (fun _ => False) w2 w_) rfl rfl (y_cs rfl rfl rfl (fun _ _ => by kernel_rfl) (ev_func _) vsN (sref_order   _   ) (fun e_ w_ h_ => ⟨_, h_.1, rfl, h_.2⟩)) ?_
  rintro _ w16 ⟨rfl, k17⟩
  have B18 := B9.all k17 Apart.none
  have B19 := B3.all k17 id
  have K20 := K10.trans k17 (fun _ _ x => x.elim)
  refine wl_alloc_blk rfl rfl rfl blkT_arr.2.2 fun p21 w22 e25 B23 k24 => ?_
  have g26 := onB_new (Nat.le_of_eq e25.symm)
  have gr27 : Grew w0 noB (onB p21) := Grew.new K20 g26
  have ap28 : Apart (onB p21) (T_r) := Apart.new g26 (B18).live
  have ap29 : Apart (onB p21) (onB p1) := Apart.new g26 (onB_live (B19).lt)
  clear e25 g26
  have B30 := B18.all k24 Apart.none
  have B31 := B19.all k24 id
  have K32 := K20.trans k24 (fun _ _ x => x.elim)
  refine wl_store_blk blkT_arr rfl rfl rfl rfl rfl B23 fun w33 B34 k35 => ?_
  have B36 := B30.all k35 (fun i h x => (((ap28).symm) i h x))
  have B37 := B31.all k35 (fun x => (((ap29).symm) p1 rfl x))
  have K38 := K32.trans k35 (Grew.ok (S := T_r) gr27 noB_le)
  refine wl_nil fun F39 hF40 => ?_
  have s41 : F39 0 = .pointer (some ⟨p, 0, none⟩) := (hF40 0).trans s13
  have s42 : F39 51 = undef := (hF40 51).trans s14
  have s43 : F39 2 = .pointer (some ⟨p1, 0, none⟩) := (hF40 2).trans s15
  have s44 : F39 4 = .pointer (some ⟨p21, 0, none⟩) := (hF40 4).trans rfl
  clear hF40
  refine then_normal ?_
  refine wq_seq ?_
  refine wq_region ?_
  refine wl_v (blkV (fun _ => 0)) rfl rfl (y_buildR (cells := (arrL 16 (fun _ => 0)).toArray) rfl (by kernel_rfl) rfl ⟨rfl, rfl⟩) ?_
  refine wl_alloc_blk rfl rfl rfl blkT_arr.2.2 fun p45 w46 e49 B47 k48 => ?_
  have g50 := onB_new (Nat.le_of_eq e49.symm)
  have gr51 : Grew w0 noB (onB p45) := Grew.new K38 g50
  have ap52 : Apart (onB p45) (T_r) := Apart.new g50 (B36).live
  have ap53 : Apart (onB p45) (onB p1) := Apart.new g50 (onB_live (B37).lt)
  have ap54 : Apart (onB p45) (onB p21) := Apart.new g50 (onB_live (B34).lt)
  clear e49 g50
  have B55 := B36.all k48 Apart.none
  have B56 := B37.all k48 id
  have B57 := B34.all k48 id
  have K58 := K38.trans k48 (fun _ _ x => x.elim)
  refine wl_store_blk blkT_arr rfl rfl rfl rfl rfl B47 fun w59 B60 k61 => ?_
  have B62 := B55.all k61 (fun i h x => (((ap52).symm) i h x))
  have B63 := B56.all k61 (fun x => (((ap53).symm) p1 rfl x))
  have B64 := B57.all k61 (fun x => (((ap54).symm) p21 rfl x))
  have K65 := K58.trans k61 (Grew.ok (S := T_r) gr51 noB_le)
  refine wl_nil fun F66 hF67 => ?_
  have s68 : F66 0 = .pointer (some ⟨p, 0, none⟩) := (hF67 0).trans s41
  have s69 : F66 51 = undef := (hF67 51).trans s42
  have s70 : F66 2 = .pointer (some ⟨p1, 0, none⟩) := (hF67 2).trans s43
  have s71 : F66 4 = .pointer (some ⟨p21, 0, none⟩) := (hF67 4).trans s44
  have s72 : F66 5 = .pointer (some ⟨p45, 0, none⟩) := (hF67 5).trans rfl
  clear hF67
  refine then_normal ?_
  refine wq_seq ?_
  refine wq_region ?_
  refine wl_v (.pointer (some ⟨p, 0, none⟩)) rfl rfl (y_mov rfl s68 ⟨rfl, rfl⟩) ?_
  refine wl_call (R := fun v_ w_ => ∃ (T75 : Nat → Prop), .int .i64 (((M : Nat) : Int)) = v_ ∧ Kept (T_r) w59 w_ ∧ (Rfi w_ T75 p ((l)) ((rdStep (wholeRd (l) (16)) (st)).2) ∧ Grew w59 (T_r) T75)) rfl rfl (y_cs rfl rfl rfl (fun _ _ => by kernel_rfl) (ev_func _) (vsC rfl (vsC rfl vsN)) (t_fwhole (p) (l) (st) (16) (T_r) _  B62 ) (fun e_ w_ h_ => by obtain ⟨T75_, he_, hr_⟩ := h_; exact ⟨_, he_, T75_, (congrArg (Value.int .i64) (by omega)).symm, hr_⟩)) ?_
  rintro _ w73 ⟨T75, rfl, k74, ⟨B76, g77⟩⟩
  have B78 := B63.all k74 (fun x => ((ap8) p1 rfl x))
  have B79 := B64.all k74 (fun x => ((ap28) p21 rfl x))
  have B80 := B60.all k74 (fun x => ((ap52) p45 rfl x))
  have K81 := K65.trans k74 (fun i hi x => ((Grew.ok (S := T_r) g_r (fun _ x => x)) i hi x))
  have gr82 := g_r.trans K65 g77
  have ap83 : Apart T75 (onB p1) := ((ap8).symm).grew g77 (onB_live (B63).lt)
  have ap84 : Apart T75 (onB p21) := ((ap28).symm).grew g77 (onB_live (B64).lt)
  have ap85 : Apart T75 (onB p45) := ((ap52).symm).grew g77 (onB_live (B60).lt)
  refine wl_v (.int .i64 (((M : Nat) : Int))) rfl rfl (y_asg rfl rfl ⟨rfl, rfl⟩) ?_
  refine wl_nil fun F86 hF87 => ?_
  have s88 : F86 0 = .pointer (some ⟨p, 0, none⟩) := (hF87 0).trans s68
  have s89 : F86 51 = undef := (hF87 51).trans s69
  have s90 : F86 2 = .pointer (some ⟨p1, 0, none⟩) := (hF87 2).trans s70
  have s91 : F86 4 = .pointer (some ⟨p21, 0, none⟩) := (hF87 4).trans s71
  have s92 : F86 5 = .pointer (some ⟨p45, 0, none⟩) := (hF87 5).trans s72
  have s93 : F86 6 = .int .i64 (((M : Nat) : Int)) := (hF87 6).trans rfl
  clear hF87
  refine then_normal ?_
  refine wq_seq ?_
  refine wq_region ?_
  refine wl_v (.int .i64 (0)) rfl rfl (y_asg rfl rfl ⟨rfl, rfl⟩) ?_
  refine wl_nil fun F94 hF95 => ?_
  have s96 : F94 0 = .pointer (some ⟨p, 0, none⟩) := (hF95 0).trans s88
  have s97 : F94 51 = undef := (hF95 51).trans s89
  have s98 : F94 2 = .pointer (some ⟨p1, 0, none⟩) := (hF95 2).trans s90
  have s99 : F94 4 = .pointer (some ⟨p21, 0, none⟩) := (hF95 4).trans s91
  have s100 : F94 5 = .pointer (some ⟨p45, 0, none⟩) := (hF95 5).trans s92
  have s101 : F94 6 = .int .i64 (((M : Nat) : Int)) := (hF95 6).trans s93
  have s102 : F94 7 = .int .i64 (0) := (hF95 7).trans rfl
  clear hF95
  refine then_normal ?_
  refine wq_seq ?_
  refine wq_seq ?_
  refine wq_region ?_
  refine wl_v (.int .i64 (0)) rfl rfl (y_asg rfl rfl ⟨rfl, rfl⟩) ?_
  refine wl_nil fun F103 hF104 => ?_
  have s105 : F103 0 = .pointer (some ⟨p, 0, none⟩) := (hF104 0).trans s96
  have s106 : F103 51 = undef := (hF104 51).trans s97
  have s107 : F103 2 = .pointer (some ⟨p1, 0, none⟩) := (hF104 2).trans s98
  have s108 : F103 4 = .pointer (some ⟨p21, 0, none⟩) := (hF104 4).trans s99
  have s109 : F103 5 = .pointer (some ⟨p45, 0, none⟩) := (hF104 5).trans s100
  have s110 : F103 6 = .int .i64 (((M : Nat) : Int)) := (hF104 6).trans s101
  have s111 : F103 7 = .int .i64 (0) := (hF104 7).trans s102
  have s112 : F103 8 = .int .i64 (0) := (hF104 8).trans rfl
  clear hF104
  refine then_normal ?_
  refine wq_block ?_
  refine wq_loop (fun nn FF ww => ∃ (i : Nat), ∃ (a : Nat), ∃ (b : Nat → Int), ∃ (s : Option Nat), ∃ (T113 : Nat → Prop), i ≤ M ∧ a ≤ 16 ∧ rdRest l (M - i) a b s = scanRd l st ∧ nn = M - i ∧ FF 0 = .pointer (some ⟨p, 0, none⟩) ∧ FF 2 = .pointer (some ⟨p1, 0, none⟩) ∧ FF 4 = .pointer (some ⟨p21, 0, none⟩) ∧ FF 5 = .pointer (some ⟨p45, 0, none⟩) ∧ FF 6 = .int .i64 (((M : Nat) : Int)) ∧ FF 51 = undef ∧ FF 7 = .int .i64 (((a : Nat) : Int)) ∧ FF 8 = .int .i64 (((i : Nat) : Int)) ∧ Kept (T_r) w0 ww ∧ Rfi ww (T113) p (l) (s) ∧ Blk ww p1 22 (fun _ => 0) ∧ Blk ww p21 22 (ordB) ∧ Blk ww p45 22 (b) ∧ Grew w0 (T_r) T113 ∧ Apart (T113) (onB p1) ∧ Apart (T113) (onB p21) ∧ Apart (T113) (onB p45)) (M - (0)) ⟨0, 0, (fun _ => 0), (rdStep (wholeRd l 16) st).2, T75, by omega, by omega, (by rw [hM]; rfl), rfl, s105, s107, s108, s109, s110, s106, s111, s112, K81, B76, B78, B79, B80, gr82, ap83, ap84, ap85⟩ ?_
  rintro n117 F114 w115 ⟨i, a, b, s, T113, i118, i119, hI, hn117, s120, s121, s122, s123, s124, s125, s126, s127, K116, B128, B129, B130, B131, gr132, ap133, ap134, ap135⟩
  refine wq_seq ?_
  refine wq_seq ?_
  refine wq_region ?_
  refine wl_v (.int .i64 (((i : Nat) : Int))) rfl rfl (y_mov rfl s127 ⟨rfl, rfl⟩) ?_
  refine wl_v (.int .i64 (((M : Nat) : Int))) rfl rfl (y_mov rfl s124 ⟨rfl, rfl⟩) ?_
  refine wl_v (.bool (decide ((((i : Nat) : Int)) < (((M : Nat) : Int))))) rfl rfl (y_lss rfl rfl rfl rfl ⟨rfl, rfl⟩) ?_
  refine wl_nil fun F136 hF137 => ?_
  have s138 : F136 0 = .pointer (some ⟨p, 0, none⟩) := (hF137 0).trans s120
  have s139 : F136 2 = .pointer (some ⟨p1, 0, none⟩) := (hF137 2).trans s121
  have s140 : F136 4 = .pointer (some ⟨p21, 0, none⟩) := (hF137 4).trans s122
  have s141 : F136 5 = .pointer (some ⟨p45, 0, none⟩) := (hF137 5).trans s123
  have s142 : F136 6 = .int .i64 (((M : Nat) : Int)) := (hF137 6).trans s124
  have s143 : F136 51 = undef := (hF137 51).trans s125
  have s144 : F136 7 = .int .i64 (((a : Nat) : Int)) := (hF137 7).trans s126
  have s145 : F136 8 = .int .i64 (((i : Nat) : Int)) := (hF137 8).trans s127
  have s146 : F136 16 = .bool (decide ((((i : Nat) : Int)) < (((M : Nat) : Int)))) := (hF137 16).trans rfl
  clear hF137
  refine then_normal ?_
  refine wq_cond s146 (fun c147 => ?_) (fun c147 => ?_)
  · replace c147 := of_decide_eq_true c147
    refine wq_skip ?_
    refine then_normal ?_
    refine wq_seq ?_
    refine wq_block ?_
    refine wq_seq ?_
    have hat := rdOne_at l a s
    refine wq_region ?_
    refine wl_v (.int .i64 (((a : Nat) : Int))) rfl rfl (y_mov rfl s144 ⟨rfl, rfl⟩) ?_
    refine wl_v (.pointer (some ⟨p, 0, none⟩)) rfl rfl (y_mov rfl s138 ⟨rfl, rfl⟩) ?_
    refine wl_call (R := fun v_ w_ => ∃ (T150 : Nat → Prop), .int .i64 ((rdStep (wholeRd (l) (15)) (s)).1) = v_ ∧ Kept (T113) w115 w_ ∧ (Rfi w_ T150 p ((l)) ((rdStep (wholeRd (l) (15)) (s)).2) ∧ Grew w115 (T113) T150)) rfl rfl (y_cs rfl rfl rfl (fun _ _ => by kernel_rfl) (ev_func _) (vsC rfl (vsC rfl vsN)) (t_fwhole (p) (l) (s) (15) (T113) _  B128 ) (fun e_ w_ h_ => by obtain ⟨T150_, he_, hr_⟩ := h_; exact ⟨_, he_, T150_, rfl, hr_⟩)) ?_
    rintro _ w148 ⟨T150, rfl, k149, ⟨B151, g152⟩⟩
    have B153 := B129.all k149 (fun x => (((ap133).symm) p1 rfl x))
    have B154 := B130.all k149 (fun x => (((ap134).symm) p21 rfl x))
    have B155 := B131.all k149 (fun x => (((ap135).symm) p45 rfl x))
    have K156 := K116.trans k149 (fun i hi x => ((Grew.ok (S := T_r) gr132 (fun _ x => x)) i hi x))
    have gr157 := gr132.trans K116 g152
    have ap158 : Apart T150 (onB p1) := (ap133).grew g152 (onB_live (B129).lt)
    have ap159 : Apart T150 (onB p21) := (ap134).grew g152 (onB_live (B130).lt)
    have ap160 : Apart T150 (onB p45) := (ap135).grew g152 (onB_live (B131).lt)
    refine wl_v (.int .i64 ((((rdOne l a s).1 : Nat) : Int))) rfl rfl (y_add rfl rfl rfl (i64_n hat.1 (by omega)) ⟨rfl, rfl⟩) ?_
    refine wl_v (.int .i64 ((((rdOne l a s).1 : Nat) : Int))) rfl rfl (y_asg rfl rfl ⟨rfl, rfl⟩) ?_
    refine wl_nil fun F161 hF162 => ?_
    have s163 : F161 0 = .pointer (some ⟨p, 0, none⟩) := (hF162 0).trans s138
    have s164 : F161 2 = .pointer (some ⟨p1, 0, none⟩) := (hF162 2).trans s139
    have s165 : F161 4 = .pointer (some ⟨p21, 0, none⟩) := (hF162 4).trans s140
    have s166 : F161 5 = .pointer (some ⟨p45, 0, none⟩) := (hF162 5).trans s141
    have s167 : F161 6 = .int .i64 (((M : Nat) : Int)) := (hF162 6).trans s142
    have s168 : F161 51 = undef := (hF162 51).trans s143
    have s169 : F161 8 = .int .i64 (((i : Nat) : Int)) := (hF162 8).trans s145
    have s170 : F161 7 = .int .i64 ((((rdOne l a s).1 : Nat) : Int)) := (hF162 7).trans rfl
    clear hF162
    refine then_normal ?_
    refine wq_seq ?_
    refine wq_region ?_
    refine wl_v (.pointer (some ⟨p, 0, none⟩)) rfl rfl (y_mov rfl s163 ⟨rfl, rfl⟩) ?_
    refine wl_call (R := fun v_ w_ => ∃ (T173 : Nat → Prop), .int .i64 ((rdOne l a s).2.1) = v_ ∧ Kept (T150) w148 w_ ∧ (Rfi w_ T173 p (((l))) ((rdStep (signedRd ((l)) (1048576)) ((rdStep (wholeRd (l) (15)) (s)).2)).2) ∧ Grew w148 (T150) T173)) rfl rfl (y_cs rfl rfl rfl (fun _ _ => by kernel_rfl) (ev_func _) (vsC rfl (vsC rfl vsN)) (t_fsigned (p) ((l)) ((rdStep (wholeRd (l) (15)) (s)).2) (1048576) (T150) _  B151 ) (fun e_ w_ h_ => by obtain ⟨T173_, he_, hr_⟩ := h_; exact ⟨_, he_, T173_, rfl, hr_⟩)) ?_
    rintro _ w171 ⟨T173, rfl, k172, ⟨B174, g175⟩⟩
    have B176 := B153.all k172 (fun x => (((ap158).symm) p1 rfl x))
    have B177 := B154.all k172 (fun x => (((ap159).symm) p21 rfl x))
    have B178 := B155.all k172 (fun x => (((ap160).symm) p45 rfl x))
    have K179 := K156.trans k172 (fun i hi x => ((Grew.ok (S := T_r) gr157 (fun _ x => x)) i hi x))
    have gr180 := gr157.trans K156 g175
    have ap181 : Apart T173 (onB p1) := (ap158).grew g175 (onB_live (B153).lt)
    have ap182 : Apart T173 (onB p21) := (ap159).grew g175 (onB_live (B154).lt)
    have ap183 : Apart T173 (onB p45) := (ap160).grew g175 (onB_live (B155).lt)
    refine wl_v (.int .i64 ((rdOne l a s).2.1)) rfl rfl (y_asg rfl rfl ⟨rfl, rfl⟩) ?_
    refine wl_nil fun F184 hF185 => ?_
    have s186 : F184 0 = .pointer (some ⟨p, 0, none⟩) := (hF185 0).trans s163
    have s187 : F184 2 = .pointer (some ⟨p1, 0, none⟩) := (hF185 2).trans s164
    have s188 : F184 4 = .pointer (some ⟨p21, 0, none⟩) := (hF185 4).trans s165
    have s189 : F184 5 = .pointer (some ⟨p45, 0, none⟩) := (hF185 5).trans s166
    have s190 : F184 6 = .int .i64 (((M : Nat) : Int)) := (hF185 6).trans s167
    have s191 : F184 51 = undef := (hF185 51).trans s168
    have s192 : F184 8 = .int .i64 (((i : Nat) : Int)) := (hF185 8).trans s169
    have s193 : F184 7 = .int .i64 ((((rdOne l a s).1 : Nat) : Int)) := (hF185 7).trans s170
    have s194 : F184 9 = .int .i64 ((rdOne l a s).2.1) := (hF185 9).trans rfl
    clear hF185
    refine then_normal ?_
    refine wq_seq ?_
    refine wq_seq ?_
    rcases Bool.eq_false_or_eq_true (((rdStep (signedRd ((l)) (1048576)) ((rdStep (wholeRd (l) (15)) (s)).2)).2).isNone) with d195 | d195
    · skip
      refine wq_region ?_
      refine wl_v (.pointer (some ⟨p, 0, none⟩)) rfl rfl (y_mov rfl s186 ⟨rfl, rfl⟩) ?_
      refine wl_v (.pointer (some ⟨p, 0, none⟩)) rfl rfl (y_nilc rfl rfl ⟨rfl, rfl⟩) ?_
      refine wl_v (.pointer (some ⟨p, 2, none⟩)) rfl rfl (y_fieldR (n := 1) rfl rfl Tryd.underlying40 rfl (by kernel_rfl) (by decide) rfl ⟨rfl, rfl⟩) ?_
      refine wl_v (.bool true) rfl rfl (y_rf_lost rfl rfl B174 d195 ⟨rfl, rfl⟩) ?_
      refine wl_v (.bool true) rfl rfl (y_mov rfl rfl ⟨rfl, rfl⟩) ?_
      refine wl_unless 4 false 29 rfl rfl rfl (Or.inl rfl) rfl ?_
      refine wl_unless 4 false 29 rfl rfl rfl (Or.inl rfl) rfl ?_
      refine wl_v (.bool true) rfl rfl (y_pickT rfl rfl rfl ⟨rfl, rfl⟩) ?_
      refine wl_v (.bool true) rfl rfl (y_mov rfl rfl ⟨rfl, rfl⟩) ?_
      refine wl_unless 8 false 33 rfl rfl rfl (Or.inl rfl) rfl ?_
      refine wl_unless 8 false 33 rfl rfl rfl (Or.inl rfl) rfl ?_
      refine wl_v (.bool true) rfl rfl (y_pickT rfl rfl rfl ⟨rfl, rfl⟩) ?_
      refine wl_nil fun F196 hF197 => ?_
      have s198 : F196 0 = .pointer (some ⟨p, 0, none⟩) := (hF197 0).trans s186
      have s199 : F196 2 = .pointer (some ⟨p1, 0, none⟩) := (hF197 2).trans s187
      have s200 : F196 4 = .pointer (some ⟨p21, 0, none⟩) := (hF197 4).trans s188
      have s201 : F196 5 = .pointer (some ⟨p45, 0, none⟩) := (hF197 5).trans s189
      have s202 : F196 6 = .int .i64 (((M : Nat) : Int)) := (hF197 6).trans s190
      have s203 : F196 51 = undef := (hF197 51).trans s191
      have s204 : F196 8 = .int .i64 (((i : Nat) : Int)) := (hF197 8).trans s192
      have s205 : F196 7 = .int .i64 ((((rdOne l a s).1 : Nat) : Int)) := (hF197 7).trans s193
      have s206 : F196 9 = .int .i64 ((rdOne l a s).2.1) := (hF197 9).trans s194
      have s207 : F196 36 = .bool true := (hF197 36).trans rfl
      clear hF197
      refine then_normal ?_
      refine wq_cond (t := true) s207 (fun _ => ?_) (fun e => by cases e)
      refine wq_seq ?_
      have hR := rd_bad (by omega) hI (by unfold rdBad; first | exact Or.inl (by assumption) | exact Or.inr (Or.inl (by omega)) | exact Or.inr (Or.inr (by assumption)))
      refine wq_region ?_
      refine wl_v (blkV (fun _ => 0)) rfl rfl (y_buildR (cells := (arrL 16 (fun _ => 0)).toArray) rfl (by kernel_rfl) rfl ⟨rfl, rfl⟩) ?_
      refine wl_store_blk blkT_arr rfl rfl rfl s199 rfl B176 fun w208 B209 k210 => ?_
      have B211 := B174.all k210 (fun i h x => ((ap181) i h x))
      have B212 := B177.all k210 (fun x => ((ap29) p21 rfl x))
      have B213 := B178.all k210 (fun x => ((ap53) p45 rfl x))
      have K214 := K179.trans k210 (Grew.ok (S := T_r) gr7 noB_le)
      refine wl_v (.int .i64 (60)) rfl rfl (y_asg rfl rfl ⟨rfl, rfl⟩) ?_
      refine wl_nil fun F215 hF216 => ?_
      have s217 : F215 2 = .pointer (some ⟨p1, 0, none⟩) := (hF216 2).trans s199
      have s218 : F215 51 = undef := (hF216 51).trans s203
      have s219 : F215 3 = .int .i64 (60) := (hF216 3).trans rfl
      clear hF216
      refine then_normal ?_
      refine wq_ret ?_
      refine then_ret ?_
      refine in_ret ?_
      refine then_ret ?_
      refine then_ret ?_
      refine in_ret ?_
      refine then_ret ?_
      exact end_2 s218 rfl (res_blk blkT_arr rfl s217 B209) (res_tmp (v := .int .i64 (60)) rfl s219) ⟨T173, (by rw [hR]), K214, ⟨(by rw [hR]; exact B211), gr180⟩⟩
    · skip
      by_cases d220 : (15) < ((((rdOne l a s).1 : Nat) : Int))
      · skip
        refine wq_region ?_
        refine wl_v (.pointer (some ⟨p, 0, none⟩)) rfl rfl (y_mov rfl s186 ⟨rfl, rfl⟩) ?_
        refine wl_v (.pointer (some ⟨p, 0, none⟩)) rfl rfl (y_nilc rfl rfl ⟨rfl, rfl⟩) ?_
        refine wl_v (.pointer (some ⟨p, 2, none⟩)) rfl rfl (y_fieldR (n := 1) rfl rfl Tryd.underlying40 rfl (by kernel_rfl) (by decide) rfl ⟨rfl, rfl⟩) ?_
        refine wl_v (.bool false) rfl rfl (y_rf_lost rfl rfl B174 d195 ⟨rfl, rfl⟩) ?_
        refine wl_v (.bool false) rfl rfl (y_mov rfl rfl ⟨rfl, rfl⟩) ?_
        refine wl_vw (.int .i64 ((((rdOne l a s).1 : Nat) : Int))) 4 false 29 rfl rfl rfl rfl rfl (y_mov rfl s193 ⟨rfl, rfl⟩) ?_
        refine wl_vw (.bool true) 4 false 29 rfl rfl rfl rfl rfl (y_gtr rfl rfl rfl (decide_eq_true d220) ⟨rfl, rfl⟩) ?_
        refine wl_v (.bool true) rfl rfl (y_pickF rfl rfl rfl ⟨rfl, rfl⟩) ?_
        refine wl_v (.bool true) rfl rfl (y_mov rfl rfl ⟨rfl, rfl⟩) ?_
        refine wl_unless 8 false 33 rfl rfl rfl (Or.inl rfl) rfl ?_
        refine wl_unless 8 false 33 rfl rfl rfl (Or.inl rfl) rfl ?_
        refine wl_v (.bool true) rfl rfl (y_pickT rfl rfl rfl ⟨rfl, rfl⟩) ?_
        refine wl_nil fun F221 hF222 => ?_
        have s223 : F221 0 = .pointer (some ⟨p, 0, none⟩) := (hF222 0).trans s186
        have s224 : F221 2 = .pointer (some ⟨p1, 0, none⟩) := (hF222 2).trans s187
        have s225 : F221 4 = .pointer (some ⟨p21, 0, none⟩) := (hF222 4).trans s188
        have s226 : F221 5 = .pointer (some ⟨p45, 0, none⟩) := (hF222 5).trans s189
        have s227 : F221 6 = .int .i64 (((M : Nat) : Int)) := (hF222 6).trans s190
        have s228 : F221 51 = undef := (hF222 51).trans s191
        have s229 : F221 8 = .int .i64 (((i : Nat) : Int)) := (hF222 8).trans s192
        have s230 : F221 7 = .int .i64 ((((rdOne l a s).1 : Nat) : Int)) := (hF222 7).trans s193
        have s231 : F221 9 = .int .i64 ((rdOne l a s).2.1) := (hF222 9).trans s194
        have s232 : F221 36 = .bool true := (hF222 36).trans rfl
        clear hF222
        refine then_normal ?_
        refine wq_cond (t := true) s232 (fun _ => ?_) (fun e => by cases e)
        refine wq_seq ?_
        have hR := rd_bad (by omega) hI (by unfold rdBad; first | exact Or.inl (by assumption) | exact Or.inr (Or.inl (by omega)) | exact Or.inr (Or.inr (by assumption)))
        refine wq_region ?_
        refine wl_v (blkV (fun _ => 0)) rfl rfl (y_buildR (cells := (arrL 16 (fun _ => 0)).toArray) rfl (by kernel_rfl) rfl ⟨rfl, rfl⟩) ?_
        refine wl_store_blk blkT_arr rfl rfl rfl s224 rfl B176 fun w233 B234 k235 => ?_
        have B236 := B174.all k235 (fun i h x => ((ap181) i h x))
        have B237 := B177.all k235 (fun x => ((ap29) p21 rfl x))
        have B238 := B178.all k235 (fun x => ((ap53) p45 rfl x))
        have K239 := K179.trans k235 (Grew.ok (S := T_r) gr7 noB_le)
        refine wl_v (.int .i64 (60)) rfl rfl (y_asg rfl rfl ⟨rfl, rfl⟩) ?_
        refine wl_nil fun F240 hF241 => ?_
        have s242 : F240 2 = .pointer (some ⟨p1, 0, none⟩) := (hF241 2).trans s224
        have s243 : F240 51 = undef := (hF241 51).trans s228
        have s244 : F240 3 = .int .i64 (60) := (hF241 3).trans rfl
        clear hF241
        refine then_normal ?_
        refine wq_ret ?_
        refine then_ret ?_
        refine in_ret ?_
        refine then_ret ?_
        refine then_ret ?_
        refine in_ret ?_
        refine then_ret ?_
        exact end_2 s243 rfl (res_blk blkT_arr rfl s242 B234) (res_tmp (v := .int .i64 (60)) rfl s244) ⟨T173, (by rw [hR]), K239, ⟨(by rw [hR]; exact B236), gr180⟩⟩
      · skip
        refine wq_region ?_
        refine wl_v (.pointer (some ⟨p, 0, none⟩)) rfl rfl (y_mov rfl s186 ⟨rfl, rfl⟩) ?_
        refine wl_v (.pointer (some ⟨p, 0, none⟩)) rfl rfl (y_nilc rfl rfl ⟨rfl, rfl⟩) ?_
        refine wl_v (.pointer (some ⟨p, 2, none⟩)) rfl rfl (y_fieldR (n := 1) rfl rfl Tryd.underlying40 rfl (by kernel_rfl) (by decide) rfl ⟨rfl, rfl⟩) ?_
        refine wl_v (.bool false) rfl rfl (y_rf_lost rfl rfl B174 d195 ⟨rfl, rfl⟩) ?_
        refine wl_v (.bool false) rfl rfl (y_mov rfl rfl ⟨rfl, rfl⟩) ?_
        refine wl_vw (.int .i64 ((((rdOne l a s).1 : Nat) : Int))) 4 false 29 rfl rfl rfl rfl rfl (y_mov rfl s193 ⟨rfl, rfl⟩) ?_
        refine wl_vw (.bool false) 4 false 29 rfl rfl rfl rfl rfl (y_gtr rfl rfl rfl (decide_eq_false d220) ⟨rfl, rfl⟩) ?_
        refine wl_v (.bool false) rfl rfl (y_pickF rfl rfl rfl ⟨rfl, rfl⟩) ?_
        refine wl_v (.bool false) rfl rfl (y_mov rfl rfl ⟨rfl, rfl⟩) ?_
        refine wl_vw (.int .i64 ((rdOne l a s).2.1)) 8 false 33 rfl rfl rfl rfl rfl (y_mov rfl s194 ⟨rfl, rfl⟩) ?_
        refine wl_vw (.bool (decide (((rdOne l a s).2.1) = (0)))) 8 false 33 rfl rfl rfl rfl rfl (y_eqlI rfl rfl rfl rfl ⟨rfl, rfl⟩) ?_
        refine wl_v (.bool (decide (((rdOne l a s).2.1) = (0)))) rfl rfl (y_pickF rfl rfl rfl ⟨rfl, rfl⟩) ?_
        refine wl_nil fun F245 hF246 => ?_
        have s247 : F245 0 = .pointer (some ⟨p, 0, none⟩) := (hF246 0).trans s186
        have s248 : F245 2 = .pointer (some ⟨p1, 0, none⟩) := (hF246 2).trans s187
        have s249 : F245 4 = .pointer (some ⟨p21, 0, none⟩) := (hF246 4).trans s188
        have s250 : F245 5 = .pointer (some ⟨p45, 0, none⟩) := (hF246 5).trans s189
        have s251 : F245 6 = .int .i64 (((M : Nat) : Int)) := (hF246 6).trans s190
        have s252 : F245 51 = undef := (hF246 51).trans s191
        have s253 : F245 8 = .int .i64 (((i : Nat) : Int)) := (hF246 8).trans s192
        have s254 : F245 7 = .int .i64 ((((rdOne l a s).1 : Nat) : Int)) := (hF246 7).trans s193
        have s255 : F245 9 = .int .i64 ((rdOne l a s).2.1) := (hF246 9).trans s194
        have s256 : F245 36 = .bool (decide (((rdOne l a s).2.1) = (0))) := (hF246 36).trans rfl
        clear hF246
        refine then_normal ?_
        refine wq_cond s256 (fun c257 => ?_) (fun c257 => ?_)
        · replace c257 := of_decide_eq_true c257
          refine wq_seq ?_
          have hR := rd_bad (by omega) hI (by unfold rdBad; first | exact Or.inl (by assumption) | exact Or.inr (Or.inl (by omega)) | exact Or.inr (Or.inr (by assumption)))
          refine wq_region ?_
          refine wl_v (blkV (fun _ => 0)) rfl rfl (y_buildR (cells := (arrL 16 (fun _ => 0)).toArray) rfl (by kernel_rfl) rfl ⟨rfl, rfl⟩) ?_
          refine wl_store_blk blkT_arr rfl rfl rfl s248 rfl B176 fun w258 B259 k260 => ?_
          have B261 := B174.all k260 (fun i h x => ((ap181) i h x))
          have B262 := B177.all k260 (fun x => ((ap29) p21 rfl x))
          have B263 := B178.all k260 (fun x => ((ap53) p45 rfl x))
          have K264 := K179.trans k260 (Grew.ok (S := T_r) gr7 noB_le)
          refine wl_v (.int .i64 (60)) rfl rfl (y_asg rfl rfl ⟨rfl, rfl⟩) ?_
          refine wl_nil fun F265 hF266 => ?_
          have s267 : F265 2 = .pointer (some ⟨p1, 0, none⟩) := (hF266 2).trans s248
          have s268 : F265 51 = undef := (hF266 51).trans s252
          have s269 : F265 3 = .int .i64 (60) := (hF266 3).trans rfl
          clear hF266
          refine then_normal ?_
          refine wq_ret ?_
          refine then_ret ?_
          refine in_ret ?_
          refine then_ret ?_
          refine then_ret ?_
          refine in_ret ?_
          refine then_ret ?_
          exact end_2 s268 rfl (res_blk blkT_arr rfl s267 B259) (res_tmp (v := .int .i64 (60)) rfl s269) ⟨T173, (by rw [hR]), K264, ⟨(by rw [hR]; exact B261), gr180⟩⟩
        · replace c257 := of_decide_eq_false c257
          refine wq_skip ?_
          refine then_normal ?_
          refine wq_seq ?_
          have hN : ¬ rdBad (rdOne l a s) := by unfold rdBad; rintro (h | h | h); rw [show (rdOne l a s).2.2.isNone = false by assumption] at h; cases h; omega; exact absurd h (by assumption)
          have ho := ord_lt (rdOne l a s).1 (by omega)
          refine wq_region ?_
          refine wl_v (.int .i64 ((((rdOne l a s).1 : Nat) : Int))) rfl rfl (y_mov rfl s254 ⟨rfl, rfl⟩) ?_
          refine wl_v (.pointer (some ⟨p21, (rdOne l a s).1, none⟩)) rfl rfl (y_atR ((rdOne l a s).1) (s := 1) rfl s249 rfl (by omega) Tryd.underlying22 (by omega) (by kernel_rfl) (by omega) ⟨rfl, rfl⟩) ?_
          refine wl_v (.int .i64 (((ord (rdOne l a s).1 : Nat) : Int))) rfl rfl (y_ldR rfl rfl Tryd.underlying3 (((B177).cell (by omega)).trans (some_int rfl)) ⟨rfl, rfl⟩) ?_
          refine wl_v (.int .i64 ((rdOne l a s).2.1)) rfl rfl (y_mov rfl s255 ⟨rfl, rfl⟩) ?_
          refine wl_v (.pointer (some ⟨p45, ord (rdOne l a s).1, none⟩)) rfl rfl (y_atR (ord (rdOne l a s).1) (s := 1) rfl s250 rfl (by omega) Tryd.underlying22 (by omega) (by kernel_rfl) (by omega) ⟨rfl, rfl⟩) ?_
          refine wl_set_blk rfl rfl rfl rfl rfl B178 (by omega) (by kernel_rfl) fun w270 B271 k272 => ?_
          have B273 := B174.all k272 (fun i h x => ((ap183) i h x))
          have B274 := B176.all k272 (fun x => (((ap53).symm) p1 rfl x))
          have B275 := B177.all k272 (fun x => (((ap54).symm) p21 rfl x))
          have K276 := K179.trans k272 (Grew.ok (S := T_r) gr51 noB_le)
          refine wl_nil fun F277 hF278 => ?_
          have s279 : F277 0 = .pointer (some ⟨p, 0, none⟩) := (hF278 0).trans s247
          have s280 : F277 2 = .pointer (some ⟨p1, 0, none⟩) := (hF278 2).trans s248
          have s281 : F277 4 = .pointer (some ⟨p21, 0, none⟩) := (hF278 4).trans s249
          have s282 : F277 5 = .pointer (some ⟨p45, 0, none⟩) := (hF278 5).trans s250
          have s283 : F277 6 = .int .i64 (((M : Nat) : Int)) := (hF278 6).trans s251
          have s284 : F277 51 = undef := (hF278 51).trans s252
          have s285 : F277 8 = .int .i64 (((i : Nat) : Int)) := (hF278 8).trans s253
          have s286 : F277 7 = .int .i64 ((((rdOne l a s).1 : Nat) : Int)) := (hF278 7).trans s254
          clear hF278
          refine then_normal ?_
          refine wq_region ?_
          refine wl_v (.int .i64 ((((rdOne l a s).1 : Nat) : Int))) rfl rfl (y_mov rfl s286 ⟨rfl, rfl⟩) ?_
          refine wl_v (.int .i64 (((((rdOne l a s).1) + 1 : Nat) : Int))) rfl rfl (y_add rfl rfl rfl (i64_n (by omega) (by omega)) ⟨rfl, rfl⟩) ?_
          refine wl_v (.int .i64 (((((rdOne l a s).1) + 1 : Nat) : Int))) rfl rfl (y_asg rfl rfl ⟨rfl, rfl⟩) ?_
          refine wl_nil fun F287 hF288 => ?_
          have s289 : F287 0 = .pointer (some ⟨p, 0, none⟩) := (hF288 0).trans s279
          have s290 : F287 2 = .pointer (some ⟨p1, 0, none⟩) := (hF288 2).trans s280
          have s291 : F287 4 = .pointer (some ⟨p21, 0, none⟩) := (hF288 4).trans s281
          have s292 : F287 5 = .pointer (some ⟨p45, 0, none⟩) := (hF288 5).trans s282
          have s293 : F287 6 = .int .i64 (((M : Nat) : Int)) := (hF288 6).trans s283
          have s294 : F287 51 = undef := (hF288 51).trans s284
          have s295 : F287 8 = .int .i64 (((i : Nat) : Int)) := (hF288 8).trans s285
          have s296 : F287 7 = .int .i64 (((((rdOne l a s).1) + 1 : Nat) : Int)) := (hF288 7).trans rfl
          clear hF288
          refine in_normal ?_
          refine then_normal ?_
          refine wq_region ?_
          refine wl_v (.int .i64 (((i : Nat) : Int))) rfl rfl (y_mov rfl s295 ⟨rfl, rfl⟩) ?_
          refine wl_v (.int .i64 (((i + 1 : Nat) : Int))) rfl rfl (y_add rfl rfl rfl (i64_n (by omega) (by omega)) ⟨rfl, rfl⟩) ?_
          refine wl_v (.int .i64 (((i + 1 : Nat) : Int))) rfl rfl (y_asg rfl rfl ⟨rfl, rfl⟩) ?_
          refine wl_nil fun F297 hF298 => ?_
          have s299 : F297 0 = .pointer (some ⟨p, 0, none⟩) := (hF298 0).trans s289
          have s300 : F297 2 = .pointer (some ⟨p1, 0, none⟩) := (hF298 2).trans s290
          have s301 : F297 4 = .pointer (some ⟨p21, 0, none⟩) := (hF298 4).trans s291
          have s302 : F297 5 = .pointer (some ⟨p45, 0, none⟩) := (hF298 5).trans s292
          have s303 : F297 6 = .int .i64 (((M : Nat) : Int)) := (hF298 6).trans s293
          have s304 : F297 51 = undef := (hF298 51).trans s294
          have s305 : F297 7 = .int .i64 (((((rdOne l a s).1) + 1 : Nat) : Int)) := (hF298 7).trans s296
          have s306 : F297 8 = .int .i64 (((i + 1 : Nat) : Int)) := (hF298 8).trans rfl
          clear hF298
          exact then_normal ⟨(M - (i + 1)), by omega, i + 1, (rdOne l a s).1 + 1, (upd b (ord (rdOne l a s).1) (rdOne l a s).2.1), (rdOne l a s).2.2, T173, by omega, by omega, (rd_ok (by omega) hI hN), rfl, s299, s300, s301, s302, s303, s304, s305, s306, K276, B273, B274, B275, B271, gr180, ap181, ap182, ap183⟩
  · replace c147 := of_decide_eq_false c147
    refine wq_exit ?_
    refine then_exit ?_
    refine then_exit ?_
    refine in_here ?_
    refine then_normal ?_
    refine wq_seq ?_
    refine wq_seq ?_
    refine wq_region ?_
    refine wl_v (.pointer (some ⟨p, 0, none⟩)) rfl rfl (y_mov rfl s138 ⟨rfl, rfl⟩) ?_
    refine wl_v (.pointer (some ⟨p, 0, none⟩)) rfl rfl (y_nilc rfl rfl ⟨rfl, rfl⟩) ?_
    refine wl_v (.pointer (some ⟨p, 2, none⟩)) rfl rfl (y_fieldR (n := 1) rfl rfl Tryd.underlying40 rfl (by kernel_rfl) (by decide) rfl ⟨rfl, rfl⟩) ?_
    refine wl_v (.bool ((s).isNone)) rfl rfl (y_rf_lost rfl rfl B128 rfl ⟨rfl, rfl⟩) ?_
    refine wl_nil fun F307 hF308 => ?_
    have s309 : F307 2 = .pointer (some ⟨p1, 0, none⟩) := (hF308 2).trans s139
    have s310 : F307 5 = .pointer (some ⟨p45, 0, none⟩) := (hF308 5).trans s141
    have s311 : F307 51 = undef := (hF308 51).trans s143
    have s312 : F307 48 = .bool ((s).isNone) := (hF308 48).trans rfl
    clear hF308
    refine then_normal ?_
    refine wq_cond s312 (fun c313 => ?_) (fun c313 => ?_)
    · skip
      refine wq_seq ?_
      have hR := (rd_done (by omega) hI).1 (by assumption)
      refine wq_region ?_
      refine wl_v (blkV (fun _ => 0)) rfl rfl (y_buildR (cells := (arrL 16 (fun _ => 0)).toArray) rfl (by kernel_rfl) rfl ⟨rfl, rfl⟩) ?_
      refine wl_store_blk blkT_arr rfl rfl rfl s309 rfl B129 fun w314 B315 k316 => ?_
      have B317 := B128.all k316 (fun i h x => ((ap133) i h x))
      have B318 := B130.all k316 (fun x => ((ap29) p21 rfl x))
      have B319 := B131.all k316 (fun x => ((ap53) p45 rfl x))
      have K320 := K116.trans k316 (Grew.ok (S := T_r) gr7 noB_le)
      refine wl_v (.int .i64 (60)) rfl rfl (y_asg rfl rfl ⟨rfl, rfl⟩) ?_
      refine wl_nil fun F321 hF322 => ?_
      have s323 : F321 2 = .pointer (some ⟨p1, 0, none⟩) := (hF322 2).trans s309
      have s324 : F321 51 = undef := (hF322 51).trans s311
      have s325 : F321 3 = .int .i64 (60) := (hF322 3).trans rfl
      clear hF322
      refine then_normal ?_
      refine wq_ret ?_
      refine then_ret ?_
      exact end_2 s324 rfl (res_blk blkT_arr rfl s323 B315) (res_tmp (v := .int .i64 (60)) rfl s325) ⟨T113, (by rw [hR]), K320, ⟨(by rw [hR]; exact B317), gr132⟩⟩
    · skip
      refine wq_skip ?_
      refine then_normal ?_
      refine wq_seq ?_
      have hR := (rd_done (by omega) hI).2 (by assumption)
      refine wq_region ?_
      refine wl_v (blkV (b)) rfl rfl (y_load_blk blkT_arr rfl s310 B131 ⟨rfl, rfl⟩) ?_
      refine wl_store_blk blkT_arr rfl rfl rfl s309 rfl B129 fun w326 B327 k328 => ?_
      have B329 := B128.all k328 (fun i h x => ((ap133) i h x))
      have B330 := B130.all k328 (fun x => ((ap29) p21 rfl x))
      have B331 := B131.all k328 (fun x => ((ap53) p45 rfl x))
      have K332 := K116.trans k328 (Grew.ok (S := T_r) gr7 noB_le)
      refine wl_v (.int .i64 (0)) rfl rfl (y_asg rfl rfl ⟨rfl, rfl⟩) ?_
      refine wl_nil fun F333 hF334 => ?_
      have s335 : F333 2 = .pointer (some ⟨p1, 0, none⟩) := (hF334 2).trans s309
      have s336 : F333 51 = undef := (hF334 51).trans s311
      have s337 : F333 3 = .int .i64 (0) := (hF334 3).trans rfl
      clear hF334
      refine then_normal ?_
      refine wq_ret ?_
      exact end_2 s336 rfl (res_blk blkT_arr rfl s335 B327) (res_tmp (v := .int .i64 (0)) rfl s337) ⟨T113, (by rw [hR]), K332, ⟨(by rw [hR]; exact B329), gr132⟩⟩
end Go.Proofs.YtipimcnjcpckeaaDoor
