/- What MotionSearches reaches of my texts, part 6. -/
import Derived.Test.YtceoidglhakanaaMotionSearchesE
namespace Go.Proofs.Ytceoidglhakanaa
open Go.RowKit

theorem u8_line (n : Int) : IntKind.u8.wrap (max 0 (min n 255)) = ((byteI n : Nat) : Int) := by rw [show max 0 (min n 255) = min (max n 0) 255 by omega]; exact u8_byte n
set_option maxHeartbeats 4000000 in
set_option maxRecDepth 100000 in
theorem ps_line (b : Nat → Int) (i : Nat) (w0 : World) (hi : i < 4) :
    Calls Try.prog 47 #[blkV (b), .int .i64 (((i : Nat) : Int))] w0 fun e w' => e = .returned (.agg #[.int .u8 (((byteI (b (i * 4)) : Nat) : Int)), .int .u8 (((byteI (b (i * 4 + 1)) : Nat) : Int)), .int .u8 (((byteI (b (i * 4 + 2)) : Nat) : Int)), .int .u8 (((byteI (b (i * 4 + 3)) : Nat) : Int))]) ∧ Kept (fun _ => False) w0 w' := by
  refine calls_wq (args := [blkV (b), .int .i64 (((i : Nat) : Int))]) 22 Try.func47 rfl rfl (Nat.le_of_ble_eq_true rfl) ?_
  have K0 := Kept.refl (fun _ => False) w0
  refine wq_seq ?_
  refine wq_region ?_
  refine wl_box_blk rfl rfl rfl rfl fun p1 w2 e5 B3 k4 => ?_
  have g6 := onB_new (Nat.le_of_eq e5.symm)
  have gr7 : Grew w0 noB (onB p1) := Grew.new K0 g6
  clear e5 g6
  have K8 := K0.trans k4 (fun _ _ x => x.elim)
  refine wl_alloc_stc (n := 4) (vs := [.int .u8 (0), .int .u8 (0), .int .u8 (0), .int .u8 (0)]) rfl rfl rfl (by kernel_rfl) fun p9 w10 B12 g13 k11 => ?_
  have gr14 : Grew w0 noB (onB p9) := Grew.new K8 g13
  have ap15 : Apart (onB p9) (onB p1) := Apart.new g13 (onB_live (B3).lt)
  have B16 := B3.all k11 id
  have K17 := K8.trans k11 (fun _ _ x => x.elim)
  refine wl_nil fun F18 hF19 => ?_
  have s20 : F18 1 = .int .i64 (((i : Nat) : Int)) := (hF19 1).trans rfl
  have s21 : F18 22 = undef := (hF19 22).trans rfl
  have s22 : F18 2 = .pointer (some ⟨p1, 0, none⟩) := (hF19 2).trans rfl
  have s23 : F18 4 = .pointer (some ⟨p9, 0, none⟩) := (hF19 4).trans rfl
  clear hF19
  refine then_normal ?_
  refine wq_seq ?_
  refine wq_region ?_
  refine wl_alloc_stc (n := 4) (vs := [.int .u8 (0), .int .u8 (0), .int .u8 (0), .int .u8 (0)]) rfl rfl rfl (by kernel_rfl) fun p24 w25 B27 g28 k26 => ?_
  have gr29 : Grew w0 noB (onB p24) := Grew.new K17 g28
  have ap30 : Apart (onB p24) (onB p1) := Apart.new g28 (onB_live (B16).lt)
  have ap31 : Apart (onB p24) (onB p9) := Apart.new g28 (onB_live (B12).lt)
  have B32 := B16.all k26 id
  have B33 := B12.all k26 id
  have K34 := K17.trans k26 (fun _ _ x => x.elim)
  refine wl_nil fun F35 hF36 => ?_
  have s37 : F35 1 = .int .i64 (((i : Nat) : Int)) := (hF36 1).trans s20
  have s38 : F35 22 = undef := (hF36 22).trans s21
  have s39 : F35 2 = .pointer (some ⟨p1, 0, none⟩) := (hF36 2).trans s22
  have s40 : F35 4 = .pointer (some ⟨p9, 0, none⟩) := (hF36 4).trans s23
  have s41 : F35 5 = .pointer (some ⟨p24, 0, none⟩) := (hF36 5).trans rfl
  clear hF36
  refine then_normal ?_
  refine wq_seq ?_
  refine wq_seq ?_
  refine wq_region ?_
  refine wl_v (.int .i64 (0)) rfl rfl (y_mov rfl rfl ⟨rfl, rfl⟩) ?_
  refine wl_nil fun F42 hF43 => ?_
  have s44 : F42 1 = .int .i64 (((i : Nat) : Int)) := (hF43 1).trans s37
  have s45 : F42 22 = undef := (hF43 22).trans s38
  have s46 : F42 2 = .pointer (some ⟨p1, 0, none⟩) := (hF43 2).trans s39
  have s47 : F42 4 = .pointer (some ⟨p9, 0, none⟩) := (hF43 4).trans s40
  have s48 : F42 5 = .pointer (some ⟨p24, 0, none⟩) := (hF43 5).trans s41
  have s49 : F42 7 = .int .i64 (0) := (hF43 7).trans rfl
  clear hF43
  refine then_normal ?_
  refine wq_block ?_
  refine wq_rounds 5 ?_
  refine wqr_step ?_
  refine wq_seq ?_
  refine wq_region ?_
  refine wl_v (.bool true) rfl rfl (y_lss rfl s49 rfl rfl ⟨rfl, rfl⟩) ?_
  refine wl_nil fun F50 hF51 => ?_
  have s52 : F50 1 = .int .i64 (((i : Nat) : Int)) := (hF51 1).trans s44
  have s53 : F50 22 = undef := (hF51 22).trans s45
  have s54 : F50 2 = .pointer (some ⟨p1, 0, none⟩) := (hF51 2).trans s46
  have s55 : F50 4 = .pointer (some ⟨p9, 0, none⟩) := (hF51 4).trans s47
  have s56 : F50 5 = .pointer (some ⟨p24, 0, none⟩) := (hF51 5).trans s48
  have s57 : F50 7 = .int .i64 (0) := (hF51 7).trans s49
  have s58 : F50 8 = .bool true := (hF51 8).trans rfl
  clear hF51
  refine then_normal ?_
  refine wq_seq ?_
  refine wq_cond (t := true) s58 (fun _ => ?_) (fun e => by cases e)
  refine wq_skip ?_
  refine then_normal ?_
  refine wq_seq ?_
  refine wq_block ?_
  refine wq_seq ?_
  refine wq_region ?_
  refine wl_v (.int .i64 (0)) rfl rfl (y_mov rfl s57 ⟨rfl, rfl⟩) ?_
  refine wl_v (.int .i64 (0)) rfl rfl (y_asg rfl rfl ⟨rfl, rfl⟩) ?_
  refine wl_nil fun F59 hF60 => ?_
  have s61 : F59 1 = .int .i64 (((i : Nat) : Int)) := (hF60 1).trans s52
  have s62 : F59 22 = undef := (hF60 22).trans s53
  have s63 : F59 2 = .pointer (some ⟨p1, 0, none⟩) := (hF60 2).trans s54
  have s64 : F59 4 = .pointer (some ⟨p9, 0, none⟩) := (hF60 4).trans s55
  have s65 : F59 5 = .pointer (some ⟨p24, 0, none⟩) := (hF60 5).trans s56
  have s66 : F59 7 = .int .i64 (0) := (hF60 7).trans s57
  have s67 : F59 6 = .int .i64 (0) := (hF60 6).trans rfl
  clear hF60
  refine then_normal ?_
  refine wq_region ?_
  refine wl_v (.int .i64 (0)) rfl rfl (y_mov rfl s67 ⟨rfl, rfl⟩) ?_
  refine wl_v (.int .i64 (((i : Nat) : Int))) rfl rfl (y_mov rfl s61 ⟨rfl, rfl⟩) ?_
  refine wl_v (.int .i64 ((((i * 4) : Nat) : Int))) rfl rfl (y_mul rfl rfl rfl (i64_n (by omega) (by omega)) ⟨rfl, rfl⟩) ?_
  refine wl_v (.int .i64 (0)) rfl rfl (y_mov rfl s67 ⟨rfl, rfl⟩) ?_
  refine wl_v (.int .i64 ((((i * 4 + 0) : Nat) : Int))) rfl rfl (y_add rfl rfl rfl (i64_n (by omega) (by omega)) ⟨rfl, rfl⟩) ?_
  refine wl_v (.pointer (some ⟨p1, (i * 4 + 0), none⟩)) rfl rfl (y_atR ((i * 4 + 0)) (s := 1) rfl s63 rfl (by omega) Try.underlying31 (by omega) (by kernel_rfl) (by omega) ⟨rfl, rfl⟩) ?_
  refine wl_v (.int .i64 ((b) ((i * 4 + 0)))) rfl rfl (y_ldR rfl rfl Try.underlying3 ((B32).cell (by omega)) ⟨rfl, rfl⟩) ?_
  refine wl_call (R := fun v_ w_ => v_ = .int .i64 (max (0) (min ((b) ((i * 4 + 0))) (255))) ∧ Kept (fun _ => False) w25 w_) rfl rfl (y_cs rfl rfl rfl (fun _ _ => by kernel_rfl) (ev_func _) (vsC rfl (vsC rfl (vsC rfl vsN))) (ps_clamped ((b) ((i * 4 + 0))) (0) (255)  _   ) (fun e_ w_ h_ => ⟨_, h_.1, rfl, h_.2⟩)) ?_
  rintro _ w68 ⟨rfl, k69⟩
  have B70 := B32.all k69 id
  have B71 := B33.all k69 id
  have B72 := B27.all k69 id
  have K73 := K34.trans k69 (fun _ _ x => x.elim)
  refine wl_v (.int .u8 (((byteI (b (i * 4 + 0)) : Nat) : Int))) rfl rfl (y_convR rfl rfl Try.underlying3 Try.underlying5 (by first | exact u8_line _ | exact u8_line (b (i * 4 + 0))) ⟨rfl, rfl⟩) ?_
  refine wl_v (.pointer (some ⟨p24, 0, none⟩)) rfl rfl (y_atR (0) (s := 1) rfl s65 rfl (by omega) Try.underlying74 (by omega) (by kernel_rfl) (by omega) ⟨rfl, rfl⟩) ?_
  refine wl_set_stc rfl rfl rfl rfl rfl B72 rfl rfl (by kernel_rfl) fun w74 B75 k76 => ?_
  replace B75 : Stc w74 p24 74 [.int .u8 (((byteI (b (i * 4 + 0)) : Nat) : Int)), .int .u8 (0), .int .u8 (0), .int .u8 (0)] := B75
  have B77 := B70.all k76 (fun x => (((ap30).symm) p1 rfl x))
  have B78 := B71.all k76 (fun x => (((ap31).symm) p9 rfl x))
  have K79 := K73.trans k76 (Grew.ok (S := fun _ => False) gr29 noB_le)
  refine wl_nil fun F80 hF81 => ?_
  have s82 : F80 1 = .int .i64 (((i : Nat) : Int)) := (hF81 1).trans s61
  have s83 : F80 22 = undef := (hF81 22).trans s62
  have s84 : F80 2 = .pointer (some ⟨p1, 0, none⟩) := (hF81 2).trans s63
  have s85 : F80 4 = .pointer (some ⟨p9, 0, none⟩) := (hF81 4).trans s64
  have s86 : F80 5 = .pointer (some ⟨p24, 0, none⟩) := (hF81 5).trans s65
  have s87 : F80 7 = .int .i64 (0) := (hF81 7).trans s66
  clear hF81
  refine in_normal ?_
  refine then_normal ?_
  refine wq_region ?_
  refine wl_v (.int .i64 (((1 : Nat) : Int))) rfl rfl (y_add rfl s87 rfl (i64_n (by omega) (by omega)) ⟨rfl, rfl⟩) ?_
  refine wl_v (.int .i64 (((1 : Nat) : Int))) rfl rfl (y_mov rfl rfl ⟨rfl, rfl⟩) ?_
  refine wl_nil fun F88 hF89 => ?_
  have s90 : F88 1 = .int .i64 (((i : Nat) : Int)) := (hF89 1).trans s82
  have s91 : F88 22 = undef := (hF89 22).trans s83
  have s92 : F88 2 = .pointer (some ⟨p1, 0, none⟩) := (hF89 2).trans s84
  have s93 : F88 4 = .pointer (some ⟨p9, 0, none⟩) := (hF89 4).trans s85
  have s94 : F88 5 = .pointer (some ⟨p24, 0, none⟩) := (hF89 5).trans s86
  have s95 : F88 7 = .int .i64 (((1 : Nat) : Int)) := (hF89 7).trans rfl
  clear hF89
  refine then_normal ?_
  refine wqr_step ?_
  refine wq_seq ?_
  refine wq_region ?_
  refine wl_v (.bool true) rfl rfl (y_lss rfl s95 rfl rfl ⟨rfl, rfl⟩) ?_
  refine wl_nil fun F96 hF97 => ?_
  have s98 : F96 1 = .int .i64 (((i : Nat) : Int)) := (hF97 1).trans s90
  have s99 : F96 22 = undef := (hF97 22).trans s91
  have s100 : F96 2 = .pointer (some ⟨p1, 0, none⟩) := (hF97 2).trans s92
  have s101 : F96 4 = .pointer (some ⟨p9, 0, none⟩) := (hF97 4).trans s93
  have s102 : F96 5 = .pointer (some ⟨p24, 0, none⟩) := (hF97 5).trans s94
  have s103 : F96 7 = .int .i64 (((1 : Nat) : Int)) := (hF97 7).trans s95
  have s104 : F96 8 = .bool true := (hF97 8).trans rfl
  clear hF97
  refine then_normal ?_
  refine wq_seq ?_
  refine wq_cond (t := true) s104 (fun _ => ?_) (fun e => by cases e)
  refine wq_skip ?_
  refine then_normal ?_
  refine wq_seq ?_
  refine wq_block ?_
  refine wq_seq ?_
  refine wq_region ?_
  refine wl_v (.int .i64 (((1 : Nat) : Int))) rfl rfl (y_mov rfl s103 ⟨rfl, rfl⟩) ?_
  refine wl_v (.int .i64 (((1 : Nat) : Int))) rfl rfl (y_asg rfl rfl ⟨rfl, rfl⟩) ?_
  refine wl_nil fun F105 hF106 => ?_
  have s107 : F105 1 = .int .i64 (((i : Nat) : Int)) := (hF106 1).trans s98
  have s108 : F105 22 = undef := (hF106 22).trans s99
  have s109 : F105 2 = .pointer (some ⟨p1, 0, none⟩) := (hF106 2).trans s100
  have s110 : F105 4 = .pointer (some ⟨p9, 0, none⟩) := (hF106 4).trans s101
  have s111 : F105 5 = .pointer (some ⟨p24, 0, none⟩) := (hF106 5).trans s102
  have s112 : F105 7 = .int .i64 (((1 : Nat) : Int)) := (hF106 7).trans s103
  have s113 : F105 6 = .int .i64 (((1 : Nat) : Int)) := (hF106 6).trans rfl
  clear hF106
  refine then_normal ?_
  refine wq_region ?_
  refine wl_v (.int .i64 (((1 : Nat) : Int))) rfl rfl (y_mov rfl s113 ⟨rfl, rfl⟩) ?_
  refine wl_v (.int .i64 (((i : Nat) : Int))) rfl rfl (y_mov rfl s107 ⟨rfl, rfl⟩) ?_
  refine wl_v (.int .i64 ((((i * 4) : Nat) : Int))) rfl rfl (y_mul rfl rfl rfl (i64_n (by omega) (by omega)) ⟨rfl, rfl⟩) ?_
  refine wl_v (.int .i64 (((1 : Nat) : Int))) rfl rfl (y_mov rfl s113 ⟨rfl, rfl⟩) ?_
  refine wl_v (.int .i64 ((((i * 4 + 1) : Nat) : Int))) rfl rfl (y_add rfl rfl rfl (i64_n (by omega) (by omega)) ⟨rfl, rfl⟩) ?_
  refine wl_v (.pointer (some ⟨p1, (i * 4 + 1), none⟩)) rfl rfl (y_atR ((i * 4 + 1)) (s := 1) rfl s109 rfl (by omega) Try.underlying31 (by omega) (by kernel_rfl) (by omega) ⟨rfl, rfl⟩) ?_
  refine wl_v (.int .i64 ((b) ((i * 4 + 1)))) rfl rfl (y_ldR rfl rfl Try.underlying3 ((B77).cell (by omega)) ⟨rfl, rfl⟩) ?_
  refine wl_call (R := fun v_ w_ => v_ = .int .i64 (max (0) (min ((b) ((i * 4 + 1))) (255))) ∧ Kept (fun _ => False) w74 w_) rfl rfl (y_cs rfl rfl rfl (fun _ _ => by kernel_rfl) (ev_func _) (vsC rfl (vsC rfl (vsC rfl vsN))) (ps_clamped ((b) ((i * 4 + 1))) (0) (255)  _   ) (fun e_ w_ h_ => ⟨_, h_.1, rfl, h_.2⟩)) ?_
  rintro _ w114 ⟨rfl, k115⟩
  have B116 := B77.all k115 id
  have B117 := B78.all k115 id
  have B118 := B75.all k115 id
  have K119 := K79.trans k115 (fun _ _ x => x.elim)
  refine wl_v (.int .u8 (((byteI (b (i * 4 + 1)) : Nat) : Int))) rfl rfl (y_convR rfl rfl Try.underlying3 Try.underlying5 (by first | exact u8_line _ | exact u8_line (b (i * 4 + 0))) ⟨rfl, rfl⟩) ?_
  refine wl_v (.pointer (some ⟨p24, 1, none⟩)) rfl rfl (y_atR (1) (s := 1) rfl s111 rfl (by omega) Try.underlying74 (by omega) (by kernel_rfl) (by omega) ⟨rfl, rfl⟩) ?_
  refine wl_set_stc rfl rfl rfl rfl rfl B118 rfl rfl (by kernel_rfl) fun w120 B121 k122 => ?_
  replace B121 : Stc w120 p24 74 [.int .u8 (((byteI (b (i * 4 + 0)) : Nat) : Int)), .int .u8 (((byteI (b (i * 4 + 1)) : Nat) : Int)), .int .u8 (0), .int .u8 (0)] := B121
  have B123 := B116.all k122 (fun x => (((ap30).symm) p1 rfl x))
  have B124 := B117.all k122 (fun x => (((ap31).symm) p9 rfl x))
  have K125 := K119.trans k122 (Grew.ok (S := fun _ => False) gr29 noB_le)
  refine wl_nil fun F126 hF127 => ?_
  have s128 : F126 1 = .int .i64 (((i : Nat) : Int)) := (hF127 1).trans s107
  have s129 : F126 22 = undef := (hF127 22).trans s108
  have s130 : F126 2 = .pointer (some ⟨p1, 0, none⟩) := (hF127 2).trans s109
  have s131 : F126 4 = .pointer (some ⟨p9, 0, none⟩) := (hF127 4).trans s110
  have s132 : F126 5 = .pointer (some ⟨p24, 0, none⟩) := (hF127 5).trans s111
  have s133 : F126 7 = .int .i64 (((1 : Nat) : Int)) := (hF127 7).trans s112
  clear hF127
  refine in_normal ?_
  refine then_normal ?_
  refine wq_region ?_
  refine wl_v (.int .i64 (((2 : Nat) : Int))) rfl rfl (y_add rfl s133 rfl (i64_n (by omega) (by omega)) ⟨rfl, rfl⟩) ?_
  refine wl_v (.int .i64 (((2 : Nat) : Int))) rfl rfl (y_mov rfl rfl ⟨rfl, rfl⟩) ?_
  refine wl_nil fun F134 hF135 => ?_
  have s136 : F134 1 = .int .i64 (((i : Nat) : Int)) := (hF135 1).trans s128
  have s137 : F134 22 = undef := (hF135 22).trans s129
  have s138 : F134 2 = .pointer (some ⟨p1, 0, none⟩) := (hF135 2).trans s130
  have s139 : F134 4 = .pointer (some ⟨p9, 0, none⟩) := (hF135 4).trans s131
  have s140 : F134 5 = .pointer (some ⟨p24, 0, none⟩) := (hF135 5).trans s132
  have s141 : F134 7 = .int .i64 (((2 : Nat) : Int)) := (hF135 7).trans rfl
  clear hF135
  refine then_normal ?_
  refine wqr_step ?_
  refine wq_seq ?_
  refine wq_region ?_
  refine wl_v (.bool true) rfl rfl (y_lss rfl s141 rfl rfl ⟨rfl, rfl⟩) ?_
  refine wl_nil fun F142 hF143 => ?_
  have s144 : F142 1 = .int .i64 (((i : Nat) : Int)) := (hF143 1).trans s136
  have s145 : F142 22 = undef := (hF143 22).trans s137
  have s146 : F142 2 = .pointer (some ⟨p1, 0, none⟩) := (hF143 2).trans s138
  have s147 : F142 4 = .pointer (some ⟨p9, 0, none⟩) := (hF143 4).trans s139
  have s148 : F142 5 = .pointer (some ⟨p24, 0, none⟩) := (hF143 5).trans s140
  have s149 : F142 7 = .int .i64 (((2 : Nat) : Int)) := (hF143 7).trans s141
  have s150 : F142 8 = .bool true := (hF143 8).trans rfl
  clear hF143
  refine then_normal ?_
  refine wq_seq ?_
  refine wq_cond (t := true) s150 (fun _ => ?_) (fun e => by cases e)
  refine wq_skip ?_
  refine then_normal ?_
  refine wq_seq ?_
  refine wq_block ?_
  refine wq_seq ?_
  refine wq_region ?_
  refine wl_v (.int .i64 (((2 : Nat) : Int))) rfl rfl (y_mov rfl s149 ⟨rfl, rfl⟩) ?_
  refine wl_v (.int .i64 (((2 : Nat) : Int))) rfl rfl (y_asg rfl rfl ⟨rfl, rfl⟩) ?_
  refine wl_nil fun F151 hF152 => ?_
  have s153 : F151 1 = .int .i64 (((i : Nat) : Int)) := (hF152 1).trans s144
  have s154 : F151 22 = undef := (hF152 22).trans s145
  have s155 : F151 2 = .pointer (some ⟨p1, 0, none⟩) := (hF152 2).trans s146
  have s156 : F151 4 = .pointer (some ⟨p9, 0, none⟩) := (hF152 4).trans s147
  have s157 : F151 5 = .pointer (some ⟨p24, 0, none⟩) := (hF152 5).trans s148
  have s158 : F151 7 = .int .i64 (((2 : Nat) : Int)) := (hF152 7).trans s149
  have s159 : F151 6 = .int .i64 (((2 : Nat) : Int)) := (hF152 6).trans rfl
  clear hF152
  refine then_normal ?_
  refine wq_region ?_
  refine wl_v (.int .i64 (((2 : Nat) : Int))) rfl rfl (y_mov rfl s159 ⟨rfl, rfl⟩) ?_
  refine wl_v (.int .i64 (((i : Nat) : Int))) rfl rfl (y_mov rfl s153 ⟨rfl, rfl⟩) ?_
  refine wl_v (.int .i64 ((((i * 4) : Nat) : Int))) rfl rfl (y_mul rfl rfl rfl (i64_n (by omega) (by omega)) ⟨rfl, rfl⟩) ?_
  refine wl_v (.int .i64 (((2 : Nat) : Int))) rfl rfl (y_mov rfl s159 ⟨rfl, rfl⟩) ?_
  refine wl_v (.int .i64 ((((i * 4 + 2) : Nat) : Int))) rfl rfl (y_add rfl rfl rfl (i64_n (by omega) (by omega)) ⟨rfl, rfl⟩) ?_
  refine wl_v (.pointer (some ⟨p1, (i * 4 + 2), none⟩)) rfl rfl (y_atR ((i * 4 + 2)) (s := 1) rfl s155 rfl (by omega) Try.underlying31 (by omega) (by kernel_rfl) (by omega) ⟨rfl, rfl⟩) ?_
  refine wl_v (.int .i64 ((b) ((i * 4 + 2)))) rfl rfl (y_ldR rfl rfl Try.underlying3 ((B123).cell (by omega)) ⟨rfl, rfl⟩) ?_
  refine wl_call (R := fun v_ w_ => v_ = .int .i64 (max (0) (min ((b) ((i * 4 + 2))) (255))) ∧ Kept (fun _ => False) w120 w_) rfl rfl (y_cs rfl rfl rfl (fun _ _ => by kernel_rfl) (ev_func _) (vsC rfl (vsC rfl (vsC rfl vsN))) (ps_clamped ((b) ((i * 4 + 2))) (0) (255)  _   ) (fun e_ w_ h_ => ⟨_, h_.1, rfl, h_.2⟩)) ?_
  rintro _ w160 ⟨rfl, k161⟩
  have B162 := B123.all k161 id
  have B163 := B124.all k161 id
  have B164 := B121.all k161 id
  have K165 := K125.trans k161 (fun _ _ x => x.elim)
  refine wl_v (.int .u8 (((byteI (b (i * 4 + 2)) : Nat) : Int))) rfl rfl (y_convR rfl rfl Try.underlying3 Try.underlying5 (by first | exact u8_line _ | exact u8_line (b (i * 4 + 0))) ⟨rfl, rfl⟩) ?_
  refine wl_v (.pointer (some ⟨p24, 2, none⟩)) rfl rfl (y_atR (2) (s := 1) rfl s157 rfl (by omega) Try.underlying74 (by omega) (by kernel_rfl) (by omega) ⟨rfl, rfl⟩) ?_
  refine wl_set_stc rfl rfl rfl rfl rfl B164 rfl rfl (by kernel_rfl) fun w166 B167 k168 => ?_
  replace B167 : Stc w166 p24 74 [.int .u8 (((byteI (b (i * 4 + 0)) : Nat) : Int)), .int .u8 (((byteI (b (i * 4 + 1)) : Nat) : Int)), .int .u8 (((byteI (b (i * 4 + 2)) : Nat) : Int)), .int .u8 (0)] := B167
  have B169 := B162.all k168 (fun x => (((ap30).symm) p1 rfl x))
  have B170 := B163.all k168 (fun x => (((ap31).symm) p9 rfl x))
  have K171 := K165.trans k168 (Grew.ok (S := fun _ => False) gr29 noB_le)
  refine wl_nil fun F172 hF173 => ?_
  have s174 : F172 1 = .int .i64 (((i : Nat) : Int)) := (hF173 1).trans s153
  have s175 : F172 22 = undef := (hF173 22).trans s154
  have s176 : F172 2 = .pointer (some ⟨p1, 0, none⟩) := (hF173 2).trans s155
  have s177 : F172 4 = .pointer (some ⟨p9, 0, none⟩) := (hF173 4).trans s156
  have s178 : F172 5 = .pointer (some ⟨p24, 0, none⟩) := (hF173 5).trans s157
  have s179 : F172 7 = .int .i64 (((2 : Nat) : Int)) := (hF173 7).trans s158
  clear hF173
  refine in_normal ?_
  refine then_normal ?_
  refine wq_region ?_
  refine wl_v (.int .i64 (((3 : Nat) : Int))) rfl rfl (y_add rfl s179 rfl (i64_n (by omega) (by omega)) ⟨rfl, rfl⟩) ?_
  refine wl_v (.int .i64 (((3 : Nat) : Int))) rfl rfl (y_mov rfl rfl ⟨rfl, rfl⟩) ?_
  refine wl_nil fun F180 hF181 => ?_
  have s182 : F180 1 = .int .i64 (((i : Nat) : Int)) := (hF181 1).trans s174
  have s183 : F180 22 = undef := (hF181 22).trans s175
  have s184 : F180 2 = .pointer (some ⟨p1, 0, none⟩) := (hF181 2).trans s176
  have s185 : F180 4 = .pointer (some ⟨p9, 0, none⟩) := (hF181 4).trans s177
  have s186 : F180 5 = .pointer (some ⟨p24, 0, none⟩) := (hF181 5).trans s178
  have s187 : F180 7 = .int .i64 (((3 : Nat) : Int)) := (hF181 7).trans rfl
  clear hF181
  refine then_normal ?_
  refine wqr_step ?_
  refine wq_seq ?_
  refine wq_region ?_
  refine wl_v (.bool true) rfl rfl (y_lss rfl s187 rfl rfl ⟨rfl, rfl⟩) ?_
  refine wl_nil fun F188 hF189 => ?_
  have s190 : F188 1 = .int .i64 (((i : Nat) : Int)) := (hF189 1).trans s182
  have s191 : F188 22 = undef := (hF189 22).trans s183
  have s192 : F188 2 = .pointer (some ⟨p1, 0, none⟩) := (hF189 2).trans s184
  have s193 : F188 4 = .pointer (some ⟨p9, 0, none⟩) := (hF189 4).trans s185
  have s194 : F188 5 = .pointer (some ⟨p24, 0, none⟩) := (hF189 5).trans s186
  have s195 : F188 7 = .int .i64 (((3 : Nat) : Int)) := (hF189 7).trans s187
  have s196 : F188 8 = .bool true := (hF189 8).trans rfl
  clear hF189
  refine then_normal ?_
  refine wq_seq ?_
  refine wq_cond (t := true) s196 (fun _ => ?_) (fun e => by cases e)
  refine wq_skip ?_
  refine then_normal ?_
  refine wq_seq ?_
  refine wq_block ?_
  refine wq_seq ?_
  refine wq_region ?_
  refine wl_v (.int .i64 (((3 : Nat) : Int))) rfl rfl (y_mov rfl s195 ⟨rfl, rfl⟩) ?_
  refine wl_v (.int .i64 (((3 : Nat) : Int))) rfl rfl (y_asg rfl rfl ⟨rfl, rfl⟩) ?_
  refine wl_nil fun F197 hF198 => ?_
  have s199 : F197 1 = .int .i64 (((i : Nat) : Int)) := (hF198 1).trans s190
  have s200 : F197 22 = undef := (hF198 22).trans s191
  have s201 : F197 2 = .pointer (some ⟨p1, 0, none⟩) := (hF198 2).trans s192
  have s202 : F197 4 = .pointer (some ⟨p9, 0, none⟩) := (hF198 4).trans s193
  have s203 : F197 5 = .pointer (some ⟨p24, 0, none⟩) := (hF198 5).trans s194
  have s204 : F197 7 = .int .i64 (((3 : Nat) : Int)) := (hF198 7).trans s195
  have s205 : F197 6 = .int .i64 (((3 : Nat) : Int)) := (hF198 6).trans rfl
  clear hF198
  refine then_normal ?_
  refine wq_region ?_
  refine wl_v (.int .i64 (((3 : Nat) : Int))) rfl rfl (y_mov rfl s205 ⟨rfl, rfl⟩) ?_
  refine wl_v (.int .i64 (((i : Nat) : Int))) rfl rfl (y_mov rfl s199 ⟨rfl, rfl⟩) ?_
  refine wl_v (.int .i64 ((((i * 4) : Nat) : Int))) rfl rfl (y_mul rfl rfl rfl (i64_n (by omega) (by omega)) ⟨rfl, rfl⟩) ?_
  refine wl_v (.int .i64 (((3 : Nat) : Int))) rfl rfl (y_mov rfl s205 ⟨rfl, rfl⟩) ?_
  refine wl_v (.int .i64 ((((i * 4 + 3) : Nat) : Int))) rfl rfl (y_add rfl rfl rfl (i64_n (by omega) (by omega)) ⟨rfl, rfl⟩) ?_
  refine wl_v (.pointer (some ⟨p1, (i * 4 + 3), none⟩)) rfl rfl (y_atR ((i * 4 + 3)) (s := 1) rfl s201 rfl (by omega) Try.underlying31 (by omega) (by kernel_rfl) (by omega) ⟨rfl, rfl⟩) ?_
  refine wl_v (.int .i64 ((b) ((i * 4 + 3)))) rfl rfl (y_ldR rfl rfl Try.underlying3 ((B169).cell (by omega)) ⟨rfl, rfl⟩) ?_
  refine wl_call (R := fun v_ w_ => v_ = .int .i64 (max (0) (min ((b) ((i * 4 + 3))) (255))) ∧ Kept (fun _ => False) w166 w_) rfl rfl (y_cs rfl rfl rfl (fun _ _ => by kernel_rfl) (ev_func _) (vsC rfl (vsC rfl (vsC rfl vsN))) (ps_clamped ((b) ((i * 4 + 3))) (0) (255)  _   ) (fun e_ w_ h_ => ⟨_, h_.1, rfl, h_.2⟩)) ?_
  rintro _ w206 ⟨rfl, k207⟩
  have B208 := B169.all k207 id
  have B209 := B170.all k207 id
  have B210 := B167.all k207 id
  have K211 := K171.trans k207 (fun _ _ x => x.elim)
  refine wl_v (.int .u8 (((byteI (b (i * 4 + 3)) : Nat) : Int))) rfl rfl (y_convR rfl rfl Try.underlying3 Try.underlying5 (by first | exact u8_line _ | exact u8_line (b (i * 4 + 0))) ⟨rfl, rfl⟩) ?_
  refine wl_v (.pointer (some ⟨p24, 3, none⟩)) rfl rfl (y_atR (3) (s := 1) rfl s203 rfl (by omega) Try.underlying74 (by omega) (by kernel_rfl) (by omega) ⟨rfl, rfl⟩) ?_
  refine wl_set_stc rfl rfl rfl rfl rfl B210 rfl rfl (by kernel_rfl) fun w212 B213 k214 => ?_
  replace B213 : Stc w212 p24 74 [.int .u8 (((byteI (b (i * 4 + 0)) : Nat) : Int)), .int .u8 (((byteI (b (i * 4 + 1)) : Nat) : Int)), .int .u8 (((byteI (b (i * 4 + 2)) : Nat) : Int)), .int .u8 (((byteI (b (i * 4 + 3)) : Nat) : Int))] := B213
  have B215 := B208.all k214 (fun x => (((ap30).symm) p1 rfl x))
  have B216 := B209.all k214 (fun x => (((ap31).symm) p9 rfl x))
  have K217 := K211.trans k214 (Grew.ok (S := fun _ => False) gr29 noB_le)
  refine wl_nil fun F218 hF219 => ?_
  have s220 : F218 1 = .int .i64 (((i : Nat) : Int)) := (hF219 1).trans s199
  have s221 : F218 22 = undef := (hF219 22).trans s200
  have s222 : F218 2 = .pointer (some ⟨p1, 0, none⟩) := (hF219 2).trans s201
  have s223 : F218 4 = .pointer (some ⟨p9, 0, none⟩) := (hF219 4).trans s202
  have s224 : F218 5 = .pointer (some ⟨p24, 0, none⟩) := (hF219 5).trans s203
  have s225 : F218 7 = .int .i64 (((3 : Nat) : Int)) := (hF219 7).trans s204
  clear hF219
  refine in_normal ?_
  refine then_normal ?_
  refine wq_region ?_
  refine wl_v (.int .i64 (((4 : Nat) : Int))) rfl rfl (y_add rfl s225 rfl (i64_n (by omega) (by omega)) ⟨rfl, rfl⟩) ?_
  refine wl_v (.int .i64 (((4 : Nat) : Int))) rfl rfl (y_mov rfl rfl ⟨rfl, rfl⟩) ?_
  refine wl_nil fun F226 hF227 => ?_
  have s228 : F226 1 = .int .i64 (((i : Nat) : Int)) := (hF227 1).trans s220
  have s229 : F226 22 = undef := (hF227 22).trans s221
  have s230 : F226 2 = .pointer (some ⟨p1, 0, none⟩) := (hF227 2).trans s222
  have s231 : F226 4 = .pointer (some ⟨p9, 0, none⟩) := (hF227 4).trans s223
  have s232 : F226 5 = .pointer (some ⟨p24, 0, none⟩) := (hF227 5).trans s224
  have s233 : F226 7 = .int .i64 (((4 : Nat) : Int)) := (hF227 7).trans rfl
  clear hF227
  refine then_normal ?_
  refine wqr_step ?_
  refine wq_seq ?_
  refine wq_region ?_
  refine wl_v (.bool false) rfl rfl (y_lss rfl s233 rfl rfl ⟨rfl, rfl⟩) ?_
  refine wl_nil fun F234 hF235 => ?_
  have s236 : F234 1 = .int .i64 (((i : Nat) : Int)) := (hF235 1).trans s228
  have s237 : F234 22 = undef := (hF235 22).trans s229
  have s238 : F234 2 = .pointer (some ⟨p1, 0, none⟩) := (hF235 2).trans s230
  have s239 : F234 4 = .pointer (some ⟨p9, 0, none⟩) := (hF235 4).trans s231
  have s240 : F234 5 = .pointer (some ⟨p24, 0, none⟩) := (hF235 5).trans s232
  have s241 : F234 7 = .int .i64 (((4 : Nat) : Int)) := (hF235 7).trans s233
  have s242 : F234 8 = .bool false := (hF235 8).trans rfl
  clear hF235
  refine then_normal ?_
  refine wq_seq ?_
  refine wq_cond (t := false) s242 (fun e => by cases e) (fun _ => ?_)
  refine wq_exit ?_
  refine then_exit ?_
  refine then_exit ?_
  refine in_here ?_
  refine then_normal ?_
  refine wq_seq ?_
  refine wq_region ?_
  refine wl_v (.agg #[.int .u8 (((byteI (b (i * 4 + 0)) : Nat) : Int)), .int .u8 (((byteI (b (i * 4 + 1)) : Nat) : Int)), .int .u8 (((byteI (b (i * 4 + 2)) : Nat) : Int)), .int .u8 (((byteI (b (i * 4 + 3)) : Nat) : Int))]) rfl rfl (y_load_stc stcT_by4 rfl s240 B213 ⟨rfl, rfl⟩) ?_
  refine wl_store_stc (us := [.int .u8 (((byteI (b (i * 4 + 0)) : Nat) : Int)), .int .u8 (((byteI (b (i * 4 + 1)) : Nat) : Int)), .int .u8 (((byteI (b (i * 4 + 2)) : Nat) : Int)), .int .u8 (((byteI (b (i * 4 + 3)) : Nat) : Int))]) stcT_by4 rfl rfl rfl s239 rfl B216 rfl (oneI rfl (oneI rfl (oneI rfl (oneI rfl oneN)))) fun w243 B244 k245 => ?_
  have B246 := B215.all k245 (fun x => (((ap15).symm) p1 rfl x))
  have B247 := B213.all k245 (fun x => ((ap31) p24 rfl x))
  have K248 := K217.trans k245 (Grew.ok (S := fun _ => False) gr14 noB_le)
  refine wl_nil fun F249 hF250 => ?_
  have s251 : F249 22 = undef := (hF250 22).trans s237
  have s252 : F249 4 = .pointer (some ⟨p9, 0, none⟩) := (hF250 4).trans s239
  clear hF250
  refine then_normal ?_
  refine wq_ret ?_
  exact end_stc (vs := [.int .u8 (((byteI (b (i * 4 + 0)) : Nat) : Int)), .int .u8 (((byteI (b (i * 4 + 1)) : Nat) : Int)), .int .u8 (((byteI (b (i * 4 + 2)) : Nat) : Int)), .int .u8 (((byteI (b (i * 4 + 3)) : Nat) : Int))]) stcT_by4 s251 rfl rfl s252 B244 ⟨rfl, K248⟩

def layF (l : List Nat) (i j : Nat) (x : Int) (c : List Nat) : List Nat :=
  l.take (i + (max 0 (min x ((j - i : Nat) : Int))).toNat) ++ ((c.drop (max 0 (min (-x) 4)).toNat).take ((j - i) - (max 0 (min x ((j - i : Nat) : Int))).toNat) ++ l.drop (i + (max 0 (min x ((j - i : Nat) : Int))).toNat + min ((j - i) - (max 0 (min x ((j - i : Nat) : Int))).toNat) (c.drop (max 0 (min (-x) 4)).toNat).length))
set_option maxHeartbeats 4000000 in
set_option maxRecDepth 100000 in
theorem ps_lay (v : Value) (l : List Nat) (i j : Nat) (x : Int) (a b c d : Nat) (T_s : Nat → Prop) (w0 : World) (hij : i ≤ j) (hj : j ≤ l.length) (hx : -64 ≤ x ∧ x ≤ 128) (ha : a < 256) (hb : b < 256) (hc : c < 256) (hd : d < 256) (h_s : Owb w0 T_s v (l)) :
    Calls Try.prog 46 #[subV (v) (i) (j) (j), .int .i64 (x), .agg #[.int .u8 (((a : Nat) : Int)), .int .u8 (((b : Nat) : Int)), .int .u8 (((c : Nat) : Int)), .int .u8 (((d : Nat) : Int))]] w0 fun e w' => ∃ (T_s' : Nat → Prop), e = .returned (.tuple #[]) ∧ Kept (T_s) w0 w' ∧ (Owb w' T_s' v (layF l i j x [a, b, c, d]) ∧ Grew w0 T_s T_s') := by
  refine calls_wq (args := [subV (v) (i) (j) (j), .int .i64 (x), .agg #[.int .u8 (((a : Nat) : Int)), .int .u8 (((b : Nat) : Int)), .int .u8 (((c : Nat) : Int)), .int .u8 (((d : Nat) : Int))]]) 17 Try.func46 rfl rfl (Nat.le_of_ble_eq_true rfl) ?_
  have K0 := Kept.refl (T_s) w0
  have g_s := Grew.refl w0 T_s
  refine wq_seq ?_
  refine wq_region ?_
  refine wl_box_stc (vs := [.int .u8 (((a : Nat) : Int)), .int .u8 (((b : Nat) : Int)), .int .u8 (((c : Nat) : Int)), .int .u8 (((d : Nat) : Int))]) rfl rfl rfl rfl fun p1 w2 B4 g5 k3 => ?_
  have gr6 : Grew w0 noB (onB p1) := Grew.new K0 g5
  have ap7 : Apart (onB p1) (T_s) := Apart.new g5 (h_s).live
  have B8 := h_s.all k3 Apart.none
  have K9 := K0.trans k3 (fun _ _ x => x.elim)
  refine wl_nil fun F10 hF11 => ?_
  have s12 : F10 0 = subV (v) (i) (j) (j) := (hF11 0).trans rfl
  have s13 : F10 1 = .int .i64 (x) := (hF11 1).trans rfl
  have s14 : F10 17 = undef := (hF11 17).trans rfl
  have s15 : F10 5 = .pointer (some ⟨p1, 0, none⟩) := (hF11 5).trans rfl
  clear hF11
  refine then_normal ?_
  refine wq_tail 10 [some 6, some 7, some 8, some 9, some 10, some 11, some 12, some 13, some 14, some 15] [Pd.eq (subV (v) (i) (j) (j)), Pd.eq (.int .i64 (x)), Pd.eq (subV (v) (i) (j) (j)), Pd.eq (.int .i64 ((((j) - (i) : Nat) : Int))), Pd.eq (.int .i64 (max (0) (min (x) ((((j) - (i) : Nat) : Int))))), Pd.eq (subV (subV (v) (i) (j) (j)) ((max (0) (min (x) ((((j) - (i) : Nat) : Int)))).toNat) ((j) - (i)) ((j) - (i))), Pd.eq (.int .i64 (x)), Pd.eq (.int .i64 (-(x))), Pd.eq (.int .i64 (max (0) (min (-(x)) (4)))), Pd.eq (arrV (p1) ((max (0) (min (-(x)) (4))).toNat))] (by kernel_rfl) (by kernel_rfl) (by kernel_rfl) ?_ ?_
  · refine stepsF_cons ?_ ?_
    · refine StepF.one rfl fun F_ w_ hR hout hD => ?_
      exact (y_mov rfl ((hout 0 rfl (by decide)).trans s12) ⟨rfl, Kept.refl _ _⟩)
    refine stepsF_cons ?_ ?_
    · refine StepF.one rfl fun F_ w_ hR hout hD => ?_
      exact (y_mov rfl ((hout 1 rfl (by decide)).trans s13) ⟨rfl, Kept.refl _ _⟩)
    refine stepsF_cons ?_ ?_
    · refine StepF.one rfl fun F_ w_ hR hout hD => ?_
      exact (y_mov rfl ((hout 0 rfl (by decide)).trans s12) ⟨rfl, Kept.refl _ _⟩)
    refine stepsF_cons ?_ ?_
    · refine StepF.one rfl fun F_ w_ hR hout hD => ?_
      have g8 : F_ 8 = subV (v) (i) (j) (j) := hD.get 0 rfl rfl rfl
      exact (y_lenS rfl rfl g8 ((B8.all hR Apart.none)).byt ⟨rfl, Kept.refl _ _⟩)
    refine stepsF_cons ?_ ?_
    · refine StepF.one rfl fun F_ w_ hR hout hD => ?_
      have g7 : F_ 7 = .int .i64 (x) := hD.get 0 rfl rfl rfl
      have g9 : F_ 9 = .int .i64 ((((j) - (i) : Nat) : Int)) := hD.get 1 rfl rfl rfl
      exact (y_cs rfl rfl rfl (fun _ _ => by kernel_rfl) (ev_func _) (vsC g7 (vsC rfl (vsC g9 vsN))) (ps_clamped (x) (0) ((((j) - (i) : Nat) : Int))  _   ) (fun e_ w_ h_ => ⟨_, h_.1, rfl, h_.2⟩))
    refine stepsF_cons ?_ ?_
    · refine StepF.one rfl fun F_ w_ hR hout hD => ?_
      have g6 : F_ 6 = subV (v) (i) (j) (j) := hD.get 0 rfl rfl rfl
      have g10 : F_ 10 = .int .i64 (max (0) (min (x) ((((j) - (i) : Nat) : Int)))) := hD.get 1 rfl rfl rfl
      exact (y_cut2L ((max (0) (min (x) ((((j) - (i) : Nat) : Int)))).toNat) rfl g6 g10 (by omega) ((B8.all hR Apart.none)).byt (by omega) ⟨rfl, Kept.refl _ _⟩)
    refine stepsF_cons ?_ ?_
    · refine StepF.one rfl fun F_ w_ hR hout hD => ?_
      exact (y_mov rfl ((hout 1 rfl (by decide)).trans s13) ⟨rfl, Kept.refl _ _⟩)
    refine stepsF_cons ?_ ?_
    · refine StepF.one rfl fun F_ w_ hR hout hD => ?_
      have g12 : F_ 12 = .int .i64 (x) := hD.get 0 rfl rfl rfl
      exact (y_neg rfl g12 (i64_i rfl (by omega)) ⟨rfl, Kept.refl _ _⟩)
    refine stepsF_cons ?_ ?_
    · refine StepF.one rfl fun F_ w_ hR hout hD => ?_
      have g13 : F_ 13 = .int .i64 (-(x)) := hD.get 0 rfl rfl rfl
      exact (y_cs rfl rfl rfl (fun _ _ => by kernel_rfl) (ev_func _) (vsC g13 (vsC rfl (vsC rfl vsN))) (ps_clamped (-(x)) (0) (4)  _   ) (fun e_ w_ h_ => ⟨_, h_.1, rfl, h_.2⟩))
    refine stepsF_cons ?_ ?_
    · refine StepF.one rfl fun F_ w_ hR hout hD => ?_
      have g14 : F_ 14 = .int .i64 (max (0) (min (-(x)) (4))) := hD.get 0 rfl rfl rfl
      exact (y_cutA ((max (0) (min (-(x)) (4))).toNat) rfl ((hout 5 rfl (by decide)).trans s15) g14 (by omega) (by omega) ⟨rfl, Kept.refl _ _⟩)
    exact stepsF_nil
  intro v16 F17 w18 k19 G20 hF21
  have B23 := B8.all k19 Apart.none
  have B24 := B4.all k19 id
  have K25 := K9.trans k19 (fun _ _ x => x.elim)
  have s26 : F17 17 = undef := (hF21 17).trans s14
  have s27 : F17 11 = subV (subV (v) (i) (j) (j)) ((max (0) (min (x) ((((j) - (i) : Nat) : Int)))).toNat) ((j) - (i)) ((j) - (i)) := (hF21 11).trans (G20 5 (by decide))
  have s28 : F17 15 = arrV (p1) ((max (0) (min (-(x)) (4))).toNat) := (hF21 15).trans (G20 9 (by decide))
  clear G20 hF21
  refine wl_copyM rfl rfl rfl rfl s27 (part_sub2 (r := (i) + ((max (0) (min (x) ((((j) - (i) : Nat) : Int)))).toNat)) (B23).byt (by omega) (by omega) rfl) s28 B23 ((B24).bytes (by omega) (by omega) (by omega) (by omega) (k := (max (0) (min (-(x)) (4))).toNat) (by omega)) (by omega) fun w30 B32 k31 => ?_
  have B35 := B24.all k31 (fun x => ((ap7) p1 rfl x))
  have K36 := K25.trans k31 (Grew.ok (S := T_s) g_s (fun _ x => x))
  refine wl_nil fun F37 hF38 => ?_
  have s39 : F37 17 = undef := (hF38 17).trans s26
  clear hF38
  exact end_none s39 rfl ⟨T_s, rfl, K36, ⟨B32, g_s⟩⟩
end Go.Proofs.Ytceoidglhakanaa
namespace Go.Proofs.Ytceoidglhakanaa
open Go.RowKit

/-- One number of a line is laid, if it is within. -/
def step1 (l : List Nat) (n w : Nat) (u : Int) (c : Nat) : List Nat := if 0 ≤ u ∧ u < (w : Int) then l.set (n + u.toNat) c else l
theorem step1_length (l : List Nat) (n w : Nat) (u : Int) (c : Nat) : (step1 l n w u c).length = l.length := by unfold step1; split <;> simp
theorem step1_at (l : List Nat) (n w : Nat) (u : Int) (c q : Nat) : (step1 l n w u c).getD q 0 = if 0 ≤ u ∧ u < (w : Int) ∧ n + u.toNat = q ∧ q < l.length then c else l.getD q 0 := by
  unfold step1
  by_cases h : 0 ≤ u ∧ u < (w : Int)
  · rw [if_pos h, getD_set]
    by_cases h2 : n + u.toNat = q ∧ q < l.length
    · rw [if_pos h2, if_pos ⟨h.1, h.2, h2.1, h2.2⟩]
    · rw [if_neg h2, if_neg (fun k => h2 ⟨k.2.2.1, k.2.2.2⟩)]
  · rw [if_neg h, if_neg (fun k => h ⟨k.1, k.2.1⟩)]
theorem ext_getD {l m : List Nat} (hl : l.length = m.length) (h : ∀ q, q < l.length → l.getD q 0 = m.getD q 0) : l = m := by
  apply List.ext_getElem hl
  intro i h1 h2
  have := h i h1
  simpa [List.getD, h1, h2] using this
theorem cut_at (l m : List Nat) (off n q : Nat) (h : off + min n m.length ≤ l.length) : (l.take off ++ (m.take n ++ l.drop (off + min n m.length))).getD q 0 = if q < off then l.getD q 0 else if q < off + min n m.length then m.getD (q - off) 0 else l.getD q 0 := by
  have h1 : (l.take off).length = off := by rw [List.length_take]; omega
  have h2 : (m.take n).length = min n m.length := List.length_take ..
  simp only [List.getD_eq_getElem?_getD]
  by_cases hq : q < off
  · rw [if_pos hq, List.getElem?_append_left (by omega), List.getElem?_take, if_pos hq]
  · rw [if_neg hq, List.getElem?_append_right (by omega), h1]
    by_cases hr : q < off + min n m.length
    · rw [if_pos hr, List.getElem?_append_left (by omega), List.getElem?_take, if_pos (by omega)]
    · rw [if_neg hr, List.getElem?_append_right (by omega), h2, List.getElem?_drop]
      congr 2; omega
set_option maxHeartbeats 4000000 in
theorem lay_steps (l : List Nat) (n w : Nat) (x : Int) (a b c d : Nat) (h : n + w ≤ l.length) : layF l n (n + w) x [a, b, c, d] = step1 (step1 (step1 (step1 l n w x a) n w (x + 1) b) n w (x + 2) c) n w (x + 3) d := by
  unfold layF
  rw [show n + w - n = w by omega]
  obtain ⟨cx, hcx⟩ : ∃ k, k = (max 0 (min x (w : Int))).toNat := ⟨_, rfl⟩
  obtain ⟨dx, hdx⟩ : ∃ k, k = (max 0 (min (-x) 4)).toNat := ⟨_, rfl⟩
  rw [← hcx, ← hdx]
  have hd4 : ([a, b, c, d].drop dx).length = 4 - dx := by simp
  apply ext_getD
  · rw [step1_length, step1_length, step1_length, step1_length]
    simp; omega
  · intro q hq
    have hql : q < l.length := by
      have : (l.take (n + cx) ++ (([a, b, c, d].drop dx).take (w - cx) ++ l.drop (n + cx + min (w - cx) ([a, b, c, d].drop dx).length))).length = l.length := by simp; omega
      omega
    rw [cut_at _ _ _ _ _ (by rw [hd4]; omega), hd4]
    simp only [step1_at, step1_length]
    have hg : ∀ t, ([a, b, c, d].drop dx).getD t 0 = [a, b, c, d].getD (dx + t) 0 := fun t => by simp [List.getD_eq_getElem?_getD, List.getElem?_drop]
    rw [hg]
    by_cases h3 : 0 ≤ x + 3 ∧ x + 3 < (w : Int) ∧ n + (x + 3).toNat = q ∧ q < l.length
    · rw [if_pos h3, if_neg (by omega), if_pos (by omega), show dx + (q - (n + cx)) = 3 by omega]; rfl
    · rw [if_neg h3]
      by_cases h2 : 0 ≤ x + 2 ∧ x + 2 < (w : Int) ∧ n + (x + 2).toNat = q ∧ q < l.length
      · rw [if_pos h2, if_neg (by omega), if_pos (by omega), show dx + (q - (n + cx)) = 2 by omega]; rfl
      · rw [if_neg h2]
        by_cases h1 : 0 ≤ x + 1 ∧ x + 1 < (w : Int) ∧ n + (x + 1).toNat = q ∧ q < l.length
        · rw [if_pos h1, if_neg (by omega), if_pos (by omega), show dx + (q - (n + cx)) = 1 by omega]; rfl
        · rw [if_neg h1]
          by_cases h0 : 0 ≤ x ∧ x < (w : Int) ∧ n + x.toNat = q ∧ q < l.length
          · rw [if_pos h0, if_neg (by omega), if_pos (by omega), show dx + (q - (n + cx)) = 0 by omega]; rfl
          · rw [if_neg h0]
            by_cases hA : q < n + cx
            · rw [if_pos hA]
            · rw [if_neg hA, if_neg (by omega)]
/-- A block's line, of a plane that is there. -/
theorem put_step {f : FD} {p : Int} (x y : Int) (b : Nat → Int) (k : Nat) (hp : 0 ≤ p) (hp2 : p ≤ 2) (hy : 0 ≤ nearI y + ((k / 4 : Nat) : Int) ∧ nearI y + ((k / 4 : Nat) : Int) < (sizeF f p).2) :
    (putTo f p x y b (k + 1)).pl p = step1 ((putTo f p x y b k).pl p) ((nearI y + ((k / 4 : Nat) : Int)) * (sizeF f p).1).toNat (sizeF f p).1.toNat (nearI x + ((k % 4 : Nat) : Int)) (byteI (b k)) ∧ ∀ q, 0 ≤ q → q ≤ 2 → q ≠ p → (putTo f p x y b (k + 1)).pl q = (putTo f p x y b k).pl q := by
  have hb := size_bounds f p
  by_cases h : within (sizeF f p).1 (sizeF f p).2 (nearI x + ((k % 4 : Nat) : Int)) (nearI y + ((k / 4 : Nat) : Int))
  · have hc := within_cell h
    rw [put_in h]
    have hs := setp_pl (putTo f p x y b k) p ((nearI y + ((k / 4 : Nat) : Int)) * (sizeF f p).1 + (nearI x + ((k % 4 : Nat) : Int))).toNat (byteI (b k)) hp hp2
    refine ⟨?_, hs.2⟩
    rw [hs.1]
    unfold step1
    unfold within at h
    rw [if_pos ⟨h.1, by omega⟩, Int.toNat_add (by omega) (by omega)]
  · rw [put_out h]
    refine ⟨?_, fun _ _ _ _ => rfl⟩
    unfold step1
    unfold within at h
    rw [if_neg (by omega)]
theorem put_line {f : FD} {p : Int} (x y : Int) (b : Nat → Int) (i : Nat) (hp : 0 ≤ p) (hp2 : p ≤ 2) (hsz : (sizeF f p).1 ≠ 0) (hy : 0 ≤ nearI y + (i : Int) ∧ nearI y + (i : Int) < (sizeF f p).2) :
    (putTo f p x y b (4 * (i + 1))).pl p = layF ((putTo f p x y b (4 * i)).pl p) ((nearI y + (i : Int)) * (sizeF f p).1).toNat ((nearI y + (i : Int)) * (sizeF f p).1 + (sizeF f p).1).toNat (nearI x) [byteI (b (i * 4)), byteI (b (i * 4 + 1)), byteI (b (i * 4 + 2)), byteI (b (i * 4 + 3))] ∧ ∀ q, 0 ≤ q → q ≤ 2 → q ≠ p → (putTo f p x y b (4 * (i + 1))).pl q = (putTo f p x y b (4 * i)).pl q := by
  have hb := size_bounds f p
  have hin : within (sizeF f p).1 (sizeF f p).2 0 (nearI y + (i : Int)) := ⟨by omega, by omega, hy.1, hy.2⟩
  have hin2 : within (sizeF f p).1 (sizeF f p).2 ((sizeF f p).1 - 1) (nearI y + (i : Int)) := ⟨by omega, by omega, hy.1, hy.2⟩
  have hc := within_cell hin
  have hc2 := within_cell hin2
  have q0 : 4 * i / 4 = i := by omega
  have q1 : (4 * i + 1) / 4 = i := by omega
  have q2 : (4 * i + 2) / 4 = i := by omega
  have q3 : (4 * i + 3) / 4 = i := by omega
  have r0 : 4 * i % 4 = 0 := by omega
  have r1 : (4 * i + 1) % 4 = 1 := by omega
  have r2 : (4 * i + 2) % 4 = 2 := by omega
  have r3 : (4 * i + 3) % 4 = 3 := by omega
  have s0 := put_step (f := f) (p := p) x y b (4 * i) hp hp2 (by rw [q0]; exact hy)
  have s1 := put_step (f := f) (p := p) x y b (4 * i + 1) hp hp2 (by rw [q1]; exact hy)
  have s2 := put_step (f := f) (p := p) x y b (4 * i + 2) hp hp2 (by rw [q2]; exact hy)
  have s3 := put_step (f := f) (p := p) x y b (4 * i + 3) hp hp2 (by rw [q3]; exact hy)
  rw [q0, r0] at s0
  rw [q1, r1] at s1
  rw [q2, r2] at s2
  rw [q3, r3] at s3
  have hlen : ((putTo f p x y b (4 * i)).pl p).length = (f.pl p).length := by
    have h := put_lens x y b (4 * i) hsz
    have : p = 0 ∨ p = 1 ∨ p = 2 := by omega
    rcases this with rfl | rfl | rfl
    · exact h.1
    · exact h.2.1
    · exact h.2.2
  have e : ((nearI y + (i : Int)) * (sizeF f p).1 + (sizeF f p).1).toNat = ((nearI y + (i : Int)) * (sizeF f p).1).toNat + (sizeF f p).1.toNat := Int.toNat_add (by omega) (by omega)
  rw [show 4 * (i + 1) = 4 * i + 3 + 1 by omega]
  refine ⟨?_, fun q h0 h2 hq => by rw [s3.2 q h0 h2 hq, s2.2 q h0 h2 hq, s1.2 q h0 h2 hq, s0.2 q h0 h2 hq]⟩
  rw [e, lay_steps _ _ _ _ _ _ _ _ (by rw [hlen]; omega), s3.1, s2.1, s1.1, s0.1]
  rw [show i * 4 = 4 * i by omega]
  rw [show nearI x + ((0 : Nat) : Int) = nearI x by omega]
  rfl
theorem size_copy (f : FD) (p : Int) : sizeF (copyF f) p = sizeF f p := by
  by_cases h : okF f
  · rw [copyF_yes h]
  · rw [copyF_no h, sizeF_no (fun k => h k.1), sizeF_no (fun k => absurd k.1 (by decide))]
theorem put_skip {f : FD} {p x y : Int} {b : Nat → Int} {i : Nat} (h : ¬ (0 ≤ nearI y + (i : Int) ∧ nearI y + (i : Int) < (sizeF f p).2)) : putTo f p x y b (4 * (i + 1)) = putTo f p x y b (4 * i) := by
  rw [show 4 * (i + 1) = 4 * i + 3 + 1 by omega]
  rw [put_out (k := 4 * i + 3) (by unfold within; rw [show (4 * i + 3) / 4 = i by omega]; omega), put_out (k := 4 * i + 2) (by unfold within; rw [show (4 * i + 2) / 4 = i by omega]; omega), put_out (k := 4 * i + 1) (by unfold within; rw [show (4 * i + 1) / 4 = i by omega]; omega), put_out (k := 4 * i) (by unfold within; rw [show (4 * i) / 4 = i by omega]; omega)]
end Go.Proofs.Ytceoidglhakanaa
namespace Go.Proofs.Ytceoidglhakanaa
open Go.RowKit
theorem Owb.of_eq {w : World} {T : Nat → Prop} {v : Value} {l m : List Nat} (e : m = l) (h : Owb w T v l) : Owb w T v m := e ▸ h
theorem size_two {f : FD} {p : Int} (h : 0 < (sizeF f p).2) : (sizeF f p).1 ≠ 0 := by
  by_cases hk : okF f ∧ 0 ≤ p ∧ p ≤ 2
  · have := (size_pos hk); omega
  · rw [sizeF_no hk] at h; exact absurd h (by decide)
set_option maxHeartbeats 4000000 in
set_option maxRecDepth 100000 in
theorem pl_put (p x y : Int) (b : Nat → Int) (f : FD) (f0 f1 f2 : Value) (T_f0 : Nat → Prop) (T_f1 : Nat → Prop) (T_f2 : Nat → Prop) (w0 : World) (h_f0 : Byt w0 T_f0 f0 ((f).p0)) (h_f1 : Byt w0 T_f1 f1 ((f).p1)) (h_f2 : Byt w0 T_f2 f2 ((f).p2)) :
    Calls Try.prog 25 #[.agg #[.int .i64 ((f).W), .int .i64 ((f).H), f0, f1, f2], .int .i64 (p), .int .i64 (x), .int .i64 (y), blkV (b)] w0 fun e w' => ∃ (v1 : Value) (T1 : Nat → Prop) (v2 : Value) (T2 : Nat → Prop) (v3 : Value) (T3 : Nat → Prop), e = .returned (.agg #[.int .i64 ((putFr f p x y b).W), .int .i64 ((putFr f p x y b).H), v1, v2, v3]) ∧ Kept (fun _ => False) w0 w' ∧ (Owb w' T1 v1 ((putFr f p x y b).p0) ∧ Grew w0 noB T1) ∧ (Owb w' T2 v2 ((putFr f p x y b).p1) ∧ Grew w0 noB T2) ∧ (Owb w' T3 v3 ((putFr f p x y b).p2) ∧ Grew w0 noB T3) ∧ Apart T1 T2 ∧ Apart T1 T3 ∧ Apart T2 T3 := by
  refine calls_wq (args := [.agg #[.int .i64 ((f).W), .int .i64 ((f).H), f0, f1, f2], .int .i64 (p), .int .i64 (x), .int .i64 (y), blkV (b)]) 55 Try.func25 rfl rfl (Nat.le_of_ble_eq_true rfl) ?_
  have K0 := Kept.refl (fun _ => False) w0
  have hnx := near_bounds x
  have hny := near_bounds y
  have hsb := size_bounds f p
  have g_f0 := Grew.refl w0 T_f0
  have g_f1 := Grew.refl w0 T_f1
  have g_f2 := Grew.refl w0 T_f2
  refine wq_seq ?_
  refine wq_region ?_
  refine wl_box_stc (vs := [.int .i64 ((f).W), .int .i64 ((f).H), f0, f1, f2]) rfl rfl rfl rfl fun p1 w2 B4 g5 k3 => ?_
  have gr6 : Grew w0 noB (onB p1) := Grew.new K0 g5
  have ap7 : Apart (onB p1) (T_f0) := Apart.new g5 (h_f0).live
  have ap8 : Apart (onB p1) (T_f1) := Apart.new g5 (h_f1).live
  have ap9 : Apart (onB p1) (T_f2) := Apart.new g5 (h_f2).live
  have B10 := h_f0.all k3 Apart.none
  have B11 := h_f1.all k3 Apart.none
  have B12 := h_f2.all k3 Apart.none
  have K13 := K0.trans k3 (fun _ _ x => x.elim)
  refine wl_box_blk rfl rfl rfl rfl fun p14 w15 e18 B16 k17 => ?_
  have g19 := onB_new (Nat.le_of_eq e18.symm)
  have gr20 : Grew w0 noB (onB p14) := Grew.new K13 g19
  have ap21 : Apart (onB p14) (T_f0) := Apart.new g19 (B10).live
  have ap22 : Apart (onB p14) (T_f1) := Apart.new g19 (B11).live
  have ap23 : Apart (onB p14) (T_f2) := Apart.new g19 (B12).live
  have ap24 : Apart (onB p14) (onB p1) := Apart.new g19 (onB_live (B4).lt)
  clear e18 g19
  have B25 := B10.all k17 Apart.none
  have B26 := B11.all k17 Apart.none
  have B27 := B12.all k17 Apart.none
  have B28 := B4.all k17 id
  have K29 := K13.trans k17 (fun _ _ x => x.elim)
  refine wl_alloc_stc (n := 5) (vs := [.int .i64 (0), .int .i64 (0), .slice none 0 0, .slice none 0 0, .slice none 0 0]) rfl rfl rfl (by kernel_rfl) fun p30 w31 B33 g34 k32 => ?_
  have gr35 : Grew w0 noB (onB p30) := Grew.new K29 g34
  have ap36 : Apart (onB p30) (T_f0) := Apart.new g34 (B25).live
  have ap37 : Apart (onB p30) (T_f1) := Apart.new g34 (B26).live
  have ap38 : Apart (onB p30) (T_f2) := Apart.new g34 (B27).live
  have ap39 : Apart (onB p30) (onB p1) := Apart.new g34 (onB_live (B28).lt)
  have ap40 : Apart (onB p30) (onB p14) := Apart.new g34 (onB_live (B16).lt)
  have B41 := B25.all k32 Apart.none
  have B42 := B26.all k32 Apart.none
  have B43 := B27.all k32 Apart.none
  have B44 := B28.all k32 id
  have B45 := B16.all k32 id
  have K46 := K29.trans k32 (fun _ _ x => x.elim)
  refine wl_nil fun F47 hF48 => ?_
  have s49 : F47 1 = .int .i64 (p) := (hF48 1).trans rfl
  have s50 : F47 2 = .int .i64 (x) := (hF48 2).trans rfl
  have s51 : F47 3 = .int .i64 (y) := (hF48 3).trans rfl
  have s52 : F47 55 = undef := (hF48 55).trans rfl
  have s53 : F47 5 = .pointer (some ⟨p1, 0, none⟩) := (hF48 5).trans rfl
  have s54 : F47 9 = .pointer (some ⟨p14, 0, none⟩) := (hF48 9).trans rfl
  have s55 : F47 10 = .pointer (some ⟨p30, 0, none⟩) := (hF48 10).trans rfl
  clear hF48
  refine then_normal ?_
  refine wq_seq ?_
  refine wq_region ?_
  refine wl_v (.agg #[.int .i64 ((f).W), .int .i64 ((f).H), f0, f1, f2]) rfl rfl (y_load_stc stcT_frame rfl s53 B44 ⟨rfl, rfl⟩) ?_
  refine wl_call (R := fun v_ w_ => ∃ (v56 : Value) (T61 : Nat → Prop) (v57 : Value) (T62 : Nat → Prop) (v58 : Value) (T63 : Nat → Prop), .agg #[.int .i64 ((copyF (f)).W), .int .i64 ((copyF (f)).H), v56, v57, v58] = v_ ∧ Kept (fun _ => False) w31 w_ ∧ (Owb w_ T61 v56 ((copyF (f)).p0) ∧ Grew w31 noB T61) ∧ (Owb w_ T62 v57 ((copyF (f)).p1) ∧ Grew w31 noB T62) ∧ (Owb w_ T63 v58 ((copyF (f)).p2) ∧ Grew w31 noB T63) ∧ Apart T61 T62 ∧ Apart T61 T63 ∧ Apart T62 T63) rfl rfl (y_cs rfl rfl rfl (fun _ _ => by kernel_rfl) (ev_func _) (vsC rfl vsN) (pl_copy (f) (f0) (f1) (f2) (T_f0) (T_f1) (T_f2) _  B41 B42 B43 ) (fun e_ w_ h_ => by obtain ⟨v56_, T61_, v57_, T62_, v58_, T63_, he_, hr_⟩ := h_; exact ⟨_, he_, v56_, T61_, v57_, T62_, v58_, T63_, rfl, hr_⟩)) ?_
  rintro _ w59 ⟨v56, T61, v57, T62, v58, T63, rfl, k60, ⟨B64, g67⟩, ⟨B65, g68⟩, ⟨B66, g69⟩, ap70, ap71, ap72⟩
  have B73 := B41.all k60 Apart.none
  have B74 := B42.all k60 Apart.none
  have B75 := B43.all k60 Apart.none
  have B76 := B44.all k60 id
  have B77 := B45.all k60 id
  have B78 := B33.all k60 id
  have K79 := K46.trans k60 (fun _ _ x => x.elim)
  have gr80 : Grew w0 noB (T61) := Grew.new K46 g67
  have ap81 : Apart (T61) (T_f0) := Apart.new g67 (B41).live
  have ap82 : Apart (T61) (T_f1) := Apart.new g67 (B42).live
  have ap83 : Apart (T61) (T_f2) := Apart.new g67 (B43).live
  have ap84 : Apart (T61) (onB p1) := Apart.new g67 (onB_live (B44).lt)
  have ap85 : Apart (T61) (onB p14) := Apart.new g67 (onB_live (B45).lt)
  have ap86 : Apart (T61) (onB p30) := Apart.new g67 (onB_live (B33).lt)
  have gr87 : Grew w0 noB (T62) := Grew.new K46 g68
  have ap88 : Apart (T62) (T_f0) := Apart.new g68 (B41).live
  have ap89 : Apart (T62) (T_f1) := Apart.new g68 (B42).live
  have ap90 : Apart (T62) (T_f2) := Apart.new g68 (B43).live
  have ap91 : Apart (T62) (onB p1) := Apart.new g68 (onB_live (B44).lt)
  have ap92 : Apart (T62) (onB p14) := Apart.new g68 (onB_live (B45).lt)
  have ap93 : Apart (T62) (onB p30) := Apart.new g68 (onB_live (B33).lt)
  have gr94 : Grew w0 noB (T63) := Grew.new K46 g69
  have ap95 : Apart (T63) (T_f0) := Apart.new g69 (B41).live
  have ap96 : Apart (T63) (T_f1) := Apart.new g69 (B42).live
  have ap97 : Apart (T63) (T_f2) := Apart.new g69 (B43).live
  have ap98 : Apart (T63) (onB p1) := Apart.new g69 (onB_live (B44).lt)
  have ap99 : Apart (T63) (onB p14) := Apart.new g69 (onB_live (B45).lt)
  have ap100 : Apart (T63) (onB p30) := Apart.new g69 (onB_live (B33).lt)
  refine wl_alloc_stc (n := 5) (vs := [.int .i64 (0), .int .i64 (0), .slice none 0 0, .slice none 0 0, .slice none 0 0]) rfl rfl rfl (by kernel_rfl) fun p101 w102 B104 g105 k103 => ?_
  have gr106 : Grew w0 noB (onB p101) := Grew.new K79 g105
  have ap107 : Apart (onB p101) (T_f0) := Apart.new g105 (B73).live
  have ap108 : Apart (onB p101) (T_f1) := Apart.new g105 (B74).live
  have ap109 : Apart (onB p101) (T_f2) := Apart.new g105 (B75).live
  have ap110 : Apart (onB p101) (onB p1) := Apart.new g105 (onB_live (B76).lt)
  have ap111 : Apart (onB p101) (onB p14) := Apart.new g105 (onB_live (B77).lt)
  have ap112 : Apart (onB p101) (onB p30) := Apart.new g105 (onB_live (B78).lt)
  have ap113 : Apart (onB p101) (T61) := Apart.new g105 (B64).live
  have ap114 : Apart (onB p101) (T62) := Apart.new g105 (B65).live
  have ap115 : Apart (onB p101) (T63) := Apart.new g105 (B66).live
  have B116 := B73.all k103 Apart.none
  have B117 := B74.all k103 Apart.none
  have B118 := B75.all k103 Apart.none
  have B119 := B76.all k103 id
  have B120 := B77.all k103 id
  have B121 := B78.all k103 id
  have B122 := B64.all k103 Apart.none
  have B123 := B65.all k103 Apart.none
  have B124 := B66.all k103 Apart.none
  have K125 := K79.trans k103 (fun _ _ x => x.elim)
  refine wl_store_stc (us := [.int .i64 ((copyF (f)).W), .int .i64 ((copyF (f)).H), v56, v57, v58]) stcT_frame rfl rfl rfl rfl rfl B104 rfl (oneI rfl (oneI rfl (oneI (B122).one (oneI (B123).one (oneI (B124).one oneN))))) fun w126 B127 k128 => ?_
  have B129 := B116.all k128 (fun i h x => (((ap107).symm) i h x))
  have B130 := B117.all k128 (fun i h x => (((ap108).symm) i h x))
  have B131 := B118.all k128 (fun i h x => (((ap109).symm) i h x))
  have B132 := B119.all k128 (fun x => (((ap110).symm) p1 rfl x))
  have B133 := B120.all k128 (fun x => (((ap111).symm) p14 rfl x))
  have B134 := B121.all k128 (fun x => (((ap112).symm) p30 rfl x))
  have B135 := B122.all k128 (fun i h x => (((ap113).symm) i h x))
  have B136 := B123.all k128 (fun i h x => (((ap114).symm) i h x))
  have B137 := B124.all k128 (fun i h x => (((ap115).symm) i h x))
  have K138 := K125.trans k128 (Grew.ok (S := fun _ => False) gr106 noB_le)
  refine wl_nil fun F139 hF140 => ?_
  have s141 : F139 1 = .int .i64 (p) := (hF140 1).trans s49
  have s142 : F139 2 = .int .i64 (x) := (hF140 2).trans s50
  have s143 : F139 3 = .int .i64 (y) := (hF140 3).trans s51
  have s144 : F139 55 = undef := (hF140 55).trans s52
  have s145 : F139 9 = .pointer (some ⟨p14, 0, none⟩) := (hF140 9).trans s54
  have s146 : F139 10 = .pointer (some ⟨p30, 0, none⟩) := (hF140 10).trans s55
  have s147 : F139 11 = .pointer (some ⟨p101, 0, none⟩) := (hF140 11).trans rfl
  clear hF140
  refine then_normal ?_
  refine wq_seq ?_
  refine wq_region ?_
  refine wl_v (.agg #[.int .i64 ((copyF (f)).W), .int .i64 ((copyF (f)).H), v56, v57, v58]) rfl rfl (y_load_stc stcT_frame rfl s147 B127 ⟨rfl, rfl⟩) ?_
  refine wl_v (.int .i64 (p)) rfl rfl (y_mov rfl s141 ⟨rfl, rfl⟩) ?_
  refine wl_call (R := fun v_ w_ => v_ = .tuple #[.int .i64 ((sizeF (copyF (f)) (p)).1), .int .i64 ((sizeF (copyF (f)) (p)).2)] ∧ Kept (fun _ => False) w126 w_) rfl rfl (y_cs rfl rfl rfl (fun _ _ => by kernel_rfl) (ev_func _) (vsC rfl (vsC rfl vsN)) (pl_size (p) (copyF (f)) (v56) (v57) (v58) (T61) (T62) (T63) _  (B135).byt (B136).byt (B137).byt ) (fun e_ w_ h_ => ⟨_, h_.1, rfl, h_.2⟩)) ?_
  rintro _ w148 ⟨rfl, k149⟩
  have B150 := B129.all k149 Apart.none
  have B151 := B130.all k149 Apart.none
  have B152 := B131.all k149 Apart.none
  have B153 := B132.all k149 id
  have B154 := B133.all k149 id
  have B155 := B134.all k149 id
  have B156 := B135.all k149 Apart.none
  have B157 := B136.all k149 Apart.none
  have B158 := B137.all k149 Apart.none
  have B159 := B127.all k149 id
  have K160 := K138.trans k149 (fun _ _ x => x.elim)
  refine wl_v (.tuple #[.int .i64 ((sizeF (copyF (f)) (p)).1), .int .i64 ((sizeF (copyF (f)) (p)).2)]) rfl rfl (y_mov rfl rfl ⟨rfl, rfl⟩) ?_
  refine wl_v (.int .i64 ((sizeF (copyF (f)) (p)).1)) rfl rfl (y_ext rfl rfl rfl ⟨rfl, rfl⟩) ?_
  refine wl_v (.int .i64 ((sizeF (copyF (f)) (p)).2)) rfl rfl (y_ext rfl rfl rfl ⟨rfl, rfl⟩) ?_
  refine wl_v (.int .i64 ((sizeF (copyF (f)) (p)).1)) rfl rfl (y_asg rfl rfl ⟨rfl, rfl⟩) ?_
  refine wl_v (.int .i64 ((sizeF (copyF (f)) (p)).2)) rfl rfl (y_asg rfl rfl ⟨rfl, rfl⟩) ?_
  refine wl_nil fun F161 hF162 => ?_
  have s163 : F161 1 = .int .i64 (p) := (hF162 1).trans s141
  have s164 : F161 2 = .int .i64 (x) := (hF162 2).trans s142
  have s165 : F161 3 = .int .i64 (y) := (hF162 3).trans s143
  have s166 : F161 55 = undef := (hF162 55).trans s144
  have s167 : F161 9 = .pointer (some ⟨p14, 0, none⟩) := (hF162 9).trans s145
  have s168 : F161 10 = .pointer (some ⟨p30, 0, none⟩) := (hF162 10).trans s146
  have s169 : F161 11 = .pointer (some ⟨p101, 0, none⟩) := (hF162 11).trans s147
  have s170 : F161 12 = .int .i64 ((sizeF (copyF (f)) (p)).1) := (hF162 12).trans rfl
  have s171 : F161 13 = .int .i64 ((sizeF (copyF (f)) (p)).2) := (hF162 13).trans rfl
  clear hF162
  refine then_normal ?_
  refine wq_seq ?_
  have s172 : F161 12 = .int .i64 ((sizeF f p).1) := s170.trans (congrArg (Value.int .i64) (congrArg Prod.fst (size_copy f p)))
  have s173 : F161 13 = .int .i64 ((sizeF f p).2) := s171.trans (congrArg (Value.int .i64) (congrArg Prod.snd (size_copy f p)))
  refine wq_region ?_
  refine wl_v (.int .i64 (x)) rfl rfl (y_mov rfl s164 ⟨rfl, rfl⟩) ?_
  refine wl_call (R := fun v_ w_ => v_ = .int .i64 (nearI (x)) ∧ Kept (fun _ => False) w148 w_) rfl rfl (y_cs rfl rfl rfl (fun _ _ => by kernel_rfl) (ev_func _) (vsC rfl vsN) (ps_near (x)  _   ) (fun e_ w_ h_ => ⟨_, h_.1, rfl, h_.2⟩)) ?_
  rintro _ w174 ⟨rfl, k175⟩
  have B176 := B150.all k175 Apart.none
  have B177 := B151.all k175 Apart.none
  have B178 := B152.all k175 Apart.none
  have B179 := B153.all k175 id
  have B180 := B154.all k175 id
  have B181 := B155.all k175 id
  have B182 := B156.all k175 Apart.none
  have B183 := B157.all k175 Apart.none
  have B184 := B158.all k175 Apart.none
  have B185 := B159.all k175 id
  have K186 := K160.trans k175 (fun _ _ x => x.elim)
  refine wl_v (.int .i64 (y)) rfl rfl (y_mov rfl s165 ⟨rfl, rfl⟩) ?_
  refine wl_call (R := fun v_ w_ => v_ = .int .i64 (nearI (y)) ∧ Kept (fun _ => False) w174 w_) rfl rfl (y_cs rfl rfl rfl (fun _ _ => by kernel_rfl) (ev_func _) (vsC rfl vsN) (ps_near (y)  _   ) (fun e_ w_ h_ => ⟨_, h_.1, rfl, h_.2⟩)) ?_
  rintro _ w187 ⟨rfl, k188⟩
  have B189 := B176.all k188 Apart.none
  have B190 := B177.all k188 Apart.none
  have B191 := B178.all k188 Apart.none
  have B192 := B179.all k188 id
  have B193 := B180.all k188 id
  have B194 := B181.all k188 id
  have B195 := B182.all k188 Apart.none
  have B196 := B183.all k188 Apart.none
  have B197 := B184.all k188 Apart.none
  have B198 := B185.all k188 id
  have K199 := K186.trans k188 (fun _ _ x => x.elim)
  refine wl_v (.int .i64 (nearI (x))) rfl rfl (y_asg rfl rfl ⟨rfl, rfl⟩) ?_
  refine wl_v (.int .i64 (nearI (y))) rfl rfl (y_asg rfl rfl ⟨rfl, rfl⟩) ?_
  refine wl_nil fun F200 hF201 => ?_
  have s202 : F200 1 = .int .i64 (p) := (hF201 1).trans s163
  have s203 : F200 55 = undef := (hF201 55).trans s166
  have s204 : F200 9 = .pointer (some ⟨p14, 0, none⟩) := (hF201 9).trans s167
  have s205 : F200 10 = .pointer (some ⟨p30, 0, none⟩) := (hF201 10).trans s168
  have s206 : F200 11 = .pointer (some ⟨p101, 0, none⟩) := (hF201 11).trans s169
  have s207 : F200 12 = .int .i64 ((sizeF f p).1) := (hF201 12).trans s172
  have s208 : F200 13 = .int .i64 ((sizeF f p).2) := (hF201 13).trans s173
  have s209 : F200 2 = .int .i64 (nearI (x)) := (hF201 2).trans rfl
  have s210 : F200 3 = .int .i64 (nearI (y)) := (hF201 3).trans rfl
  clear hF201
  refine then_normal ?_
  refine wq_seq ?_
  refine wq_seq ?_
  refine wq_region ?_
  refine wl_v (.int .i64 (0)) rfl rfl (y_mov rfl rfl ⟨rfl, rfl⟩) ?_
  refine wl_nil fun F211 hF212 => ?_
  have s213 : F211 1 = .int .i64 (p) := (hF212 1).trans s202
  have s214 : F211 55 = undef := (hF212 55).trans s203
  have s215 : F211 9 = .pointer (some ⟨p14, 0, none⟩) := (hF212 9).trans s204
  have s216 : F211 10 = .pointer (some ⟨p30, 0, none⟩) := (hF212 10).trans s205
  have s217 : F211 11 = .pointer (some ⟨p101, 0, none⟩) := (hF212 11).trans s206
  have s218 : F211 12 = .int .i64 ((sizeF f p).1) := (hF212 12).trans s207
  have s219 : F211 13 = .int .i64 ((sizeF f p).2) := (hF212 13).trans s208
  have s220 : F211 2 = .int .i64 (nearI (x)) := (hF212 2).trans s209
  have s221 : F211 3 = .int .i64 (nearI (y)) := (hF212 3).trans s210
  have s222 : F211 28 = .int .i64 (0) := (hF212 28).trans rfl
  clear hF212
  refine then_normal ?_
  refine wq_block ?_
  refine wq_loop (fun nn FF ww => ∃ (i : Nat), ∃ (T223 : Nat → Prop), ∃ (T224 : Nat → Prop), ∃ (T225 : Nat → Prop), (i ≤ 4) ∧ nn = 4 - i ∧ FF 1 = .int .i64 (p) ∧ FF 2 = .int .i64 (nearI (x)) ∧ FF 3 = .int .i64 (nearI (y)) ∧ FF 9 = .pointer (some ⟨p14, 0, none⟩) ∧ FF 10 = .pointer (some ⟨p30, 0, none⟩) ∧ FF 11 = .pointer (some ⟨p101, 0, none⟩) ∧ FF 12 = .int .i64 ((sizeF f p).1) ∧ FF 13 = .int .i64 ((sizeF f p).2) ∧ FF 55 = undef ∧ FF 28 = .int .i64 (((i : Nat) : Int)) ∧ Kept (fun _ => False) w0 ww ∧ Byt ww (T_f0) f0 ((f).p0) ∧ Byt ww (T_f1) f1 ((f).p1) ∧ Byt ww (T_f2) f2 ((f).p2) ∧ Stc ww p1 25 [.int .i64 ((f).W), .int .i64 ((f).H), f0, f1, f2] ∧ Blk ww p14 31 (b) ∧ Stc ww p30 25 [.int .i64 (0), .int .i64 (0), .slice none 0 0, .slice none 0 0, .slice none 0 0] ∧ Owb ww (T223) v56 ((putTo f p x y b (4 * i)).p0) ∧ Owb ww (T224) v57 ((putTo f p x y b (4 * i)).p1) ∧ Owb ww (T225) v58 ((putTo f p x y b (4 * i)).p2) ∧ Stc ww p101 25 [.int .i64 ((copyF (f)).W), .int .i64 ((copyF (f)).H), v56, v57, v58] ∧ Grew w0 (noB) T223 ∧ Grew w0 (noB) T224 ∧ Grew w0 (noB) T225 ∧ Apart (T223) (T_f0) ∧ Apart (T223) (T_f1) ∧ Apart (T223) (T_f2) ∧ Apart (T223) (onB p1) ∧ Apart (T223) (onB p14) ∧ Apart (T223) (onB p30) ∧ Apart (T223) (T224) ∧ Apart (T223) (T225) ∧ Apart (T223) (onB p101) ∧ Apart (T224) (T_f0) ∧ Apart (T224) (T_f1) ∧ Apart (T224) (T_f2) ∧ Apart (T224) (onB p1) ∧ Apart (T224) (onB p14) ∧ Apart (T224) (onB p30) ∧ Apart (T224) (T225) ∧ Apart (T224) (onB p101) ∧ Apart (T225) (T_f0) ∧ Apart (T225) (T_f1) ∧ Apart (T225) (T_f2) ∧ Apart (T225) (onB p1) ∧ Apart (T225) (onB p14) ∧ Apart (T225) (onB p30) ∧ Apart (T225) (onB p101)) (4 - (0)) ⟨0, T61, T62, T63, by omega, rfl, s213, s220, s221, s215, s216, s217, s218, s219, s214, s222, K199, B189, B190, B191, B192, B193, B194, B195, B196, B197, B198, gr80, gr87, gr94, ap81, ap82, ap83, ap84, ap85, ap86, ap70, ap71, (ap113).symm, ap88, ap89, ap90, ap91, ap92, ap93, ap72, (ap114).symm, ap95, ap96, ap97, ap98, ap99, ap100, (ap115).symm⟩ ?_
  rintro n229 F226 w227 ⟨i, T223, T224, T225, i230, hn229, s231, s232, s233, s234, s235, s236, s237, s238, s239, s240, K228, B241, B242, B243, B244, B245, B246, B247, B248, B249, B250, gr251, gr252, gr253, ap254, ap255, ap256, ap257, ap258, ap259, ap260, ap261, ap262, ap263, ap264, ap265, ap266, ap267, ap268, ap269, ap270, ap271, ap272, ap273, ap274, ap275, ap276, ap277⟩
  refine wq_seq ?_
  refine wq_region ?_
  refine wl_v (.bool (decide ((((i : Nat) : Int)) < (4)))) rfl rfl (y_lss rfl s240 rfl rfl ⟨rfl, rfl⟩) ?_
  refine wl_nil fun F278 hF279 => ?_
  have s280 : F278 1 = .int .i64 (p) := (hF279 1).trans s231
  have s281 : F278 2 = .int .i64 (nearI (x)) := (hF279 2).trans s232
  have s282 : F278 3 = .int .i64 (nearI (y)) := (hF279 3).trans s233
  have s283 : F278 9 = .pointer (some ⟨p14, 0, none⟩) := (hF279 9).trans s234
  have s284 : F278 10 = .pointer (some ⟨p30, 0, none⟩) := (hF279 10).trans s235
  have s285 : F278 11 = .pointer (some ⟨p101, 0, none⟩) := (hF279 11).trans s236
  have s286 : F278 12 = .int .i64 ((sizeF f p).1) := (hF279 12).trans s237
  have s287 : F278 13 = .int .i64 ((sizeF f p).2) := (hF279 13).trans s238
  have s288 : F278 55 = undef := (hF279 55).trans s239
  have s289 : F278 28 = .int .i64 (((i : Nat) : Int)) := (hF279 28).trans s240
  have s290 : F278 29 = .bool (decide ((((i : Nat) : Int)) < (4))) := (hF279 29).trans rfl
  clear hF279
  refine then_normal ?_
  refine wq_seq ?_
  refine wq_cond s290 (fun c291 => ?_) (fun c291 => ?_)
  · replace c291 := of_decide_eq_true c291
    refine wq_skip ?_
    refine then_normal ?_
    refine wq_seq ?_
    refine wq_block ?_
    refine wq_seq ?_
    refine wq_region ?_
    refine wl_v (.int .i64 (((i : Nat) : Int))) rfl rfl (y_mov rfl s289 ⟨rfl, rfl⟩) ?_
    refine wl_v (.int .i64 (((i : Nat) : Int))) rfl rfl (y_asg rfl rfl ⟨rfl, rfl⟩) ?_
    refine wl_nil fun F292 hF293 => ?_
    have s294 : F292 1 = .int .i64 (p) := (hF293 1).trans s280
    have s295 : F292 2 = .int .i64 (nearI (x)) := (hF293 2).trans s281
    have s296 : F292 3 = .int .i64 (nearI (y)) := (hF293 3).trans s282
    have s297 : F292 9 = .pointer (some ⟨p14, 0, none⟩) := (hF293 9).trans s283
    have s298 : F292 10 = .pointer (some ⟨p30, 0, none⟩) := (hF293 10).trans s284
    have s299 : F292 11 = .pointer (some ⟨p101, 0, none⟩) := (hF293 11).trans s285
    have s300 : F292 12 = .int .i64 ((sizeF f p).1) := (hF293 12).trans s286
    have s301 : F292 13 = .int .i64 ((sizeF f p).2) := (hF293 13).trans s287
    have s302 : F292 55 = undef := (hF293 55).trans s288
    have s303 : F292 28 = .int .i64 (((i : Nat) : Int)) := (hF293 28).trans s289
    have s304 : F292 14 = .int .i64 (((i : Nat) : Int)) := (hF293 14).trans rfl
    clear hF293
    refine then_normal ?_
    refine wq_seq ?_
    refine wq_region ?_
    refine wl_v (.int .i64 (nearI (y))) rfl rfl (y_mov rfl s296 ⟨rfl, rfl⟩) ?_
    refine wl_v (.int .i64 (((i : Nat) : Int))) rfl rfl (y_mov rfl s304 ⟨rfl, rfl⟩) ?_
    refine wl_v (.int .i64 ((nearI (y)) + (((i : Nat) : Int)))) rfl rfl (y_add rfl rfl rfl (i64_i rfl (by omega)) ⟨rfl, rfl⟩) ?_
    refine wl_v (.int .i64 ((nearI (y)) + (((i : Nat) : Int)))) rfl rfl (y_asg rfl rfl ⟨rfl, rfl⟩) ?_
    refine wl_nil fun F305 hF306 => ?_
    have s307 : F305 1 = .int .i64 (p) := (hF306 1).trans s294
    have s308 : F305 2 = .int .i64 (nearI (x)) := (hF306 2).trans s295
    have s309 : F305 3 = .int .i64 (nearI (y)) := (hF306 3).trans s296
    have s310 : F305 9 = .pointer (some ⟨p14, 0, none⟩) := (hF306 9).trans s297
    have s311 : F305 10 = .pointer (some ⟨p30, 0, none⟩) := (hF306 10).trans s298
    have s312 : F305 11 = .pointer (some ⟨p101, 0, none⟩) := (hF306 11).trans s299
    have s313 : F305 12 = .int .i64 ((sizeF f p).1) := (hF306 12).trans s300
    have s314 : F305 13 = .int .i64 ((sizeF f p).2) := (hF306 13).trans s301
    have s315 : F305 55 = undef := (hF306 55).trans s302
    have s316 : F305 28 = .int .i64 (((i : Nat) : Int)) := (hF306 28).trans s303
    have s317 : F305 14 = .int .i64 (((i : Nat) : Int)) := (hF306 14).trans s304
    have s318 : F305 15 = .int .i64 ((nearI (y)) + (((i : Nat) : Int))) := (hF306 15).trans rfl
    clear hF306
    refine then_normal ?_
    refine wq_seq ?_
    by_cases d319 : (0) ≤ ((nearI (y)) + (((i : Nat) : Int)))
    · skip
      refine wq_region ?_
      refine wl_v (.int .i64 ((nearI (y)) + (((i : Nat) : Int)))) rfl rfl (y_mov rfl s318 ⟨rfl, rfl⟩) ?_
      refine wl_v (.bool true) rfl rfl (y_geq rfl rfl rfl (decide_eq_true d319) ⟨rfl, rfl⟩) ?_
      refine wl_v (.bool true) rfl rfl (y_mov rfl rfl ⟨rfl, rfl⟩) ?_
      refine wl_vw (.int .i64 ((nearI (y)) + (((i : Nat) : Int)))) 2 true 36 rfl rfl rfl rfl rfl (y_mov rfl s318 ⟨rfl, rfl⟩) ?_
      refine wl_vw (.int .i64 ((sizeF f p).2)) 2 true 36 rfl rfl rfl rfl rfl (y_mov rfl s314 ⟨rfl, rfl⟩) ?_
      refine wl_vw (.bool (decide (((nearI (y)) + (((i : Nat) : Int))) < ((sizeF f p).2)))) 2 true 36 rfl rfl rfl rfl rfl (y_lss rfl rfl rfl rfl ⟨rfl, rfl⟩) ?_
      refine wl_v (.bool (decide (((nearI (y)) + (((i : Nat) : Int))) < ((sizeF f p).2)))) rfl rfl (y_pickT rfl rfl rfl ⟨rfl, rfl⟩) ?_
      refine wl_nil fun F320 hF321 => ?_
      have s322 : F320 1 = .int .i64 (p) := (hF321 1).trans s307
      have s323 : F320 2 = .int .i64 (nearI (x)) := (hF321 2).trans s308
      have s324 : F320 3 = .int .i64 (nearI (y)) := (hF321 3).trans s309
      have s325 : F320 9 = .pointer (some ⟨p14, 0, none⟩) := (hF321 9).trans s310
      have s326 : F320 10 = .pointer (some ⟨p30, 0, none⟩) := (hF321 10).trans s311
      have s327 : F320 11 = .pointer (some ⟨p101, 0, none⟩) := (hF321 11).trans s312
      have s328 : F320 12 = .int .i64 ((sizeF f p).1) := (hF321 12).trans s313
      have s329 : F320 13 = .int .i64 ((sizeF f p).2) := (hF321 13).trans s314
      have s330 : F320 55 = undef := (hF321 55).trans s315
      have s331 : F320 28 = .int .i64 (((i : Nat) : Int)) := (hF321 28).trans s316
      have s332 : F320 14 = .int .i64 (((i : Nat) : Int)) := (hF321 14).trans s317
      have s333 : F320 15 = .int .i64 ((nearI (y)) + (((i : Nat) : Int))) := (hF321 15).trans s318
      have s334 : F320 40 = .bool (decide (((nearI (y)) + (((i : Nat) : Int))) < ((sizeF f p).2))) := (hF321 40).trans rfl
      clear hF321
      refine then_normal ?_
      refine wq_cond s334 (fun c335 => ?_) (fun c335 => ?_)
      · replace c335 := of_decide_eq_true c335
        rcases (show p = 0 ∨ p = 1 ∨ p = 2 from size_cases (f := f) (size_two (by omega))) with rfl | rfl | rfl
        · skip
          have hsz : (sizeF f 0).1 ≠ 0 := size_two (by omega)
          have hsp := size_pos (size_some hsz)
          have hL := @put_line f 0 x y b i (by decide) (by decide) hsz ⟨by omega, by omega⟩
          have hin2 : within (sizeF f 0).1 (sizeF f 0).2 ((sizeF f 0).1 - 1) (nearI y + (i : Int)) := ⟨by omega, by omega, by omega, by omega⟩
          have hc := within_cell hin2
          have hls := put_lens x y b (4 * i) hsz
          have hp0 : (f.pl 0).length = f.p0.length := rfl
          have hp1 : (f.pl 1).length = f.p1.length := rfl
          have hp2 : (f.pl 2).length = f.p2.length := rfl
          refine wq_tail 11 [some 41, some 42, some 43, some 44, some 45, some 46, some 47, some 48, some 49, some 50, some 51] [Pd.eq (.int .i64 (0)), Pd.eq (.pointer (some ⟨p101, 2, none⟩)), Pd.eq (.pointer (some ⟨p101, 2, none⟩)), Pd.eq (v56), Pd.eq (.int .i64 ((sizeF f 0).1)), Pd.eq (.int .i64 ((nearI (y)) + (((i : Nat) : Int)))), Pd.eq (subV (v56) ((((nearI (y)) + (((i : Nat) : Int))) * ((sizeF f 0).1)).toNat) ((((nearI (y)) + (((i : Nat) : Int))) * ((sizeF f 0).1) + ((sizeF f 0).1)).toNat) ((((nearI (y)) + (((i : Nat) : Int))) * ((sizeF f 0).1) + ((sizeF f 0).1)).toNat)), Pd.eq (.int .i64 (nearI (x))), Pd.eq (blkV (b)), Pd.eq (.int .i64 (((i : Nat) : Int))), Pd.eq (.agg #[.int .u8 (((byteI ((b) ((i) * 4)) : Nat) : Int)), .int .u8 (((byteI ((b) ((i) * 4 + 1)) : Nat) : Int)), .int .u8 (((byteI ((b) ((i) * 4 + 2)) : Nat) : Int)), .int .u8 (((byteI ((b) ((i) * 4 + 3)) : Nat) : Int))])] (by kernel_rfl) (by kernel_rfl) (by kernel_rfl) ?_ ?_
          · refine stepsF_cons ?_ ?_
            · refine StepF.one rfl fun F_ w_ hR hout hD => ?_
              exact (y_mov rfl ((hout 1 rfl (by decide)).trans s322) ⟨rfl, Kept.refl _ _⟩)
            refine stepsF_cons ?_ ?_
            · refine StepF.one rfl fun F_ w_ hR hout hD => ?_
              exact (y_fieldR (n := 3) rfl ((hout 11 rfl (by decide)).trans s327) Try.underlying25 rfl (by kernel_rfl) (by decide) rfl ⟨rfl, Kept.refl _ _⟩)
            refine stepsF_cons ?_ ?_
            · refine StepF.one rfl fun F_ w_ hR hout hD => ?_
              have g42 : F_ 42 = .pointer (some ⟨p101, 2, none⟩) := hD.get 0 rfl rfl rfl
              have g41 : F_ 41 = .int .i64 (0) := hD.get 1 rfl rfl rfl
              exact (y_atR (0) (s := 1) rfl g42 g41 (by omega) Try.underlying23 (by omega) (by kernel_rfl) (by omega) ⟨rfl, Kept.refl _ _⟩)
            refine stepsF_cons ?_ ?_
            · refine StepF.one rfl fun F_ w_ hR hout hD => ?_
              have g43 : F_ 43 = .pointer (some ⟨p101, 2, none⟩) := hD.get 0 rfl rfl rfl
              exact (y_ld_stc rfl g43 Try.underlying22 (B250.all hR id) rfl rfl ⟨rfl, Kept.refl _ _⟩)
            refine stepsF_cons ?_ ?_
            · refine StepF.one rfl fun F_ w_ hR hout hD => ?_
              exact (y_mov rfl ((hout 12 rfl (by decide)).trans s328) ⟨rfl, Kept.refl _ _⟩)
            refine stepsF_cons ?_ ?_
            · refine StepF.one rfl fun F_ w_ hR hout hD => ?_
              exact (y_mov rfl ((hout 15 rfl (by decide)).trans s333) ⟨rfl, Kept.refl _ _⟩)
            refine stepsF_cons ?_ ?_
            · refine StepF.one rfl fun F_ w_ hR hout hD => ?_
              have g44 : F_ 44 = v56 := hD.get 0 rfl rfl rfl
              have g45 : F_ 45 = .int .i64 ((sizeF f 0).1) := hD.get 1 rfl rfl rfl
              have g46 : F_ 46 = .int .i64 ((nearI (y)) + (((i : Nat) : Int))) := hD.get 2 rfl rfl rfl
              exact (y_cs rfl rfl rfl (fun _ _ => by kernel_rfl) (ev_func _) (vsC g44 (vsC g45 (vsC g46 vsN))) (ps_row (v56) ((putTo f 0 x y b (4 * i)).p0) ((sizeF f 0).1) ((nearI (y)) + (((i : Nat) : Int))) (T223) _ (by omega) (by omega) (by omega) (by omega) ((B247.all hR Apart.none)).byt ) (fun e_ w_ h_ => ⟨_, h_.1, rfl, h_.2⟩))
            refine stepsF_cons ?_ ?_
            · refine StepF.one rfl fun F_ w_ hR hout hD => ?_
              exact (y_mov rfl ((hout 2 rfl (by decide)).trans s323) ⟨rfl, Kept.refl _ _⟩)
            refine stepsF_cons ?_ ?_
            · refine StepF.one rfl fun F_ w_ hR hout hD => ?_
              exact (y_load_blk blkT_block rfl ((hout 9 rfl (by decide)).trans s325) (B245.all hR id) ⟨rfl, Kept.refl _ _⟩)
            refine stepsF_cons ?_ ?_
            · refine StepF.one rfl fun F_ w_ hR hout hD => ?_
              exact (y_mov rfl ((hout 14 rfl (by decide)).trans s332) ⟨rfl, Kept.refl _ _⟩)
            refine stepsF_cons ?_ ?_
            · refine StepF.one rfl fun F_ w_ hR hout hD => ?_
              have g49 : F_ 49 = blkV (b) := hD.get 0 rfl rfl rfl
              have g50 : F_ 50 = .int .i64 (((i : Nat) : Int)) := hD.get 1 rfl rfl rfl
              exact (y_cs rfl rfl rfl (fun _ _ => by kernel_rfl) (ev_func _) (vsC g49 (vsC g50 vsN)) (ps_line (b) (i)  _ (by omega)  ) (fun e_ w_ h_ => ⟨_, h_.1, rfl, h_.2⟩))
            exact stepsF_nil
          intro v336 F337 w338 k339 G340 hF341
          have B343 := B241.all k339 Apart.none
          have B344 := B242.all k339 Apart.none
          have B345 := B243.all k339 Apart.none
          have B346 := B244.all k339 id
          have B347 := B245.all k339 id
          have B348 := B246.all k339 id
          have B349 := B247.all k339 Apart.none
          have B350 := B248.all k339 Apart.none
          have B351 := B249.all k339 Apart.none
          have B352 := B250.all k339 id
          have K353 := K228.trans k339 (fun _ _ x => x.elim)
          have s354 : F337 1 = .int .i64 (0) := (hF341 1).trans s322
          have s355 : F337 2 = .int .i64 (nearI (x)) := (hF341 2).trans s323
          have s356 : F337 3 = .int .i64 (nearI (y)) := (hF341 3).trans s324
          have s357 : F337 9 = .pointer (some ⟨p14, 0, none⟩) := (hF341 9).trans s325
          have s358 : F337 10 = .pointer (some ⟨p30, 0, none⟩) := (hF341 10).trans s326
          have s359 : F337 11 = .pointer (some ⟨p101, 0, none⟩) := (hF341 11).trans s327
          have s360 : F337 12 = .int .i64 ((sizeF f 0).1) := (hF341 12).trans s328
          have s361 : F337 13 = .int .i64 ((sizeF f 0).2) := (hF341 13).trans s329
          have s362 : F337 55 = undef := (hF341 55).trans s330
          have s363 : F337 28 = .int .i64 (((i : Nat) : Int)) := (hF341 28).trans s331
          have s364 : F337 47 = subV (v56) ((((nearI (y)) + (((i : Nat) : Int))) * ((sizeF f 0).1)).toNat) ((((nearI (y)) + (((i : Nat) : Int))) * ((sizeF f 0).1) + ((sizeF f 0).1)).toNat) ((((nearI (y)) + (((i : Nat) : Int))) * ((sizeF f 0).1) + ((sizeF f 0).1)).toNat) := (hF341 47).trans (G340 6 (by decide))
          have s365 : F337 48 = .int .i64 (nearI (x)) := (hF341 48).trans (G340 7 (by decide))
          have s366 : F337 51 = .agg #[.int .u8 (((byteI ((b) ((i) * 4)) : Nat) : Int)), .int .u8 (((byteI ((b) ((i) * 4 + 1)) : Nat) : Int)), .int .u8 (((byteI ((b) ((i) * 4 + 2)) : Nat) : Int)), .int .u8 (((byteI ((b) ((i) * 4 + 3)) : Nat) : Int))] := (hF341 51).trans (G340 10 (by decide))
          clear G340 hF341
          refine wl_call (R := fun v_ w_ => ∃ (T369 : Nat → Prop), .tuple #[] = v_ ∧ Kept (T223) w338 w_ ∧ (Owb w_ T369 v56 (layF ((putTo f 0 x y b (4 * i)).p0) ((((nearI (y)) + (((i : Nat) : Int))) * ((sizeF f 0).1)).toNat) ((((nearI (y)) + (((i : Nat) : Int))) * ((sizeF f 0).1) + ((sizeF f 0).1)).toNat) (nearI (x)) [(byteI ((b) ((i) * 4))), (byteI ((b) ((i) * 4 + 1))), (byteI ((b) ((i) * 4 + 2))), (byteI ((b) ((i) * 4 + 3)))]) ∧ Grew w338 (T223) T369)) rfl rfl (y_cs rfl rfl rfl (fun _ _ => by kernel_rfl) (ev_func _) (vsC s364 (vsC s365 (vsC s366 vsN))) (ps_lay (v56) ((putTo f 0 x y b (4 * i)).p0) ((((nearI (y)) + (((i : Nat) : Int))) * ((sizeF f 0).1)).toNat) ((((nearI (y)) + (((i : Nat) : Int))) * ((sizeF f 0).1) + ((sizeF f 0).1)).toNat) (nearI (x)) (byteI ((b) ((i) * 4))) (byteI ((b) ((i) * 4 + 1))) (byteI ((b) ((i) * 4 + 2))) (byteI ((b) ((i) * 4 + 3))) (T223) _ (by omega) (by omega) (by omega) (byteI_lt _) (byteI_lt _) (byteI_lt _) (byteI_lt _) B349 ) (fun e_ w_ h_ => by obtain ⟨T369_, he_, hr_⟩ := h_; exact ⟨_, he_, T369_, rfl, hr_⟩)) ?_
          rintro _ w367 ⟨T369, rfl, k368, ⟨B370, g371⟩⟩
          have B372 := B343.all k368 (fun i h x => (((ap254).symm) i h x))
          have B373 := B344.all k368 (fun i h x => (((ap255).symm) i h x))
          have B374 := B345.all k368 (fun i h x => (((ap256).symm) i h x))
          have B375 := B346.all k368 (fun x => (((ap257).symm) p1 rfl x))
          have B376 := B347.all k368 (fun x => (((ap258).symm) p14 rfl x))
          have B377 := B348.all k368 (fun x => (((ap259).symm) p30 rfl x))
          have B378 := B350.all k368 (fun i h x => (((ap260).symm) i h x))
          have B379 := B351.all k368 (fun i h x => (((ap261).symm) i h x))
          have B380 := B352.all k368 (fun x => (((ap262).symm) p101 rfl x))
          have K381 := K353.trans k368 (fun i hi x => ((Grew.ok (S := fun _ => False) gr251 noB_le) i hi x))
          have gr382 := gr251.trans K353 g371
          have ap383 : Apart T369 (T_f0) := (ap254).grew g371 (B343).live
          have ap384 : Apart T369 (T_f1) := (ap255).grew g371 (B344).live
          have ap385 : Apart T369 (T_f2) := (ap256).grew g371 (B345).live
          have ap386 : Apart T369 (onB p1) := (ap257).grew g371 (onB_live (B346).lt)
          have ap387 : Apart T369 (onB p14) := (ap258).grew g371 (onB_live (B347).lt)
          have ap388 : Apart T369 (onB p30) := (ap259).grew g371 (onB_live (B348).lt)
          have ap389 : Apart T369 (T224) := (ap260).grew g371 (B350).live
          have ap390 : Apart T369 (T225) := (ap261).grew g371 (B351).live
          have ap391 : Apart T369 (onB p101) := (ap262).grew g371 (onB_live (B352).lt)
          refine wl_nil fun F392 hF393 => ?_
          have s394 : F392 1 = .int .i64 (0) := (hF393 1).trans s354
          have s395 : F392 2 = .int .i64 (nearI (x)) := (hF393 2).trans s355
          have s396 : F392 3 = .int .i64 (nearI (y)) := (hF393 3).trans s356
          have s397 : F392 9 = .pointer (some ⟨p14, 0, none⟩) := (hF393 9).trans s357
          have s398 : F392 10 = .pointer (some ⟨p30, 0, none⟩) := (hF393 10).trans s358
          have s399 : F392 11 = .pointer (some ⟨p101, 0, none⟩) := (hF393 11).trans s359
          have s400 : F392 12 = .int .i64 ((sizeF f 0).1) := (hF393 12).trans s360
          have s401 : F392 13 = .int .i64 ((sizeF f 0).2) := (hF393 13).trans s361
          have s402 : F392 55 = undef := (hF393 55).trans s362
          have s403 : F392 28 = .int .i64 (((i : Nat) : Int)) := (hF393 28).trans s363
          clear hF393
          refine in_normal ?_
          refine then_normal ?_
          refine wq_region ?_
          refine wl_v (.int .i64 (((i + 1 : Nat) : Int))) rfl rfl (y_add rfl s403 rfl (i64_n (by omega) (by omega)) ⟨rfl, rfl⟩) ?_
          refine wl_v (.int .i64 (((i + 1 : Nat) : Int))) rfl rfl (y_mov rfl rfl ⟨rfl, rfl⟩) ?_
          refine wl_nil fun F404 hF405 => ?_
          have s406 : F404 1 = .int .i64 (0) := (hF405 1).trans s394
          have s407 : F404 2 = .int .i64 (nearI (x)) := (hF405 2).trans s395
          have s408 : F404 3 = .int .i64 (nearI (y)) := (hF405 3).trans s396
          have s409 : F404 9 = .pointer (some ⟨p14, 0, none⟩) := (hF405 9).trans s397
          have s410 : F404 10 = .pointer (some ⟨p30, 0, none⟩) := (hF405 10).trans s398
          have s411 : F404 11 = .pointer (some ⟨p101, 0, none⟩) := (hF405 11).trans s399
          have s412 : F404 12 = .int .i64 ((sizeF f 0).1) := (hF405 12).trans s400
          have s413 : F404 13 = .int .i64 ((sizeF f 0).2) := (hF405 13).trans s401
          have s414 : F404 55 = undef := (hF405 55).trans s402
          have s415 : F404 28 = .int .i64 (((i + 1 : Nat) : Int)) := (hF405 28).trans rfl
          clear hF405
          exact then_normal ⟨(4 - (i + 1)), by omega, i + 1, T369, T224, T225, by omega, rfl, s406, s407, s408, s409, s410, s411, s412, s413, s414, s415, K381, B372, B373, B374, B375, B376, B377, (by first | exact Owb.of_eq hL.1 B370 | exact Owb.of_eq (hL.2 0 (by decide) (by decide) (by decide)) B370 | exact Owb.of_eq (congrArg FD.p0 (put_skip (by omega))) B370), (by first | exact Owb.of_eq hL.1 B378 | exact Owb.of_eq (hL.2 1 (by decide) (by decide) (by decide)) B378 | exact Owb.of_eq (congrArg FD.p1 (put_skip (by omega))) B378), (by first | exact Owb.of_eq hL.1 B379 | exact Owb.of_eq (hL.2 2 (by decide) (by decide) (by decide)) B379 | exact Owb.of_eq (congrArg FD.p2 (put_skip (by omega))) B379), B380, gr382, gr252, gr253, ap383, ap384, ap385, ap386, ap387, ap388, ap389, ap390, ap391, ap263, ap264, ap265, ap266, ap267, ap268, ap269, ap270, ap271, ap272, ap273, ap274, ap275, ap276, ap277⟩
        · skip
          have hsz : (sizeF f 1).1 ≠ 0 := size_two (by omega)
          have hsp := size_pos (size_some hsz)
          have hL := @put_line f 1 x y b i (by decide) (by decide) hsz ⟨by omega, by omega⟩
          have hin2 : within (sizeF f 1).1 (sizeF f 1).2 ((sizeF f 1).1 - 1) (nearI y + (i : Int)) := ⟨by omega, by omega, by omega, by omega⟩
          have hc := within_cell hin2
          have hls := put_lens x y b (4 * i) hsz
          have hp0 : (f.pl 0).length = f.p0.length := rfl
          have hp1 : (f.pl 1).length = f.p1.length := rfl
          have hp2 : (f.pl 2).length = f.p2.length := rfl
          refine wq_tail 11 [some 41, some 42, some 43, some 44, some 45, some 46, some 47, some 48, some 49, some 50, some 51] [Pd.eq (.int .i64 (1)), Pd.eq (.pointer (some ⟨p101, 2, none⟩)), Pd.eq (.pointer (some ⟨p101, 3, none⟩)), Pd.eq (v57), Pd.eq (.int .i64 ((sizeF f 1).1)), Pd.eq (.int .i64 ((nearI (y)) + (((i : Nat) : Int)))), Pd.eq (subV (v57) ((((nearI (y)) + (((i : Nat) : Int))) * ((sizeF f 1).1)).toNat) ((((nearI (y)) + (((i : Nat) : Int))) * ((sizeF f 1).1) + ((sizeF f 1).1)).toNat) ((((nearI (y)) + (((i : Nat) : Int))) * ((sizeF f 1).1) + ((sizeF f 1).1)).toNat)), Pd.eq (.int .i64 (nearI (x))), Pd.eq (blkV (b)), Pd.eq (.int .i64 (((i : Nat) : Int))), Pd.eq (.agg #[.int .u8 (((byteI ((b) ((i) * 4)) : Nat) : Int)), .int .u8 (((byteI ((b) ((i) * 4 + 1)) : Nat) : Int)), .int .u8 (((byteI ((b) ((i) * 4 + 2)) : Nat) : Int)), .int .u8 (((byteI ((b) ((i) * 4 + 3)) : Nat) : Int))])] (by kernel_rfl) (by kernel_rfl) (by kernel_rfl) ?_ ?_
          · refine stepsF_cons ?_ ?_
            · refine StepF.one rfl fun F_ w_ hR hout hD => ?_
              exact (y_mov rfl ((hout 1 rfl (by decide)).trans s322) ⟨rfl, Kept.refl _ _⟩)
            refine stepsF_cons ?_ ?_
            · refine StepF.one rfl fun F_ w_ hR hout hD => ?_
              exact (y_fieldR (n := 3) rfl ((hout 11 rfl (by decide)).trans s327) Try.underlying25 rfl (by kernel_rfl) (by decide) rfl ⟨rfl, Kept.refl _ _⟩)
            refine stepsF_cons ?_ ?_
            · refine StepF.one rfl fun F_ w_ hR hout hD => ?_
              have g42 : F_ 42 = .pointer (some ⟨p101, 2, none⟩) := hD.get 0 rfl rfl rfl
              have g41 : F_ 41 = .int .i64 (1) := hD.get 1 rfl rfl rfl
              exact (y_atR (1) (s := 1) rfl g42 g41 (by omega) Try.underlying23 (by omega) (by kernel_rfl) (by omega) ⟨rfl, Kept.refl _ _⟩)
            refine stepsF_cons ?_ ?_
            · refine StepF.one rfl fun F_ w_ hR hout hD => ?_
              have g43 : F_ 43 = .pointer (some ⟨p101, 3, none⟩) := hD.get 0 rfl rfl rfl
              exact (y_ld_stc rfl g43 Try.underlying22 (B250.all hR id) rfl rfl ⟨rfl, Kept.refl _ _⟩)
            refine stepsF_cons ?_ ?_
            · refine StepF.one rfl fun F_ w_ hR hout hD => ?_
              exact (y_mov rfl ((hout 12 rfl (by decide)).trans s328) ⟨rfl, Kept.refl _ _⟩)
            refine stepsF_cons ?_ ?_
            · refine StepF.one rfl fun F_ w_ hR hout hD => ?_
              exact (y_mov rfl ((hout 15 rfl (by decide)).trans s333) ⟨rfl, Kept.refl _ _⟩)
            refine stepsF_cons ?_ ?_
            · refine StepF.one rfl fun F_ w_ hR hout hD => ?_
              have g44 : F_ 44 = v57 := hD.get 0 rfl rfl rfl
              have g45 : F_ 45 = .int .i64 ((sizeF f 1).1) := hD.get 1 rfl rfl rfl
              have g46 : F_ 46 = .int .i64 ((nearI (y)) + (((i : Nat) : Int))) := hD.get 2 rfl rfl rfl
              exact (y_cs rfl rfl rfl (fun _ _ => by kernel_rfl) (ev_func _) (vsC g44 (vsC g45 (vsC g46 vsN))) (ps_row (v57) ((putTo f 1 x y b (4 * i)).p1) ((sizeF f 1).1) ((nearI (y)) + (((i : Nat) : Int))) (T224) _ (by omega) (by omega) (by omega) (by omega) ((B248.all hR Apart.none)).byt ) (fun e_ w_ h_ => ⟨_, h_.1, rfl, h_.2⟩))
            refine stepsF_cons ?_ ?_
            · refine StepF.one rfl fun F_ w_ hR hout hD => ?_
              exact (y_mov rfl ((hout 2 rfl (by decide)).trans s323) ⟨rfl, Kept.refl _ _⟩)
            refine stepsF_cons ?_ ?_
            · refine StepF.one rfl fun F_ w_ hR hout hD => ?_
              exact (y_load_blk blkT_block rfl ((hout 9 rfl (by decide)).trans s325) (B245.all hR id) ⟨rfl, Kept.refl _ _⟩)
            refine stepsF_cons ?_ ?_
            · refine StepF.one rfl fun F_ w_ hR hout hD => ?_
              exact (y_mov rfl ((hout 14 rfl (by decide)).trans s332) ⟨rfl, Kept.refl _ _⟩)
            refine stepsF_cons ?_ ?_
            · refine StepF.one rfl fun F_ w_ hR hout hD => ?_
              have g49 : F_ 49 = blkV (b) := hD.get 0 rfl rfl rfl
              have g50 : F_ 50 = .int .i64 (((i : Nat) : Int)) := hD.get 1 rfl rfl rfl
              exact (y_cs rfl rfl rfl (fun _ _ => by kernel_rfl) (ev_func _) (vsC g49 (vsC g50 vsN)) (ps_line (b) (i)  _ (by omega)  ) (fun e_ w_ h_ => ⟨_, h_.1, rfl, h_.2⟩))
            exact stepsF_nil
          intro v416 F417 w418 k419 G420 hF421
          have B423 := B241.all k419 Apart.none
          have B424 := B242.all k419 Apart.none
          have B425 := B243.all k419 Apart.none
          have B426 := B244.all k419 id
          have B427 := B245.all k419 id
          have B428 := B246.all k419 id
          have B429 := B247.all k419 Apart.none
          have B430 := B248.all k419 Apart.none
          have B431 := B249.all k419 Apart.none
          have B432 := B250.all k419 id
          have K433 := K228.trans k419 (fun _ _ x => x.elim)
          have s434 : F417 1 = .int .i64 (1) := (hF421 1).trans s322
          have s435 : F417 2 = .int .i64 (nearI (x)) := (hF421 2).trans s323
          have s436 : F417 3 = .int .i64 (nearI (y)) := (hF421 3).trans s324
          have s437 : F417 9 = .pointer (some ⟨p14, 0, none⟩) := (hF421 9).trans s325
          have s438 : F417 10 = .pointer (some ⟨p30, 0, none⟩) := (hF421 10).trans s326
          have s439 : F417 11 = .pointer (some ⟨p101, 0, none⟩) := (hF421 11).trans s327
          have s440 : F417 12 = .int .i64 ((sizeF f 1).1) := (hF421 12).trans s328
          have s441 : F417 13 = .int .i64 ((sizeF f 1).2) := (hF421 13).trans s329
          have s442 : F417 55 = undef := (hF421 55).trans s330
          have s443 : F417 28 = .int .i64 (((i : Nat) : Int)) := (hF421 28).trans s331
          have s444 : F417 47 = subV (v57) ((((nearI (y)) + (((i : Nat) : Int))) * ((sizeF f 1).1)).toNat) ((((nearI (y)) + (((i : Nat) : Int))) * ((sizeF f 1).1) + ((sizeF f 1).1)).toNat) ((((nearI (y)) + (((i : Nat) : Int))) * ((sizeF f 1).1) + ((sizeF f 1).1)).toNat) := (hF421 47).trans (G420 6 (by decide))
          have s445 : F417 48 = .int .i64 (nearI (x)) := (hF421 48).trans (G420 7 (by decide))
          have s446 : F417 51 = .agg #[.int .u8 (((byteI ((b) ((i) * 4)) : Nat) : Int)), .int .u8 (((byteI ((b) ((i) * 4 + 1)) : Nat) : Int)), .int .u8 (((byteI ((b) ((i) * 4 + 2)) : Nat) : Int)), .int .u8 (((byteI ((b) ((i) * 4 + 3)) : Nat) : Int))] := (hF421 51).trans (G420 10 (by decide))
          clear G420 hF421
          refine wl_call (R := fun v_ w_ => ∃ (T449 : Nat → Prop), .tuple #[] = v_ ∧ Kept (T224) w418 w_ ∧ (Owb w_ T449 v57 (layF ((putTo f 1 x y b (4 * i)).p1) ((((nearI (y)) + (((i : Nat) : Int))) * ((sizeF f 1).1)).toNat) ((((nearI (y)) + (((i : Nat) : Int))) * ((sizeF f 1).1) + ((sizeF f 1).1)).toNat) (nearI (x)) [(byteI ((b) ((i) * 4))), (byteI ((b) ((i) * 4 + 1))), (byteI ((b) ((i) * 4 + 2))), (byteI ((b) ((i) * 4 + 3)))]) ∧ Grew w418 (T224) T449)) rfl rfl (y_cs rfl rfl rfl (fun _ _ => by kernel_rfl) (ev_func _) (vsC s444 (vsC s445 (vsC s446 vsN))) (ps_lay (v57) ((putTo f 1 x y b (4 * i)).p1) ((((nearI (y)) + (((i : Nat) : Int))) * ((sizeF f 1).1)).toNat) ((((nearI (y)) + (((i : Nat) : Int))) * ((sizeF f 1).1) + ((sizeF f 1).1)).toNat) (nearI (x)) (byteI ((b) ((i) * 4))) (byteI ((b) ((i) * 4 + 1))) (byteI ((b) ((i) * 4 + 2))) (byteI ((b) ((i) * 4 + 3))) (T224) _ (by omega) (by omega) (by omega) (byteI_lt _) (byteI_lt _) (byteI_lt _) (byteI_lt _) B430 ) (fun e_ w_ h_ => by obtain ⟨T449_, he_, hr_⟩ := h_; exact ⟨_, he_, T449_, rfl, hr_⟩)) ?_
          rintro _ w447 ⟨T449, rfl, k448, ⟨B450, g451⟩⟩
          have B452 := B423.all k448 (fun i h x => (((ap263).symm) i h x))
          have B453 := B424.all k448 (fun i h x => (((ap264).symm) i h x))
          have B454 := B425.all k448 (fun i h x => (((ap265).symm) i h x))
          have B455 := B426.all k448 (fun x => (((ap266).symm) p1 rfl x))
          have B456 := B427.all k448 (fun x => (((ap267).symm) p14 rfl x))
          have B457 := B428.all k448 (fun x => (((ap268).symm) p30 rfl x))
          have B458 := B429.all k448 (fun i h x => ((ap260) i h x))
          have B459 := B431.all k448 (fun i h x => (((ap269).symm) i h x))
          have B460 := B432.all k448 (fun x => (((ap270).symm) p101 rfl x))
          have K461 := K433.trans k448 (fun i hi x => ((Grew.ok (S := fun _ => False) gr252 noB_le) i hi x))
          have gr462 := gr252.trans K433 g451
          have ap463 : Apart T449 (T_f0) := (ap263).grew g451 (B423).live
          have ap464 : Apart T449 (T_f1) := (ap264).grew g451 (B424).live
          have ap465 : Apart T449 (T_f2) := (ap265).grew g451 (B425).live
          have ap466 : Apart T449 (onB p1) := (ap266).grew g451 (onB_live (B426).lt)
          have ap467 : Apart T449 (onB p14) := (ap267).grew g451 (onB_live (B427).lt)
          have ap468 : Apart T449 (onB p30) := (ap268).grew g451 (onB_live (B428).lt)
          have ap469 : Apart T449 (T223) := ((ap260).symm).grew g451 (B429).live
          have ap470 : Apart T449 (T225) := (ap269).grew g451 (B431).live
          have ap471 : Apart T449 (onB p101) := (ap270).grew g451 (onB_live (B432).lt)
          refine wl_nil fun F472 hF473 => ?_
          have s474 : F472 1 = .int .i64 (1) := (hF473 1).trans s434
          have s475 : F472 2 = .int .i64 (nearI (x)) := (hF473 2).trans s435
          have s476 : F472 3 = .int .i64 (nearI (y)) := (hF473 3).trans s436
          have s477 : F472 9 = .pointer (some ⟨p14, 0, none⟩) := (hF473 9).trans s437
          have s478 : F472 10 = .pointer (some ⟨p30, 0, none⟩) := (hF473 10).trans s438
          have s479 : F472 11 = .pointer (some ⟨p101, 0, none⟩) := (hF473 11).trans s439
          have s480 : F472 12 = .int .i64 ((sizeF f 1).1) := (hF473 12).trans s440
          have s481 : F472 13 = .int .i64 ((sizeF f 1).2) := (hF473 13).trans s441
          have s482 : F472 55 = undef := (hF473 55).trans s442
          have s483 : F472 28 = .int .i64 (((i : Nat) : Int)) := (hF473 28).trans s443
          clear hF473
          refine in_normal ?_
          refine then_normal ?_
          refine wq_region ?_
          refine wl_v (.int .i64 (((i + 1 : Nat) : Int))) rfl rfl (y_add rfl s483 rfl (i64_n (by omega) (by omega)) ⟨rfl, rfl⟩) ?_
          refine wl_v (.int .i64 (((i + 1 : Nat) : Int))) rfl rfl (y_mov rfl rfl ⟨rfl, rfl⟩) ?_
          refine wl_nil fun F484 hF485 => ?_
          have s486 : F484 1 = .int .i64 (1) := (hF485 1).trans s474
          have s487 : F484 2 = .int .i64 (nearI (x)) := (hF485 2).trans s475
          have s488 : F484 3 = .int .i64 (nearI (y)) := (hF485 3).trans s476
          have s489 : F484 9 = .pointer (some ⟨p14, 0, none⟩) := (hF485 9).trans s477
          have s490 : F484 10 = .pointer (some ⟨p30, 0, none⟩) := (hF485 10).trans s478
          have s491 : F484 11 = .pointer (some ⟨p101, 0, none⟩) := (hF485 11).trans s479
          have s492 : F484 12 = .int .i64 ((sizeF f 1).1) := (hF485 12).trans s480
          have s493 : F484 13 = .int .i64 ((sizeF f 1).2) := (hF485 13).trans s481
          have s494 : F484 55 = undef := (hF485 55).trans s482
          have s495 : F484 28 = .int .i64 (((i + 1 : Nat) : Int)) := (hF485 28).trans rfl
          clear hF485
          exact then_normal ⟨(4 - (i + 1)), by omega, i + 1, T223, T449, T225, by omega, rfl, s486, s487, s488, s489, s490, s491, s492, s493, s494, s495, K461, B452, B453, B454, B455, B456, B457, (by first | exact Owb.of_eq hL.1 B458 | exact Owb.of_eq (hL.2 0 (by decide) (by decide) (by decide)) B458 | exact Owb.of_eq (congrArg FD.p0 (put_skip (by omega))) B458), (by first | exact Owb.of_eq hL.1 B450 | exact Owb.of_eq (hL.2 1 (by decide) (by decide) (by decide)) B450 | exact Owb.of_eq (congrArg FD.p1 (put_skip (by omega))) B450), (by first | exact Owb.of_eq hL.1 B459 | exact Owb.of_eq (hL.2 2 (by decide) (by decide) (by decide)) B459 | exact Owb.of_eq (congrArg FD.p2 (put_skip (by omega))) B459), B460, gr251, gr462, gr253, ap254, ap255, ap256, ap257, ap258, ap259, (ap469).symm, ap261, ap262, ap463, ap464, ap465, ap466, ap467, ap468, ap470, ap471, ap271, ap272, ap273, ap274, ap275, ap276, ap277⟩
        · skip
          have hsz : (sizeF f 2).1 ≠ 0 := size_two (by omega)
          have hsp := size_pos (size_some hsz)
          have hL := @put_line f 2 x y b i (by decide) (by decide) hsz ⟨by omega, by omega⟩
          have hin2 : within (sizeF f 2).1 (sizeF f 2).2 ((sizeF f 2).1 - 1) (nearI y + (i : Int)) := ⟨by omega, by omega, by omega, by omega⟩
          have hc := within_cell hin2
          have hls := put_lens x y b (4 * i) hsz
          have hp0 : (f.pl 0).length = f.p0.length := rfl
          have hp1 : (f.pl 1).length = f.p1.length := rfl
          have hp2 : (f.pl 2).length = f.p2.length := rfl
          refine wq_tail 11 [some 41, some 42, some 43, some 44, some 45, some 46, some 47, some 48, some 49, some 50, some 51] [Pd.eq (.int .i64 (2)), Pd.eq (.pointer (some ⟨p101, 2, none⟩)), Pd.eq (.pointer (some ⟨p101, 4, none⟩)), Pd.eq (v58), Pd.eq (.int .i64 ((sizeF f 2).1)), Pd.eq (.int .i64 ((nearI (y)) + (((i : Nat) : Int)))), Pd.eq (subV (v58) ((((nearI (y)) + (((i : Nat) : Int))) * ((sizeF f 2).1)).toNat) ((((nearI (y)) + (((i : Nat) : Int))) * ((sizeF f 2).1) + ((sizeF f 2).1)).toNat) ((((nearI (y)) + (((i : Nat) : Int))) * ((sizeF f 2).1) + ((sizeF f 2).1)).toNat)), Pd.eq (.int .i64 (nearI (x))), Pd.eq (blkV (b)), Pd.eq (.int .i64 (((i : Nat) : Int))), Pd.eq (.agg #[.int .u8 (((byteI ((b) ((i) * 4)) : Nat) : Int)), .int .u8 (((byteI ((b) ((i) * 4 + 1)) : Nat) : Int)), .int .u8 (((byteI ((b) ((i) * 4 + 2)) : Nat) : Int)), .int .u8 (((byteI ((b) ((i) * 4 + 3)) : Nat) : Int))])] (by kernel_rfl) (by kernel_rfl) (by kernel_rfl) ?_ ?_
          · refine stepsF_cons ?_ ?_
            · refine StepF.one rfl fun F_ w_ hR hout hD => ?_
              exact (y_mov rfl ((hout 1 rfl (by decide)).trans s322) ⟨rfl, Kept.refl _ _⟩)
            refine stepsF_cons ?_ ?_
            · refine StepF.one rfl fun F_ w_ hR hout hD => ?_
              exact (y_fieldR (n := 3) rfl ((hout 11 rfl (by decide)).trans s327) Try.underlying25 rfl (by kernel_rfl) (by decide) rfl ⟨rfl, Kept.refl _ _⟩)
            refine stepsF_cons ?_ ?_
            · refine StepF.one rfl fun F_ w_ hR hout hD => ?_
              have g42 : F_ 42 = .pointer (some ⟨p101, 2, none⟩) := hD.get 0 rfl rfl rfl
              have g41 : F_ 41 = .int .i64 (2) := hD.get 1 rfl rfl rfl
              exact (y_atR (2) (s := 1) rfl g42 g41 (by omega) Try.underlying23 (by omega) (by kernel_rfl) (by omega) ⟨rfl, Kept.refl _ _⟩)
            refine stepsF_cons ?_ ?_
            · refine StepF.one rfl fun F_ w_ hR hout hD => ?_
              have g43 : F_ 43 = .pointer (some ⟨p101, 4, none⟩) := hD.get 0 rfl rfl rfl
              exact (y_ld_stc rfl g43 Try.underlying22 (B250.all hR id) rfl rfl ⟨rfl, Kept.refl _ _⟩)
            refine stepsF_cons ?_ ?_
            · refine StepF.one rfl fun F_ w_ hR hout hD => ?_
              exact (y_mov rfl ((hout 12 rfl (by decide)).trans s328) ⟨rfl, Kept.refl _ _⟩)
            refine stepsF_cons ?_ ?_
            · refine StepF.one rfl fun F_ w_ hR hout hD => ?_
              exact (y_mov rfl ((hout 15 rfl (by decide)).trans s333) ⟨rfl, Kept.refl _ _⟩)
            refine stepsF_cons ?_ ?_
            · refine StepF.one rfl fun F_ w_ hR hout hD => ?_
              have g44 : F_ 44 = v58 := hD.get 0 rfl rfl rfl
              have g45 : F_ 45 = .int .i64 ((sizeF f 2).1) := hD.get 1 rfl rfl rfl
              have g46 : F_ 46 = .int .i64 ((nearI (y)) + (((i : Nat) : Int))) := hD.get 2 rfl rfl rfl
              exact (y_cs rfl rfl rfl (fun _ _ => by kernel_rfl) (ev_func _) (vsC g44 (vsC g45 (vsC g46 vsN))) (ps_row (v58) ((putTo f 2 x y b (4 * i)).p2) ((sizeF f 2).1) ((nearI (y)) + (((i : Nat) : Int))) (T225) _ (by omega) (by omega) (by omega) (by omega) ((B249.all hR Apart.none)).byt ) (fun e_ w_ h_ => ⟨_, h_.1, rfl, h_.2⟩))
            refine stepsF_cons ?_ ?_
            · refine StepF.one rfl fun F_ w_ hR hout hD => ?_
              exact (y_mov rfl ((hout 2 rfl (by decide)).trans s323) ⟨rfl, Kept.refl _ _⟩)
            refine stepsF_cons ?_ ?_
            · refine StepF.one rfl fun F_ w_ hR hout hD => ?_
              exact (y_load_blk blkT_block rfl ((hout 9 rfl (by decide)).trans s325) (B245.all hR id) ⟨rfl, Kept.refl _ _⟩)
            refine stepsF_cons ?_ ?_
            · refine StepF.one rfl fun F_ w_ hR hout hD => ?_
              exact (y_mov rfl ((hout 14 rfl (by decide)).trans s332) ⟨rfl, Kept.refl _ _⟩)
            refine stepsF_cons ?_ ?_
            · refine StepF.one rfl fun F_ w_ hR hout hD => ?_
              have g49 : F_ 49 = blkV (b) := hD.get 0 rfl rfl rfl
              have g50 : F_ 50 = .int .i64 (((i : Nat) : Int)) := hD.get 1 rfl rfl rfl
              exact (y_cs rfl rfl rfl (fun _ _ => by kernel_rfl) (ev_func _) (vsC g49 (vsC g50 vsN)) (ps_line (b) (i)  _ (by omega)  ) (fun e_ w_ h_ => ⟨_, h_.1, rfl, h_.2⟩))
            exact stepsF_nil
          intro v496 F497 w498 k499 G500 hF501
          have B503 := B241.all k499 Apart.none
          have B504 := B242.all k499 Apart.none
          have B505 := B243.all k499 Apart.none
          have B506 := B244.all k499 id
          have B507 := B245.all k499 id
          have B508 := B246.all k499 id
          have B509 := B247.all k499 Apart.none
          have B510 := B248.all k499 Apart.none
          have B511 := B249.all k499 Apart.none
          have B512 := B250.all k499 id
          have K513 := K228.trans k499 (fun _ _ x => x.elim)
          have s514 : F497 1 = .int .i64 (2) := (hF501 1).trans s322
          have s515 : F497 2 = .int .i64 (nearI (x)) := (hF501 2).trans s323
          have s516 : F497 3 = .int .i64 (nearI (y)) := (hF501 3).trans s324
          have s517 : F497 9 = .pointer (some ⟨p14, 0, none⟩) := (hF501 9).trans s325
          have s518 : F497 10 = .pointer (some ⟨p30, 0, none⟩) := (hF501 10).trans s326
          have s519 : F497 11 = .pointer (some ⟨p101, 0, none⟩) := (hF501 11).trans s327
          have s520 : F497 12 = .int .i64 ((sizeF f 2).1) := (hF501 12).trans s328
          have s521 : F497 13 = .int .i64 ((sizeF f 2).2) := (hF501 13).trans s329
          have s522 : F497 55 = undef := (hF501 55).trans s330
          have s523 : F497 28 = .int .i64 (((i : Nat) : Int)) := (hF501 28).trans s331
          have s524 : F497 47 = subV (v58) ((((nearI (y)) + (((i : Nat) : Int))) * ((sizeF f 2).1)).toNat) ((((nearI (y)) + (((i : Nat) : Int))) * ((sizeF f 2).1) + ((sizeF f 2).1)).toNat) ((((nearI (y)) + (((i : Nat) : Int))) * ((sizeF f 2).1) + ((sizeF f 2).1)).toNat) := (hF501 47).trans (G500 6 (by decide))
          have s525 : F497 48 = .int .i64 (nearI (x)) := (hF501 48).trans (G500 7 (by decide))
          have s526 : F497 51 = .agg #[.int .u8 (((byteI ((b) ((i) * 4)) : Nat) : Int)), .int .u8 (((byteI ((b) ((i) * 4 + 1)) : Nat) : Int)), .int .u8 (((byteI ((b) ((i) * 4 + 2)) : Nat) : Int)), .int .u8 (((byteI ((b) ((i) * 4 + 3)) : Nat) : Int))] := (hF501 51).trans (G500 10 (by decide))
          clear G500 hF501
          refine wl_call (R := fun v_ w_ => ∃ (T529 : Nat → Prop), .tuple #[] = v_ ∧ Kept (T225) w498 w_ ∧ (Owb w_ T529 v58 (layF ((putTo f 2 x y b (4 * i)).p2) ((((nearI (y)) + (((i : Nat) : Int))) * ((sizeF f 2).1)).toNat) ((((nearI (y)) + (((i : Nat) : Int))) * ((sizeF f 2).1) + ((sizeF f 2).1)).toNat) (nearI (x)) [(byteI ((b) ((i) * 4))), (byteI ((b) ((i) * 4 + 1))), (byteI ((b) ((i) * 4 + 2))), (byteI ((b) ((i) * 4 + 3)))]) ∧ Grew w498 (T225) T529)) rfl rfl (y_cs rfl rfl rfl (fun _ _ => by kernel_rfl) (ev_func _) (vsC s524 (vsC s525 (vsC s526 vsN))) (ps_lay (v58) ((putTo f 2 x y b (4 * i)).p2) ((((nearI (y)) + (((i : Nat) : Int))) * ((sizeF f 2).1)).toNat) ((((nearI (y)) + (((i : Nat) : Int))) * ((sizeF f 2).1) + ((sizeF f 2).1)).toNat) (nearI (x)) (byteI ((b) ((i) * 4))) (byteI ((b) ((i) * 4 + 1))) (byteI ((b) ((i) * 4 + 2))) (byteI ((b) ((i) * 4 + 3))) (T225) _ (by omega) (by omega) (by omega) (byteI_lt _) (byteI_lt _) (byteI_lt _) (byteI_lt _) B511 ) (fun e_ w_ h_ => by obtain ⟨T529_, he_, hr_⟩ := h_; exact ⟨_, he_, T529_, rfl, hr_⟩)) ?_
          rintro _ w527 ⟨T529, rfl, k528, ⟨B530, g531⟩⟩
          have B532 := B503.all k528 (fun i h x => (((ap271).symm) i h x))
          have B533 := B504.all k528 (fun i h x => (((ap272).symm) i h x))
          have B534 := B505.all k528 (fun i h x => (((ap273).symm) i h x))
          have B535 := B506.all k528 (fun x => (((ap274).symm) p1 rfl x))
          have B536 := B507.all k528 (fun x => (((ap275).symm) p14 rfl x))
          have B537 := B508.all k528 (fun x => (((ap276).symm) p30 rfl x))
          have B538 := B509.all k528 (fun i h x => ((ap261) i h x))
          have B539 := B510.all k528 (fun i h x => ((ap269) i h x))
          have B540 := B512.all k528 (fun x => (((ap277).symm) p101 rfl x))
          have K541 := K513.trans k528 (fun i hi x => ((Grew.ok (S := fun _ => False) gr253 noB_le) i hi x))
          have gr542 := gr253.trans K513 g531
          have ap543 : Apart T529 (T_f0) := (ap271).grew g531 (B503).live
          have ap544 : Apart T529 (T_f1) := (ap272).grew g531 (B504).live
          have ap545 : Apart T529 (T_f2) := (ap273).grew g531 (B505).live
          have ap546 : Apart T529 (onB p1) := (ap274).grew g531 (onB_live (B506).lt)
          have ap547 : Apart T529 (onB p14) := (ap275).grew g531 (onB_live (B507).lt)
          have ap548 : Apart T529 (onB p30) := (ap276).grew g531 (onB_live (B508).lt)
          have ap549 : Apart T529 (T223) := ((ap261).symm).grew g531 (B509).live
          have ap550 : Apart T529 (T224) := ((ap269).symm).grew g531 (B510).live
          have ap551 : Apart T529 (onB p101) := (ap277).grew g531 (onB_live (B512).lt)
          refine wl_nil fun F552 hF553 => ?_
          have s554 : F552 1 = .int .i64 (2) := (hF553 1).trans s514
          have s555 : F552 2 = .int .i64 (nearI (x)) := (hF553 2).trans s515
          have s556 : F552 3 = .int .i64 (nearI (y)) := (hF553 3).trans s516
          have s557 : F552 9 = .pointer (some ⟨p14, 0, none⟩) := (hF553 9).trans s517
          have s558 : F552 10 = .pointer (some ⟨p30, 0, none⟩) := (hF553 10).trans s518
          have s559 : F552 11 = .pointer (some ⟨p101, 0, none⟩) := (hF553 11).trans s519
          have s560 : F552 12 = .int .i64 ((sizeF f 2).1) := (hF553 12).trans s520
          have s561 : F552 13 = .int .i64 ((sizeF f 2).2) := (hF553 13).trans s521
          have s562 : F552 55 = undef := (hF553 55).trans s522
          have s563 : F552 28 = .int .i64 (((i : Nat) : Int)) := (hF553 28).trans s523
          clear hF553
          refine in_normal ?_
          refine then_normal ?_
          refine wq_region ?_
          refine wl_v (.int .i64 (((i + 1 : Nat) : Int))) rfl rfl (y_add rfl s563 rfl (i64_n (by omega) (by omega)) ⟨rfl, rfl⟩) ?_
          refine wl_v (.int .i64 (((i + 1 : Nat) : Int))) rfl rfl (y_mov rfl rfl ⟨rfl, rfl⟩) ?_
          refine wl_nil fun F564 hF565 => ?_
          have s566 : F564 1 = .int .i64 (2) := (hF565 1).trans s554
          have s567 : F564 2 = .int .i64 (nearI (x)) := (hF565 2).trans s555
          have s568 : F564 3 = .int .i64 (nearI (y)) := (hF565 3).trans s556
          have s569 : F564 9 = .pointer (some ⟨p14, 0, none⟩) := (hF565 9).trans s557
          have s570 : F564 10 = .pointer (some ⟨p30, 0, none⟩) := (hF565 10).trans s558
          have s571 : F564 11 = .pointer (some ⟨p101, 0, none⟩) := (hF565 11).trans s559
          have s572 : F564 12 = .int .i64 ((sizeF f 2).1) := (hF565 12).trans s560
          have s573 : F564 13 = .int .i64 ((sizeF f 2).2) := (hF565 13).trans s561
          have s574 : F564 55 = undef := (hF565 55).trans s562
          have s575 : F564 28 = .int .i64 (((i + 1 : Nat) : Int)) := (hF565 28).trans rfl
          clear hF565
          exact then_normal ⟨(4 - (i + 1)), by omega, i + 1, T223, T224, T529, by omega, rfl, s566, s567, s568, s569, s570, s571, s572, s573, s574, s575, K541, B532, B533, B534, B535, B536, B537, (by first | exact Owb.of_eq hL.1 B538 | exact Owb.of_eq (hL.2 0 (by decide) (by decide) (by decide)) B538 | exact Owb.of_eq (congrArg FD.p0 (put_skip (by omega))) B538), (by first | exact Owb.of_eq hL.1 B539 | exact Owb.of_eq (hL.2 1 (by decide) (by decide) (by decide)) B539 | exact Owb.of_eq (congrArg FD.p1 (put_skip (by omega))) B539), (by first | exact Owb.of_eq hL.1 B530 | exact Owb.of_eq (hL.2 2 (by decide) (by decide) (by decide)) B530 | exact Owb.of_eq (congrArg FD.p2 (put_skip (by omega))) B530), B540, gr251, gr252, gr542, ap254, ap255, ap256, ap257, ap258, ap259, ap260, (ap549).symm, ap262, ap263, ap264, ap265, ap266, ap267, ap268, (ap550).symm, ap270, ap543, ap544, ap545, ap546, ap547, ap548, ap551⟩
      · replace c335 := of_decide_eq_false c335
        refine wq_skip ?_
        refine in_normal ?_
        refine then_normal ?_
        refine wq_region ?_
        refine wl_v (.int .i64 (((i + 1 : Nat) : Int))) rfl rfl (y_add rfl s331 rfl (i64_n (by omega) (by omega)) ⟨rfl, rfl⟩) ?_
        refine wl_v (.int .i64 (((i + 1 : Nat) : Int))) rfl rfl (y_mov rfl rfl ⟨rfl, rfl⟩) ?_
        refine wl_nil fun F576 hF577 => ?_
        have s578 : F576 1 = .int .i64 (p) := (hF577 1).trans s322
        have s579 : F576 2 = .int .i64 (nearI (x)) := (hF577 2).trans s323
        have s580 : F576 3 = .int .i64 (nearI (y)) := (hF577 3).trans s324
        have s581 : F576 9 = .pointer (some ⟨p14, 0, none⟩) := (hF577 9).trans s325
        have s582 : F576 10 = .pointer (some ⟨p30, 0, none⟩) := (hF577 10).trans s326
        have s583 : F576 11 = .pointer (some ⟨p101, 0, none⟩) := (hF577 11).trans s327
        have s584 : F576 12 = .int .i64 ((sizeF f p).1) := (hF577 12).trans s328
        have s585 : F576 13 = .int .i64 ((sizeF f p).2) := (hF577 13).trans s329
        have s586 : F576 55 = undef := (hF577 55).trans s330
        have s587 : F576 28 = .int .i64 (((i + 1 : Nat) : Int)) := (hF577 28).trans rfl
        clear hF577
        exact then_normal ⟨(4 - (i + 1)), by omega, i + 1, T223, T224, T225, by omega, rfl, s578, s579, s580, s581, s582, s583, s584, s585, s586, s587, K228, B241, B242, B243, B244, B245, B246, (by first | exact Owb.of_eq hL.1 B247 | exact Owb.of_eq (hL.2 0 (by decide) (by decide) (by decide)) B247 | exact Owb.of_eq (congrArg FD.p0 (put_skip (by omega))) B247), (by first | exact Owb.of_eq hL.1 B248 | exact Owb.of_eq (hL.2 1 (by decide) (by decide) (by decide)) B248 | exact Owb.of_eq (congrArg FD.p1 (put_skip (by omega))) B248), (by first | exact Owb.of_eq hL.1 B249 | exact Owb.of_eq (hL.2 2 (by decide) (by decide) (by decide)) B249 | exact Owb.of_eq (congrArg FD.p2 (put_skip (by omega))) B249), B250, gr251, gr252, gr253, ap254, ap255, ap256, ap257, ap258, ap259, ap260, ap261, ap262, ap263, ap264, ap265, ap266, ap267, ap268, ap269, ap270, ap271, ap272, ap273, ap274, ap275, ap276, ap277⟩
    · skip
      refine wq_region ?_
      refine wl_v (.int .i64 ((nearI (y)) + (((i : Nat) : Int)))) rfl rfl (y_mov rfl s318 ⟨rfl, rfl⟩) ?_
      refine wl_v (.bool false) rfl rfl (y_geq rfl rfl rfl (decide_eq_false d319) ⟨rfl, rfl⟩) ?_
      refine wl_v (.bool false) rfl rfl (y_mov rfl rfl ⟨rfl, rfl⟩) ?_
      refine wl_unless 2 true 36 rfl rfl rfl (Or.inl rfl) rfl ?_
      refine wl_unless 2 true 36 rfl rfl rfl (Or.inl rfl) rfl ?_
      refine wl_unless 2 true 36 rfl rfl rfl (Or.inl rfl) rfl ?_
      refine wl_v (.bool false) rfl rfl (y_pickF rfl rfl rfl ⟨rfl, rfl⟩) ?_
      refine wl_nil fun F588 hF589 => ?_
      have s590 : F588 1 = .int .i64 (p) := (hF589 1).trans s307
      have s591 : F588 2 = .int .i64 (nearI (x)) := (hF589 2).trans s308
      have s592 : F588 3 = .int .i64 (nearI (y)) := (hF589 3).trans s309
      have s593 : F588 9 = .pointer (some ⟨p14, 0, none⟩) := (hF589 9).trans s310
      have s594 : F588 10 = .pointer (some ⟨p30, 0, none⟩) := (hF589 10).trans s311
      have s595 : F588 11 = .pointer (some ⟨p101, 0, none⟩) := (hF589 11).trans s312
      have s596 : F588 12 = .int .i64 ((sizeF f p).1) := (hF589 12).trans s313
      have s597 : F588 13 = .int .i64 ((sizeF f p).2) := (hF589 13).trans s314
      have s598 : F588 55 = undef := (hF589 55).trans s315
      have s599 : F588 28 = .int .i64 (((i : Nat) : Int)) := (hF589 28).trans s316
      have s600 : F588 14 = .int .i64 (((i : Nat) : Int)) := (hF589 14).trans s317
      have s601 : F588 15 = .int .i64 ((nearI (y)) + (((i : Nat) : Int))) := (hF589 15).trans s318
      have s602 : F588 40 = .bool false := (hF589 40).trans rfl
      clear hF589
      refine then_normal ?_
      refine wq_cond (t := false) s602 (fun e => by cases e) (fun _ => ?_)
      refine wq_skip ?_
      refine in_normal ?_
      refine then_normal ?_
      refine wq_region ?_
      refine wl_v (.int .i64 (((i + 1 : Nat) : Int))) rfl rfl (y_add rfl s599 rfl (i64_n (by omega) (by omega)) ⟨rfl, rfl⟩) ?_
      refine wl_v (.int .i64 (((i + 1 : Nat) : Int))) rfl rfl (y_mov rfl rfl ⟨rfl, rfl⟩) ?_
      refine wl_nil fun F603 hF604 => ?_
      have s605 : F603 1 = .int .i64 (p) := (hF604 1).trans s590
      have s606 : F603 2 = .int .i64 (nearI (x)) := (hF604 2).trans s591
      have s607 : F603 3 = .int .i64 (nearI (y)) := (hF604 3).trans s592
      have s608 : F603 9 = .pointer (some ⟨p14, 0, none⟩) := (hF604 9).trans s593
      have s609 : F603 10 = .pointer (some ⟨p30, 0, none⟩) := (hF604 10).trans s594
      have s610 : F603 11 = .pointer (some ⟨p101, 0, none⟩) := (hF604 11).trans s595
      have s611 : F603 12 = .int .i64 ((sizeF f p).1) := (hF604 12).trans s596
      have s612 : F603 13 = .int .i64 ((sizeF f p).2) := (hF604 13).trans s597
      have s613 : F603 55 = undef := (hF604 55).trans s598
      have s614 : F603 28 = .int .i64 (((i + 1 : Nat) : Int)) := (hF604 28).trans rfl
      clear hF604
      exact then_normal ⟨(4 - (i + 1)), by omega, i + 1, T223, T224, T225, by omega, rfl, s605, s606, s607, s608, s609, s610, s611, s612, s613, s614, K228, B241, B242, B243, B244, B245, B246, (by first | exact Owb.of_eq hL.1 B247 | exact Owb.of_eq (hL.2 0 (by decide) (by decide) (by decide)) B247 | exact Owb.of_eq (congrArg FD.p0 (put_skip (by omega))) B247), (by first | exact Owb.of_eq hL.1 B248 | exact Owb.of_eq (hL.2 1 (by decide) (by decide) (by decide)) B248 | exact Owb.of_eq (congrArg FD.p1 (put_skip (by omega))) B248), (by first | exact Owb.of_eq hL.1 B249 | exact Owb.of_eq (hL.2 2 (by decide) (by decide) (by decide)) B249 | exact Owb.of_eq (congrArg FD.p2 (put_skip (by omega))) B249), B250, gr251, gr252, gr253, ap254, ap255, ap256, ap257, ap258, ap259, ap260, ap261, ap262, ap263, ap264, ap265, ap266, ap267, ap268, ap269, ap270, ap271, ap272, ap273, ap274, ap275, ap276, ap277⟩
  · replace c291 := of_decide_eq_false c291
    refine wq_exit ?_
    refine then_exit ?_
    refine then_exit ?_
    have l615 : 4 = i := by omega
    subst l615
    refine in_here ?_
    refine then_normal ?_
    refine wq_seq ?_
    refine wq_region ?_
    refine wl_v (.agg #[.int .i64 ((copyF (f)).W), .int .i64 ((copyF (f)).H), v56, v57, v58]) rfl rfl (y_load_stc stcT_frame rfl s285 B250 ⟨rfl, rfl⟩) ?_
    refine wl_store_stc (us := [.int .i64 ((copyF (f)).W), .int .i64 ((copyF (f)).H), v56, v57, v58]) stcT_frame rfl rfl rfl s284 rfl B246 rfl (oneI rfl (oneI rfl (oneI (B247).one (oneI (B248).one (oneI (B249).one oneN))))) fun w616 B617 k618 => ?_
    have B619 := B241.all k618 (fun i h x => (((ap36).symm) i h x))
    have B620 := B242.all k618 (fun i h x => (((ap37).symm) i h x))
    have B621 := B243.all k618 (fun i h x => (((ap38).symm) i h x))
    have B622 := B244.all k618 (fun x => (((ap39).symm) p1 rfl x))
    have B623 := B245.all k618 (fun x => (((ap40).symm) p14 rfl x))
    have B624 := B247.all k618 (fun i h x => ((ap259) i h x))
    have B625 := B248.all k618 (fun i h x => ((ap268) i h x))
    have B626 := B249.all k618 (fun i h x => ((ap276) i h x))
    have B627 := B250.all k618 (fun x => ((ap112) p101 rfl x))
    have K628 := K228.trans k618 (Grew.ok (S := fun _ => False) gr35 noB_le)
    refine wl_nil fun F629 hF630 => ?_
    have s631 : F629 10 = .pointer (some ⟨p30, 0, none⟩) := (hF630 10).trans s284
    have s632 : F629 55 = undef := (hF630 55).trans s288
    clear hF630
    refine then_normal ?_
    refine wq_ret ?_
    exact end_stc (vs := [.int .i64 ((copyF (f)).W), .int .i64 ((copyF (f)).H), v56, v57, v58]) stcT_frame s632 rfl rfl s631 B617 ⟨v56, T223, v57, T224, v58, T225, (by rw [show putFr f p x y b = putTo f p x y b 16 from rfl, (put_side f p x y b 16).1, (put_side f p x y b 16).2.1]), K628, ⟨B624, gr251⟩, ⟨B625, gr252⟩, ⟨B626, gr253⟩, ap260, ap261, ap269⟩
end Go.Proofs.Ytceoidglhakanaa
namespace Go.Proofs.Ytceoidglhakanaa
open Go.RowKit

section
variable {N : Nat} {Q : (Exit → (Nat → Value) → World → Prop)} {F : Nat → Value} {w : World} {P : Program}
def StepR (N : Nat) (P : Program) (R : World → World → Prop) (D : List (Option Tmp)) (G : Nat → Value → World → Prop) (F0 : Nat → Value) (w0 : World) (i : Nat) (o : Oper) : Prop :=
  ∀ (F : Nat → Value) (w : World), R w0 w → (∀ t, Nat.blt t N = true → some t ∉ D → F t = F0 t) → DepsF D G F w o.after.toList → o.guard = none ∧ Yields P (ev F) o w (fun v w' => G i v w' ∧ R w w')
def StepsR (N : Nat) (P : Program) (R : World → World → Prop) (D : List (Option Tmp)) (G : Nat → Value → World → Prop) (F0 : Nat → Value) (w0 : World) : Nat → List Oper → Prop
  | _, [] => True
  | i, o :: r => StepR N P R D G F0 w0 i o ∧ StepsR N P R D G F0 w0 (i + 1) r
theorem StepR.step {R : World → World → Prop} {D : List (Option Tmp)} {G : Nat → Value → World → Prop} {w0 : World} {i : Nat} {o : Oper} {a0 : Act} (ha : Fr N F a0) (h : StepR N P R D G F w0 i o) : Step P R D G a0 w0 i o := by
  intro a w hR hout hD
  have h1 := h (fun t => a.tmps.getD t undef) w hR (fun t hb ht => by rw [← ha.at' t hb]; exact hout t ht) hD.toF
  rw [← eval_ev a] at h1
  unfold goes
  rw [h1.1]
  exact ⟨fun _ => h1.2, fun e => by cases e⟩
theorem StepsR.steps {R : World → World → Prop} {D : List (Option Tmp)} {G : Nat → Value → World → Prop} {w0 : World} {a0 : Act} (ha : Fr N F a0) : ∀ {os : List Oper} {i : Nat}, StepsR N P R D G F w0 i os → Steps P R D G a0 w0 i os := by
  intro os
  induction os with
  | nil => intro i _; exact trivial
  | cons o r ih => intro i h; exact ⟨h.1.step ha, ih h.2⟩
theorem stepsR_nil {R : World → World → Prop} {D : List (Option Tmp)} {G : Nat → Value → World → Prop} {F0 : Nat → Value} {w0 : World} {i : Nat} : StepsR N P R D G F0 w0 i [] := trivial
theorem stepsR_cons {R : World → World → Prop} {D : List (Option Tmp)} {G : Nat → Value → World → Prop} {F0 : Nat → Value} {w0 : World} {i : Nat} {o : Oper} {r : List Oper} (hg : o.guard = none)
    (h : ∀ (F : Nat → Value) (w : World), R w0 w → (∀ t, Nat.blt t N = true → some t ∉ D → F t = F0 t) → DepsF D G F w o.after.toList → Yields P (ev F) o w (fun v w' => G i v w' ∧ R w w')) (k : StepsR N P R D G F0 w0 (i + 1) r) : StepsR N P R D G F0 w0 i (o :: r) := ⟨fun F w h1 h2 h3 => ⟨hg, h F w h1 h2 h3⟩, k⟩
theorem wq_tailR {id : Nat} {ops : Array Oper} (n : Nat) (R : World → World → Prop) (D : List (Option Tmp)) (G : Nat → Value → World → Prop) (hm : P.follows .mixedOrders = true) (hta : tailed ops.toList n = true) (hpl : plain N 0 D (ops.toList.take n) = true)
    (hrf : ∀ a, R a a) (htr : ∀ a b c, R a b → R b c → R a c) (hdr : R w w.drew) (hst : ∀ i v w w', G i v w → R w w' → G i v w') (hsteps : StepsR N P R D G F w 0 (ops.toList.take n))
    (hend : ∀ (v : Nat → Value) (F' : Nat → Value) (w' : World), R w w' → (∀ i, i < n → G i (v i) w') → (∀ t, F' t = putsF v 0 D F t) → wl none P N ops Q (ops.toList.drop n) F' w') : wq none P N (.region id ops true) Q F w := by
  intro a ha
  refine wpIn_wide.2 ?_
  refine wp_region_any hm ?_
  have T := tailed_all hta
  have hno : ∀ j, (Array.replicate ops.size false).getD j false = false := by
    intro j
    by_cases h : j < ops.size <;> simp [Array.getD, h]
  refine wpAny_tail n T R D G (by rw [ha.size]; exact hpl) hrf htr hst (hsteps.steps ha) (fun v w' hk hG => hend v _ w' hk hG (fun _ => rfl) _ (putAll_fr v D 0 F a ha (plain_fits hpl))) ops.size _ (fun _ => undef) a _ ⟨rfl, by simp, rfl, hdr, fun _ _ => rfl, fun j _ hj => ?_, fun j hj => ?_⟩ ?_ ?_ ?_
  · rw [hno] at hj; cases hj
  · rw [hno] at hj; cases hj
  · intro k o _ hl; rw [hno] at hl; cases hl
  · intro j _; exact hno j
  · exact Nat.le_trans (List.countP_le_length) (by simp)
end

def repL (L : List Nat) (n k : Nat) : List Nat := L.take (0 + k) ++ ((((L.drop 0).take (n - 0)).drop 0).take (k - 0) |>.take (n - 0 - k) |> (· ++ L.drop (0 + k + min (n - 0 - k) (((((L.drop 0).take (n - 0)).drop 0).take (k - 0)).length))))
theorem repL_eq {L : List Nat} {n k : Nat} (hL : L.length = n) (hk : k ≤ n) : repL L n k = L.take k ++ (L.take (min (n - k) k) ++ L.drop (k + min (n - k) k)) := by
  unfold repL
  have e : ((((L.drop 0).take (n - 0)).drop 0).take (k - 0)) = L.take k := by simp; rw [← hL, List.take_length]
  rw [e]
  simp only [Nat.zero_add, Nat.sub_zero, List.take_take, List.length_take]
  rw [show min (n - k) (min k L.length) = min (n - k) k by omega]
theorem repL_length {L : List Nat} {n k : Nat} (hL : L.length = n) (hk : k ≤ n) : (repL L n k).length = n := by rw [repL_eq hL hk]; simp; omega
theorem repL_take {L : List Nat} {n k s : Nat} (hL : L.length = n) (hk : k ≤ n) (h : L.take k = List.replicate k s) : (repL L n k).take (k + min (n - k) k) = List.replicate (k + min (n - k) k) s := by
  rw [repL_eq hL hk, h, show L.take (min (n - k) k) = (L.take k).take (min (n - k) k) by rw [List.take_take]; congr 1; omega, h, List.take_replicate, show min (min (n - k) k) k = min (n - k) k by omega, ← List.append_assoc, List.replicate_append_replicate]
  rw [List.take_append_of_le_length (by simp), List.take_of_length_le (by simp)]
theorem repL_again {L : List Nat} {n k s : Nat} (hL : L.length = n) (hk : k ≤ n) (h : L.take k = List.replicate k s) : repL (repL L n k) n k = repL L n k := by
  have h2 := repL_length hL hk
  have h3 := repL_take hL hk h
  rw [repL_eq h2 hk]
  have e1 : (repL L n k).take k = List.replicate k s := by
    have : (repL L n k).take k = ((repL L n k).take (k + min (n - k) k)).take k := by rw [List.take_take]; congr 1; omega
    rw [this, h3, List.take_replicate]; congr 1; omega
  have e2 : (repL L n k).take (min (n - k) k) = List.replicate (min (n - k) k) s := by
    have : (repL L n k).take (min (n - k) k) = ((repL L n k).take (k + min (n - k) k)).take (min (n - k) k) := by rw [List.take_take]; congr 1; omega
    rw [this, h3, List.take_replicate]; congr 1; omega
  rw [e1, e2, ← List.append_assoc, List.replicate_append_replicate, ← h3, List.take_append_drop]
theorem rep_start {J l : List Nat} {n s : Nat} (hJ : J.length = n) (hn : 1 ≤ n) (hl : l.length = 1) (hs : l.getD 0 0 = s) : (J.take 0 ++ (l.take (n - 0) ++ J.drop (0 + min (n - 0) l.length))).length = n ∧ (J.take 0 ++ (l.take (n - 0) ++ J.drop (0 + min (n - 0) l.length))).take 1 = List.replicate 1 s := by
  obtain ⟨z, rfl⟩ : ∃ z, l = [z] := by
    match l, hl with
    | [z], _ => exact ⟨z, rfl⟩
  obtain rfl : z = s := by simpa using hs
  obtain ⟨m, rfl⟩ : ∃ m, n = m + 1 := ⟨n - 1, by omega⟩
  constructor
  · simp; omega
  · simp
theorem rep_done {L : List Nat} {n k s : Nat} (hk : k = n) (h : L.take k = List.replicate k s) : List.replicate n s = ((L.drop 0).take (n - 0)) := by
  subst hk; rw [List.drop_zero, Nat.sub_zero, h]

/-- What may become of the row, and of nothing else. -/
def RepR (T : Nat → Prop) (v : Value) (L L' : List Nat) (a b : World) : Prop := Kept T a b ∧ (Owb a T v L' → Owb b T v L') ∧ (Owb a T v L → Owb b T v L ∨ Owb b T v L')
theorem RepR.refl {T : Nat → Prop} {v : Value} {L L' : List Nat} (a : World) : RepR T v L L' a a := ⟨Kept.refl _ _, id, .inl⟩
theorem RepR.trans {T : Nat → Prop} {v : Value} {L L' : List Nat} {a b c : World} (h : RepR T v L L' a b) (k : RepR T v L L' b c) : RepR T v L L' a c :=
  ⟨h.1.trans k.1 (fun _ _ x => x), fun x => k.2.1 (h.2.1 x), fun x => (h.2.2 x).elim k.2.2 (fun y => .inr (k.2.1 y))⟩
theorem RepR.drew {T : Nat → Prop} {v : Value} {L L' : List Nat} (a : World) : RepR T v L L' a a.drew :=
  ⟨(Kept.refl _ _).drew, fun h => h.all (S := fun _ => False) (Kept.refl _ _).drew Apart.none, fun h => .inl (h.all (S := fun _ => False) (Kept.refl _ _).drew Apart.none)⟩
/-- What each operation answers. -/
def RepG (T : Nat → Prop) (v : Value) (L' : List Nat) (vs : List Value) (i : Nat) (x : Value) (w : World) : Prop := x = vs.getD i undef ∧ (i = 7 → Owb w T v L')
theorem RepG.stays {T : Nat → Prop} {v : Value} {L L' : List Nat} {vs : List Value} (i : Nat) (x : Value) (w w' : World) (h : RepG T v L' vs i x w) (k : RepR T v L L' w w') : RepG T v L' vs i x w' := ⟨h.1, fun e => k.2.1 (h.2 e)⟩
theorem Byt.of_eq {w : World} {T : Nat → Prop} {v : Value} {l m : List Nat} (e : m = l) (h : Byt w T v l) : Byt w T v m := e ▸ h
theorem Owb.len {w : World} {T : Nat → Prop} {v : Value} {L : List Nat} (h : Owb w T v L) : Byt w T v L := h.byt
theorem rep_turn {ρ : Operand → Value} {o : Oper} {w w0 : World} {T : Nat → Prop} {v : Value} {L : List Nat} {n k s : Nat} {c : Call} {x y : Operand} {vs : List Value} (ho : o.op = .call c) (hc : c = { callee := .builtin .copy, args := #[x, y], argTypes := #[22, 22] }) (hx : ρ x = subV (subV v 0 n n) k (n - 0) (n - 0)) (hy : ρ y = subV (subV v 0 n n) 0 k (n - 0))
    (hL : L.length = n) (hk : k ≤ n) (ht : L.take k = List.replicate k s) (h0 : Owb w0 T v L) (hR : RepR T v L (repL L n k) w0 w) (hvs : vs.getD 7 undef = .int .i64 ((min (n - k) k : Nat) : Int)) :
    Yields Try.prog ρ o w (fun r w' => RepG T v (repL L n k) vs 7 r w' ∧ RepR T v L (repL L n k) w w') := by
  have main : ∀ M : List Nat, Owb w T v M → M.length = n → repL M n k = repL L n k → Yields Try.prog ρ o w (fun r w' => RepG T v (repL L n k) vs 7 r w' ∧ RepR T v L (repL L n k) w w') := by
    intro M hM hMl he
    have hb : Byt w T (subV (subV v 0 n n) 0 k (n - 0)) ((((M.drop 0).take (n - 0)).drop 0).take (k - 0)) := by
      have h1 : Byt w T (subV v 0 n n) ((M.drop 0).take (n - 0)) := hM.byt.sub (by omega) (by omega) (by omega) (by have := hM.byt.cap; omega)
      have hcap : capV (subV v 0 n n) = n - 0 := by
        obtain ⟨a, e⟩ := sub_len hM.byt 0 n n
        rw [e]; rfl
      exact h1.sub (by omega) (by omega) (by simp; omega) (by rw [hcap]; omega)
    obtain ⟨w', hr, h1, h2⟩ := run_copyM (off := 0 + k) (n := n - 0 - k) ho hc (by rw [hx]; exact part_sub2 hM.byt (Nat.le_refl _) (Nat.le_refl _) rfl) hy hM hb (by omega)
    have h1' : Owb w' T v (repL L n k) := by rw [← he]; exact h1
    refine y_val hr ⟨⟨?_, fun _ => h1'⟩, h2, fun _ => h1', fun _ => .inr h1'⟩
    rw [hvs]
    congr 2
    simp; omega
  rcases hR.2.2 h0 with h | h
  · exact main L h hL rfl
  · exact main _ h (repL_length hL hk) (repL_again hL hk ht)
theorem rep_cutL {ρ : Operand → Value} {o : Oper} {w w0 : World} {R : Value → World → Prop} {T : Nat → Prop} {v : Value} {L : List Nat} {n k : Nat} {x lo : Operand} (ho : o.op = .slice 22 x (some lo) none none) (hx : ρ x = subV v 0 n n) (hl : ρ lo = .int .i64 (k : Int)) (hk : k ≤ n) (h0 : Owb w0 T v L) (hR : RepR T v L (repL L n k) w0 w) (h : R (subV (subV v 0 n n) k (n - 0) (n - 0)) w) : Yields Try.prog ρ o w R := by
  rcases hR.2.2 h0 with hb | hb
  · exact y_cut2L k ho hx hl rfl hb.byt (by omega) h
  · exact y_cut2L k ho hx hl rfl hb.byt (by omega) h
theorem rep_cutH {ρ : Operand → Value} {o : Oper} {w w0 : World} {R : Value → World → Prop} {T : Nat → Prop} {v : Value} {L : List Nat} {n k : Nat} {x hi : Operand} (ho : o.op = .slice 22 x none (some hi) none) (hx : ρ x = subV v 0 n n) (hl : ρ hi = .int .i64 (k : Int)) (hk : k ≤ n) (h0 : Owb w0 T v L) (hR : RepR T v L (repL L n k) w0 w) (h : R (subV (subV v 0 n n) 0 k (n - 0)) w) : Yields Try.prog ρ o w R := by
  rcases hR.2.2 h0 with hb | hb
  · exact y_cut2H k ho hx hl rfl hb.byt (by omega) h
  · exact y_cut2H k ho hx hl rfl hb.byt (by omega) h

theorem u64_small {n : Nat} (h : n < 18446744073709551616) : IntKind.u64.wrap ((n : Nat) : Int) = ((n : Nat) : Int) := by
  unfold IntKind.wrap; simp [IntKind.signed, IntKind.bits]; omega
theorem u64_mul {a b : Nat} (h : a * b < 18446744073709551616) : IntKind.u64.wrap ((a : Int) * (b : Int)) = ((a * b : Nat) : Int) := by rw [← Int.natCast_mul]; exact u64_small h
theorem and32 {n : Nat} (h : n < 4294967296) : bits .and .u64 ((n : Nat) : Int) 4294967295 = ((n : Nat) : Int) := by
  have e := u64_and_nat n 4294967295 (by omega) (by omega)
  rw [show ((4294967295 : Nat) : Int) = 4294967295 from rfl] at e
  rw [e, show (4294967295 : Nat) = 2 ^ 32 - 1 from rfl, Nat.and_two_pow_sub_one_eq_mod, Nat.mod_eq_of_lt (by simpa using h)]
theorem shr32 {n : Nat} (h : n < 4294967296) : ((n : Nat) : Int) / 2 ^ 32 = ((0 : Nat) : Int) := by
  have : (2 : Int) ^ 32 = 4294967296 := by decide
  rw [this]; omega
end Go.Proofs.Ytceoidglhakanaa
namespace Go.Proofs.Ytceoidglhakanaa
open Go.RowKit
set_option maxHeartbeats 4000000 in
set_option maxRecDepth 100000 in
theorem ps_mul64 (x y : Nat) (w0 : World) (hx : x < 4294967296) (hy : y < 4294967296) (hxy : x * y < 4294967296) :
    Calls Try.prog 57 #[.int .u64 (((x : Nat) : Int)), .int .u64 (((y : Nat) : Int))] w0 fun e w' => e = .returned (.tuple #[.int .u64 (((0 : Nat) : Int)), .int .u64 (((x * y : Nat) : Int))]) ∧ Kept (fun _ => False) w0 w' := by
  refine calls_wq (args := [.int .u64 (((x : Nat) : Int)), .int .u64 (((y : Nat) : Int))]) 51 Try.func57 rfl rfl (Nat.le_of_ble_eq_true rfl) ?_
  have K0 := Kept.refl (fun _ => False) w0
  refine wq_seq ?_
  refine wq_region ?_
  refine wl_v (.int .u64 (0)) rfl rfl (y_asg rfl rfl ⟨rfl, rfl⟩) ?_
  refine wl_v (.int .u64 (0)) rfl rfl (y_asg rfl rfl ⟨rfl, rfl⟩) ?_
  refine wl_nil fun F1 hF2 => ?_
  have s3 : F1 0 = .int .u64 (((x : Nat) : Int)) := (hF2 0).trans rfl
  have s4 : F1 1 = .int .u64 (((y : Nat) : Int)) := (hF2 1).trans rfl
  have s5 : F1 51 = undef := (hF2 51).trans rfl
  clear hF2
  refine then_normal ?_
  refine wq_seq ?_
  refine wq_region ?_
  refine wl_v (.int .u64 (((x : Nat) : Int))) rfl rfl (y_mov rfl s3 ⟨rfl, rfl⟩) ?_
  refine wl_v (.int .u64 (((x : Nat) : Int))) rfl rfl (y_andR rfl rfl rfl (and32 hx) ⟨rfl, rfl⟩) ?_
  refine wl_v (.int .u64 (((x : Nat) : Int))) rfl rfl (y_asg rfl rfl ⟨rfl, rfl⟩) ?_
  refine wl_nil fun F6 hF7 => ?_
  have s8 : F6 0 = .int .u64 (((x : Nat) : Int)) := (hF7 0).trans s3
  have s9 : F6 1 = .int .u64 (((y : Nat) : Int)) := (hF7 1).trans s4
  have s10 : F6 51 = undef := (hF7 51).trans s5
  have s11 : F6 6 = .int .u64 (((x : Nat) : Int)) := (hF7 6).trans rfl
  clear hF7
  refine then_normal ?_
  refine wq_seq ?_
  refine wq_region ?_
  refine wl_v (.int .u64 (((x : Nat) : Int))) rfl rfl (y_mov rfl s8 ⟨rfl, rfl⟩) ?_
  refine wl_v (.int .u64 (((0 : Nat) : Int))) rfl rfl (y_shrR 32 rfl rfl rfl (by decide) (shr32 hx) ⟨rfl, rfl⟩) ?_
  refine wl_v (.int .u64 (((0 : Nat) : Int))) rfl rfl (y_asg rfl rfl ⟨rfl, rfl⟩) ?_
  refine wl_nil fun F12 hF13 => ?_
  have s14 : F12 0 = .int .u64 (((x : Nat) : Int)) := (hF13 0).trans s8
  have s15 : F12 1 = .int .u64 (((y : Nat) : Int)) := (hF13 1).trans s9
  have s16 : F12 51 = undef := (hF13 51).trans s10
  have s17 : F12 6 = .int .u64 (((x : Nat) : Int)) := (hF13 6).trans s11
  have s18 : F12 7 = .int .u64 (((0 : Nat) : Int)) := (hF13 7).trans rfl
  clear hF13
  refine then_normal ?_
  refine wq_seq ?_
  refine wq_region ?_
  refine wl_v (.int .u64 (((y : Nat) : Int))) rfl rfl (y_mov rfl s15 ⟨rfl, rfl⟩) ?_
  refine wl_v (.int .u64 (((y : Nat) : Int))) rfl rfl (y_andR rfl rfl rfl (and32 hy) ⟨rfl, rfl⟩) ?_
  refine wl_v (.int .u64 (((y : Nat) : Int))) rfl rfl (y_asg rfl rfl ⟨rfl, rfl⟩) ?_
  refine wl_nil fun F19 hF20 => ?_
  have s21 : F19 0 = .int .u64 (((x : Nat) : Int)) := (hF20 0).trans s14
  have s22 : F19 1 = .int .u64 (((y : Nat) : Int)) := (hF20 1).trans s15
  have s23 : F19 51 = undef := (hF20 51).trans s16
  have s24 : F19 6 = .int .u64 (((x : Nat) : Int)) := (hF20 6).trans s17
  have s25 : F19 7 = .int .u64 (((0 : Nat) : Int)) := (hF20 7).trans s18
  have s26 : F19 8 = .int .u64 (((y : Nat) : Int)) := (hF20 8).trans rfl
  clear hF20
  refine then_normal ?_
  refine wq_seq ?_
  refine wq_region ?_
  refine wl_v (.int .u64 (((y : Nat) : Int))) rfl rfl (y_mov rfl s22 ⟨rfl, rfl⟩) ?_
  refine wl_v (.int .u64 (((0 : Nat) : Int))) rfl rfl (y_shrR 32 rfl rfl rfl (by decide) (shr32 hy) ⟨rfl, rfl⟩) ?_
  refine wl_v (.int .u64 (((0 : Nat) : Int))) rfl rfl (y_asg rfl rfl ⟨rfl, rfl⟩) ?_
  refine wl_nil fun F27 hF28 => ?_
  have s29 : F27 0 = .int .u64 (((x : Nat) : Int)) := (hF28 0).trans s21
  have s30 : F27 1 = .int .u64 (((y : Nat) : Int)) := (hF28 1).trans s22
  have s31 : F27 51 = undef := (hF28 51).trans s23
  have s32 : F27 6 = .int .u64 (((x : Nat) : Int)) := (hF28 6).trans s24
  have s33 : F27 7 = .int .u64 (((0 : Nat) : Int)) := (hF28 7).trans s25
  have s34 : F27 8 = .int .u64 (((y : Nat) : Int)) := (hF28 8).trans s26
  have s35 : F27 9 = .int .u64 (((0 : Nat) : Int)) := (hF28 9).trans rfl
  clear hF28
  refine then_normal ?_
  refine wq_seq ?_
  refine wq_region ?_
  refine wl_v (.int .u64 (((x : Nat) : Int))) rfl rfl (y_mov rfl s32 ⟨rfl, rfl⟩) ?_
  refine wl_v (.int .u64 (((y : Nat) : Int))) rfl rfl (y_mov rfl s34 ⟨rfl, rfl⟩) ?_
  refine wl_v (.int .u64 (((x * y : Nat) : Int))) rfl rfl (y_mul rfl rfl rfl (u64_mul (by omega)) ⟨rfl, rfl⟩) ?_
  refine wl_v (.int .u64 (((x * y : Nat) : Int))) rfl rfl (y_asg rfl rfl ⟨rfl, rfl⟩) ?_
  refine wl_nil fun F36 hF37 => ?_
  have s38 : F36 0 = .int .u64 (((x : Nat) : Int)) := (hF37 0).trans s29
  have s39 : F36 1 = .int .u64 (((y : Nat) : Int)) := (hF37 1).trans s30
  have s40 : F36 51 = undef := (hF37 51).trans s31
  have s41 : F36 6 = .int .u64 (((x : Nat) : Int)) := (hF37 6).trans s32
  have s42 : F36 7 = .int .u64 (((0 : Nat) : Int)) := (hF37 7).trans s33
  have s43 : F36 8 = .int .u64 (((y : Nat) : Int)) := (hF37 8).trans s34
  have s44 : F36 9 = .int .u64 (((0 : Nat) : Int)) := (hF37 9).trans s35
  have s45 : F36 10 = .int .u64 (((x * y : Nat) : Int)) := (hF37 10).trans rfl
  clear hF37
  refine then_normal ?_
  refine wq_seq ?_
  refine wq_region ?_
  refine wl_v (.int .u64 (((0 : Nat) : Int))) rfl rfl (y_mov rfl s42 ⟨rfl, rfl⟩) ?_
  refine wl_v (.int .u64 (((y : Nat) : Int))) rfl rfl (y_mov rfl s43 ⟨rfl, rfl⟩) ?_
  refine wl_v (.int .u64 (((0 : Nat) : Int))) rfl rfl (y_mul rfl rfl rfl (by rw [show (((0 : Nat) : Int)) * ((y : Nat) : Int) = ((0 : Nat) : Int) by simp]; rfl) ⟨rfl, rfl⟩) ?_
  refine wl_v (.int .u64 (((x * y : Nat) : Int))) rfl rfl (y_mov rfl s45 ⟨rfl, rfl⟩) ?_
  refine wl_v (.int .u64 (((0 : Nat) : Int))) rfl rfl (y_shrR 32 rfl rfl rfl (by decide) (shr32 hxy) ⟨rfl, rfl⟩) ?_
  refine wl_v (.int .u64 (((0 : Nat) : Int))) rfl rfl (y_add rfl rfl rfl (rfl) ⟨rfl, rfl⟩) ?_
  refine wl_v (.int .u64 (((0 : Nat) : Int))) rfl rfl (y_asg rfl rfl ⟨rfl, rfl⟩) ?_
  refine wl_nil fun F46 hF47 => ?_
  have s48 : F46 0 = .int .u64 (((x : Nat) : Int)) := (hF47 0).trans s38
  have s49 : F46 1 = .int .u64 (((y : Nat) : Int)) := (hF47 1).trans s39
  have s50 : F46 51 = undef := (hF47 51).trans s40
  have s51 : F46 6 = .int .u64 (((x : Nat) : Int)) := (hF47 6).trans s41
  have s52 : F46 7 = .int .u64 (((0 : Nat) : Int)) := (hF47 7).trans s42
  have s53 : F46 9 = .int .u64 (((0 : Nat) : Int)) := (hF47 9).trans s44
  have s54 : F46 11 = .int .u64 (((0 : Nat) : Int)) := (hF47 11).trans rfl
  clear hF47
  refine then_normal ?_
  refine wq_seq ?_
  refine wq_region ?_
  refine wl_v (.int .u64 (((0 : Nat) : Int))) rfl rfl (y_mov rfl s54 ⟨rfl, rfl⟩) ?_
  refine wl_v (.int .u64 (((0 : Nat) : Int))) rfl rfl (y_andR rfl rfl rfl (and32 (by decide)) ⟨rfl, rfl⟩) ?_
  refine wl_v (.int .u64 (((0 : Nat) : Int))) rfl rfl (y_asg rfl rfl ⟨rfl, rfl⟩) ?_
  refine wl_nil fun F55 hF56 => ?_
  have s57 : F55 0 = .int .u64 (((x : Nat) : Int)) := (hF56 0).trans s48
  have s58 : F55 1 = .int .u64 (((y : Nat) : Int)) := (hF56 1).trans s49
  have s59 : F55 51 = undef := (hF56 51).trans s50
  have s60 : F55 6 = .int .u64 (((x : Nat) : Int)) := (hF56 6).trans s51
  have s61 : F55 7 = .int .u64 (((0 : Nat) : Int)) := (hF56 7).trans s52
  have s62 : F55 9 = .int .u64 (((0 : Nat) : Int)) := (hF56 9).trans s53
  have s63 : F55 11 = .int .u64 (((0 : Nat) : Int)) := (hF56 11).trans s54
  have s64 : F55 12 = .int .u64 (((0 : Nat) : Int)) := (hF56 12).trans rfl
  clear hF56
  refine then_normal ?_
  refine wq_seq ?_
  refine wq_region ?_
  refine wl_v (.int .u64 (((0 : Nat) : Int))) rfl rfl (y_mov rfl s63 ⟨rfl, rfl⟩) ?_
  refine wl_v (.int .u64 (((0 : Nat) : Int))) rfl rfl (y_shrR 32 rfl rfl rfl (by decide) (shr32 (by decide)) ⟨rfl, rfl⟩) ?_
  refine wl_v (.int .u64 (((0 : Nat) : Int))) rfl rfl (y_asg rfl rfl ⟨rfl, rfl⟩) ?_
  refine wl_nil fun F65 hF66 => ?_
  have s67 : F65 0 = .int .u64 (((x : Nat) : Int)) := (hF66 0).trans s57
  have s68 : F65 1 = .int .u64 (((y : Nat) : Int)) := (hF66 1).trans s58
  have s69 : F65 51 = undef := (hF66 51).trans s59
  have s70 : F65 6 = .int .u64 (((x : Nat) : Int)) := (hF66 6).trans s60
  have s71 : F65 7 = .int .u64 (((0 : Nat) : Int)) := (hF66 7).trans s61
  have s72 : F65 9 = .int .u64 (((0 : Nat) : Int)) := (hF66 9).trans s62
  have s73 : F65 12 = .int .u64 (((0 : Nat) : Int)) := (hF66 12).trans s64
  have s74 : F65 13 = .int .u64 (((0 : Nat) : Int)) := (hF66 13).trans rfl
  clear hF66
  refine then_normal ?_
  refine wq_seq ?_
  refine wq_region ?_
  refine wl_v (.int .u64 (((0 : Nat) : Int))) rfl rfl (y_mov rfl s73 ⟨rfl, rfl⟩) ?_
  refine wl_v (.int .u64 (((x : Nat) : Int))) rfl rfl (y_mov rfl s70 ⟨rfl, rfl⟩) ?_
  refine wl_v (.int .u64 (((0 : Nat) : Int))) rfl rfl (y_mov rfl s72 ⟨rfl, rfl⟩) ?_
  refine wl_v (.int .u64 (((0 : Nat) : Int))) rfl rfl (y_mul rfl rfl rfl (by rw [show ((x : Nat) : Int) * (((0 : Nat) : Int)) = ((0 : Nat) : Int) by simp]; rfl) ⟨rfl, rfl⟩) ?_
  refine wl_v (.int .u64 (((0 : Nat) : Int))) rfl rfl (y_add rfl rfl rfl (rfl) ⟨rfl, rfl⟩) ?_
  refine wl_v (.int .u64 (((0 : Nat) : Int))) rfl rfl (y_asg rfl rfl ⟨rfl, rfl⟩) ?_
  refine wl_nil fun F75 hF76 => ?_
  have s77 : F75 0 = .int .u64 (((x : Nat) : Int)) := (hF76 0).trans s67
  have s78 : F75 1 = .int .u64 (((y : Nat) : Int)) := (hF76 1).trans s68
  have s79 : F75 51 = undef := (hF76 51).trans s69
  have s80 : F75 7 = .int .u64 (((0 : Nat) : Int)) := (hF76 7).trans s71
  have s81 : F75 9 = .int .u64 (((0 : Nat) : Int)) := (hF76 9).trans s72
  have s82 : F75 13 = .int .u64 (((0 : Nat) : Int)) := (hF76 13).trans s74
  have s83 : F75 12 = .int .u64 (((0 : Nat) : Int)) := (hF76 12).trans rfl
  clear hF76
  refine then_normal ?_
  refine wq_seq ?_
  refine wq_region ?_
  refine wl_v (.int .u64 (((0 : Nat) : Int))) rfl rfl (y_mov rfl s80 ⟨rfl, rfl⟩) ?_
  refine wl_v (.int .u64 (((0 : Nat) : Int))) rfl rfl (y_mov rfl s81 ⟨rfl, rfl⟩) ?_
  refine wl_v (.int .u64 (((0 : Nat) : Int))) rfl rfl (y_mul rfl rfl rfl (rfl) ⟨rfl, rfl⟩) ?_
  refine wl_v (.int .u64 (((0 : Nat) : Int))) rfl rfl (y_mov rfl s82 ⟨rfl, rfl⟩) ?_
  refine wl_v (.int .u64 (((0 : Nat) : Int))) rfl rfl (y_add rfl rfl rfl (rfl) ⟨rfl, rfl⟩) ?_
  refine wl_v (.int .u64 (((0 : Nat) : Int))) rfl rfl (y_mov rfl s83 ⟨rfl, rfl⟩) ?_
  refine wl_v (.int .u64 (((0 : Nat) : Int))) rfl rfl (y_shrR 32 rfl rfl rfl (by decide) (shr32 (by decide)) ⟨rfl, rfl⟩) ?_
  refine wl_v (.int .u64 (((0 : Nat) : Int))) rfl rfl (y_add rfl rfl rfl (rfl) ⟨rfl, rfl⟩) ?_
  refine wl_v (.int .u64 (((0 : Nat) : Int))) rfl rfl (y_asg rfl rfl ⟨rfl, rfl⟩) ?_
  refine wl_nil fun F84 hF85 => ?_
  have s86 : F84 0 = .int .u64 (((x : Nat) : Int)) := (hF85 0).trans s77
  have s87 : F84 1 = .int .u64 (((y : Nat) : Int)) := (hF85 1).trans s78
  have s88 : F84 51 = undef := (hF85 51).trans s79
  have s89 : F84 4 = .int .u64 (((0 : Nat) : Int)) := (hF85 4).trans rfl
  clear hF85
  refine then_normal ?_
  refine wq_seq ?_
  refine wq_region ?_
  refine wl_v (.int .u64 (((x : Nat) : Int))) rfl rfl (y_mov rfl s86 ⟨rfl, rfl⟩) ?_
  refine wl_v (.int .u64 (((y : Nat) : Int))) rfl rfl (y_mov rfl s87 ⟨rfl, rfl⟩) ?_
  refine wl_v (.int .u64 (((x * y : Nat) : Int))) rfl rfl (y_mul rfl rfl rfl (u64_mul (by omega)) ⟨rfl, rfl⟩) ?_
  refine wl_v (.int .u64 (((x * y : Nat) : Int))) rfl rfl (y_asg rfl rfl ⟨rfl, rfl⟩) ?_
  refine wl_nil fun F90 hF91 => ?_
  have s92 : F90 51 = undef := (hF91 51).trans s88
  have s93 : F90 4 = .int .u64 (((0 : Nat) : Int)) := (hF91 4).trans s89
  have s94 : F90 5 = .int .u64 (((x * y : Nat) : Int)) := (hF91 5).trans rfl
  clear hF91
  refine then_normal ?_
  refine wq_ret ?_
  exact end_2 s92 rfl (res_tmp (v := .int .u64 (((0 : Nat) : Int))) rfl s93) (res_tmp (v := .int .u64 (((x * y : Nat) : Int))) rfl s94) ⟨rfl, K0⟩
set_option maxHeartbeats 4000000 in
set_option maxRecDepth 100000 in
theorem ps_mul (x y : Nat) (w0 : World) (hx : x < 4294967296) (hy : y < 4294967296) (hxy : x * y < 4294967296) :
    Calls Try.prog 54 #[.int .u64 (((x : Nat) : Int)), .int .u64 (((y : Nat) : Int))] w0 fun e w' => e = .returned (.tuple #[.int .u64 (((0 : Nat) : Int)), .int .u64 (((x * y : Nat) : Int))]) ∧ Kept (fun _ => False) w0 w' := by
  refine calls_wq (args := [.int .u64 (((x : Nat) : Int)), .int .u64 (((y : Nat) : Int))]) 30 Try.func54 rfl rfl (Nat.le_of_ble_eq_true rfl) ?_
  have K0 := Kept.refl (fun _ => False) w0
  refine wq_seq ?_
  refine wq_region ?_
  refine wl_v (.int .u64 (0)) rfl rfl (y_asg rfl rfl ⟨rfl, rfl⟩) ?_
  refine wl_v (.int .u64 (0)) rfl rfl (y_asg rfl rfl ⟨rfl, rfl⟩) ?_
  refine wl_nil fun F1 hF2 => ?_
  have s3 : F1 0 = .int .u64 (((x : Nat) : Int)) := (hF2 0).trans rfl
  have s4 : F1 1 = .int .u64 (((y : Nat) : Int)) := (hF2 1).trans rfl
  have s5 : F1 30 = undef := (hF2 30).trans rfl
  clear hF2
  refine then_normal ?_
  refine wq_seq ?_
  refine wq_cond (t := false) rfl (fun e => by cases e) (fun _ => ?_)
  refine wq_skip ?_
  refine then_normal ?_
  refine wq_seq ?_
  refine wq_region ?_
  refine wl_v (.int .u64 (((x : Nat) : Int))) rfl rfl (y_mov rfl s3 ⟨rfl, rfl⟩) ?_
  refine wl_v (.int .u64 (((y : Nat) : Int))) rfl rfl (y_mov rfl s4 ⟨rfl, rfl⟩) ?_
  refine wl_call (R := fun v_ w_ => v_ = .tuple #[.int .u64 (((0 : Nat) : Int)), .int .u64 ((((x) * (y) : Nat) : Int))] ∧ Kept (fun _ => False) w0 w_) rfl rfl (y_cs rfl rfl rfl (fun _ _ => by kernel_rfl) (ev_func _) (vsC rfl (vsC rfl vsN)) (ps_mul64 (x) (y)  _ hx hy hxy  ) (fun e_ w_ h_ => ⟨_, h_.1, rfl, h_.2⟩)) ?_
  rintro _ w6 ⟨rfl, k7⟩
  have K8 := K0.trans k7 (fun _ _ x => x.elim)
  refine wl_v (.tuple #[.int .u64 (((0 : Nat) : Int)), .int .u64 ((((x) * (y) : Nat) : Int))]) rfl rfl (y_mov rfl rfl ⟨rfl, rfl⟩) ?_
  refine wl_v (.int .u64 (((0 : Nat) : Int))) rfl rfl (y_ext rfl rfl rfl ⟨rfl, rfl⟩) ?_
  refine wl_v (.int .u64 ((((x) * (y) : Nat) : Int))) rfl rfl (y_ext rfl rfl rfl ⟨rfl, rfl⟩) ?_
  refine wl_v (.int .u64 (((0 : Nat) : Int))) rfl rfl (y_asg rfl rfl ⟨rfl, rfl⟩) ?_
  refine wl_v (.int .u64 ((((x) * (y) : Nat) : Int))) rfl rfl (y_asg rfl rfl ⟨rfl, rfl⟩) ?_
  refine wl_nil fun F9 hF10 => ?_
  have s11 : F9 30 = undef := (hF10 30).trans s5
  have s12 : F9 8 = .int .u64 (((0 : Nat) : Int)) := (hF10 8).trans rfl
  have s13 : F9 9 = .int .u64 ((((x) * (y) : Nat) : Int)) := (hF10 9).trans rfl
  clear hF10
  refine then_normal ?_
  refine wq_seq ?_
  refine wq_region ?_
  refine wl_v (.int .u64 (((0 : Nat) : Int))) rfl rfl (y_mov rfl s12 ⟨rfl, rfl⟩) ?_
  refine wl_v (.int .u64 ((((x) * (y) : Nat) : Int))) rfl rfl (y_mov rfl s13 ⟨rfl, rfl⟩) ?_
  refine wl_v (.int .u64 (((0 : Nat) : Int))) rfl rfl (y_asg rfl rfl ⟨rfl, rfl⟩) ?_
  refine wl_v (.int .u64 ((((x) * (y) : Nat) : Int))) rfl rfl (y_asg rfl rfl ⟨rfl, rfl⟩) ?_
  refine wl_nil fun F14 hF15 => ?_
  have s16 : F14 30 = undef := (hF15 30).trans s11
  have s17 : F14 4 = .int .u64 (((0 : Nat) : Int)) := (hF15 4).trans rfl
  have s18 : F14 5 = .int .u64 ((((x) * (y) : Nat) : Int)) := (hF15 5).trans rfl
  clear hF15
  refine then_normal ?_
  refine wq_ret ?_
  exact end_2 s16 rfl (res_tmp (v := .int .u64 (((0 : Nat) : Int))) rfl s17) (res_tmp (v := .int .u64 ((((x) * (y) : Nat) : Int))) rfl s18) ⟨rfl, K8⟩
set_option maxHeartbeats 4000000 in
set_option maxRecDepth 100000 in
theorem ps_repeat (v : Value) (l : List Nat) (s n : Nat) (T_b : Nat → Prop) (w0 : World) (hl : l.length = 1) (hs : l.getD 0 0 = s) (hn : 1 ≤ n) (hn2 : n ≤ 64) (h_b : Byt w0 T_b v (l)) :
    Calls Try.prog 43 #[v, .int .i64 (((n : Nat) : Int))] w0 fun e w' => ∃ (v1 : Value) (T1 : Nat → Prop), e = .returned (v1) ∧ Kept (fun _ => False) w0 w' ∧ (Byt w' T1 v1 (List.replicate n s) ∧ Grew w0 noB T1) := by
  refine calls_wq (args := [v, .int .i64 (((n : Nat) : Int))]) 77 Try.func43 rfl rfl (Nat.le_of_ble_eq_true rfl) ?_
  have K0 := Kept.refl (fun _ => False) w0
  have g_b := Grew.refl w0 T_b
  refine wq_seq ?_
  refine wq_region ?_
  refine wl_v (.slice none 0 0) rfl rfl (y_asg rfl rfl ⟨rfl, rfl⟩) ?_
  refine wl_nil fun F1 hF2 => ?_
  have s3 : F1 0 = v := (hF2 0).trans rfl
  have s4 : F1 1 = .int .i64 (((n : Nat) : Int)) := (hF2 1).trans rfl
  have s5 : F1 77 = undef := (hF2 77).trans rfl
  clear hF2
  refine then_normal ?_
  refine wq_seq ?_
  refine wq_seq ?_
  refine wq_region ?_
  refine wl_v (.int .i64 (((n : Nat) : Int))) rfl rfl (y_mov rfl s4 ⟨rfl, rfl⟩) ?_
  refine wl_v (.bool (decide ((((n : Nat) : Int)) = (0)))) rfl rfl (y_eqlI rfl rfl rfl rfl ⟨rfl, rfl⟩) ?_
  refine wl_nil fun F6 hF7 => ?_
  have s8 : F6 0 = v := (hF7 0).trans s3
  have s9 : F6 1 = .int .i64 (((n : Nat) : Int)) := (hF7 1).trans s4
  have s10 : F6 77 = undef := (hF7 77).trans s5
  have s11 : F6 13 = .bool (decide ((((n : Nat) : Int)) = (0))) := (hF7 13).trans rfl
  clear hF7
  refine then_normal ?_
  refine wq_cond s11 (fun c12 => ?_) (fun c12 => ?_)
  · replace c12 := of_decide_eq_true c12
    refine wq_seq ?_
    exfalso; omega
  · replace c12 := of_decide_eq_false c12
    refine wq_skip ?_
    refine then_normal ?_
    refine wq_seq ?_
    refine wq_seq ?_
    refine wq_region ?_
    refine wl_v (.int .i64 (((n : Nat) : Int))) rfl rfl (y_mov rfl s9 ⟨rfl, rfl⟩) ?_
    refine wl_v (.bool (decide ((((n : Nat) : Int)) < (0)))) rfl rfl (y_lss rfl rfl rfl rfl ⟨rfl, rfl⟩) ?_
    refine wl_nil fun F13 hF14 => ?_
    have s15 : F13 0 = v := (hF14 0).trans s8
    have s16 : F13 1 = .int .i64 (((n : Nat) : Int)) := (hF14 1).trans s9
    have s17 : F13 77 = undef := (hF14 77).trans s10
    have s18 : F13 16 = .bool (decide ((((n : Nat) : Int)) < (0))) := (hF14 16).trans rfl
    clear hF14
    refine then_normal ?_
    refine wq_cond s18 (fun c19 => ?_) (fun c19 => ?_)
    · replace c19 := of_decide_eq_true c19
      exfalso; omega
    · replace c19 := of_decide_eq_false c19
      refine wq_skip ?_
      refine then_normal ?_
      refine wq_seq ?_
      refine wq_region ?_
      refine wl_v (v) rfl rfl (y_mov rfl s15 ⟨rfl, rfl⟩) ?_
      refine wl_v (.int .i64 ((((l).length : Nat) : Int))) rfl rfl (y_lenV rfl rfl rfl h_b ⟨rfl, rfl⟩) ?_
      refine wl_v (.int .u64 (((l.length : Nat) : Int))) rfl rfl (y_convR rfl rfl Try.underlying3 Try.underlying59 (u64_small (by omega)) ⟨rfl, rfl⟩) ?_
      refine wl_v (.int .i64 (((n : Nat) : Int))) rfl rfl (y_mov rfl s16 ⟨rfl, rfl⟩) ?_
      refine wl_v (.int .u64 (((n : Nat) : Int))) rfl rfl (y_convR rfl rfl Try.underlying3 Try.underlying59 (u64_small (by omega)) ⟨rfl, rfl⟩) ?_
      refine wl_call (R := fun v_ w_ => v_ = .tuple #[.int .u64 (((0 : Nat) : Int)), .int .u64 ((((l.length) * (n) : Nat) : Int))] ∧ Kept (fun _ => False) w0 w_) rfl rfl (y_cs rfl rfl rfl (fun _ _ => by kernel_rfl) (ev_func _) (vsC rfl (vsC rfl vsN)) (ps_mul (l.length) (n)  _ (by omega) (by omega) (by rw [hl]; omega)  ) (fun e_ w_ h_ => ⟨_, h_.1, rfl, h_.2⟩)) ?_
      rintro _ w20 ⟨rfl, k21⟩
      have B22 := h_b.all k21 Apart.none
      have K23 := K0.trans k21 (fun _ _ x => x.elim)
      refine wl_v (.tuple #[.int .u64 (((0 : Nat) : Int)), .int .u64 ((((l.length) * (n) : Nat) : Int))]) rfl rfl (y_mov rfl rfl ⟨rfl, rfl⟩) ?_
      refine wl_v (.int .u64 (((0 : Nat) : Int))) rfl rfl (y_ext rfl rfl rfl ⟨rfl, rfl⟩) ?_
      refine wl_v (.int .u64 ((((l.length) * (n) : Nat) : Int))) rfl rfl (y_ext rfl rfl rfl ⟨rfl, rfl⟩) ?_
      refine wl_v (.int .u64 (((0 : Nat) : Int))) rfl rfl (y_asg rfl rfl ⟨rfl, rfl⟩) ?_
      refine wl_v (.int .u64 ((((l.length) * (n) : Nat) : Int))) rfl rfl (y_asg rfl rfl ⟨rfl, rfl⟩) ?_
      refine wl_nil fun F24 hF25 => ?_
      have s26 : F24 0 = v := (hF25 0).trans s15
      have s27 : F24 77 = undef := (hF25 77).trans s17
      have s28 : F24 5 = .int .u64 (((0 : Nat) : Int)) := (hF25 5).trans rfl
      have s29 : F24 6 = .int .u64 ((((l.length) * (n) : Nat) : Int)) := (hF25 6).trans rfl
      clear hF25
      refine then_normal ?_
      refine wq_seq ?_
      refine wq_seq ?_
      have s30 : F24 6 = .int .u64 (((n : Nat) : Int)) := s29.trans (congrArg (Value.int .u64) (by rw [hl, Nat.one_mul]))
      refine wq_region ?_
      refine wl_v (.int .u64 (((0 : Nat) : Int))) rfl rfl (y_mov rfl s28 ⟨rfl, rfl⟩) ?_
      refine wl_v (.bool false) rfl rfl (y_gtr rfl rfl rfl rfl ⟨rfl, rfl⟩) ?_
      refine wl_v (.bool false) rfl rfl (y_mov rfl rfl ⟨rfl, rfl⟩) ?_
      refine wl_vw (.int .u64 (((n : Nat) : Int))) 2 false 29 rfl rfl rfl rfl rfl (y_mov rfl s30 ⟨rfl, rfl⟩) ?_
      refine wl_vw (.bool (decide ((9223372036854775807) < (((n : Nat) : Int))))) 2 false 29 rfl rfl rfl rfl rfl (y_gtr rfl rfl rfl rfl ⟨rfl, rfl⟩) ?_
      refine wl_v (.bool (decide ((9223372036854775807) < (((n : Nat) : Int))))) rfl rfl (y_pickF rfl rfl rfl ⟨rfl, rfl⟩) ?_
      refine wl_nil fun F31 hF32 => ?_
      have s33 : F31 0 = v := (hF32 0).trans s26
      have s34 : F31 77 = undef := (hF32 77).trans s27
      have s35 : F31 6 = .int .u64 (((n : Nat) : Int)) := (hF32 6).trans s30
      have s36 : F31 32 = .bool (decide ((9223372036854775807) < (((n : Nat) : Int)))) := (hF32 32).trans rfl
      clear hF32
      refine then_normal ?_
      refine wq_cond s36 (fun c37 => ?_) (fun c37 => ?_)
      · replace c37 := of_decide_eq_true c37
        exfalso; omega
      · replace c37 := of_decide_eq_false c37
        refine wq_skip ?_
        refine then_normal ?_
        refine wq_seq ?_
        refine wq_region ?_
        refine wl_v (.int .u64 (((n : Nat) : Int))) rfl rfl (y_mov rfl s35 ⟨rfl, rfl⟩) ?_
        refine wl_v (.int .i64 (((n : Nat) : Int))) rfl rfl (y_convR rfl rfl Try.underlying59 Try.underlying3 (i64_i rfl (by omega)) ⟨rfl, rfl⟩) ?_
        refine wl_v (.int .i64 (((n : Nat) : Int))) rfl rfl (y_asg rfl rfl ⟨rfl, rfl⟩) ?_
        refine wl_nil fun F38 hF39 => ?_
        have s40 : F38 0 = v := (hF39 0).trans s33
        have s41 : F38 77 = undef := (hF39 77).trans s34
        have s42 : F38 7 = .int .i64 (((n : Nat) : Int)) := (hF39 7).trans rfl
        clear hF39
        refine then_normal ?_
        refine wq_seq ?_
        refine wq_seq ?_
        refine wq_region ?_
        refine wl_v (v) rfl rfl (y_mov rfl s40 ⟨rfl, rfl⟩) ?_
        refine wl_v (.int .i64 ((((l).length : Nat) : Int))) rfl rfl (y_lenV rfl rfl rfl B22 ⟨rfl, rfl⟩) ?_
        refine wl_v (.bool (decide (((((l).length : Nat) : Int)) = (0)))) rfl rfl (y_eqlI rfl rfl rfl rfl ⟨rfl, rfl⟩) ?_
        refine wl_nil fun F43 hF44 => ?_
        have s45 : F43 0 = v := (hF44 0).trans s40
        have s46 : F43 77 = undef := (hF44 77).trans s41
        have s47 : F43 7 = .int .i64 (((n : Nat) : Int)) := (hF44 7).trans s42
        have s48 : F43 38 = .bool (decide (((((l).length : Nat) : Int)) = (0))) := (hF44 38).trans rfl
        clear hF44
        refine then_normal ?_
        refine wq_cond s48 (fun c49 => ?_) (fun c49 => ?_)
        · replace c49 := of_decide_eq_true c49
          refine wq_seq ?_
          exfalso; omega
        · replace c49 := of_decide_eq_false c49
          refine wq_skip ?_
          refine then_normal ?_
          refine wq_seq ?_
          refine wq_region ?_
          refine wl_v (.int .i64 (((n : Nat) : Int))) rfl rfl (y_mov rfl s47 ⟨rfl, rfl⟩) ?_
          refine wl_v (.int .i64 (((n : Nat) : Int))) rfl rfl (y_asg rfl rfl ⟨rfl, rfl⟩) ?_
          refine wl_nil fun F50 hF51 => ?_
          have s52 : F50 0 = v := (hF51 0).trans s45
          have s53 : F50 77 = undef := (hF51 77).trans s46
          have s54 : F50 7 = .int .i64 (((n : Nat) : Int)) := (hF51 7).trans s47
          have s55 : F50 8 = .int .i64 (((n : Nat) : Int)) := (hF51 8).trans rfl
          clear hF51
          refine then_normal ?_
          refine wq_seq ?_
          refine wq_seq ?_
          refine wq_region ?_
          refine wl_v (.int .i64 (((n : Nat) : Int))) rfl rfl (y_mov rfl s55 ⟨rfl, rfl⟩) ?_
          refine wl_v (.bool (decide ((8192) < (((n : Nat) : Int))))) rfl rfl (y_gtr rfl rfl rfl rfl ⟨rfl, rfl⟩) ?_
          refine wl_nil fun F56 hF57 => ?_
          have s58 : F56 0 = v := (hF57 0).trans s52
          have s59 : F56 77 = undef := (hF57 77).trans s53
          have s60 : F56 7 = .int .i64 (((n : Nat) : Int)) := (hF57 7).trans s54
          have s61 : F56 8 = .int .i64 (((n : Nat) : Int)) := (hF57 8).trans s55
          have s62 : F56 42 = .bool (decide ((8192) < (((n : Nat) : Int)))) := (hF57 42).trans rfl
          clear hF57
          refine then_normal ?_
          refine wq_cond s62 (fun c63 => ?_) (fun c63 => ?_)
          · replace c63 := of_decide_eq_true c63
            refine wq_seq ?_
            exfalso; omega
          · replace c63 := of_decide_eq_false c63
            refine wq_skip ?_
            refine then_normal ?_
            refine wq_seq ?_
            refine wq_region ?_
            refine wl_v (.int .i64 (((n : Nat) : Int))) rfl rfl (y_mov rfl s60 ⟨rfl, rfl⟩) ?_
            refine wl_mnz (n := n) rfl rfl rfl rfl rfl (by omega) (by omega) Try.func55 (by kernel_rfl) (by kernel_rfl) (by kernel_rfl) (by kernel_rfl) fun v64 w65 T69 J70 B67 hJ71 g68 k66 => ?_
            have gr72 : Grew w0 noB (T69) := Grew.new K23 g68
            have ap73 : Apart (T69) (T_b) := Apart.new g68 (B22).live
            have B74 := B22.all k66 Apart.none
            have K75 := K23.trans k66 (fun _ _ x => x.elim)
            refine wl_v (.int .i64 (((n : Nat) : Int))) rfl rfl (y_mov rfl s60 ⟨rfl, rfl⟩) ?_
            refine wl_v (.int .i64 (((n : Nat) : Int))) rfl rfl (y_mov rfl s60 ⟨rfl, rfl⟩) ?_
            refine wl_v (subV (v64) (0) (n) (n)) rfl rfl (y_cut3T (n) (n) rfl rfl rfl rfl (by omega) (by omega) (B67).byt (by omega) (by omega) ⟨rfl, rfl⟩) ?_
            refine wl_v (subV (v64) (0) (n) (n)) rfl rfl (y_asg rfl rfl ⟨rfl, rfl⟩) ?_
            refine wl_nil fun F76 hF77 => ?_
            have s78 : F76 0 = v := (hF77 0).trans s58
            have s79 : F76 77 = undef := (hF77 77).trans s59
            have s80 : F76 7 = .int .i64 (((n : Nat) : Int)) := (hF77 7).trans s60
            have s81 : F76 8 = .int .i64 (((n : Nat) : Int)) := (hF77 8).trans s61
            have s82 : F76 9 = subV (v64) (0) (n) (n) := (hF77 9).trans rfl
            clear hF77
            refine then_normal ?_
            refine wq_seq ?_
            refine wq_region ?_
            refine wl_v (subV (v64) (0) (n) (n)) rfl rfl (y_mov rfl s82 ⟨rfl, rfl⟩) ?_
            refine wl_v (v) rfl rfl (y_mov rfl s78 ⟨rfl, rfl⟩) ?_
            refine wl_copyM rfl rfl rfl rfl rfl (part_sub (B67).byt (by omega)) rfl B67 B74 (by omega) fun w84 B86 k85 => ?_
            have B89 := B74.all k85 (fun i h x => (((ap73).symm) i h x))
            have K90 := K75.trans k85 (Grew.ok (S := fun _ => False) gr72 noB_le)
            refine wl_v (.int .i64 (((min ((n) - (0)) (l).length : Nat) : Int))) rfl rfl (y_asg rfl rfl ⟨rfl, rfl⟩) ?_
            refine wl_nil fun F91 hF92 => ?_
            have s93 : F91 77 = undef := (hF92 77).trans s79
            have s94 : F91 7 = .int .i64 (((n : Nat) : Int)) := (hF92 7).trans s80
            have s95 : F91 8 = .int .i64 (((n : Nat) : Int)) := (hF92 8).trans s81
            have s96 : F91 9 = subV (v64) (0) (n) (n) := (hF92 9).trans s82
            have s97 : F91 10 = .int .i64 (((min ((n) - (0)) (l).length : Nat) : Int)) := (hF92 10).trans rfl
            clear hF92
            refine then_normal ?_
            refine wq_seq ?_
            refine wq_block ?_
            refine wq_loop (fun nn FF ww => ∃ (k : Nat), ∃ (L : List Nat), ∃ (T98 : Nat → Prop), (1 ≤ k ∧ k ≤ n) ∧ (L.length = n) ∧ (L.take k = List.replicate k s) ∧ nn = n - k ∧ FF 7 = .int .i64 (((n : Nat) : Int)) ∧ FF 8 = .int .i64 (((n : Nat) : Int)) ∧ FF 9 = subV (v64) (0) (n) (n) ∧ FF 77 = undef ∧ FF 10 = .int .i64 (((k : Nat) : Int)) ∧ Kept (fun _ => False) w0 ww ∧ Byt ww (T_b) v (l) ∧ Owb ww (T98) v64 (L) ∧ Grew w0 (noB) T98 ∧ Apart (T98) (T_b)) (n - (1)) ⟨1, _, T69, by omega, (rep_start (by assumption) hn hl hs).1, (rep_start (by assumption) hn hl hs).2, rfl, s94, s95, s96, s93, s97.trans (congrArg (Value.int .i64) (by omega)), K90, B89, B86, gr72, ap73⟩ ?_
            rintro n102 F99 w100 ⟨k, L, T98, i103, hLn, hT, hn102, s104, s105, s106, s107, s108, K101, B109, B110, gr111, ap112⟩
            refine wq_seq ?_
            refine wq_seq ?_
            refine wq_region ?_
            refine wl_v (.int .i64 (((k : Nat) : Int))) rfl rfl (y_mov rfl s108 ⟨rfl, rfl⟩) ?_
            refine wl_v (.int .i64 (((n : Nat) : Int))) rfl rfl (y_mov rfl s104 ⟨rfl, rfl⟩) ?_
            refine wl_v (.bool (decide ((((k : Nat) : Int)) < (((n : Nat) : Int))))) rfl rfl (y_lss rfl rfl rfl rfl ⟨rfl, rfl⟩) ?_
            refine wl_nil fun F113 hF114 => ?_
            have s115 : F113 7 = .int .i64 (((n : Nat) : Int)) := (hF114 7).trans s104
            have s116 : F113 8 = .int .i64 (((n : Nat) : Int)) := (hF114 8).trans s105
            have s117 : F113 9 = subV (v64) (0) (n) (n) := (hF114 9).trans s106
            have s118 : F113 77 = undef := (hF114 77).trans s107
            have s119 : F113 10 = .int .i64 (((k : Nat) : Int)) := (hF114 10).trans s108
            have s120 : F113 63 = .bool (decide ((((k : Nat) : Int)) < (((n : Nat) : Int)))) := (hF114 63).trans rfl
            clear hF114
            refine then_normal ?_
            refine wq_cond s120 (fun c121 => ?_) (fun c121 => ?_)
            · replace c121 := of_decide_eq_true c121
              refine wq_skip ?_
              refine then_normal ?_
              refine wq_block ?_
              refine wq_seq ?_
              refine wq_region ?_
              refine wl_v (.int .i64 (((k : Nat) : Int))) rfl rfl (y_mov rfl s119 ⟨rfl, rfl⟩) ?_
              refine wl_v (.int .i64 (((n : Nat) : Int))) rfl rfl (y_mov rfl s116 ⟨rfl, rfl⟩) ?_
              refine wl_v (.int .i64 (((k : Nat) : Int))) rfl rfl (y_minR rfl rfl rfl (by omega) ⟨rfl, rfl⟩) ?_
              refine wl_v (.int .i64 (((k : Nat) : Int))) rfl rfl (y_asg rfl rfl ⟨rfl, rfl⟩) ?_
              refine wl_nil fun F122 hF123 => ?_
              have s124 : F122 7 = .int .i64 (((n : Nat) : Int)) := (hF123 7).trans s115
              have s125 : F122 8 = .int .i64 (((n : Nat) : Int)) := (hF123 8).trans s116
              have s126 : F122 9 = subV (v64) (0) (n) (n) := (hF123 9).trans s117
              have s127 : F122 77 = undef := (hF123 77).trans s118
              have s128 : F122 10 = .int .i64 (((k : Nat) : Int)) := (hF123 10).trans s119
              have s129 : F122 11 = .int .i64 (((k : Nat) : Int)) := (hF123 11).trans rfl
              clear hF123
              refine then_normal ?_
              refine wq_tailR 9 (RepR (T98) v64 L (repL L n k)) [some 67, some 68, some 69, some 70, some 71, some 72, some 73, some 74, some 75] (RepG (T98) v64 (repL L n k) [.int .i64 (k : Int), subV v64 0 n n, .int .i64 (k : Int), subV (subV v64 0 n n) k (n - 0) (n - 0), subV v64 0 n n, .int .i64 (k : Int), subV (subV v64 0 n n) 0 k (n - 0), .int .i64 ((min (n - k) k : Nat) : Int), .int .i64 ((k + min (n - k) k : Nat) : Int)]) (by kernel_rfl) (by kernel_rfl) (by kernel_rfl) RepR.refl (fun _ _ _ h1 h2 => h1.trans h2) (RepR.drew _) RepG.stays ?_ ?_
              · refine stepsR_cons rfl (fun F_ w_ hR hout hD => ?_) ?_
                · exact y_mov rfl ((hout 10 rfl (by decide)).trans s128) ⟨⟨rfl, fun e => by cases e⟩, RepR.refl _⟩
                refine stepsR_cons rfl (fun F_ w_ hR hout hD => ?_) ?_
                · exact y_mov rfl ((hout 9 rfl (by decide)).trans s126) ⟨⟨rfl, fun e => by cases e⟩, RepR.refl _⟩
                refine stepsR_cons rfl (fun F_ w_ hR hout hD => ?_) ?_
                · exact y_mov rfl ((hout 10 rfl (by decide)).trans s128) ⟨⟨rfl, fun e => by cases e⟩, RepR.refl _⟩
                refine stepsR_cons rfl (fun F_ w_ hR hout hD => ?_) ?_
                · have g68 : F_ 68 = subV v64 0 n n := (hD.get 0 rfl rfl rfl).1
                  have g69 : F_ 69 = .int .i64 (k : Int) := (hD.get 1 rfl rfl rfl).1
                  exact rep_cutL rfl g68 g69 (by omega) B110 hR ⟨⟨rfl, fun e => by cases e⟩, RepR.refl _⟩
                refine stepsR_cons rfl (fun F_ w_ hR hout hD => ?_) ?_
                · exact y_mov rfl ((hout 9 rfl (by decide)).trans s126) ⟨⟨rfl, fun e => by cases e⟩, RepR.refl _⟩
                refine stepsR_cons rfl (fun F_ w_ hR hout hD => ?_) ?_
                · exact y_mov rfl ((hout 11 rfl (by decide)).trans s129) ⟨⟨rfl, fun e => by cases e⟩, RepR.refl _⟩
                refine stepsR_cons rfl (fun F_ w_ hR hout hD => ?_) ?_
                · have g71 : F_ 71 = subV v64 0 n n := (hD.get 0 rfl rfl rfl).1
                  have g72 : F_ 72 = .int .i64 (k : Int) := (hD.get 1 rfl rfl rfl).1
                  exact rep_cutH rfl g71 g72 (by omega) B110 hR ⟨⟨rfl, fun e => by cases e⟩, RepR.refl _⟩
                refine stepsR_cons rfl (fun F_ w_ hR hout hD => ?_) ?_
                · have g70 : F_ 70 = subV (subV v64 0 n n) k (n - 0) (n - 0) := (hD.get 0 rfl rfl rfl).1
                  have g73 : F_ 73 = subV (subV v64 0 n n) 0 k (n - 0) := (hD.get 1 rfl rfl rfl).1
                  exact rep_turn rfl rfl g70 g73 hLn (by omega) hT B110 hR rfl
                refine stepsR_cons rfl (fun F_ w_ hR hout hD => ?_) ?_
                · have g67 : F_ 67 = .int .i64 (k : Int) := (hD.get 0 rfl rfl rfl).1
                  have g74 : F_ 74 = .int .i64 ((min (n - k) k : Nat) : Int) := (hD.get 1 rfl rfl rfl).1
                  exact y_add rfl g67 g74 (i64_n (m := k + min (n - k) k) (by omega) (by omega)) ⟨⟨rfl, fun e => by cases e⟩, RepR.refl _⟩
                exact stepsR_nil
              intro v130 F131 w132 R133 G134 hF135
              have k136 := R133.1
              have B137 := (G134 7 (by decide)).2 rfl
              have B138 := B109.all k136 (fun i h x => (((ap112).symm) i h x))
              have K139 := K101.trans k136 (Grew.ok (S := fun _ => False) gr111 noB_le)
              have s140 : F131 7 = .int .i64 (((n : Nat) : Int)) := (hF135 7).trans s124
              have s141 : F131 8 = .int .i64 (((n : Nat) : Int)) := (hF135 8).trans s125
              have s142 : F131 9 = subV (v64) (0) (n) (n) := (hF135 9).trans s126
              have s143 : F131 77 = undef := (hF135 77).trans s127
              have s144 : F131 10 = .int .i64 (((k : Nat) : Int)) := (hF135 10).trans s128
              have s145 : F131 75 = .int .i64 (((k + min (n - k) k : Nat) : Int)) := (hF135 75).trans (G134 8 (by decide)).1
              clear R133 G134 hF135
              refine wl_v (.int .i64 (((k + min (n - k) k : Nat) : Int))) rfl rfl (y_asg rfl s145 ⟨rfl, rfl⟩) ?_
              refine wl_nil fun F146 hF147 => ?_
              have s148 : F146 7 = .int .i64 (((n : Nat) : Int)) := (hF147 7).trans s140
              have s149 : F146 8 = .int .i64 (((n : Nat) : Int)) := (hF147 8).trans s141
              have s150 : F146 9 = subV (v64) (0) (n) (n) := (hF147 9).trans s142
              have s151 : F146 77 = undef := (hF147 77).trans s143
              have s152 : F146 10 = .int .i64 (((k + min (n - k) k : Nat) : Int)) := (hF147 10).trans rfl
              clear hF147
              refine in_normal ?_
              exact then_normal ⟨(n - (k + min (n - k) k)), by omega, k + min (n - k) k, _, T98, by omega, repL_length hLn (by omega), repL_take hLn (by omega) hT, rfl, s148, s149, s150, s151, s152, K139, B138, B137, gr111, ap112⟩
            · replace c121 := of_decide_eq_false c121
              refine wq_exit ?_
              refine then_exit ?_
              refine then_exit ?_
              refine in_here ?_
              refine then_normal ?_
              refine wq_seq ?_
              refine wq_region ?_
              refine wl_v (subV (v64) (0) (n) (n)) rfl rfl (y_mov rfl s117 ⟨rfl, rfl⟩) ?_
              refine wl_v (subV (v64) (0) (n) (n)) rfl rfl (y_asg rfl rfl ⟨rfl, rfl⟩) ?_
              refine wl_nil fun F153 hF154 => ?_
              have s155 : F153 77 = undef := (hF154 77).trans s118
              have s156 : F153 4 = subV (v64) (0) (n) (n) := (hF154 4).trans rfl
              clear hF154
              refine then_normal ?_
              refine wq_ret ?_
              exact end_tmp (v := subV (v64) (0) (n) (n)) s155 rfl rfl s156 ⟨(subV (v64) (0) (n) (n)), T98, rfl, K101, ⟨(Byt.of_eq (rep_done (by omega) hT) (((B110).byt).sub (i := 0) (j := n) (m := n) (by omega) (by have hc_ := ((B110).byt).cap; omega) (by omega) (by have hc_ := ((B110).byt).cap; omega))), gr111⟩⟩
end Go.Proofs.Ytceoidglhakanaa
