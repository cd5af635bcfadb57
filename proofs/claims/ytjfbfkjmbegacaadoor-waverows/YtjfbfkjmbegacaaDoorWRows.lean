/- The walk of the law on rows that are alike. -/
import Derived.Test.YtjfbfkjmbegacaaDoorWLaws
namespace Go.Proofs.YtjfbfkjmbegacaaDoor
open Go.RowKit

theorem arrT4 : ArrT 35 4 := ArrT.of Tryd.underlying35 (by kernel_rfl)
def xr (a b c d : Int) : Nat → Int := fun i => blL [a, b, c, d] (i % 4)
def yr (a b c d : Int) : Nat → Int := fun i => blL [a, b, c, d] (i / 4)
theorem four {p : Nat → Prop} (h : p 0 ∧ p 1 ∧ p 2 ∧ p 3) (i : Nat) (hi : i < 4) : p i := by
  obtain ⟨h0, h1, h2, h3⟩ := h
  have e : i = 0 ∨ i = 1 ∨ i = 2 ∨ i = 3 := by omega
  rcases e with rfl | rfl | rfl | rfl <;> assumption

section
variable {a b c d : Int} (h : (-32768 ≤ a ∧ a ≤ 32767) ∧ (-32768 ≤ b ∧ b ≤ 32767) ∧ (-32768 ≤ c ∧ c ≤ 32767) ∧ (-32768 ≤ d ∧ d ≤ 32767))
include h
theorem l4_le (i : Nat) : -1048576 ≤ blL [a, b, c, d] i ∧ blL [a, b, c, d] i ≤ 1048576 := by
  by_cases hi : i < 4
  · revert i; intro i hi; revert hi; revert i
    exact fun i hi => four (p := fun i => -1048576 ≤ blL [a, b, c, d] i ∧ blL [a, b, c, d] i ≤ 1048576) (by simp only [blL, List.getD_cons_zero, List.getD_cons_succ]; omega) i hi
  · have : blL [a, b, c, d] i = 0 := by unfold blL; rw [List.getD_eq_getElem?_getD, List.getElem?_eq_none (by simp; omega)]; rfl
    omega
theorem xr_in : clB 1048576 (xr a b c d) = xr a b c d := clB_in fun i => l4_le h (i % 4)
theorem yr_in : clB 1048576 (yr a b c d) = yr a b c d := clB_in fun i => l4_le h (i / 4)

theorem rows_law : (∀ i, i < 16 → 4 ≤ i → fwd (clB 1048576 (xr a b c d)) i = 0) ∧ (∀ i, i < 16 → i % 4 ≠ 0 → fwd (clB 1048576 (yr a b c d)) i = 0) ∧
    fwd (clB 1048576 (xr a b c d)) 0 = fwd (clB 1048576 (yr a b c d)) 0 ∧ fwd (clB 1048576 (xr a b c d)) 1 = fwd (clB 1048576 (yr a b c d)) 4 ∧
    fwd (clB 1048576 (xr a b c d)) 2 = fwd (clB 1048576 (yr a b c d)) 8 ∧ fwd (clB 1048576 (xr a b c d)) 3 = fwd (clB 1048576 (yr a b c d)) 12 := by
  rw [xr_in h, yr_in h]
  obtain ⟨h00, h01, h02, h03, h10, h11, h12, h13, h20, h21, h22, h23, h30, h31, h32, h33⟩ := waves_all
  refine ⟨all16 ?_, all16 ?_, ?_, ?_, ?_, ?_⟩ <;>
    simp only [fwd, turn, xr, yr, Nat.reduceMod, Nat.reduceDiv, Nat.reduceMul, Nat.reduceAdd, h00, h01, h02, h03, h10, h11, h12, h13, h20, h21, h22, h23, h30, h31, h32, h33, Int.mul_one, Int.mul_neg, Nat.zero_mod, Nat.zero_div, blL, List.getD_cons_zero, List.getD_cons_succ]
  · refine ⟨?_, ?_, ?_, ?_, ?_, ?_, ?_, ?_, ?_, ?_, ?_, ?_, ?_, ?_, ?_, ?_⟩ <;> omega
  · refine ⟨?_, ?_, ?_, ?_, ?_, ?_, ?_, ?_, ?_, ?_, ?_, ?_, ?_, ?_, ?_, ?_⟩ <;> omega
  all_goals omega
end

set_option maxHeartbeats 4000000 in
set_option maxRecDepth 100000 in
theorem rows_walk (a b c d : Int) (w0 : World) (hw : Waves w0) (hn : (-32768 ≤ a ∧ a ≤ 32767) ∧ (-32768 ≤ b ∧ b ≤ 32767) ∧ (-32768 ≤ c ∧ c ≤ 32767) ∧ (-32768 ≤ d ∧ d ≤ 32767)) :
    Calls Tryd.prog 8 #[.int .i16 (a), .int .i16 (b), .int .i16 (c), .int .i16 (d)] w0 fun e w' => e = .returned (.bool true) ∧ Kept (fun _ => False) w0 w' := by
  refine calls_wq (args := [.int .i16 (a), .int .i16 (b), .int .i16 (c), .int .i16 (d)]) 101 Tryd.func8 rfl rfl (Nat.le_of_ble_eq_true rfl) ?_
  have K0 := Kept.refl (fun _ => False) w0
  have hR := rows_law hn
  refine wq_seq ?_
  refine wq_region ?_
  refine wl_v (.bool false) rfl rfl (y_asg rfl rfl ⟨rfl, rfl⟩) ?_
  refine wl_nil fun F1 hF2 => ?_
  have s3 : F1 0 = .int .i16 (a) := (hF2 0).trans rfl
  have s4 : F1 1 = .int .i16 (b) := (hF2 1).trans rfl
  have s5 : F1 2 = .int .i16 (c) := (hF2 2).trans rfl
  have s6 : F1 3 = .int .i16 (d) := (hF2 3).trans rfl
  have s7 : F1 8 = .bool false := (hF2 8).trans rfl
  clear hF2
  refine then_normal ?_
  refine wq_seq ?_
  refine wq_region ?_
  refine wl_call (R := fun v_ w_ => v_ = .bool true ∧ Kept (fun _ => False) w0 w_) rfl rfl (y_cs rfl rfl rfl (fun _ _ => by kernel_rfl) (ev_func _) vsN (awake_any  _ (hw.all K0)) (fun e_ w_ h_ => ⟨_, h_.1, rfl, h_.2⟩)) ?_
  rintro _ w8 ⟨rfl, k9⟩
  have K10 := K0.trans k9 (fun _ _ x => x)
  refine wl_v (.bool true) rfl rfl (y_asg rfl rfl ⟨rfl, rfl⟩) ?_
  refine wl_nil fun F11 hF12 => ?_
  have s13 : F11 0 = .int .i16 (a) := (hF12 0).trans s3
  have s14 : F11 1 = .int .i16 (b) := (hF12 1).trans s4
  have s15 : F11 2 = .int .i16 (c) := (hF12 2).trans s5
  have s16 : F11 3 = .int .i16 (d) := (hF12 3).trans s6
  have s17 : F11 8 = .bool false := (hF12 8).trans s7
  have s18 : F11 9 = .bool true := (hF12 9).trans rfl
  clear hF12
  refine then_normal ?_
  refine wq_seq ?_
  refine wq_region ?_
  refine wl_v (.int .i16 (a)) rfl rfl (y_mov rfl s13 ⟨rfl, rfl⟩) ?_
  refine wl_v (.int .i64 (a)) rfl rfl (y_convR rfl rfl Tryd.underlying33 Tryd.underlying3 (i64_i rfl (by omega)) ⟨rfl, rfl⟩) ?_
  refine wl_v (.int .i16 (b)) rfl rfl (y_mov rfl s14 ⟨rfl, rfl⟩) ?_
  refine wl_v (.int .i64 (b)) rfl rfl (y_convR rfl rfl Tryd.underlying33 Tryd.underlying3 (i64_i rfl (by omega)) ⟨rfl, rfl⟩) ?_
  refine wl_v (.int .i16 (c)) rfl rfl (y_mov rfl s15 ⟨rfl, rfl⟩) ?_
  refine wl_v (.int .i64 (c)) rfl rfl (y_convR rfl rfl Tryd.underlying33 Tryd.underlying3 (i64_i rfl (by omega)) ⟨rfl, rfl⟩) ?_
  refine wl_v (.int .i16 (d)) rfl rfl (y_mov rfl s16 ⟨rfl, rfl⟩) ?_
  refine wl_v (.int .i64 (d)) rfl rfl (y_convR rfl rfl Tryd.underlying33 Tryd.underlying3 (i64_i rfl (by omega)) ⟨rfl, rfl⟩) ?_
  refine wl_v (.agg (arrL 4 (blL [a, b, c, d])).toArray) rfl rfl (y_buildL (l' := [(0, .int .i64 (a)), (1, .int .i64 (b)), (2, .int .i64 (c)), (3, .int .i64 (d))]) (cells := (arrL 4 (blL [a, b, c, d])).toArray) rfl (bpC rfl (bpC rfl (bpC rfl (bpC rfl bpN)))) (by kernel_rfl) rfl ⟨rfl, rfl⟩) ?_
  refine wl_alloc_arr rfl rfl rfl arrT4.2.2 fun p19 w20 e23 B21 k22 => ?_
  have lp24 : w0.heap.size ≤ p19 := by have h_ := K10.size; omega
  clear e23
  have K25 := K10.trans k22 (fun _ _ x => x)
  refine wl_store_arr arrT4 rfl rfl rfl rfl rfl B21 fun w26 B27 k28 => ?_
  have K29 := K25.trans k28 (fun _ hi e => absurd (e ▸ hi) (Nat.not_lt.2 lp24))
  refine wl_nil fun F30 hF31 => ?_
  have s32 : F30 0 = .int .i16 (a) := (hF31 0).trans s13
  have s33 : F30 1 = .int .i16 (b) := (hF31 1).trans s14
  have s34 : F30 2 = .int .i16 (c) := (hF31 2).trans s15
  have s35 : F30 3 = .int .i16 (d) := (hF31 3).trans s16
  have s36 : F30 8 = .bool false := (hF31 8).trans s17
  have s37 : F30 9 = .bool true := (hF31 9).trans s18
  have s38 : F30 10 = .pointer (some ⟨p19, 0, none⟩) := (hF31 10).trans rfl
  clear hF31
  refine then_normal ?_
  refine wq_seq ?_
  refine wq_region ?_
  refine wl_v (blkV (fun _ => 0)) rfl rfl (y_buildR (cells := (arrL 16 (fun _ => 0)).toArray) rfl (by kernel_rfl) rfl ⟨rfl, rfl⟩) ?_
  refine wl_alloc_blk rfl rfl rfl blkT_block.2.2 fun p39 w40 e43 B41 k42 => ?_
  have ne44 : p19 ≠ p39 := by have h_ := B27.lt; omega
  have lp45 : w0.heap.size ≤ p39 := by have h_ := K29.size; omega
  clear e43
  have B46 := B27.all k42 id
  have K47 := K29.trans k42 (fun _ _ x => x)
  refine wl_store_blk blkT_block rfl rfl rfl rfl rfl B41 fun w48 B49 k50 => ?_
  have B51 := B46.all k50 ne44
  have K52 := K47.trans k50 (fun _ hi e => absurd (e ▸ hi) (Nat.not_lt.2 lp45))
  refine wl_nil fun F53 hF54 => ?_
  have s55 : F53 0 = .int .i16 (a) := (hF54 0).trans s32
  have s56 : F53 1 = .int .i16 (b) := (hF54 1).trans s33
  have s57 : F53 2 = .int .i16 (c) := (hF54 2).trans s34
  have s58 : F53 3 = .int .i16 (d) := (hF54 3).trans s35
  have s59 : F53 8 = .bool false := (hF54 8).trans s36
  have s60 : F53 9 = .bool true := (hF54 9).trans s37
  have s61 : F53 10 = .pointer (some ⟨p19, 0, none⟩) := (hF54 10).trans s38
  have s62 : F53 11 = .pointer (some ⟨p39, 0, none⟩) := (hF54 11).trans rfl
  clear hF54
  refine then_normal ?_
  refine wq_seq ?_
  refine wq_region ?_
  refine wl_v (blkV (fun _ => 0)) rfl rfl (y_buildR (cells := (arrL 16 (fun _ => 0)).toArray) rfl (by kernel_rfl) rfl ⟨rfl, rfl⟩) ?_
  refine wl_alloc_blk rfl rfl rfl blkT_block.2.2 fun p63 w64 e67 B65 k66 => ?_
  have ne68 : p19 ≠ p63 := by have h_ := B51.lt; omega
  have ne69 : p39 ≠ p63 := by have h_ := B49.lt; omega
  have lp70 : w0.heap.size ≤ p63 := by have h_ := K52.size; omega
  clear e67
  have B71 := B51.all k66 id
  have B72 := B49.all k66 id
  have K73 := K52.trans k66 (fun _ _ x => x)
  refine wl_store_blk blkT_block rfl rfl rfl rfl rfl B65 fun w74 B75 k76 => ?_
  have B77 := B71.all k76 ne68
  have B78 := B72.all k76 ne69
  have K79 := K73.trans k76 (fun _ hi e => absurd (e ▸ hi) (Nat.not_lt.2 lp70))
  refine wl_nil fun F80 hF81 => ?_
  have s82 : F80 0 = .int .i16 (a) := (hF81 0).trans s55
  have s83 : F80 1 = .int .i16 (b) := (hF81 1).trans s56
  have s84 : F80 2 = .int .i16 (c) := (hF81 2).trans s57
  have s85 : F80 3 = .int .i16 (d) := (hF81 3).trans s58
  have s86 : F80 8 = .bool false := (hF81 8).trans s59
  have s87 : F80 9 = .bool true := (hF81 9).trans s60
  have s88 : F80 10 = .pointer (some ⟨p19, 0, none⟩) := (hF81 10).trans s61
  have s89 : F80 11 = .pointer (some ⟨p39, 0, none⟩) := (hF81 11).trans s62
  have s90 : F80 12 = .pointer (some ⟨p63, 0, none⟩) := (hF81 12).trans rfl
  clear hF81
  refine then_normal ?_
  refine wq_seq ?_
  refine wq_seq ?_
  refine wq_region ?_
  refine wl_v (.int .i64 (0)) rfl rfl (y_asg rfl rfl ⟨rfl, rfl⟩) ?_
  refine wl_nil fun F91 hF92 => ?_
  have s93 : F91 0 = .int .i16 (a) := (hF92 0).trans s82
  have s94 : F91 1 = .int .i16 (b) := (hF92 1).trans s83
  have s95 : F91 2 = .int .i16 (c) := (hF92 2).trans s84
  have s96 : F91 3 = .int .i16 (d) := (hF92 3).trans s85
  have s97 : F91 8 = .bool false := (hF92 8).trans s86
  have s98 : F91 9 = .bool true := (hF92 9).trans s87
  have s99 : F91 10 = .pointer (some ⟨p19, 0, none⟩) := (hF92 10).trans s88
  have s100 : F91 11 = .pointer (some ⟨p39, 0, none⟩) := (hF92 11).trans s89
  have s101 : F91 12 = .pointer (some ⟨p63, 0, none⟩) := (hF92 12).trans s90
  have s102 : F91 13 = .int .i64 (0) := (hF92 13).trans rfl
  clear hF92
  refine then_normal ?_
  refine wq_block ?_
  refine wq_loop (fun nn FF ww => ∃ (k : Nat), k ≤ 16 ∧ nn = 16 - k ∧ FF 0 = .int .i16 (a) ∧ FF 1 = .int .i16 (b) ∧ FF 2 = .int .i16 (c) ∧ FF 3 = .int .i16 (d) ∧ FF 8 = .bool false ∧ FF 9 = .bool true ∧ FF 10 = .pointer (some ⟨p19, 0, none⟩) ∧ FF 11 = .pointer (some ⟨p39, 0, none⟩) ∧ FF 12 = .pointer (some ⟨p63, 0, none⟩) ∧ FF 13 = .int .i64 (((k : Nat) : Int)) ∧ Kept (fun _ => False) w0 ww ∧ Arr ww p19 35 4 (blL [a, b, c, d]) ∧ Blk ww p39 24 (upto k (fun _ => 0) (xr a b c d)) ∧ Blk ww p63 24 (upto k (fun _ => 0) (yr a b c d))) (16 - (0)) ⟨0, by omega, rfl, s93, s94, s95, s96, s97, s98, s99, s100, s101, s102, K79, B77, B78.first, B75.first⟩ ?_
  rintro n106 F103 w104 ⟨k, i107, hn106, s108, s109, s110, s111, s112, s113, s114, s115, s116, s117, K105, B118, B119, B120⟩
  refine wq_seq ?_
  refine wq_seq ?_
  refine wq_region ?_
  refine wl_v (.int .i64 (((k : Nat) : Int))) rfl rfl (y_mov rfl s117 ⟨rfl, rfl⟩) ?_
  refine wl_v (.bool (decide ((((k : Nat) : Int)) < (16)))) rfl rfl (y_lss rfl rfl rfl rfl ⟨rfl, rfl⟩) ?_
  refine wl_nil fun F121 hF122 => ?_
  have s123 : F121 0 = .int .i16 (a) := (hF122 0).trans s108
  have s124 : F121 1 = .int .i16 (b) := (hF122 1).trans s109
  have s125 : F121 2 = .int .i16 (c) := (hF122 2).trans s110
  have s126 : F121 3 = .int .i16 (d) := (hF122 3).trans s111
  have s127 : F121 8 = .bool false := (hF122 8).trans s112
  have s128 : F121 9 = .bool true := (hF122 9).trans s113
  have s129 : F121 10 = .pointer (some ⟨p19, 0, none⟩) := (hF122 10).trans s114
  have s130 : F121 11 = .pointer (some ⟨p39, 0, none⟩) := (hF122 11).trans s115
  have s131 : F121 12 = .pointer (some ⟨p63, 0, none⟩) := (hF122 12).trans s116
  have s132 : F121 13 = .int .i64 (((k : Nat) : Int)) := (hF122 13).trans s117
  have s133 : F121 30 = .bool (decide ((((k : Nat) : Int)) < (16))) := (hF122 30).trans rfl
  clear hF122
  refine then_normal ?_
  refine wq_cond s133 (fun c134 => ?_) (fun c134 => ?_)
  · replace c134 := of_decide_eq_true c134
    refine wq_skip ?_
    refine then_normal ?_
    refine wq_seq ?_
    refine wq_block ?_
    refine wq_seq ?_
    refine wq_region ?_
    refine wl_v (.int .i64 (((k : Nat) : Int))) rfl rfl (y_mov rfl s132 ⟨rfl, rfl⟩) ?_
    refine wl_v (.int .i64 (((k : Nat) : Int))) rfl rfl (y_mov rfl s132 ⟨rfl, rfl⟩) ?_
    refine wl_v (.int .i64 ((((k % 4) : Nat) : Int))) rfl rfl (y_rem rfl rfl rfl (by decide) (by rw [Int.tmod_eq_emod_of_nonneg (by omega)]; omega) ⟨rfl, rfl⟩) ?_
    refine wl_v (.pointer (some ⟨p19, (k % 4), none⟩)) rfl rfl (y_atR ((k % 4)) (s := 1) rfl s129 rfl (by omega) Tryd.underlying35 (by omega) (by kernel_rfl) (by omega) ⟨rfl, rfl⟩) ?_
    refine wl_v (.int .i64 ((blL [a, b, c, d]) ((k % 4)))) rfl rfl (y_ldR rfl rfl Tryd.underlying3 ((B118).cell (by omega)) ⟨rfl, rfl⟩) ?_
    refine wl_v (.pointer (some ⟨p39, k, none⟩)) rfl rfl (y_atR (k) (s := 1) rfl s130 rfl (by omega) Tryd.underlying24 (by omega) (by kernel_rfl) (by omega) ⟨rfl, rfl⟩) ?_
    refine wl_set_blk rfl rfl rfl rfl rfl B119 (by omega) (by kernel_rfl) fun w135 B136 k137 => ?_
    have B138 := B118.all k137 ne44
    have B139 := B120.all k137 (Ne.symm ne69)
    have K140 := K105.trans k137 (fun _ hi e => absurd (e ▸ hi) (Nat.not_lt.2 lp45))
    refine wl_nil fun F141 hF142 => ?_
    have s143 : F141 0 = .int .i16 (a) := (hF142 0).trans s123
    have s144 : F141 1 = .int .i16 (b) := (hF142 1).trans s124
    have s145 : F141 2 = .int .i16 (c) := (hF142 2).trans s125
    have s146 : F141 3 = .int .i16 (d) := (hF142 3).trans s126
    have s147 : F141 8 = .bool false := (hF142 8).trans s127
    have s148 : F141 9 = .bool true := (hF142 9).trans s128
    have s149 : F141 10 = .pointer (some ⟨p19, 0, none⟩) := (hF142 10).trans s129
    have s150 : F141 11 = .pointer (some ⟨p39, 0, none⟩) := (hF142 11).trans s130
    have s151 : F141 12 = .pointer (some ⟨p63, 0, none⟩) := (hF142 12).trans s131
    have s152 : F141 13 = .int .i64 (((k : Nat) : Int)) := (hF142 13).trans s132
    have s153 : F141 30 = .bool (decide ((((k : Nat) : Int)) < (16))) := (hF142 30).trans s133
    clear hF142
    refine then_normal ?_
    refine wq_region ?_
    refine wl_v (.int .i64 (((k : Nat) : Int))) rfl rfl (y_mov rfl s152 ⟨rfl, rfl⟩) ?_
    refine wl_v (.int .i64 (((k : Nat) : Int))) rfl rfl (y_mov rfl s152 ⟨rfl, rfl⟩) ?_
    refine wl_v (.int .i64 ((((k / 4) : Nat) : Int))) rfl rfl (y_quo rfl rfl rfl (by decide) (i64_n (by rw [Int.tdiv_eq_ediv_of_nonneg (by omega)]; omega) (by omega)) ⟨rfl, rfl⟩) ?_
    refine wl_v (.pointer (some ⟨p19, (k / 4), none⟩)) rfl rfl (y_atR ((k / 4)) (s := 1) rfl s149 rfl (by omega) Tryd.underlying35 (by omega) (by kernel_rfl) (by omega) ⟨rfl, rfl⟩) ?_
    refine wl_v (.int .i64 ((blL [a, b, c, d]) ((k / 4)))) rfl rfl (y_ldR rfl rfl Tryd.underlying3 ((B138).cell (by omega)) ⟨rfl, rfl⟩) ?_
    refine wl_v (.pointer (some ⟨p63, k, none⟩)) rfl rfl (y_atR (k) (s := 1) rfl s151 rfl (by omega) Tryd.underlying24 (by omega) (by kernel_rfl) (by omega) ⟨rfl, rfl⟩) ?_
    refine wl_set_blk rfl rfl rfl rfl rfl B139 (by omega) (by kernel_rfl) fun w154 B155 k156 => ?_
    have B157 := B138.all k156 ne68
    have B158 := B136.all k156 ne69
    have K159 := K140.trans k156 (fun _ hi e => absurd (e ▸ hi) (Nat.not_lt.2 lp70))
    refine wl_nil fun F160 hF161 => ?_
    have s162 : F160 0 = .int .i16 (a) := (hF161 0).trans s143
    have s163 : F160 1 = .int .i16 (b) := (hF161 1).trans s144
    have s164 : F160 2 = .int .i16 (c) := (hF161 2).trans s145
    have s165 : F160 3 = .int .i16 (d) := (hF161 3).trans s146
    have s166 : F160 8 = .bool false := (hF161 8).trans s147
    have s167 : F160 9 = .bool true := (hF161 9).trans s148
    have s168 : F160 10 = .pointer (some ⟨p19, 0, none⟩) := (hF161 10).trans s149
    have s169 : F160 11 = .pointer (some ⟨p39, 0, none⟩) := (hF161 11).trans s150
    have s170 : F160 12 = .pointer (some ⟨p63, 0, none⟩) := (hF161 12).trans s151
    have s171 : F160 13 = .int .i64 (((k : Nat) : Int)) := (hF161 13).trans s152
    have s172 : F160 30 = .bool (decide ((((k : Nat) : Int)) < (16))) := (hF161 30).trans s153
    clear hF161
    refine in_normal ?_
    refine then_normal ?_
    refine wq_region ?_
    refine wl_v (.int .i64 (((k : Nat) : Int))) rfl rfl (y_mov rfl s171 ⟨rfl, rfl⟩) ?_
    refine wl_v (.int .i64 (((k + 1 : Nat) : Int))) rfl rfl (y_add rfl rfl rfl (i64_n (by omega) (by omega)) ⟨rfl, rfl⟩) ?_
    refine wl_v (.int .i64 (((k + 1 : Nat) : Int))) rfl rfl (y_asg rfl rfl ⟨rfl, rfl⟩) ?_
    refine wl_nil fun F173 hF174 => ?_
    have s175 : F173 0 = .int .i16 (a) := (hF174 0).trans s162
    have s176 : F173 1 = .int .i16 (b) := (hF174 1).trans s163
    have s177 : F173 2 = .int .i16 (c) := (hF174 2).trans s164
    have s178 : F173 3 = .int .i16 (d) := (hF174 3).trans s165
    have s179 : F173 8 = .bool false := (hF174 8).trans s166
    have s180 : F173 9 = .bool true := (hF174 9).trans s167
    have s181 : F173 10 = .pointer (some ⟨p19, 0, none⟩) := (hF174 10).trans s168
    have s182 : F173 11 = .pointer (some ⟨p39, 0, none⟩) := (hF174 11).trans s169
    have s183 : F173 12 = .pointer (some ⟨p63, 0, none⟩) := (hF174 12).trans s170
    have s184 : F173 30 = .bool (decide ((((k : Nat) : Int)) < (16))) := (hF174 30).trans s172
    have s185 : F173 13 = .int .i64 (((k + 1 : Nat) : Int)) := (hF174 13).trans rfl
    clear hF174
    exact then_normal ⟨(16 - (k + 1)), by omega, k + 1, by omega, rfl, s175, s176, s177, s178, s179, s180, s181, s182, s183, s185, K159, B157, (B158.next rfl), (B155.next rfl)⟩
  · replace c134 := of_decide_eq_false c134
    refine wq_exit ?_
    refine then_exit ?_
    refine then_exit ?_
    have l186 : 16 = k := by omega
    subst l186
    have B187 : Blk w104 p39 24 (xr a b c d) := (B119.last)
    have B188 : Blk w104 p63 24 (yr a b c d) := (B120.last)
    refine in_here ?_
    refine then_normal ?_
    refine wq_seq ?_
    refine wq_region ?_
    refine wl_v (blkV (xr a b c d)) rfl rfl (y_load_blk blkT_block rfl s130 B187 ⟨rfl, rfl⟩) ?_
    refine wl_call (R := fun v_ w_ => v_ = blkV (fwd (clB 1048576 (xr a b c d))) ∧ Kept (fun _ => False) w104 w_) rfl rfl (y_cs rfl rfl rfl (fun _ _ => by kernel_rfl) (ev_func _) (vsC rfl vsN) (forward_any (xr a b c d) _ (hw.all K105)) (fun e_ w_ h_ => ⟨_, h_.1, rfl, h_.2⟩)) ?_
    rintro _ w189 ⟨rfl, k190⟩
    have B191 := B118.all k190 id
    have B192 := B187.all k190 id
    have B193 := B188.all k190 id
    have K194 := K105.trans k190 (fun _ _ x => x)
    refine wl_alloc_blk rfl rfl rfl blkT_block.2.2 fun p195 w196 e199 B197 k198 => ?_
    have ne200 : p19 ≠ p195 := by have h_ := B191.lt; omega
    have ne201 : p39 ≠ p195 := by have h_ := B192.lt; omega
    have ne202 : p63 ≠ p195 := by have h_ := B193.lt; omega
    have lp203 : w0.heap.size ≤ p195 := by have h_ := K194.size; omega
    clear e199
    have B204 := B191.all k198 id
    have B205 := B192.all k198 id
    have B206 := B193.all k198 id
    have K207 := K194.trans k198 (fun _ _ x => x)
    refine wl_store_blk blkT_block rfl rfl rfl rfl rfl B197 fun w208 B209 k210 => ?_
    have B211 := B204.all k210 ne200
    have B212 := B205.all k210 ne201
    have B213 := B206.all k210 ne202
    have K214 := K207.trans k210 (fun _ hi e => absurd (e ▸ hi) (Nat.not_lt.2 lp203))
    refine wl_nil fun F215 hF216 => ?_
    have s217 : F215 0 = .int .i16 (a) := (hF216 0).trans s123
    have s218 : F215 1 = .int .i16 (b) := (hF216 1).trans s124
    have s219 : F215 2 = .int .i16 (c) := (hF216 2).trans s125
    have s220 : F215 3 = .int .i16 (d) := (hF216 3).trans s126
    have s221 : F215 8 = .bool false := (hF216 8).trans s127
    have s222 : F215 9 = .bool true := (hF216 9).trans s128
    have s223 : F215 10 = .pointer (some ⟨p19, 0, none⟩) := (hF216 10).trans s129
    have s224 : F215 11 = .pointer (some ⟨p39, 0, none⟩) := (hF216 11).trans s130
    have s225 : F215 12 = .pointer (some ⟨p63, 0, none⟩) := (hF216 12).trans s131
    have s226 : F215 13 = .int .i64 (((16 : Nat) : Int)) := (hF216 13).trans s132
    have s227 : F215 30 = .bool (decide ((((16 : Nat) : Int)) < (16))) := (hF216 30).trans s133
    have s228 : F215 14 = .pointer (some ⟨p195, 0, none⟩) := (hF216 14).trans rfl
    clear hF216
    refine then_normal ?_
    refine wq_seq ?_
    refine wq_region ?_
    refine wl_v (blkV (yr a b c d)) rfl rfl (y_load_blk blkT_block rfl s225 B213 ⟨rfl, rfl⟩) ?_
    refine wl_call (R := fun v_ w_ => v_ = blkV (fwd (clB 1048576 (yr a b c d))) ∧ Kept (fun _ => False) w208 w_) rfl rfl (y_cs rfl rfl rfl (fun _ _ => by kernel_rfl) (ev_func _) (vsC rfl vsN) (forward_any (yr a b c d) _ (hw.all K214)) (fun e_ w_ h_ => ⟨_, h_.1, rfl, h_.2⟩)) ?_
    rintro _ w229 ⟨rfl, k230⟩
    have B231 := B211.all k230 id
    have B232 := B212.all k230 id
    have B233 := B213.all k230 id
    have B234 := B209.all k230 id
    have K235 := K214.trans k230 (fun _ _ x => x)
    refine wl_alloc_blk rfl rfl rfl blkT_block.2.2 fun p236 w237 e240 B238 k239 => ?_
    have ne241 : p19 ≠ p236 := by have h_ := B231.lt; omega
    have ne242 : p39 ≠ p236 := by have h_ := B232.lt; omega
    have ne243 : p63 ≠ p236 := by have h_ := B233.lt; omega
    have ne244 : p195 ≠ p236 := by have h_ := B234.lt; omega
    have lp245 : w0.heap.size ≤ p236 := by have h_ := K235.size; omega
    clear e240
    have B246 := B231.all k239 id
    have B247 := B232.all k239 id
    have B248 := B233.all k239 id
    have B249 := B234.all k239 id
    have K250 := K235.trans k239 (fun _ _ x => x)
    refine wl_store_blk blkT_block rfl rfl rfl rfl rfl B238 fun w251 B252 k253 => ?_
    have B254 := B246.all k253 ne241
    have B255 := B247.all k253 ne242
    have B256 := B248.all k253 ne243
    have B257 := B249.all k253 ne244
    have K258 := K250.trans k253 (fun _ hi e => absurd (e ▸ hi) (Nat.not_lt.2 lp245))
    refine wl_nil fun F259 hF260 => ?_
    have s261 : F259 0 = .int .i16 (a) := (hF260 0).trans s217
    have s262 : F259 1 = .int .i16 (b) := (hF260 1).trans s218
    have s263 : F259 2 = .int .i16 (c) := (hF260 2).trans s219
    have s264 : F259 3 = .int .i16 (d) := (hF260 3).trans s220
    have s265 : F259 8 = .bool false := (hF260 8).trans s221
    have s266 : F259 9 = .bool true := (hF260 9).trans s222
    have s267 : F259 10 = .pointer (some ⟨p19, 0, none⟩) := (hF260 10).trans s223
    have s268 : F259 11 = .pointer (some ⟨p39, 0, none⟩) := (hF260 11).trans s224
    have s269 : F259 12 = .pointer (some ⟨p63, 0, none⟩) := (hF260 12).trans s225
    have s270 : F259 13 = .int .i64 (((16 : Nat) : Int)) := (hF260 13).trans s226
    have s271 : F259 30 = .bool (decide ((((16 : Nat) : Int)) < (16))) := (hF260 30).trans s227
    have s272 : F259 14 = .pointer (some ⟨p195, 0, none⟩) := (hF260 14).trans s228
    have s273 : F259 15 = .pointer (some ⟨p236, 0, none⟩) := (hF260 15).trans rfl
    clear hF260
    refine then_normal ?_
    refine wq_seq ?_
    refine wq_seq ?_
    refine wq_region ?_
    refine wl_v (.int .i64 (0)) rfl rfl (y_asg rfl rfl ⟨rfl, rfl⟩) ?_
    refine wl_nil fun F274 hF275 => ?_
    have s276 : F274 0 = .int .i16 (a) := (hF275 0).trans s261
    have s277 : F274 1 = .int .i16 (b) := (hF275 1).trans s262
    have s278 : F274 2 = .int .i16 (c) := (hF275 2).trans s263
    have s279 : F274 3 = .int .i16 (d) := (hF275 3).trans s264
    have s280 : F274 8 = .bool false := (hF275 8).trans s265
    have s281 : F274 9 = .bool true := (hF275 9).trans s266
    have s282 : F274 10 = .pointer (some ⟨p19, 0, none⟩) := (hF275 10).trans s267
    have s283 : F274 11 = .pointer (some ⟨p39, 0, none⟩) := (hF275 11).trans s268
    have s284 : F274 12 = .pointer (some ⟨p63, 0, none⟩) := (hF275 12).trans s269
    have s285 : F274 13 = .int .i64 (((16 : Nat) : Int)) := (hF275 13).trans s270
    have s286 : F274 30 = .bool (decide ((((16 : Nat) : Int)) < (16))) := (hF275 30).trans s271
    have s287 : F274 14 = .pointer (some ⟨p195, 0, none⟩) := (hF275 14).trans s272
    have s288 : F274 15 = .pointer (some ⟨p236, 0, none⟩) := (hF275 15).trans s273
    have s289 : F274 16 = .int .i64 (0) := (hF275 16).trans rfl
    clear hF275
    refine then_normal ?_
    refine wq_block ?_
    refine wq_loop (fun nn FF ww => ∃ (i : Nat), i ≤ 16 ∧ nn = 16 - i ∧ FF 0 = .int .i16 (a) ∧ FF 1 = .int .i16 (b) ∧ FF 2 = .int .i16 (c) ∧ FF 3 = .int .i16 (d) ∧ FF 9 = .bool true ∧ FF 10 = .pointer (some ⟨p19, 0, none⟩) ∧ FF 11 = .pointer (some ⟨p39, 0, none⟩) ∧ FF 12 = .pointer (some ⟨p63, 0, none⟩) ∧ FF 13 = .int .i64 (((16 : Nat) : Int)) ∧ FF 14 = .pointer (some ⟨p195, 0, none⟩) ∧ FF 15 = .pointer (some ⟨p236, 0, none⟩) ∧ FF 30 = .bool (decide ((((16 : Nat) : Int)) < (16))) ∧ FF 16 = .int .i64 (((i : Nat) : Int)) ∧ Kept (fun _ => False) w0 ww ∧ Arr ww p19 35 4 (blL [a, b, c, d]) ∧ Blk ww p39 24 (xr a b c d) ∧ Blk ww p63 24 (yr a b c d) ∧ Blk ww p195 24 (fwd (clB 1048576 (xr a b c d))) ∧ Blk ww p236 24 (fwd (clB 1048576 (yr a b c d)))) (16 - (0)) ⟨0, by omega, rfl, s276, s277, s278, s279, s281, s282, s283, s284, s285, s287, s288, s286, s289, K258, B254, B255, B256, B257, B252⟩ ?_
    rintro n293 F290 w291 ⟨i, i294, hn293, s295, s296, s297, s298, s299, s300, s301, s302, s303, s304, s305, s306, s307, K292, B308, B309, B310, B311, B312⟩
    refine wq_seq ?_
    refine wq_seq ?_
    refine wq_region ?_
    refine wl_v (.int .i64 (((i : Nat) : Int))) rfl rfl (y_mov rfl s307 ⟨rfl, rfl⟩) ?_
    refine wl_v (.bool (decide ((((i : Nat) : Int)) < (16)))) rfl rfl (y_lss rfl rfl rfl rfl ⟨rfl, rfl⟩) ?_
    refine wl_nil fun F313 hF314 => ?_
    have s315 : F313 0 = .int .i16 (a) := (hF314 0).trans s295
    have s316 : F313 1 = .int .i16 (b) := (hF314 1).trans s296
    have s317 : F313 2 = .int .i16 (c) := (hF314 2).trans s297
    have s318 : F313 3 = .int .i16 (d) := (hF314 3).trans s298
    have s319 : F313 9 = .bool true := (hF314 9).trans s299
    have s320 : F313 10 = .pointer (some ⟨p19, 0, none⟩) := (hF314 10).trans s300
    have s321 : F313 11 = .pointer (some ⟨p39, 0, none⟩) := (hF314 11).trans s301
    have s322 : F313 12 = .pointer (some ⟨p63, 0, none⟩) := (hF314 12).trans s302
    have s323 : F313 13 = .int .i64 (((16 : Nat) : Int)) := (hF314 13).trans s303
    have s324 : F313 14 = .pointer (some ⟨p195, 0, none⟩) := (hF314 14).trans s304
    have s325 : F313 15 = .pointer (some ⟨p236, 0, none⟩) := (hF314 15).trans s305
    have s326 : F313 30 = .bool (decide ((((16 : Nat) : Int)) < (16))) := (hF314 30).trans s306
    have s327 : F313 16 = .int .i64 (((i : Nat) : Int)) := (hF314 16).trans s307
    have s328 : F313 50 = .bool (decide ((((i : Nat) : Int)) < (16))) := (hF314 50).trans rfl
    clear hF314
    refine then_normal ?_
    refine wq_cond s328 (fun c329 => ?_) (fun c329 => ?_)
    · replace c329 := of_decide_eq_true c329
      refine wq_skip ?_
      refine then_normal ?_
      refine wq_seq ?_
      refine wq_block ?_
      refine wq_seq ?_
      by_cases d330 : (4) ≤ (((i : Nat) : Int))
      · skip
        by_cases d331 : ((((i % 4) : Nat) : Int)) ≠ (0)
        · skip
          refine wq_region ?_
          refine wl_v (.int .i64 (((i : Nat) : Int))) rfl rfl (y_mov rfl s327 ⟨rfl, rfl⟩) ?_
          refine wl_v (.bool true) rfl rfl (y_geq rfl rfl rfl (decide_eq_true d330) ⟨rfl, rfl⟩) ?_
          refine wl_v (.bool true) rfl rfl (y_mov rfl rfl ⟨rfl, rfl⟩) ?_
          refine wl_vw (.int .i64 (((i : Nat) : Int))) 2 true 55 rfl rfl rfl rfl rfl (y_mov rfl s327 ⟨rfl, rfl⟩) ?_
          refine wl_vw (.pointer (some ⟨p195, i, none⟩)) 2 true 55 rfl rfl rfl rfl rfl (y_atR (i) (s := 1) rfl s324 rfl (by omega) Tryd.underlying24 (by omega) (by kernel_rfl) (by omega) ⟨rfl, rfl⟩) ?_
          refine wl_vw (.int .i64 ((fwd (clB 1048576 (xr a b c d))) (i))) 2 true 55 rfl rfl rfl rfl rfl (y_ldR rfl rfl Tryd.underlying3 ((B311).cell (by omega)) ⟨rfl, rfl⟩) ?_
          refine wl_vw (.bool false) 2 true 55 rfl rfl rfl rfl rfl (y_neqI rfl rfl rfl (decide_eq_false (fun h => h (hR.1 i (by omega) (by omega)))) ⟨rfl, rfl⟩) ?_
          refine wl_v (.bool false) rfl rfl (y_pickT rfl rfl rfl ⟨rfl, rfl⟩) ?_
          refine wl_v (.bool false) rfl rfl (y_mov rfl rfl ⟨rfl, rfl⟩) ?_
          refine wl_vw (.int .i64 (((i : Nat) : Int))) 8 false 61 rfl rfl rfl rfl rfl (y_mov rfl s327 ⟨rfl, rfl⟩) ?_
          refine wl_vw (.int .i64 ((((i % 4) : Nat) : Int))) 8 false 61 rfl rfl rfl rfl rfl (y_rem rfl rfl rfl (by decide) (by rw [Int.tmod_eq_emod_of_nonneg (by omega)]; omega) ⟨rfl, rfl⟩) ?_
          refine wl_vw (.bool true) 8 false 61 rfl rfl rfl rfl rfl (y_neqI rfl rfl rfl (decide_eq_true d331) ⟨rfl, rfl⟩) ?_
          refine wl_vw (.bool true) 8 false 61 rfl rfl rfl rfl rfl (y_mov rfl rfl ⟨rfl, rfl⟩) ?_
          refine wl_vw (.int .i64 (((i : Nat) : Int))) 12 true 65 rfl rfl rfl rfl rfl (y_mov rfl s327 ⟨rfl, rfl⟩) ?_
          refine wl_vw (.pointer (some ⟨p236, i, none⟩)) 12 true 65 rfl rfl rfl rfl rfl (y_atR (i) (s := 1) rfl s325 rfl (by omega) Tryd.underlying24 (by omega) (by kernel_rfl) (by omega) ⟨rfl, rfl⟩) ?_
          refine wl_vw (.int .i64 ((fwd (clB 1048576 (yr a b c d))) (i))) 12 true 65 rfl rfl rfl rfl rfl (y_ldR rfl rfl Tryd.underlying3 ((B312).cell (by omega)) ⟨rfl, rfl⟩) ?_
          refine wl_vw (.bool false) 12 true 65 rfl rfl rfl rfl rfl (y_neqI rfl rfl rfl (decide_eq_false (fun h => h (hR.2.1 i (by omega) (by omega)))) ⟨rfl, rfl⟩) ?_
          refine wl_vw (.bool false) 8 false 61 rfl rfl rfl rfl rfl (y_pickT rfl rfl rfl ⟨rfl, rfl⟩) ?_
          refine wl_v (.bool false) rfl rfl (y_pickF rfl rfl rfl ⟨rfl, rfl⟩) ?_
          refine wl_nil fun F332 hF333 => ?_
          have s334 : F332 0 = .int .i16 (a) := (hF333 0).trans s315
          have s335 : F332 1 = .int .i16 (b) := (hF333 1).trans s316
          have s336 : F332 2 = .int .i16 (c) := (hF333 2).trans s317
          have s337 : F332 3 = .int .i16 (d) := (hF333 3).trans s318
          have s338 : F332 9 = .bool true := (hF333 9).trans s319
          have s339 : F332 10 = .pointer (some ⟨p19, 0, none⟩) := (hF333 10).trans s320
          have s340 : F332 11 = .pointer (some ⟨p39, 0, none⟩) := (hF333 11).trans s321
          have s341 : F332 12 = .pointer (some ⟨p63, 0, none⟩) := (hF333 12).trans s322
          have s342 : F332 13 = .int .i64 (((16 : Nat) : Int)) := (hF333 13).trans s323
          have s343 : F332 14 = .pointer (some ⟨p195, 0, none⟩) := (hF333 14).trans s324
          have s344 : F332 15 = .pointer (some ⟨p236, 0, none⟩) := (hF333 15).trans s325
          have s345 : F332 30 = .bool (decide ((((16 : Nat) : Int)) < (16))) := (hF333 30).trans s326
          have s346 : F332 16 = .int .i64 (((i : Nat) : Int)) := (hF333 16).trans s327
          have s347 : F332 50 = .bool (decide ((((i : Nat) : Int)) < (16))) := (hF333 50).trans s328
          have s348 : F332 71 = .bool false := (hF333 71).trans rfl
          clear hF333
          refine then_normal ?_
          refine wq_cond (t := false) s348 (fun e => by cases e) (fun _ => ?_)
          refine wq_skip ?_
          refine in_normal ?_
          refine then_normal ?_
          refine wq_region ?_
          refine wl_v (.int .i64 (((i : Nat) : Int))) rfl rfl (y_mov rfl s346 ⟨rfl, rfl⟩) ?_
          refine wl_v (.int .i64 (((i + 1 : Nat) : Int))) rfl rfl (y_add rfl rfl rfl (i64_n (by omega) (by omega)) ⟨rfl, rfl⟩) ?_
          refine wl_v (.int .i64 (((i + 1 : Nat) : Int))) rfl rfl (y_asg rfl rfl ⟨rfl, rfl⟩) ?_
          refine wl_nil fun F349 hF350 => ?_
          have s351 : F349 0 = .int .i16 (a) := (hF350 0).trans s334
          have s352 : F349 1 = .int .i16 (b) := (hF350 1).trans s335
          have s353 : F349 2 = .int .i16 (c) := (hF350 2).trans s336
          have s354 : F349 3 = .int .i16 (d) := (hF350 3).trans s337
          have s355 : F349 9 = .bool true := (hF350 9).trans s338
          have s356 : F349 10 = .pointer (some ⟨p19, 0, none⟩) := (hF350 10).trans s339
          have s357 : F349 11 = .pointer (some ⟨p39, 0, none⟩) := (hF350 11).trans s340
          have s358 : F349 12 = .pointer (some ⟨p63, 0, none⟩) := (hF350 12).trans s341
          have s359 : F349 13 = .int .i64 (((16 : Nat) : Int)) := (hF350 13).trans s342
          have s360 : F349 14 = .pointer (some ⟨p195, 0, none⟩) := (hF350 14).trans s343
          have s361 : F349 15 = .pointer (some ⟨p236, 0, none⟩) := (hF350 15).trans s344
          have s362 : F349 30 = .bool (decide ((((16 : Nat) : Int)) < (16))) := (hF350 30).trans s345
          have s363 : F349 50 = .bool (decide ((((i : Nat) : Int)) < (16))) := (hF350 50).trans s347
          have s364 : F349 71 = .bool false := (hF350 71).trans s348
          have s365 : F349 16 = .int .i64 (((i + 1 : Nat) : Int)) := (hF350 16).trans rfl
          clear hF350
          exact then_normal ⟨(16 - (i + 1)), by omega, i + 1, by omega, rfl, s351, s352, s353, s354, s355, s356, s357, s358, s359, s360, s361, s362, s365, K292, B308, B309, B310, B311, B312⟩
        · skip
          refine wq_region ?_
          refine wl_v (.int .i64 (((i : Nat) : Int))) rfl rfl (y_mov rfl s327 ⟨rfl, rfl⟩) ?_
          refine wl_v (.bool true) rfl rfl (y_geq rfl rfl rfl (decide_eq_true d330) ⟨rfl, rfl⟩) ?_
          refine wl_v (.bool true) rfl rfl (y_mov rfl rfl ⟨rfl, rfl⟩) ?_
          refine wl_vw (.int .i64 (((i : Nat) : Int))) 2 true 55 rfl rfl rfl rfl rfl (y_mov rfl s327 ⟨rfl, rfl⟩) ?_
          refine wl_vw (.pointer (some ⟨p195, i, none⟩)) 2 true 55 rfl rfl rfl rfl rfl (y_atR (i) (s := 1) rfl s324 rfl (by omega) Tryd.underlying24 (by omega) (by kernel_rfl) (by omega) ⟨rfl, rfl⟩) ?_
          refine wl_vw (.int .i64 ((fwd (clB 1048576 (xr a b c d))) (i))) 2 true 55 rfl rfl rfl rfl rfl (y_ldR rfl rfl Tryd.underlying3 ((B311).cell (by omega)) ⟨rfl, rfl⟩) ?_
          refine wl_vw (.bool false) 2 true 55 rfl rfl rfl rfl rfl (y_neqI rfl rfl rfl (decide_eq_false (fun h => h (hR.1 i (by omega) (by omega)))) ⟨rfl, rfl⟩) ?_
          refine wl_v (.bool false) rfl rfl (y_pickT rfl rfl rfl ⟨rfl, rfl⟩) ?_
          refine wl_v (.bool false) rfl rfl (y_mov rfl rfl ⟨rfl, rfl⟩) ?_
          refine wl_vw (.int .i64 (((i : Nat) : Int))) 8 false 61 rfl rfl rfl rfl rfl (y_mov rfl s327 ⟨rfl, rfl⟩) ?_
          refine wl_vw (.int .i64 ((((i % 4) : Nat) : Int))) 8 false 61 rfl rfl rfl rfl rfl (y_rem rfl rfl rfl (by decide) (by rw [Int.tmod_eq_emod_of_nonneg (by omega)]; omega) ⟨rfl, rfl⟩) ?_
          refine wl_vw (.bool false) 8 false 61 rfl rfl rfl rfl rfl (y_neqI rfl rfl rfl (decide_eq_false d331) ⟨rfl, rfl⟩) ?_
          refine wl_vw (.bool false) 8 false 61 rfl rfl rfl rfl rfl (y_mov rfl rfl ⟨rfl, rfl⟩) ?_
          refine wl_unless 12 true 65 rfl rfl rfl (Or.inl rfl) rfl ?_
          refine wl_unless 12 true 65 rfl rfl rfl (Or.inl rfl) rfl ?_
          refine wl_unless 12 true 65 rfl rfl rfl (Or.inl rfl) rfl ?_
          refine wl_unless 12 true 65 rfl rfl rfl (Or.inl rfl) rfl ?_
          refine wl_vw (.bool false) 8 false 61 rfl rfl rfl rfl rfl (y_pickF rfl rfl rfl ⟨rfl, rfl⟩) ?_
          refine wl_v (.bool false) rfl rfl (y_pickF rfl rfl rfl ⟨rfl, rfl⟩) ?_
          refine wl_nil fun F366 hF367 => ?_
          have s368 : F366 0 = .int .i16 (a) := (hF367 0).trans s315
          have s369 : F366 1 = .int .i16 (b) := (hF367 1).trans s316
          have s370 : F366 2 = .int .i16 (c) := (hF367 2).trans s317
          have s371 : F366 3 = .int .i16 (d) := (hF367 3).trans s318
          have s372 : F366 9 = .bool true := (hF367 9).trans s319
          have s373 : F366 10 = .pointer (some ⟨p19, 0, none⟩) := (hF367 10).trans s320
          have s374 : F366 11 = .pointer (some ⟨p39, 0, none⟩) := (hF367 11).trans s321
          have s375 : F366 12 = .pointer (some ⟨p63, 0, none⟩) := (hF367 12).trans s322
          have s376 : F366 13 = .int .i64 (((16 : Nat) : Int)) := (hF367 13).trans s323
          have s377 : F366 14 = .pointer (some ⟨p195, 0, none⟩) := (hF367 14).trans s324
          have s378 : F366 15 = .pointer (some ⟨p236, 0, none⟩) := (hF367 15).trans s325
          have s379 : F366 30 = .bool (decide ((((16 : Nat) : Int)) < (16))) := (hF367 30).trans s326
          have s380 : F366 16 = .int .i64 (((i : Nat) : Int)) := (hF367 16).trans s327
          have s381 : F366 50 = .bool (decide ((((i : Nat) : Int)) < (16))) := (hF367 50).trans s328
          have s382 : F366 71 = .bool false := (hF367 71).trans rfl
          clear hF367
          refine then_normal ?_
          refine wq_cond (t := false) s382 (fun e => by cases e) (fun _ => ?_)
          refine wq_skip ?_
          refine in_normal ?_
          refine then_normal ?_
          refine wq_region ?_
          refine wl_v (.int .i64 (((i : Nat) : Int))) rfl rfl (y_mov rfl s380 ⟨rfl, rfl⟩) ?_
          refine wl_v (.int .i64 (((i + 1 : Nat) : Int))) rfl rfl (y_add rfl rfl rfl (i64_n (by omega) (by omega)) ⟨rfl, rfl⟩) ?_
          refine wl_v (.int .i64 (((i + 1 : Nat) : Int))) rfl rfl (y_asg rfl rfl ⟨rfl, rfl⟩) ?_
          refine wl_nil fun F383 hF384 => ?_
          have s385 : F383 0 = .int .i16 (a) := (hF384 0).trans s368
          have s386 : F383 1 = .int .i16 (b) := (hF384 1).trans s369
          have s387 : F383 2 = .int .i16 (c) := (hF384 2).trans s370
          have s388 : F383 3 = .int .i16 (d) := (hF384 3).trans s371
          have s389 : F383 9 = .bool true := (hF384 9).trans s372
          have s390 : F383 10 = .pointer (some ⟨p19, 0, none⟩) := (hF384 10).trans s373
          have s391 : F383 11 = .pointer (some ⟨p39, 0, none⟩) := (hF384 11).trans s374
          have s392 : F383 12 = .pointer (some ⟨p63, 0, none⟩) := (hF384 12).trans s375
          have s393 : F383 13 = .int .i64 (((16 : Nat) : Int)) := (hF384 13).trans s376
          have s394 : F383 14 = .pointer (some ⟨p195, 0, none⟩) := (hF384 14).trans s377
          have s395 : F383 15 = .pointer (some ⟨p236, 0, none⟩) := (hF384 15).trans s378
          have s396 : F383 30 = .bool (decide ((((16 : Nat) : Int)) < (16))) := (hF384 30).trans s379
          have s397 : F383 50 = .bool (decide ((((i : Nat) : Int)) < (16))) := (hF384 50).trans s381
          have s398 : F383 71 = .bool false := (hF384 71).trans s382
          have s399 : F383 16 = .int .i64 (((i + 1 : Nat) : Int)) := (hF384 16).trans rfl
          clear hF384
          exact then_normal ⟨(16 - (i + 1)), by omega, i + 1, by omega, rfl, s385, s386, s387, s388, s389, s390, s391, s392, s393, s394, s395, s396, s399, K292, B308, B309, B310, B311, B312⟩
      · skip
        by_cases d400 : ((((i % 4) : Nat) : Int)) ≠ (0)
        · skip
          refine wq_region ?_
          refine wl_v (.int .i64 (((i : Nat) : Int))) rfl rfl (y_mov rfl s327 ⟨rfl, rfl⟩) ?_
          refine wl_v (.bool false) rfl rfl (y_geq rfl rfl rfl (decide_eq_false d330) ⟨rfl, rfl⟩) ?_
          refine wl_v (.bool false) rfl rfl (y_mov rfl rfl ⟨rfl, rfl⟩) ?_
          refine wl_unless 2 true 55 rfl rfl rfl (Or.inl rfl) rfl ?_
          refine wl_unless 2 true 55 rfl rfl rfl (Or.inl rfl) rfl ?_
          refine wl_unless 2 true 55 rfl rfl rfl (Or.inl rfl) rfl ?_
          refine wl_unless 2 true 55 rfl rfl rfl (Or.inl rfl) rfl ?_
          refine wl_v (.bool false) rfl rfl (y_pickF rfl rfl rfl ⟨rfl, rfl⟩) ?_
          refine wl_v (.bool false) rfl rfl (y_mov rfl rfl ⟨rfl, rfl⟩) ?_
          refine wl_vw (.int .i64 (((i : Nat) : Int))) 8 false 61 rfl rfl rfl rfl rfl (y_mov rfl s327 ⟨rfl, rfl⟩) ?_
          refine wl_vw (.int .i64 ((((i % 4) : Nat) : Int))) 8 false 61 rfl rfl rfl rfl rfl (y_rem rfl rfl rfl (by decide) (by rw [Int.tmod_eq_emod_of_nonneg (by omega)]; omega) ⟨rfl, rfl⟩) ?_
          refine wl_vw (.bool true) 8 false 61 rfl rfl rfl rfl rfl (y_neqI rfl rfl rfl (decide_eq_true d400) ⟨rfl, rfl⟩) ?_
          refine wl_vw (.bool true) 8 false 61 rfl rfl rfl rfl rfl (y_mov rfl rfl ⟨rfl, rfl⟩) ?_
          refine wl_vw (.int .i64 (((i : Nat) : Int))) 12 true 65 rfl rfl rfl rfl rfl (y_mov rfl s327 ⟨rfl, rfl⟩) ?_
          refine wl_vw (.pointer (some ⟨p236, i, none⟩)) 12 true 65 rfl rfl rfl rfl rfl (y_atR (i) (s := 1) rfl s325 rfl (by omega) Tryd.underlying24 (by omega) (by kernel_rfl) (by omega) ⟨rfl, rfl⟩) ?_
          refine wl_vw (.int .i64 ((fwd (clB 1048576 (yr a b c d))) (i))) 12 true 65 rfl rfl rfl rfl rfl (y_ldR rfl rfl Tryd.underlying3 ((B312).cell (by omega)) ⟨rfl, rfl⟩) ?_
          refine wl_vw (.bool false) 12 true 65 rfl rfl rfl rfl rfl (y_neqI rfl rfl rfl (decide_eq_false (fun h => h (hR.2.1 i (by omega) (by omega)))) ⟨rfl, rfl⟩) ?_
          refine wl_vw (.bool false) 8 false 61 rfl rfl rfl rfl rfl (y_pickT rfl rfl rfl ⟨rfl, rfl⟩) ?_
          refine wl_v (.bool false) rfl rfl (y_pickF rfl rfl rfl ⟨rfl, rfl⟩) ?_
          refine wl_nil fun F401 hF402 => ?_
          have s403 : F401 0 = .int .i16 (a) := (hF402 0).trans s315
          have s404 : F401 1 = .int .i16 (b) := (hF402 1).trans s316
          have s405 : F401 2 = .int .i16 (c) := (hF402 2).trans s317
          have s406 : F401 3 = .int .i16 (d) := (hF402 3).trans s318
          have s407 : F401 9 = .bool true := (hF402 9).trans s319
          have s408 : F401 10 = .pointer (some ⟨p19, 0, none⟩) := (hF402 10).trans s320
          have s409 : F401 11 = .pointer (some ⟨p39, 0, none⟩) := (hF402 11).trans s321
          have s410 : F401 12 = .pointer (some ⟨p63, 0, none⟩) := (hF402 12).trans s322
          have s411 : F401 13 = .int .i64 (((16 : Nat) : Int)) := (hF402 13).trans s323
          have s412 : F401 14 = .pointer (some ⟨p195, 0, none⟩) := (hF402 14).trans s324
          have s413 : F401 15 = .pointer (some ⟨p236, 0, none⟩) := (hF402 15).trans s325
          have s414 : F401 30 = .bool (decide ((((16 : Nat) : Int)) < (16))) := (hF402 30).trans s326
          have s415 : F401 16 = .int .i64 (((i : Nat) : Int)) := (hF402 16).trans s327
          have s416 : F401 50 = .bool (decide ((((i : Nat) : Int)) < (16))) := (hF402 50).trans s328
          have s417 : F401 71 = .bool false := (hF402 71).trans rfl
          clear hF402
          refine then_normal ?_
          refine wq_cond (t := false) s417 (fun e => by cases e) (fun _ => ?_)
          refine wq_skip ?_
          refine in_normal ?_
          refine then_normal ?_
          refine wq_region ?_
          refine wl_v (.int .i64 (((i : Nat) : Int))) rfl rfl (y_mov rfl s415 ⟨rfl, rfl⟩) ?_
          refine wl_v (.int .i64 (((i + 1 : Nat) : Int))) rfl rfl (y_add rfl rfl rfl (i64_n (by omega) (by omega)) ⟨rfl, rfl⟩) ?_
          refine wl_v (.int .i64 (((i + 1 : Nat) : Int))) rfl rfl (y_asg rfl rfl ⟨rfl, rfl⟩) ?_
          refine wl_nil fun F418 hF419 => ?_
          have s420 : F418 0 = .int .i16 (a) := (hF419 0).trans s403
          have s421 : F418 1 = .int .i16 (b) := (hF419 1).trans s404
          have s422 : F418 2 = .int .i16 (c) := (hF419 2).trans s405
          have s423 : F418 3 = .int .i16 (d) := (hF419 3).trans s406
          have s424 : F418 9 = .bool true := (hF419 9).trans s407
          have s425 : F418 10 = .pointer (some ⟨p19, 0, none⟩) := (hF419 10).trans s408
          have s426 : F418 11 = .pointer (some ⟨p39, 0, none⟩) := (hF419 11).trans s409
          have s427 : F418 12 = .pointer (some ⟨p63, 0, none⟩) := (hF419 12).trans s410
          have s428 : F418 13 = .int .i64 (((16 : Nat) : Int)) := (hF419 13).trans s411
          have s429 : F418 14 = .pointer (some ⟨p195, 0, none⟩) := (hF419 14).trans s412
          have s430 : F418 15 = .pointer (some ⟨p236, 0, none⟩) := (hF419 15).trans s413
          have s431 : F418 30 = .bool (decide ((((16 : Nat) : Int)) < (16))) := (hF419 30).trans s414
          have s432 : F418 50 = .bool (decide ((((i : Nat) : Int)) < (16))) := (hF419 50).trans s416
          have s433 : F418 71 = .bool false := (hF419 71).trans s417
          have s434 : F418 16 = .int .i64 (((i + 1 : Nat) : Int)) := (hF419 16).trans rfl
          clear hF419
          exact then_normal ⟨(16 - (i + 1)), by omega, i + 1, by omega, rfl, s420, s421, s422, s423, s424, s425, s426, s427, s428, s429, s430, s431, s434, K292, B308, B309, B310, B311, B312⟩
        · skip
          refine wq_region ?_
          refine wl_v (.int .i64 (((i : Nat) : Int))) rfl rfl (y_mov rfl s327 ⟨rfl, rfl⟩) ?_
          refine wl_v (.bool false) rfl rfl (y_geq rfl rfl rfl (decide_eq_false d330) ⟨rfl, rfl⟩) ?_
          refine wl_v (.bool false) rfl rfl (y_mov rfl rfl ⟨rfl, rfl⟩) ?_
          refine wl_unless 2 true 55 rfl rfl rfl (Or.inl rfl) rfl ?_
          refine wl_unless 2 true 55 rfl rfl rfl (Or.inl rfl) rfl ?_
          refine wl_unless 2 true 55 rfl rfl rfl (Or.inl rfl) rfl ?_
          refine wl_unless 2 true 55 rfl rfl rfl (Or.inl rfl) rfl ?_
          refine wl_v (.bool false) rfl rfl (y_pickF rfl rfl rfl ⟨rfl, rfl⟩) ?_
          refine wl_v (.bool false) rfl rfl (y_mov rfl rfl ⟨rfl, rfl⟩) ?_
          refine wl_vw (.int .i64 (((i : Nat) : Int))) 8 false 61 rfl rfl rfl rfl rfl (y_mov rfl s327 ⟨rfl, rfl⟩) ?_
          refine wl_vw (.int .i64 ((((i % 4) : Nat) : Int))) 8 false 61 rfl rfl rfl rfl rfl (y_rem rfl rfl rfl (by decide) (by rw [Int.tmod_eq_emod_of_nonneg (by omega)]; omega) ⟨rfl, rfl⟩) ?_
          refine wl_vw (.bool false) 8 false 61 rfl rfl rfl rfl rfl (y_neqI rfl rfl rfl (decide_eq_false d400) ⟨rfl, rfl⟩) ?_
          refine wl_vw (.bool false) 8 false 61 rfl rfl rfl rfl rfl (y_mov rfl rfl ⟨rfl, rfl⟩) ?_
          refine wl_unless 12 true 65 rfl rfl rfl (Or.inl rfl) rfl ?_
          refine wl_unless 12 true 65 rfl rfl rfl (Or.inl rfl) rfl ?_
          refine wl_unless 12 true 65 rfl rfl rfl (Or.inl rfl) rfl ?_
          refine wl_unless 12 true 65 rfl rfl rfl (Or.inl rfl) rfl ?_
          refine wl_vw (.bool false) 8 false 61 rfl rfl rfl rfl rfl (y_pickF rfl rfl rfl ⟨rfl, rfl⟩) ?_
          refine wl_v (.bool false) rfl rfl (y_pickF rfl rfl rfl ⟨rfl, rfl⟩) ?_
          refine wl_nil fun F435 hF436 => ?_
          have s437 : F435 0 = .int .i16 (a) := (hF436 0).trans s315
          have s438 : F435 1 = .int .i16 (b) := (hF436 1).trans s316
          have s439 : F435 2 = .int .i16 (c) := (hF436 2).trans s317
          have s440 : F435 3 = .int .i16 (d) := (hF436 3).trans s318
          have s441 : F435 9 = .bool true := (hF436 9).trans s319
          have s442 : F435 10 = .pointer (some ⟨p19, 0, none⟩) := (hF436 10).trans s320
          have s443 : F435 11 = .pointer (some ⟨p39, 0, none⟩) := (hF436 11).trans s321
          have s444 : F435 12 = .pointer (some ⟨p63, 0, none⟩) := (hF436 12).trans s322
          have s445 : F435 13 = .int .i64 (((16 : Nat) : Int)) := (hF436 13).trans s323
          have s446 : F435 14 = .pointer (some ⟨p195, 0, none⟩) := (hF436 14).trans s324
          have s447 : F435 15 = .pointer (some ⟨p236, 0, none⟩) := (hF436 15).trans s325
          have s448 : F435 30 = .bool (decide ((((16 : Nat) : Int)) < (16))) := (hF436 30).trans s326
          have s449 : F435 16 = .int .i64 (((i : Nat) : Int)) := (hF436 16).trans s327
          have s450 : F435 50 = .bool (decide ((((i : Nat) : Int)) < (16))) := (hF436 50).trans s328
          have s451 : F435 71 = .bool false := (hF436 71).trans rfl
          clear hF436
          refine then_normal ?_
          refine wq_cond (t := false) s451 (fun e => by cases e) (fun _ => ?_)
          refine wq_skip ?_
          refine in_normal ?_
          refine then_normal ?_
          refine wq_region ?_
          refine wl_v (.int .i64 (((i : Nat) : Int))) rfl rfl (y_mov rfl s449 ⟨rfl, rfl⟩) ?_
          refine wl_v (.int .i64 (((i + 1 : Nat) : Int))) rfl rfl (y_add rfl rfl rfl (i64_n (by omega) (by omega)) ⟨rfl, rfl⟩) ?_
          refine wl_v (.int .i64 (((i + 1 : Nat) : Int))) rfl rfl (y_asg rfl rfl ⟨rfl, rfl⟩) ?_
          refine wl_nil fun F452 hF453 => ?_
          have s454 : F452 0 = .int .i16 (a) := (hF453 0).trans s437
          have s455 : F452 1 = .int .i16 (b) := (hF453 1).trans s438
          have s456 : F452 2 = .int .i16 (c) := (hF453 2).trans s439
          have s457 : F452 3 = .int .i16 (d) := (hF453 3).trans s440
          have s458 : F452 9 = .bool true := (hF453 9).trans s441
          have s459 : F452 10 = .pointer (some ⟨p19, 0, none⟩) := (hF453 10).trans s442
          have s460 : F452 11 = .pointer (some ⟨p39, 0, none⟩) := (hF453 11).trans s443
          have s461 : F452 12 = .pointer (some ⟨p63, 0, none⟩) := (hF453 12).trans s444
          have s462 : F452 13 = .int .i64 (((16 : Nat) : Int)) := (hF453 13).trans s445
          have s463 : F452 14 = .pointer (some ⟨p195, 0, none⟩) := (hF453 14).trans s446
          have s464 : F452 15 = .pointer (some ⟨p236, 0, none⟩) := (hF453 15).trans s447
          have s465 : F452 30 = .bool (decide ((((16 : Nat) : Int)) < (16))) := (hF453 30).trans s448
          have s466 : F452 50 = .bool (decide ((((i : Nat) : Int)) < (16))) := (hF453 50).trans s450
          have s467 : F452 71 = .bool false := (hF453 71).trans s451
          have s468 : F452 16 = .int .i64 (((i + 1 : Nat) : Int)) := (hF453 16).trans rfl
          clear hF453
          exact then_normal ⟨(16 - (i + 1)), by omega, i + 1, by omega, rfl, s454, s455, s456, s457, s458, s459, s460, s461, s462, s463, s464, s465, s468, K292, B308, B309, B310, B311, B312⟩
    · replace c329 := of_decide_eq_false c329
      refine wq_exit ?_
      refine then_exit ?_
      refine then_exit ?_
      have l469 : 16 = i := by omega
      subst l469
      refine in_here ?_
      refine then_normal ?_
      refine wq_seq ?_
      refine wq_region ?_
      refine wl_v (.bool true) rfl rfl (y_mov rfl s319 ⟨rfl, rfl⟩) ?_
      refine wl_v (.bool true) rfl rfl (y_mov rfl rfl ⟨rfl, rfl⟩) ?_
      refine wl_vw (.pointer (some ⟨p195, 0, none⟩)) 1 true 73 rfl rfl rfl rfl rfl (y_atR (0) (s := 1) rfl s324 rfl (by omega) Tryd.underlying24 (by omega) (by kernel_rfl) (by omega) ⟨rfl, rfl⟩) ?_
      refine wl_vw (.int .i64 ((fwd (clB 1048576 (xr a b c d))) (0))) 1 true 73 rfl rfl rfl rfl rfl (y_ldR rfl rfl Tryd.underlying3 ((B311).cell (by omega)) ⟨rfl, rfl⟩) ?_
      refine wl_vw (.pointer (some ⟨p236, 0, none⟩)) 1 true 73 rfl rfl rfl rfl rfl (y_atR (0) (s := 1) rfl s325 rfl (by omega) Tryd.underlying24 (by omega) (by kernel_rfl) (by omega) ⟨rfl, rfl⟩) ?_
      refine wl_vw (.int .i64 ((fwd (clB 1048576 (yr a b c d))) (0))) 1 true 73 rfl rfl rfl rfl rfl (y_ldR rfl rfl Tryd.underlying3 ((B312).cell (by omega)) ⟨rfl, rfl⟩) ?_
      refine wl_vw (.bool true) 1 true 73 rfl rfl rfl rfl rfl (y_eqlI rfl rfl rfl (decide_eq_true hR.2.2.1) ⟨rfl, rfl⟩) ?_
      refine wl_v (.bool true) rfl rfl (y_pickT rfl rfl rfl ⟨rfl, rfl⟩) ?_
      refine wl_v (.bool true) rfl rfl (y_mov rfl rfl ⟨rfl, rfl⟩) ?_
      refine wl_vw (.pointer (some ⟨p195, 1, none⟩)) 8 true 80 rfl rfl rfl rfl rfl (y_atR (1) (s := 1) rfl s324 rfl (by omega) Tryd.underlying24 (by omega) (by kernel_rfl) (by omega) ⟨rfl, rfl⟩) ?_
      refine wl_vw (.int .i64 ((fwd (clB 1048576 (xr a b c d))) (1))) 8 true 80 rfl rfl rfl rfl rfl (y_ldR rfl rfl Tryd.underlying3 ((B311).cell (by omega)) ⟨rfl, rfl⟩) ?_
      refine wl_vw (.pointer (some ⟨p236, 4, none⟩)) 8 true 80 rfl rfl rfl rfl rfl (y_atR (4) (s := 1) rfl s325 rfl (by omega) Tryd.underlying24 (by omega) (by kernel_rfl) (by omega) ⟨rfl, rfl⟩) ?_
      refine wl_vw (.int .i64 ((fwd (clB 1048576 (yr a b c d))) (4))) 8 true 80 rfl rfl rfl rfl rfl (y_ldR rfl rfl Tryd.underlying3 ((B312).cell (by omega)) ⟨rfl, rfl⟩) ?_
      refine wl_vw (.bool true) 8 true 80 rfl rfl rfl rfl rfl (y_eqlI rfl rfl rfl (decide_eq_true hR.2.2.2.1) ⟨rfl, rfl⟩) ?_
      refine wl_v (.bool true) rfl rfl (y_pickT rfl rfl rfl ⟨rfl, rfl⟩) ?_
      refine wl_v (.bool true) rfl rfl (y_mov rfl rfl ⟨rfl, rfl⟩) ?_
      refine wl_vw (.pointer (some ⟨p195, 2, none⟩)) 15 true 87 rfl rfl rfl rfl rfl (y_atR (2) (s := 1) rfl s324 rfl (by omega) Tryd.underlying24 (by omega) (by kernel_rfl) (by omega) ⟨rfl, rfl⟩) ?_
      refine wl_vw (.int .i64 ((fwd (clB 1048576 (xr a b c d))) (2))) 15 true 87 rfl rfl rfl rfl rfl (y_ldR rfl rfl Tryd.underlying3 ((B311).cell (by omega)) ⟨rfl, rfl⟩) ?_
      refine wl_vw (.pointer (some ⟨p236, 8, none⟩)) 15 true 87 rfl rfl rfl rfl rfl (y_atR (8) (s := 1) rfl s325 rfl (by omega) Tryd.underlying24 (by omega) (by kernel_rfl) (by omega) ⟨rfl, rfl⟩) ?_
      refine wl_vw (.int .i64 ((fwd (clB 1048576 (yr a b c d))) (8))) 15 true 87 rfl rfl rfl rfl rfl (y_ldR rfl rfl Tryd.underlying3 ((B312).cell (by omega)) ⟨rfl, rfl⟩) ?_
      refine wl_vw (.bool true) 15 true 87 rfl rfl rfl rfl rfl (y_eqlI rfl rfl rfl (decide_eq_true hR.2.2.2.2.1) ⟨rfl, rfl⟩) ?_
      refine wl_v (.bool true) rfl rfl (y_pickT rfl rfl rfl ⟨rfl, rfl⟩) ?_
      refine wl_v (.bool true) rfl rfl (y_mov rfl rfl ⟨rfl, rfl⟩) ?_
      refine wl_vw (.pointer (some ⟨p195, 3, none⟩)) 22 true 94 rfl rfl rfl rfl rfl (y_atR (3) (s := 1) rfl s324 rfl (by omega) Tryd.underlying24 (by omega) (by kernel_rfl) (by omega) ⟨rfl, rfl⟩) ?_
      refine wl_vw (.int .i64 ((fwd (clB 1048576 (xr a b c d))) (3))) 22 true 94 rfl rfl rfl rfl rfl (y_ldR rfl rfl Tryd.underlying3 ((B311).cell (by omega)) ⟨rfl, rfl⟩) ?_
      refine wl_vw (.pointer (some ⟨p236, 12, none⟩)) 22 true 94 rfl rfl rfl rfl rfl (y_atR (12) (s := 1) rfl s325 rfl (by omega) Tryd.underlying24 (by omega) (by kernel_rfl) (by omega) ⟨rfl, rfl⟩) ?_
      refine wl_vw (.int .i64 ((fwd (clB 1048576 (yr a b c d))) (12))) 22 true 94 rfl rfl rfl rfl rfl (y_ldR rfl rfl Tryd.underlying3 ((B312).cell (by omega)) ⟨rfl, rfl⟩) ?_
      refine wl_vw (.bool true) 22 true 94 rfl rfl rfl rfl rfl (y_eqlI rfl rfl rfl (decide_eq_true hR.2.2.2.2.2) ⟨rfl, rfl⟩) ?_
      refine wl_v (.bool true) rfl rfl (y_pickT rfl rfl rfl ⟨rfl, rfl⟩) ?_
      refine wl_v (.bool true) rfl rfl (y_asg rfl rfl ⟨rfl, rfl⟩) ?_
      refine wl_nil fun F470 hF471 => ?_
      have s472 : F470 0 = .int .i16 (a) := (hF471 0).trans s315
      have s473 : F470 1 = .int .i16 (b) := (hF471 1).trans s316
      have s474 : F470 2 = .int .i16 (c) := (hF471 2).trans s317
      have s475 : F470 3 = .int .i16 (d) := (hF471 3).trans s318
      have s476 : F470 9 = .bool true := (hF471 9).trans s319
      have s477 : F470 10 = .pointer (some ⟨p19, 0, none⟩) := (hF471 10).trans s320
      have s478 : F470 11 = .pointer (some ⟨p39, 0, none⟩) := (hF471 11).trans s321
      have s479 : F470 12 = .pointer (some ⟨p63, 0, none⟩) := (hF471 12).trans s322
      have s480 : F470 13 = .int .i64 (((16 : Nat) : Int)) := (hF471 13).trans s323
      have s481 : F470 14 = .pointer (some ⟨p195, 0, none⟩) := (hF471 14).trans s324
      have s482 : F470 15 = .pointer (some ⟨p236, 0, none⟩) := (hF471 15).trans s325
      have s483 : F470 30 = .bool (decide ((((16 : Nat) : Int)) < (16))) := (hF471 30).trans s326
      have s484 : F470 16 = .int .i64 (((16 : Nat) : Int)) := (hF471 16).trans s327
      have s485 : F470 50 = .bool (decide ((((16 : Nat) : Int)) < (16))) := (hF471 50).trans s328
      have s486 : F470 8 = .bool true := (hF471 8).trans rfl
      clear hF471
      refine then_normal ?_
      refine wq_ret ?_
      exact end_tmp (v := .bool true) rfl s486 ⟨rfl, K292⟩
end Go.Proofs.YtjfbfkjmbegacaaDoor
