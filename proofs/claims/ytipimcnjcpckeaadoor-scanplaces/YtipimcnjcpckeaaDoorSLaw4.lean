/- The walk of the law on places. -/
import Derived.Test.YtipimcnjcpckeaaDoorSLaw2
import Derived.Test.YtipimcnjcpckeaaDoorSab
namespace Go.Proofs.YtipimcnjcpckeaaDoor
open Go.RowKit

theorem arbT16 : ArbT 51 16 := ArbT.of Tryd.underlying51 (by kernel_rfl)
def seenTo (k : Nat) : Nat → Bool := fun j => (List.range k).any fun a => ord a == j
theorem seenTo_zero : seenTo 0 = fun _ => false := by funext j; rfl
theorem seen_not : ∀ k, k < 16 → seenTo k (ord k) = false := by decide
theorem seen_next (k : Nat) : updb (seenTo k) (ord k) true = seenTo (k + 1) := by
  funext j
  unfold updb seenTo
  rw [List.range_succ, List.any_append]
  by_cases h : j = ord k
  · subst h; simp
  · have : ¬ ord k = j := fun e => h e.symm
    simp [h, this]
theorem places_zero : (([] ++ scanBits (fun _ => 0)).length : Int) = 1 := by decide +kernel
theorem places_same (b : Nat → Int) (k : Nat) (n : Int) (h : n = 0) : (([] ++ scanBits (upd (upd b k 0) k n)).length : Int) = (([] ++ scanBits (upd b k 0)).length : Nat) := by
  subst h
  have e : upd (upd b k 0) k 0 = upd b k 0 := by funext i; unfold upd; split <;> rfl
  rw [e]
theorem places_diff (b : Nat → Int) (k : Nat) (hk : k < 16) (n : Int) (h : n ≠ 0) : (!((textOf (pack ([] ++ scanBits (upd (upd b k 0) k n)))).toList == (textOf (pack ([] ++ scanBits (upd b k 0)))).toList)) = true := by
  have : ¬ (textOf (pack ([] ++ scanBits (upd (upd b k 0) k n)))).toList = (textOf (pack ([] ++ scanBits (upd b k 0)))).toList := fun ht => by
    have hp : pack (scanBits (upd (upd b k 0) k n)) = pack (scanBits (upd b k 0)) := text_same ht
    have h1 := bitsAt_pack (scanBits (upd (upd b k 0) k n))
    have h2 := bitsAt_pack (scanBits (upd b k 0))
    rw [hp] at h1
    have := scan_apart _ _ _ h1 h2 k hk
    unfold clB upd at this
    simp only [if_true] at this
    unfold cl at this
    omega
  simpa using this

set_option maxHeartbeats 4000000 in
set_option maxRecDepth 100000 in
theorem splaces_walk (b : Nat → Int) (a : Nat) (n : Int) (w0 : World) (hO : ScanIn w0) (ha : a < 256) (hn : -2147483648 ≤ n ∧ n ≤ 2147483647) :
    Calls Tryd.prog 6 #[blkV (b), .int .u8 (((a : Nat) : Int)), .int .i32 (n)] w0 fun e w' => e = .returned (.bool true) ∧ Kept (fun _ => False) w0 w' := by
  refine calls_wq (args := [blkV (b), .int .u8 (((a : Nat) : Int)), .int .i32 (n)]) 97 Tryd.func6 rfl rfl (Nat.le_of_ble_eq_true rfl) ?_
  have K0 := Kept.refl (fun _ => False) w0
  obtain ⟨k, hka⟩ : ∃ k, k = a % 16 := ⟨_, rfl⟩
  have hk : k < 16 := by omega
  refine wq_seq ?_
  refine wq_region ?_
  refine wl_box_blk rfl rfl rfl rfl fun p1 w2 e5 B3 k4 => ?_
  have g6 := onB_new (Nat.le_of_eq e5.symm)
  have gr7 : Grew w0 noB (onB p1) := Grew.new K0 g6
  clear e5 g6
  have K8 := K0.trans k4 (fun _ _ x => x.elim)
  refine wl_v (.bool false) rfl rfl (y_asg rfl rfl ⟨rfl, rfl⟩) ?_
  refine wl_nil fun F9 hF10 => ?_
  have s11 : F9 1 = .int .u8 (((a : Nat) : Int)) := (hF10 1).trans rfl
  have s12 : F9 2 = .int .i32 (n) := (hF10 2).trans rfl
  have s13 : F9 97 = undef := (hF10 97).trans rfl
  have s14 : F9 3 = .pointer (some ⟨p1, 0, none⟩) := (hF10 3).trans rfl
  clear hF10
  refine then_normal ?_
  refine wq_seq ?_
  refine wq_region ?_
  refine wl_call (R := fun v_ w_ => v_ = .bool true ∧ Kept (fun _ => False) w2 w_) rfl rfl (y_cs rfl rfl rfl (fun _ _ => by kernel_rfl) (ev_func _) vsN (sawake_any   _ (hO.all K8)  ) (fun e_ w_ h_ => ⟨_, h_.1, rfl, h_.2⟩)) ?_
  rintro _ w15 ⟨rfl, k16⟩
  have B17 := B3.all k16 id
  have K18 := K8.trans k16 (fun _ _ x => x.elim)
  refine wl_v (.bool true) rfl rfl (y_asg rfl rfl ⟨rfl, rfl⟩) ?_
  refine wl_nil fun F19 hF20 => ?_
  have s21 : F19 1 = .int .u8 (((a : Nat) : Int)) := (hF20 1).trans s11
  have s22 : F19 2 = .int .i32 (n) := (hF20 2).trans s12
  have s23 : F19 97 = undef := (hF20 97).trans s13
  have s24 : F19 3 = .pointer (some ⟨p1, 0, none⟩) := (hF20 3).trans s14
  have s25 : F19 7 = .bool true := (hF20 7).trans rfl
  clear hF20
  refine then_normal ?_
  refine wq_seq ?_
  refine wq_region ?_
  refine wl_v (.agg (boolL 16 (fun _ => false)).toArray) rfl rfl (y_buildR (cells := (boolL 16 (fun _ => false)).toArray) rfl (by kernel_rfl) rfl ⟨rfl, rfl⟩) ?_
  refine wl_alloc_arb rfl rfl rfl arbT16.2.2 fun p26 w27 e30 B28 k29 => ?_
  have g31 := onB_new (Nat.le_of_eq e30.symm)
  have gr32 : Grew w0 noB (onB p26) := Grew.new K18 g31
  have ap33 : Apart (onB p26) (onB p1) := Apart.new g31 (onB_live (B17).lt)
  clear e30 g31
  have B34 := B17.all k29 id
  have K35 := K18.trans k29 (fun _ _ x => x.elim)
  refine wl_store_arb arbT16 rfl rfl rfl rfl rfl B28 fun w36 B37 k38 => ?_
  have B39 := B34.all k38 (fun x => (((ap33).symm) p1 rfl x))
  have K40 := K35.trans k38 (Grew.ok (S := fun _ => False) gr32 noB_le)
  refine wl_nil fun F41 hF42 => ?_
  have s43 : F41 1 = .int .u8 (((a : Nat) : Int)) := (hF42 1).trans s21
  have s44 : F41 2 = .int .i32 (n) := (hF42 2).trans s22
  have s45 : F41 97 = undef := (hF42 97).trans s23
  have s46 : F41 3 = .pointer (some ⟨p1, 0, none⟩) := (hF42 3).trans s24
  have s47 : F41 7 = .bool true := (hF42 7).trans s25
  have s48 : F41 8 = .pointer (some ⟨p26, 0, none⟩) := (hF42 8).trans rfl
  clear hF42
  refine then_normal ?_
  refine wq_seq ?_
  refine wq_region ?_
  refine wl_call (R := fun v_ w_ => v_ = blkV (ordB) ∧ Kept (fun _ => False) w36 w_) rfl rfl (y_cs rfl rfl rfl (fun _ _ => by kernel_rfl) (ev_func _) vsN (scan_order   _ (hO.all K40)  ) (fun e_ w_ h_ => ⟨_, h_.1, rfl, h_.2⟩)) ?_
  rintro _ w49 ⟨rfl, k50⟩
  have B51 := B39.all k50 id
  have B52 := B37.all k50 id
  have K53 := K40.trans k50 (fun _ _ x => x.elim)
  refine wl_alloc_blk rfl rfl rfl blkT_arr.2.2 fun p54 w55 e58 B56 k57 => ?_
  have g59 := onB_new (Nat.le_of_eq e58.symm)
  have gr60 : Grew w0 noB (onB p54) := Grew.new K53 g59
  have ap61 : Apart (onB p54) (onB p1) := Apart.new g59 (onB_live (B51).lt)
  have ap62 : Apart (onB p54) (onB p26) := Apart.new g59 (onB_live (B52).lt)
  clear e58 g59
  have B63 := B51.all k57 id
  have B64 := B52.all k57 id
  have K65 := K53.trans k57 (fun _ _ x => x.elim)
  refine wl_store_blk blkT_arr rfl rfl rfl rfl rfl B56 fun w66 B67 k68 => ?_
  have B69 := B63.all k68 (fun x => (((ap61).symm) p1 rfl x))
  have B70 := B64.all k68 (fun x => (((ap62).symm) p26 rfl x))
  have K71 := K65.trans k68 (Grew.ok (S := fun _ => False) gr60 noB_le)
  refine wl_nil fun F72 hF73 => ?_
  have s74 : F72 1 = .int .u8 (((a : Nat) : Int)) := (hF73 1).trans s43
  have s75 : F72 2 = .int .i32 (n) := (hF73 2).trans s44
  have s76 : F72 97 = undef := (hF73 97).trans s45
  have s77 : F72 3 = .pointer (some ⟨p1, 0, none⟩) := (hF73 3).trans s46
  have s78 : F72 7 = .bool true := (hF73 7).trans s47
  have s79 : F72 8 = .pointer (some ⟨p26, 0, none⟩) := (hF73 8).trans s48
  have s80 : F72 9 = .pointer (some ⟨p54, 0, none⟩) := (hF73 9).trans rfl
  clear hF73
  refine then_normal ?_
  refine wq_seq ?_
  refine wq_seq ?_
  refine wq_region ?_
  refine wl_v (.int .i64 (0)) rfl rfl (y_asg rfl rfl ⟨rfl, rfl⟩) ?_
  refine wl_nil fun F81 hF82 => ?_
  have s83 : F81 1 = .int .u8 (((a : Nat) : Int)) := (hF82 1).trans s74
  have s84 : F81 2 = .int .i32 (n) := (hF82 2).trans s75
  have s85 : F81 97 = undef := (hF82 97).trans s76
  have s86 : F81 3 = .pointer (some ⟨p1, 0, none⟩) := (hF82 3).trans s77
  have s87 : F81 7 = .bool true := (hF82 7).trans s78
  have s88 : F81 8 = .pointer (some ⟨p26, 0, none⟩) := (hF82 8).trans s79
  have s89 : F81 9 = .pointer (some ⟨p54, 0, none⟩) := (hF82 9).trans s80
  have s90 : F81 10 = .int .i64 (0) := (hF82 10).trans rfl
  clear hF82
  refine then_normal ?_
  refine wq_block ?_
  refine wq_loop (fun nn FF ww => ∃ (i : Nat), i ≤ 16 ∧ nn = 16 - i ∧ FF 1 = .int .u8 (((a : Nat) : Int)) ∧ FF 2 = .int .i32 (n) ∧ FF 3 = .pointer (some ⟨p1, 0, none⟩) ∧ FF 7 = .bool true ∧ FF 8 = .pointer (some ⟨p26, 0, none⟩) ∧ FF 9 = .pointer (some ⟨p54, 0, none⟩) ∧ FF 97 = undef ∧ FF 10 = .int .i64 (((i : Nat) : Int)) ∧ Kept (fun _ => False) w0 ww ∧ Blk ww p1 22 (b) ∧ Arb ww p26 51 16 (seenTo i) ∧ Blk ww p54 22 (ordB)) (16 - (0)) ⟨0, by omega, rfl, s83, s84, s86, s87, s88, s89, s85, s90, K71, B69, (by rw [seenTo_zero]; exact B70), B67⟩ ?_
  rintro n94 F91 w92 ⟨i, i95, hn94, s96, s97, s98, s99, s100, s101, s102, s103, K93, B104, B105, B106⟩
  refine wq_seq ?_
  refine wq_seq ?_
  refine wq_region ?_
  refine wl_v (.int .i64 (((i : Nat) : Int))) rfl rfl (y_mov rfl s103 ⟨rfl, rfl⟩) ?_
  refine wl_v (.bool (decide ((((i : Nat) : Int)) < (16)))) rfl rfl (y_lss rfl rfl rfl rfl ⟨rfl, rfl⟩) ?_
  refine wl_nil fun F107 hF108 => ?_
  have s109 : F107 1 = .int .u8 (((a : Nat) : Int)) := (hF108 1).trans s96
  have s110 : F107 2 = .int .i32 (n) := (hF108 2).trans s97
  have s111 : F107 3 = .pointer (some ⟨p1, 0, none⟩) := (hF108 3).trans s98
  have s112 : F107 7 = .bool true := (hF108 7).trans s99
  have s113 : F107 8 = .pointer (some ⟨p26, 0, none⟩) := (hF108 8).trans s100
  have s114 : F107 9 = .pointer (some ⟨p54, 0, none⟩) := (hF108 9).trans s101
  have s115 : F107 97 = undef := (hF108 97).trans s102
  have s116 : F107 10 = .int .i64 (((i : Nat) : Int)) := (hF108 10).trans s103
  have s117 : F107 19 = .bool (decide ((((i : Nat) : Int)) < (16))) := (hF108 19).trans rfl
  clear hF108
  refine then_normal ?_
  refine wq_cond s117 (fun c118 => ?_) (fun c118 => ?_)
  · replace c118 := of_decide_eq_true c118
    refine wq_skip ?_
    refine then_normal ?_
    refine wq_seq ?_
    refine wq_block ?_
    refine wq_seq ?_
    refine wq_seq ?_
    have ho := ord_lt i (by omega)
    refine wq_region ?_
    refine wl_v (.int .i64 (((i : Nat) : Int))) rfl rfl (y_mov rfl s116 ⟨rfl, rfl⟩) ?_
    refine wl_v (.pointer (some ⟨p54, i, none⟩)) rfl rfl (y_atR (i) (s := 1) rfl s114 rfl (by omega) Tryd.underlying22 (by omega) (by kernel_rfl) (by omega) ⟨rfl, rfl⟩) ?_
    refine wl_v (.int .i64 (((ord i : Nat) : Int))) rfl rfl (y_ldR rfl rfl Tryd.underlying3 (((B106).cell (by omega)).trans (some_int rfl)) ⟨rfl, rfl⟩) ?_
    refine wl_v (.bool false) rfl rfl (y_lss rfl rfl rfl (decide_eq_false (by omega)) ⟨rfl, rfl⟩) ?_
    refine wl_v (.bool false) rfl rfl (y_mov rfl rfl ⟨rfl, rfl⟩) ?_
    refine wl_vw (.int .i64 (((i : Nat) : Int))) 4 false 26 rfl rfl rfl rfl rfl (y_mov rfl s116 ⟨rfl, rfl⟩) ?_
    refine wl_vw (.pointer (some ⟨p54, i, none⟩)) 4 false 26 rfl rfl rfl rfl rfl (y_atR (i) (s := 1) rfl s114 rfl (by omega) Tryd.underlying22 (by omega) (by kernel_rfl) (by omega) ⟨rfl, rfl⟩) ?_
    refine wl_vw (.int .i64 (((ord i : Nat) : Int))) 4 false 26 rfl rfl rfl rfl rfl (y_ldR rfl rfl Tryd.underlying3 (((B106).cell (by omega)).trans (some_int rfl)) ⟨rfl, rfl⟩) ?_
    refine wl_vw (.bool false) 4 false 26 rfl rfl rfl rfl rfl (y_gtr rfl rfl rfl (decide_eq_false (by omega)) ⟨rfl, rfl⟩) ?_
    refine wl_v (.bool false) rfl rfl (y_pickF rfl rfl rfl ⟨rfl, rfl⟩) ?_
    refine wl_v (.bool false) rfl rfl (y_mov rfl rfl ⟨rfl, rfl⟩) ?_
    refine wl_vw (.int .i64 (((i : Nat) : Int))) 10 false 32 rfl rfl rfl rfl rfl (y_mov rfl s116 ⟨rfl, rfl⟩) ?_
    refine wl_vw (.pointer (some ⟨p54, i, none⟩)) 10 false 32 rfl rfl rfl rfl rfl (y_atR (i) (s := 1) rfl s114 rfl (by omega) Tryd.underlying22 (by omega) (by kernel_rfl) (by omega) ⟨rfl, rfl⟩) ?_
    refine wl_vw (.int .i64 (((ord i : Nat) : Int))) 10 false 32 rfl rfl rfl rfl rfl (y_ldR rfl rfl Tryd.underlying3 (((B106).cell (by omega)).trans (some_int rfl)) ⟨rfl, rfl⟩) ?_
    refine wl_vw (.pointer (some ⟨p26, ord i, none⟩)) 10 false 32 rfl rfl rfl rfl rfl (y_atR (ord i) (s := 1) rfl s113 rfl (by omega) Tryd.underlying51 (by omega) (by kernel_rfl) (by omega) ⟨rfl, rfl⟩) ?_
    refine wl_vw (.bool false) 10 false 32 rfl rfl rfl rfl rfl (y_ldA rfl rfl Tryd.underlying4 rfl (((B105).cell (by omega)).trans (congrArg (fun z => some (Value.bool z)) (seen_not i (by omega)))) ⟨rfl, rfl⟩) ?_
    refine wl_v (.bool false) rfl rfl (y_pickF rfl rfl rfl ⟨rfl, rfl⟩) ?_
    refine wl_nil fun F119 hF120 => ?_
    have s121 : F119 1 = .int .u8 (((a : Nat) : Int)) := (hF120 1).trans s109
    have s122 : F119 2 = .int .i32 (n) := (hF120 2).trans s110
    have s123 : F119 3 = .pointer (some ⟨p1, 0, none⟩) := (hF120 3).trans s111
    have s124 : F119 7 = .bool true := (hF120 7).trans s112
    have s125 : F119 8 = .pointer (some ⟨p26, 0, none⟩) := (hF120 8).trans s113
    have s126 : F119 9 = .pointer (some ⟨p54, 0, none⟩) := (hF120 9).trans s114
    have s127 : F119 97 = undef := (hF120 97).trans s115
    have s128 : F119 10 = .int .i64 (((i : Nat) : Int)) := (hF120 10).trans s116
    have s129 : F119 38 = .bool false := (hF120 38).trans rfl
    clear hF120
    refine then_normal ?_
    refine wq_cond (t := false) s129 (fun e => by cases e) (fun _ => ?_)
    refine wq_skip ?_
    refine then_normal ?_
    refine wq_region ?_
    refine wl_v (.int .i64 (((i : Nat) : Int))) rfl rfl (y_mov rfl s128 ⟨rfl, rfl⟩) ?_
    refine wl_v (.pointer (some ⟨p54, i, none⟩)) rfl rfl (y_atR (i) (s := 1) rfl s126 rfl (by omega) Tryd.underlying22 (by omega) (by kernel_rfl) (by omega) ⟨rfl, rfl⟩) ?_
    refine wl_v (.int .i64 (((ord i : Nat) : Int))) rfl rfl (y_ldR rfl rfl Tryd.underlying3 (((B106).cell (by omega)).trans (some_int rfl)) ⟨rfl, rfl⟩) ?_
    refine wl_v (.pointer (some ⟨p26, ord i, none⟩)) rfl rfl (y_atR (ord i) (s := 1) rfl s125 rfl (by omega) Tryd.underlying51 (by omega) (by kernel_rfl) (by omega) ⟨rfl, rfl⟩) ?_
    refine wl_set_arb rfl rfl rfl rfl rfl B105 (by omega) (by kernel_rfl) fun w130 B131 k132 => ?_
    have B133 := B104.all k132 (fun x => (((ap33).symm) p1 rfl x))
    have B134 := B106.all k132 (fun x => ((ap62) p54 rfl x))
    have K135 := K93.trans k132 (Grew.ok (S := fun _ => False) gr32 noB_le)
    refine wl_nil fun F136 hF137 => ?_
    have s138 : F136 1 = .int .u8 (((a : Nat) : Int)) := (hF137 1).trans s121
    have s139 : F136 2 = .int .i32 (n) := (hF137 2).trans s122
    have s140 : F136 3 = .pointer (some ⟨p1, 0, none⟩) := (hF137 3).trans s123
    have s141 : F136 7 = .bool true := (hF137 7).trans s124
    have s142 : F136 8 = .pointer (some ⟨p26, 0, none⟩) := (hF137 8).trans s125
    have s143 : F136 9 = .pointer (some ⟨p54, 0, none⟩) := (hF137 9).trans s126
    have s144 : F136 97 = undef := (hF137 97).trans s127
    have s145 : F136 10 = .int .i64 (((i : Nat) : Int)) := (hF137 10).trans s128
    clear hF137
    refine in_normal ?_
    refine then_normal ?_
    refine wq_region ?_
    refine wl_v (.int .i64 (((i : Nat) : Int))) rfl rfl (y_mov rfl s145 ⟨rfl, rfl⟩) ?_
    refine wl_v (.int .i64 (((i + 1 : Nat) : Int))) rfl rfl (y_add rfl rfl rfl (i64_n (by omega) (by omega)) ⟨rfl, rfl⟩) ?_
    refine wl_v (.int .i64 (((i + 1 : Nat) : Int))) rfl rfl (y_asg rfl rfl ⟨rfl, rfl⟩) ?_
    refine wl_nil fun F146 hF147 => ?_
    have s148 : F146 1 = .int .u8 (((a : Nat) : Int)) := (hF147 1).trans s138
    have s149 : F146 2 = .int .i32 (n) := (hF147 2).trans s139
    have s150 : F146 3 = .pointer (some ⟨p1, 0, none⟩) := (hF147 3).trans s140
    have s151 : F146 7 = .bool true := (hF147 7).trans s141
    have s152 : F146 8 = .pointer (some ⟨p26, 0, none⟩) := (hF147 8).trans s142
    have s153 : F146 9 = .pointer (some ⟨p54, 0, none⟩) := (hF147 9).trans s143
    have s154 : F146 97 = undef := (hF147 97).trans s144
    have s155 : F146 10 = .int .i64 (((i + 1 : Nat) : Int)) := (hF147 10).trans rfl
    clear hF147
    exact then_normal ⟨(16 - (i + 1)), by omega, i + 1, by omega, rfl, s148, s149, s150, s151, s152, s153, s154, s155, K135, B133, (by rw [← seen_next]; exact B131), B134⟩
  · replace c118 := of_decide_eq_false c118
    refine wq_exit ?_
    refine then_exit ?_
    refine then_exit ?_
    have l156 : 16 = i := by omega
    subst l156
    refine in_here ?_
    refine then_normal ?_
    refine wq_seq ?_
    refine wq_region ?_
    refine wl_v (.int .u8 (((a : Nat) : Int))) rfl rfl (y_mov rfl s109 ⟨rfl, rfl⟩) ?_
    refine wl_v (.int .i64 (((a : Nat) : Int))) rfl rfl (y_convR rfl rfl Tryd.underlying5 Tryd.underlying3 (i64_i rfl (by omega)) ⟨rfl, rfl⟩) ?_
    refine wl_v (.int .i64 (((k : Nat) : Int))) rfl rfl (y_rem rfl rfl rfl (by first | decide | omega) ((mod_nat6 a 16).trans (by rw [hka])) ⟨rfl, rfl⟩) ?_
    refine wl_v (.int .i64 (((k : Nat) : Int))) rfl rfl (y_asg rfl rfl ⟨rfl, rfl⟩) ?_
    refine wl_nil fun F157 hF158 => ?_
    have s159 : F157 2 = .int .i32 (n) := (hF158 2).trans s110
    have s160 : F157 3 = .pointer (some ⟨p1, 0, none⟩) := (hF158 3).trans s111
    have s161 : F157 7 = .bool true := (hF158 7).trans s112
    have s162 : F157 97 = undef := (hF158 97).trans s115
    have s163 : F157 11 = .int .i64 (((k : Nat) : Int)) := (hF158 11).trans rfl
    clear hF158
    refine then_normal ?_
    refine wq_seq ?_
    refine wq_region ?_
    refine wl_v (.agg #[.slice none 0 0, .int .i64 0]) rfl rfl (y_buildR (cells := #[.slice none 0 0, .int .i64 0]) rfl (by kernel_rfl) rfl ⟨rfl, rfl⟩) ?_
    refine wl_box_wri rfl rfl rfl rfl fun p164 w165 T169 B168 g170 k166 => ?_
    have gr171 : Grew w0 noB (T169) := Grew.new K93 g170
    have ap172 : Apart (T169) (onB p1) := Apart.new g170 (onB_live (B104).lt)
    have ap173 : Apart (T169) (onB p26) := Apart.new g170 (onB_live (B105).lt)
    have ap174 : Apart (T169) (onB p54) := Apart.new g170 (onB_live (B106).lt)
    have B175 := B104.all k166 id
    have B176 := B105.all k166 id
    have B177 := B106.all k166 id
    have K178 := K93.trans k166 (fun _ _ x => x.elim)
    refine wl_v (.pointer (some ⟨p164, 0, none⟩)) rfl rfl (y_asg rfl rfl ⟨rfl, rfl⟩) ?_
    refine wl_nil fun F179 hF180 => ?_
    have s181 : F179 2 = .int .i32 (n) := (hF180 2).trans s159
    have s182 : F179 3 = .pointer (some ⟨p1, 0, none⟩) := (hF180 3).trans s160
    have s183 : F179 7 = .bool true := (hF180 7).trans s161
    have s184 : F179 97 = undef := (hF180 97).trans s162
    have s185 : F179 11 = .int .i64 (((k : Nat) : Int)) := (hF180 11).trans s163
    have s186 : F179 12 = .pointer (some ⟨p164, 0, none⟩) := (hF180 12).trans rfl
    clear hF180
    refine then_normal ?_
    refine wq_seq ?_
    refine wq_region ?_
    refine wl_v (.agg #[.slice none 0 0, .int .i64 0]) rfl rfl (y_buildR (cells := #[.slice none 0 0, .int .i64 0]) rfl (by kernel_rfl) rfl ⟨rfl, rfl⟩) ?_
    refine wl_box_wri rfl rfl rfl rfl fun p187 w188 T192 B191 g193 k189 => ?_
    have gr194 : Grew w0 noB (T192) := Grew.new K178 g193
    have ap195 : Apart (T192) (onB p1) := Apart.new g193 (onB_live (B175).lt)
    have ap196 : Apart (T192) (onB p26) := Apart.new g193 (onB_live (B176).lt)
    have ap197 : Apart (T192) (onB p54) := Apart.new g193 (onB_live (B177).lt)
    have ap198 : Apart (T192) (T169) := Apart.new g193 (B168).live
    have B199 := B175.all k189 id
    have B200 := B176.all k189 id
    have B201 := B177.all k189 id
    have B202 := B168.all k189 Apart.none
    have K203 := K178.trans k189 (fun _ _ x => x.elim)
    refine wl_v (.pointer (some ⟨p187, 0, none⟩)) rfl rfl (y_asg rfl rfl ⟨rfl, rfl⟩) ?_
    refine wl_nil fun F204 hF205 => ?_
    have s206 : F204 2 = .int .i32 (n) := (hF205 2).trans s181
    have s207 : F204 3 = .pointer (some ⟨p1, 0, none⟩) := (hF205 3).trans s182
    have s208 : F204 7 = .bool true := (hF205 7).trans s183
    have s209 : F204 97 = undef := (hF205 97).trans s184
    have s210 : F204 11 = .int .i64 (((k : Nat) : Int)) := (hF205 11).trans s185
    have s211 : F204 12 = .pointer (some ⟨p164, 0, none⟩) := (hF205 12).trans s186
    have s212 : F204 13 = .pointer (some ⟨p187, 0, none⟩) := (hF205 13).trans rfl
    clear hF205
    refine then_normal ?_
    refine wq_seq ?_
    refine wq_region ?_
    refine wl_v (.agg #[.slice none 0 0, .int .i64 0]) rfl rfl (y_buildR (cells := #[.slice none 0 0, .int .i64 0]) rfl (by kernel_rfl) rfl ⟨rfl, rfl⟩) ?_
    refine wl_box_wri rfl rfl rfl rfl fun p213 w214 T218 B217 g219 k215 => ?_
    have gr220 : Grew w0 noB (T218) := Grew.new K203 g219
    have ap221 : Apart (T218) (onB p1) := Apart.new g219 (onB_live (B199).lt)
    have ap222 : Apart (T218) (onB p26) := Apart.new g219 (onB_live (B200).lt)
    have ap223 : Apart (T218) (onB p54) := Apart.new g219 (onB_live (B201).lt)
    have ap224 : Apart (T218) (T169) := Apart.new g219 (B202).live
    have ap225 : Apart (T218) (T192) := Apart.new g219 (B191).live
    have B226 := B199.all k215 id
    have B227 := B200.all k215 id
    have B228 := B201.all k215 id
    have B229 := B202.all k215 Apart.none
    have B230 := B191.all k215 Apart.none
    have K231 := K203.trans k215 (fun _ _ x => x.elim)
    refine wl_v (.pointer (some ⟨p213, 0, none⟩)) rfl rfl (y_asg rfl rfl ⟨rfl, rfl⟩) ?_
    refine wl_nil fun F232 hF233 => ?_
    have s234 : F232 2 = .int .i32 (n) := (hF233 2).trans s206
    have s235 : F232 3 = .pointer (some ⟨p1, 0, none⟩) := (hF233 3).trans s207
    have s236 : F232 7 = .bool true := (hF233 7).trans s208
    have s237 : F232 97 = undef := (hF233 97).trans s209
    have s238 : F232 11 = .int .i64 (((k : Nat) : Int)) := (hF233 11).trans s210
    have s239 : F232 12 = .pointer (some ⟨p164, 0, none⟩) := (hF233 12).trans s211
    have s240 : F232 13 = .pointer (some ⟨p187, 0, none⟩) := (hF233 13).trans s212
    have s241 : F232 14 = .pointer (some ⟨p213, 0, none⟩) := (hF233 14).trans rfl
    clear hF233
    refine then_normal ?_
    refine wq_seq ?_
    refine wq_region ?_
    refine wl_v (.int .i64 (((k : Nat) : Int))) rfl rfl (y_mov rfl s238 ⟨rfl, rfl⟩) ?_
    refine wl_v (.pointer (some ⟨p1, k, none⟩)) rfl rfl (y_atR (k) (s := 1) rfl s235 rfl (by omega) Tryd.underlying22 (by omega) (by kernel_rfl) (by omega) ⟨rfl, rfl⟩) ?_
    refine wl_set_blk rfl rfl rfl rfl rfl B226 (by omega) (by kernel_rfl) fun w242 B243 k244 => ?_
    have B245 := B227.all k244 (fun x => ((ap33) p26 rfl x))
    have B246 := B228.all k244 (fun x => ((ap61) p54 rfl x))
    have B247 := B229.all k244 (fun i h x => ((ap172) i h x))
    have B248 := B230.all k244 (fun i h x => ((ap195) i h x))
    have B249 := B217.all k244 (fun i h x => ((ap221) i h x))
    have K250 := K231.trans k244 (Grew.ok (S := fun _ => False) gr7 noB_le)
    refine wl_nil fun F251 hF252 => ?_
    have s253 : F251 2 = .int .i32 (n) := (hF252 2).trans s234
    have s254 : F251 3 = .pointer (some ⟨p1, 0, none⟩) := (hF252 3).trans s235
    have s255 : F251 7 = .bool true := (hF252 7).trans s236
    have s256 : F251 97 = undef := (hF252 97).trans s237
    have s257 : F251 11 = .int .i64 (((k : Nat) : Int)) := (hF252 11).trans s238
    have s258 : F251 12 = .pointer (some ⟨p164, 0, none⟩) := (hF252 12).trans s239
    have s259 : F251 13 = .pointer (some ⟨p187, 0, none⟩) := (hF252 13).trans s240
    have s260 : F251 14 = .pointer (some ⟨p213, 0, none⟩) := (hF252 14).trans s241
    clear hF252
    refine then_normal ?_
    refine wq_seq ?_
    refine wq_region ?_
    refine wl_v (.pointer (some ⟨p164, 0, none⟩)) rfl rfl (y_mov rfl s258 ⟨rfl, rfl⟩) ?_
    refine wl_v (blkV (fun _ => 0)) rfl rfl (y_buildR (cells := (arrL 16 (fun _ => 0)).toArray) rfl (by kernel_rfl) rfl ⟨rfl, rfl⟩) ?_
    refine wl_call (R := fun v_ w_ => ∃ (T263 : Nat → Prop), .tuple #[] = v_ ∧ Kept (T169) w242 w_ ∧ (Wri w_ T263 p164 ((([] : List Bool)) ++ scanBits (fun _ => 0)) ∧ Grew w242 (T169) T263)) rfl rfl (y_cs rfl rfl rfl (fun _ _ => by kernel_rfl) (ev_func _) (vsC rfl (vsC rfl vsN)) (scan_write (p164) (([] : List Bool)) (fun _ => 0) (T169) _ (hO.all K250) (above gr171 hO) (by first | decide | (simp; omega) | simp) B247 ) (fun e_ w_ h_ => by obtain ⟨T263_, he_, hr_⟩ := h_; exact ⟨_, he_, T263_, rfl, hr_⟩)) ?_
    rintro _ w261 ⟨T263, rfl, k262, ⟨B264, g265⟩⟩
    have B266 := B243.all k262 (fun x => (((ap172).symm) p1 rfl x))
    have B267 := B245.all k262 (fun x => (((ap173).symm) p26 rfl x))
    have B268 := B246.all k262 (fun x => (((ap174).symm) p54 rfl x))
    have B269 := B248.all k262 (fun i h x => ((ap198) i h x))
    have B270 := B249.all k262 (fun i h x => ((ap224) i h x))
    have K271 := K250.trans k262 (fun i hi x => ((Grew.ok (S := fun _ => False) gr171 noB_le) i hi x))
    have gr272 := gr171.trans K250 g265
    have ap273 : Apart T263 (onB p1) := (ap172).grew g265 (onB_live (B243).lt)
    have ap274 : Apart T263 (onB p26) := (ap173).grew g265 (onB_live (B245).lt)
    have ap275 : Apart T263 (onB p54) := (ap174).grew g265 (onB_live (B246).lt)
    have ap276 : Apart T263 (T192) := ((ap198).symm).grew g265 (B248).live
    have ap277 : Apart T263 (T218) := ((ap224).symm).grew g265 (B249).live
    refine wl_nil fun F278 hF279 => ?_
    have s280 : F278 2 = .int .i32 (n) := (hF279 2).trans s253
    have s281 : F278 3 = .pointer (some ⟨p1, 0, none⟩) := (hF279 3).trans s254
    have s282 : F278 7 = .bool true := (hF279 7).trans s255
    have s283 : F278 97 = undef := (hF279 97).trans s256
    have s284 : F278 11 = .int .i64 (((k : Nat) : Int)) := (hF279 11).trans s257
    have s285 : F278 12 = .pointer (some ⟨p164, 0, none⟩) := (hF279 12).trans s258
    have s286 : F278 13 = .pointer (some ⟨p187, 0, none⟩) := (hF279 13).trans s259
    have s287 : F278 14 = .pointer (some ⟨p213, 0, none⟩) := (hF279 14).trans s260
    clear hF279
    refine then_normal ?_
    refine wq_seq ?_
    refine wq_region ?_
    refine wl_v (.pointer (some ⟨p187, 0, none⟩)) rfl rfl (y_mov rfl s286 ⟨rfl, rfl⟩) ?_
    refine wl_v (blkV (upd (b) (k) (0))) rfl rfl (y_load_blk blkT_arr rfl s281 B266 ⟨rfl, rfl⟩) ?_
    refine wl_call (R := fun v_ w_ => ∃ (T290 : Nat → Prop), .tuple #[] = v_ ∧ Kept (T192) w261 w_ ∧ (Wri w_ T290 p187 ((([] : List Bool)) ++ scanBits (upd (b) (k) (0))) ∧ Grew w261 (T192) T290)) rfl rfl (y_cs rfl rfl rfl (fun _ _ => by kernel_rfl) (ev_func _) (vsC rfl (vsC rfl vsN)) (scan_write (p187) (([] : List Bool)) (upd (b) (k) (0)) (T192) _ (hO.all K271) (above gr194 hO) (by first | decide | (simp; omega) | simp) B269 ) (fun e_ w_ h_ => by obtain ⟨T290_, he_, hr_⟩ := h_; exact ⟨_, he_, T290_, rfl, hr_⟩)) ?_
    rintro _ w288 ⟨T290, rfl, k289, ⟨B291, g292⟩⟩
    have B293 := B266.all k289 (fun x => (((ap195).symm) p1 rfl x))
    have B294 := B267.all k289 (fun x => (((ap196).symm) p26 rfl x))
    have B295 := B268.all k289 (fun x => (((ap197).symm) p54 rfl x))
    have B296 := B264.all k289 (fun i h x => ((ap276) i h x))
    have B297 := B270.all k289 (fun i h x => ((ap225) i h x))
    have K298 := K271.trans k289 (fun i hi x => ((Grew.ok (S := fun _ => False) gr194 noB_le) i hi x))
    have gr299 := gr194.trans K271 g292
    have ap300 : Apart T290 (onB p1) := (ap195).grew g292 (onB_live (B266).lt)
    have ap301 : Apart T290 (onB p26) := (ap196).grew g292 (onB_live (B267).lt)
    have ap302 : Apart T290 (onB p54) := (ap197).grew g292 (onB_live (B268).lt)
    have ap303 : Apart T290 (T263) := ((ap276).symm).grew g292 (B264).live
    have ap304 : Apart T290 (T218) := ((ap225).symm).grew g292 (B270).live
    refine wl_nil fun F305 hF306 => ?_
    have s307 : F305 2 = .int .i32 (n) := (hF306 2).trans s280
    have s308 : F305 3 = .pointer (some ⟨p1, 0, none⟩) := (hF306 3).trans s281
    have s309 : F305 7 = .bool true := (hF306 7).trans s282
    have s310 : F305 97 = undef := (hF306 97).trans s283
    have s311 : F305 11 = .int .i64 (((k : Nat) : Int)) := (hF306 11).trans s284
    have s312 : F305 12 = .pointer (some ⟨p164, 0, none⟩) := (hF306 12).trans s285
    have s313 : F305 13 = .pointer (some ⟨p187, 0, none⟩) := (hF306 13).trans s286
    have s314 : F305 14 = .pointer (some ⟨p213, 0, none⟩) := (hF306 14).trans s287
    clear hF306
    refine then_normal ?_
    refine wq_seq ?_
    refine wq_region ?_
    refine wl_v (.int .i64 (((k : Nat) : Int))) rfl rfl (y_mov rfl s311 ⟨rfl, rfl⟩) ?_
    refine wl_v (.int .i32 (n)) rfl rfl (y_mov rfl s307 ⟨rfl, rfl⟩) ?_
    refine wl_v (.int .i64 (n)) rfl rfl (y_convR rfl rfl Tryd.underlying21 Tryd.underlying3 (i64_i rfl (by omega)) ⟨rfl, rfl⟩) ?_
    refine wl_v (.pointer (some ⟨p1, k, none⟩)) rfl rfl (y_atR (k) (s := 1) rfl s308 rfl (by omega) Tryd.underlying22 (by omega) (by kernel_rfl) (by omega) ⟨rfl, rfl⟩) ?_
    refine wl_set_blk rfl rfl rfl rfl rfl B293 (by omega) (by kernel_rfl) fun w315 B316 k317 => ?_
    have B318 := B294.all k317 (fun x => ((ap33) p26 rfl x))
    have B319 := B295.all k317 (fun x => ((ap61) p54 rfl x))
    have B320 := B296.all k317 (fun i h x => ((ap273) i h x))
    have B321 := B291.all k317 (fun i h x => ((ap300) i h x))
    have B322 := B297.all k317 (fun i h x => ((ap221) i h x))
    have K323 := K298.trans k317 (Grew.ok (S := fun _ => False) gr7 noB_le)
    refine wl_nil fun F324 hF325 => ?_
    have s326 : F324 2 = .int .i32 (n) := (hF325 2).trans s307
    have s327 : F324 3 = .pointer (some ⟨p1, 0, none⟩) := (hF325 3).trans s308
    have s328 : F324 7 = .bool true := (hF325 7).trans s309
    have s329 : F324 97 = undef := (hF325 97).trans s310
    have s330 : F324 12 = .pointer (some ⟨p164, 0, none⟩) := (hF325 12).trans s312
    have s331 : F324 13 = .pointer (some ⟨p187, 0, none⟩) := (hF325 13).trans s313
    have s332 : F324 14 = .pointer (some ⟨p213, 0, none⟩) := (hF325 14).trans s314
    clear hF325
    refine then_normal ?_
    refine wq_seq ?_
    refine wq_region ?_
    refine wl_v (.pointer (some ⟨p213, 0, none⟩)) rfl rfl (y_mov rfl s332 ⟨rfl, rfl⟩) ?_
    refine wl_v (blkV (upd (upd (b) (k) (0)) (k) (n))) rfl rfl (y_load_blk blkT_arr rfl s327 B316 ⟨rfl, rfl⟩) ?_
    refine wl_call (R := fun v_ w_ => ∃ (T335 : Nat → Prop), .tuple #[] = v_ ∧ Kept (T218) w315 w_ ∧ (Wri w_ T335 p213 ((([] : List Bool)) ++ scanBits (upd (upd (b) (k) (0)) (k) (n))) ∧ Grew w315 (T218) T335)) rfl rfl (y_cs rfl rfl rfl (fun _ _ => by kernel_rfl) (ev_func _) (vsC rfl (vsC rfl vsN)) (scan_write (p213) (([] : List Bool)) (upd (upd (b) (k) (0)) (k) (n)) (T218) _ (hO.all K323) (above gr220 hO) (by first | decide | (simp; omega) | simp) B322 ) (fun e_ w_ h_ => by obtain ⟨T335_, he_, hr_⟩ := h_; exact ⟨_, he_, T335_, rfl, hr_⟩)) ?_
    rintro _ w333 ⟨T335, rfl, k334, ⟨B336, g337⟩⟩
    have B338 := B316.all k334 (fun x => (((ap221).symm) p1 rfl x))
    have B339 := B318.all k334 (fun x => (((ap222).symm) p26 rfl x))
    have B340 := B319.all k334 (fun x => (((ap223).symm) p54 rfl x))
    have B341 := B320.all k334 (fun i h x => ((ap277) i h x))
    have B342 := B321.all k334 (fun i h x => ((ap304) i h x))
    have K343 := K323.trans k334 (fun i hi x => ((Grew.ok (S := fun _ => False) gr220 noB_le) i hi x))
    have gr344 := gr220.trans K323 g337
    have ap345 : Apart T335 (onB p1) := (ap221).grew g337 (onB_live (B316).lt)
    have ap346 : Apart T335 (onB p26) := (ap222).grew g337 (onB_live (B318).lt)
    have ap347 : Apart T335 (onB p54) := (ap223).grew g337 (onB_live (B319).lt)
    have ap348 : Apart T335 (T263) := ((ap277).symm).grew g337 (B320).live
    have ap349 : Apart T335 (T290) := ((ap304).symm).grew g337 (B321).live
    refine wl_nil fun F350 hF351 => ?_
    have s352 : F350 2 = .int .i32 (n) := (hF351 2).trans s326
    have s353 : F350 7 = .bool true := (hF351 7).trans s328
    have s354 : F350 97 = undef := (hF351 97).trans s329
    have s355 : F350 12 = .pointer (some ⟨p164, 0, none⟩) := (hF351 12).trans s330
    have s356 : F350 13 = .pointer (some ⟨p187, 0, none⟩) := (hF351 13).trans s331
    have s357 : F350 14 = .pointer (some ⟨p213, 0, none⟩) := (hF351 14).trans s332
    clear hF351
    refine then_normal ?_
    refine wq_seq ?_
    by_cases d358 : (n) = (0)
    · skip
      refine wq_said [some 67, some 68, some 69, some 70, some 71, some 72, some 73, some 74, some 75, some 76, some 77, some 78, some 79, some 80, some 81, some 82, some 83, some 84, some 85, some 86, some 87, some 88, some 89, some 90, some 91, some 92, some 93, some 94, some 95, some 96, some 6] [Pd.eq (.bool true), Pd.eq (.bool true), Pd.eq (.pointer (some ⟨p164, 0, none⟩)), Pd.eq (.int .i64 (((((([] : List Bool)) ++ scanBits (fun _ => 0)).length : Nat) : Int))), Pd.eq (.bool true), Pd.eq (.bool true), Pd.eq (.bool true), Pd.eq (.int .i32 (n)), Pd.eq (.bool true), Pd.eq (.bool true), Pd.eq (.pointer (some ⟨p213, 0, none⟩)), Pd.eq (.int .i64 (((((([] : List Bool)) ++ scanBits (upd (upd (b) (k) (0)) (k) (n))).length : Nat) : Int))), Pd.eq (.pointer (some ⟨p187, 0, none⟩)), Pd.eq (.int .i64 (((((([] : List Bool)) ++ scanBits (upd (b) (k) (0))).length : Nat) : Int))), Pd.eq (.bool true), Pd.eq (.bool true), Pd.eq (.bool true), Pd.eq undef, Pd.eq undef, Pd.eq undef, Pd.eq undef, Pd.eq undef, Pd.eq undef, Pd.eq undef, Pd.eq undef, Pd.eq undef, Pd.eq undef, Pd.eq undef, Pd.eq (.bool true), Pd.eq (.bool true), Pd.eq (.bool true)] (by kernel_rfl) (by kernel_rfl) ?_ ?_
      · refine stepsF_cons ?_ ?_
        · refine StepF.one rfl fun F_ w_ hR hout hD => ?_
          exact (y_mov rfl ((hout 7 rfl (by decide)).trans s353) ⟨rfl, Kept.refl _ _⟩)
        refine stepsF_cons ?_ ?_
        · refine StepF.one rfl fun F_ w_ hR hout hD => ?_
          have g67 : F_ 67 = .bool true := hD.get 0 rfl rfl rfl
          exact (y_mov rfl g67 ⟨rfl, Kept.refl _ _⟩)
        refine stepsF_cons ?_ ?_
        · refine StepF.when 1 true 68 rfl rfl fun F_ w_ hR hout hD => ?_
          have g68 : F_ 68 = .bool true := hD.get 0 rfl rfl rfl
          exact ⟨g68, (y_mov rfl ((hout 12 rfl (by decide)).trans s355) ⟨rfl, Kept.refl _ _⟩)⟩
        refine stepsF_cons ?_ ?_
        · refine StepF.when 1 true 68 rfl rfl fun F_ w_ hR hout hD => ?_
          have g68 : F_ 68 = .bool true := hD.get 1 rfl rfl rfl
          have g69 : F_ 69 = .pointer (some ⟨p164, 0, none⟩) := hD.get 0 rfl rfl rfl
          exact ⟨g68, (y_cs rfl rfl rfl (fun _ _ => by kernel_rfl) (ev_func _) (vsC g69 vsN) (t_many (p164) ((([] : List Bool)) ++ scanBits (fun _ => 0)) (T263) _  (B341.all hR Apart.none) ) (fun e_ w_ h_ => ⟨_, h_.1, rfl, h_.2⟩))⟩
        refine stepsF_cons ?_ ?_
        · refine StepF.when 1 true 68 rfl rfl fun F_ w_ hR hout hD => ?_
          have g68 : F_ 68 = .bool true := hD.get 1 rfl rfl rfl
          have g70 : F_ 70 = .int .i64 (((((([] : List Bool)) ++ scanBits (fun _ => 0)).length : Nat) : Int)) := hD.get 0 rfl rfl rfl
          exact ⟨g68, (y_eqlI rfl g70 rfl (decide_eq_true places_zero) ⟨rfl, Kept.refl _ _⟩)⟩
        refine stepsF_cons ?_ ?_
        · refine StepF.one rfl fun F_ w_ hR hout hD => ?_
          have g68 : F_ 68 = .bool true := hD.get 0 rfl rfl rfl
          have g71 : F_ 71 = .bool true := hD.get 1 rfl rfl rfl
          exact (y_pickT rfl g68 g71 ⟨rfl, Kept.refl _ _⟩)
        refine stepsF_cons ?_ ?_
        · refine StepF.one rfl fun F_ w_ hR hout hD => ?_
          have g72 : F_ 72 = .bool true := hD.get 0 rfl rfl rfl
          exact (y_mov rfl g72 ⟨rfl, Kept.refl _ _⟩)
        refine stepsF_cons ?_ ?_
        · refine StepF.when 6 true 73 rfl rfl fun F_ w_ hR hout hD => ?_
          have g73 : F_ 73 = .bool true := hD.get 0 rfl rfl rfl
          exact ⟨g73, (y_mov rfl ((hout 2 rfl (by decide)).trans s352) ⟨rfl, Kept.refl _ _⟩)⟩
        refine stepsF_cons ?_ ?_
        · refine StepF.when 6 true 73 rfl rfl fun F_ w_ hR hout hD => ?_
          have g73 : F_ 73 = .bool true := hD.get 1 rfl rfl rfl
          have g74 : F_ 74 = .int .i32 (n) := hD.get 0 rfl rfl rfl
          exact ⟨g73, (y_eqlI rfl g74 rfl (decide_eq_true d358) ⟨rfl, Kept.refl _ _⟩)⟩
        refine stepsF_cons ?_ ?_
        · refine StepF.when 6 true 73 rfl rfl fun F_ w_ hR hout hD => ?_
          have g73 : F_ 73 = .bool true := hD.get 1 rfl rfl rfl
          have g75 : F_ 75 = .bool true := hD.get 0 rfl rfl rfl
          exact ⟨g73, (y_mov rfl g75 ⟨rfl, Kept.refl _ _⟩)⟩
        refine stepsF_cons ?_ ?_
        · refine StepF.when 9 true 76 rfl rfl fun F_ w_ hR hout hD => ?_
          have g76 : F_ 76 = .bool true := hD.get 0 rfl rfl rfl
          exact ⟨g76, (y_mov rfl ((hout 14 rfl (by decide)).trans s357) ⟨rfl, Kept.refl _ _⟩)⟩
        refine stepsF_cons ?_ ?_
        · refine StepF.when 9 true 76 rfl rfl fun F_ w_ hR hout hD => ?_
          have g76 : F_ 76 = .bool true := hD.get 1 rfl rfl rfl
          have g77 : F_ 77 = .pointer (some ⟨p213, 0, none⟩) := hD.get 0 rfl rfl rfl
          exact ⟨g76, (y_cs rfl rfl rfl (fun _ _ => by kernel_rfl) (ev_func _) (vsC g77 vsN) (t_many (p213) ((([] : List Bool)) ++ scanBits (upd (upd (b) (k) (0)) (k) (n))) (T335) _  (B336.all hR Apart.none) ) (fun e_ w_ h_ => ⟨_, h_.1, rfl, h_.2⟩))⟩
        refine stepsF_cons ?_ ?_
        · refine StepF.when 9 true 76 rfl rfl fun F_ w_ hR hout hD => ?_
          have g76 : F_ 76 = .bool true := hD.get 0 rfl rfl rfl
          exact ⟨g76, (y_mov rfl ((hout 13 rfl (by decide)).trans s356) ⟨rfl, Kept.refl _ _⟩)⟩
        refine stepsF_cons ?_ ?_
        · refine StepF.when 9 true 76 rfl rfl fun F_ w_ hR hout hD => ?_
          have g76 : F_ 76 = .bool true := hD.get 2 rfl rfl rfl
          have g79 : F_ 79 = .pointer (some ⟨p187, 0, none⟩) := hD.get 0 rfl rfl rfl
          exact ⟨g76, (y_cs rfl rfl rfl (fun _ _ => by kernel_rfl) (ev_func _) (vsC g79 vsN) (t_many (p187) ((([] : List Bool)) ++ scanBits (upd (b) (k) (0))) (T290) _  (B342.all hR Apart.none) ) (fun e_ w_ h_ => ⟨_, h_.1, rfl, h_.2⟩))⟩
        refine stepsF_cons ?_ ?_
        · refine StepF.when 9 true 76 rfl rfl fun F_ w_ hR hout hD => ?_
          have g76 : F_ 76 = .bool true := hD.get 2 rfl rfl rfl
          have g78 : F_ 78 = .int .i64 (((((([] : List Bool)) ++ scanBits (upd (upd (b) (k) (0)) (k) (n))).length : Nat) : Int)) := hD.get 0 rfl rfl rfl
          have g80 : F_ 80 = .int .i64 (((((([] : List Bool)) ++ scanBits (upd (b) (k) (0))).length : Nat) : Int)) := hD.get 1 rfl rfl rfl
          exact ⟨g76, (y_eqlI rfl g78 g80 (decide_eq_true (places_same b k n (by assumption))) ⟨rfl, Kept.refl _ _⟩)⟩
        refine stepsF_cons ?_ ?_
        · refine StepF.when 6 true 73 rfl rfl fun F_ w_ hR hout hD => ?_
          have g73 : F_ 73 = .bool true := hD.get 2 rfl rfl rfl
          have g76 : F_ 76 = .bool true := hD.get 0 rfl rfl rfl
          have g81 : F_ 81 = .bool true := hD.get 1 rfl rfl rfl
          exact ⟨g73, (y_pickT rfl g76 g81 ⟨rfl, Kept.refl _ _⟩)⟩
        refine stepsF_cons ?_ ?_
        · refine StepF.when 6 true 73 rfl rfl fun F_ w_ hR hout hD => ?_
          have g73 : F_ 73 = .bool true := hD.get 2 rfl rfl rfl
          have g82 : F_ 82 = .bool true := hD.get 0 rfl rfl rfl
          exact ⟨g73, (y_mov rfl g82 ⟨rfl, Kept.refl _ _⟩)⟩
        refine stepsF_cons ?_ ?_
        · refine StepF.unless 16 false 83 rfl rfl fun F_ w_ hR hout hD => ?_
          have g83 : F_ 83 = .bool true := hD.get 0 rfl rfl rfl
          exact ⟨Or.inl g83, rfl⟩
        refine stepsF_cons ?_ ?_
        · refine StepF.unless 16 false 83 rfl rfl fun F_ w_ hR hout hD => ?_
          have g83 : F_ 83 = .bool true := hD.get 1 rfl rfl rfl
          exact ⟨Or.inl g83, rfl⟩
        refine stepsF_cons ?_ ?_
        · refine StepF.unless 16 false 83 rfl rfl fun F_ w_ hR hout hD => ?_
          have g83 : F_ 83 = .bool true := hD.get 1 rfl rfl rfl
          exact ⟨Or.inl g83, rfl⟩
        refine stepsF_cons ?_ ?_
        · refine StepF.unless 19 true 86 rfl rfl fun F_ w_ hR hout hD => ?_
          have g86 : F_ 86 = undef := hD.get 0 rfl rfl rfl
          exact ⟨Or.inr g86, rfl⟩
        refine stepsF_cons ?_ ?_
        · refine StepF.unless 19 true 86 rfl rfl fun F_ w_ hR hout hD => ?_
          have g86 : F_ 86 = undef := hD.get 1 rfl rfl rfl
          exact ⟨Or.inr g86, rfl⟩
        refine stepsF_cons ?_ ?_
        · refine StepF.unless 19 true 86 rfl rfl fun F_ w_ hR hout hD => ?_
          have g86 : F_ 86 = undef := hD.get 1 rfl rfl rfl
          exact ⟨Or.inr g86, rfl⟩
        refine stepsF_cons ?_ ?_
        · refine StepF.unless 19 true 86 rfl rfl fun F_ w_ hR hout hD => ?_
          have g86 : F_ 86 = undef := hD.get 0 rfl rfl rfl
          exact ⟨Or.inr g86, rfl⟩
        refine stepsF_cons ?_ ?_
        · refine StepF.unless 19 true 86 rfl rfl fun F_ w_ hR hout hD => ?_
          have g86 : F_ 86 = undef := hD.get 2 rfl rfl rfl
          exact ⟨Or.inr g86, rfl⟩
        refine stepsF_cons ?_ ?_
        · refine StepF.unless 19 true 86 rfl rfl fun F_ w_ hR hout hD => ?_
          have g86 : F_ 86 = undef := hD.get 1 rfl rfl rfl
          exact ⟨Or.inr g86, rfl⟩
        refine stepsF_cons ?_ ?_
        · refine StepF.unless 19 true 86 rfl rfl fun F_ w_ hR hout hD => ?_
          have g86 : F_ 86 = undef := hD.get 2 rfl rfl rfl
          exact ⟨Or.inr g86, rfl⟩
        refine stepsF_cons ?_ ?_
        · refine StepF.unless 16 false 83 rfl rfl fun F_ w_ hR hout hD => ?_
          have g83 : F_ 83 = .bool true := hD.get 2 rfl rfl rfl
          exact ⟨Or.inl g83, rfl⟩
        refine stepsF_cons ?_ ?_
        · refine StepF.when 6 true 73 rfl rfl fun F_ w_ hR hout hD => ?_
          have g73 : F_ 73 = .bool true := hD.get 2 rfl rfl rfl
          have g83 : F_ 83 = .bool true := hD.get 0 rfl rfl rfl
          exact ⟨g73, (y_pickT rfl g83 rfl ⟨rfl, Kept.refl _ _⟩)⟩
        refine stepsF_cons ?_ ?_
        · refine StepF.one rfl fun F_ w_ hR hout hD => ?_
          have g73 : F_ 73 = .bool true := hD.get 0 rfl rfl rfl
          have g95 : F_ 95 = .bool true := hD.get 1 rfl rfl rfl
          exact (y_pickT rfl g73 g95 ⟨rfl, Kept.refl _ _⟩)
        refine stepsF_cons ?_ ?_
        · refine StepF.one rfl fun F_ w_ hR hout hD => ?_
          have g96 : F_ 96 = .bool true := hD.get 0 rfl rfl rfl
          exact (y_asg rfl g96 ⟨rfl, Kept.refl _ _⟩)
        exact stepsF_nil
      intro v359 F360 w361 k362 G363 hF364
      have B365 := B338.all k362 id
      have B366 := B339.all k362 id
      have B367 := B340.all k362 id
      have B368 := B341.all k362 Apart.none
      have B369 := B342.all k362 Apart.none
      have B370 := B336.all k362 Apart.none
      have K371 := K343.trans k362 (fun _ _ x => x.elim)
      have s372 : F360 97 = undef := (hF364 97).trans s354
      have s373 : F360 6 = .bool true := (hF364 6).trans (G363 30 (by decide))
      clear G363 hF364
      refine then_normal ?_
      refine wq_ret ?_
      exact end_tmp (v := .bool true) s372 rfl rfl s373 ⟨rfl, K371⟩
    · skip
      refine wq_said [some 67, some 68, some 69, some 70, some 71, some 72, some 73, some 74, some 75, some 76, some 77, some 78, some 79, some 80, some 81, some 82, some 83, some 84, some 85, some 86, some 87, some 88, some 89, some 90, some 91, some 92, some 93, some 94, some 95, some 96, some 6] [Pd.eq (.bool true), Pd.eq (.bool true), Pd.eq (.pointer (some ⟨p164, 0, none⟩)), Pd.eq (.int .i64 (((((([] : List Bool)) ++ scanBits (fun _ => 0)).length : Nat) : Int))), Pd.eq (.bool true), Pd.eq (.bool true), Pd.eq (.bool true), Pd.eq (.int .i32 (n)), Pd.eq (.bool false), Pd.eq (.bool false), Pd.eq undef, Pd.eq undef, Pd.eq undef, Pd.eq undef, Pd.eq undef, Pd.eq (.bool false), Pd.eq (.bool false), Pd.eq (.int .i32 (n)), Pd.eq (.bool true), Pd.eq (.bool true), Pd.eq (.pointer (some ⟨p213, 0, none⟩)), Pd.bytes (pack ((([] : List Bool)) ++ scanBits (upd (upd (b) (k) (0)) (k) (n)))), Pd.eq (.string (textOf (pack ((([] : List Bool)) ++ scanBits (upd (upd (b) (k) (0)) (k) (n)))))), Pd.eq (.pointer (some ⟨p187, 0, none⟩)), Pd.bytes (pack ((([] : List Bool)) ++ scanBits (upd (b) (k) (0)))), Pd.eq (.string (textOf (pack ((([] : List Bool)) ++ scanBits (upd (b) (k) (0)))))), Pd.eq (.bool true), Pd.eq (.bool true), Pd.eq (.bool true), Pd.eq (.bool true), Pd.eq (.bool true)] (by kernel_rfl) (by kernel_rfl) ?_ ?_
      · refine stepsF_cons ?_ ?_
        · refine StepF.one rfl fun F_ w_ hR hout hD => ?_
          exact (y_mov rfl ((hout 7 rfl (by decide)).trans s353) ⟨rfl, Kept.refl _ _⟩)
        refine stepsF_cons ?_ ?_
        · refine StepF.one rfl fun F_ w_ hR hout hD => ?_
          have g67 : F_ 67 = .bool true := hD.get 0 rfl rfl rfl
          exact (y_mov rfl g67 ⟨rfl, Kept.refl _ _⟩)
        refine stepsF_cons ?_ ?_
        · refine StepF.when 1 true 68 rfl rfl fun F_ w_ hR hout hD => ?_
          have g68 : F_ 68 = .bool true := hD.get 0 rfl rfl rfl
          exact ⟨g68, (y_mov rfl ((hout 12 rfl (by decide)).trans s355) ⟨rfl, Kept.refl _ _⟩)⟩
        refine stepsF_cons ?_ ?_
        · refine StepF.when 1 true 68 rfl rfl fun F_ w_ hR hout hD => ?_
          have g68 : F_ 68 = .bool true := hD.get 1 rfl rfl rfl
          have g69 : F_ 69 = .pointer (some ⟨p164, 0, none⟩) := hD.get 0 rfl rfl rfl
          exact ⟨g68, (y_cs rfl rfl rfl (fun _ _ => by kernel_rfl) (ev_func _) (vsC g69 vsN) (t_many (p164) ((([] : List Bool)) ++ scanBits (fun _ => 0)) (T263) _  (B341.all hR Apart.none) ) (fun e_ w_ h_ => ⟨_, h_.1, rfl, h_.2⟩))⟩
        refine stepsF_cons ?_ ?_
        · refine StepF.when 1 true 68 rfl rfl fun F_ w_ hR hout hD => ?_
          have g68 : F_ 68 = .bool true := hD.get 1 rfl rfl rfl
          have g70 : F_ 70 = .int .i64 (((((([] : List Bool)) ++ scanBits (fun _ => 0)).length : Nat) : Int)) := hD.get 0 rfl rfl rfl
          exact ⟨g68, (y_eqlI rfl g70 rfl (decide_eq_true places_zero) ⟨rfl, Kept.refl _ _⟩)⟩
        refine stepsF_cons ?_ ?_
        · refine StepF.one rfl fun F_ w_ hR hout hD => ?_
          have g68 : F_ 68 = .bool true := hD.get 0 rfl rfl rfl
          have g71 : F_ 71 = .bool true := hD.get 1 rfl rfl rfl
          exact (y_pickT rfl g68 g71 ⟨rfl, Kept.refl _ _⟩)
        refine stepsF_cons ?_ ?_
        · refine StepF.one rfl fun F_ w_ hR hout hD => ?_
          have g72 : F_ 72 = .bool true := hD.get 0 rfl rfl rfl
          exact (y_mov rfl g72 ⟨rfl, Kept.refl _ _⟩)
        refine stepsF_cons ?_ ?_
        · refine StepF.when 6 true 73 rfl rfl fun F_ w_ hR hout hD => ?_
          have g73 : F_ 73 = .bool true := hD.get 0 rfl rfl rfl
          exact ⟨g73, (y_mov rfl ((hout 2 rfl (by decide)).trans s352) ⟨rfl, Kept.refl _ _⟩)⟩
        refine stepsF_cons ?_ ?_
        · refine StepF.when 6 true 73 rfl rfl fun F_ w_ hR hout hD => ?_
          have g73 : F_ 73 = .bool true := hD.get 1 rfl rfl rfl
          have g74 : F_ 74 = .int .i32 (n) := hD.get 0 rfl rfl rfl
          exact ⟨g73, (y_eqlI rfl g74 rfl (decide_eq_false d358) ⟨rfl, Kept.refl _ _⟩)⟩
        refine stepsF_cons ?_ ?_
        · refine StepF.when 6 true 73 rfl rfl fun F_ w_ hR hout hD => ?_
          have g73 : F_ 73 = .bool true := hD.get 1 rfl rfl rfl
          have g75 : F_ 75 = .bool false := hD.get 0 rfl rfl rfl
          exact ⟨g73, (y_mov rfl g75 ⟨rfl, Kept.refl _ _⟩)⟩
        refine stepsF_cons ?_ ?_
        · refine StepF.unless 9 true 76 rfl rfl fun F_ w_ hR hout hD => ?_
          have g76 : F_ 76 = .bool false := hD.get 0 rfl rfl rfl
          exact ⟨Or.inl g76, rfl⟩
        refine stepsF_cons ?_ ?_
        · refine StepF.unless 9 true 76 rfl rfl fun F_ w_ hR hout hD => ?_
          have g76 : F_ 76 = .bool false := hD.get 1 rfl rfl rfl
          exact ⟨Or.inl g76, rfl⟩
        refine stepsF_cons ?_ ?_
        · refine StepF.unless 9 true 76 rfl rfl fun F_ w_ hR hout hD => ?_
          have g76 : F_ 76 = .bool false := hD.get 0 rfl rfl rfl
          exact ⟨Or.inl g76, rfl⟩
        refine stepsF_cons ?_ ?_
        · refine StepF.unless 9 true 76 rfl rfl fun F_ w_ hR hout hD => ?_
          have g76 : F_ 76 = .bool false := hD.get 2 rfl rfl rfl
          exact ⟨Or.inl g76, rfl⟩
        refine stepsF_cons ?_ ?_
        · refine StepF.unless 9 true 76 rfl rfl fun F_ w_ hR hout hD => ?_
          have g76 : F_ 76 = .bool false := hD.get 2 rfl rfl rfl
          exact ⟨Or.inl g76, rfl⟩
        refine stepsF_cons ?_ ?_
        · refine StepF.when 6 true 73 rfl rfl fun F_ w_ hR hout hD => ?_
          have g73 : F_ 73 = .bool true := hD.get 2 rfl rfl rfl
          have g76 : F_ 76 = .bool false := hD.get 0 rfl rfl rfl
          exact ⟨g73, (y_pickF rfl g76 rfl ⟨rfl, Kept.refl _ _⟩)⟩
        refine stepsF_cons ?_ ?_
        · refine StepF.when 6 true 73 rfl rfl fun F_ w_ hR hout hD => ?_
          have g73 : F_ 73 = .bool true := hD.get 2 rfl rfl rfl
          have g82 : F_ 82 = .bool false := hD.get 0 rfl rfl rfl
          exact ⟨g73, (y_mov rfl g82 ⟨rfl, Kept.refl _ _⟩)⟩
        refine stepsF_cons ?_ ?_
        · refine StepF.when 16 false 83 rfl rfl fun F_ w_ hR hout hD => ?_
          have g83 : F_ 83 = .bool false := hD.get 0 rfl rfl rfl
          exact ⟨g83, (y_mov rfl ((hout 2 rfl (by decide)).trans s352) ⟨rfl, Kept.refl _ _⟩)⟩
        refine stepsF_cons ?_ ?_
        · refine StepF.when 16 false 83 rfl rfl fun F_ w_ hR hout hD => ?_
          have g83 : F_ 83 = .bool false := hD.get 1 rfl rfl rfl
          have g84 : F_ 84 = .int .i32 (n) := hD.get 0 rfl rfl rfl
          exact ⟨g83, (y_neqI rfl g84 rfl (decide_eq_true (by assumption)) ⟨rfl, Kept.refl _ _⟩)⟩
        refine stepsF_cons ?_ ?_
        · refine StepF.when 16 false 83 rfl rfl fun F_ w_ hR hout hD => ?_
          have g83 : F_ 83 = .bool false := hD.get 1 rfl rfl rfl
          have g85 : F_ 85 = .bool true := hD.get 0 rfl rfl rfl
          exact ⟨g83, (y_mov rfl g85 ⟨rfl, Kept.refl _ _⟩)⟩
        refine stepsF_cons ?_ ?_
        · refine StepF.when 19 true 86 rfl rfl fun F_ w_ hR hout hD => ?_
          have g86 : F_ 86 = .bool true := hD.get 0 rfl rfl rfl
          exact ⟨g86, (y_mov rfl ((hout 14 rfl (by decide)).trans s357) ⟨rfl, Kept.refl _ _⟩)⟩
        refine stepsF_cons ?_ ?_
        · refine StepF.when 19 true 86 rfl rfl fun F_ w_ hR hout hD => ?_
          have g86 : F_ 86 = .bool true := hD.get 1 rfl rfl rfl
          have g87 : F_ 87 = .pointer (some ⟨p213, 0, none⟩) := hD.get 0 rfl rfl rfl
          exact ⟨g86, (y_cs rfl rfl rfl (fun _ _ => by kernel_rfl) (ev_func _) (vsC g87 vsN) (t_bytes (p213) ((([] : List Bool)) ++ scanBits (upd (upd (b) (k) (0)) (k) (n))) (T335) _ ((Short.nil.scan _).fits (by decide)) (B336.all hR Apart.none) ) (fun e_ w_ h_ => by obtain ⟨v_, T_, he_, k_, hb_, _⟩ := h_; exact ⟨v_, he_, hb_.1, k_⟩))⟩
        refine stepsF_cons ?_ ?_
        · refine StepF.when 19 true 86 rfl rfl fun F_ w_ hR hout hD => ?_
          have g86 : F_ 86 = .bool true := hD.get 1 rfl rfl rfl
          have g88 : BytesArg w_ (F_ 88) (pack ((([] : List Bool)) ++ scanBits (upd (upd (b) (k) (0)) (k) (n)))) := hD.get 0 rfl rfl rfl
          exact ⟨g86, (y_text rfl g88 ⟨rfl, Kept.refl _ _⟩)⟩
        refine stepsF_cons ?_ ?_
        · refine StepF.when 19 true 86 rfl rfl fun F_ w_ hR hout hD => ?_
          have g86 : F_ 86 = .bool true := hD.get 0 rfl rfl rfl
          exact ⟨g86, (y_mov rfl ((hout 13 rfl (by decide)).trans s356) ⟨rfl, Kept.refl _ _⟩)⟩
        refine stepsF_cons ?_ ?_
        · refine StepF.when 19 true 86 rfl rfl fun F_ w_ hR hout hD => ?_
          have g86 : F_ 86 = .bool true := hD.get 2 rfl rfl rfl
          have g90 : F_ 90 = .pointer (some ⟨p187, 0, none⟩) := hD.get 0 rfl rfl rfl
          exact ⟨g86, (y_cs rfl rfl rfl (fun _ _ => by kernel_rfl) (ev_func _) (vsC g90 vsN) (t_bytes (p187) ((([] : List Bool)) ++ scanBits (upd (b) (k) (0))) (T290) _ ((Short.nil.scan _).fits (by decide)) (B342.all hR Apart.none) ) (fun e_ w_ h_ => by obtain ⟨v_, T_, he_, k_, hb_, _⟩ := h_; exact ⟨v_, he_, hb_.1, k_⟩))⟩
        refine stepsF_cons ?_ ?_
        · refine StepF.when 19 true 86 rfl rfl fun F_ w_ hR hout hD => ?_
          have g86 : F_ 86 = .bool true := hD.get 1 rfl rfl rfl
          have g91 : BytesArg w_ (F_ 91) (pack ((([] : List Bool)) ++ scanBits (upd (b) (k) (0)))) := hD.get 0 rfl rfl rfl
          exact ⟨g86, (y_text rfl g91 ⟨rfl, Kept.refl _ _⟩)⟩
        refine stepsF_cons ?_ ?_
        · refine StepF.when 19 true 86 rfl rfl fun F_ w_ hR hout hD => ?_
          have g86 : F_ 86 = .bool true := hD.get 2 rfl rfl rfl
          have g89 : F_ 89 = .string (textOf (pack ((([] : List Bool)) ++ scanBits (upd (upd (b) (k) (0)) (k) (n))))) := hD.get 0 rfl rfl rfl
          have g92 : F_ 92 = .string (textOf (pack ((([] : List Bool)) ++ scanBits (upd (b) (k) (0))))) := hD.get 1 rfl rfl rfl
          exact ⟨g86, (y_neqS rfl g89 g92 (places_diff b k hk n (by assumption)) ⟨rfl, Kept.refl _ _⟩)⟩
        refine stepsF_cons ?_ ?_
        · refine StepF.when 16 false 83 rfl rfl fun F_ w_ hR hout hD => ?_
          have g83 : F_ 83 = .bool false := hD.get 2 rfl rfl rfl
          have g86 : F_ 86 = .bool true := hD.get 0 rfl rfl rfl
          have g93 : F_ 93 = .bool true := hD.get 1 rfl rfl rfl
          exact ⟨g83, (y_pickT rfl g86 g93 ⟨rfl, Kept.refl _ _⟩)⟩
        refine stepsF_cons ?_ ?_
        · refine StepF.when 6 true 73 rfl rfl fun F_ w_ hR hout hD => ?_
          have g73 : F_ 73 = .bool true := hD.get 2 rfl rfl rfl
          have g83 : F_ 83 = .bool false := hD.get 0 rfl rfl rfl
          have g94 : F_ 94 = .bool true := hD.get 1 rfl rfl rfl
          exact ⟨g73, (y_pickF rfl g83 g94 ⟨rfl, Kept.refl _ _⟩)⟩
        refine stepsF_cons ?_ ?_
        · refine StepF.one rfl fun F_ w_ hR hout hD => ?_
          have g73 : F_ 73 = .bool true := hD.get 0 rfl rfl rfl
          have g95 : F_ 95 = .bool true := hD.get 1 rfl rfl rfl
          exact (y_pickT rfl g73 g95 ⟨rfl, Kept.refl _ _⟩)
        refine stepsF_cons ?_ ?_
        · refine StepF.one rfl fun F_ w_ hR hout hD => ?_
          have g96 : F_ 96 = .bool true := hD.get 0 rfl rfl rfl
          exact (y_asg rfl g96 ⟨rfl, Kept.refl _ _⟩)
        exact stepsF_nil
      intro v376 F377 w378 k379 G380 hF381
      have B382 := B338.all k379 id
      have B383 := B339.all k379 id
      have B384 := B340.all k379 id
      have B385 := B341.all k379 Apart.none
      have B386 := B342.all k379 Apart.none
      have B387 := B336.all k379 Apart.none
      have K388 := K343.trans k379 (fun _ _ x => x.elim)
      have s389 : F377 97 = undef := (hF381 97).trans s354
      have s390 : F377 6 = .bool true := (hF381 6).trans (G380 30 (by decide))
      clear G380 hF381
      refine then_normal ?_
      refine wq_ret ?_
      exact end_tmp (v := .bool true) s389 rfl rfl s390 ⟨rfl, K388⟩
end Go.Proofs.YtipimcnjcpckeaaDoor
