/- The walk of the law on a block of one level. -/
import Derived.Test.YtipimcnjcpckeaaDoorSLaw2
import Derived.Lib.Hide
namespace Go.Proofs.YtipimcnjcpckeaaDoor
open Go.RowKit

set_option maxHeartbeats 4000000 in
set_option maxRecDepth 100000 in
theorem sone_walk (a : Nat) (n : Int) (m : Nat) (w0 : World) (hO : ScanIn w0) (ha : a < 256) (hn : -32768 ≤ n ∧ n ≤ 32767) (hm : m < 65536) :
    Calls Tryd.prog 7 #[.int .u8 (((a : Nat) : Int)), .int .i16 (n), .int .u16 (((m : Nat) : Int))] w0 fun e w' => e = .returned (.bool true) ∧ Kept (fun _ => False) w0 w' := by
  refine calls_wq (args := [.int .u8 (((a : Nat) : Int)), .int .i16 (n), .int .u16 (((m : Nat) : Int))]) 99 Tryd.func7 rfl rfl (Nat.le_of_ble_eq_true rfl) ?_
  have K0 := Kept.refl (fun _ => False) w0
  obtain ⟨k, hka⟩ : ∃ k, k = a % 16 := ⟨_, rfl⟩
  have hk : k < 16 := by omega
  have hok := ord_lt k hk
  obtain ⟨L, hL⟩ : ∃ L, L = pack ((([] ++ scanBits (oneB k n)) ++ wholeBits m) ++ endBits (([] ++ scanBits (oneB k n)) ++ wholeBits m).length) := ⟨_, rfl⟩
  have hf := Lib.hid (one_facts k m n hn hm L hL)
  refine wq_seq ?_
  refine wq_region ?_
  refine wl_v (.bool false) rfl rfl (y_asg rfl rfl ⟨rfl, rfl⟩) ?_
  refine wl_nil fun F1 hF2 => ?_
  have s3 : F1 0 = .int .u8 (((a : Nat) : Int)) := (hF2 0).trans rfl
  have s4 : F1 1 = .int .i16 (n) := (hF2 1).trans rfl
  have s5 : F1 2 = .int .u16 (((m : Nat) : Int)) := (hF2 2).trans rfl
  have s6 : F1 99 = undef := (hF2 99).trans rfl
  clear hF2
  refine then_normal ?_
  refine wq_seq ?_
  refine wq_region ?_
  refine wl_call (R := fun v_ w_ => v_ = .bool true ∧ Kept (fun _ => False) w0 w_) rfl rfl (y_cs rfl rfl rfl (fun _ _ => by kernel_rfl) (ev_func _) vsN (sawake_any   _ (hO.all K0)  ) (fun e_ w_ h_ => ⟨_, h_.1, rfl, h_.2⟩)) ?_
  rintro _ w7 ⟨rfl, k8⟩
  have K9 := K0.trans k8 (fun _ _ x => x.elim)
  refine wl_v (.bool true) rfl rfl (y_asg rfl rfl ⟨rfl, rfl⟩) ?_
  refine wl_nil fun F10 hF11 => ?_
  have s12 : F10 0 = .int .u8 (((a : Nat) : Int)) := (hF11 0).trans s3
  have s13 : F10 1 = .int .i16 (n) := (hF11 1).trans s4
  have s14 : F10 2 = .int .u16 (((m : Nat) : Int)) := (hF11 2).trans s5
  have s15 : F10 99 = undef := (hF11 99).trans s6
  have s16 : F10 7 = .bool true := (hF11 7).trans rfl
  clear hF11
  refine then_normal ?_
  refine wq_seq ?_
  refine wq_region ?_
  refine wl_v (.int .u8 (((a : Nat) : Int))) rfl rfl (y_mov rfl s12 ⟨rfl, rfl⟩) ?_
  refine wl_v (.int .i64 (((a : Nat) : Int))) rfl rfl (y_convR rfl rfl Tryd.underlying5 Tryd.underlying3 (i64_i rfl (by omega)) ⟨rfl, rfl⟩) ?_
  refine wl_v (.int .i64 (((k : Nat) : Int))) rfl rfl (y_rem rfl rfl rfl (by first | decide | omega) ((mod_nat6 a 16).trans (by rw [hka])) ⟨rfl, rfl⟩) ?_
  refine wl_v (.int .i64 (((k : Nat) : Int))) rfl rfl (y_asg rfl rfl ⟨rfl, rfl⟩) ?_
  refine wl_nil fun F17 hF18 => ?_
  have s19 : F17 1 = .int .i16 (n) := (hF18 1).trans s13
  have s20 : F17 2 = .int .u16 (((m : Nat) : Int)) := (hF18 2).trans s14
  have s21 : F17 99 = undef := (hF18 99).trans s15
  have s22 : F17 7 = .bool true := (hF18 7).trans s16
  have s23 : F17 8 = .int .i64 (((k : Nat) : Int)) := (hF18 8).trans rfl
  clear hF18
  refine then_normal ?_
  refine wq_seq ?_
  refine wq_region ?_
  refine wl_v (blkV (fun _ => 0)) rfl rfl (y_buildR (cells := (arrL 16 (fun _ => 0)).toArray) rfl (by kernel_rfl) rfl ⟨rfl, rfl⟩) ?_
  refine wl_alloc_blk rfl rfl rfl blkT_block.2.2 fun p24 w25 e28 B26 k27 => ?_
  have g29 := onB_new (Nat.le_of_eq e28.symm)
  have gr30 : Grew w0 noB (onB p24) := Grew.new K9 g29
  clear e28 g29
  have K31 := K9.trans k27 (fun _ _ x => x.elim)
  refine wl_store_blk blkT_block rfl rfl rfl rfl rfl B26 fun w32 B33 k34 => ?_
  have K35 := K31.trans k34 (Grew.ok (S := fun _ => False) gr30 noB_le)
  refine wl_nil fun F36 hF37 => ?_
  have s38 : F36 1 = .int .i16 (n) := (hF37 1).trans s19
  have s39 : F36 2 = .int .u16 (((m : Nat) : Int)) := (hF37 2).trans s20
  have s40 : F36 99 = undef := (hF37 99).trans s21
  have s41 : F36 7 = .bool true := (hF37 7).trans s22
  have s42 : F36 8 = .int .i64 (((k : Nat) : Int)) := (hF37 8).trans s23
  have s43 : F36 9 = .pointer (some ⟨p24, 0, none⟩) := (hF37 9).trans rfl
  clear hF37
  refine then_normal ?_
  refine wq_seq ?_
  refine wq_region ?_
  refine wl_call (R := fun v_ w_ => v_ = blkV (ordB) ∧ Kept (fun _ => False) w32 w_) rfl rfl (y_cs rfl rfl rfl (fun _ _ => by kernel_rfl) (ev_func _) vsN (scan_order   _ (hO.all K35)  ) (fun e_ w_ h_ => ⟨_, h_.1, rfl, h_.2⟩)) ?_
  rintro _ w44 ⟨rfl, k45⟩
  have B46 := B33.all k45 id
  have K47 := K35.trans k45 (fun _ _ x => x.elim)
  refine wl_v (.int .i64 (((k : Nat) : Int))) rfl rfl (y_mov rfl s42 ⟨rfl, rfl⟩) ?_
  refine wl_v (.int .i64 (((ord k : Nat) : Int))) rfl rfl (y_look (k) blkT_arr rfl rfl rfl (by omega) (rfl) ⟨rfl, rfl⟩) ?_
  refine wl_v (.int .i16 (n)) rfl rfl (y_mov rfl s38 ⟨rfl, rfl⟩) ?_
  refine wl_v (.int .i64 (n)) rfl rfl (y_convR rfl rfl Tryd.underlying53 Tryd.underlying3 (i64_i rfl (by omega)) ⟨rfl, rfl⟩) ?_
  refine wl_v (.pointer (some ⟨p24, ord k, none⟩)) rfl rfl (y_atR (ord k) (s := 1) rfl s43 rfl (by omega) Tryd.underlying41 (by omega) (by kernel_rfl) (by omega) ⟨rfl, rfl⟩) ?_
  refine wl_set_blk rfl rfl rfl rfl rfl B46 (by omega) (by kernel_rfl) fun w48 B49 k50 => ?_
  have K51 := K47.trans k50 (Grew.ok (S := fun _ => False) gr30 noB_le)
  refine wl_nil fun F52 hF53 => ?_
  have s54 : F52 1 = .int .i16 (n) := (hF53 1).trans s38
  have s55 : F52 2 = .int .u16 (((m : Nat) : Int)) := (hF53 2).trans s39
  have s56 : F52 99 = undef := (hF53 99).trans s40
  have s57 : F52 7 = .bool true := (hF53 7).trans s41
  have s58 : F52 8 = .int .i64 (((k : Nat) : Int)) := (hF53 8).trans s42
  have s59 : F52 9 = .pointer (some ⟨p24, 0, none⟩) := (hF53 9).trans s43
  clear hF53
  refine then_normal ?_
  refine wq_seq ?_
  have B60 : Blk w48 p24 41 (oneB k n) := (B49)
  refine wq_region ?_
  refine wl_v (.agg #[.slice none 0 0, .int .i64 0]) rfl rfl (y_buildR (cells := #[.slice none 0 0, .int .i64 0]) rfl (by kernel_rfl) rfl ⟨rfl, rfl⟩) ?_
  refine wl_box_wri rfl rfl rfl rfl fun p61 w62 T66 B65 g67 k63 => ?_
  have gr68 : Grew w0 noB (T66) := Grew.new K51 g67
  have ap69 : Apart (T66) (onB p24) := Apart.new g67 (onB_live (B60).lt)
  have B70 := B60.all k63 id
  have K71 := K51.trans k63 (fun _ _ x => x.elim)
  refine wl_v (.pointer (some ⟨p61, 0, none⟩)) rfl rfl (y_asg rfl rfl ⟨rfl, rfl⟩) ?_
  refine wl_nil fun F72 hF73 => ?_
  have s74 : F72 1 = .int .i16 (n) := (hF73 1).trans s54
  have s75 : F72 2 = .int .u16 (((m : Nat) : Int)) := (hF73 2).trans s55
  have s76 : F72 99 = undef := (hF73 99).trans s56
  have s77 : F72 7 = .bool true := (hF73 7).trans s57
  have s78 : F72 8 = .int .i64 (((k : Nat) : Int)) := (hF73 8).trans s58
  have s79 : F72 9 = .pointer (some ⟨p24, 0, none⟩) := (hF73 9).trans s59
  have s80 : F72 10 = .pointer (some ⟨p61, 0, none⟩) := (hF73 10).trans rfl
  clear hF73
  refine then_normal ?_
  refine wq_seq ?_
  refine wq_region ?_
  refine wl_v (.pointer (some ⟨p61, 0, none⟩)) rfl rfl (y_mov rfl s80 ⟨rfl, rfl⟩) ?_
  refine wl_v (blkV (oneB k n)) rfl rfl (y_load_blk blkT_block rfl s79 B70 ⟨rfl, rfl⟩) ?_
  refine wl_call (R := fun v_ w_ => ∃ (T83 : Nat → Prop), .tuple #[] = v_ ∧ Kept (T66) w62 w_ ∧ (Wri w_ T83 p61 ((([] : List Bool)) ++ scanBits (oneB k n)) ∧ Grew w62 (T66) T83)) rfl rfl (y_cs rfl rfl rfl (fun _ _ => by kernel_rfl) (ev_func _) (vsC rfl (vsC rfl vsN)) (scan_write (p61) (([] : List Bool)) (oneB k n) (T66) _ (hO.all K71) (above gr68 hO) (by first | decide | (simp; omega) | simp) B65 ) (fun e_ w_ h_ => by obtain ⟨T83_, he_, hr_⟩ := h_; exact ⟨_, he_, T83_, rfl, hr_⟩)) ?_
  rintro _ w81 ⟨T83, rfl, k82, ⟨B84, g85⟩⟩
  have B86 := B70.all k82 (fun x => (((ap69).symm) p24 rfl x))
  have K87 := K71.trans k82 (fun i hi x => ((Grew.ok (S := fun _ => False) gr68 noB_le) i hi x))
  have gr88 := gr68.trans K71 g85
  have ap89 : Apart T83 (onB p24) := (ap69).grew g85 (onB_live (B70).lt)
  refine wl_nil fun F90 hF91 => ?_
  have s92 : F90 1 = .int .i16 (n) := (hF91 1).trans s74
  have s93 : F90 2 = .int .u16 (((m : Nat) : Int)) := (hF91 2).trans s75
  have s94 : F90 99 = undef := (hF91 99).trans s76
  have s95 : F90 7 = .bool true := (hF91 7).trans s77
  have s96 : F90 8 = .int .i64 (((k : Nat) : Int)) := (hF91 8).trans s78
  have s97 : F90 9 = .pointer (some ⟨p24, 0, none⟩) := (hF91 9).trans s79
  have s98 : F90 10 = .pointer (some ⟨p61, 0, none⟩) := (hF91 10).trans s80
  clear hF91
  refine then_normal ?_
  refine wq_seq ?_
  refine wq_region ?_
  refine wl_v (.pointer (some ⟨p61, 0, none⟩)) rfl rfl (y_mov rfl s98 ⟨rfl, rfl⟩) ?_
  refine wl_call (R := fun v_ w_ => v_ = .int .i64 (((((([] : List Bool)) ++ scanBits (oneB k n)).length : Nat) : Int)) ∧ Kept (fun _ => False) w81 w_) rfl rfl (y_cs rfl rfl rfl (fun _ _ => by kernel_rfl) (ev_func _) (vsC rfl vsN) (t_many (p61) ((([] : List Bool)) ++ scanBits (oneB k n)) (T83) _  B84 ) (fun e_ w_ h_ => ⟨_, h_.1, rfl, h_.2⟩)) ?_
  rintro _ w99 ⟨rfl, k100⟩
  have B101 := B86.all k100 id
  have B102 := B84.all k100 Apart.none
  have K103 := K87.trans k100 (fun _ _ x => x.elim)
  refine wl_v (.int .i64 (((((([] : List Bool)) ++ scanBits (oneB k n)).length : Nat) : Int))) rfl rfl (y_asg rfl rfl ⟨rfl, rfl⟩) ?_
  refine wl_nil fun F104 hF105 => ?_
  have s106 : F104 1 = .int .i16 (n) := (hF105 1).trans s92
  have s107 : F104 2 = .int .u16 (((m : Nat) : Int)) := (hF105 2).trans s93
  have s108 : F104 99 = undef := (hF105 99).trans s94
  have s109 : F104 7 = .bool true := (hF105 7).trans s95
  have s110 : F104 8 = .int .i64 (((k : Nat) : Int)) := (hF105 8).trans s96
  have s111 : F104 9 = .pointer (some ⟨p24, 0, none⟩) := (hF105 9).trans s97
  have s112 : F104 10 = .pointer (some ⟨p61, 0, none⟩) := (hF105 10).trans s98
  have s113 : F104 11 = .int .i64 (((((([] : List Bool)) ++ scanBits (oneB k n)).length : Nat) : Int)) := (hF105 11).trans rfl
  clear hF105
  refine then_normal ?_
  refine wq_seq ?_
  refine wq_region ?_
  refine wl_v (.agg #[.slice none 0 0, .int .i64 0]) rfl rfl (y_buildR (cells := #[.slice none 0 0, .int .i64 0]) rfl (by kernel_rfl) rfl ⟨rfl, rfl⟩) ?_
  refine wl_box_wri rfl rfl rfl rfl fun p114 w115 T119 B118 g120 k116 => ?_
  have gr121 : Grew w0 noB (T119) := Grew.new K103 g120
  have ap122 : Apart (T119) (onB p24) := Apart.new g120 (onB_live (B101).lt)
  have ap123 : Apart (T119) (T83) := Apart.new g120 (B102).live
  have B124 := B101.all k116 id
  have B125 := B102.all k116 Apart.none
  have K126 := K103.trans k116 (fun _ _ x => x.elim)
  refine wl_v (.pointer (some ⟨p114, 0, none⟩)) rfl rfl (y_asg rfl rfl ⟨rfl, rfl⟩) ?_
  refine wl_nil fun F127 hF128 => ?_
  have s129 : F127 1 = .int .i16 (n) := (hF128 1).trans s106
  have s130 : F127 2 = .int .u16 (((m : Nat) : Int)) := (hF128 2).trans s107
  have s131 : F127 99 = undef := (hF128 99).trans s108
  have s132 : F127 7 = .bool true := (hF128 7).trans s109
  have s133 : F127 8 = .int .i64 (((k : Nat) : Int)) := (hF128 8).trans s110
  have s134 : F127 9 = .pointer (some ⟨p24, 0, none⟩) := (hF128 9).trans s111
  have s135 : F127 10 = .pointer (some ⟨p61, 0, none⟩) := (hF128 10).trans s112
  have s136 : F127 11 = .int .i64 (((((([] : List Bool)) ++ scanBits (oneB k n)).length : Nat) : Int)) := (hF128 11).trans s113
  have s137 : F127 12 = .pointer (some ⟨p114, 0, none⟩) := (hF128 12).trans rfl
  clear hF128
  refine then_normal ?_
  refine wq_seq ?_
  refine wq_region ?_
  refine wl_v (.pointer (some ⟨p114, 0, none⟩)) rfl rfl (y_mov rfl s137 ⟨rfl, rfl⟩) ?_
  refine wl_call (R := fun v_ w_ => ∃ (T140 : Nat → Prop), .tuple #[] = v_ ∧ Kept (T119) w115 w_ ∧ (Wri w_ T140 p114 ((([] : List Bool)) ++ wholeBits (1)) ∧ Grew w115 (T119) T140)) rfl rfl (y_cs rfl rfl rfl (fun _ _ => by kernel_rfl) (ev_func _) (vsC rfl (vsC rfl vsN)) (t_whole (p114) (([] : List Bool)) (1) (T119) _ (by decide) B118 ) (fun e_ w_ h_ => by obtain ⟨T140_, he_, hr_⟩ := h_; exact ⟨_, he_, T140_, rfl, hr_⟩)) ?_
  rintro _ w138 ⟨T140, rfl, k139, ⟨B141, g142⟩⟩
  have B143 := B124.all k139 (fun x => (((ap122).symm) p24 rfl x))
  have B144 := B125.all k139 (fun i h x => (((ap123).symm) i h x))
  have K145 := K126.trans k139 (fun i hi x => ((Grew.ok (S := fun _ => False) gr121 noB_le) i hi x))
  have gr146 := gr121.trans K126 g142
  have ap147 : Apart T140 (onB p24) := (ap122).grew g142 (onB_live (B124).lt)
  have ap148 : Apart T140 (T83) := (ap123).grew g142 (B125).live
  refine wl_nil fun F149 hF150 => ?_
  have s151 : F149 1 = .int .i16 (n) := (hF150 1).trans s129
  have s152 : F149 2 = .int .u16 (((m : Nat) : Int)) := (hF150 2).trans s130
  have s153 : F149 99 = undef := (hF150 99).trans s131
  have s154 : F149 7 = .bool true := (hF150 7).trans s132
  have s155 : F149 8 = .int .i64 (((k : Nat) : Int)) := (hF150 8).trans s133
  have s156 : F149 9 = .pointer (some ⟨p24, 0, none⟩) := (hF150 9).trans s134
  have s157 : F149 10 = .pointer (some ⟨p61, 0, none⟩) := (hF150 10).trans s135
  have s158 : F149 11 = .int .i64 (((((([] : List Bool)) ++ scanBits (oneB k n)).length : Nat) : Int)) := (hF150 11).trans s136
  have s159 : F149 12 = .pointer (some ⟨p114, 0, none⟩) := (hF150 12).trans s137
  clear hF150
  refine then_normal ?_
  refine wq_seq ?_
  refine wq_region ?_
  refine wl_v (.pointer (some ⟨p114, 0, none⟩)) rfl rfl (y_mov rfl s159 ⟨rfl, rfl⟩) ?_
  refine wl_v (.int .i64 (((k : Nat) : Int))) rfl rfl (y_mov rfl s155 ⟨rfl, rfl⟩) ?_
  refine wl_call (R := fun v_ w_ => ∃ (T162 : Nat → Prop), .tuple #[] = v_ ∧ Kept (T140) w138 w_ ∧ (Wri w_ T162 p114 (((([] : List Bool)) ++ wholeBits (1)) ++ wholeBits (((k : Nat) : Int))) ∧ Grew w138 (T140) T162)) rfl rfl (y_cs rfl rfl rfl (fun _ _ => by kernel_rfl) (ev_func _) (vsC rfl (vsC rfl vsN)) (t_whole (p114) ((([] : List Bool)) ++ wholeBits (1)) (((k : Nat) : Int)) (T140) _ ((Short.nil.whole _).room (by decide)) B141 ) (fun e_ w_ h_ => by obtain ⟨T162_, he_, hr_⟩ := h_; exact ⟨_, he_, T162_, rfl, hr_⟩)) ?_
  rintro _ w160 ⟨T162, rfl, k161, ⟨B163, g164⟩⟩
  have B165 := B143.all k161 (fun x => (((ap147).symm) p24 rfl x))
  have B166 := B144.all k161 (fun i h x => (((ap148).symm) i h x))
  have K167 := K145.trans k161 (fun i hi x => ((Grew.ok (S := fun _ => False) gr146 noB_le) i hi x))
  have gr168 := gr146.trans K145 g164
  have ap169 : Apart T162 (onB p24) := (ap147).grew g164 (onB_live (B143).lt)
  have ap170 : Apart T162 (T83) := (ap148).grew g164 (B144).live
  refine wl_nil fun F171 hF172 => ?_
  have s173 : F171 1 = .int .i16 (n) := (hF172 1).trans s151
  have s174 : F171 2 = .int .u16 (((m : Nat) : Int)) := (hF172 2).trans s152
  have s175 : F171 99 = undef := (hF172 99).trans s153
  have s176 : F171 7 = .bool true := (hF172 7).trans s154
  have s177 : F171 9 = .pointer (some ⟨p24, 0, none⟩) := (hF172 9).trans s156
  have s178 : F171 10 = .pointer (some ⟨p61, 0, none⟩) := (hF172 10).trans s157
  have s179 : F171 11 = .int .i64 (((((([] : List Bool)) ++ scanBits (oneB k n)).length : Nat) : Int)) := (hF172 11).trans s158
  have s180 : F171 12 = .pointer (some ⟨p114, 0, none⟩) := (hF172 12).trans s159
  clear hF172
  refine then_normal ?_
  refine wq_seq ?_
  refine wq_region ?_
  refine wl_v (.pointer (some ⟨p114, 0, none⟩)) rfl rfl (y_mov rfl s180 ⟨rfl, rfl⟩) ?_
  refine wl_v (.int .i16 (n)) rfl rfl (y_mov rfl s173 ⟨rfl, rfl⟩) ?_
  refine wl_v (.int .i64 (n)) rfl rfl (y_convR rfl rfl Tryd.underlying53 Tryd.underlying3 (i64_i rfl (by omega)) ⟨rfl, rfl⟩) ?_
  refine wl_call (R := fun v_ w_ => ∃ (T183 : Nat → Prop), .tuple #[] = v_ ∧ Kept (T162) w160 w_ ∧ (Wri w_ T183 p114 ((((([] : List Bool)) ++ wholeBits (1)) ++ wholeBits (((k : Nat) : Int))) ++ signedBits (n)) ∧ Grew w160 (T162) T183)) rfl rfl (y_cs rfl rfl rfl (fun _ _ => by kernel_rfl) (ev_func _) (vsC rfl (vsC rfl vsN)) (t_signed (p114) (((([] : List Bool)) ++ wholeBits (1)) ++ wholeBits (((k : Nat) : Int))) (n) (T162) _ (((Short.nil.whole _).whole _).room (by decide)) B163 ) (fun e_ w_ h_ => by obtain ⟨T183_, he_, hr_⟩ := h_; exact ⟨_, he_, T183_, rfl, hr_⟩)) ?_
  rintro _ w181 ⟨T183, rfl, k182, ⟨B184, g185⟩⟩
  have B186 := B165.all k182 (fun x => (((ap169).symm) p24 rfl x))
  have B187 := B166.all k182 (fun i h x => (((ap170).symm) i h x))
  have K188 := K167.trans k182 (fun i hi x => ((Grew.ok (S := fun _ => False) gr168 noB_le) i hi x))
  have gr189 := gr168.trans K167 g185
  have ap190 : Apart T183 (onB p24) := (ap169).grew g185 (onB_live (B165).lt)
  have ap191 : Apart T183 (T83) := (ap170).grew g185 (B166).live
  refine wl_nil fun F192 hF193 => ?_
  have s194 : F192 1 = .int .i16 (n) := (hF193 1).trans s173
  have s195 : F192 2 = .int .u16 (((m : Nat) : Int)) := (hF193 2).trans s174
  have s196 : F192 99 = undef := (hF193 99).trans s175
  have s197 : F192 7 = .bool true := (hF193 7).trans s176
  have s198 : F192 9 = .pointer (some ⟨p24, 0, none⟩) := (hF193 9).trans s177
  have s199 : F192 10 = .pointer (some ⟨p61, 0, none⟩) := (hF193 10).trans s178
  have s200 : F192 11 = .int .i64 (((((([] : List Bool)) ++ scanBits (oneB k n)).length : Nat) : Int)) := (hF193 11).trans s179
  have s201 : F192 12 = .pointer (some ⟨p114, 0, none⟩) := (hF193 12).trans s180
  clear hF193
  refine then_normal ?_
  refine wq_seq ?_
  refine wq_region ?_
  refine wl_v (.pointer (some ⟨p61, 0, none⟩)) rfl rfl (y_mov rfl s199 ⟨rfl, rfl⟩) ?_
  refine wl_v (.int .u16 (((m : Nat) : Int))) rfl rfl (y_mov rfl s195 ⟨rfl, rfl⟩) ?_
  refine wl_v (.int .i64 (((m : Nat) : Int))) rfl rfl (y_convR rfl rfl Tryd.underlying54 Tryd.underlying3 (i64_i rfl (by omega)) ⟨rfl, rfl⟩) ?_
  refine wl_call (R := fun v_ w_ => ∃ (T204 : Nat → Prop), .tuple #[] = v_ ∧ Kept (T83) w181 w_ ∧ (Wri w_ T204 p61 (((([] : List Bool)) ++ scanBits (oneB k n)) ++ wholeBits (((m : Nat) : Int))) ∧ Grew w181 (T83) T204)) rfl rfl (y_cs rfl rfl rfl (fun _ _ => by kernel_rfl) (ev_func _) (vsC rfl (vsC rfl vsN)) (t_whole (p61) ((([] : List Bool)) ++ scanBits (oneB k n)) (((m : Nat) : Int)) (T83) _ ((Short.nil.scan _).room (by decide)) B187 ) (fun e_ w_ h_ => by obtain ⟨T204_, he_, hr_⟩ := h_; exact ⟨_, he_, T204_, rfl, hr_⟩)) ?_
  rintro _ w202 ⟨T204, rfl, k203, ⟨B205, g206⟩⟩
  have B207 := B186.all k203 (fun x => (((ap89).symm) p24 rfl x))
  have B208 := B184.all k203 (fun i h x => ((ap191) i h x))
  have K209 := K188.trans k203 (fun i hi x => ((Grew.ok (S := fun _ => False) gr88 noB_le) i hi x))
  have gr210 := gr88.trans K188 g206
  have ap211 : Apart T204 (onB p24) := (ap89).grew g206 (onB_live (B186).lt)
  have ap212 : Apart T204 (T183) := ((ap191).symm).grew g206 (B184).live
  refine wl_nil fun F213 hF214 => ?_
  have s215 : F213 1 = .int .i16 (n) := (hF214 1).trans s194
  have s216 : F213 2 = .int .u16 (((m : Nat) : Int)) := (hF214 2).trans s195
  have s217 : F213 99 = undef := (hF214 99).trans s196
  have s218 : F213 7 = .bool true := (hF214 7).trans s197
  have s219 : F213 9 = .pointer (some ⟨p24, 0, none⟩) := (hF214 9).trans s198
  have s220 : F213 10 = .pointer (some ⟨p61, 0, none⟩) := (hF214 10).trans s199
  have s221 : F213 11 = .int .i64 (((((([] : List Bool)) ++ scanBits (oneB k n)).length : Nat) : Int)) := (hF214 11).trans s200
  have s222 : F213 12 = .pointer (some ⟨p114, 0, none⟩) := (hF214 12).trans s201
  clear hF214
  refine then_normal ?_
  refine wq_seq ?_
  refine wq_region ?_
  refine wl_v (.pointer (some ⟨p61, 0, none⟩)) rfl rfl (y_mov rfl s220 ⟨rfl, rfl⟩) ?_
  refine wl_call (R := fun v_ w_ => ∃ (T225 : Nat → Prop), .tuple #[] = v_ ∧ Kept (T204) w202 w_ ∧ (Wri w_ T225 p61 ((((([] : List Bool)) ++ scanBits (oneB k n)) ++ wholeBits (((m : Nat) : Int))) ++ endBits (((([] : List Bool)) ++ scanBits (oneB k n)) ++ wholeBits (((m : Nat) : Int))).length) ∧ Grew w202 (T204) T225)) rfl rfl (y_cs rfl rfl rfl (fun _ _ => by kernel_rfl) (ev_func _) (vsC rfl vsN) (t_end (p61) (((([] : List Bool)) ++ scanBits (oneB k n)) ++ wholeBits (((m : Nat) : Int))) (T204) _ (((Short.nil.scan _).whole _).room (by decide)) B205 ) (fun e_ w_ h_ => by obtain ⟨T225_, he_, hr_⟩ := h_; exact ⟨_, he_, T225_, rfl, hr_⟩)) ?_
  rintro _ w223 ⟨T225, rfl, k224, ⟨B226, g227⟩⟩
  have B228 := B207.all k224 (fun x => (((ap211).symm) p24 rfl x))
  have B229 := B208.all k224 (fun i h x => (((ap212).symm) i h x))
  have K230 := K209.trans k224 (fun i hi x => ((Grew.ok (S := fun _ => False) gr210 noB_le) i hi x))
  have gr231 := gr210.trans K209 g227
  have ap232 : Apart T225 (onB p24) := (ap211).grew g227 (onB_live (B207).lt)
  have ap233 : Apart T225 (T183) := (ap212).grew g227 (B208).live
  refine wl_nil fun F234 hF235 => ?_
  have s236 : F234 1 = .int .i16 (n) := (hF235 1).trans s215
  have s237 : F234 2 = .int .u16 (((m : Nat) : Int)) := (hF235 2).trans s216
  have s238 : F234 99 = undef := (hF235 99).trans s217
  have s239 : F234 7 = .bool true := (hF235 7).trans s218
  have s240 : F234 9 = .pointer (some ⟨p24, 0, none⟩) := (hF235 9).trans s219
  have s241 : F234 10 = .pointer (some ⟨p61, 0, none⟩) := (hF235 10).trans s220
  have s242 : F234 11 = .int .i64 (((((([] : List Bool)) ++ scanBits (oneB k n)).length : Nat) : Int)) := (hF235 11).trans s221
  have s243 : F234 12 = .pointer (some ⟨p114, 0, none⟩) := (hF235 12).trans s222
  clear hF235
  refine then_normal ?_
  refine wq_seq ?_
  refine wq_region ?_
  refine wl_v (.pointer (some ⟨p61, 0, none⟩)) rfl rfl (y_mov rfl s241 ⟨rfl, rfl⟩) ?_
  refine wl_call (R := fun v_ w_ => ∃ (v244 : Value) (T247 : Nat → Prop), v244 = v_ ∧ Kept (fun _ => False) w223 w_ ∧ (Byt w_ T247 v244 (pack ((((([] : List Bool)) ++ scanBits (oneB k n)) ++ wholeBits (((m : Nat) : Int))) ++ endBits (((([] : List Bool)) ++ scanBits (oneB k n)) ++ wholeBits (((m : Nat) : Int))).length)) ∧ Grew w223 noB T247)) rfl rfl (y_cs rfl rfl rfl (fun _ _ => by kernel_rfl) (ev_func _) (vsC rfl vsN) (t_bytes (p61) ((((([] : List Bool)) ++ scanBits (oneB k n)) ++ wholeBits (((m : Nat) : Int))) ++ endBits (((([] : List Bool)) ++ scanBits (oneB k n)) ++ wholeBits (((m : Nat) : Int))).length) (T225) _ (((Short.nil.scan _).whole _).ended.fits (by decide)) B226 ) (fun e_ w_ h_ => by obtain ⟨v244_, T247_, he_, hr_⟩ := h_; exact ⟨_, he_, v244_, T247_, rfl, hr_⟩)) ?_
  rintro _ w245 ⟨v244, T247, rfl, k246, ⟨B248, g249⟩⟩
  have B250 := B228.all k246 id
  have B251 := B226.all k246 Apart.none
  have B252 := B229.all k246 Apart.none
  have K253 := K230.trans k246 (fun _ _ x => x.elim)
  have gr254 : Grew w0 noB (T247) := Grew.new K230 g249
  have ap255 : Apart (T247) (onB p24) := Apart.new g249 (onB_live (B228).lt)
  have ap256 : Apart (T247) (T225) := Apart.new g249 (B226).live
  have ap257 : Apart (T247) (T183) := Apart.new g249 (B229).live
  refine wl_call (R := fun v_ w_ => ∃ (v258 : Nat) (T261 : Nat → Prop), .pointer (some ⟨v258, 0, none⟩) = v_ ∧ Kept (fun _ => False) w245 w_ ∧ (Rdi w_ T261 v258 ((pack ((((([] : List Bool)) ++ scanBits (oneB k n)) ++ wholeBits (((m : Nat) : Int))) ++ endBits (((([] : List Bool)) ++ scanBits (oneB k n)) ++ wholeBits (((m : Nat) : Int))).length))) (some 0) ∧ Grew w245 noB T261)) rfl rfl (y_cs rfl rfl rfl (fun _ _ => by kernel_rfl) (ev_func _) (vsC rfl vsN) (t_new (v244) (pack ((((([] : List Bool)) ++ scanBits (oneB k n)) ++ wholeBits (((m : Nat) : Int))) ++ endBits (((([] : List Bool)) ++ scanBits (oneB k n)) ++ wholeBits (((m : Nat) : Int))).length)) (T247) _ (((Short.nil.scan _).whole _).ended.bytes (by decide)) B248 ) (fun e_ w_ h_ => by obtain ⟨v258_, T261_, he_, hr_⟩ := h_; exact ⟨_, he_, v258_, T261_, rfl, hr_⟩)) ?_
  rintro _ w259 ⟨v258, T261, rfl, k260, ⟨B262, g263⟩⟩
  have B264 := B250.all k260 id
  have B265 := B251.all k260 Apart.none
  have B266 := B252.all k260 Apart.none
  have B267 := B248.all k260 Apart.none
  have K268 := K253.trans k260 (fun _ _ x => x.elim)
  have gr269 : Grew w0 noB (T261) := Grew.new K253 g263
  have ap270 : Apart (T261) (onB p24) := Apart.new g263 (onB_live (B250).lt)
  have ap271 : Apart (T261) (T225) := Apart.new g263 (B251).live
  have ap272 : Apart (T261) (T183) := Apart.new g263 (B252).live
  have ap273 : Apart (T261) (T247) := Apart.new g263 (B248).live
  refine wl_v (.pointer (some ⟨v258, 0, none⟩)) rfl rfl (y_asg rfl rfl ⟨rfl, rfl⟩) ?_
  refine wl_nil fun F274 hF275 => ?_
  have s276 : F274 1 = .int .i16 (n) := (hF275 1).trans s236
  have s277 : F274 2 = .int .u16 (((m : Nat) : Int)) := (hF275 2).trans s237
  have s278 : F274 99 = undef := (hF275 99).trans s238
  have s279 : F274 7 = .bool true := (hF275 7).trans s239
  have s280 : F274 9 = .pointer (some ⟨p24, 0, none⟩) := (hF275 9).trans s240
  have s281 : F274 11 = .int .i64 (((((([] : List Bool)) ++ scanBits (oneB k n)).length : Nat) : Int)) := (hF275 11).trans s242
  have s282 : F274 12 = .pointer (some ⟨p114, 0, none⟩) := (hF275 12).trans s243
  have s283 : F274 13 = .pointer (some ⟨v258, 0, none⟩) := (hF275 13).trans rfl
  clear hF275
  refine then_normal ?_
  refine wq_seq ?_
  have B284 : Rdi w259 (T261) v258 (L) (some 0) := ((by rw [hL]; exact B262))
  refine wq_region ?_
  refine wl_v (.pointer (some ⟨v258, 0, none⟩)) rfl rfl (y_mov rfl s283 ⟨rfl, rfl⟩) ?_
  refine wl_call (R := fun v_ w_ => ∃ (T287 : Nat → Prop), .tuple #[blkV ((scanRd (L) (some 0)).1), .int .i64 ((scanRd (L) (some 0)).2.1)] = v_ ∧ Kept (T261) w259 w_ ∧ (Rdi w_ T287 v258 ((L)) (rdSt (L) (some 0)) ∧ Grew w259 (T261) T287)) rfl rfl (y_cs rfl rfl rfl (fun _ _ => by kernel_rfl) (ev_func _) (vsC rfl vsN) (scan_read (v258) (L) (some 0) (T261) _ (hO.all K268) (above gr269 hO) B284 ) (fun e_ w_ h_ => by obtain ⟨T287_, he_, hr_⟩ := h_; exact ⟨_, he_, T287_, rfl, hr_⟩)) ?_
  rintro _ w285 ⟨T287, rfl, k286, ⟨B288, g289⟩⟩
  have B290 := B264.all k286 (fun x => (((ap270).symm) p24 rfl x))
  have B291 := B265.all k286 (fun i h x => (((ap271).symm) i h x))
  have B292 := B266.all k286 (fun i h x => (((ap272).symm) i h x))
  have B293 := B267.all k286 (fun i h x => (((ap273).symm) i h x))
  have K294 := K268.trans k286 (fun i hi x => ((Grew.ok (S := fun _ => False) gr269 noB_le) i hi x))
  have gr295 := gr269.trans K268 g289
  have ap296 : Apart T287 (onB p24) := (ap270).grew g289 (onB_live (B264).lt)
  have ap297 : Apart T287 (T225) := (ap271).grew g289 (B265).live
  have ap298 : Apart T287 (T183) := (ap272).grew g289 (B266).live
  have ap299 : Apart T287 (T247) := (ap273).grew g289 (B267).live
  refine wl_v (.tuple #[blkV ((scanRd (L) (some 0)).1), .int .i64 ((scanRd (L) (some 0)).2.1)]) rfl rfl (y_mov rfl rfl ⟨rfl, rfl⟩) ?_
  refine wl_v (blkV ((scanRd (L) (some 0)).1)) rfl rfl (y_ext rfl rfl rfl ⟨rfl, rfl⟩) ?_
  refine wl_v (.int .i64 ((scanRd (L) (some 0)).2.1)) rfl rfl (y_ext rfl rfl rfl ⟨rfl, rfl⟩) ?_
  refine wl_alloc_blk rfl rfl rfl blkT_block.2.2 fun p300 w301 e304 B302 k303 => ?_
  have g305 := onB_new (Nat.le_of_eq e304.symm)
  have gr306 : Grew w0 noB (onB p300) := Grew.new K294 g305
  have ap307 : Apart (onB p300) (onB p24) := Apart.new g305 (onB_live (B290).lt)
  have ap308 : Apart (onB p300) (T225) := Apart.new g305 (B291).live
  have ap309 : Apart (onB p300) (T183) := Apart.new g305 (B292).live
  have ap310 : Apart (onB p300) (T247) := Apart.new g305 (B293).live
  have ap311 : Apart (onB p300) (T287) := Apart.new g305 (B288).live
  clear e304 g305
  have B312 := B290.all k303 id
  have B313 := B291.all k303 Apart.none
  have B314 := B292.all k303 Apart.none
  have B315 := B293.all k303 Apart.none
  have B316 := B288.all k303 Apart.none
  have K317 := K294.trans k303 (fun _ _ x => x.elim)
  refine wl_store_blk blkT_block rfl rfl rfl rfl rfl B302 fun w318 B319 k320 => ?_
  have B321 := B312.all k320 (fun x => (((ap307).symm) p24 rfl x))
  have B322 := B313.all k320 (fun i h x => (((ap308).symm) i h x))
  have B323 := B314.all k320 (fun i h x => (((ap309).symm) i h x))
  have B324 := B315.all k320 (fun i h x => (((ap310).symm) i h x))
  have B325 := B316.all k320 (fun i h x => (((ap311).symm) i h x))
  have K326 := K317.trans k320 (Grew.ok (S := fun _ => False) gr306 noB_le)
  refine wl_v (.int .i64 ((scanRd (L) (some 0)).2.1)) rfl rfl (y_asg rfl rfl ⟨rfl, rfl⟩) ?_
  refine wl_nil fun F327 hF328 => ?_
  have s329 : F327 1 = .int .i16 (n) := (hF328 1).trans s276
  have s330 : F327 2 = .int .u16 (((m : Nat) : Int)) := (hF328 2).trans s277
  have s331 : F327 99 = undef := (hF328 99).trans s278
  have s332 : F327 7 = .bool true := (hF328 7).trans s279
  have s333 : F327 9 = .pointer (some ⟨p24, 0, none⟩) := (hF328 9).trans s280
  have s334 : F327 11 = .int .i64 (((((([] : List Bool)) ++ scanBits (oneB k n)).length : Nat) : Int)) := (hF328 11).trans s281
  have s335 : F327 12 = .pointer (some ⟨p114, 0, none⟩) := (hF328 12).trans s282
  have s336 : F327 13 = .pointer (some ⟨v258, 0, none⟩) := (hF328 13).trans s283
  have s337 : F327 14 = .pointer (some ⟨p300, 0, none⟩) := (hF328 14).trans rfl
  have s338 : F327 15 = .int .i64 ((scanRd (L) (some 0)).2.1) := (hF328 15).trans rfl
  clear hF328
  refine then_normal ?_
  refine wq_seq ?_
  by_cases d339 : (n) = (0)
  · skip
    refine wq_region ?_
    refine wl_v (.bool true) rfl rfl (y_mov rfl s332 ⟨rfl, rfl⟩) ?_
    refine wl_v (.bool true) rfl rfl (y_mov rfl rfl ⟨rfl, rfl⟩) ?_
    refine wl_vw (.int .i16 (n)) 1 true 60 rfl rfl rfl rfl rfl (y_mov rfl s329 ⟨rfl, rfl⟩) ?_
    refine wl_vw (.bool true) 1 true 60 rfl rfl rfl rfl rfl (y_eqlI rfl rfl rfl (decide_eq_true d339) ⟨rfl, rfl⟩) ?_
    refine wl_vw (.bool true) 1 true 60 rfl rfl rfl rfl rfl (y_mov rfl rfl ⟨rfl, rfl⟩) ?_
    refine wl_vw (.int .i64 (((((([] : List Bool)) ++ scanBits (oneB k n)).length : Nat) : Int))) 4 true 63 rfl rfl rfl rfl rfl (y_mov rfl s334 ⟨rfl, rfl⟩) ?_
    refine wl_vw (.bool true) 4 true 63 rfl rfl rfl rfl rfl (y_eqlI rfl rfl rfl (decide_eq_true (one_many_none k hk n (by assumption))) ⟨rfl, rfl⟩) ?_
    refine wl_vw (.bool true) 1 true 60 rfl rfl rfl rfl rfl (y_pickT rfl rfl rfl ⟨rfl, rfl⟩) ?_
    refine wl_vw (.bool true) 1 true 60 rfl rfl rfl rfl rfl (y_mov rfl rfl ⟨rfl, rfl⟩) ?_
    refine wl_unless 8 false 67 rfl rfl rfl (Or.inl rfl) rfl ?_
    refine wl_unless 8 false 67 rfl rfl rfl (Or.inl rfl) rfl ?_
    refine wl_unless 8 false 67 rfl rfl rfl (Or.inl rfl) rfl ?_
    refine wl_unless 11 true 70 rfl rfl rfl (Or.inr rfl) rfl ?_
    refine wl_unless 11 true 70 rfl rfl rfl (Or.inr rfl) rfl ?_
    refine wl_unless 11 true 70 rfl rfl rfl (Or.inr rfl) rfl ?_
    refine wl_unless 11 true 70 rfl rfl rfl (Or.inr rfl) rfl ?_
    refine wl_unless 8 false 67 rfl rfl rfl (Or.inl rfl) rfl ?_
    refine wl_vw (.bool true) 1 true 60 rfl rfl rfl rfl rfl (y_pickT rfl rfl rfl ⟨rfl, rfl⟩) ?_
    refine wl_v (.bool true) rfl rfl (y_pickT rfl rfl rfl ⟨rfl, rfl⟩) ?_
    refine wl_v (.bool true) rfl rfl (y_mov rfl rfl ⟨rfl, rfl⟩) ?_
    refine wl_vw (blkV ((scanRd (L) (some 0)).1)) 19 true 78 rfl rfl rfl rfl rfl (y_load_blk blkT_block rfl s337 B319 ⟨rfl, rfl⟩) ?_
    refine wl_vw (blkV (oneB k n)) 19 true 78 rfl rfl rfl rfl rfl (y_load_blk blkT_block rfl s333 B321 ⟨rfl, rfl⟩) ?_
    refine wl_vw (.bool true) 19 true 78 rfl rfl rfl rfl rfl (y_sameR rfl rfl rfl (hf.out.1) ⟨rfl, rfl⟩) ?_
    refine wl_v (.bool true) rfl rfl (y_pickT rfl rfl rfl ⟨rfl, rfl⟩) ?_
    refine wl_v (.bool true) rfl rfl (y_mov rfl rfl ⟨rfl, rfl⟩) ?_
    refine wl_vw (.int .i64 ((scanRd (L) (some 0)).2.1)) 24 true 83 rfl rfl rfl rfl rfl (y_mov rfl s338 ⟨rfl, rfl⟩) ?_
    refine wl_vw (.bool true) 24 true 83 rfl rfl rfl rfl rfl (y_eqlI rfl rfl rfl (decide_eq_true hf.out.2.1) ⟨rfl, rfl⟩) ?_
    refine wl_v (.bool true) rfl rfl (y_pickT rfl rfl rfl ⟨rfl, rfl⟩) ?_
    refine wl_v (.bool true) rfl rfl (y_mov rfl rfl ⟨rfl, rfl⟩) ?_
    refine wl_vw (.pointer (some ⟨v258, 0, none⟩)) 28 true 87 rfl rfl rfl rfl rfl (y_mov rfl s336 ⟨rfl, rfl⟩) ?_
    refine wl_callw (R := fun v_ w_ => ∃ (T342 : Nat → Prop), .int .i64 ((rdStep (wholeRd ((L)) (1048576)) (rdSt (L) (some 0))).1) = v_ ∧ Kept (T287) w318 w_ ∧ (Rdi w_ T342 v258 (((L))) ((rdStep (wholeRd ((L)) (1048576)) (rdSt (L) (some 0))).2) ∧ Grew w318 (T287) T342)) 28 true 87 rfl rfl rfl rfl rfl (y_cs rfl rfl rfl (fun _ _ => by kernel_rfl) (ev_func _) (vsC rfl (vsC rfl vsN)) (t_rwhole (v258) ((L)) (rdSt (L) (some 0)) (1048576) (T287) _  B325 ) (fun e_ w_ h_ => by obtain ⟨T342_, he_, hr_⟩ := h_; exact ⟨_, he_, T342_, rfl, hr_⟩)) ?_
    rintro _ w340 ⟨T342, rfl, k341, ⟨B343, g344⟩⟩
    have B345 := B321.all k341 (fun x => (((ap296).symm) p24 rfl x))
    have B346 := B322.all k341 (fun i h x => (((ap297).symm) i h x))
    have B347 := B323.all k341 (fun i h x => (((ap298).symm) i h x))
    have B348 := B324.all k341 (fun i h x => (((ap299).symm) i h x))
    have B349 := B319.all k341 (fun x => ((ap311) p300 rfl x))
    have K350 := K326.trans k341 (fun i hi x => ((Grew.ok (S := fun _ => False) gr295 noB_le) i hi x))
    have gr351 := gr295.trans K326 g344
    have ap352 : Apart T342 (onB p24) := (ap296).grew g344 (onB_live (B321).lt)
    have ap353 : Apart T342 (T225) := (ap297).grew g344 (B322).live
    have ap354 : Apart T342 (T183) := (ap298).grew g344 (B323).live
    have ap355 : Apart T342 (T247) := (ap299).grew g344 (B324).live
    have ap356 : Apart T342 (onB p300) := ((ap311).symm).grew g344 (onB_live (B319).lt)
    refine wl_vw (.int .u16 (((m : Nat) : Int))) 28 true 87 rfl rfl rfl rfl rfl (y_mov rfl s330 ⟨rfl, rfl⟩) ?_
    refine wl_vw (.int .i64 (((m : Nat) : Int))) 28 true 87 rfl rfl rfl rfl rfl (y_convR rfl rfl Tryd.underlying54 Tryd.underlying3 (i64_i rfl (by omega)) ⟨rfl, rfl⟩) ?_
    refine wl_vw (.bool true) 28 true 87 rfl rfl rfl rfl rfl (y_eqlI rfl rfl rfl (decide_eq_true hf.out.2.2.1) ⟨rfl, rfl⟩) ?_
    refine wl_v (.bool true) rfl rfl (y_pickT rfl rfl rfl ⟨rfl, rfl⟩) ?_
    refine wl_v (.bool true) rfl rfl (y_mov rfl rfl ⟨rfl, rfl⟩) ?_
    refine wl_vw (.pointer (some ⟨v258, 0, none⟩)) 35 true 94 rfl rfl rfl rfl rfl (y_mov rfl s336 ⟨rfl, rfl⟩) ?_
    refine wl_callw (R := fun v_ w_ => v_ = .int .i64 (doneOf (((L))) ((rdStep (wholeRd ((L)) (1048576)) (rdSt (L) (some 0))).2)) ∧ Kept (fun _ => False) w340 w_) 35 true 94 rfl rfl rfl rfl rfl (y_cs rfl rfl rfl (fun _ _ => by kernel_rfl) (ev_func _) (vsC rfl vsN) (t_done (v258) (((L))) ((rdStep (wholeRd ((L)) (1048576)) (rdSt (L) (some 0))).2) (T342) _  B343 ) (fun e_ w_ h_ => ⟨_, h_.1, rfl, h_.2⟩)) ?_
    rintro _ w357 ⟨rfl, k358⟩
    have B359 := B345.all k358 id
    have B360 := B346.all k358 Apart.none
    have B361 := B347.all k358 Apart.none
    have B362 := B348.all k358 Apart.none
    have B363 := B343.all k358 Apart.none
    have B364 := B349.all k358 id
    have K365 := K350.trans k358 (fun _ _ x => x.elim)
    refine wl_vw (.bool true) 35 true 94 rfl rfl rfl rfl rfl (y_eqlI rfl rfl rfl (decide_eq_true hf.out.2.2.2) ⟨rfl, rfl⟩) ?_
    refine wl_v (.bool true) rfl rfl (y_pickT rfl rfl rfl ⟨rfl, rfl⟩) ?_
    refine wl_v (.bool true) rfl rfl (y_asg rfl rfl ⟨rfl, rfl⟩) ?_
    refine wl_nil fun F366 hF367 => ?_
    have s368 : F366 99 = undef := (hF367 99).trans s331
    have s369 : F366 6 = .bool true := (hF367 6).trans rfl
    clear hF367
    refine then_normal ?_
    refine wq_ret ?_
    exact end_tmp (v := .bool true) s368 rfl rfl s369 ⟨rfl, K365⟩
  · skip
    refine wq_region ?_
    refine wl_v (.bool true) rfl rfl (y_mov rfl s332 ⟨rfl, rfl⟩) ?_
    refine wl_v (.bool true) rfl rfl (y_mov rfl rfl ⟨rfl, rfl⟩) ?_
    refine wl_vw (.int .i16 (n)) 1 true 60 rfl rfl rfl rfl rfl (y_mov rfl s329 ⟨rfl, rfl⟩) ?_
    refine wl_vw (.bool false) 1 true 60 rfl rfl rfl rfl rfl (y_eqlI rfl rfl rfl (decide_eq_false d339) ⟨rfl, rfl⟩) ?_
    refine wl_vw (.bool false) 1 true 60 rfl rfl rfl rfl rfl (y_mov rfl rfl ⟨rfl, rfl⟩) ?_
    refine wl_unless 4 true 63 rfl rfl rfl (Or.inl rfl) rfl ?_
    refine wl_unless 4 true 63 rfl rfl rfl (Or.inl rfl) rfl ?_
    refine wl_vw (.bool false) 1 true 60 rfl rfl rfl rfl rfl (y_pickF rfl rfl rfl ⟨rfl, rfl⟩) ?_
    refine wl_vw (.bool false) 1 true 60 rfl rfl rfl rfl rfl (y_mov rfl rfl ⟨rfl, rfl⟩) ?_
    refine wl_vw (.int .i16 (n)) 8 false 67 rfl rfl rfl rfl rfl (y_mov rfl s329 ⟨rfl, rfl⟩) ?_
    refine wl_vw (.bool true) 8 false 67 rfl rfl rfl rfl rfl (y_neqI rfl rfl rfl (decide_eq_true (by assumption)) ⟨rfl, rfl⟩) ?_
    refine wl_vw (.bool true) 8 false 67 rfl rfl rfl rfl rfl (y_mov rfl rfl ⟨rfl, rfl⟩) ?_
    refine wl_vw (.int .i64 (((((([] : List Bool)) ++ scanBits (oneB k n)).length : Nat) : Int))) 11 true 70 rfl rfl rfl rfl rfl (y_mov rfl s334 ⟨rfl, rfl⟩) ?_
    refine wl_vw (.pointer (some ⟨p114, 0, none⟩)) 11 true 70 rfl rfl rfl rfl rfl (y_mov rfl s335 ⟨rfl, rfl⟩) ?_
    refine wl_callw (R := fun v_ w_ => v_ = .int .i64 (((((((([] : List Bool)) ++ wholeBits (1)) ++ wholeBits (((k : Nat) : Int))) ++ signedBits (n)).length : Nat) : Int)) ∧ Kept (fun _ => False) w318 w_) 11 true 70 rfl rfl rfl rfl rfl (y_cs rfl rfl rfl (fun _ _ => by kernel_rfl) (ev_func _) (vsC rfl vsN) (t_many (p114) ((((([] : List Bool)) ++ wholeBits (1)) ++ wholeBits (((k : Nat) : Int))) ++ signedBits (n)) (T183) _  B323 ) (fun e_ w_ h_ => ⟨_, h_.1, rfl, h_.2⟩)) ?_
    rintro _ w370 ⟨rfl, k371⟩
    have B372 := B321.all k371 id
    have B373 := B322.all k371 Apart.none
    have B374 := B323.all k371 Apart.none
    have B375 := B324.all k371 Apart.none
    have B376 := B325.all k371 Apart.none
    have B377 := B319.all k371 id
    have K378 := K326.trans k371 (fun _ _ x => x.elim)
    refine wl_vw (.bool true) 11 true 70 rfl rfl rfl rfl rfl (y_eqlI rfl rfl rfl (decide_eq_true (one_many_some k hk n (by assumption) hn)) ⟨rfl, rfl⟩) ?_
    refine wl_vw (.bool true) 8 false 67 rfl rfl rfl rfl rfl (y_pickT rfl rfl rfl ⟨rfl, rfl⟩) ?_
    refine wl_vw (.bool true) 1 true 60 rfl rfl rfl rfl rfl (y_pickF rfl rfl rfl ⟨rfl, rfl⟩) ?_
    refine wl_v (.bool true) rfl rfl (y_pickT rfl rfl rfl ⟨rfl, rfl⟩) ?_
    refine wl_v (.bool true) rfl rfl (y_mov rfl rfl ⟨rfl, rfl⟩) ?_
    refine wl_vw (blkV ((scanRd (L) (some 0)).1)) 19 true 78 rfl rfl rfl rfl rfl (y_load_blk blkT_block rfl s337 B377 ⟨rfl, rfl⟩) ?_
    refine wl_vw (blkV (oneB k n)) 19 true 78 rfl rfl rfl rfl rfl (y_load_blk blkT_block rfl s333 B372 ⟨rfl, rfl⟩) ?_
    refine wl_vw (.bool true) 19 true 78 rfl rfl rfl rfl rfl (y_sameR rfl rfl rfl (hf.out.1) ⟨rfl, rfl⟩) ?_
    refine wl_v (.bool true) rfl rfl (y_pickT rfl rfl rfl ⟨rfl, rfl⟩) ?_
    refine wl_v (.bool true) rfl rfl (y_mov rfl rfl ⟨rfl, rfl⟩) ?_
    refine wl_vw (.int .i64 ((scanRd (L) (some 0)).2.1)) 24 true 83 rfl rfl rfl rfl rfl (y_mov rfl s338 ⟨rfl, rfl⟩) ?_
    refine wl_vw (.bool true) 24 true 83 rfl rfl rfl rfl rfl (y_eqlI rfl rfl rfl (decide_eq_true hf.out.2.1) ⟨rfl, rfl⟩) ?_
    refine wl_v (.bool true) rfl rfl (y_pickT rfl rfl rfl ⟨rfl, rfl⟩) ?_
    refine wl_v (.bool true) rfl rfl (y_mov rfl rfl ⟨rfl, rfl⟩) ?_
    refine wl_vw (.pointer (some ⟨v258, 0, none⟩)) 28 true 87 rfl rfl rfl rfl rfl (y_mov rfl s336 ⟨rfl, rfl⟩) ?_
    refine wl_callw (R := fun v_ w_ => ∃ (T381 : Nat → Prop), .int .i64 ((rdStep (wholeRd ((L)) (1048576)) (rdSt (L) (some 0))).1) = v_ ∧ Kept (T287) w370 w_ ∧ (Rdi w_ T381 v258 (((L))) ((rdStep (wholeRd ((L)) (1048576)) (rdSt (L) (some 0))).2) ∧ Grew w370 (T287) T381)) 28 true 87 rfl rfl rfl rfl rfl (y_cs rfl rfl rfl (fun _ _ => by kernel_rfl) (ev_func _) (vsC rfl (vsC rfl vsN)) (t_rwhole (v258) ((L)) (rdSt (L) (some 0)) (1048576) (T287) _  B376 ) (fun e_ w_ h_ => by obtain ⟨T381_, he_, hr_⟩ := h_; exact ⟨_, he_, T381_, rfl, hr_⟩)) ?_
    rintro _ w379 ⟨T381, rfl, k380, ⟨B382, g383⟩⟩
    have B384 := B372.all k380 (fun x => (((ap296).symm) p24 rfl x))
    have B385 := B373.all k380 (fun i h x => (((ap297).symm) i h x))
    have B386 := B374.all k380 (fun i h x => (((ap298).symm) i h x))
    have B387 := B375.all k380 (fun i h x => (((ap299).symm) i h x))
    have B388 := B377.all k380 (fun x => ((ap311) p300 rfl x))
    have K389 := K378.trans k380 (fun i hi x => ((Grew.ok (S := fun _ => False) gr295 noB_le) i hi x))
    have gr390 := gr295.trans K378 g383
    have ap391 : Apart T381 (onB p24) := (ap296).grew g383 (onB_live (B372).lt)
    have ap392 : Apart T381 (T225) := (ap297).grew g383 (B373).live
    have ap393 : Apart T381 (T183) := (ap298).grew g383 (B374).live
    have ap394 : Apart T381 (T247) := (ap299).grew g383 (B375).live
    have ap395 : Apart T381 (onB p300) := ((ap311).symm).grew g383 (onB_live (B377).lt)
    refine wl_vw (.int .u16 (((m : Nat) : Int))) 28 true 87 rfl rfl rfl rfl rfl (y_mov rfl s330 ⟨rfl, rfl⟩) ?_
    refine wl_vw (.int .i64 (((m : Nat) : Int))) 28 true 87 rfl rfl rfl rfl rfl (y_convR rfl rfl Tryd.underlying54 Tryd.underlying3 (i64_i rfl (by omega)) ⟨rfl, rfl⟩) ?_
    refine wl_vw (.bool true) 28 true 87 rfl rfl rfl rfl rfl (y_eqlI rfl rfl rfl (decide_eq_true hf.out.2.2.1) ⟨rfl, rfl⟩) ?_
    refine wl_v (.bool true) rfl rfl (y_pickT rfl rfl rfl ⟨rfl, rfl⟩) ?_
    refine wl_v (.bool true) rfl rfl (y_mov rfl rfl ⟨rfl, rfl⟩) ?_
    refine wl_vw (.pointer (some ⟨v258, 0, none⟩)) 35 true 94 rfl rfl rfl rfl rfl (y_mov rfl s336 ⟨rfl, rfl⟩) ?_
    refine wl_callw (R := fun v_ w_ => v_ = .int .i64 (doneOf (((L))) ((rdStep (wholeRd ((L)) (1048576)) (rdSt (L) (some 0))).2)) ∧ Kept (fun _ => False) w379 w_) 35 true 94 rfl rfl rfl rfl rfl (y_cs rfl rfl rfl (fun _ _ => by kernel_rfl) (ev_func _) (vsC rfl vsN) (t_done (v258) (((L))) ((rdStep (wholeRd ((L)) (1048576)) (rdSt (L) (some 0))).2) (T381) _  B382 ) (fun e_ w_ h_ => ⟨_, h_.1, rfl, h_.2⟩)) ?_
    rintro _ w396 ⟨rfl, k397⟩
    have B398 := B384.all k397 id
    have B399 := B385.all k397 Apart.none
    have B400 := B386.all k397 Apart.none
    have B401 := B387.all k397 Apart.none
    have B402 := B382.all k397 Apart.none
    have B403 := B388.all k397 id
    have K404 := K389.trans k397 (fun _ _ x => x.elim)
    refine wl_vw (.bool true) 35 true 94 rfl rfl rfl rfl rfl (y_eqlI rfl rfl rfl (decide_eq_true hf.out.2.2.2) ⟨rfl, rfl⟩) ?_
    refine wl_v (.bool true) rfl rfl (y_pickT rfl rfl rfl ⟨rfl, rfl⟩) ?_
    refine wl_v (.bool true) rfl rfl (y_asg rfl rfl ⟨rfl, rfl⟩) ?_
    refine wl_nil fun F405 hF406 => ?_
    have s407 : F405 99 = undef := (hF406 99).trans s331
    have s408 : F405 6 = .bool true := (hF406 6).trans rfl
    clear hF406
    refine then_normal ?_
    refine wq_ret ?_
    exact end_tmp (v := .bool true) s407 rfl rfl s408 ⟨rfl, K404⟩
end Go.Proofs.YtipimcnjcpckeaaDoor
