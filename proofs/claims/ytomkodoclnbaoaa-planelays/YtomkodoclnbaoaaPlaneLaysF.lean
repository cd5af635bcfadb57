/- What PlaneLays reaches of my texts, part 6. -/
import Derived.Test.YtomkodoclnbaoaaPlaneLaysE
namespace Go.Proofs.Ytomkodoclnbaoaa
open Go.RowKit
def cb (b : Nat → Int) : Nat → Int := fun i => min (max (b i) 0) 255
theorem cb_le (b : Nat → Int) (i : Nat) (_ : i < 16) : 0 ≤ cb b i ∧ cb b i ≤ 255 := by unfold cb; omega
theorem other_text {f : FD} {k x y : Int} (h : Inside f k x y) (b : Nat → Int) (q : Int) (h1 : 0 ≤ q) (h2 : q ≤ 2) (hq : q ≠ k) : (!((textOf ((putFr f k x y b).pl q)).toList == (textOf (f.pl q)).toList)) = false := by
  rw [put_other h b q h1 h2 hq]; simp

set_option maxHeartbeats 4000000 in
set_option maxRecDepth 100000 in
theorem flays_walk (w h : Nat) (v : Value) (l : List Nat) (p x y : Nat) (b : Nat → Int) (T_s : Nat → Prop) (w0 : World) (hw : w < 256) (hh : h < 256) (hp : p < 256) (hx : x < 256) (hy : y < 256) (h_s : Byt w0 T_s v (l)) :
    Calls Try.prog 4 #[.int .u8 (((w : Nat) : Int)), .int .u8 (((h : Nat) : Int)), v, .int .u8 (((p : Nat) : Int)), .int .u8 (((x : Nat) : Int)), .int .u8 (((y : Nat) : Int)), blkV (b)] w0 fun e w' => e = .returned (.bool true) ∧ Kept (fun _ => False) w0 w' := by
  refine calls_wq (args := [.int .u8 (((w : Nat) : Int)), .int .u8 (((h : Nat) : Int)), v, .int .u8 (((p : Nat) : Int)), .int .u8 (((x : Nat) : Int)), .int .u8 (((y : Nat) : Int)), blkV (b)]) 138 Try.func4 rfl rfl (Nat.le_of_ble_eq_true rfl) ?_
  have K0 := Kept.refl (fun _ => False) w0
  obtain ⟨k, hk⟩ : ∃ k : Nat, k = p % 3 := ⟨_, rfl⟩
  have hok := mkF_ok w h l
  have hsb := size_bounds (mkF w h l) (k : Int)
  have hsp := size_pos (f := mkF w h l) (p := (k : Int)) ⟨hok, by omega, by omega⟩
  obtain ⟨A, hA⟩ : ∃ A : Int, A = Int.tmod (x : Int) ((sizeF (mkF w h l) (k : Int)).1 - 3) := ⟨_, rfl⟩
  obtain ⟨R, hR⟩ : ∃ R : Int, R = Int.tmod (y : Int) ((sizeF (mkF w h l) (k : Int)).2 - 3) := ⟨_, rfl⟩
  have hA2 : 0 ≤ A ∧ A < (sizeF (mkF w h l) (k : Int)).1 - 3 := by rw [hA]; exact ⟨Int.tmod_nonneg _ (by omega), Int.tmod_lt_of_pos _ (by omega)⟩
  have hR2 : 0 ≤ R ∧ R < (sizeF (mkF w h l) (k : Int)).2 - 3 := by rw [hR]; exact ⟨Int.tmod_nonneg _ (by omega), Int.tmod_lt_of_pos _ (by omega)⟩
  have hin : Inside (mkF w h l) (k : Int) A R := ⟨hok, by omega, by omega, by omega, by omega, by omega, by omega⟩
  have hgot := Lib.hid (sameB_true (fun i hi => get_put hin (cb b) (fun i hi => cb_le b i hi) i hi))
  have hgok := Lib.hid (checkE_ok (put_inside hin (cb b)).1.ok)
  have hby : ∀ z ∈ (mkF w h l).pl (k : Int), z < 256 := by have h3 : (k : Int) = 0 ∨ (k : Int) = 1 ∨ (k : Int) = 2 := (by omega); rcases h3 with e | e | e <;> rw [e]; exact (mkF_bytes w h l).b0; exact (mkF_bytes w h l).b1; exact (mkF_bytes w h l).b2
  have hback := Lib.hid (put_back hin (cb b) hby)
  have g_s := Grew.refl w0 T_s
  refine wq_seq ?_
  refine wq_region ?_
  refine wl_box_blk rfl rfl rfl rfl fun p1 w2 e5 B3 k4 => ?_
  have g6 := onB_new (Nat.le_of_eq e5.symm)
  have gr7 : Grew w0 noB (onB p1) := Grew.new K0 g6
  have ap8 : Apart (onB p1) (T_s) := Apart.new g6 (h_s).live
  clear e5 g6
  have B9 := h_s.all k4 Apart.none
  have K10 := K0.trans k4 (fun _ _ x => x.elim)
  refine wl_v (.bool false) rfl rfl (y_asg rfl rfl ⟨rfl, rfl⟩) ?_
  refine wl_nil fun F11 hF12 => ?_
  have s13 : F11 0 = .int .u8 (((w : Nat) : Int)) := (hF12 0).trans rfl
  have s14 : F11 1 = .int .u8 (((h : Nat) : Int)) := (hF12 1).trans rfl
  have s15 : F11 2 = v := (hF12 2).trans rfl
  have s16 : F11 3 = .int .u8 (((p : Nat) : Int)) := (hF12 3).trans rfl
  have s17 : F11 4 = .int .u8 (((x : Nat) : Int)) := (hF12 4).trans rfl
  have s18 : F11 5 = .int .u8 (((y : Nat) : Int)) := (hF12 5).trans rfl
  have s19 : F11 138 = undef := (hF12 138).trans rfl
  have s20 : F11 13 = .pointer (some ⟨p1, 0, none⟩) := (hF12 13).trans rfl
  clear hF12
  refine then_normal ?_
  refine wq_seq ?_
  refine wq_region ?_
  refine wl_call (R := fun v_ w_ => v_ = .bool true ∧ Kept (fun _ => False) w2 w_) rfl rfl (y_cs rfl rfl rfl (fun _ _ => by kernel_rfl) (ev_func _) vsN (fawake   _   ) (fun e_ w_ h_ => ⟨_, h_.1, rfl, h_.2⟩)) ?_
  rintro _ w21 ⟨rfl, k22⟩
  have B23 := B9.all k22 Apart.none
  have B24 := B3.all k22 id
  have K25 := K10.trans k22 (fun _ _ x => x.elim)
  refine wl_v (.bool true) rfl rfl (y_asg rfl rfl ⟨rfl, rfl⟩) ?_
  refine wl_nil fun F26 hF27 => ?_
  have s28 : F26 0 = .int .u8 (((w : Nat) : Int)) := (hF27 0).trans s13
  have s29 : F26 1 = .int .u8 (((h : Nat) : Int)) := (hF27 1).trans s14
  have s30 : F26 2 = v := (hF27 2).trans s15
  have s31 : F26 3 = .int .u8 (((p : Nat) : Int)) := (hF27 3).trans s16
  have s32 : F26 4 = .int .u8 (((x : Nat) : Int)) := (hF27 4).trans s17
  have s33 : F26 5 = .int .u8 (((y : Nat) : Int)) := (hF27 5).trans s18
  have s34 : F26 138 = undef := (hF27 138).trans s19
  have s35 : F26 13 = .pointer (some ⟨p1, 0, none⟩) := (hF27 13).trans s20
  have s36 : F26 15 = .bool true := (hF27 15).trans rfl
  clear hF27
  refine then_normal ?_
  refine wq_seq ?_
  refine wq_seq ?_
  refine wq_region ?_
  refine wl_v (v) rfl rfl (y_mov rfl s30 ⟨rfl, rfl⟩) ?_
  refine wl_v (.int .i64 ((((l).length : Nat) : Int))) rfl rfl (y_lenV rfl rfl rfl B23 ⟨rfl, rfl⟩) ?_
  refine wl_v (.bool (decide ((300) < ((((l).length : Nat) : Int))))) rfl rfl (y_gtr rfl rfl rfl rfl ⟨rfl, rfl⟩) ?_
  refine wl_nil fun F37 hF38 => ?_
  have s39 : F37 0 = .int .u8 (((w : Nat) : Int)) := (hF38 0).trans s28
  have s40 : F37 1 = .int .u8 (((h : Nat) : Int)) := (hF38 1).trans s29
  have s41 : F37 2 = v := (hF38 2).trans s30
  have s42 : F37 3 = .int .u8 (((p : Nat) : Int)) := (hF38 3).trans s31
  have s43 : F37 4 = .int .u8 (((x : Nat) : Int)) := (hF38 4).trans s32
  have s44 : F37 5 = .int .u8 (((y : Nat) : Int)) := (hF38 5).trans s33
  have s45 : F37 138 = undef := (hF38 138).trans s34
  have s46 : F37 13 = .pointer (some ⟨p1, 0, none⟩) := (hF38 13).trans s35
  have s47 : F37 15 = .bool true := (hF38 15).trans s36
  have s48 : F37 30 = .bool (decide ((300) < ((((l).length : Nat) : Int)))) := (hF38 30).trans rfl
  clear hF38
  refine then_normal ?_
  refine wq_cond s48 (fun c49 => ?_) (fun c49 => ?_)
  · replace c49 := of_decide_eq_true c49
    refine wq_seq ?_
    refine wq_region ?_
    refine wl_v (.bool true) rfl rfl (y_mov rfl s47 ⟨rfl, rfl⟩) ?_
    refine wl_v (.bool true) rfl rfl (y_asg rfl rfl ⟨rfl, rfl⟩) ?_
    refine wl_nil fun F50 hF51 => ?_
    have s52 : F50 138 = undef := (hF51 138).trans s45
    have s53 : F50 14 = .bool true := (hF51 14).trans rfl
    clear hF51
    refine then_normal ?_
    refine wq_ret ?_
    refine then_ret ?_
    exact end_tmp (v := .bool true) s52 rfl rfl s53 ⟨rfl, K25⟩
  · replace c49 := of_decide_eq_false c49
    refine wq_skip ?_
    refine then_normal ?_
    refine wq_seq ?_
    refine wq_region ?_
    refine wl_v (.int .u8 (((w : Nat) : Int))) rfl rfl (y_mov rfl s39 ⟨rfl, rfl⟩) ?_
    refine wl_v (.int .u8 (((h : Nat) : Int))) rfl rfl (y_mov rfl s40 ⟨rfl, rfl⟩) ?_
    refine wl_v (v) rfl rfl (y_mov rfl s41 ⟨rfl, rfl⟩) ?_
    refine wl_call (R := fun v_ w_ => ∃ (v54 : Value) (T59 : Nat → Prop) (v55 : Value) (T60 : Nat → Prop) (v56 : Value) (T61 : Nat → Prop), .agg #[.int .i64 ((mkF (w) (h) (l)).W), .int .i64 ((mkF (w) (h) (l)).H), v54, v55, v56] = v_ ∧ Kept (fun _ => False) w21 w_ ∧ (Owb w_ T59 v54 ((mkF (w) (h) (l)).p0) ∧ Grew w21 noB T59) ∧ (Owb w_ T60 v55 ((mkF (w) (h) (l)).p1) ∧ Grew w21 noB T60) ∧ (Owb w_ T61 v56 ((mkF (w) (h) (l)).p2) ∧ Grew w21 noB T61) ∧ Apart T59 T60 ∧ Apart T59 T61 ∧ Apart T60 T61) rfl rfl (y_cs rfl rfl rfl (fun _ _ => by kernel_rfl) (ev_func _) (vsC rfl (vsC rfl (vsC rfl vsN))) (flaw_frame (w) (h) (v) (l) (T_s) _ (by omega) (by omega) B23 ) (fun e_ w_ h_ => by obtain ⟨v54_, T59_, v55_, T60_, v56_, T61_, he_, hr_⟩ := h_; exact ⟨_, he_, v54_, T59_, v55_, T60_, v56_, T61_, rfl, hr_⟩)) ?_
    rintro _ w57 ⟨v54, T59, v55, T60, v56, T61, rfl, k58, ⟨B62, g65⟩, ⟨B63, g66⟩, ⟨B64, g67⟩, ap68, ap69, ap70⟩
    have B71 := B23.all k58 Apart.none
    have B72 := B24.all k58 id
    have K73 := K25.trans k58 (fun _ _ x => x.elim)
    have gr74 : Grew w0 noB (T59) := Grew.new K25 g65
    have ap75 : Apart (T59) (T_s) := Apart.new g65 (B23).live
    have ap76 : Apart (T59) (onB p1) := Apart.new g65 (onB_live (B24).lt)
    have gr77 : Grew w0 noB (T60) := Grew.new K25 g66
    have ap78 : Apart (T60) (T_s) := Apart.new g66 (B23).live
    have ap79 : Apart (T60) (onB p1) := Apart.new g66 (onB_live (B24).lt)
    have gr80 : Grew w0 noB (T61) := Grew.new K25 g67
    have ap81 : Apart (T61) (T_s) := Apart.new g67 (B23).live
    have ap82 : Apart (T61) (onB p1) := Apart.new g67 (onB_live (B24).lt)
    refine wl_alloc_stc (n := 5) (vs := [.int .i64 (0), .int .i64 (0), .slice none 0 0, .slice none 0 0, .slice none 0 0]) rfl rfl rfl (by kernel_rfl) fun p83 w84 B86 g87 k85 => ?_
    have gr88 : Grew w0 noB (onB p83) := Grew.new K73 g87
    have ap89 : Apart (onB p83) (T_s) := Apart.new g87 (B71).live
    have ap90 : Apart (onB p83) (onB p1) := Apart.new g87 (onB_live (B72).lt)
    have ap91 : Apart (onB p83) (T59) := Apart.new g87 (B62).live
    have ap92 : Apart (onB p83) (T60) := Apart.new g87 (B63).live
    have ap93 : Apart (onB p83) (T61) := Apart.new g87 (B64).live
    have B94 := B71.all k85 Apart.none
    have B95 := B72.all k85 id
    have B96 := B62.all k85 Apart.none
    have B97 := B63.all k85 Apart.none
    have B98 := B64.all k85 Apart.none
    have K99 := K73.trans k85 (fun _ _ x => x.elim)
    refine wl_store_stc (us := [.int .i64 ((mkF (w) (h) (l)).W), .int .i64 ((mkF (w) (h) (l)).H), v54, v55, v56]) stcT_frame rfl rfl rfl rfl rfl B86 rfl (oneI rfl (oneI rfl (oneI (B96).one (oneI (B97).one (oneI (B98).one oneN))))) fun w100 B101 k102 => ?_
    have B103 := B94.all k102 (fun i h x => (((ap89).symm) i h x))
    have B104 := B95.all k102 (fun x => (((ap90).symm) p1 rfl x))
    have B105 := B96.all k102 (fun i h x => (((ap91).symm) i h x))
    have B106 := B97.all k102 (fun i h x => (((ap92).symm) i h x))
    have B107 := B98.all k102 (fun i h x => (((ap93).symm) i h x))
    have K108 := K99.trans k102 (Grew.ok (S := fun _ => False) gr88 noB_le)
    refine wl_nil fun F109 hF110 => ?_
    have s111 : F109 0 = .int .u8 (((w : Nat) : Int)) := (hF110 0).trans s39
    have s112 : F109 1 = .int .u8 (((h : Nat) : Int)) := (hF110 1).trans s40
    have s113 : F109 2 = v := (hF110 2).trans s41
    have s114 : F109 3 = .int .u8 (((p : Nat) : Int)) := (hF110 3).trans s42
    have s115 : F109 4 = .int .u8 (((x : Nat) : Int)) := (hF110 4).trans s43
    have s116 : F109 5 = .int .u8 (((y : Nat) : Int)) := (hF110 5).trans s44
    have s117 : F109 138 = undef := (hF110 138).trans s45
    have s118 : F109 13 = .pointer (some ⟨p1, 0, none⟩) := (hF110 13).trans s46
    have s119 : F109 15 = .bool true := (hF110 15).trans s47
    have s120 : F109 16 = .pointer (some ⟨p83, 0, none⟩) := (hF110 16).trans rfl
    clear hF110
    refine then_normal ?_
    refine wq_seq ?_
    refine wq_region ?_
    refine wl_v (.int .u8 (((p : Nat) : Int))) rfl rfl (y_mov rfl s114 ⟨rfl, rfl⟩) ?_
    refine wl_v (.int .i64 (((p : Nat) : Int))) rfl rfl (y_convR rfl rfl Try.underlying5 Try.underlying3 (i64_i rfl (by omega)) ⟨rfl, rfl⟩) ?_
    refine wl_v (.int .i64 (((k : Nat) : Int))) rfl rfl (y_rem rfl rfl rfl (by first | decide | omega) ((rem_nat p 3).trans (by rw [hk])) ⟨rfl, rfl⟩) ?_
    refine wl_v (.int .i64 (((k : Nat) : Int))) rfl rfl (y_asg rfl rfl ⟨rfl, rfl⟩) ?_
    refine wl_nil fun F121 hF122 => ?_
    have s123 : F121 0 = .int .u8 (((w : Nat) : Int)) := (hF122 0).trans s111
    have s124 : F121 1 = .int .u8 (((h : Nat) : Int)) := (hF122 1).trans s112
    have s125 : F121 2 = v := (hF122 2).trans s113
    have s126 : F121 4 = .int .u8 (((x : Nat) : Int)) := (hF122 4).trans s115
    have s127 : F121 5 = .int .u8 (((y : Nat) : Int)) := (hF122 5).trans s116
    have s128 : F121 138 = undef := (hF122 138).trans s117
    have s129 : F121 13 = .pointer (some ⟨p1, 0, none⟩) := (hF122 13).trans s118
    have s130 : F121 15 = .bool true := (hF122 15).trans s119
    have s131 : F121 16 = .pointer (some ⟨p83, 0, none⟩) := (hF122 16).trans s120
    have s132 : F121 17 = .int .i64 (((k : Nat) : Int)) := (hF122 17).trans rfl
    clear hF122
    refine then_normal ?_
    refine wq_seq ?_
    refine wq_region ?_
    refine wl_v (.agg #[.int .i64 ((mkF (w) (h) (l)).W), .int .i64 ((mkF (w) (h) (l)).H), v54, v55, v56]) rfl rfl (y_load_stc stcT_frame rfl s131 B101 ⟨rfl, rfl⟩) ?_
    refine wl_v (.int .i64 (((k : Nat) : Int))) rfl rfl (y_mov rfl s132 ⟨rfl, rfl⟩) ?_
    refine wl_call (R := fun v_ w_ => v_ = .tuple #[.int .i64 ((sizeF (mkF (w) (h) (l)) (((k : Nat) : Int))).1), .int .i64 ((sizeF (mkF (w) (h) (l)) (((k : Nat) : Int))).2)] ∧ Kept (fun _ => False) w100 w_) rfl rfl (y_cs rfl rfl rfl (fun _ _ => by kernel_rfl) (ev_func _) (vsC rfl (vsC rfl vsN)) (pl_size (((k : Nat) : Int)) (mkF (w) (h) (l)) (v54) (v55) (v56) (T59) (T60) (T61) _  (B105).byt (B106).byt (B107).byt ) (fun e_ w_ h_ => ⟨_, h_.1, rfl, h_.2⟩)) ?_
    rintro _ w133 ⟨rfl, k134⟩
    have B135 := B103.all k134 Apart.none
    have B136 := B104.all k134 id
    have B137 := B105.all k134 Apart.none
    have B138 := B106.all k134 Apart.none
    have B139 := B107.all k134 Apart.none
    have B140 := B101.all k134 id
    have K141 := K108.trans k134 (fun _ _ x => x.elim)
    refine wl_v (.tuple #[.int .i64 ((sizeF (mkF (w) (h) (l)) (((k : Nat) : Int))).1), .int .i64 ((sizeF (mkF (w) (h) (l)) (((k : Nat) : Int))).2)]) rfl rfl (y_mov rfl rfl ⟨rfl, rfl⟩) ?_
    refine wl_v (.int .i64 ((sizeF (mkF (w) (h) (l)) (((k : Nat) : Int))).1)) rfl rfl (y_ext rfl rfl rfl ⟨rfl, rfl⟩) ?_
    refine wl_v (.int .i64 ((sizeF (mkF (w) (h) (l)) (((k : Nat) : Int))).2)) rfl rfl (y_ext rfl rfl rfl ⟨rfl, rfl⟩) ?_
    refine wl_v (.int .i64 ((sizeF (mkF (w) (h) (l)) (((k : Nat) : Int))).1)) rfl rfl (y_asg rfl rfl ⟨rfl, rfl⟩) ?_
    refine wl_v (.int .i64 ((sizeF (mkF (w) (h) (l)) (((k : Nat) : Int))).2)) rfl rfl (y_asg rfl rfl ⟨rfl, rfl⟩) ?_
    refine wl_nil fun F142 hF143 => ?_
    have s144 : F142 0 = .int .u8 (((w : Nat) : Int)) := (hF143 0).trans s123
    have s145 : F142 1 = .int .u8 (((h : Nat) : Int)) := (hF143 1).trans s124
    have s146 : F142 2 = v := (hF143 2).trans s125
    have s147 : F142 4 = .int .u8 (((x : Nat) : Int)) := (hF143 4).trans s126
    have s148 : F142 5 = .int .u8 (((y : Nat) : Int)) := (hF143 5).trans s127
    have s149 : F142 138 = undef := (hF143 138).trans s128
    have s150 : F142 13 = .pointer (some ⟨p1, 0, none⟩) := (hF143 13).trans s129
    have s151 : F142 15 = .bool true := (hF143 15).trans s130
    have s152 : F142 16 = .pointer (some ⟨p83, 0, none⟩) := (hF143 16).trans s131
    have s153 : F142 17 = .int .i64 (((k : Nat) : Int)) := (hF143 17).trans s132
    have s154 : F142 18 = .int .i64 ((sizeF (mkF (w) (h) (l)) (((k : Nat) : Int))).1) := (hF143 18).trans rfl
    have s155 : F142 19 = .int .i64 ((sizeF (mkF (w) (h) (l)) (((k : Nat) : Int))).2) := (hF143 19).trans rfl
    clear hF143
    refine then_normal ?_
    refine wq_seq ?_
    refine wq_seq ?_
    refine wq_region ?_
    refine wl_v (.int .i64 ((sizeF (mkF (w) (h) (l)) (((k : Nat) : Int))).1)) rfl rfl (y_mov rfl s154 ⟨rfl, rfl⟩) ?_
    refine wl_v (.bool false) rfl rfl (y_lss rfl rfl rfl (decide_eq_false (by omega)) ⟨rfl, rfl⟩) ?_
    refine wl_v (.bool false) rfl rfl (y_mov rfl rfl ⟨rfl, rfl⟩) ?_
    refine wl_vw (.int .i64 ((sizeF (mkF (w) (h) (l)) (((k : Nat) : Int))).2)) 2 false 47 rfl rfl rfl rfl rfl (y_mov rfl s155 ⟨rfl, rfl⟩) ?_
    refine wl_vw (.bool false) 2 false 47 rfl rfl rfl rfl rfl (y_lss rfl rfl rfl (decide_eq_false (by omega)) ⟨rfl, rfl⟩) ?_
    refine wl_v (.bool false) rfl rfl (y_pickF rfl rfl rfl ⟨rfl, rfl⟩) ?_
    refine wl_nil fun F156 hF157 => ?_
    have s158 : F156 0 = .int .u8 (((w : Nat) : Int)) := (hF157 0).trans s144
    have s159 : F156 1 = .int .u8 (((h : Nat) : Int)) := (hF157 1).trans s145
    have s160 : F156 2 = v := (hF157 2).trans s146
    have s161 : F156 4 = .int .u8 (((x : Nat) : Int)) := (hF157 4).trans s147
    have s162 : F156 5 = .int .u8 (((y : Nat) : Int)) := (hF157 5).trans s148
    have s163 : F156 138 = undef := (hF157 138).trans s149
    have s164 : F156 13 = .pointer (some ⟨p1, 0, none⟩) := (hF157 13).trans s150
    have s165 : F156 15 = .bool true := (hF157 15).trans s151
    have s166 : F156 16 = .pointer (some ⟨p83, 0, none⟩) := (hF157 16).trans s152
    have s167 : F156 17 = .int .i64 (((k : Nat) : Int)) := (hF157 17).trans s153
    have s168 : F156 18 = .int .i64 ((sizeF (mkF (w) (h) (l)) (((k : Nat) : Int))).1) := (hF157 18).trans s154
    have s169 : F156 19 = .int .i64 ((sizeF (mkF (w) (h) (l)) (((k : Nat) : Int))).2) := (hF157 19).trans s155
    have s170 : F156 50 = .bool false := (hF157 50).trans rfl
    clear hF157
    refine then_normal ?_
    refine wq_cond (t := false) s170 (fun e => by cases e) (fun _ => ?_)
    refine wq_skip ?_
    refine then_normal ?_
    refine wq_seq ?_
    refine wq_region ?_
    refine wl_v (.int .u8 (((x : Nat) : Int))) rfl rfl (y_mov rfl s161 ⟨rfl, rfl⟩) ?_
    refine wl_v (.int .i64 (((x : Nat) : Int))) rfl rfl (y_convR rfl rfl Try.underlying5 Try.underlying3 (i64_i rfl (by omega)) ⟨rfl, rfl⟩) ?_
    refine wl_v (.int .i64 ((sizeF (mkF (w) (h) (l)) (((k : Nat) : Int))).1)) rfl rfl (y_mov rfl s168 ⟨rfl, rfl⟩) ?_
    refine wl_v (.int .i64 (((sizeF (mkF (w) (h) (l)) (((k : Nat) : Int))).1) - (3))) rfl rfl (y_sub rfl rfl rfl (i64_i rfl (by omega)) ⟨rfl, rfl⟩) ?_
    refine wl_v (.int .i64 (A)) rfl rfl (y_rem rfl rfl rfl (by first | decide | omega) (hA.symm) ⟨rfl, rfl⟩) ?_
    refine wl_v (.int .i64 (A)) rfl rfl (y_asg rfl rfl ⟨rfl, rfl⟩) ?_
    refine wl_nil fun F171 hF172 => ?_
    have s173 : F171 0 = .int .u8 (((w : Nat) : Int)) := (hF172 0).trans s158
    have s174 : F171 1 = .int .u8 (((h : Nat) : Int)) := (hF172 1).trans s159
    have s175 : F171 2 = v := (hF172 2).trans s160
    have s176 : F171 5 = .int .u8 (((y : Nat) : Int)) := (hF172 5).trans s162
    have s177 : F171 138 = undef := (hF172 138).trans s163
    have s178 : F171 13 = .pointer (some ⟨p1, 0, none⟩) := (hF172 13).trans s164
    have s179 : F171 15 = .bool true := (hF172 15).trans s165
    have s180 : F171 16 = .pointer (some ⟨p83, 0, none⟩) := (hF172 16).trans s166
    have s181 : F171 17 = .int .i64 (((k : Nat) : Int)) := (hF172 17).trans s167
    have s182 : F171 19 = .int .i64 ((sizeF (mkF (w) (h) (l)) (((k : Nat) : Int))).2) := (hF172 19).trans s169
    have s183 : F171 20 = .int .i64 (A) := (hF172 20).trans rfl
    clear hF172
    refine then_normal ?_
    refine wq_seq ?_
    refine wq_region ?_
    refine wl_v (.int .u8 (((y : Nat) : Int))) rfl rfl (y_mov rfl s176 ⟨rfl, rfl⟩) ?_
    refine wl_v (.int .i64 (((y : Nat) : Int))) rfl rfl (y_convR rfl rfl Try.underlying5 Try.underlying3 (i64_i rfl (by omega)) ⟨rfl, rfl⟩) ?_
    refine wl_v (.int .i64 ((sizeF (mkF (w) (h) (l)) (((k : Nat) : Int))).2)) rfl rfl (y_mov rfl s182 ⟨rfl, rfl⟩) ?_
    refine wl_v (.int .i64 (((sizeF (mkF (w) (h) (l)) (((k : Nat) : Int))).2) - (3))) rfl rfl (y_sub rfl rfl rfl (i64_i rfl (by omega)) ⟨rfl, rfl⟩) ?_
    refine wl_v (.int .i64 (R)) rfl rfl (y_rem rfl rfl rfl (by first | decide | omega) (hR.symm) ⟨rfl, rfl⟩) ?_
    refine wl_v (.int .i64 (R)) rfl rfl (y_asg rfl rfl ⟨rfl, rfl⟩) ?_
    refine wl_nil fun F184 hF185 => ?_
    have s186 : F184 0 = .int .u8 (((w : Nat) : Int)) := (hF185 0).trans s173
    have s187 : F184 1 = .int .u8 (((h : Nat) : Int)) := (hF185 1).trans s174
    have s188 : F184 2 = v := (hF185 2).trans s175
    have s189 : F184 138 = undef := (hF185 138).trans s177
    have s190 : F184 13 = .pointer (some ⟨p1, 0, none⟩) := (hF185 13).trans s178
    have s191 : F184 15 = .bool true := (hF185 15).trans s179
    have s192 : F184 16 = .pointer (some ⟨p83, 0, none⟩) := (hF185 16).trans s180
    have s193 : F184 17 = .int .i64 (((k : Nat) : Int)) := (hF185 17).trans s181
    have s194 : F184 20 = .int .i64 (A) := (hF185 20).trans s183
    have s195 : F184 21 = .int .i64 (R) := (hF185 21).trans rfl
    clear hF185
    refine then_normal ?_
    refine wq_seq ?_
    refine wq_seq ?_
    refine wq_region ?_
    refine wl_v (.int .i64 (0)) rfl rfl (y_asg rfl rfl ⟨rfl, rfl⟩) ?_
    refine wl_nil fun F196 hF197 => ?_
    have s198 : F196 0 = .int .u8 (((w : Nat) : Int)) := (hF197 0).trans s186
    have s199 : F196 1 = .int .u8 (((h : Nat) : Int)) := (hF197 1).trans s187
    have s200 : F196 2 = v := (hF197 2).trans s188
    have s201 : F196 138 = undef := (hF197 138).trans s189
    have s202 : F196 13 = .pointer (some ⟨p1, 0, none⟩) := (hF197 13).trans s190
    have s203 : F196 15 = .bool true := (hF197 15).trans s191
    have s204 : F196 16 = .pointer (some ⟨p83, 0, none⟩) := (hF197 16).trans s192
    have s205 : F196 17 = .int .i64 (((k : Nat) : Int)) := (hF197 17).trans s193
    have s206 : F196 20 = .int .i64 (A) := (hF197 20).trans s194
    have s207 : F196 21 = .int .i64 (R) := (hF197 21).trans s195
    have s208 : F196 22 = .int .i64 (0) := (hF197 22).trans rfl
    clear hF197
    refine then_normal ?_
    refine wq_block ?_
    refine wq_loop (fun nn FF ww => ∃ (i : Nat), (i ≤ 16) ∧ nn = 16 - i ∧ FF 0 = .int .u8 (((w : Nat) : Int)) ∧ FF 1 = .int .u8 (((h : Nat) : Int)) ∧ FF 2 = v ∧ FF 13 = .pointer (some ⟨p1, 0, none⟩) ∧ FF 15 = .bool true ∧ FF 16 = .pointer (some ⟨p83, 0, none⟩) ∧ FF 17 = .int .i64 (((k : Nat) : Int)) ∧ FF 20 = .int .i64 (A) ∧ FF 21 = .int .i64 (R) ∧ FF 138 = undef ∧ FF 22 = .int .i64 (((i : Nat) : Int)) ∧ Kept (fun _ => False) w0 ww ∧ Byt ww (T_s) v (l) ∧ Blk ww p1 26 (upto i b (cb b)) ∧ Owb ww (T59) v54 ((mkF (w) (h) (l)).p0) ∧ Owb ww (T60) v55 ((mkF (w) (h) (l)).p1) ∧ Owb ww (T61) v56 ((mkF (w) (h) (l)).p2) ∧ Stc ww p83 25 [.int .i64 ((mkF (w) (h) (l)).W), .int .i64 ((mkF (w) (h) (l)).H), v54, v55, v56]) (16 - (0)) ⟨0, by omega, rfl, s198, s199, s200, s202, s203, s204, s205, s206, s207, s201, s208, K141, B135, B136.first, B137, B138, B139, B140⟩ ?_
    rintro n212 F209 w210 ⟨i, i213, hn212, s214, s215, s216, s217, s218, s219, s220, s221, s222, s223, s224, K211, B225, B226, B227, B228, B229, B230⟩
    refine wq_seq ?_
    refine wq_seq ?_
    refine wq_region ?_
    refine wl_v (.int .i64 (((i : Nat) : Int))) rfl rfl (y_mov rfl s224 ⟨rfl, rfl⟩) ?_
    refine wl_v (.bool (decide ((((i : Nat) : Int)) < (16)))) rfl rfl (y_lss rfl rfl rfl rfl ⟨rfl, rfl⟩) ?_
    refine wl_nil fun F231 hF232 => ?_
    have s233 : F231 0 = .int .u8 (((w : Nat) : Int)) := (hF232 0).trans s214
    have s234 : F231 1 = .int .u8 (((h : Nat) : Int)) := (hF232 1).trans s215
    have s235 : F231 2 = v := (hF232 2).trans s216
    have s236 : F231 13 = .pointer (some ⟨p1, 0, none⟩) := (hF232 13).trans s217
    have s237 : F231 15 = .bool true := (hF232 15).trans s218
    have s238 : F231 16 = .pointer (some ⟨p83, 0, none⟩) := (hF232 16).trans s219
    have s239 : F231 17 = .int .i64 (((k : Nat) : Int)) := (hF232 17).trans s220
    have s240 : F231 20 = .int .i64 (A) := (hF232 20).trans s221
    have s241 : F231 21 = .int .i64 (R) := (hF232 21).trans s222
    have s242 : F231 138 = undef := (hF232 138).trans s223
    have s243 : F231 22 = .int .i64 (((i : Nat) : Int)) := (hF232 22).trans s224
    have s244 : F231 62 = .bool (decide ((((i : Nat) : Int)) < (16))) := (hF232 62).trans rfl
    clear hF232
    refine then_normal ?_
    refine wq_cond s244 (fun c245 => ?_) (fun c245 => ?_)
    · replace c245 := of_decide_eq_true c245
      refine wq_skip ?_
      refine then_normal ?_
      refine wq_seq ?_
      refine wq_block ?_
      refine wq_region ?_
      refine wl_v (.int .i64 (((i : Nat) : Int))) rfl rfl (y_mov rfl s243 ⟨rfl, rfl⟩) ?_
      refine wl_v (.int .i64 (((i : Nat) : Int))) rfl rfl (y_mov rfl s243 ⟨rfl, rfl⟩) ?_
      refine wl_v (.pointer (some ⟨p1, i, none⟩)) rfl rfl (y_atR (i) (s := 1) rfl s236 rfl (by omega) Try.underlying26 (by omega) (by kernel_rfl) (by omega) ⟨rfl, rfl⟩) ?_
      refine wl_v (.int .i64 (b i)) rfl rfl (y_ldR rfl rfl Try.underlying3 (((B226).cell (by omega)).trans (some_int (upto_at i _ _))) ⟨rfl, rfl⟩) ?_
      refine wl_v (.int .i64 (max (b i) (0))) rfl rfl (y_maxR rfl rfl rfl rfl ⟨rfl, rfl⟩) ?_
      refine wl_v (.int .i64 (cb b i)) rfl rfl (y_minR rfl rfl rfl (rfl) ⟨rfl, rfl⟩) ?_
      refine wl_v (.pointer (some ⟨p1, i, none⟩)) rfl rfl (y_atR (i) (s := 1) rfl s236 rfl (by omega) Try.underlying26 (by omega) (by kernel_rfl) (by omega) ⟨rfl, rfl⟩) ?_
      refine wl_set_blk rfl rfl rfl rfl rfl B226 (by omega) (by kernel_rfl) fun w246 B247 k248 => ?_
      have B249 := B225.all k248 (fun i h x => (((ap8).symm) i h x))
      have B250 := B227.all k248 (fun i h x => ((ap76) i h x))
      have B251 := B228.all k248 (fun i h x => ((ap79) i h x))
      have B252 := B229.all k248 (fun i h x => ((ap82) i h x))
      have B253 := B230.all k248 (fun x => ((ap90) p83 rfl x))
      have K254 := K211.trans k248 (Grew.ok (S := fun _ => False) gr7 noB_le)
      refine wl_nil fun F255 hF256 => ?_
      have s257 : F255 0 = .int .u8 (((w : Nat) : Int)) := (hF256 0).trans s233
      have s258 : F255 1 = .int .u8 (((h : Nat) : Int)) := (hF256 1).trans s234
      have s259 : F255 2 = v := (hF256 2).trans s235
      have s260 : F255 13 = .pointer (some ⟨p1, 0, none⟩) := (hF256 13).trans s236
      have s261 : F255 15 = .bool true := (hF256 15).trans s237
      have s262 : F255 16 = .pointer (some ⟨p83, 0, none⟩) := (hF256 16).trans s238
      have s263 : F255 17 = .int .i64 (((k : Nat) : Int)) := (hF256 17).trans s239
      have s264 : F255 20 = .int .i64 (A) := (hF256 20).trans s240
      have s265 : F255 21 = .int .i64 (R) := (hF256 21).trans s241
      have s266 : F255 138 = undef := (hF256 138).trans s242
      have s267 : F255 22 = .int .i64 (((i : Nat) : Int)) := (hF256 22).trans s243
      clear hF256
      refine in_normal ?_
      refine then_normal ?_
      refine wq_region ?_
      refine wl_v (.int .i64 (((i : Nat) : Int))) rfl rfl (y_mov rfl s267 ⟨rfl, rfl⟩) ?_
      refine wl_v (.int .i64 (((i + 1 : Nat) : Int))) rfl rfl (y_add rfl rfl rfl (i64_n (by omega) (by omega)) ⟨rfl, rfl⟩) ?_
      refine wl_v (.int .i64 (((i + 1 : Nat) : Int))) rfl rfl (y_asg rfl rfl ⟨rfl, rfl⟩) ?_
      refine wl_nil fun F268 hF269 => ?_
      have s270 : F268 0 = .int .u8 (((w : Nat) : Int)) := (hF269 0).trans s257
      have s271 : F268 1 = .int .u8 (((h : Nat) : Int)) := (hF269 1).trans s258
      have s272 : F268 2 = v := (hF269 2).trans s259
      have s273 : F268 13 = .pointer (some ⟨p1, 0, none⟩) := (hF269 13).trans s260
      have s274 : F268 15 = .bool true := (hF269 15).trans s261
      have s275 : F268 16 = .pointer (some ⟨p83, 0, none⟩) := (hF269 16).trans s262
      have s276 : F268 17 = .int .i64 (((k : Nat) : Int)) := (hF269 17).trans s263
      have s277 : F268 20 = .int .i64 (A) := (hF269 20).trans s264
      have s278 : F268 21 = .int .i64 (R) := (hF269 21).trans s265
      have s279 : F268 138 = undef := (hF269 138).trans s266
      have s280 : F268 22 = .int .i64 (((i + 1 : Nat) : Int)) := (hF269 22).trans rfl
      clear hF269
      exact then_normal ⟨(16 - (i + 1)), by omega, i + 1, by omega, rfl, s270, s271, s272, s273, s274, s275, s276, s277, s278, s279, s280, K254, B249, (B247.next rfl), B250, B251, B252, B253⟩
    · replace c245 := of_decide_eq_false c245
      refine wq_exit ?_
      refine then_exit ?_
      refine then_exit ?_
      have l281 : 16 = i := by omega
      subst l281
      have B282 : Blk w210 p1 26 (cb b) := (B226.last)
      refine in_here ?_
      refine then_normal ?_
      refine wq_seq ?_
      refine wq_region ?_
      refine wl_v (.agg #[.int .i64 ((mkF (w) (h) (l)).W), .int .i64 ((mkF (w) (h) (l)).H), v54, v55, v56]) rfl rfl (y_load_stc stcT_frame rfl s238 B230 ⟨rfl, rfl⟩) ?_
      refine wl_v (.int .i64 (((k : Nat) : Int))) rfl rfl (y_mov rfl s239 ⟨rfl, rfl⟩) ?_
      refine wl_v (.int .i64 (A)) rfl rfl (y_mov rfl s240 ⟨rfl, rfl⟩) ?_
      refine wl_v (.int .i64 (R)) rfl rfl (y_mov rfl s241 ⟨rfl, rfl⟩) ?_
      refine wl_v (blkV (cb b)) rfl rfl (y_load_blk blkT_arr rfl s236 B282 ⟨rfl, rfl⟩) ?_
      refine wl_call (R := fun v_ w_ => ∃ (v283 : Value) (T288 : Nat → Prop) (v284 : Value) (T289 : Nat → Prop) (v285 : Value) (T290 : Nat → Prop), .agg #[.int .i64 ((putFr (mkF (w) (h) (l)) (((k : Nat) : Int)) (A) (R) (cb b)).W), .int .i64 ((putFr (mkF (w) (h) (l)) (((k : Nat) : Int)) (A) (R) (cb b)).H), v283, v284, v285] = v_ ∧ Kept (fun _ => False) w210 w_ ∧ (Owb w_ T288 v283 ((putFr (mkF (w) (h) (l)) (((k : Nat) : Int)) (A) (R) (cb b)).p0) ∧ Grew w210 noB T288) ∧ (Owb w_ T289 v284 ((putFr (mkF (w) (h) (l)) (((k : Nat) : Int)) (A) (R) (cb b)).p1) ∧ Grew w210 noB T289) ∧ (Owb w_ T290 v285 ((putFr (mkF (w) (h) (l)) (((k : Nat) : Int)) (A) (R) (cb b)).p2) ∧ Grew w210 noB T290) ∧ Apart T288 T289 ∧ Apart T288 T290 ∧ Apart T289 T290) rfl rfl (y_cs rfl rfl rfl (fun _ _ => by kernel_rfl) (ev_func _) (vsC rfl (vsC rfl (vsC rfl (vsC rfl (vsC rfl vsN))))) (pl_put (((k : Nat) : Int)) (A) (R) (cb b) (mkF (w) (h) (l)) (v54) (v55) (v56) (T59) (T60) (T61) _  (B227).byt (B228).byt (B229).byt ) (fun e_ w_ h_ => by obtain ⟨v283_, T288_, v284_, T289_, v285_, T290_, he_, hr_⟩ := h_; exact ⟨_, he_, v283_, T288_, v284_, T289_, v285_, T290_, rfl, hr_⟩)) ?_
      rintro _ w286 ⟨v283, T288, v284, T289, v285, T290, rfl, k287, ⟨B291, g294⟩, ⟨B292, g295⟩, ⟨B293, g296⟩, ap297, ap298, ap299⟩
      have B300 := B225.all k287 Apart.none
      have B301 := B282.all k287 id
      have B302 := B227.all k287 Apart.none
      have B303 := B228.all k287 Apart.none
      have B304 := B229.all k287 Apart.none
      have B305 := B230.all k287 id
      have K306 := K211.trans k287 (fun _ _ x => x.elim)
      have gr307 : Grew w0 noB (T288) := Grew.new K211 g294
      have ap308 : Apart (T288) (T_s) := Apart.new g294 (B225).live
      have ap309 : Apart (T288) (onB p1) := Apart.new g294 (onB_live (B282).lt)
      have ap310 : Apart (T288) (T59) := Apart.new g294 (B227).live
      have ap311 : Apart (T288) (T60) := Apart.new g294 (B228).live
      have ap312 : Apart (T288) (T61) := Apart.new g294 (B229).live
      have ap313 : Apart (T288) (onB p83) := Apart.new g294 (onB_live (B230).lt)
      have gr314 : Grew w0 noB (T289) := Grew.new K211 g295
      have ap315 : Apart (T289) (T_s) := Apart.new g295 (B225).live
      have ap316 : Apart (T289) (onB p1) := Apart.new g295 (onB_live (B282).lt)
      have ap317 : Apart (T289) (T59) := Apart.new g295 (B227).live
      have ap318 : Apart (T289) (T60) := Apart.new g295 (B228).live
      have ap319 : Apart (T289) (T61) := Apart.new g295 (B229).live
      have ap320 : Apart (T289) (onB p83) := Apart.new g295 (onB_live (B230).lt)
      have gr321 : Grew w0 noB (T290) := Grew.new K211 g296
      have ap322 : Apart (T290) (T_s) := Apart.new g296 (B225).live
      have ap323 : Apart (T290) (onB p1) := Apart.new g296 (onB_live (B282).lt)
      have ap324 : Apart (T290) (T59) := Apart.new g296 (B227).live
      have ap325 : Apart (T290) (T60) := Apart.new g296 (B228).live
      have ap326 : Apart (T290) (T61) := Apart.new g296 (B229).live
      have ap327 : Apart (T290) (onB p83) := Apart.new g296 (onB_live (B230).lt)
      refine wl_alloc_stc (n := 5) (vs := [.int .i64 (0), .int .i64 (0), .slice none 0 0, .slice none 0 0, .slice none 0 0]) rfl rfl rfl (by kernel_rfl) fun p328 w329 B331 g332 k330 => ?_
      have gr333 : Grew w0 noB (onB p328) := Grew.new K306 g332
      have ap334 : Apart (onB p328) (T_s) := Apart.new g332 (B300).live
      have ap335 : Apart (onB p328) (onB p1) := Apart.new g332 (onB_live (B301).lt)
      have ap336 : Apart (onB p328) (T59) := Apart.new g332 (B302).live
      have ap337 : Apart (onB p328) (T60) := Apart.new g332 (B303).live
      have ap338 : Apart (onB p328) (T61) := Apart.new g332 (B304).live
      have ap339 : Apart (onB p328) (onB p83) := Apart.new g332 (onB_live (B305).lt)
      have ap340 : Apart (onB p328) (T288) := Apart.new g332 (B291).live
      have ap341 : Apart (onB p328) (T289) := Apart.new g332 (B292).live
      have ap342 : Apart (onB p328) (T290) := Apart.new g332 (B293).live
      have B343 := B300.all k330 Apart.none
      have B344 := B301.all k330 id
      have B345 := B302.all k330 Apart.none
      have B346 := B303.all k330 Apart.none
      have B347 := B304.all k330 Apart.none
      have B348 := B305.all k330 id
      have B349 := B291.all k330 Apart.none
      have B350 := B292.all k330 Apart.none
      have B351 := B293.all k330 Apart.none
      have K352 := K306.trans k330 (fun _ _ x => x.elim)
      refine wl_store_stc (us := [.int .i64 ((putFr (mkF (w) (h) (l)) (((k : Nat) : Int)) (A) (R) (cb b)).W), .int .i64 ((putFr (mkF (w) (h) (l)) (((k : Nat) : Int)) (A) (R) (cb b)).H), v283, v284, v285]) stcT_frame rfl rfl rfl rfl rfl B331 rfl (oneI rfl (oneI rfl (oneI (B349).one (oneI (B350).one (oneI (B351).one oneN))))) fun w353 B354 k355 => ?_
      have B356 := B343.all k355 (fun i h x => (((ap334).symm) i h x))
      have B357 := B344.all k355 (fun x => (((ap335).symm) p1 rfl x))
      have B358 := B345.all k355 (fun i h x => (((ap336).symm) i h x))
      have B359 := B346.all k355 (fun i h x => (((ap337).symm) i h x))
      have B360 := B347.all k355 (fun i h x => (((ap338).symm) i h x))
      have B361 := B348.all k355 (fun x => (((ap339).symm) p83 rfl x))
      have B362 := B349.all k355 (fun i h x => (((ap340).symm) i h x))
      have B363 := B350.all k355 (fun i h x => (((ap341).symm) i h x))
      have B364 := B351.all k355 (fun i h x => (((ap342).symm) i h x))
      have K365 := K352.trans k355 (Grew.ok (S := fun _ => False) gr333 noB_le)
      refine wl_nil fun F366 hF367 => ?_
      have s368 : F366 0 = .int .u8 (((w : Nat) : Int)) := (hF367 0).trans s233
      have s369 : F366 1 = .int .u8 (((h : Nat) : Int)) := (hF367 1).trans s234
      have s370 : F366 2 = v := (hF367 2).trans s235
      have s371 : F366 13 = .pointer (some ⟨p1, 0, none⟩) := (hF367 13).trans s236
      have s372 : F366 15 = .bool true := (hF367 15).trans s237
      have s373 : F366 16 = .pointer (some ⟨p83, 0, none⟩) := (hF367 16).trans s238
      have s374 : F366 17 = .int .i64 (((k : Nat) : Int)) := (hF367 17).trans s239
      have s375 : F366 20 = .int .i64 (A) := (hF367 20).trans s240
      have s376 : F366 21 = .int .i64 (R) := (hF367 21).trans s241
      have s377 : F366 138 = undef := (hF367 138).trans s242
      have s378 : F366 23 = .pointer (some ⟨p328, 0, none⟩) := (hF367 23).trans rfl
      clear hF367
      refine then_normal ?_
      refine wq_seq ?_
      refine wq_seq ?_
      refine wq_said [some 78, some 79, some 80, some 81, some 82, some 83, some 84, some 85, some 86, some 87, some 88, some 89] [Pd.eq (.agg #[.int .i64 ((putFr (mkF (w) (h) (l)) (((k : Nat) : Int)) (A) (R) (cb b)).W), .int .i64 ((putFr (mkF (w) (h) (l)) (((k : Nat) : Int)) (A) (R) (cb b)).H), v283, v284, v285]), Pd.eq (.int .i64 (((k : Nat) : Int))), Pd.eq (.int .i64 (A)), Pd.eq (.int .i64 (R)), Pd.eq (blkV (getF (putFr (mkF (w) (h) (l)) (((k : Nat) : Int)) (A) (R) (cb b)) (((k : Nat) : Int)) (A) (R))), Pd.eq (blkV (cb b)), Pd.eq (.bool false), Pd.eq (.bool false), Pd.eq (.agg #[.int .i64 ((putFr (mkF (w) (h) (l)) (((k : Nat) : Int)) (A) (R) (cb b)).W), .int .i64 ((putFr (mkF (w) (h) (l)) (((k : Nat) : Int)) (A) (R) (cb b)).H), v283, v284, v285]), Pd.eq (.int .i64 (checkE (putFr (mkF (w) (h) (l)) (((k : Nat) : Int)) (A) (R) (cb b)))), Pd.eq (.bool false), Pd.eq (.bool false)] (by kernel_rfl) (by kernel_rfl) ?_ ?_
      · refine stepsF_cons ?_ ?_
        · refine StepF.one rfl fun F_ w_ hR hout hD => ?_
          exact (y_load_stc stcT_frame rfl ((hout 23 rfl (by decide)).trans s378) (B354.all hR id) ⟨rfl, Kept.refl _ _⟩)
        refine stepsF_cons ?_ ?_
        · refine StepF.one rfl fun F_ w_ hR hout hD => ?_
          exact (y_mov rfl ((hout 17 rfl (by decide)).trans s374) ⟨rfl, Kept.refl _ _⟩)
        refine stepsF_cons ?_ ?_
        · refine StepF.one rfl fun F_ w_ hR hout hD => ?_
          exact (y_mov rfl ((hout 20 rfl (by decide)).trans s375) ⟨rfl, Kept.refl _ _⟩)
        refine stepsF_cons ?_ ?_
        · refine StepF.one rfl fun F_ w_ hR hout hD => ?_
          exact (y_mov rfl ((hout 21 rfl (by decide)).trans s376) ⟨rfl, Kept.refl _ _⟩)
        refine stepsF_cons ?_ ?_
        · refine StepF.one rfl fun F_ w_ hR hout hD => ?_
          have g78 : F_ 78 = .agg #[.int .i64 ((putFr (mkF (w) (h) (l)) (((k : Nat) : Int)) (A) (R) (cb b)).W), .int .i64 ((putFr (mkF (w) (h) (l)) (((k : Nat) : Int)) (A) (R) (cb b)).H), v283, v284, v285] := hD.get 0 rfl rfl rfl
          have g79 : F_ 79 = .int .i64 (((k : Nat) : Int)) := hD.get 1 rfl rfl rfl
          have g80 : F_ 80 = .int .i64 (A) := hD.get 2 rfl rfl rfl
          have g81 : F_ 81 = .int .i64 (R) := hD.get 3 rfl rfl rfl
          exact (y_cs rfl rfl rfl (fun _ _ => by kernel_rfl) (ev_func _) (vsC g78 (vsC g79 (vsC g80 (vsC g81 vsN)))) (pl_get (((k : Nat) : Int)) (A) (R) (putFr (mkF (w) (h) (l)) (((k : Nat) : Int)) (A) (R) (cb b)) (v283) (v284) (v285) (T288) (T289) (T290) _  ((B362.all hR Apart.none)).byt ((B363.all hR Apart.none)).byt ((B364.all hR Apart.none)).byt ) (fun e_ w_ h_ => ⟨_, h_.1, rfl, h_.2⟩))
        refine stepsF_cons ?_ ?_
        · refine StepF.one rfl fun F_ w_ hR hout hD => ?_
          exact (y_load_blk blkT_arr rfl ((hout 13 rfl (by decide)).trans s371) (B357.all hR id) ⟨rfl, Kept.refl _ _⟩)
        refine stepsF_cons ?_ ?_
        · refine StepF.one rfl fun F_ w_ hR hout hD => ?_
          have g82 : F_ 82 = blkV (getF (putFr (mkF (w) (h) (l)) (((k : Nat) : Int)) (A) (R) (cb b)) (((k : Nat) : Int)) (A) (R)) := hD.get 0 rfl rfl rfl
          have g83 : F_ 83 = blkV (cb b) := hD.get 1 rfl rfl rfl
          exact (y_diffR rfl g82 g83 ((by have e := hgot.out; rw [show sameB _ _ = true from e]; rfl)) ⟨rfl, Kept.refl _ _⟩)
        refine stepsF_cons ?_ ?_
        · refine StepF.one rfl fun F_ w_ hR hout hD => ?_
          have g84 : F_ 84 = .bool false := hD.get 0 rfl rfl rfl
          exact (y_mov rfl g84 ⟨rfl, Kept.refl _ _⟩)
        refine stepsF_cons ?_ ?_
        · refine StepF.when 7 false 85 rfl rfl fun F_ w_ hR hout hD => ?_
          have g85 : F_ 85 = .bool false := hD.get 0 rfl rfl rfl
          exact ⟨g85, (y_load_stc stcT_frame rfl ((hout 23 rfl (by decide)).trans s378) (B354.all hR id) ⟨rfl, Kept.refl _ _⟩)⟩
        refine stepsF_cons ?_ ?_
        · refine StepF.when 7 false 85 rfl rfl fun F_ w_ hR hout hD => ?_
          have g85 : F_ 85 = .bool false := hD.get 1 rfl rfl rfl
          have g86 : F_ 86 = .agg #[.int .i64 ((putFr (mkF (w) (h) (l)) (((k : Nat) : Int)) (A) (R) (cb b)).W), .int .i64 ((putFr (mkF (w) (h) (l)) (((k : Nat) : Int)) (A) (R) (cb b)).H), v283, v284, v285] := hD.get 0 rfl rfl rfl
          exact ⟨g85, (y_cs rfl rfl rfl (fun _ _ => by kernel_rfl) (ev_func _) (vsC g86 vsN) (pl_check (putFr (mkF (w) (h) (l)) (((k : Nat) : Int)) (A) (R) (cb b)) (v283) (v284) (v285) (T288) (T289) (T290) _  ((B362.all hR Apart.none)).byt ((B363.all hR Apart.none)).byt ((B364.all hR Apart.none)).byt ) (fun e_ w_ h_ => ⟨_, h_.1, rfl, h_.2⟩))⟩
        refine stepsF_cons ?_ ?_
        · refine StepF.when 7 false 85 rfl rfl fun F_ w_ hR hout hD => ?_
          have g85 : F_ 85 = .bool false := hD.get 1 rfl rfl rfl
          have g87 : F_ 87 = .int .i64 (checkE (putFr (mkF (w) (h) (l)) (((k : Nat) : Int)) (A) (R) (cb b))) := hD.get 0 rfl rfl rfl
          exact ⟨g85, (y_neqI rfl g87 rfl (decide_eq_false (fun h => h hgok.out)) ⟨rfl, Kept.refl _ _⟩)⟩
        refine stepsF_cons ?_ ?_
        · refine StepF.one rfl fun F_ w_ hR hout hD => ?_
          have g85 : F_ 85 = .bool false := hD.get 0 rfl rfl rfl
          have g88 : F_ 88 = .bool false := hD.get 1 rfl rfl rfl
          exact (y_pickF rfl g85 g88 ⟨rfl, Kept.refl _ _⟩)
        exact stepsF_nil
      intro v379 F380 w381 k382 G383 hF384
      have B386 := B356.all k382 Apart.none
      have B387 := B357.all k382 id
      have B388 := B358.all k382 Apart.none
      have B389 := B359.all k382 Apart.none
      have B390 := B360.all k382 Apart.none
      have B391 := B361.all k382 id
      have B392 := B362.all k382 Apart.none
      have B393 := B363.all k382 Apart.none
      have B394 := B364.all k382 Apart.none
      have B395 := B354.all k382 id
      have K396 := K365.trans k382 (fun _ _ x => x.elim)
      have s397 : F380 0 = .int .u8 (((w : Nat) : Int)) := (hF384 0).trans s368
      have s398 : F380 1 = .int .u8 (((h : Nat) : Int)) := (hF384 1).trans s369
      have s399 : F380 2 = v := (hF384 2).trans s370
      have s400 : F380 15 = .bool true := (hF384 15).trans s372
      have s401 : F380 16 = .pointer (some ⟨p83, 0, none⟩) := (hF384 16).trans s373
      have s402 : F380 17 = .int .i64 (((k : Nat) : Int)) := (hF384 17).trans s374
      have s403 : F380 20 = .int .i64 (A) := (hF384 20).trans s375
      have s404 : F380 21 = .int .i64 (R) := (hF384 21).trans s376
      have s405 : F380 138 = undef := (hF384 138).trans s377
      have s406 : F380 23 = .pointer (some ⟨p328, 0, none⟩) := (hF384 23).trans s378
      have s407 : F380 89 = .bool false := (hF384 89).trans (G383 11 (by decide))
      clear G383 hF384
      refine then_normal ?_
      refine wq_cond (t := false) s407 (fun e => by cases e) (fun _ => ?_)
      refine wq_skip ?_
      refine then_normal ?_
      refine wq_seq ?_
      refine wq_tail 11 [some 90, some 91, some 92, some 93, some 94, some 95, some 96, some 97, some 98, some 99, some 24] [Pd.eq (.agg #[.int .i64 ((putFr (mkF (w) (h) (l)) (((k : Nat) : Int)) (A) (R) (cb b)).W), .int .i64 ((putFr (mkF (w) (h) (l)) (((k : Nat) : Int)) (A) (R) (cb b)).H), v283, v284, v285]), Pd.eq (.int .i64 (((k : Nat) : Int))), Pd.eq (.int .i64 (A)), Pd.eq (.int .i64 (R)), Pd.eq (.agg #[.int .i64 ((mkF (w) (h) (l)).W), .int .i64 ((mkF (w) (h) (l)).H), v54, v55, v56]), Pd.eq (.int .i64 (((k : Nat) : Int))), Pd.eq (.int .i64 (A)), Pd.eq (.int .i64 (R)), Pd.eq (blkV (getF (mkF (w) (h) (l)) (((k : Nat) : Int)) (A) (R))), Pd.frm (putFr (putFr (mkF (w) (h) (l)) (((k : Nat) : Int)) (A) (R) (cb b)) (((k : Nat) : Int)) (A) (R) (getF (mkF (w) (h) (l)) (((k : Nat) : Int)) (A) (R))), Pd.stc w381.heap.size 25 [.int .i64 (0), .int .i64 (0), .slice none 0 0, .slice none 0 0, .slice none 0 0]] (by kernel_rfl) (by kernel_rfl) (by kernel_rfl) ?_ ?_
      · refine stepsF_cons ?_ ?_
        · refine StepF.one rfl fun F_ w_ hR hout hD => ?_
          exact (y_load_stc stcT_frame rfl ((hout 23 rfl (by decide)).trans s406) (B395.all hR id) ⟨rfl, Kept.refl _ _⟩)
        refine stepsF_cons ?_ ?_
        · refine StepF.one rfl fun F_ w_ hR hout hD => ?_
          exact (y_mov rfl ((hout 17 rfl (by decide)).trans s402) ⟨rfl, Kept.refl _ _⟩)
        refine stepsF_cons ?_ ?_
        · refine StepF.one rfl fun F_ w_ hR hout hD => ?_
          exact (y_mov rfl ((hout 20 rfl (by decide)).trans s403) ⟨rfl, Kept.refl _ _⟩)
        refine stepsF_cons ?_ ?_
        · refine StepF.one rfl fun F_ w_ hR hout hD => ?_
          exact (y_mov rfl ((hout 21 rfl (by decide)).trans s404) ⟨rfl, Kept.refl _ _⟩)
        refine stepsF_cons ?_ ?_
        · refine StepF.one rfl fun F_ w_ hR hout hD => ?_
          exact (y_load_stc stcT_frame rfl ((hout 16 rfl (by decide)).trans s401) (B391.all hR id) ⟨rfl, Kept.refl _ _⟩)
        refine stepsF_cons ?_ ?_
        · refine StepF.one rfl fun F_ w_ hR hout hD => ?_
          exact (y_mov rfl ((hout 17 rfl (by decide)).trans s402) ⟨rfl, Kept.refl _ _⟩)
        refine stepsF_cons ?_ ?_
        · refine StepF.one rfl fun F_ w_ hR hout hD => ?_
          exact (y_mov rfl ((hout 20 rfl (by decide)).trans s403) ⟨rfl, Kept.refl _ _⟩)
        refine stepsF_cons ?_ ?_
        · refine StepF.one rfl fun F_ w_ hR hout hD => ?_
          exact (y_mov rfl ((hout 21 rfl (by decide)).trans s404) ⟨rfl, Kept.refl _ _⟩)
        refine stepsF_cons ?_ ?_
        · refine StepF.one rfl fun F_ w_ hR hout hD => ?_
          have g94 : F_ 94 = .agg #[.int .i64 ((mkF (w) (h) (l)).W), .int .i64 ((mkF (w) (h) (l)).H), v54, v55, v56] := hD.get 0 rfl rfl rfl
          have g95 : F_ 95 = .int .i64 (((k : Nat) : Int)) := hD.get 1 rfl rfl rfl
          have g96 : F_ 96 = .int .i64 (A) := hD.get 2 rfl rfl rfl
          have g97 : F_ 97 = .int .i64 (R) := hD.get 3 rfl rfl rfl
          exact (y_cs rfl rfl rfl (fun _ _ => by kernel_rfl) (ev_func _) (vsC g94 (vsC g95 (vsC g96 (vsC g97 vsN)))) (pl_get (((k : Nat) : Int)) (A) (R) (mkF (w) (h) (l)) (v54) (v55) (v56) (T59) (T60) (T61) _  ((B388.all hR Apart.none)).byt ((B389.all hR Apart.none)).byt ((B390.all hR Apart.none)).byt ) (fun e_ w_ h_ => ⟨_, h_.1, rfl, h_.2⟩))
        refine stepsF_cons ?_ ?_
        · refine StepF.one rfl fun F_ w_ hR hout hD => ?_
          have g90 : F_ 90 = .agg #[.int .i64 ((putFr (mkF (w) (h) (l)) (((k : Nat) : Int)) (A) (R) (cb b)).W), .int .i64 ((putFr (mkF (w) (h) (l)) (((k : Nat) : Int)) (A) (R) (cb b)).H), v283, v284, v285] := hD.get 0 rfl rfl rfl
          have g91 : F_ 91 = .int .i64 (((k : Nat) : Int)) := hD.get 1 rfl rfl rfl
          have g92 : F_ 92 = .int .i64 (A) := hD.get 2 rfl rfl rfl
          have g93 : F_ 93 = .int .i64 (R) := hD.get 3 rfl rfl rfl
          have g98 : F_ 98 = blkV (getF (mkF (w) (h) (l)) (((k : Nat) : Int)) (A) (R)) := hD.get 4 rfl rfl rfl
          exact (y_cs rfl rfl rfl (fun _ _ => by kernel_rfl) (ev_func _) (vsC g90 (vsC g91 (vsC g92 (vsC g93 (vsC g98 vsN))))) (pl_put (((k : Nat) : Int)) (A) (R) (getF (mkF (w) (h) (l)) (((k : Nat) : Int)) (A) (R)) (putFr (mkF (w) (h) (l)) (((k : Nat) : Int)) (A) (R) (cb b)) (v283) (v284) (v285) (T288) (T289) (T290) _  ((B392.all hR Apart.none)).byt ((B393.all hR Apart.none)).byt ((B394.all hR Apart.none)).byt ) (fun e_ w_ h_ => by obtain ⟨a_, Ta_, b_, Tb_, c_, Tc_, he_, k_, ha_, hb_, hc_, _⟩ := h_; exact ⟨_, he_, ⟨a_, b_, c_, Ta_, Tb_, Tc_, rfl, ha_.1, hb_.1, hc_.1⟩, k_⟩))
        refine stepsF_cons ?_ ?_
        · refine StepF.one rfl fun F_ w_ hR hout hD => ?_
          exact y_alloc_stc (n := 5) (vs := [.int .i64 (0), .int .i64 (0), .slice none 0 0, .slice none 0 0, .slice none 0 0]) rfl (by kernel_rfl) ⟨⟨_, rfl, hR.size, heap_alloc_new _ _⟩, (Kept.refl _ _).alloc _⟩
        exact stepsF_nil
      intro v411 F412 w413 k414 G415 hF416
      have B418 := B386.all k414 Apart.none
      have B419 := B387.all k414 id
      have B420 := B388.all k414 Apart.none
      have B421 := B389.all k414 Apart.none
      have B422 := B390.all k414 Apart.none
      have B423 := B391.all k414 id
      have B424 := B392.all k414 Apart.none
      have B425 := B393.all k414 Apart.none
      have B426 := B394.all k414 Apart.none
      have B427 := B395.all k414 id
      have K428 := K396.trans k414 (fun _ _ x => x.elim)
      have s429 : F412 0 = .int .u8 (((w : Nat) : Int)) := (hF416 0).trans s397
      have s430 : F412 1 = .int .u8 (((h : Nat) : Int)) := (hF416 1).trans s398
      have s431 : F412 2 = v := (hF416 2).trans s399
      have s432 : F412 15 = .bool true := (hF416 15).trans s400
      have s433 : F412 16 = .pointer (some ⟨p83, 0, none⟩) := (hF416 16).trans s401
      have s434 : F412 17 = .int .i64 (((k : Nat) : Int)) := (hF416 17).trans s402
      have s435 : F412 138 = undef := (hF416 138).trans s405
      have s436 : F412 23 = .pointer (some ⟨p328, 0, none⟩) := (hF416 23).trans s406
      obtain ⟨v439, v440, v441, T442, T443, T444, e438, B445, B446, B447⟩ : FrmV w413 (v411 9) (putFr (putFr (mkF (w) (h) (l)) (((k : Nat) : Int)) (A) (R) (cb b)) (((k : Nat) : Int)) (A) (R) (getF (mkF (w) (h) (l)) (((k : Nat) : Int)) (A) (R))) := G415 9 (by decide)
      have s437 : F412 99 = .agg #[.int .i64 ((putFr (putFr (mkF (w) (h) (l)) (((k : Nat) : Int)) (A) (R) (cb b)) (((k : Nat) : Int)) (A) (R) (getF (mkF (w) (h) (l)) (((k : Nat) : Int)) (A) (R))).W), .int .i64 ((putFr (putFr (mkF (w) (h) (l)) (((k : Nat) : Int)) (A) (R) (cb b)) (((k : Nat) : Int)) (A) (R) (getF (mkF (w) (h) (l)) (((k : Nat) : Int)) (A) (R))).H), v439, v440, v441] := (hF416 99).trans e438
      obtain ⟨p450, e449, e451, B452⟩ := G415 10 (by decide)
      replace B452 : Stc w413 p450 25 [.int .i64 (0), .int .i64 (0), .slice none 0 0, .slice none 0 0, .slice none 0 0] := B452
      have gr453 : Grew w0 noB (onB p450) := Grew.new K396 (onB_new e451)
      have ap454 : Apart (onB p450) (T_s) := Apart.new (onB_new e451) (B386).live
      have ap455 : Apart (onB p450) (onB p1) := Apart.new (onB_new e451) (onB_live (B387).lt)
      have ap456 : Apart (onB p450) (T59) := Apart.new (onB_new e451) (B388).live
      have ap457 : Apart (onB p450) (T60) := Apart.new (onB_new e451) (B389).live
      have ap458 : Apart (onB p450) (T61) := Apart.new (onB_new e451) (B390).live
      have ap459 : Apart (onB p450) (onB p83) := Apart.new (onB_new e451) (onB_live (B391).lt)
      have ap460 : Apart (onB p450) (T288) := Apart.new (onB_new e451) (B392).live
      have ap461 : Apart (onB p450) (T289) := Apart.new (onB_new e451) (B393).live
      have ap462 : Apart (onB p450) (T290) := Apart.new (onB_new e451) (B394).live
      have ap463 : Apart (onB p450) (onB p328) := Apart.new (onB_new e451) (onB_live (B395).lt)
      have ap464 : Apart (onB p450) (T442) := Stc.apart B452 B445 (by decide)
      have ap465 : Apart (onB p450) (T443) := Stc.apart B452 B446 (by decide)
      have ap466 : Apart (onB p450) (T444) := Stc.apart B452 B447 (by decide)
      have s448 : F412 24 = .pointer (some ⟨p450, 0, none⟩) := (hF416 24).trans e449
      clear G415 hF416
      refine wl_store_stc (us := [.int .i64 ((putFr (putFr (mkF (w) (h) (l)) (((k : Nat) : Int)) (A) (R) (cb b)) (((k : Nat) : Int)) (A) (R) (getF (mkF (w) (h) (l)) (((k : Nat) : Int)) (A) (R))).W), .int .i64 ((putFr (putFr (mkF (w) (h) (l)) (((k : Nat) : Int)) (A) (R) (cb b)) (((k : Nat) : Int)) (A) (R) (getF (mkF (w) (h) (l)) (((k : Nat) : Int)) (A) (R))).H), v439, v440, v441]) stcT_frame rfl rfl rfl s448 s437 B452 rfl (oneI rfl (oneI rfl (oneI (B445).one (oneI (B446).one (oneI (B447).one oneN))))) fun w467 B468 k469 => ?_
      have B470 := B418.all k469 (fun i h x => (((ap454).symm) i h x))
      have B471 := B419.all k469 (fun x => (((ap455).symm) p1 rfl x))
      have B472 := B420.all k469 (fun i h x => (((ap456).symm) i h x))
      have B473 := B421.all k469 (fun i h x => (((ap457).symm) i h x))
      have B474 := B422.all k469 (fun i h x => (((ap458).symm) i h x))
      have B475 := B423.all k469 (fun x => (((ap459).symm) p83 rfl x))
      have B476 := B424.all k469 (fun i h x => (((ap460).symm) i h x))
      have B477 := B425.all k469 (fun i h x => (((ap461).symm) i h x))
      have B478 := B426.all k469 (fun i h x => (((ap462).symm) i h x))
      have B479 := B427.all k469 (fun x => (((ap463).symm) p328 rfl x))
      have B480 := B445.all k469 (fun i h x => (((ap464).symm) i h x))
      have B481 := B446.all k469 (fun i h x => (((ap465).symm) i h x))
      have B482 := B447.all k469 (fun i h x => (((ap466).symm) i h x))
      have K483 := K428.trans k469 (Grew.ok (S := fun _ => False) gr453 noB_le)
      refine wl_nil fun F484 hF485 => ?_
      have s486 : F484 0 = .int .u8 (((w : Nat) : Int)) := (hF485 0).trans s429
      have s487 : F484 1 = .int .u8 (((h : Nat) : Int)) := (hF485 1).trans s430
      have s488 : F484 2 = v := (hF485 2).trans s431
      have s489 : F484 15 = .bool true := (hF485 15).trans s432
      have s490 : F484 16 = .pointer (some ⟨p83, 0, none⟩) := (hF485 16).trans s433
      have s491 : F484 17 = .int .i64 (((k : Nat) : Int)) := (hF485 17).trans s434
      have s492 : F484 138 = undef := (hF485 138).trans s435
      have s493 : F484 23 = .pointer (some ⟨p328, 0, none⟩) := (hF485 23).trans s436
      have s494 : F484 24 = .pointer (some ⟨p450, 0, none⟩) := (hF485 24).trans s448
      clear hF485
      refine then_normal ?_
      refine wq_seq ?_
      refine wq_said [some 100, some 101, some 102, some 103, some 104, some 105, some 106, some 107, some 108, some 109, some 110, some 111, some 112, some 113, some 25] [Pd.eq (.agg #[.int .i64 ((putFr (putFr (mkF (w) (h) (l)) (((k : Nat) : Int)) (A) (R) (cb b)) (((k : Nat) : Int)) (A) (R) (getF (mkF (w) (h) (l)) (((k : Nat) : Int)) (A) (R))).W), .int .i64 ((putFr (putFr (mkF (w) (h) (l)) (((k : Nat) : Int)) (A) (R) (cb b)) (((k : Nat) : Int)) (A) (R) (getF (mkF (w) (h) (l)) (((k : Nat) : Int)) (A) (R))).H), v439, v440, v441]), Pd.eq (.int .u8 (((w : Nat) : Int))), Pd.eq (.int .u8 (((h : Nat) : Int))), Pd.eq (v), Pd.frm (mkF (w) (h) (l)), Pd.eq (.bool true), Pd.eq (.bool true), Pd.eq (.agg #[.int .i64 ((mkF (w) (h) (l)).W), .int .i64 ((mkF (w) (h) (l)).H), v54, v55, v56]), Pd.eq (.int .u8 (((w : Nat) : Int))), Pd.eq (.int .u8 (((h : Nat) : Int))), Pd.eq (v), Pd.frm (mkF (w) (h) (l)), Pd.eq (.bool true), Pd.eq (.bool true), Pd.eq (.bool true)] (by kernel_rfl) (by kernel_rfl) ?_ ?_
      · refine stepsF_cons ?_ ?_
        · refine StepF.one rfl fun F_ w_ hR hout hD => ?_
          exact (y_load_stc stcT_frame rfl ((hout 24 rfl (by decide)).trans s494) (B468.all hR id) ⟨rfl, Kept.refl _ _⟩)
        refine stepsF_cons ?_ ?_
        · refine StepF.one rfl fun F_ w_ hR hout hD => ?_
          exact (y_mov rfl ((hout 0 rfl (by decide)).trans s486) ⟨rfl, Kept.refl _ _⟩)
        refine stepsF_cons ?_ ?_
        · refine StepF.one rfl fun F_ w_ hR hout hD => ?_
          exact (y_mov rfl ((hout 1 rfl (by decide)).trans s487) ⟨rfl, Kept.refl _ _⟩)
        refine stepsF_cons ?_ ?_
        · refine StepF.one rfl fun F_ w_ hR hout hD => ?_
          exact (y_mov rfl ((hout 2 rfl (by decide)).trans s488) ⟨rfl, Kept.refl _ _⟩)
        refine stepsF_cons ?_ ?_
        · refine StepF.one rfl fun F_ w_ hR hout hD => ?_
          have g101 : F_ 101 = .int .u8 (((w : Nat) : Int)) := hD.get 0 rfl rfl rfl
          have g102 : F_ 102 = .int .u8 (((h : Nat) : Int)) := hD.get 1 rfl rfl rfl
          have g103 : F_ 103 = v := hD.get 2 rfl rfl rfl
          exact (y_cs rfl rfl rfl (fun _ _ => by kernel_rfl) (ev_func _) (vsC g101 (vsC g102 (vsC g103 vsN))) (flaw_frame (w) (h) (v) (l) (T_s) _ (by omega) (by omega) (B470.all hR Apart.none) ) (fun e_ w_ h_ => by obtain ⟨a_, Ta_, b_, Tb_, c_, Tc_, he_, k_, ha_, hb_, hc_, _⟩ := h_; exact ⟨_, he_, ⟨a_, b_, c_, Ta_, Tb_, Tc_, rfl, ha_.1, hb_.1, hc_.1⟩, k_⟩))
        refine stepsF_cons ?_ ?_
        · refine StepF.one rfl fun F_ w_ hR hout hD => ?_
          have g100 : F_ 100 = .agg #[.int .i64 ((putFr (putFr (mkF (w) (h) (l)) (((k : Nat) : Int)) (A) (R) (cb b)) (((k : Nat) : Int)) (A) (R) (getF (mkF (w) (h) (l)) (((k : Nat) : Int)) (A) (R))).W), .int .i64 ((putFr (putFr (mkF (w) (h) (l)) (((k : Nat) : Int)) (A) (R) (cb b)) (((k : Nat) : Int)) (A) (R) (getF (mkF (w) (h) (l)) (((k : Nat) : Int)) (A) (R))).H), v439, v440, v441] := hD.get 0 rfl rfl rfl
          obtain ⟨x104_, y104_, z104_, Tx104_, Ty104_, Tz104_, g104, hx104_, hy104_, hz104_⟩ : FrmV w_ (F_ 104) (mkF (w) (h) (l)) := hD.get 1 rfl rfl rfl
          exact (y_cs rfl rfl rfl (fun _ _ => by kernel_rfl) (ev_func _) (vsC g100 (vsC g104 vsN)) (fref_same (putFr (putFr (mkF (w) (h) (l)) (((k : Nat) : Int)) (A) (R) (cb b)) (((k : Nat) : Int)) (A) (R) (getF (mkF (w) (h) (l)) (((k : Nat) : Int)) (A) (R))) (v439) (v440) (v441) (mkF (w) (h) (l)) (x104_) (y104_) (z104_) (T442) (T443) (T444) (Tx104_) (Ty104_) (Tz104_) _  ((B480.all hR Apart.none)).byt ((B481.all hR Apart.none)).byt ((B482.all hR Apart.none)).byt (hx104_).byt (hy104_).byt (hz104_).byt ) (fun e_ w_ h_ => ⟨_, h_.1, congrArg Value.bool (by have e := hback.out; rw [show putFr _ _ _ _ _ = _ from e]; exact sameF_self _), h_.2⟩))
        refine stepsF_cons ?_ ?_
        · refine StepF.one rfl fun F_ w_ hR hout hD => ?_
          have g105 : F_ 105 = .bool true := hD.get 0 rfl rfl rfl
          exact (y_mov rfl g105 ⟨rfl, Kept.refl _ _⟩)
        refine stepsF_cons ?_ ?_
        · refine StepF.when 6 true 106 rfl rfl fun F_ w_ hR hout hD => ?_
          have g106 : F_ 106 = .bool true := hD.get 0 rfl rfl rfl
          exact ⟨g106, (y_load_stc stcT_frame rfl ((hout 16 rfl (by decide)).trans s490) (B475.all hR id) ⟨rfl, Kept.refl _ _⟩)⟩
        refine stepsF_cons ?_ ?_
        · refine StepF.when 6 true 106 rfl rfl fun F_ w_ hR hout hD => ?_
          have g106 : F_ 106 = .bool true := hD.get 0 rfl rfl rfl
          exact ⟨g106, (y_mov rfl ((hout 0 rfl (by decide)).trans s486) ⟨rfl, Kept.refl _ _⟩)⟩
        refine stepsF_cons ?_ ?_
        · refine StepF.when 6 true 106 rfl rfl fun F_ w_ hR hout hD => ?_
          have g106 : F_ 106 = .bool true := hD.get 0 rfl rfl rfl
          exact ⟨g106, (y_mov rfl ((hout 1 rfl (by decide)).trans s487) ⟨rfl, Kept.refl _ _⟩)⟩
        refine stepsF_cons ?_ ?_
        · refine StepF.when 6 true 106 rfl rfl fun F_ w_ hR hout hD => ?_
          have g106 : F_ 106 = .bool true := hD.get 0 rfl rfl rfl
          exact ⟨g106, (y_mov rfl ((hout 2 rfl (by decide)).trans s488) ⟨rfl, Kept.refl _ _⟩)⟩
        refine stepsF_cons ?_ ?_
        · refine StepF.when 6 true 106 rfl rfl fun F_ w_ hR hout hD => ?_
          have g106 : F_ 106 = .bool true := hD.get 3 rfl rfl rfl
          have g108 : F_ 108 = .int .u8 (((w : Nat) : Int)) := hD.get 0 rfl rfl rfl
          have g109 : F_ 109 = .int .u8 (((h : Nat) : Int)) := hD.get 1 rfl rfl rfl
          have g110 : F_ 110 = v := hD.get 2 rfl rfl rfl
          exact ⟨g106, (y_cs rfl rfl rfl (fun _ _ => by kernel_rfl) (ev_func _) (vsC g108 (vsC g109 (vsC g110 vsN))) (flaw_frame (w) (h) (v) (l) (T_s) _ (by omega) (by omega) (B470.all hR Apart.none) ) (fun e_ w_ h_ => by obtain ⟨a_, Ta_, b_, Tb_, c_, Tc_, he_, k_, ha_, hb_, hc_, _⟩ := h_; exact ⟨_, he_, ⟨a_, b_, c_, Ta_, Tb_, Tc_, rfl, ha_.1, hb_.1, hc_.1⟩, k_⟩))⟩
        refine stepsF_cons ?_ ?_
        · refine StepF.when 6 true 106 rfl rfl fun F_ w_ hR hout hD => ?_
          have g106 : F_ 106 = .bool true := hD.get 3 rfl rfl rfl
          have g107 : F_ 107 = .agg #[.int .i64 ((mkF (w) (h) (l)).W), .int .i64 ((mkF (w) (h) (l)).H), v54, v55, v56] := hD.get 0 rfl rfl rfl
          obtain ⟨x111_, y111_, z111_, Tx111_, Ty111_, Tz111_, g111, hx111_, hy111_, hz111_⟩ : FrmV w_ (F_ 111) (mkF (w) (h) (l)) := hD.get 1 rfl rfl rfl
          exact ⟨g106, (y_cs rfl rfl rfl (fun _ _ => by kernel_rfl) (ev_func _) (vsC g107 (vsC g111 vsN)) (fref_same (mkF (w) (h) (l)) (v54) (v55) (v56) (mkF (w) (h) (l)) (x111_) (y111_) (z111_) (T59) (T60) (T61) (Tx111_) (Ty111_) (Tz111_) _  ((B472.all hR Apart.none)).byt ((B473.all hR Apart.none)).byt ((B474.all hR Apart.none)).byt (hx111_).byt (hy111_).byt (hz111_).byt ) (fun e_ w_ h_ => ⟨_, h_.1, congrArg Value.bool (sameF_self _), h_.2⟩))⟩
        refine stepsF_cons ?_ ?_
        · refine StepF.one rfl fun F_ w_ hR hout hD => ?_
          have g106 : F_ 106 = .bool true := hD.get 0 rfl rfl rfl
          have g112 : F_ 112 = .bool true := hD.get 1 rfl rfl rfl
          exact (y_pickT rfl g106 g112 ⟨rfl, Kept.refl _ _⟩)
        refine stepsF_cons ?_ ?_
        · refine StepF.one rfl fun F_ w_ hR hout hD => ?_
          have g113 : F_ 113 = .bool true := hD.get 0 rfl rfl rfl
          exact (y_asg rfl g113 ⟨rfl, Kept.refl _ _⟩)
        exact stepsF_nil
      intro v501 F502 w503 k504 G505 hF506
      have B508 := B470.all k504 Apart.none
      have B509 := B471.all k504 id
      have B510 := B472.all k504 Apart.none
      have B511 := B473.all k504 Apart.none
      have B512 := B474.all k504 Apart.none
      have B513 := B475.all k504 id
      have B514 := B476.all k504 Apart.none
      have B515 := B477.all k504 Apart.none
      have B516 := B478.all k504 Apart.none
      have B517 := B479.all k504 id
      have B518 := B480.all k504 Apart.none
      have B519 := B481.all k504 Apart.none
      have B520 := B482.all k504 Apart.none
      have B521 := B468.all k504 id
      have K522 := K483.trans k504 (fun _ _ x => x.elim)
      have s523 : F502 15 = .bool true := (hF506 15).trans s489
      have s524 : F502 16 = .pointer (some ⟨p83, 0, none⟩) := (hF506 16).trans s490
      have s525 : F502 17 = .int .i64 (((k : Nat) : Int)) := (hF506 17).trans s491
      have s526 : F502 138 = undef := (hF506 138).trans s492
      have s527 : F502 23 = .pointer (some ⟨p328, 0, none⟩) := (hF506 23).trans s493
      have s528 : F502 25 = .bool true := (hF506 25).trans (G505 14 (by decide))
      clear G505 hF506
      refine then_normal ?_
      refine wq_seq ?_
      refine wq_seq ?_
      refine wq_region ?_
      refine wl_v (.int .i64 (0)) rfl rfl (y_asg rfl rfl ⟨rfl, rfl⟩) ?_
      refine wl_nil fun F529 hF530 => ?_
      have s531 : F529 15 = .bool true := (hF530 15).trans s523
      have s532 : F529 16 = .pointer (some ⟨p83, 0, none⟩) := (hF530 16).trans s524
      have s533 : F529 17 = .int .i64 (((k : Nat) : Int)) := (hF530 17).trans s525
      have s534 : F529 138 = undef := (hF530 138).trans s526
      have s535 : F529 23 = .pointer (some ⟨p328, 0, none⟩) := (hF530 23).trans s527
      have s536 : F529 25 = .bool true := (hF530 25).trans s528
      have s537 : F529 26 = .int .i64 (0) := (hF530 26).trans rfl
      clear hF530
      refine then_normal ?_
      refine wq_block ?_
      refine wq_rounds 4 ?_
      refine wqr_step ?_
      refine wq_seq ?_
      refine wq_seq ?_
      refine wq_region ?_
      refine wl_v (.int .i64 (0)) rfl rfl (y_mov rfl s537 ⟨rfl, rfl⟩) ?_
      refine wl_v (.bool true) rfl rfl (y_lss rfl rfl rfl rfl ⟨rfl, rfl⟩) ?_
      refine wl_nil fun F538 hF539 => ?_
      have s540 : F538 15 = .bool true := (hF539 15).trans s531
      have s541 : F538 16 = .pointer (some ⟨p83, 0, none⟩) := (hF539 16).trans s532
      have s542 : F538 17 = .int .i64 (((k : Nat) : Int)) := (hF539 17).trans s533
      have s543 : F538 138 = undef := (hF539 138).trans s534
      have s544 : F538 23 = .pointer (some ⟨p328, 0, none⟩) := (hF539 23).trans s535
      have s545 : F538 25 = .bool true := (hF539 25).trans s536
      have s546 : F538 26 = .int .i64 (0) := (hF539 26).trans s537
      have s547 : F538 115 = .bool true := (hF539 115).trans rfl
      clear hF539
      refine then_normal ?_
      refine wq_cond (t := true) s547 (fun _ => ?_) (fun e => by cases e)
      refine wq_skip ?_
      refine then_normal ?_
      refine wq_seq ?_
      refine wq_block ?_
      refine wq_seq ?_
      by_cases d548 : (0) ≠ (((k : Nat) : Int))
      · skip
        refine wq_said [some 118, some 119, some 120, some 121, some 122, some 123, some 124, some 125, some 126, some 127, some 128, some 129, some 130, some 131, some 132, some 133] [Pd.eq (.int .i64 (0)), Pd.eq (.int .i64 (((k : Nat) : Int))), Pd.eq (.bool true), Pd.eq (.bool true), Pd.eq (.int .i64 (0)), Pd.eq (.pointer (some ⟨p328, 2, none⟩)), Pd.eq (.pointer (some ⟨p328, 2, none⟩)), Pd.eq (v283), Pd.eq (.string (textOf ((putFr (mkF (w) (h) (l)) (((k : Nat) : Int)) (A) (R) (cb b)).p0))), Pd.eq (.int .i64 (0)), Pd.eq (.pointer (some ⟨p83, 2, none⟩)), Pd.eq (.pointer (some ⟨p83, 2, none⟩)), Pd.eq (v54), Pd.eq (.string (textOf ((mkF (w) (h) (l)).p0))), Pd.eq (.bool false), Pd.eq (.bool false)] (by kernel_rfl) (by kernel_rfl) ?_ ?_
        · refine stepsF_cons ?_ ?_
          · refine StepF.one rfl fun F_ w_ hR hout hD => ?_
            exact (y_mov rfl ((hout 26 rfl (by decide)).trans s546) ⟨rfl, Kept.refl _ _⟩)
          refine stepsF_cons ?_ ?_
          · refine StepF.one rfl fun F_ w_ hR hout hD => ?_
            exact (y_mov rfl ((hout 17 rfl (by decide)).trans s542) ⟨rfl, Kept.refl _ _⟩)
          refine stepsF_cons ?_ ?_
          · refine StepF.one rfl fun F_ w_ hR hout hD => ?_
            have g118 : F_ 118 = .int .i64 (0) := hD.get 0 rfl rfl rfl
            have g119 : F_ 119 = .int .i64 (((k : Nat) : Int)) := hD.get 1 rfl rfl rfl
            exact (y_neqI rfl g118 g119 (decide_eq_true d548) ⟨rfl, Kept.refl _ _⟩)
          refine stepsF_cons ?_ ?_
          · refine StepF.one rfl fun F_ w_ hR hout hD => ?_
            have g120 : F_ 120 = .bool true := hD.get 0 rfl rfl rfl
            exact (y_mov rfl g120 ⟨rfl, Kept.refl _ _⟩)
          refine stepsF_cons ?_ ?_
          · refine StepF.when 3 true 121 rfl rfl fun F_ w_ hR hout hD => ?_
            have g121 : F_ 121 = .bool true := hD.get 0 rfl rfl rfl
            exact ⟨g121, (y_mov rfl ((hout 26 rfl (by decide)).trans s546) ⟨rfl, Kept.refl _ _⟩)⟩
          refine stepsF_cons ?_ ?_
          · refine StepF.when 3 true 121 rfl rfl fun F_ w_ hR hout hD => ?_
            have g121 : F_ 121 = .bool true := hD.get 0 rfl rfl rfl
            exact ⟨g121, (y_fieldR (n := 3) rfl ((hout 23 rfl (by decide)).trans s544) Try.underlying25 rfl (by kernel_rfl) (by decide) rfl ⟨rfl, Kept.refl _ _⟩)⟩
          refine stepsF_cons ?_ ?_
          · refine StepF.when 3 true 121 rfl rfl fun F_ w_ hR hout hD => ?_
            have g121 : F_ 121 = .bool true := hD.get 2 rfl rfl rfl
            have g123 : F_ 123 = .pointer (some ⟨p328, 2, none⟩) := hD.get 0 rfl rfl rfl
            have g122 : F_ 122 = .int .i64 (0) := hD.get 1 rfl rfl rfl
            exact ⟨g121, (y_atR (0) (s := 1) rfl g123 g122 (by omega) Try.underlying23 (by omega) (by kernel_rfl) (by omega) ⟨rfl, Kept.refl _ _⟩)⟩
          refine stepsF_cons ?_ ?_
          · refine StepF.when 3 true 121 rfl rfl fun F_ w_ hR hout hD => ?_
            have g121 : F_ 121 = .bool true := hD.get 1 rfl rfl rfl
            have g124 : F_ 124 = .pointer (some ⟨p328, 2, none⟩) := hD.get 0 rfl rfl rfl
            exact ⟨g121, (y_ld_stc rfl g124 Try.underlying22 (B517.all hR id) rfl rfl ⟨rfl, Kept.refl _ _⟩)⟩
          refine stepsF_cons ?_ ?_
          · refine StepF.when 3 true 121 rfl rfl fun F_ w_ hR hout hD => ?_
            have g121 : F_ 121 = .bool true := hD.get 1 rfl rfl rfl
            have g125 : F_ 125 = v283 := hD.get 0 rfl rfl rfl
            exact ⟨g121, (y_text rfl (bytes_at g125 ((B514.all hR Apart.none)).byt) ⟨rfl, Kept.refl _ _⟩)⟩
          refine stepsF_cons ?_ ?_
          · refine StepF.when 3 true 121 rfl rfl fun F_ w_ hR hout hD => ?_
            have g121 : F_ 121 = .bool true := hD.get 0 rfl rfl rfl
            exact ⟨g121, (y_mov rfl ((hout 26 rfl (by decide)).trans s546) ⟨rfl, Kept.refl _ _⟩)⟩
          refine stepsF_cons ?_ ?_
          · refine StepF.when 3 true 121 rfl rfl fun F_ w_ hR hout hD => ?_
            have g121 : F_ 121 = .bool true := hD.get 0 rfl rfl rfl
            exact ⟨g121, (y_fieldR (n := 3) rfl ((hout 16 rfl (by decide)).trans s541) Try.underlying25 rfl (by kernel_rfl) (by decide) rfl ⟨rfl, Kept.refl _ _⟩)⟩
          refine stepsF_cons ?_ ?_
          · refine StepF.when 3 true 121 rfl rfl fun F_ w_ hR hout hD => ?_
            have g121 : F_ 121 = .bool true := hD.get 2 rfl rfl rfl
            have g128 : F_ 128 = .pointer (some ⟨p83, 2, none⟩) := hD.get 0 rfl rfl rfl
            have g127 : F_ 127 = .int .i64 (0) := hD.get 1 rfl rfl rfl
            exact ⟨g121, (y_atR (0) (s := 1) rfl g128 g127 (by omega) Try.underlying23 (by omega) (by kernel_rfl) (by omega) ⟨rfl, Kept.refl _ _⟩)⟩
          refine stepsF_cons ?_ ?_
          · refine StepF.when 3 true 121 rfl rfl fun F_ w_ hR hout hD => ?_
            have g121 : F_ 121 = .bool true := hD.get 1 rfl rfl rfl
            have g129 : F_ 129 = .pointer (some ⟨p83, 2, none⟩) := hD.get 0 rfl rfl rfl
            exact ⟨g121, (y_ld_stc rfl g129 Try.underlying22 (B513.all hR id) rfl rfl ⟨rfl, Kept.refl _ _⟩)⟩
          refine stepsF_cons ?_ ?_
          · refine StepF.when 3 true 121 rfl rfl fun F_ w_ hR hout hD => ?_
            have g121 : F_ 121 = .bool true := hD.get 1 rfl rfl rfl
            have g130 : F_ 130 = v54 := hD.get 0 rfl rfl rfl
            exact ⟨g121, (y_text rfl (bytes_at g130 ((B510.all hR Apart.none)).byt) ⟨rfl, Kept.refl _ _⟩)⟩
          refine stepsF_cons ?_ ?_
          · refine StepF.when 3 true 121 rfl rfl fun F_ w_ hR hout hD => ?_
            have g121 : F_ 121 = .bool true := hD.get 2 rfl rfl rfl
            have g126 : F_ 126 = .string (textOf ((putFr (mkF (w) (h) (l)) (((k : Nat) : Int)) (A) (R) (cb b)).p0)) := hD.get 0 rfl rfl rfl
            have g131 : F_ 131 = .string (textOf ((mkF (w) (h) (l)).p0)) := hD.get 1 rfl rfl rfl
            exact ⟨g121, (y_neqS rfl g126 g131 (other_text hin (cb b) 0 (by decide) (by decide) (by first | assumption | omega)) ⟨rfl, Kept.refl _ _⟩)⟩
          refine stepsF_cons ?_ ?_
          · refine StepF.one rfl fun F_ w_ hR hout hD => ?_
            have g121 : F_ 121 = .bool true := hD.get 0 rfl rfl rfl
            have g132 : F_ 132 = .bool false := hD.get 1 rfl rfl rfl
            exact (y_pickT rfl g121 g132 ⟨rfl, Kept.refl _ _⟩)
          exact stepsF_nil
        intro v549 F550 w551 k552 G553 hF554
        have B556 := B508.all k552 Apart.none
        have B557 := B509.all k552 id
        have B558 := B510.all k552 Apart.none
        have B559 := B511.all k552 Apart.none
        have B560 := B512.all k552 Apart.none
        have B561 := B513.all k552 id
        have B562 := B514.all k552 Apart.none
        have B563 := B515.all k552 Apart.none
        have B564 := B516.all k552 Apart.none
        have B565 := B517.all k552 id
        have B566 := B518.all k552 Apart.none
        have B567 := B519.all k552 Apart.none
        have B568 := B520.all k552 Apart.none
        have B569 := B521.all k552 id
        have K570 := K522.trans k552 (fun _ _ x => x.elim)
        have s571 : F550 15 = .bool true := (hF554 15).trans s540
        have s572 : F550 16 = .pointer (some ⟨p83, 0, none⟩) := (hF554 16).trans s541
        have s573 : F550 17 = .int .i64 (((k : Nat) : Int)) := (hF554 17).trans s542
        have s574 : F550 138 = undef := (hF554 138).trans s543
        have s575 : F550 23 = .pointer (some ⟨p328, 0, none⟩) := (hF554 23).trans s544
        have s576 : F550 25 = .bool true := (hF554 25).trans s545
        have s577 : F550 26 = .int .i64 (0) := (hF554 26).trans s546
        have s578 : F550 133 = .bool false := (hF554 133).trans (G553 15 (by decide))
        clear G553 hF554
        refine then_normal ?_
        refine wq_cond (t := false) s578 (fun e => by cases e) (fun _ => ?_)
        refine wq_skip ?_
        refine in_normal ?_
        refine then_normal ?_
        refine wq_region ?_
        refine wl_v (.int .i64 (0)) rfl rfl (y_mov rfl s577 ⟨rfl, rfl⟩) ?_
        refine wl_v (.int .i64 (((1 : Nat) : Int))) rfl rfl (y_add rfl rfl rfl (i64_n (by omega) (by omega)) ⟨rfl, rfl⟩) ?_
        refine wl_v (.int .i64 (((1 : Nat) : Int))) rfl rfl (y_asg rfl rfl ⟨rfl, rfl⟩) ?_
        refine wl_nil fun F579 hF580 => ?_
        have s581 : F579 15 = .bool true := (hF580 15).trans s571
        have s582 : F579 16 = .pointer (some ⟨p83, 0, none⟩) := (hF580 16).trans s572
        have s583 : F579 17 = .int .i64 (((k : Nat) : Int)) := (hF580 17).trans s573
        have s584 : F579 138 = undef := (hF580 138).trans s574
        have s585 : F579 23 = .pointer (some ⟨p328, 0, none⟩) := (hF580 23).trans s575
        have s586 : F579 25 = .bool true := (hF580 25).trans s576
        have s587 : F579 26 = .int .i64 (((1 : Nat) : Int)) := (hF580 26).trans rfl
        clear hF580
        refine then_normal ?_
        refine wqr_step ?_
        refine wq_seq ?_
        refine wq_seq ?_
        refine wq_region ?_
        refine wl_v (.int .i64 (((1 : Nat) : Int))) rfl rfl (y_mov rfl s587 ⟨rfl, rfl⟩) ?_
        refine wl_v (.bool true) rfl rfl (y_lss rfl rfl rfl rfl ⟨rfl, rfl⟩) ?_
        refine wl_nil fun F588 hF589 => ?_
        have s590 : F588 15 = .bool true := (hF589 15).trans s581
        have s591 : F588 16 = .pointer (some ⟨p83, 0, none⟩) := (hF589 16).trans s582
        have s592 : F588 17 = .int .i64 (((k : Nat) : Int)) := (hF589 17).trans s583
        have s593 : F588 138 = undef := (hF589 138).trans s584
        have s594 : F588 23 = .pointer (some ⟨p328, 0, none⟩) := (hF589 23).trans s585
        have s595 : F588 25 = .bool true := (hF589 25).trans s586
        have s596 : F588 26 = .int .i64 (((1 : Nat) : Int)) := (hF589 26).trans s587
        have s597 : F588 115 = .bool true := (hF589 115).trans rfl
        clear hF589
        refine then_normal ?_
        refine wq_cond (t := true) s597 (fun _ => ?_) (fun e => by cases e)
        refine wq_skip ?_
        refine then_normal ?_
        refine wq_seq ?_
        refine wq_block ?_
        refine wq_seq ?_
        by_cases d598 : (((1 : Nat) : Int)) ≠ (((k : Nat) : Int))
        · skip
          refine wq_said [some 118, some 119, some 120, some 121, some 122, some 123, some 124, some 125, some 126, some 127, some 128, some 129, some 130, some 131, some 132, some 133] [Pd.eq (.int .i64 (((1 : Nat) : Int))), Pd.eq (.int .i64 (((k : Nat) : Int))), Pd.eq (.bool true), Pd.eq (.bool true), Pd.eq (.int .i64 (((1 : Nat) : Int))), Pd.eq (.pointer (some ⟨p328, 2, none⟩)), Pd.eq (.pointer (some ⟨p328, 3, none⟩)), Pd.eq (v284), Pd.eq (.string (textOf ((putFr (mkF (w) (h) (l)) (((k : Nat) : Int)) (A) (R) (cb b)).p1))), Pd.eq (.int .i64 (((1 : Nat) : Int))), Pd.eq (.pointer (some ⟨p83, 2, none⟩)), Pd.eq (.pointer (some ⟨p83, 3, none⟩)), Pd.eq (v55), Pd.eq (.string (textOf ((mkF (w) (h) (l)).p1))), Pd.eq (.bool false), Pd.eq (.bool false)] (by kernel_rfl) (by kernel_rfl) ?_ ?_
          · refine stepsF_cons ?_ ?_
            · refine StepF.one rfl fun F_ w_ hR hout hD => ?_
              exact (y_mov rfl ((hout 26 rfl (by decide)).trans s596) ⟨rfl, Kept.refl _ _⟩)
            refine stepsF_cons ?_ ?_
            · refine StepF.one rfl fun F_ w_ hR hout hD => ?_
              exact (y_mov rfl ((hout 17 rfl (by decide)).trans s592) ⟨rfl, Kept.refl _ _⟩)
            refine stepsF_cons ?_ ?_
            · refine StepF.one rfl fun F_ w_ hR hout hD => ?_
              have g118 : F_ 118 = .int .i64 (((1 : Nat) : Int)) := hD.get 0 rfl rfl rfl
              have g119 : F_ 119 = .int .i64 (((k : Nat) : Int)) := hD.get 1 rfl rfl rfl
              exact (y_neqI rfl g118 g119 (decide_eq_true d598) ⟨rfl, Kept.refl _ _⟩)
            refine stepsF_cons ?_ ?_
            · refine StepF.one rfl fun F_ w_ hR hout hD => ?_
              have g120 : F_ 120 = .bool true := hD.get 0 rfl rfl rfl
              exact (y_mov rfl g120 ⟨rfl, Kept.refl _ _⟩)
            refine stepsF_cons ?_ ?_
            · refine StepF.when 3 true 121 rfl rfl fun F_ w_ hR hout hD => ?_
              have g121 : F_ 121 = .bool true := hD.get 0 rfl rfl rfl
              exact ⟨g121, (y_mov rfl ((hout 26 rfl (by decide)).trans s596) ⟨rfl, Kept.refl _ _⟩)⟩
            refine stepsF_cons ?_ ?_
            · refine StepF.when 3 true 121 rfl rfl fun F_ w_ hR hout hD => ?_
              have g121 : F_ 121 = .bool true := hD.get 0 rfl rfl rfl
              exact ⟨g121, (y_fieldR (n := 3) rfl ((hout 23 rfl (by decide)).trans s594) Try.underlying25 rfl (by kernel_rfl) (by decide) rfl ⟨rfl, Kept.refl _ _⟩)⟩
            refine stepsF_cons ?_ ?_
            · refine StepF.when 3 true 121 rfl rfl fun F_ w_ hR hout hD => ?_
              have g121 : F_ 121 = .bool true := hD.get 2 rfl rfl rfl
              have g123 : F_ 123 = .pointer (some ⟨p328, 2, none⟩) := hD.get 0 rfl rfl rfl
              have g122 : F_ 122 = .int .i64 (((1 : Nat) : Int)) := hD.get 1 rfl rfl rfl
              exact ⟨g121, (y_atR (1) (s := 1) rfl g123 g122 (by omega) Try.underlying23 (by omega) (by kernel_rfl) (by omega) ⟨rfl, Kept.refl _ _⟩)⟩
            refine stepsF_cons ?_ ?_
            · refine StepF.when 3 true 121 rfl rfl fun F_ w_ hR hout hD => ?_
              have g121 : F_ 121 = .bool true := hD.get 1 rfl rfl rfl
              have g124 : F_ 124 = .pointer (some ⟨p328, 3, none⟩) := hD.get 0 rfl rfl rfl
              exact ⟨g121, (y_ld_stc rfl g124 Try.underlying22 (B565.all hR id) rfl rfl ⟨rfl, Kept.refl _ _⟩)⟩
            refine stepsF_cons ?_ ?_
            · refine StepF.when 3 true 121 rfl rfl fun F_ w_ hR hout hD => ?_
              have g121 : F_ 121 = .bool true := hD.get 1 rfl rfl rfl
              have g125 : F_ 125 = v284 := hD.get 0 rfl rfl rfl
              exact ⟨g121, (y_text rfl (bytes_at g125 ((B563.all hR Apart.none)).byt) ⟨rfl, Kept.refl _ _⟩)⟩
            refine stepsF_cons ?_ ?_
            · refine StepF.when 3 true 121 rfl rfl fun F_ w_ hR hout hD => ?_
              have g121 : F_ 121 = .bool true := hD.get 0 rfl rfl rfl
              exact ⟨g121, (y_mov rfl ((hout 26 rfl (by decide)).trans s596) ⟨rfl, Kept.refl _ _⟩)⟩
            refine stepsF_cons ?_ ?_
            · refine StepF.when 3 true 121 rfl rfl fun F_ w_ hR hout hD => ?_
              have g121 : F_ 121 = .bool true := hD.get 0 rfl rfl rfl
              exact ⟨g121, (y_fieldR (n := 3) rfl ((hout 16 rfl (by decide)).trans s591) Try.underlying25 rfl (by kernel_rfl) (by decide) rfl ⟨rfl, Kept.refl _ _⟩)⟩
            refine stepsF_cons ?_ ?_
            · refine StepF.when 3 true 121 rfl rfl fun F_ w_ hR hout hD => ?_
              have g121 : F_ 121 = .bool true := hD.get 2 rfl rfl rfl
              have g128 : F_ 128 = .pointer (some ⟨p83, 2, none⟩) := hD.get 0 rfl rfl rfl
              have g127 : F_ 127 = .int .i64 (((1 : Nat) : Int)) := hD.get 1 rfl rfl rfl
              exact ⟨g121, (y_atR (1) (s := 1) rfl g128 g127 (by omega) Try.underlying23 (by omega) (by kernel_rfl) (by omega) ⟨rfl, Kept.refl _ _⟩)⟩
            refine stepsF_cons ?_ ?_
            · refine StepF.when 3 true 121 rfl rfl fun F_ w_ hR hout hD => ?_
              have g121 : F_ 121 = .bool true := hD.get 1 rfl rfl rfl
              have g129 : F_ 129 = .pointer (some ⟨p83, 3, none⟩) := hD.get 0 rfl rfl rfl
              exact ⟨g121, (y_ld_stc rfl g129 Try.underlying22 (B561.all hR id) rfl rfl ⟨rfl, Kept.refl _ _⟩)⟩
            refine stepsF_cons ?_ ?_
            · refine StepF.when 3 true 121 rfl rfl fun F_ w_ hR hout hD => ?_
              have g121 : F_ 121 = .bool true := hD.get 1 rfl rfl rfl
              have g130 : F_ 130 = v55 := hD.get 0 rfl rfl rfl
              exact ⟨g121, (y_text rfl (bytes_at g130 ((B559.all hR Apart.none)).byt) ⟨rfl, Kept.refl _ _⟩)⟩
            refine stepsF_cons ?_ ?_
            · refine StepF.when 3 true 121 rfl rfl fun F_ w_ hR hout hD => ?_
              have g121 : F_ 121 = .bool true := hD.get 2 rfl rfl rfl
              have g126 : F_ 126 = .string (textOf ((putFr (mkF (w) (h) (l)) (((k : Nat) : Int)) (A) (R) (cb b)).p1)) := hD.get 0 rfl rfl rfl
              have g131 : F_ 131 = .string (textOf ((mkF (w) (h) (l)).p1)) := hD.get 1 rfl rfl rfl
              exact ⟨g121, (y_neqS rfl g126 g131 (other_text hin (cb b) 1 (by decide) (by decide) (by first | assumption | omega)) ⟨rfl, Kept.refl _ _⟩)⟩
            refine stepsF_cons ?_ ?_
            · refine StepF.one rfl fun F_ w_ hR hout hD => ?_
              have g121 : F_ 121 = .bool true := hD.get 0 rfl rfl rfl
              have g132 : F_ 132 = .bool false := hD.get 1 rfl rfl rfl
              exact (y_pickT rfl g121 g132 ⟨rfl, Kept.refl _ _⟩)
            exact stepsF_nil
          intro v599 F600 w601 k602 G603 hF604
          have B606 := B556.all k602 Apart.none
          have B607 := B557.all k602 id
          have B608 := B558.all k602 Apart.none
          have B609 := B559.all k602 Apart.none
          have B610 := B560.all k602 Apart.none
          have B611 := B561.all k602 id
          have B612 := B562.all k602 Apart.none
          have B613 := B563.all k602 Apart.none
          have B614 := B564.all k602 Apart.none
          have B615 := B565.all k602 id
          have B616 := B566.all k602 Apart.none
          have B617 := B567.all k602 Apart.none
          have B618 := B568.all k602 Apart.none
          have B619 := B569.all k602 id
          have K620 := K570.trans k602 (fun _ _ x => x.elim)
          have s621 : F600 15 = .bool true := (hF604 15).trans s590
          have s622 : F600 16 = .pointer (some ⟨p83, 0, none⟩) := (hF604 16).trans s591
          have s623 : F600 17 = .int .i64 (((k : Nat) : Int)) := (hF604 17).trans s592
          have s624 : F600 138 = undef := (hF604 138).trans s593
          have s625 : F600 23 = .pointer (some ⟨p328, 0, none⟩) := (hF604 23).trans s594
          have s626 : F600 25 = .bool true := (hF604 25).trans s595
          have s627 : F600 26 = .int .i64 (((1 : Nat) : Int)) := (hF604 26).trans s596
          have s628 : F600 133 = .bool false := (hF604 133).trans (G603 15 (by decide))
          clear G603 hF604
          refine then_normal ?_
          refine wq_cond (t := false) s628 (fun e => by cases e) (fun _ => ?_)
          refine wq_skip ?_
          refine in_normal ?_
          refine then_normal ?_
          refine wq_region ?_
          refine wl_v (.int .i64 (((1 : Nat) : Int))) rfl rfl (y_mov rfl s627 ⟨rfl, rfl⟩) ?_
          refine wl_v (.int .i64 (((2 : Nat) : Int))) rfl rfl (y_add rfl rfl rfl (i64_n (by omega) (by omega)) ⟨rfl, rfl⟩) ?_
          refine wl_v (.int .i64 (((2 : Nat) : Int))) rfl rfl (y_asg rfl rfl ⟨rfl, rfl⟩) ?_
          refine wl_nil fun F629 hF630 => ?_
          have s631 : F629 15 = .bool true := (hF630 15).trans s621
          have s632 : F629 16 = .pointer (some ⟨p83, 0, none⟩) := (hF630 16).trans s622
          have s633 : F629 17 = .int .i64 (((k : Nat) : Int)) := (hF630 17).trans s623
          have s634 : F629 138 = undef := (hF630 138).trans s624
          have s635 : F629 23 = .pointer (some ⟨p328, 0, none⟩) := (hF630 23).trans s625
          have s636 : F629 25 = .bool true := (hF630 25).trans s626
          have s637 : F629 26 = .int .i64 (((2 : Nat) : Int)) := (hF630 26).trans rfl
          clear hF630
          refine then_normal ?_
          refine wqr_step ?_
          refine wq_seq ?_
          refine wq_seq ?_
          refine wq_region ?_
          refine wl_v (.int .i64 (((2 : Nat) : Int))) rfl rfl (y_mov rfl s637 ⟨rfl, rfl⟩) ?_
          refine wl_v (.bool true) rfl rfl (y_lss rfl rfl rfl rfl ⟨rfl, rfl⟩) ?_
          refine wl_nil fun F638 hF639 => ?_
          have s640 : F638 15 = .bool true := (hF639 15).trans s631
          have s641 : F638 16 = .pointer (some ⟨p83, 0, none⟩) := (hF639 16).trans s632
          have s642 : F638 17 = .int .i64 (((k : Nat) : Int)) := (hF639 17).trans s633
          have s643 : F638 138 = undef := (hF639 138).trans s634
          have s644 : F638 23 = .pointer (some ⟨p328, 0, none⟩) := (hF639 23).trans s635
          have s645 : F638 25 = .bool true := (hF639 25).trans s636
          have s646 : F638 26 = .int .i64 (((2 : Nat) : Int)) := (hF639 26).trans s637
          have s647 : F638 115 = .bool true := (hF639 115).trans rfl
          clear hF639
          refine then_normal ?_
          refine wq_cond (t := true) s647 (fun _ => ?_) (fun e => by cases e)
          refine wq_skip ?_
          refine then_normal ?_
          refine wq_seq ?_
          refine wq_block ?_
          refine wq_seq ?_
          by_cases d648 : (((2 : Nat) : Int)) ≠ (((k : Nat) : Int))
          · skip
            refine wq_said [some 118, some 119, some 120, some 121, some 122, some 123, some 124, some 125, some 126, some 127, some 128, some 129, some 130, some 131, some 132, some 133] [Pd.eq (.int .i64 (((2 : Nat) : Int))), Pd.eq (.int .i64 (((k : Nat) : Int))), Pd.eq (.bool true), Pd.eq (.bool true), Pd.eq (.int .i64 (((2 : Nat) : Int))), Pd.eq (.pointer (some ⟨p328, 2, none⟩)), Pd.eq (.pointer (some ⟨p328, 4, none⟩)), Pd.eq (v285), Pd.eq (.string (textOf ((putFr (mkF (w) (h) (l)) (((k : Nat) : Int)) (A) (R) (cb b)).p2))), Pd.eq (.int .i64 (((2 : Nat) : Int))), Pd.eq (.pointer (some ⟨p83, 2, none⟩)), Pd.eq (.pointer (some ⟨p83, 4, none⟩)), Pd.eq (v56), Pd.eq (.string (textOf ((mkF (w) (h) (l)).p2))), Pd.eq (.bool false), Pd.eq (.bool false)] (by kernel_rfl) (by kernel_rfl) ?_ ?_
            · refine stepsF_cons ?_ ?_
              · refine StepF.one rfl fun F_ w_ hR hout hD => ?_
                exact (y_mov rfl ((hout 26 rfl (by decide)).trans s646) ⟨rfl, Kept.refl _ _⟩)
              refine stepsF_cons ?_ ?_
              · refine StepF.one rfl fun F_ w_ hR hout hD => ?_
                exact (y_mov rfl ((hout 17 rfl (by decide)).trans s642) ⟨rfl, Kept.refl _ _⟩)
              refine stepsF_cons ?_ ?_
              · refine StepF.one rfl fun F_ w_ hR hout hD => ?_
                have g118 : F_ 118 = .int .i64 (((2 : Nat) : Int)) := hD.get 0 rfl rfl rfl
                have g119 : F_ 119 = .int .i64 (((k : Nat) : Int)) := hD.get 1 rfl rfl rfl
                exact (y_neqI rfl g118 g119 (decide_eq_true d648) ⟨rfl, Kept.refl _ _⟩)
              refine stepsF_cons ?_ ?_
              · refine StepF.one rfl fun F_ w_ hR hout hD => ?_
                have g120 : F_ 120 = .bool true := hD.get 0 rfl rfl rfl
                exact (y_mov rfl g120 ⟨rfl, Kept.refl _ _⟩)
              refine stepsF_cons ?_ ?_
              · refine StepF.when 3 true 121 rfl rfl fun F_ w_ hR hout hD => ?_
                have g121 : F_ 121 = .bool true := hD.get 0 rfl rfl rfl
                exact ⟨g121, (y_mov rfl ((hout 26 rfl (by decide)).trans s646) ⟨rfl, Kept.refl _ _⟩)⟩
              refine stepsF_cons ?_ ?_
              · refine StepF.when 3 true 121 rfl rfl fun F_ w_ hR hout hD => ?_
                have g121 : F_ 121 = .bool true := hD.get 0 rfl rfl rfl
                exact ⟨g121, (y_fieldR (n := 3) rfl ((hout 23 rfl (by decide)).trans s644) Try.underlying25 rfl (by kernel_rfl) (by decide) rfl ⟨rfl, Kept.refl _ _⟩)⟩
              refine stepsF_cons ?_ ?_
              · refine StepF.when 3 true 121 rfl rfl fun F_ w_ hR hout hD => ?_
                have g121 : F_ 121 = .bool true := hD.get 2 rfl rfl rfl
                have g123 : F_ 123 = .pointer (some ⟨p328, 2, none⟩) := hD.get 0 rfl rfl rfl
                have g122 : F_ 122 = .int .i64 (((2 : Nat) : Int)) := hD.get 1 rfl rfl rfl
                exact ⟨g121, (y_atR (2) (s := 1) rfl g123 g122 (by omega) Try.underlying23 (by omega) (by kernel_rfl) (by omega) ⟨rfl, Kept.refl _ _⟩)⟩
              refine stepsF_cons ?_ ?_
              · refine StepF.when 3 true 121 rfl rfl fun F_ w_ hR hout hD => ?_
                have g121 : F_ 121 = .bool true := hD.get 1 rfl rfl rfl
                have g124 : F_ 124 = .pointer (some ⟨p328, 4, none⟩) := hD.get 0 rfl rfl rfl
                exact ⟨g121, (y_ld_stc rfl g124 Try.underlying22 (B615.all hR id) rfl rfl ⟨rfl, Kept.refl _ _⟩)⟩
              refine stepsF_cons ?_ ?_
              · refine StepF.when 3 true 121 rfl rfl fun F_ w_ hR hout hD => ?_
                have g121 : F_ 121 = .bool true := hD.get 1 rfl rfl rfl
                have g125 : F_ 125 = v285 := hD.get 0 rfl rfl rfl
                exact ⟨g121, (y_text rfl (bytes_at g125 ((B614.all hR Apart.none)).byt) ⟨rfl, Kept.refl _ _⟩)⟩
              refine stepsF_cons ?_ ?_
              · refine StepF.when 3 true 121 rfl rfl fun F_ w_ hR hout hD => ?_
                have g121 : F_ 121 = .bool true := hD.get 0 rfl rfl rfl
                exact ⟨g121, (y_mov rfl ((hout 26 rfl (by decide)).trans s646) ⟨rfl, Kept.refl _ _⟩)⟩
              refine stepsF_cons ?_ ?_
              · refine StepF.when 3 true 121 rfl rfl fun F_ w_ hR hout hD => ?_
                have g121 : F_ 121 = .bool true := hD.get 0 rfl rfl rfl
                exact ⟨g121, (y_fieldR (n := 3) rfl ((hout 16 rfl (by decide)).trans s641) Try.underlying25 rfl (by kernel_rfl) (by decide) rfl ⟨rfl, Kept.refl _ _⟩)⟩
              refine stepsF_cons ?_ ?_
              · refine StepF.when 3 true 121 rfl rfl fun F_ w_ hR hout hD => ?_
                have g121 : F_ 121 = .bool true := hD.get 2 rfl rfl rfl
                have g128 : F_ 128 = .pointer (some ⟨p83, 2, none⟩) := hD.get 0 rfl rfl rfl
                have g127 : F_ 127 = .int .i64 (((2 : Nat) : Int)) := hD.get 1 rfl rfl rfl
                exact ⟨g121, (y_atR (2) (s := 1) rfl g128 g127 (by omega) Try.underlying23 (by omega) (by kernel_rfl) (by omega) ⟨rfl, Kept.refl _ _⟩)⟩
              refine stepsF_cons ?_ ?_
              · refine StepF.when 3 true 121 rfl rfl fun F_ w_ hR hout hD => ?_
                have g121 : F_ 121 = .bool true := hD.get 1 rfl rfl rfl
                have g129 : F_ 129 = .pointer (some ⟨p83, 4, none⟩) := hD.get 0 rfl rfl rfl
                exact ⟨g121, (y_ld_stc rfl g129 Try.underlying22 (B611.all hR id) rfl rfl ⟨rfl, Kept.refl _ _⟩)⟩
              refine stepsF_cons ?_ ?_
              · refine StepF.when 3 true 121 rfl rfl fun F_ w_ hR hout hD => ?_
                have g121 : F_ 121 = .bool true := hD.get 1 rfl rfl rfl
                have g130 : F_ 130 = v56 := hD.get 0 rfl rfl rfl
                exact ⟨g121, (y_text rfl (bytes_at g130 ((B610.all hR Apart.none)).byt) ⟨rfl, Kept.refl _ _⟩)⟩
              refine stepsF_cons ?_ ?_
              · refine StepF.when 3 true 121 rfl rfl fun F_ w_ hR hout hD => ?_
                have g121 : F_ 121 = .bool true := hD.get 2 rfl rfl rfl
                have g126 : F_ 126 = .string (textOf ((putFr (mkF (w) (h) (l)) (((k : Nat) : Int)) (A) (R) (cb b)).p2)) := hD.get 0 rfl rfl rfl
                have g131 : F_ 131 = .string (textOf ((mkF (w) (h) (l)).p2)) := hD.get 1 rfl rfl rfl
                exact ⟨g121, (y_neqS rfl g126 g131 (other_text hin (cb b) 2 (by decide) (by decide) (by first | assumption | omega)) ⟨rfl, Kept.refl _ _⟩)⟩
              refine stepsF_cons ?_ ?_
              · refine StepF.one rfl fun F_ w_ hR hout hD => ?_
                have g121 : F_ 121 = .bool true := hD.get 0 rfl rfl rfl
                have g132 : F_ 132 = .bool false := hD.get 1 rfl rfl rfl
                exact (y_pickT rfl g121 g132 ⟨rfl, Kept.refl _ _⟩)
              exact stepsF_nil
            intro v649 F650 w651 k652 G653 hF654
            have B656 := B606.all k652 Apart.none
            have B657 := B607.all k652 id
            have B658 := B608.all k652 Apart.none
            have B659 := B609.all k652 Apart.none
            have B660 := B610.all k652 Apart.none
            have B661 := B611.all k652 id
            have B662 := B612.all k652 Apart.none
            have B663 := B613.all k652 Apart.none
            have B664 := B614.all k652 Apart.none
            have B665 := B615.all k652 id
            have B666 := B616.all k652 Apart.none
            have B667 := B617.all k652 Apart.none
            have B668 := B618.all k652 Apart.none
            have B669 := B619.all k652 id
            have K670 := K620.trans k652 (fun _ _ x => x.elim)
            have s671 : F650 15 = .bool true := (hF654 15).trans s640
            have s672 : F650 16 = .pointer (some ⟨p83, 0, none⟩) := (hF654 16).trans s641
            have s673 : F650 17 = .int .i64 (((k : Nat) : Int)) := (hF654 17).trans s642
            have s674 : F650 138 = undef := (hF654 138).trans s643
            have s675 : F650 23 = .pointer (some ⟨p328, 0, none⟩) := (hF654 23).trans s644
            have s676 : F650 25 = .bool true := (hF654 25).trans s645
            have s677 : F650 26 = .int .i64 (((2 : Nat) : Int)) := (hF654 26).trans s646
            have s678 : F650 133 = .bool false := (hF654 133).trans (G653 15 (by decide))
            clear G653 hF654
            refine then_normal ?_
            refine wq_cond (t := false) s678 (fun e => by cases e) (fun _ => ?_)
            refine wq_skip ?_
            refine in_normal ?_
            refine then_normal ?_
            refine wq_region ?_
            refine wl_v (.int .i64 (((2 : Nat) : Int))) rfl rfl (y_mov rfl s677 ⟨rfl, rfl⟩) ?_
            refine wl_v (.int .i64 (((3 : Nat) : Int))) rfl rfl (y_add rfl rfl rfl (i64_n (by omega) (by omega)) ⟨rfl, rfl⟩) ?_
            refine wl_v (.int .i64 (((3 : Nat) : Int))) rfl rfl (y_asg rfl rfl ⟨rfl, rfl⟩) ?_
            refine wl_nil fun F679 hF680 => ?_
            have s681 : F679 15 = .bool true := (hF680 15).trans s671
            have s682 : F679 16 = .pointer (some ⟨p83, 0, none⟩) := (hF680 16).trans s672
            have s683 : F679 17 = .int .i64 (((k : Nat) : Int)) := (hF680 17).trans s673
            have s684 : F679 138 = undef := (hF680 138).trans s674
            have s685 : F679 23 = .pointer (some ⟨p328, 0, none⟩) := (hF680 23).trans s675
            have s686 : F679 25 = .bool true := (hF680 25).trans s676
            have s687 : F679 26 = .int .i64 (((3 : Nat) : Int)) := (hF680 26).trans rfl
            clear hF680
            refine then_normal ?_
            refine wqr_step ?_
            refine wq_seq ?_
            refine wq_seq ?_
            refine wq_region ?_
            refine wl_v (.int .i64 (((3 : Nat) : Int))) rfl rfl (y_mov rfl s687 ⟨rfl, rfl⟩) ?_
            refine wl_v (.bool false) rfl rfl (y_lss rfl rfl rfl rfl ⟨rfl, rfl⟩) ?_
            refine wl_nil fun F688 hF689 => ?_
            have s690 : F688 15 = .bool true := (hF689 15).trans s681
            have s691 : F688 16 = .pointer (some ⟨p83, 0, none⟩) := (hF689 16).trans s682
            have s692 : F688 17 = .int .i64 (((k : Nat) : Int)) := (hF689 17).trans s683
            have s693 : F688 138 = undef := (hF689 138).trans s684
            have s694 : F688 23 = .pointer (some ⟨p328, 0, none⟩) := (hF689 23).trans s685
            have s695 : F688 25 = .bool true := (hF689 25).trans s686
            have s696 : F688 26 = .int .i64 (((3 : Nat) : Int)) := (hF689 26).trans s687
            have s697 : F688 115 = .bool false := (hF689 115).trans rfl
            clear hF689
            refine then_normal ?_
            refine wq_cond (t := false) s697 (fun e => by cases e) (fun _ => ?_)
            refine wq_exit ?_
            refine then_exit ?_
            refine then_exit ?_
            refine in_here ?_
            refine then_normal ?_
            refine wq_seq ?_
            refine wq_region ?_
            refine wl_v (.bool true) rfl rfl (y_mov rfl s690 ⟨rfl, rfl⟩) ?_
            refine wl_v (.bool true) rfl rfl (y_mov rfl rfl ⟨rfl, rfl⟩) ?_
            refine wl_vw (.bool true) 1 true 135 rfl rfl rfl rfl rfl (y_mov rfl s695 ⟨rfl, rfl⟩) ?_
            refine wl_v (.bool true) rfl rfl (y_pickT rfl rfl rfl ⟨rfl, rfl⟩) ?_
            refine wl_v (.bool true) rfl rfl (y_asg rfl rfl ⟨rfl, rfl⟩) ?_
            refine wl_nil fun F698 hF699 => ?_
            have s700 : F698 138 = undef := (hF699 138).trans s693
            have s701 : F698 14 = .bool true := (hF699 14).trans rfl
            clear hF699
            refine then_normal ?_
            refine wq_ret ?_
            exact end_tmp (v := .bool true) s700 rfl rfl s701 ⟨rfl, K670⟩
          · skip
            refine wq_said [some 118, some 119, some 120, some 121, some 122, some 123, some 124, some 125, some 126, some 127, some 128, some 129, some 130, some 131, some 132, some 133] [Pd.eq (.int .i64 (((2 : Nat) : Int))), Pd.eq (.int .i64 (((k : Nat) : Int))), Pd.eq (.bool false), Pd.eq (.bool false), Pd.eq undef, Pd.eq undef, Pd.eq undef, Pd.eq undef, Pd.eq undef, Pd.eq undef, Pd.eq undef, Pd.eq undef, Pd.eq undef, Pd.eq undef, Pd.eq undef, Pd.eq (.bool false)] (by kernel_rfl) (by kernel_rfl) ?_ ?_
            · refine stepsF_cons ?_ ?_
              · refine StepF.one rfl fun F_ w_ hR hout hD => ?_
                exact (y_mov rfl ((hout 26 rfl (by decide)).trans s646) ⟨rfl, Kept.refl _ _⟩)
              refine stepsF_cons ?_ ?_
              · refine StepF.one rfl fun F_ w_ hR hout hD => ?_
                exact (y_mov rfl ((hout 17 rfl (by decide)).trans s642) ⟨rfl, Kept.refl _ _⟩)
              refine stepsF_cons ?_ ?_
              · refine StepF.one rfl fun F_ w_ hR hout hD => ?_
                have g118 : F_ 118 = .int .i64 (((2 : Nat) : Int)) := hD.get 0 rfl rfl rfl
                have g119 : F_ 119 = .int .i64 (((k : Nat) : Int)) := hD.get 1 rfl rfl rfl
                exact (y_neqI rfl g118 g119 (decide_eq_false d648) ⟨rfl, Kept.refl _ _⟩)
              refine stepsF_cons ?_ ?_
              · refine StepF.one rfl fun F_ w_ hR hout hD => ?_
                have g120 : F_ 120 = .bool false := hD.get 0 rfl rfl rfl
                exact (y_mov rfl g120 ⟨rfl, Kept.refl _ _⟩)
              refine stepsF_cons ?_ ?_
              · refine StepF.unless 3 true 121 rfl rfl fun F_ w_ hR hout hD => ?_
                have g121 : F_ 121 = .bool false := hD.get 0 rfl rfl rfl
                exact ⟨Or.inl g121, rfl⟩
              refine stepsF_cons ?_ ?_
              · refine StepF.unless 3 true 121 rfl rfl fun F_ w_ hR hout hD => ?_
                have g121 : F_ 121 = .bool false := hD.get 0 rfl rfl rfl
                exact ⟨Or.inl g121, rfl⟩
              refine stepsF_cons ?_ ?_
              · refine StepF.unless 3 true 121 rfl rfl fun F_ w_ hR hout hD => ?_
                have g121 : F_ 121 = .bool false := hD.get 2 rfl rfl rfl
                exact ⟨Or.inl g121, rfl⟩
              refine stepsF_cons ?_ ?_
              · refine StepF.unless 3 true 121 rfl rfl fun F_ w_ hR hout hD => ?_
                have g121 : F_ 121 = .bool false := hD.get 1 rfl rfl rfl
                exact ⟨Or.inl g121, rfl⟩
              refine stepsF_cons ?_ ?_
              · refine StepF.unless 3 true 121 rfl rfl fun F_ w_ hR hout hD => ?_
                have g121 : F_ 121 = .bool false := hD.get 1 rfl rfl rfl
                exact ⟨Or.inl g121, rfl⟩
              refine stepsF_cons ?_ ?_
              · refine StepF.unless 3 true 121 rfl rfl fun F_ w_ hR hout hD => ?_
                have g121 : F_ 121 = .bool false := hD.get 0 rfl rfl rfl
                exact ⟨Or.inl g121, rfl⟩
              refine stepsF_cons ?_ ?_
              · refine StepF.unless 3 true 121 rfl rfl fun F_ w_ hR hout hD => ?_
                have g121 : F_ 121 = .bool false := hD.get 0 rfl rfl rfl
                exact ⟨Or.inl g121, rfl⟩
              refine stepsF_cons ?_ ?_
              · refine StepF.unless 3 true 121 rfl rfl fun F_ w_ hR hout hD => ?_
                have g121 : F_ 121 = .bool false := hD.get 2 rfl rfl rfl
                exact ⟨Or.inl g121, rfl⟩
              refine stepsF_cons ?_ ?_
              · refine StepF.unless 3 true 121 rfl rfl fun F_ w_ hR hout hD => ?_
                have g121 : F_ 121 = .bool false := hD.get 1 rfl rfl rfl
                exact ⟨Or.inl g121, rfl⟩
              refine stepsF_cons ?_ ?_
              · refine StepF.unless 3 true 121 rfl rfl fun F_ w_ hR hout hD => ?_
                have g121 : F_ 121 = .bool false := hD.get 1 rfl rfl rfl
                exact ⟨Or.inl g121, rfl⟩
              refine stepsF_cons ?_ ?_
              · refine StepF.unless 3 true 121 rfl rfl fun F_ w_ hR hout hD => ?_
                have g121 : F_ 121 = .bool false := hD.get 2 rfl rfl rfl
                exact ⟨Or.inl g121, rfl⟩
              refine stepsF_cons ?_ ?_
              · refine StepF.one rfl fun F_ w_ hR hout hD => ?_
                have g121 : F_ 121 = .bool false := hD.get 0 rfl rfl rfl
                exact (y_pickF rfl g121 rfl ⟨rfl, Kept.refl _ _⟩)
              exact stepsF_nil
            intro v702 F703 w704 k705 G706 hF707
            have B709 := B606.all k705 Apart.none
            have B710 := B607.all k705 id
            have B711 := B608.all k705 Apart.none
            have B712 := B609.all k705 Apart.none
            have B713 := B610.all k705 Apart.none
            have B714 := B611.all k705 id
            have B715 := B612.all k705 Apart.none
            have B716 := B613.all k705 Apart.none
            have B717 := B614.all k705 Apart.none
            have B718 := B615.all k705 id
            have B719 := B616.all k705 Apart.none
            have B720 := B617.all k705 Apart.none
            have B721 := B618.all k705 Apart.none
            have B722 := B619.all k705 id
            have K723 := K620.trans k705 (fun _ _ x => x.elim)
            have s724 : F703 15 = .bool true := (hF707 15).trans s640
            have s725 : F703 16 = .pointer (some ⟨p83, 0, none⟩) := (hF707 16).trans s641
            have s726 : F703 17 = .int .i64 (((k : Nat) : Int)) := (hF707 17).trans s642
            have s727 : F703 138 = undef := (hF707 138).trans s643
            have s728 : F703 23 = .pointer (some ⟨p328, 0, none⟩) := (hF707 23).trans s644
            have s729 : F703 25 = .bool true := (hF707 25).trans s645
            have s730 : F703 26 = .int .i64 (((2 : Nat) : Int)) := (hF707 26).trans s646
            have s731 : F703 133 = .bool false := (hF707 133).trans (G706 15 (by decide))
            clear G706 hF707
            refine then_normal ?_
            refine wq_cond (t := false) s731 (fun e => by cases e) (fun _ => ?_)
            refine wq_skip ?_
            refine in_normal ?_
            refine then_normal ?_
            refine wq_region ?_
            refine wl_v (.int .i64 (((2 : Nat) : Int))) rfl rfl (y_mov rfl s730 ⟨rfl, rfl⟩) ?_
            refine wl_v (.int .i64 (((3 : Nat) : Int))) rfl rfl (y_add rfl rfl rfl (i64_n (by omega) (by omega)) ⟨rfl, rfl⟩) ?_
            refine wl_v (.int .i64 (((3 : Nat) : Int))) rfl rfl (y_asg rfl rfl ⟨rfl, rfl⟩) ?_
            refine wl_nil fun F732 hF733 => ?_
            have s734 : F732 15 = .bool true := (hF733 15).trans s724
            have s735 : F732 16 = .pointer (some ⟨p83, 0, none⟩) := (hF733 16).trans s725
            have s736 : F732 17 = .int .i64 (((k : Nat) : Int)) := (hF733 17).trans s726
            have s737 : F732 138 = undef := (hF733 138).trans s727
            have s738 : F732 23 = .pointer (some ⟨p328, 0, none⟩) := (hF733 23).trans s728
            have s739 : F732 25 = .bool true := (hF733 25).trans s729
            have s740 : F732 26 = .int .i64 (((3 : Nat) : Int)) := (hF733 26).trans rfl
            clear hF733
            refine then_normal ?_
            refine wqr_step ?_
            refine wq_seq ?_
            refine wq_seq ?_
            refine wq_region ?_
            refine wl_v (.int .i64 (((3 : Nat) : Int))) rfl rfl (y_mov rfl s740 ⟨rfl, rfl⟩) ?_
            refine wl_v (.bool false) rfl rfl (y_lss rfl rfl rfl rfl ⟨rfl, rfl⟩) ?_
            refine wl_nil fun F741 hF742 => ?_
            have s743 : F741 15 = .bool true := (hF742 15).trans s734
            have s744 : F741 16 = .pointer (some ⟨p83, 0, none⟩) := (hF742 16).trans s735
            have s745 : F741 17 = .int .i64 (((k : Nat) : Int)) := (hF742 17).trans s736
            have s746 : F741 138 = undef := (hF742 138).trans s737
            have s747 : F741 23 = .pointer (some ⟨p328, 0, none⟩) := (hF742 23).trans s738
            have s748 : F741 25 = .bool true := (hF742 25).trans s739
            have s749 : F741 26 = .int .i64 (((3 : Nat) : Int)) := (hF742 26).trans s740
            have s750 : F741 115 = .bool false := (hF742 115).trans rfl
            clear hF742
            refine then_normal ?_
            refine wq_cond (t := false) s750 (fun e => by cases e) (fun _ => ?_)
            refine wq_exit ?_
            refine then_exit ?_
            refine then_exit ?_
            refine in_here ?_
            refine then_normal ?_
            refine wq_seq ?_
            refine wq_region ?_
            refine wl_v (.bool true) rfl rfl (y_mov rfl s743 ⟨rfl, rfl⟩) ?_
            refine wl_v (.bool true) rfl rfl (y_mov rfl rfl ⟨rfl, rfl⟩) ?_
            refine wl_vw (.bool true) 1 true 135 rfl rfl rfl rfl rfl (y_mov rfl s748 ⟨rfl, rfl⟩) ?_
            refine wl_v (.bool true) rfl rfl (y_pickT rfl rfl rfl ⟨rfl, rfl⟩) ?_
            refine wl_v (.bool true) rfl rfl (y_asg rfl rfl ⟨rfl, rfl⟩) ?_
            refine wl_nil fun F751 hF752 => ?_
            have s753 : F751 138 = undef := (hF752 138).trans s746
            have s754 : F751 14 = .bool true := (hF752 14).trans rfl
            clear hF752
            refine then_normal ?_
            refine wq_ret ?_
            exact end_tmp (v := .bool true) s753 rfl rfl s754 ⟨rfl, K723⟩
        · skip
          refine wq_said [some 118, some 119, some 120, some 121, some 122, some 123, some 124, some 125, some 126, some 127, some 128, some 129, some 130, some 131, some 132, some 133] [Pd.eq (.int .i64 (((1 : Nat) : Int))), Pd.eq (.int .i64 (((k : Nat) : Int))), Pd.eq (.bool false), Pd.eq (.bool false), Pd.eq undef, Pd.eq undef, Pd.eq undef, Pd.eq undef, Pd.eq undef, Pd.eq undef, Pd.eq undef, Pd.eq undef, Pd.eq undef, Pd.eq undef, Pd.eq undef, Pd.eq (.bool false)] (by kernel_rfl) (by kernel_rfl) ?_ ?_
          · refine stepsF_cons ?_ ?_
            · refine StepF.one rfl fun F_ w_ hR hout hD => ?_
              exact (y_mov rfl ((hout 26 rfl (by decide)).trans s596) ⟨rfl, Kept.refl _ _⟩)
            refine stepsF_cons ?_ ?_
            · refine StepF.one rfl fun F_ w_ hR hout hD => ?_
              exact (y_mov rfl ((hout 17 rfl (by decide)).trans s592) ⟨rfl, Kept.refl _ _⟩)
            refine stepsF_cons ?_ ?_
            · refine StepF.one rfl fun F_ w_ hR hout hD => ?_
              have g118 : F_ 118 = .int .i64 (((1 : Nat) : Int)) := hD.get 0 rfl rfl rfl
              have g119 : F_ 119 = .int .i64 (((k : Nat) : Int)) := hD.get 1 rfl rfl rfl
              exact (y_neqI rfl g118 g119 (decide_eq_false d598) ⟨rfl, Kept.refl _ _⟩)
            refine stepsF_cons ?_ ?_
            · refine StepF.one rfl fun F_ w_ hR hout hD => ?_
              have g120 : F_ 120 = .bool false := hD.get 0 rfl rfl rfl
              exact (y_mov rfl g120 ⟨rfl, Kept.refl _ _⟩)
            refine stepsF_cons ?_ ?_
            · refine StepF.unless 3 true 121 rfl rfl fun F_ w_ hR hout hD => ?_
              have g121 : F_ 121 = .bool false := hD.get 0 rfl rfl rfl
              exact ⟨Or.inl g121, rfl⟩
            refine stepsF_cons ?_ ?_
            · refine StepF.unless 3 true 121 rfl rfl fun F_ w_ hR hout hD => ?_
              have g121 : F_ 121 = .bool false := hD.get 0 rfl rfl rfl
              exact ⟨Or.inl g121, rfl⟩
            refine stepsF_cons ?_ ?_
            · refine StepF.unless 3 true 121 rfl rfl fun F_ w_ hR hout hD => ?_
              have g121 : F_ 121 = .bool false := hD.get 2 rfl rfl rfl
              exact ⟨Or.inl g121, rfl⟩
            refine stepsF_cons ?_ ?_
            · refine StepF.unless 3 true 121 rfl rfl fun F_ w_ hR hout hD => ?_
              have g121 : F_ 121 = .bool false := hD.get 1 rfl rfl rfl
              exact ⟨Or.inl g121, rfl⟩
            refine stepsF_cons ?_ ?_
            · refine StepF.unless 3 true 121 rfl rfl fun F_ w_ hR hout hD => ?_
              have g121 : F_ 121 = .bool false := hD.get 1 rfl rfl rfl
              exact ⟨Or.inl g121, rfl⟩
            refine stepsF_cons ?_ ?_
            · refine StepF.unless 3 true 121 rfl rfl fun F_ w_ hR hout hD => ?_
              have g121 : F_ 121 = .bool false := hD.get 0 rfl rfl rfl
              exact ⟨Or.inl g121, rfl⟩
            refine stepsF_cons ?_ ?_
            · refine StepF.unless 3 true 121 rfl rfl fun F_ w_ hR hout hD => ?_
              have g121 : F_ 121 = .bool false := hD.get 0 rfl rfl rfl
              exact ⟨Or.inl g121, rfl⟩
            refine stepsF_cons ?_ ?_
            · refine StepF.unless 3 true 121 rfl rfl fun F_ w_ hR hout hD => ?_
              have g121 : F_ 121 = .bool false := hD.get 2 rfl rfl rfl
              exact ⟨Or.inl g121, rfl⟩
            refine stepsF_cons ?_ ?_
            · refine StepF.unless 3 true 121 rfl rfl fun F_ w_ hR hout hD => ?_
              have g121 : F_ 121 = .bool false := hD.get 1 rfl rfl rfl
              exact ⟨Or.inl g121, rfl⟩
            refine stepsF_cons ?_ ?_
            · refine StepF.unless 3 true 121 rfl rfl fun F_ w_ hR hout hD => ?_
              have g121 : F_ 121 = .bool false := hD.get 1 rfl rfl rfl
              exact ⟨Or.inl g121, rfl⟩
            refine stepsF_cons ?_ ?_
            · refine StepF.unless 3 true 121 rfl rfl fun F_ w_ hR hout hD => ?_
              have g121 : F_ 121 = .bool false := hD.get 2 rfl rfl rfl
              exact ⟨Or.inl g121, rfl⟩
            refine stepsF_cons ?_ ?_
            · refine StepF.one rfl fun F_ w_ hR hout hD => ?_
              have g121 : F_ 121 = .bool false := hD.get 0 rfl rfl rfl
              exact (y_pickF rfl g121 rfl ⟨rfl, Kept.refl _ _⟩)
            exact stepsF_nil
          intro v755 F756 w757 k758 G759 hF760
          have B762 := B556.all k758 Apart.none
          have B763 := B557.all k758 id
          have B764 := B558.all k758 Apart.none
          have B765 := B559.all k758 Apart.none
          have B766 := B560.all k758 Apart.none
          have B767 := B561.all k758 id
          have B768 := B562.all k758 Apart.none
          have B769 := B563.all k758 Apart.none
          have B770 := B564.all k758 Apart.none
          have B771 := B565.all k758 id
          have B772 := B566.all k758 Apart.none
          have B773 := B567.all k758 Apart.none
          have B774 := B568.all k758 Apart.none
          have B775 := B569.all k758 id
          have K776 := K570.trans k758 (fun _ _ x => x.elim)
          have s777 : F756 15 = .bool true := (hF760 15).trans s590
          have s778 : F756 16 = .pointer (some ⟨p83, 0, none⟩) := (hF760 16).trans s591
          have s779 : F756 17 = .int .i64 (((k : Nat) : Int)) := (hF760 17).trans s592
          have s780 : F756 138 = undef := (hF760 138).trans s593
          have s781 : F756 23 = .pointer (some ⟨p328, 0, none⟩) := (hF760 23).trans s594
          have s782 : F756 25 = .bool true := (hF760 25).trans s595
          have s783 : F756 26 = .int .i64 (((1 : Nat) : Int)) := (hF760 26).trans s596
          have s784 : F756 133 = .bool false := (hF760 133).trans (G759 15 (by decide))
          clear G759 hF760
          refine then_normal ?_
          refine wq_cond (t := false) s784 (fun e => by cases e) (fun _ => ?_)
          refine wq_skip ?_
          refine in_normal ?_
          refine then_normal ?_
          refine wq_region ?_
          refine wl_v (.int .i64 (((1 : Nat) : Int))) rfl rfl (y_mov rfl s783 ⟨rfl, rfl⟩) ?_
          refine wl_v (.int .i64 (((2 : Nat) : Int))) rfl rfl (y_add rfl rfl rfl (i64_n (by omega) (by omega)) ⟨rfl, rfl⟩) ?_
          refine wl_v (.int .i64 (((2 : Nat) : Int))) rfl rfl (y_asg rfl rfl ⟨rfl, rfl⟩) ?_
          refine wl_nil fun F785 hF786 => ?_
          have s787 : F785 15 = .bool true := (hF786 15).trans s777
          have s788 : F785 16 = .pointer (some ⟨p83, 0, none⟩) := (hF786 16).trans s778
          have s789 : F785 17 = .int .i64 (((k : Nat) : Int)) := (hF786 17).trans s779
          have s790 : F785 138 = undef := (hF786 138).trans s780
          have s791 : F785 23 = .pointer (some ⟨p328, 0, none⟩) := (hF786 23).trans s781
          have s792 : F785 25 = .bool true := (hF786 25).trans s782
          have s793 : F785 26 = .int .i64 (((2 : Nat) : Int)) := (hF786 26).trans rfl
          clear hF786
          refine then_normal ?_
          refine wqr_step ?_
          refine wq_seq ?_
          refine wq_seq ?_
          refine wq_region ?_
          refine wl_v (.int .i64 (((2 : Nat) : Int))) rfl rfl (y_mov rfl s793 ⟨rfl, rfl⟩) ?_
          refine wl_v (.bool true) rfl rfl (y_lss rfl rfl rfl rfl ⟨rfl, rfl⟩) ?_
          refine wl_nil fun F794 hF795 => ?_
          have s796 : F794 15 = .bool true := (hF795 15).trans s787
          have s797 : F794 16 = .pointer (some ⟨p83, 0, none⟩) := (hF795 16).trans s788
          have s798 : F794 17 = .int .i64 (((k : Nat) : Int)) := (hF795 17).trans s789
          have s799 : F794 138 = undef := (hF795 138).trans s790
          have s800 : F794 23 = .pointer (some ⟨p328, 0, none⟩) := (hF795 23).trans s791
          have s801 : F794 25 = .bool true := (hF795 25).trans s792
          have s802 : F794 26 = .int .i64 (((2 : Nat) : Int)) := (hF795 26).trans s793
          have s803 : F794 115 = .bool true := (hF795 115).trans rfl
          clear hF795
          refine then_normal ?_
          refine wq_cond (t := true) s803 (fun _ => ?_) (fun e => by cases e)
          refine wq_skip ?_
          refine then_normal ?_
          refine wq_seq ?_
          refine wq_block ?_
          refine wq_seq ?_
          by_cases d804 : (((2 : Nat) : Int)) ≠ (((k : Nat) : Int))
          · skip
            refine wq_said [some 118, some 119, some 120, some 121, some 122, some 123, some 124, some 125, some 126, some 127, some 128, some 129, some 130, some 131, some 132, some 133] [Pd.eq (.int .i64 (((2 : Nat) : Int))), Pd.eq (.int .i64 (((k : Nat) : Int))), Pd.eq (.bool true), Pd.eq (.bool true), Pd.eq (.int .i64 (((2 : Nat) : Int))), Pd.eq (.pointer (some ⟨p328, 2, none⟩)), Pd.eq (.pointer (some ⟨p328, 4, none⟩)), Pd.eq (v285), Pd.eq (.string (textOf ((putFr (mkF (w) (h) (l)) (((k : Nat) : Int)) (A) (R) (cb b)).p2))), Pd.eq (.int .i64 (((2 : Nat) : Int))), Pd.eq (.pointer (some ⟨p83, 2, none⟩)), Pd.eq (.pointer (some ⟨p83, 4, none⟩)), Pd.eq (v56), Pd.eq (.string (textOf ((mkF (w) (h) (l)).p2))), Pd.eq (.bool false), Pd.eq (.bool false)] (by kernel_rfl) (by kernel_rfl) ?_ ?_
            · refine stepsF_cons ?_ ?_
              · refine StepF.one rfl fun F_ w_ hR hout hD => ?_
                exact (y_mov rfl ((hout 26 rfl (by decide)).trans s802) ⟨rfl, Kept.refl _ _⟩)
              refine stepsF_cons ?_ ?_
              · refine StepF.one rfl fun F_ w_ hR hout hD => ?_
                exact (y_mov rfl ((hout 17 rfl (by decide)).trans s798) ⟨rfl, Kept.refl _ _⟩)
              refine stepsF_cons ?_ ?_
              · refine StepF.one rfl fun F_ w_ hR hout hD => ?_
                have g118 : F_ 118 = .int .i64 (((2 : Nat) : Int)) := hD.get 0 rfl rfl rfl
                have g119 : F_ 119 = .int .i64 (((k : Nat) : Int)) := hD.get 1 rfl rfl rfl
                exact (y_neqI rfl g118 g119 (decide_eq_true d804) ⟨rfl, Kept.refl _ _⟩)
              refine stepsF_cons ?_ ?_
              · refine StepF.one rfl fun F_ w_ hR hout hD => ?_
                have g120 : F_ 120 = .bool true := hD.get 0 rfl rfl rfl
                exact (y_mov rfl g120 ⟨rfl, Kept.refl _ _⟩)
              refine stepsF_cons ?_ ?_
              · refine StepF.when 3 true 121 rfl rfl fun F_ w_ hR hout hD => ?_
                have g121 : F_ 121 = .bool true := hD.get 0 rfl rfl rfl
                exact ⟨g121, (y_mov rfl ((hout 26 rfl (by decide)).trans s802) ⟨rfl, Kept.refl _ _⟩)⟩
              refine stepsF_cons ?_ ?_
              · refine StepF.when 3 true 121 rfl rfl fun F_ w_ hR hout hD => ?_
                have g121 : F_ 121 = .bool true := hD.get 0 rfl rfl rfl
                exact ⟨g121, (y_fieldR (n := 3) rfl ((hout 23 rfl (by decide)).trans s800) Try.underlying25 rfl (by kernel_rfl) (by decide) rfl ⟨rfl, Kept.refl _ _⟩)⟩
              refine stepsF_cons ?_ ?_
              · refine StepF.when 3 true 121 rfl rfl fun F_ w_ hR hout hD => ?_
                have g121 : F_ 121 = .bool true := hD.get 2 rfl rfl rfl
                have g123 : F_ 123 = .pointer (some ⟨p328, 2, none⟩) := hD.get 0 rfl rfl rfl
                have g122 : F_ 122 = .int .i64 (((2 : Nat) : Int)) := hD.get 1 rfl rfl rfl
                exact ⟨g121, (y_atR (2) (s := 1) rfl g123 g122 (by omega) Try.underlying23 (by omega) (by kernel_rfl) (by omega) ⟨rfl, Kept.refl _ _⟩)⟩
              refine stepsF_cons ?_ ?_
              · refine StepF.when 3 true 121 rfl rfl fun F_ w_ hR hout hD => ?_
                have g121 : F_ 121 = .bool true := hD.get 1 rfl rfl rfl
                have g124 : F_ 124 = .pointer (some ⟨p328, 4, none⟩) := hD.get 0 rfl rfl rfl
                exact ⟨g121, (y_ld_stc rfl g124 Try.underlying22 (B771.all hR id) rfl rfl ⟨rfl, Kept.refl _ _⟩)⟩
              refine stepsF_cons ?_ ?_
              · refine StepF.when 3 true 121 rfl rfl fun F_ w_ hR hout hD => ?_
                have g121 : F_ 121 = .bool true := hD.get 1 rfl rfl rfl
                have g125 : F_ 125 = v285 := hD.get 0 rfl rfl rfl
                exact ⟨g121, (y_text rfl (bytes_at g125 ((B770.all hR Apart.none)).byt) ⟨rfl, Kept.refl _ _⟩)⟩
              refine stepsF_cons ?_ ?_
              · refine StepF.when 3 true 121 rfl rfl fun F_ w_ hR hout hD => ?_
                have g121 : F_ 121 = .bool true := hD.get 0 rfl rfl rfl
                exact ⟨g121, (y_mov rfl ((hout 26 rfl (by decide)).trans s802) ⟨rfl, Kept.refl _ _⟩)⟩
              refine stepsF_cons ?_ ?_
              · refine StepF.when 3 true 121 rfl rfl fun F_ w_ hR hout hD => ?_
                have g121 : F_ 121 = .bool true := hD.get 0 rfl rfl rfl
                exact ⟨g121, (y_fieldR (n := 3) rfl ((hout 16 rfl (by decide)).trans s797) Try.underlying25 rfl (by kernel_rfl) (by decide) rfl ⟨rfl, Kept.refl _ _⟩)⟩
              refine stepsF_cons ?_ ?_
              · refine StepF.when 3 true 121 rfl rfl fun F_ w_ hR hout hD => ?_
                have g121 : F_ 121 = .bool true := hD.get 2 rfl rfl rfl
                have g128 : F_ 128 = .pointer (some ⟨p83, 2, none⟩) := hD.get 0 rfl rfl rfl
                have g127 : F_ 127 = .int .i64 (((2 : Nat) : Int)) := hD.get 1 rfl rfl rfl
                exact ⟨g121, (y_atR (2) (s := 1) rfl g128 g127 (by omega) Try.underlying23 (by omega) (by kernel_rfl) (by omega) ⟨rfl, Kept.refl _ _⟩)⟩
              refine stepsF_cons ?_ ?_
              · refine StepF.when 3 true 121 rfl rfl fun F_ w_ hR hout hD => ?_
                have g121 : F_ 121 = .bool true := hD.get 1 rfl rfl rfl
                have g129 : F_ 129 = .pointer (some ⟨p83, 4, none⟩) := hD.get 0 rfl rfl rfl
                exact ⟨g121, (y_ld_stc rfl g129 Try.underlying22 (B767.all hR id) rfl rfl ⟨rfl, Kept.refl _ _⟩)⟩
              refine stepsF_cons ?_ ?_
              · refine StepF.when 3 true 121 rfl rfl fun F_ w_ hR hout hD => ?_
                have g121 : F_ 121 = .bool true := hD.get 1 rfl rfl rfl
                have g130 : F_ 130 = v56 := hD.get 0 rfl rfl rfl
                exact ⟨g121, (y_text rfl (bytes_at g130 ((B766.all hR Apart.none)).byt) ⟨rfl, Kept.refl _ _⟩)⟩
              refine stepsF_cons ?_ ?_
              · refine StepF.when 3 true 121 rfl rfl fun F_ w_ hR hout hD => ?_
                have g121 : F_ 121 = .bool true := hD.get 2 rfl rfl rfl
                have g126 : F_ 126 = .string (textOf ((putFr (mkF (w) (h) (l)) (((k : Nat) : Int)) (A) (R) (cb b)).p2)) := hD.get 0 rfl rfl rfl
                have g131 : F_ 131 = .string (textOf ((mkF (w) (h) (l)).p2)) := hD.get 1 rfl rfl rfl
                exact ⟨g121, (y_neqS rfl g126 g131 (other_text hin (cb b) 2 (by decide) (by decide) (by first | assumption | omega)) ⟨rfl, Kept.refl _ _⟩)⟩
              refine stepsF_cons ?_ ?_
              · refine StepF.one rfl fun F_ w_ hR hout hD => ?_
                have g121 : F_ 121 = .bool true := hD.get 0 rfl rfl rfl
                have g132 : F_ 132 = .bool false := hD.get 1 rfl rfl rfl
                exact (y_pickT rfl g121 g132 ⟨rfl, Kept.refl _ _⟩)
              exact stepsF_nil
            intro v805 F806 w807 k808 G809 hF810
            have B812 := B762.all k808 Apart.none
            have B813 := B763.all k808 id
            have B814 := B764.all k808 Apart.none
            have B815 := B765.all k808 Apart.none
            have B816 := B766.all k808 Apart.none
            have B817 := B767.all k808 id
            have B818 := B768.all k808 Apart.none
            have B819 := B769.all k808 Apart.none
            have B820 := B770.all k808 Apart.none
            have B821 := B771.all k808 id
            have B822 := B772.all k808 Apart.none
            have B823 := B773.all k808 Apart.none
            have B824 := B774.all k808 Apart.none
            have B825 := B775.all k808 id
            have K826 := K776.trans k808 (fun _ _ x => x.elim)
            have s827 : F806 15 = .bool true := (hF810 15).trans s796
            have s828 : F806 16 = .pointer (some ⟨p83, 0, none⟩) := (hF810 16).trans s797
            have s829 : F806 17 = .int .i64 (((k : Nat) : Int)) := (hF810 17).trans s798
            have s830 : F806 138 = undef := (hF810 138).trans s799
            have s831 : F806 23 = .pointer (some ⟨p328, 0, none⟩) := (hF810 23).trans s800
            have s832 : F806 25 = .bool true := (hF810 25).trans s801
            have s833 : F806 26 = .int .i64 (((2 : Nat) : Int)) := (hF810 26).trans s802
            have s834 : F806 133 = .bool false := (hF810 133).trans (G809 15 (by decide))
            clear G809 hF810
            refine then_normal ?_
            refine wq_cond (t := false) s834 (fun e => by cases e) (fun _ => ?_)
            refine wq_skip ?_
            refine in_normal ?_
            refine then_normal ?_
            refine wq_region ?_
            refine wl_v (.int .i64 (((2 : Nat) : Int))) rfl rfl (y_mov rfl s833 ⟨rfl, rfl⟩) ?_
            refine wl_v (.int .i64 (((3 : Nat) : Int))) rfl rfl (y_add rfl rfl rfl (i64_n (by omega) (by omega)) ⟨rfl, rfl⟩) ?_
            refine wl_v (.int .i64 (((3 : Nat) : Int))) rfl rfl (y_asg rfl rfl ⟨rfl, rfl⟩) ?_
            refine wl_nil fun F835 hF836 => ?_
            have s837 : F835 15 = .bool true := (hF836 15).trans s827
            have s838 : F835 16 = .pointer (some ⟨p83, 0, none⟩) := (hF836 16).trans s828
            have s839 : F835 17 = .int .i64 (((k : Nat) : Int)) := (hF836 17).trans s829
            have s840 : F835 138 = undef := (hF836 138).trans s830
            have s841 : F835 23 = .pointer (some ⟨p328, 0, none⟩) := (hF836 23).trans s831
            have s842 : F835 25 = .bool true := (hF836 25).trans s832
            have s843 : F835 26 = .int .i64 (((3 : Nat) : Int)) := (hF836 26).trans rfl
            clear hF836
            refine then_normal ?_
            refine wqr_step ?_
            refine wq_seq ?_
            refine wq_seq ?_
            refine wq_region ?_
            refine wl_v (.int .i64 (((3 : Nat) : Int))) rfl rfl (y_mov rfl s843 ⟨rfl, rfl⟩) ?_
            refine wl_v (.bool false) rfl rfl (y_lss rfl rfl rfl rfl ⟨rfl, rfl⟩) ?_
            refine wl_nil fun F844 hF845 => ?_
            have s846 : F844 15 = .bool true := (hF845 15).trans s837
            have s847 : F844 16 = .pointer (some ⟨p83, 0, none⟩) := (hF845 16).trans s838
            have s848 : F844 17 = .int .i64 (((k : Nat) : Int)) := (hF845 17).trans s839
            have s849 : F844 138 = undef := (hF845 138).trans s840
            have s850 : F844 23 = .pointer (some ⟨p328, 0, none⟩) := (hF845 23).trans s841
            have s851 : F844 25 = .bool true := (hF845 25).trans s842
            have s852 : F844 26 = .int .i64 (((3 : Nat) : Int)) := (hF845 26).trans s843
            have s853 : F844 115 = .bool false := (hF845 115).trans rfl
            clear hF845
            refine then_normal ?_
            refine wq_cond (t := false) s853 (fun e => by cases e) (fun _ => ?_)
            refine wq_exit ?_
            refine then_exit ?_
            refine then_exit ?_
            refine in_here ?_
            refine then_normal ?_
            refine wq_seq ?_
            refine wq_region ?_
            refine wl_v (.bool true) rfl rfl (y_mov rfl s846 ⟨rfl, rfl⟩) ?_
            refine wl_v (.bool true) rfl rfl (y_mov rfl rfl ⟨rfl, rfl⟩) ?_
            refine wl_vw (.bool true) 1 true 135 rfl rfl rfl rfl rfl (y_mov rfl s851 ⟨rfl, rfl⟩) ?_
            refine wl_v (.bool true) rfl rfl (y_pickT rfl rfl rfl ⟨rfl, rfl⟩) ?_
            refine wl_v (.bool true) rfl rfl (y_asg rfl rfl ⟨rfl, rfl⟩) ?_
            refine wl_nil fun F854 hF855 => ?_
            have s856 : F854 138 = undef := (hF855 138).trans s849
            have s857 : F854 14 = .bool true := (hF855 14).trans rfl
            clear hF855
            refine then_normal ?_
            refine wq_ret ?_
            exact end_tmp (v := .bool true) s856 rfl rfl s857 ⟨rfl, K826⟩
          · skip
            refine wq_said [some 118, some 119, some 120, some 121, some 122, some 123, some 124, some 125, some 126, some 127, some 128, some 129, some 130, some 131, some 132, some 133] [Pd.eq (.int .i64 (((2 : Nat) : Int))), Pd.eq (.int .i64 (((k : Nat) : Int))), Pd.eq (.bool false), Pd.eq (.bool false), Pd.eq undef, Pd.eq undef, Pd.eq undef, Pd.eq undef, Pd.eq undef, Pd.eq undef, Pd.eq undef, Pd.eq undef, Pd.eq undef, Pd.eq undef, Pd.eq undef, Pd.eq (.bool false)] (by kernel_rfl) (by kernel_rfl) ?_ ?_
            · refine stepsF_cons ?_ ?_
              · refine StepF.one rfl fun F_ w_ hR hout hD => ?_
                exact (y_mov rfl ((hout 26 rfl (by decide)).trans s802) ⟨rfl, Kept.refl _ _⟩)
              refine stepsF_cons ?_ ?_
              · refine StepF.one rfl fun F_ w_ hR hout hD => ?_
                exact (y_mov rfl ((hout 17 rfl (by decide)).trans s798) ⟨rfl, Kept.refl _ _⟩)
              refine stepsF_cons ?_ ?_
              · refine StepF.one rfl fun F_ w_ hR hout hD => ?_
                have g118 : F_ 118 = .int .i64 (((2 : Nat) : Int)) := hD.get 0 rfl rfl rfl
                have g119 : F_ 119 = .int .i64 (((k : Nat) : Int)) := hD.get 1 rfl rfl rfl
                exact (y_neqI rfl g118 g119 (decide_eq_false d804) ⟨rfl, Kept.refl _ _⟩)
              refine stepsF_cons ?_ ?_
              · refine StepF.one rfl fun F_ w_ hR hout hD => ?_
                have g120 : F_ 120 = .bool false := hD.get 0 rfl rfl rfl
                exact (y_mov rfl g120 ⟨rfl, Kept.refl _ _⟩)
              refine stepsF_cons ?_ ?_
              · refine StepF.unless 3 true 121 rfl rfl fun F_ w_ hR hout hD => ?_
                have g121 : F_ 121 = .bool false := hD.get 0 rfl rfl rfl
                exact ⟨Or.inl g121, rfl⟩
              refine stepsF_cons ?_ ?_
              · refine StepF.unless 3 true 121 rfl rfl fun F_ w_ hR hout hD => ?_
                have g121 : F_ 121 = .bool false := hD.get 0 rfl rfl rfl
                exact ⟨Or.inl g121, rfl⟩
              refine stepsF_cons ?_ ?_
              · refine StepF.unless 3 true 121 rfl rfl fun F_ w_ hR hout hD => ?_
                have g121 : F_ 121 = .bool false := hD.get 2 rfl rfl rfl
                exact ⟨Or.inl g121, rfl⟩
              refine stepsF_cons ?_ ?_
              · refine StepF.unless 3 true 121 rfl rfl fun F_ w_ hR hout hD => ?_
                have g121 : F_ 121 = .bool false := hD.get 1 rfl rfl rfl
                exact ⟨Or.inl g121, rfl⟩
              refine stepsF_cons ?_ ?_
              · refine StepF.unless 3 true 121 rfl rfl fun F_ w_ hR hout hD => ?_
                have g121 : F_ 121 = .bool false := hD.get 1 rfl rfl rfl
                exact ⟨Or.inl g121, rfl⟩
              refine stepsF_cons ?_ ?_
              · refine StepF.unless 3 true 121 rfl rfl fun F_ w_ hR hout hD => ?_
                have g121 : F_ 121 = .bool false := hD.get 0 rfl rfl rfl
                exact ⟨Or.inl g121, rfl⟩
              refine stepsF_cons ?_ ?_
              · refine StepF.unless 3 true 121 rfl rfl fun F_ w_ hR hout hD => ?_
                have g121 : F_ 121 = .bool false := hD.get 0 rfl rfl rfl
                exact ⟨Or.inl g121, rfl⟩
              refine stepsF_cons ?_ ?_
              · refine StepF.unless 3 true 121 rfl rfl fun F_ w_ hR hout hD => ?_
                have g121 : F_ 121 = .bool false := hD.get 2 rfl rfl rfl
                exact ⟨Or.inl g121, rfl⟩
              refine stepsF_cons ?_ ?_
              · refine StepF.unless 3 true 121 rfl rfl fun F_ w_ hR hout hD => ?_
                have g121 : F_ 121 = .bool false := hD.get 1 rfl rfl rfl
                exact ⟨Or.inl g121, rfl⟩
              refine stepsF_cons ?_ ?_
              · refine StepF.unless 3 true 121 rfl rfl fun F_ w_ hR hout hD => ?_
                have g121 : F_ 121 = .bool false := hD.get 1 rfl rfl rfl
                exact ⟨Or.inl g121, rfl⟩
              refine stepsF_cons ?_ ?_
              · refine StepF.unless 3 true 121 rfl rfl fun F_ w_ hR hout hD => ?_
                have g121 : F_ 121 = .bool false := hD.get 2 rfl rfl rfl
                exact ⟨Or.inl g121, rfl⟩
              refine stepsF_cons ?_ ?_
              · refine StepF.one rfl fun F_ w_ hR hout hD => ?_
                have g121 : F_ 121 = .bool false := hD.get 0 rfl rfl rfl
                exact (y_pickF rfl g121 rfl ⟨rfl, Kept.refl _ _⟩)
              exact stepsF_nil
            intro v858 F859 w860 k861 G862 hF863
            have B865 := B762.all k861 Apart.none
            have B866 := B763.all k861 id
            have B867 := B764.all k861 Apart.none
            have B868 := B765.all k861 Apart.none
            have B869 := B766.all k861 Apart.none
            have B870 := B767.all k861 id
            have B871 := B768.all k861 Apart.none
            have B872 := B769.all k861 Apart.none
            have B873 := B770.all k861 Apart.none
            have B874 := B771.all k861 id
            have B875 := B772.all k861 Apart.none
            have B876 := B773.all k861 Apart.none
            have B877 := B774.all k861 Apart.none
            have B878 := B775.all k861 id
            have K879 := K776.trans k861 (fun _ _ x => x.elim)
            have s880 : F859 15 = .bool true := (hF863 15).trans s796
            have s881 : F859 16 = .pointer (some ⟨p83, 0, none⟩) := (hF863 16).trans s797
            have s882 : F859 17 = .int .i64 (((k : Nat) : Int)) := (hF863 17).trans s798
            have s883 : F859 138 = undef := (hF863 138).trans s799
            have s884 : F859 23 = .pointer (some ⟨p328, 0, none⟩) := (hF863 23).trans s800
            have s885 : F859 25 = .bool true := (hF863 25).trans s801
            have s886 : F859 26 = .int .i64 (((2 : Nat) : Int)) := (hF863 26).trans s802
            have s887 : F859 133 = .bool false := (hF863 133).trans (G862 15 (by decide))
            clear G862 hF863
            refine then_normal ?_
            refine wq_cond (t := false) s887 (fun e => by cases e) (fun _ => ?_)
            refine wq_skip ?_
            refine in_normal ?_
            refine then_normal ?_
            refine wq_region ?_
            refine wl_v (.int .i64 (((2 : Nat) : Int))) rfl rfl (y_mov rfl s886 ⟨rfl, rfl⟩) ?_
            refine wl_v (.int .i64 (((3 : Nat) : Int))) rfl rfl (y_add rfl rfl rfl (i64_n (by omega) (by omega)) ⟨rfl, rfl⟩) ?_
            refine wl_v (.int .i64 (((3 : Nat) : Int))) rfl rfl (y_asg rfl rfl ⟨rfl, rfl⟩) ?_
            refine wl_nil fun F888 hF889 => ?_
            have s890 : F888 15 = .bool true := (hF889 15).trans s880
            have s891 : F888 16 = .pointer (some ⟨p83, 0, none⟩) := (hF889 16).trans s881
            have s892 : F888 17 = .int .i64 (((k : Nat) : Int)) := (hF889 17).trans s882
            have s893 : F888 138 = undef := (hF889 138).trans s883
            have s894 : F888 23 = .pointer (some ⟨p328, 0, none⟩) := (hF889 23).trans s884
            have s895 : F888 25 = .bool true := (hF889 25).trans s885
            have s896 : F888 26 = .int .i64 (((3 : Nat) : Int)) := (hF889 26).trans rfl
            clear hF889
            refine then_normal ?_
            refine wqr_step ?_
            refine wq_seq ?_
            refine wq_seq ?_
            refine wq_region ?_
            refine wl_v (.int .i64 (((3 : Nat) : Int))) rfl rfl (y_mov rfl s896 ⟨rfl, rfl⟩) ?_
            refine wl_v (.bool false) rfl rfl (y_lss rfl rfl rfl rfl ⟨rfl, rfl⟩) ?_
            refine wl_nil fun F897 hF898 => ?_
            have s899 : F897 15 = .bool true := (hF898 15).trans s890
            have s900 : F897 16 = .pointer (some ⟨p83, 0, none⟩) := (hF898 16).trans s891
            have s901 : F897 17 = .int .i64 (((k : Nat) : Int)) := (hF898 17).trans s892
            have s902 : F897 138 = undef := (hF898 138).trans s893
            have s903 : F897 23 = .pointer (some ⟨p328, 0, none⟩) := (hF898 23).trans s894
            have s904 : F897 25 = .bool true := (hF898 25).trans s895
            have s905 : F897 26 = .int .i64 (((3 : Nat) : Int)) := (hF898 26).trans s896
            have s906 : F897 115 = .bool false := (hF898 115).trans rfl
            clear hF898
            refine then_normal ?_
            refine wq_cond (t := false) s906 (fun e => by cases e) (fun _ => ?_)
            refine wq_exit ?_
            refine then_exit ?_
            refine then_exit ?_
            refine in_here ?_
            refine then_normal ?_
            refine wq_seq ?_
            refine wq_region ?_
            refine wl_v (.bool true) rfl rfl (y_mov rfl s899 ⟨rfl, rfl⟩) ?_
            refine wl_v (.bool true) rfl rfl (y_mov rfl rfl ⟨rfl, rfl⟩) ?_
            refine wl_vw (.bool true) 1 true 135 rfl rfl rfl rfl rfl (y_mov rfl s904 ⟨rfl, rfl⟩) ?_
            refine wl_v (.bool true) rfl rfl (y_pickT rfl rfl rfl ⟨rfl, rfl⟩) ?_
            refine wl_v (.bool true) rfl rfl (y_asg rfl rfl ⟨rfl, rfl⟩) ?_
            refine wl_nil fun F907 hF908 => ?_
            have s909 : F907 138 = undef := (hF908 138).trans s902
            have s910 : F907 14 = .bool true := (hF908 14).trans rfl
            clear hF908
            refine then_normal ?_
            refine wq_ret ?_
            exact end_tmp (v := .bool true) s909 rfl rfl s910 ⟨rfl, K879⟩
      · skip
        refine wq_said [some 118, some 119, some 120, some 121, some 122, some 123, some 124, some 125, some 126, some 127, some 128, some 129, some 130, some 131, some 132, some 133] [Pd.eq (.int .i64 (0)), Pd.eq (.int .i64 (((k : Nat) : Int))), Pd.eq (.bool false), Pd.eq (.bool false), Pd.eq undef, Pd.eq undef, Pd.eq undef, Pd.eq undef, Pd.eq undef, Pd.eq undef, Pd.eq undef, Pd.eq undef, Pd.eq undef, Pd.eq undef, Pd.eq undef, Pd.eq (.bool false)] (by kernel_rfl) (by kernel_rfl) ?_ ?_
        · refine stepsF_cons ?_ ?_
          · refine StepF.one rfl fun F_ w_ hR hout hD => ?_
            exact (y_mov rfl ((hout 26 rfl (by decide)).trans s546) ⟨rfl, Kept.refl _ _⟩)
          refine stepsF_cons ?_ ?_
          · refine StepF.one rfl fun F_ w_ hR hout hD => ?_
            exact (y_mov rfl ((hout 17 rfl (by decide)).trans s542) ⟨rfl, Kept.refl _ _⟩)
          refine stepsF_cons ?_ ?_
          · refine StepF.one rfl fun F_ w_ hR hout hD => ?_
            have g118 : F_ 118 = .int .i64 (0) := hD.get 0 rfl rfl rfl
            have g119 : F_ 119 = .int .i64 (((k : Nat) : Int)) := hD.get 1 rfl rfl rfl
            exact (y_neqI rfl g118 g119 (decide_eq_false d548) ⟨rfl, Kept.refl _ _⟩)
          refine stepsF_cons ?_ ?_
          · refine StepF.one rfl fun F_ w_ hR hout hD => ?_
            have g120 : F_ 120 = .bool false := hD.get 0 rfl rfl rfl
            exact (y_mov rfl g120 ⟨rfl, Kept.refl _ _⟩)
          refine stepsF_cons ?_ ?_
          · refine StepF.unless 3 true 121 rfl rfl fun F_ w_ hR hout hD => ?_
            have g121 : F_ 121 = .bool false := hD.get 0 rfl rfl rfl
            exact ⟨Or.inl g121, rfl⟩
          refine stepsF_cons ?_ ?_
          · refine StepF.unless 3 true 121 rfl rfl fun F_ w_ hR hout hD => ?_
            have g121 : F_ 121 = .bool false := hD.get 0 rfl rfl rfl
            exact ⟨Or.inl g121, rfl⟩
          refine stepsF_cons ?_ ?_
          · refine StepF.unless 3 true 121 rfl rfl fun F_ w_ hR hout hD => ?_
            have g121 : F_ 121 = .bool false := hD.get 2 rfl rfl rfl
            exact ⟨Or.inl g121, rfl⟩
          refine stepsF_cons ?_ ?_
          · refine StepF.unless 3 true 121 rfl rfl fun F_ w_ hR hout hD => ?_
            have g121 : F_ 121 = .bool false := hD.get 1 rfl rfl rfl
            exact ⟨Or.inl g121, rfl⟩
          refine stepsF_cons ?_ ?_
          · refine StepF.unless 3 true 121 rfl rfl fun F_ w_ hR hout hD => ?_
            have g121 : F_ 121 = .bool false := hD.get 1 rfl rfl rfl
            exact ⟨Or.inl g121, rfl⟩
          refine stepsF_cons ?_ ?_
          · refine StepF.unless 3 true 121 rfl rfl fun F_ w_ hR hout hD => ?_
            have g121 : F_ 121 = .bool false := hD.get 0 rfl rfl rfl
            exact ⟨Or.inl g121, rfl⟩
          refine stepsF_cons ?_ ?_
          · refine StepF.unless 3 true 121 rfl rfl fun F_ w_ hR hout hD => ?_
            have g121 : F_ 121 = .bool false := hD.get 0 rfl rfl rfl
            exact ⟨Or.inl g121, rfl⟩
          refine stepsF_cons ?_ ?_
          · refine StepF.unless 3 true 121 rfl rfl fun F_ w_ hR hout hD => ?_
            have g121 : F_ 121 = .bool false := hD.get 2 rfl rfl rfl
            exact ⟨Or.inl g121, rfl⟩
          refine stepsF_cons ?_ ?_
          · refine StepF.unless 3 true 121 rfl rfl fun F_ w_ hR hout hD => ?_
            have g121 : F_ 121 = .bool false := hD.get 1 rfl rfl rfl
            exact ⟨Or.inl g121, rfl⟩
          refine stepsF_cons ?_ ?_
          · refine StepF.unless 3 true 121 rfl rfl fun F_ w_ hR hout hD => ?_
            have g121 : F_ 121 = .bool false := hD.get 1 rfl rfl rfl
            exact ⟨Or.inl g121, rfl⟩
          refine stepsF_cons ?_ ?_
          · refine StepF.unless 3 true 121 rfl rfl fun F_ w_ hR hout hD => ?_
            have g121 : F_ 121 = .bool false := hD.get 2 rfl rfl rfl
            exact ⟨Or.inl g121, rfl⟩
          refine stepsF_cons ?_ ?_
          · refine StepF.one rfl fun F_ w_ hR hout hD => ?_
            have g121 : F_ 121 = .bool false := hD.get 0 rfl rfl rfl
            exact (y_pickF rfl g121 rfl ⟨rfl, Kept.refl _ _⟩)
          exact stepsF_nil
        intro v911 F912 w913 k914 G915 hF916
        have B918 := B508.all k914 Apart.none
        have B919 := B509.all k914 id
        have B920 := B510.all k914 Apart.none
        have B921 := B511.all k914 Apart.none
        have B922 := B512.all k914 Apart.none
        have B923 := B513.all k914 id
        have B924 := B514.all k914 Apart.none
        have B925 := B515.all k914 Apart.none
        have B926 := B516.all k914 Apart.none
        have B927 := B517.all k914 id
        have B928 := B518.all k914 Apart.none
        have B929 := B519.all k914 Apart.none
        have B930 := B520.all k914 Apart.none
        have B931 := B521.all k914 id
        have K932 := K522.trans k914 (fun _ _ x => x.elim)
        have s933 : F912 15 = .bool true := (hF916 15).trans s540
        have s934 : F912 16 = .pointer (some ⟨p83, 0, none⟩) := (hF916 16).trans s541
        have s935 : F912 17 = .int .i64 (((k : Nat) : Int)) := (hF916 17).trans s542
        have s936 : F912 138 = undef := (hF916 138).trans s543
        have s937 : F912 23 = .pointer (some ⟨p328, 0, none⟩) := (hF916 23).trans s544
        have s938 : F912 25 = .bool true := (hF916 25).trans s545
        have s939 : F912 26 = .int .i64 (0) := (hF916 26).trans s546
        have s940 : F912 133 = .bool false := (hF916 133).trans (G915 15 (by decide))
        clear G915 hF916
        refine then_normal ?_
        refine wq_cond (t := false) s940 (fun e => by cases e) (fun _ => ?_)
        refine wq_skip ?_
        refine in_normal ?_
        refine then_normal ?_
        refine wq_region ?_
        refine wl_v (.int .i64 (0)) rfl rfl (y_mov rfl s939 ⟨rfl, rfl⟩) ?_
        refine wl_v (.int .i64 (((1 : Nat) : Int))) rfl rfl (y_add rfl rfl rfl (i64_n (by omega) (by omega)) ⟨rfl, rfl⟩) ?_
        refine wl_v (.int .i64 (((1 : Nat) : Int))) rfl rfl (y_asg rfl rfl ⟨rfl, rfl⟩) ?_
        refine wl_nil fun F941 hF942 => ?_
        have s943 : F941 15 = .bool true := (hF942 15).trans s933
        have s944 : F941 16 = .pointer (some ⟨p83, 0, none⟩) := (hF942 16).trans s934
        have s945 : F941 17 = .int .i64 (((k : Nat) : Int)) := (hF942 17).trans s935
        have s946 : F941 138 = undef := (hF942 138).trans s936
        have s947 : F941 23 = .pointer (some ⟨p328, 0, none⟩) := (hF942 23).trans s937
        have s948 : F941 25 = .bool true := (hF942 25).trans s938
        have s949 : F941 26 = .int .i64 (((1 : Nat) : Int)) := (hF942 26).trans rfl
        clear hF942
        refine then_normal ?_
        refine wqr_step ?_
        refine wq_seq ?_
        refine wq_seq ?_
        refine wq_region ?_
        refine wl_v (.int .i64 (((1 : Nat) : Int))) rfl rfl (y_mov rfl s949 ⟨rfl, rfl⟩) ?_
        refine wl_v (.bool true) rfl rfl (y_lss rfl rfl rfl rfl ⟨rfl, rfl⟩) ?_
        refine wl_nil fun F950 hF951 => ?_
        have s952 : F950 15 = .bool true := (hF951 15).trans s943
        have s953 : F950 16 = .pointer (some ⟨p83, 0, none⟩) := (hF951 16).trans s944
        have s954 : F950 17 = .int .i64 (((k : Nat) : Int)) := (hF951 17).trans s945
        have s955 : F950 138 = undef := (hF951 138).trans s946
        have s956 : F950 23 = .pointer (some ⟨p328, 0, none⟩) := (hF951 23).trans s947
        have s957 : F950 25 = .bool true := (hF951 25).trans s948
        have s958 : F950 26 = .int .i64 (((1 : Nat) : Int)) := (hF951 26).trans s949
        have s959 : F950 115 = .bool true := (hF951 115).trans rfl
        clear hF951
        refine then_normal ?_
        refine wq_cond (t := true) s959 (fun _ => ?_) (fun e => by cases e)
        refine wq_skip ?_
        refine then_normal ?_
        refine wq_seq ?_
        refine wq_block ?_
        refine wq_seq ?_
        by_cases d960 : (((1 : Nat) : Int)) ≠ (((k : Nat) : Int))
        · skip
          refine wq_said [some 118, some 119, some 120, some 121, some 122, some 123, some 124, some 125, some 126, some 127, some 128, some 129, some 130, some 131, some 132, some 133] [Pd.eq (.int .i64 (((1 : Nat) : Int))), Pd.eq (.int .i64 (((k : Nat) : Int))), Pd.eq (.bool true), Pd.eq (.bool true), Pd.eq (.int .i64 (((1 : Nat) : Int))), Pd.eq (.pointer (some ⟨p328, 2, none⟩)), Pd.eq (.pointer (some ⟨p328, 3, none⟩)), Pd.eq (v284), Pd.eq (.string (textOf ((putFr (mkF (w) (h) (l)) (((k : Nat) : Int)) (A) (R) (cb b)).p1))), Pd.eq (.int .i64 (((1 : Nat) : Int))), Pd.eq (.pointer (some ⟨p83, 2, none⟩)), Pd.eq (.pointer (some ⟨p83, 3, none⟩)), Pd.eq (v55), Pd.eq (.string (textOf ((mkF (w) (h) (l)).p1))), Pd.eq (.bool false), Pd.eq (.bool false)] (by kernel_rfl) (by kernel_rfl) ?_ ?_
          · refine stepsF_cons ?_ ?_
            · refine StepF.one rfl fun F_ w_ hR hout hD => ?_
              exact (y_mov rfl ((hout 26 rfl (by decide)).trans s958) ⟨rfl, Kept.refl _ _⟩)
            refine stepsF_cons ?_ ?_
            · refine StepF.one rfl fun F_ w_ hR hout hD => ?_
              exact (y_mov rfl ((hout 17 rfl (by decide)).trans s954) ⟨rfl, Kept.refl _ _⟩)
            refine stepsF_cons ?_ ?_
            · refine StepF.one rfl fun F_ w_ hR hout hD => ?_
              have g118 : F_ 118 = .int .i64 (((1 : Nat) : Int)) := hD.get 0 rfl rfl rfl
              have g119 : F_ 119 = .int .i64 (((k : Nat) : Int)) := hD.get 1 rfl rfl rfl
              exact (y_neqI rfl g118 g119 (decide_eq_true d960) ⟨rfl, Kept.refl _ _⟩)
            refine stepsF_cons ?_ ?_
            · refine StepF.one rfl fun F_ w_ hR hout hD => ?_
              have g120 : F_ 120 = .bool true := hD.get 0 rfl rfl rfl
              exact (y_mov rfl g120 ⟨rfl, Kept.refl _ _⟩)
            refine stepsF_cons ?_ ?_
            · refine StepF.when 3 true 121 rfl rfl fun F_ w_ hR hout hD => ?_
              have g121 : F_ 121 = .bool true := hD.get 0 rfl rfl rfl
              exact ⟨g121, (y_mov rfl ((hout 26 rfl (by decide)).trans s958) ⟨rfl, Kept.refl _ _⟩)⟩
            refine stepsF_cons ?_ ?_
            · refine StepF.when 3 true 121 rfl rfl fun F_ w_ hR hout hD => ?_
              have g121 : F_ 121 = .bool true := hD.get 0 rfl rfl rfl
              exact ⟨g121, (y_fieldR (n := 3) rfl ((hout 23 rfl (by decide)).trans s956) Try.underlying25 rfl (by kernel_rfl) (by decide) rfl ⟨rfl, Kept.refl _ _⟩)⟩
            refine stepsF_cons ?_ ?_
            · refine StepF.when 3 true 121 rfl rfl fun F_ w_ hR hout hD => ?_
              have g121 : F_ 121 = .bool true := hD.get 2 rfl rfl rfl
              have g123 : F_ 123 = .pointer (some ⟨p328, 2, none⟩) := hD.get 0 rfl rfl rfl
              have g122 : F_ 122 = .int .i64 (((1 : Nat) : Int)) := hD.get 1 rfl rfl rfl
              exact ⟨g121, (y_atR (1) (s := 1) rfl g123 g122 (by omega) Try.underlying23 (by omega) (by kernel_rfl) (by omega) ⟨rfl, Kept.refl _ _⟩)⟩
            refine stepsF_cons ?_ ?_
            · refine StepF.when 3 true 121 rfl rfl fun F_ w_ hR hout hD => ?_
              have g121 : F_ 121 = .bool true := hD.get 1 rfl rfl rfl
              have g124 : F_ 124 = .pointer (some ⟨p328, 3, none⟩) := hD.get 0 rfl rfl rfl
              exact ⟨g121, (y_ld_stc rfl g124 Try.underlying22 (B927.all hR id) rfl rfl ⟨rfl, Kept.refl _ _⟩)⟩
            refine stepsF_cons ?_ ?_
            · refine StepF.when 3 true 121 rfl rfl fun F_ w_ hR hout hD => ?_
              have g121 : F_ 121 = .bool true := hD.get 1 rfl rfl rfl
              have g125 : F_ 125 = v284 := hD.get 0 rfl rfl rfl
              exact ⟨g121, (y_text rfl (bytes_at g125 ((B925.all hR Apart.none)).byt) ⟨rfl, Kept.refl _ _⟩)⟩
            refine stepsF_cons ?_ ?_
            · refine StepF.when 3 true 121 rfl rfl fun F_ w_ hR hout hD => ?_
              have g121 : F_ 121 = .bool true := hD.get 0 rfl rfl rfl
              exact ⟨g121, (y_mov rfl ((hout 26 rfl (by decide)).trans s958) ⟨rfl, Kept.refl _ _⟩)⟩
            refine stepsF_cons ?_ ?_
            · refine StepF.when 3 true 121 rfl rfl fun F_ w_ hR hout hD => ?_
              have g121 : F_ 121 = .bool true := hD.get 0 rfl rfl rfl
              exact ⟨g121, (y_fieldR (n := 3) rfl ((hout 16 rfl (by decide)).trans s953) Try.underlying25 rfl (by kernel_rfl) (by decide) rfl ⟨rfl, Kept.refl _ _⟩)⟩
            refine stepsF_cons ?_ ?_
            · refine StepF.when 3 true 121 rfl rfl fun F_ w_ hR hout hD => ?_
              have g121 : F_ 121 = .bool true := hD.get 2 rfl rfl rfl
              have g128 : F_ 128 = .pointer (some ⟨p83, 2, none⟩) := hD.get 0 rfl rfl rfl
              have g127 : F_ 127 = .int .i64 (((1 : Nat) : Int)) := hD.get 1 rfl rfl rfl
              exact ⟨g121, (y_atR (1) (s := 1) rfl g128 g127 (by omega) Try.underlying23 (by omega) (by kernel_rfl) (by omega) ⟨rfl, Kept.refl _ _⟩)⟩
            refine stepsF_cons ?_ ?_
            · refine StepF.when 3 true 121 rfl rfl fun F_ w_ hR hout hD => ?_
              have g121 : F_ 121 = .bool true := hD.get 1 rfl rfl rfl
              have g129 : F_ 129 = .pointer (some ⟨p83, 3, none⟩) := hD.get 0 rfl rfl rfl
              exact ⟨g121, (y_ld_stc rfl g129 Try.underlying22 (B923.all hR id) rfl rfl ⟨rfl, Kept.refl _ _⟩)⟩
            refine stepsF_cons ?_ ?_
            · refine StepF.when 3 true 121 rfl rfl fun F_ w_ hR hout hD => ?_
              have g121 : F_ 121 = .bool true := hD.get 1 rfl rfl rfl
              have g130 : F_ 130 = v55 := hD.get 0 rfl rfl rfl
              exact ⟨g121, (y_text rfl (bytes_at g130 ((B921.all hR Apart.none)).byt) ⟨rfl, Kept.refl _ _⟩)⟩
            refine stepsF_cons ?_ ?_
            · refine StepF.when 3 true 121 rfl rfl fun F_ w_ hR hout hD => ?_
              have g121 : F_ 121 = .bool true := hD.get 2 rfl rfl rfl
              have g126 : F_ 126 = .string (textOf ((putFr (mkF (w) (h) (l)) (((k : Nat) : Int)) (A) (R) (cb b)).p1)) := hD.get 0 rfl rfl rfl
              have g131 : F_ 131 = .string (textOf ((mkF (w) (h) (l)).p1)) := hD.get 1 rfl rfl rfl
              exact ⟨g121, (y_neqS rfl g126 g131 (other_text hin (cb b) 1 (by decide) (by decide) (by first | assumption | omega)) ⟨rfl, Kept.refl _ _⟩)⟩
            refine stepsF_cons ?_ ?_
            · refine StepF.one rfl fun F_ w_ hR hout hD => ?_
              have g121 : F_ 121 = .bool true := hD.get 0 rfl rfl rfl
              have g132 : F_ 132 = .bool false := hD.get 1 rfl rfl rfl
              exact (y_pickT rfl g121 g132 ⟨rfl, Kept.refl _ _⟩)
            exact stepsF_nil
          intro v961 F962 w963 k964 G965 hF966
          have B968 := B918.all k964 Apart.none
          have B969 := B919.all k964 id
          have B970 := B920.all k964 Apart.none
          have B971 := B921.all k964 Apart.none
          have B972 := B922.all k964 Apart.none
          have B973 := B923.all k964 id
          have B974 := B924.all k964 Apart.none
          have B975 := B925.all k964 Apart.none
          have B976 := B926.all k964 Apart.none
          have B977 := B927.all k964 id
          have B978 := B928.all k964 Apart.none
          have B979 := B929.all k964 Apart.none
          have B980 := B930.all k964 Apart.none
          have B981 := B931.all k964 id
          have K982 := K932.trans k964 (fun _ _ x => x.elim)
          have s983 : F962 15 = .bool true := (hF966 15).trans s952
          have s984 : F962 16 = .pointer (some ⟨p83, 0, none⟩) := (hF966 16).trans s953
          have s985 : F962 17 = .int .i64 (((k : Nat) : Int)) := (hF966 17).trans s954
          have s986 : F962 138 = undef := (hF966 138).trans s955
          have s987 : F962 23 = .pointer (some ⟨p328, 0, none⟩) := (hF966 23).trans s956
          have s988 : F962 25 = .bool true := (hF966 25).trans s957
          have s989 : F962 26 = .int .i64 (((1 : Nat) : Int)) := (hF966 26).trans s958
          have s990 : F962 133 = .bool false := (hF966 133).trans (G965 15 (by decide))
          clear G965 hF966
          refine then_normal ?_
          refine wq_cond (t := false) s990 (fun e => by cases e) (fun _ => ?_)
          refine wq_skip ?_
          refine in_normal ?_
          refine then_normal ?_
          refine wq_region ?_
          refine wl_v (.int .i64 (((1 : Nat) : Int))) rfl rfl (y_mov rfl s989 ⟨rfl, rfl⟩) ?_
          refine wl_v (.int .i64 (((2 : Nat) : Int))) rfl rfl (y_add rfl rfl rfl (i64_n (by omega) (by omega)) ⟨rfl, rfl⟩) ?_
          refine wl_v (.int .i64 (((2 : Nat) : Int))) rfl rfl (y_asg rfl rfl ⟨rfl, rfl⟩) ?_
          refine wl_nil fun F991 hF992 => ?_
          have s993 : F991 15 = .bool true := (hF992 15).trans s983
          have s994 : F991 16 = .pointer (some ⟨p83, 0, none⟩) := (hF992 16).trans s984
          have s995 : F991 17 = .int .i64 (((k : Nat) : Int)) := (hF992 17).trans s985
          have s996 : F991 138 = undef := (hF992 138).trans s986
          have s997 : F991 23 = .pointer (some ⟨p328, 0, none⟩) := (hF992 23).trans s987
          have s998 : F991 25 = .bool true := (hF992 25).trans s988
          have s999 : F991 26 = .int .i64 (((2 : Nat) : Int)) := (hF992 26).trans rfl
          clear hF992
          refine then_normal ?_
          refine wqr_step ?_
          refine wq_seq ?_
          refine wq_seq ?_
          refine wq_region ?_
          refine wl_v (.int .i64 (((2 : Nat) : Int))) rfl rfl (y_mov rfl s999 ⟨rfl, rfl⟩) ?_
          refine wl_v (.bool true) rfl rfl (y_lss rfl rfl rfl rfl ⟨rfl, rfl⟩) ?_
          refine wl_nil fun F1000 hF1001 => ?_
          have s1002 : F1000 15 = .bool true := (hF1001 15).trans s993
          have s1003 : F1000 16 = .pointer (some ⟨p83, 0, none⟩) := (hF1001 16).trans s994
          have s1004 : F1000 17 = .int .i64 (((k : Nat) : Int)) := (hF1001 17).trans s995
          have s1005 : F1000 138 = undef := (hF1001 138).trans s996
          have s1006 : F1000 23 = .pointer (some ⟨p328, 0, none⟩) := (hF1001 23).trans s997
          have s1007 : F1000 25 = .bool true := (hF1001 25).trans s998
          have s1008 : F1000 26 = .int .i64 (((2 : Nat) : Int)) := (hF1001 26).trans s999
          have s1009 : F1000 115 = .bool true := (hF1001 115).trans rfl
          clear hF1001
          refine then_normal ?_
          refine wq_cond (t := true) s1009 (fun _ => ?_) (fun e => by cases e)
          refine wq_skip ?_
          refine then_normal ?_
          refine wq_seq ?_
          refine wq_block ?_
          refine wq_seq ?_
          by_cases d1010 : (((2 : Nat) : Int)) ≠ (((k : Nat) : Int))
          · skip
            refine wq_said [some 118, some 119, some 120, some 121, some 122, some 123, some 124, some 125, some 126, some 127, some 128, some 129, some 130, some 131, some 132, some 133] [Pd.eq (.int .i64 (((2 : Nat) : Int))), Pd.eq (.int .i64 (((k : Nat) : Int))), Pd.eq (.bool true), Pd.eq (.bool true), Pd.eq (.int .i64 (((2 : Nat) : Int))), Pd.eq (.pointer (some ⟨p328, 2, none⟩)), Pd.eq (.pointer (some ⟨p328, 4, none⟩)), Pd.eq (v285), Pd.eq (.string (textOf ((putFr (mkF (w) (h) (l)) (((k : Nat) : Int)) (A) (R) (cb b)).p2))), Pd.eq (.int .i64 (((2 : Nat) : Int))), Pd.eq (.pointer (some ⟨p83, 2, none⟩)), Pd.eq (.pointer (some ⟨p83, 4, none⟩)), Pd.eq (v56), Pd.eq (.string (textOf ((mkF (w) (h) (l)).p2))), Pd.eq (.bool false), Pd.eq (.bool false)] (by kernel_rfl) (by kernel_rfl) ?_ ?_
            · refine stepsF_cons ?_ ?_
              · refine StepF.one rfl fun F_ w_ hR hout hD => ?_
                exact (y_mov rfl ((hout 26 rfl (by decide)).trans s1008) ⟨rfl, Kept.refl _ _⟩)
              refine stepsF_cons ?_ ?_
              · refine StepF.one rfl fun F_ w_ hR hout hD => ?_
                exact (y_mov rfl ((hout 17 rfl (by decide)).trans s1004) ⟨rfl, Kept.refl _ _⟩)
              refine stepsF_cons ?_ ?_
              · refine StepF.one rfl fun F_ w_ hR hout hD => ?_
                have g118 : F_ 118 = .int .i64 (((2 : Nat) : Int)) := hD.get 0 rfl rfl rfl
                have g119 : F_ 119 = .int .i64 (((k : Nat) : Int)) := hD.get 1 rfl rfl rfl
                exact (y_neqI rfl g118 g119 (decide_eq_true d1010) ⟨rfl, Kept.refl _ _⟩)
              refine stepsF_cons ?_ ?_
              · refine StepF.one rfl fun F_ w_ hR hout hD => ?_
                have g120 : F_ 120 = .bool true := hD.get 0 rfl rfl rfl
                exact (y_mov rfl g120 ⟨rfl, Kept.refl _ _⟩)
              refine stepsF_cons ?_ ?_
              · refine StepF.when 3 true 121 rfl rfl fun F_ w_ hR hout hD => ?_
                have g121 : F_ 121 = .bool true := hD.get 0 rfl rfl rfl
                exact ⟨g121, (y_mov rfl ((hout 26 rfl (by decide)).trans s1008) ⟨rfl, Kept.refl _ _⟩)⟩
              refine stepsF_cons ?_ ?_
              · refine StepF.when 3 true 121 rfl rfl fun F_ w_ hR hout hD => ?_
                have g121 : F_ 121 = .bool true := hD.get 0 rfl rfl rfl
                exact ⟨g121, (y_fieldR (n := 3) rfl ((hout 23 rfl (by decide)).trans s1006) Try.underlying25 rfl (by kernel_rfl) (by decide) rfl ⟨rfl, Kept.refl _ _⟩)⟩
              refine stepsF_cons ?_ ?_
              · refine StepF.when 3 true 121 rfl rfl fun F_ w_ hR hout hD => ?_
                have g121 : F_ 121 = .bool true := hD.get 2 rfl rfl rfl
                have g123 : F_ 123 = .pointer (some ⟨p328, 2, none⟩) := hD.get 0 rfl rfl rfl
                have g122 : F_ 122 = .int .i64 (((2 : Nat) : Int)) := hD.get 1 rfl rfl rfl
                exact ⟨g121, (y_atR (2) (s := 1) rfl g123 g122 (by omega) Try.underlying23 (by omega) (by kernel_rfl) (by omega) ⟨rfl, Kept.refl _ _⟩)⟩
              refine stepsF_cons ?_ ?_
              · refine StepF.when 3 true 121 rfl rfl fun F_ w_ hR hout hD => ?_
                have g121 : F_ 121 = .bool true := hD.get 1 rfl rfl rfl
                have g124 : F_ 124 = .pointer (some ⟨p328, 4, none⟩) := hD.get 0 rfl rfl rfl
                exact ⟨g121, (y_ld_stc rfl g124 Try.underlying22 (B977.all hR id) rfl rfl ⟨rfl, Kept.refl _ _⟩)⟩
              refine stepsF_cons ?_ ?_
              · refine StepF.when 3 true 121 rfl rfl fun F_ w_ hR hout hD => ?_
                have g121 : F_ 121 = .bool true := hD.get 1 rfl rfl rfl
                have g125 : F_ 125 = v285 := hD.get 0 rfl rfl rfl
                exact ⟨g121, (y_text rfl (bytes_at g125 ((B976.all hR Apart.none)).byt) ⟨rfl, Kept.refl _ _⟩)⟩
              refine stepsF_cons ?_ ?_
              · refine StepF.when 3 true 121 rfl rfl fun F_ w_ hR hout hD => ?_
                have g121 : F_ 121 = .bool true := hD.get 0 rfl rfl rfl
                exact ⟨g121, (y_mov rfl ((hout 26 rfl (by decide)).trans s1008) ⟨rfl, Kept.refl _ _⟩)⟩
              refine stepsF_cons ?_ ?_
              · refine StepF.when 3 true 121 rfl rfl fun F_ w_ hR hout hD => ?_
                have g121 : F_ 121 = .bool true := hD.get 0 rfl rfl rfl
                exact ⟨g121, (y_fieldR (n := 3) rfl ((hout 16 rfl (by decide)).trans s1003) Try.underlying25 rfl (by kernel_rfl) (by decide) rfl ⟨rfl, Kept.refl _ _⟩)⟩
              refine stepsF_cons ?_ ?_
              · refine StepF.when 3 true 121 rfl rfl fun F_ w_ hR hout hD => ?_
                have g121 : F_ 121 = .bool true := hD.get 2 rfl rfl rfl
                have g128 : F_ 128 = .pointer (some ⟨p83, 2, none⟩) := hD.get 0 rfl rfl rfl
                have g127 : F_ 127 = .int .i64 (((2 : Nat) : Int)) := hD.get 1 rfl rfl rfl
                exact ⟨g121, (y_atR (2) (s := 1) rfl g128 g127 (by omega) Try.underlying23 (by omega) (by kernel_rfl) (by omega) ⟨rfl, Kept.refl _ _⟩)⟩
              refine stepsF_cons ?_ ?_
              · refine StepF.when 3 true 121 rfl rfl fun F_ w_ hR hout hD => ?_
                have g121 : F_ 121 = .bool true := hD.get 1 rfl rfl rfl
                have g129 : F_ 129 = .pointer (some ⟨p83, 4, none⟩) := hD.get 0 rfl rfl rfl
                exact ⟨g121, (y_ld_stc rfl g129 Try.underlying22 (B973.all hR id) rfl rfl ⟨rfl, Kept.refl _ _⟩)⟩
              refine stepsF_cons ?_ ?_
              · refine StepF.when 3 true 121 rfl rfl fun F_ w_ hR hout hD => ?_
                have g121 : F_ 121 = .bool true := hD.get 1 rfl rfl rfl
                have g130 : F_ 130 = v56 := hD.get 0 rfl rfl rfl
                exact ⟨g121, (y_text rfl (bytes_at g130 ((B972.all hR Apart.none)).byt) ⟨rfl, Kept.refl _ _⟩)⟩
              refine stepsF_cons ?_ ?_
              · refine StepF.when 3 true 121 rfl rfl fun F_ w_ hR hout hD => ?_
                have g121 : F_ 121 = .bool true := hD.get 2 rfl rfl rfl
                have g126 : F_ 126 = .string (textOf ((putFr (mkF (w) (h) (l)) (((k : Nat) : Int)) (A) (R) (cb b)).p2)) := hD.get 0 rfl rfl rfl
                have g131 : F_ 131 = .string (textOf ((mkF (w) (h) (l)).p2)) := hD.get 1 rfl rfl rfl
                exact ⟨g121, (y_neqS rfl g126 g131 (other_text hin (cb b) 2 (by decide) (by decide) (by first | assumption | omega)) ⟨rfl, Kept.refl _ _⟩)⟩
              refine stepsF_cons ?_ ?_
              · refine StepF.one rfl fun F_ w_ hR hout hD => ?_
                have g121 : F_ 121 = .bool true := hD.get 0 rfl rfl rfl
                have g132 : F_ 132 = .bool false := hD.get 1 rfl rfl rfl
                exact (y_pickT rfl g121 g132 ⟨rfl, Kept.refl _ _⟩)
              exact stepsF_nil
            intro v1011 F1012 w1013 k1014 G1015 hF1016
            have B1018 := B968.all k1014 Apart.none
            have B1019 := B969.all k1014 id
            have B1020 := B970.all k1014 Apart.none
            have B1021 := B971.all k1014 Apart.none
            have B1022 := B972.all k1014 Apart.none
            have B1023 := B973.all k1014 id
            have B1024 := B974.all k1014 Apart.none
            have B1025 := B975.all k1014 Apart.none
            have B1026 := B976.all k1014 Apart.none
            have B1027 := B977.all k1014 id
            have B1028 := B978.all k1014 Apart.none
            have B1029 := B979.all k1014 Apart.none
            have B1030 := B980.all k1014 Apart.none
            have B1031 := B981.all k1014 id
            have K1032 := K982.trans k1014 (fun _ _ x => x.elim)
            have s1033 : F1012 15 = .bool true := (hF1016 15).trans s1002
            have s1034 : F1012 16 = .pointer (some ⟨p83, 0, none⟩) := (hF1016 16).trans s1003
            have s1035 : F1012 17 = .int .i64 (((k : Nat) : Int)) := (hF1016 17).trans s1004
            have s1036 : F1012 138 = undef := (hF1016 138).trans s1005
            have s1037 : F1012 23 = .pointer (some ⟨p328, 0, none⟩) := (hF1016 23).trans s1006
            have s1038 : F1012 25 = .bool true := (hF1016 25).trans s1007
            have s1039 : F1012 26 = .int .i64 (((2 : Nat) : Int)) := (hF1016 26).trans s1008
            have s1040 : F1012 133 = .bool false := (hF1016 133).trans (G1015 15 (by decide))
            clear G1015 hF1016
            refine then_normal ?_
            refine wq_cond (t := false) s1040 (fun e => by cases e) (fun _ => ?_)
            refine wq_skip ?_
            refine in_normal ?_
            refine then_normal ?_
            refine wq_region ?_
            refine wl_v (.int .i64 (((2 : Nat) : Int))) rfl rfl (y_mov rfl s1039 ⟨rfl, rfl⟩) ?_
            refine wl_v (.int .i64 (((3 : Nat) : Int))) rfl rfl (y_add rfl rfl rfl (i64_n (by omega) (by omega)) ⟨rfl, rfl⟩) ?_
            refine wl_v (.int .i64 (((3 : Nat) : Int))) rfl rfl (y_asg rfl rfl ⟨rfl, rfl⟩) ?_
            refine wl_nil fun F1041 hF1042 => ?_
            have s1043 : F1041 15 = .bool true := (hF1042 15).trans s1033
            have s1044 : F1041 16 = .pointer (some ⟨p83, 0, none⟩) := (hF1042 16).trans s1034
            have s1045 : F1041 17 = .int .i64 (((k : Nat) : Int)) := (hF1042 17).trans s1035
            have s1046 : F1041 138 = undef := (hF1042 138).trans s1036
            have s1047 : F1041 23 = .pointer (some ⟨p328, 0, none⟩) := (hF1042 23).trans s1037
            have s1048 : F1041 25 = .bool true := (hF1042 25).trans s1038
            have s1049 : F1041 26 = .int .i64 (((3 : Nat) : Int)) := (hF1042 26).trans rfl
            clear hF1042
            refine then_normal ?_
            refine wqr_step ?_
            refine wq_seq ?_
            refine wq_seq ?_
            refine wq_region ?_
            refine wl_v (.int .i64 (((3 : Nat) : Int))) rfl rfl (y_mov rfl s1049 ⟨rfl, rfl⟩) ?_
            refine wl_v (.bool false) rfl rfl (y_lss rfl rfl rfl rfl ⟨rfl, rfl⟩) ?_
            refine wl_nil fun F1050 hF1051 => ?_
            have s1052 : F1050 15 = .bool true := (hF1051 15).trans s1043
            have s1053 : F1050 16 = .pointer (some ⟨p83, 0, none⟩) := (hF1051 16).trans s1044
            have s1054 : F1050 17 = .int .i64 (((k : Nat) : Int)) := (hF1051 17).trans s1045
            have s1055 : F1050 138 = undef := (hF1051 138).trans s1046
            have s1056 : F1050 23 = .pointer (some ⟨p328, 0, none⟩) := (hF1051 23).trans s1047
            have s1057 : F1050 25 = .bool true := (hF1051 25).trans s1048
            have s1058 : F1050 26 = .int .i64 (((3 : Nat) : Int)) := (hF1051 26).trans s1049
            have s1059 : F1050 115 = .bool false := (hF1051 115).trans rfl
            clear hF1051
            refine then_normal ?_
            refine wq_cond (t := false) s1059 (fun e => by cases e) (fun _ => ?_)
            refine wq_exit ?_
            refine then_exit ?_
            refine then_exit ?_
            refine in_here ?_
            refine then_normal ?_
            refine wq_seq ?_
            refine wq_region ?_
            refine wl_v (.bool true) rfl rfl (y_mov rfl s1052 ⟨rfl, rfl⟩) ?_
            refine wl_v (.bool true) rfl rfl (y_mov rfl rfl ⟨rfl, rfl⟩) ?_
            refine wl_vw (.bool true) 1 true 135 rfl rfl rfl rfl rfl (y_mov rfl s1057 ⟨rfl, rfl⟩) ?_
            refine wl_v (.bool true) rfl rfl (y_pickT rfl rfl rfl ⟨rfl, rfl⟩) ?_
            refine wl_v (.bool true) rfl rfl (y_asg rfl rfl ⟨rfl, rfl⟩) ?_
            refine wl_nil fun F1060 hF1061 => ?_
            have s1062 : F1060 138 = undef := (hF1061 138).trans s1055
            have s1063 : F1060 14 = .bool true := (hF1061 14).trans rfl
            clear hF1061
            refine then_normal ?_
            refine wq_ret ?_
            exact end_tmp (v := .bool true) s1062 rfl rfl s1063 ⟨rfl, K1032⟩
          · skip
            refine wq_said [some 118, some 119, some 120, some 121, some 122, some 123, some 124, some 125, some 126, some 127, some 128, some 129, some 130, some 131, some 132, some 133] [Pd.eq (.int .i64 (((2 : Nat) : Int))), Pd.eq (.int .i64 (((k : Nat) : Int))), Pd.eq (.bool false), Pd.eq (.bool false), Pd.eq undef, Pd.eq undef, Pd.eq undef, Pd.eq undef, Pd.eq undef, Pd.eq undef, Pd.eq undef, Pd.eq undef, Pd.eq undef, Pd.eq undef, Pd.eq undef, Pd.eq (.bool false)] (by kernel_rfl) (by kernel_rfl) ?_ ?_
            · refine stepsF_cons ?_ ?_
              · refine StepF.one rfl fun F_ w_ hR hout hD => ?_
                exact (y_mov rfl ((hout 26 rfl (by decide)).trans s1008) ⟨rfl, Kept.refl _ _⟩)
              refine stepsF_cons ?_ ?_
              · refine StepF.one rfl fun F_ w_ hR hout hD => ?_
                exact (y_mov rfl ((hout 17 rfl (by decide)).trans s1004) ⟨rfl, Kept.refl _ _⟩)
              refine stepsF_cons ?_ ?_
              · refine StepF.one rfl fun F_ w_ hR hout hD => ?_
                have g118 : F_ 118 = .int .i64 (((2 : Nat) : Int)) := hD.get 0 rfl rfl rfl
                have g119 : F_ 119 = .int .i64 (((k : Nat) : Int)) := hD.get 1 rfl rfl rfl
                exact (y_neqI rfl g118 g119 (decide_eq_false d1010) ⟨rfl, Kept.refl _ _⟩)
              refine stepsF_cons ?_ ?_
              · refine StepF.one rfl fun F_ w_ hR hout hD => ?_
                have g120 : F_ 120 = .bool false := hD.get 0 rfl rfl rfl
                exact (y_mov rfl g120 ⟨rfl, Kept.refl _ _⟩)
              refine stepsF_cons ?_ ?_
              · refine StepF.unless 3 true 121 rfl rfl fun F_ w_ hR hout hD => ?_
                have g121 : F_ 121 = .bool false := hD.get 0 rfl rfl rfl
                exact ⟨Or.inl g121, rfl⟩
              refine stepsF_cons ?_ ?_
              · refine StepF.unless 3 true 121 rfl rfl fun F_ w_ hR hout hD => ?_
                have g121 : F_ 121 = .bool false := hD.get 0 rfl rfl rfl
                exact ⟨Or.inl g121, rfl⟩
              refine stepsF_cons ?_ ?_
              · refine StepF.unless 3 true 121 rfl rfl fun F_ w_ hR hout hD => ?_
                have g121 : F_ 121 = .bool false := hD.get 2 rfl rfl rfl
                exact ⟨Or.inl g121, rfl⟩
              refine stepsF_cons ?_ ?_
              · refine StepF.unless 3 true 121 rfl rfl fun F_ w_ hR hout hD => ?_
                have g121 : F_ 121 = .bool false := hD.get 1 rfl rfl rfl
                exact ⟨Or.inl g121, rfl⟩
              refine stepsF_cons ?_ ?_
              · refine StepF.unless 3 true 121 rfl rfl fun F_ w_ hR hout hD => ?_
                have g121 : F_ 121 = .bool false := hD.get 1 rfl rfl rfl
                exact ⟨Or.inl g121, rfl⟩
              refine stepsF_cons ?_ ?_
              · refine StepF.unless 3 true 121 rfl rfl fun F_ w_ hR hout hD => ?_
                have g121 : F_ 121 = .bool false := hD.get 0 rfl rfl rfl
                exact ⟨Or.inl g121, rfl⟩
              refine stepsF_cons ?_ ?_
              · refine StepF.unless 3 true 121 rfl rfl fun F_ w_ hR hout hD => ?_
                have g121 : F_ 121 = .bool false := hD.get 0 rfl rfl rfl
                exact ⟨Or.inl g121, rfl⟩
              refine stepsF_cons ?_ ?_
              · refine StepF.unless 3 true 121 rfl rfl fun F_ w_ hR hout hD => ?_
                have g121 : F_ 121 = .bool false := hD.get 2 rfl rfl rfl
                exact ⟨Or.inl g121, rfl⟩
              refine stepsF_cons ?_ ?_
              · refine StepF.unless 3 true 121 rfl rfl fun F_ w_ hR hout hD => ?_
                have g121 : F_ 121 = .bool false := hD.get 1 rfl rfl rfl
                exact ⟨Or.inl g121, rfl⟩
              refine stepsF_cons ?_ ?_
              · refine StepF.unless 3 true 121 rfl rfl fun F_ w_ hR hout hD => ?_
                have g121 : F_ 121 = .bool false := hD.get 1 rfl rfl rfl
                exact ⟨Or.inl g121, rfl⟩
              refine stepsF_cons ?_ ?_
              · refine StepF.unless 3 true 121 rfl rfl fun F_ w_ hR hout hD => ?_
                have g121 : F_ 121 = .bool false := hD.get 2 rfl rfl rfl
                exact ⟨Or.inl g121, rfl⟩
              refine stepsF_cons ?_ ?_
              · refine StepF.one rfl fun F_ w_ hR hout hD => ?_
                have g121 : F_ 121 = .bool false := hD.get 0 rfl rfl rfl
                exact (y_pickF rfl g121 rfl ⟨rfl, Kept.refl _ _⟩)
              exact stepsF_nil
            intro v1064 F1065 w1066 k1067 G1068 hF1069
            have B1071 := B968.all k1067 Apart.none
            have B1072 := B969.all k1067 id
            have B1073 := B970.all k1067 Apart.none
            have B1074 := B971.all k1067 Apart.none
            have B1075 := B972.all k1067 Apart.none
            have B1076 := B973.all k1067 id
            have B1077 := B974.all k1067 Apart.none
            have B1078 := B975.all k1067 Apart.none
            have B1079 := B976.all k1067 Apart.none
            have B1080 := B977.all k1067 id
            have B1081 := B978.all k1067 Apart.none
            have B1082 := B979.all k1067 Apart.none
            have B1083 := B980.all k1067 Apart.none
            have B1084 := B981.all k1067 id
            have K1085 := K982.trans k1067 (fun _ _ x => x.elim)
            have s1086 : F1065 15 = .bool true := (hF1069 15).trans s1002
            have s1087 : F1065 16 = .pointer (some ⟨p83, 0, none⟩) := (hF1069 16).trans s1003
            have s1088 : F1065 17 = .int .i64 (((k : Nat) : Int)) := (hF1069 17).trans s1004
            have s1089 : F1065 138 = undef := (hF1069 138).trans s1005
            have s1090 : F1065 23 = .pointer (some ⟨p328, 0, none⟩) := (hF1069 23).trans s1006
            have s1091 : F1065 25 = .bool true := (hF1069 25).trans s1007
            have s1092 : F1065 26 = .int .i64 (((2 : Nat) : Int)) := (hF1069 26).trans s1008
            have s1093 : F1065 133 = .bool false := (hF1069 133).trans (G1068 15 (by decide))
            clear G1068 hF1069
            refine then_normal ?_
            refine wq_cond (t := false) s1093 (fun e => by cases e) (fun _ => ?_)
            refine wq_skip ?_
            refine in_normal ?_
            refine then_normal ?_
            refine wq_region ?_
            refine wl_v (.int .i64 (((2 : Nat) : Int))) rfl rfl (y_mov rfl s1092 ⟨rfl, rfl⟩) ?_
            refine wl_v (.int .i64 (((3 : Nat) : Int))) rfl rfl (y_add rfl rfl rfl (i64_n (by omega) (by omega)) ⟨rfl, rfl⟩) ?_
            refine wl_v (.int .i64 (((3 : Nat) : Int))) rfl rfl (y_asg rfl rfl ⟨rfl, rfl⟩) ?_
            refine wl_nil fun F1094 hF1095 => ?_
            have s1096 : F1094 15 = .bool true := (hF1095 15).trans s1086
            have s1097 : F1094 16 = .pointer (some ⟨p83, 0, none⟩) := (hF1095 16).trans s1087
            have s1098 : F1094 17 = .int .i64 (((k : Nat) : Int)) := (hF1095 17).trans s1088
            have s1099 : F1094 138 = undef := (hF1095 138).trans s1089
            have s1100 : F1094 23 = .pointer (some ⟨p328, 0, none⟩) := (hF1095 23).trans s1090
            have s1101 : F1094 25 = .bool true := (hF1095 25).trans s1091
            have s1102 : F1094 26 = .int .i64 (((3 : Nat) : Int)) := (hF1095 26).trans rfl
            clear hF1095
            refine then_normal ?_
            refine wqr_step ?_
            refine wq_seq ?_
            refine wq_seq ?_
            refine wq_region ?_
            refine wl_v (.int .i64 (((3 : Nat) : Int))) rfl rfl (y_mov rfl s1102 ⟨rfl, rfl⟩) ?_
            refine wl_v (.bool false) rfl rfl (y_lss rfl rfl rfl rfl ⟨rfl, rfl⟩) ?_
            refine wl_nil fun F1103 hF1104 => ?_
            have s1105 : F1103 15 = .bool true := (hF1104 15).trans s1096
            have s1106 : F1103 16 = .pointer (some ⟨p83, 0, none⟩) := (hF1104 16).trans s1097
            have s1107 : F1103 17 = .int .i64 (((k : Nat) : Int)) := (hF1104 17).trans s1098
            have s1108 : F1103 138 = undef := (hF1104 138).trans s1099
            have s1109 : F1103 23 = .pointer (some ⟨p328, 0, none⟩) := (hF1104 23).trans s1100
            have s1110 : F1103 25 = .bool true := (hF1104 25).trans s1101
            have s1111 : F1103 26 = .int .i64 (((3 : Nat) : Int)) := (hF1104 26).trans s1102
            have s1112 : F1103 115 = .bool false := (hF1104 115).trans rfl
            clear hF1104
            refine then_normal ?_
            refine wq_cond (t := false) s1112 (fun e => by cases e) (fun _ => ?_)
            refine wq_exit ?_
            refine then_exit ?_
            refine then_exit ?_
            refine in_here ?_
            refine then_normal ?_
            refine wq_seq ?_
            refine wq_region ?_
            refine wl_v (.bool true) rfl rfl (y_mov rfl s1105 ⟨rfl, rfl⟩) ?_
            refine wl_v (.bool true) rfl rfl (y_mov rfl rfl ⟨rfl, rfl⟩) ?_
            refine wl_vw (.bool true) 1 true 135 rfl rfl rfl rfl rfl (y_mov rfl s1110 ⟨rfl, rfl⟩) ?_
            refine wl_v (.bool true) rfl rfl (y_pickT rfl rfl rfl ⟨rfl, rfl⟩) ?_
            refine wl_v (.bool true) rfl rfl (y_asg rfl rfl ⟨rfl, rfl⟩) ?_
            refine wl_nil fun F1113 hF1114 => ?_
            have s1115 : F1113 138 = undef := (hF1114 138).trans s1108
            have s1116 : F1113 14 = .bool true := (hF1114 14).trans rfl
            clear hF1114
            refine then_normal ?_
            refine wq_ret ?_
            exact end_tmp (v := .bool true) s1115 rfl rfl s1116 ⟨rfl, K1085⟩
        · skip
          refine wq_said [some 118, some 119, some 120, some 121, some 122, some 123, some 124, some 125, some 126, some 127, some 128, some 129, some 130, some 131, some 132, some 133] [Pd.eq (.int .i64 (((1 : Nat) : Int))), Pd.eq (.int .i64 (((k : Nat) : Int))), Pd.eq (.bool false), Pd.eq (.bool false), Pd.eq undef, Pd.eq undef, Pd.eq undef, Pd.eq undef, Pd.eq undef, Pd.eq undef, Pd.eq undef, Pd.eq undef, Pd.eq undef, Pd.eq undef, Pd.eq undef, Pd.eq (.bool false)] (by kernel_rfl) (by kernel_rfl) ?_ ?_
          · refine stepsF_cons ?_ ?_
            · refine StepF.one rfl fun F_ w_ hR hout hD => ?_
              exact (y_mov rfl ((hout 26 rfl (by decide)).trans s958) ⟨rfl, Kept.refl _ _⟩)
            refine stepsF_cons ?_ ?_
            · refine StepF.one rfl fun F_ w_ hR hout hD => ?_
              exact (y_mov rfl ((hout 17 rfl (by decide)).trans s954) ⟨rfl, Kept.refl _ _⟩)
            refine stepsF_cons ?_ ?_
            · refine StepF.one rfl fun F_ w_ hR hout hD => ?_
              have g118 : F_ 118 = .int .i64 (((1 : Nat) : Int)) := hD.get 0 rfl rfl rfl
              have g119 : F_ 119 = .int .i64 (((k : Nat) : Int)) := hD.get 1 rfl rfl rfl
              exact (y_neqI rfl g118 g119 (decide_eq_false d960) ⟨rfl, Kept.refl _ _⟩)
            refine stepsF_cons ?_ ?_
            · refine StepF.one rfl fun F_ w_ hR hout hD => ?_
              have g120 : F_ 120 = .bool false := hD.get 0 rfl rfl rfl
              exact (y_mov rfl g120 ⟨rfl, Kept.refl _ _⟩)
            refine stepsF_cons ?_ ?_
            · refine StepF.unless 3 true 121 rfl rfl fun F_ w_ hR hout hD => ?_
              have g121 : F_ 121 = .bool false := hD.get 0 rfl rfl rfl
              exact ⟨Or.inl g121, rfl⟩
            refine stepsF_cons ?_ ?_
            · refine StepF.unless 3 true 121 rfl rfl fun F_ w_ hR hout hD => ?_
              have g121 : F_ 121 = .bool false := hD.get 0 rfl rfl rfl
              exact ⟨Or.inl g121, rfl⟩
            refine stepsF_cons ?_ ?_
            · refine StepF.unless 3 true 121 rfl rfl fun F_ w_ hR hout hD => ?_
              have g121 : F_ 121 = .bool false := hD.get 2 rfl rfl rfl
              exact ⟨Or.inl g121, rfl⟩
            refine stepsF_cons ?_ ?_
            · refine StepF.unless 3 true 121 rfl rfl fun F_ w_ hR hout hD => ?_
              have g121 : F_ 121 = .bool false := hD.get 1 rfl rfl rfl
              exact ⟨Or.inl g121, rfl⟩
            refine stepsF_cons ?_ ?_
            · refine StepF.unless 3 true 121 rfl rfl fun F_ w_ hR hout hD => ?_
              have g121 : F_ 121 = .bool false := hD.get 1 rfl rfl rfl
              exact ⟨Or.inl g121, rfl⟩
            refine stepsF_cons ?_ ?_
            · refine StepF.unless 3 true 121 rfl rfl fun F_ w_ hR hout hD => ?_
              have g121 : F_ 121 = .bool false := hD.get 0 rfl rfl rfl
              exact ⟨Or.inl g121, rfl⟩
            refine stepsF_cons ?_ ?_
            · refine StepF.unless 3 true 121 rfl rfl fun F_ w_ hR hout hD => ?_
              have g121 : F_ 121 = .bool false := hD.get 0 rfl rfl rfl
              exact ⟨Or.inl g121, rfl⟩
            refine stepsF_cons ?_ ?_
            · refine StepF.unless 3 true 121 rfl rfl fun F_ w_ hR hout hD => ?_
              have g121 : F_ 121 = .bool false := hD.get 2 rfl rfl rfl
              exact ⟨Or.inl g121, rfl⟩
            refine stepsF_cons ?_ ?_
            · refine StepF.unless 3 true 121 rfl rfl fun F_ w_ hR hout hD => ?_
              have g121 : F_ 121 = .bool false := hD.get 1 rfl rfl rfl
              exact ⟨Or.inl g121, rfl⟩
            refine stepsF_cons ?_ ?_
            · refine StepF.unless 3 true 121 rfl rfl fun F_ w_ hR hout hD => ?_
              have g121 : F_ 121 = .bool false := hD.get 1 rfl rfl rfl
              exact ⟨Or.inl g121, rfl⟩
            refine stepsF_cons ?_ ?_
            · refine StepF.unless 3 true 121 rfl rfl fun F_ w_ hR hout hD => ?_
              have g121 : F_ 121 = .bool false := hD.get 2 rfl rfl rfl
              exact ⟨Or.inl g121, rfl⟩
            refine stepsF_cons ?_ ?_
            · refine StepF.one rfl fun F_ w_ hR hout hD => ?_
              have g121 : F_ 121 = .bool false := hD.get 0 rfl rfl rfl
              exact (y_pickF rfl g121 rfl ⟨rfl, Kept.refl _ _⟩)
            exact stepsF_nil
          intro v1117 F1118 w1119 k1120 G1121 hF1122
          have B1124 := B918.all k1120 Apart.none
          have B1125 := B919.all k1120 id
          have B1126 := B920.all k1120 Apart.none
          have B1127 := B921.all k1120 Apart.none
          have B1128 := B922.all k1120 Apart.none
          have B1129 := B923.all k1120 id
          have B1130 := B924.all k1120 Apart.none
          have B1131 := B925.all k1120 Apart.none
          have B1132 := B926.all k1120 Apart.none
          have B1133 := B927.all k1120 id
          have B1134 := B928.all k1120 Apart.none
          have B1135 := B929.all k1120 Apart.none
          have B1136 := B930.all k1120 Apart.none
          have B1137 := B931.all k1120 id
          have K1138 := K932.trans k1120 (fun _ _ x => x.elim)
          have s1139 : F1118 15 = .bool true := (hF1122 15).trans s952
          have s1140 : F1118 16 = .pointer (some ⟨p83, 0, none⟩) := (hF1122 16).trans s953
          have s1141 : F1118 17 = .int .i64 (((k : Nat) : Int)) := (hF1122 17).trans s954
          have s1142 : F1118 138 = undef := (hF1122 138).trans s955
          have s1143 : F1118 23 = .pointer (some ⟨p328, 0, none⟩) := (hF1122 23).trans s956
          have s1144 : F1118 25 = .bool true := (hF1122 25).trans s957
          have s1145 : F1118 26 = .int .i64 (((1 : Nat) : Int)) := (hF1122 26).trans s958
          have s1146 : F1118 133 = .bool false := (hF1122 133).trans (G1121 15 (by decide))
          clear G1121 hF1122
          refine then_normal ?_
          refine wq_cond (t := false) s1146 (fun e => by cases e) (fun _ => ?_)
          refine wq_skip ?_
          refine in_normal ?_
          refine then_normal ?_
          refine wq_region ?_
          refine wl_v (.int .i64 (((1 : Nat) : Int))) rfl rfl (y_mov rfl s1145 ⟨rfl, rfl⟩) ?_
          refine wl_v (.int .i64 (((2 : Nat) : Int))) rfl rfl (y_add rfl rfl rfl (i64_n (by omega) (by omega)) ⟨rfl, rfl⟩) ?_
          refine wl_v (.int .i64 (((2 : Nat) : Int))) rfl rfl (y_asg rfl rfl ⟨rfl, rfl⟩) ?_
          refine wl_nil fun F1147 hF1148 => ?_
          have s1149 : F1147 15 = .bool true := (hF1148 15).trans s1139
          have s1150 : F1147 16 = .pointer (some ⟨p83, 0, none⟩) := (hF1148 16).trans s1140
          have s1151 : F1147 17 = .int .i64 (((k : Nat) : Int)) := (hF1148 17).trans s1141
          have s1152 : F1147 138 = undef := (hF1148 138).trans s1142
          have s1153 : F1147 23 = .pointer (some ⟨p328, 0, none⟩) := (hF1148 23).trans s1143
          have s1154 : F1147 25 = .bool true := (hF1148 25).trans s1144
          have s1155 : F1147 26 = .int .i64 (((2 : Nat) : Int)) := (hF1148 26).trans rfl
          clear hF1148
          refine then_normal ?_
          refine wqr_step ?_
          refine wq_seq ?_
          refine wq_seq ?_
          refine wq_region ?_
          refine wl_v (.int .i64 (((2 : Nat) : Int))) rfl rfl (y_mov rfl s1155 ⟨rfl, rfl⟩) ?_
          refine wl_v (.bool true) rfl rfl (y_lss rfl rfl rfl rfl ⟨rfl, rfl⟩) ?_
          refine wl_nil fun F1156 hF1157 => ?_
          have s1158 : F1156 15 = .bool true := (hF1157 15).trans s1149
          have s1159 : F1156 16 = .pointer (some ⟨p83, 0, none⟩) := (hF1157 16).trans s1150
          have s1160 : F1156 17 = .int .i64 (((k : Nat) : Int)) := (hF1157 17).trans s1151
          have s1161 : F1156 138 = undef := (hF1157 138).trans s1152
          have s1162 : F1156 23 = .pointer (some ⟨p328, 0, none⟩) := (hF1157 23).trans s1153
          have s1163 : F1156 25 = .bool true := (hF1157 25).trans s1154
          have s1164 : F1156 26 = .int .i64 (((2 : Nat) : Int)) := (hF1157 26).trans s1155
          have s1165 : F1156 115 = .bool true := (hF1157 115).trans rfl
          clear hF1157
          refine then_normal ?_
          refine wq_cond (t := true) s1165 (fun _ => ?_) (fun e => by cases e)
          refine wq_skip ?_
          refine then_normal ?_
          refine wq_seq ?_
          refine wq_block ?_
          refine wq_seq ?_
          by_cases d1166 : (((2 : Nat) : Int)) ≠ (((k : Nat) : Int))
          · skip
            refine wq_said [some 118, some 119, some 120, some 121, some 122, some 123, some 124, some 125, some 126, some 127, some 128, some 129, some 130, some 131, some 132, some 133] [Pd.eq (.int .i64 (((2 : Nat) : Int))), Pd.eq (.int .i64 (((k : Nat) : Int))), Pd.eq (.bool true), Pd.eq (.bool true), Pd.eq (.int .i64 (((2 : Nat) : Int))), Pd.eq (.pointer (some ⟨p328, 2, none⟩)), Pd.eq (.pointer (some ⟨p328, 4, none⟩)), Pd.eq (v285), Pd.eq (.string (textOf ((putFr (mkF (w) (h) (l)) (((k : Nat) : Int)) (A) (R) (cb b)).p2))), Pd.eq (.int .i64 (((2 : Nat) : Int))), Pd.eq (.pointer (some ⟨p83, 2, none⟩)), Pd.eq (.pointer (some ⟨p83, 4, none⟩)), Pd.eq (v56), Pd.eq (.string (textOf ((mkF (w) (h) (l)).p2))), Pd.eq (.bool false), Pd.eq (.bool false)] (by kernel_rfl) (by kernel_rfl) ?_ ?_
            · refine stepsF_cons ?_ ?_
              · refine StepF.one rfl fun F_ w_ hR hout hD => ?_
                exact (y_mov rfl ((hout 26 rfl (by decide)).trans s1164) ⟨rfl, Kept.refl _ _⟩)
              refine stepsF_cons ?_ ?_
              · refine StepF.one rfl fun F_ w_ hR hout hD => ?_
                exact (y_mov rfl ((hout 17 rfl (by decide)).trans s1160) ⟨rfl, Kept.refl _ _⟩)
              refine stepsF_cons ?_ ?_
              · refine StepF.one rfl fun F_ w_ hR hout hD => ?_
                have g118 : F_ 118 = .int .i64 (((2 : Nat) : Int)) := hD.get 0 rfl rfl rfl
                have g119 : F_ 119 = .int .i64 (((k : Nat) : Int)) := hD.get 1 rfl rfl rfl
                exact (y_neqI rfl g118 g119 (decide_eq_true d1166) ⟨rfl, Kept.refl _ _⟩)
              refine stepsF_cons ?_ ?_
              · refine StepF.one rfl fun F_ w_ hR hout hD => ?_
                have g120 : F_ 120 = .bool true := hD.get 0 rfl rfl rfl
                exact (y_mov rfl g120 ⟨rfl, Kept.refl _ _⟩)
              refine stepsF_cons ?_ ?_
              · refine StepF.when 3 true 121 rfl rfl fun F_ w_ hR hout hD => ?_
                have g121 : F_ 121 = .bool true := hD.get 0 rfl rfl rfl
                exact ⟨g121, (y_mov rfl ((hout 26 rfl (by decide)).trans s1164) ⟨rfl, Kept.refl _ _⟩)⟩
              refine stepsF_cons ?_ ?_
              · refine StepF.when 3 true 121 rfl rfl fun F_ w_ hR hout hD => ?_
                have g121 : F_ 121 = .bool true := hD.get 0 rfl rfl rfl
                exact ⟨g121, (y_fieldR (n := 3) rfl ((hout 23 rfl (by decide)).trans s1162) Try.underlying25 rfl (by kernel_rfl) (by decide) rfl ⟨rfl, Kept.refl _ _⟩)⟩
              refine stepsF_cons ?_ ?_
              · refine StepF.when 3 true 121 rfl rfl fun F_ w_ hR hout hD => ?_
                have g121 : F_ 121 = .bool true := hD.get 2 rfl rfl rfl
                have g123 : F_ 123 = .pointer (some ⟨p328, 2, none⟩) := hD.get 0 rfl rfl rfl
                have g122 : F_ 122 = .int .i64 (((2 : Nat) : Int)) := hD.get 1 rfl rfl rfl
                exact ⟨g121, (y_atR (2) (s := 1) rfl g123 g122 (by omega) Try.underlying23 (by omega) (by kernel_rfl) (by omega) ⟨rfl, Kept.refl _ _⟩)⟩
              refine stepsF_cons ?_ ?_
              · refine StepF.when 3 true 121 rfl rfl fun F_ w_ hR hout hD => ?_
                have g121 : F_ 121 = .bool true := hD.get 1 rfl rfl rfl
                have g124 : F_ 124 = .pointer (some ⟨p328, 4, none⟩) := hD.get 0 rfl rfl rfl
                exact ⟨g121, (y_ld_stc rfl g124 Try.underlying22 (B1133.all hR id) rfl rfl ⟨rfl, Kept.refl _ _⟩)⟩
              refine stepsF_cons ?_ ?_
              · refine StepF.when 3 true 121 rfl rfl fun F_ w_ hR hout hD => ?_
                have g121 : F_ 121 = .bool true := hD.get 1 rfl rfl rfl
                have g125 : F_ 125 = v285 := hD.get 0 rfl rfl rfl
                exact ⟨g121, (y_text rfl (bytes_at g125 ((B1132.all hR Apart.none)).byt) ⟨rfl, Kept.refl _ _⟩)⟩
              refine stepsF_cons ?_ ?_
              · refine StepF.when 3 true 121 rfl rfl fun F_ w_ hR hout hD => ?_
                have g121 : F_ 121 = .bool true := hD.get 0 rfl rfl rfl
                exact ⟨g121, (y_mov rfl ((hout 26 rfl (by decide)).trans s1164) ⟨rfl, Kept.refl _ _⟩)⟩
              refine stepsF_cons ?_ ?_
              · refine StepF.when 3 true 121 rfl rfl fun F_ w_ hR hout hD => ?_
                have g121 : F_ 121 = .bool true := hD.get 0 rfl rfl rfl
                exact ⟨g121, (y_fieldR (n := 3) rfl ((hout 16 rfl (by decide)).trans s1159) Try.underlying25 rfl (by kernel_rfl) (by decide) rfl ⟨rfl, Kept.refl _ _⟩)⟩
              refine stepsF_cons ?_ ?_
              · refine StepF.when 3 true 121 rfl rfl fun F_ w_ hR hout hD => ?_
                have g121 : F_ 121 = .bool true := hD.get 2 rfl rfl rfl
                have g128 : F_ 128 = .pointer (some ⟨p83, 2, none⟩) := hD.get 0 rfl rfl rfl
                have g127 : F_ 127 = .int .i64 (((2 : Nat) : Int)) := hD.get 1 rfl rfl rfl
                exact ⟨g121, (y_atR (2) (s := 1) rfl g128 g127 (by omega) Try.underlying23 (by omega) (by kernel_rfl) (by omega) ⟨rfl, Kept.refl _ _⟩)⟩
              refine stepsF_cons ?_ ?_
              · refine StepF.when 3 true 121 rfl rfl fun F_ w_ hR hout hD => ?_
                have g121 : F_ 121 = .bool true := hD.get 1 rfl rfl rfl
                have g129 : F_ 129 = .pointer (some ⟨p83, 4, none⟩) := hD.get 0 rfl rfl rfl
                exact ⟨g121, (y_ld_stc rfl g129 Try.underlying22 (B1129.all hR id) rfl rfl ⟨rfl, Kept.refl _ _⟩)⟩
              refine stepsF_cons ?_ ?_
              · refine StepF.when 3 true 121 rfl rfl fun F_ w_ hR hout hD => ?_
                have g121 : F_ 121 = .bool true := hD.get 1 rfl rfl rfl
                have g130 : F_ 130 = v56 := hD.get 0 rfl rfl rfl
                exact ⟨g121, (y_text rfl (bytes_at g130 ((B1128.all hR Apart.none)).byt) ⟨rfl, Kept.refl _ _⟩)⟩
              refine stepsF_cons ?_ ?_
              · refine StepF.when 3 true 121 rfl rfl fun F_ w_ hR hout hD => ?_
                have g121 : F_ 121 = .bool true := hD.get 2 rfl rfl rfl
                have g126 : F_ 126 = .string (textOf ((putFr (mkF (w) (h) (l)) (((k : Nat) : Int)) (A) (R) (cb b)).p2)) := hD.get 0 rfl rfl rfl
                have g131 : F_ 131 = .string (textOf ((mkF (w) (h) (l)).p2)) := hD.get 1 rfl rfl rfl
                exact ⟨g121, (y_neqS rfl g126 g131 (other_text hin (cb b) 2 (by decide) (by decide) (by first | assumption | omega)) ⟨rfl, Kept.refl _ _⟩)⟩
              refine stepsF_cons ?_ ?_
              · refine StepF.one rfl fun F_ w_ hR hout hD => ?_
                have g121 : F_ 121 = .bool true := hD.get 0 rfl rfl rfl
                have g132 : F_ 132 = .bool false := hD.get 1 rfl rfl rfl
                exact (y_pickT rfl g121 g132 ⟨rfl, Kept.refl _ _⟩)
              exact stepsF_nil
            intro v1167 F1168 w1169 k1170 G1171 hF1172
            have B1174 := B1124.all k1170 Apart.none
            have B1175 := B1125.all k1170 id
            have B1176 := B1126.all k1170 Apart.none
            have B1177 := B1127.all k1170 Apart.none
            have B1178 := B1128.all k1170 Apart.none
            have B1179 := B1129.all k1170 id
            have B1180 := B1130.all k1170 Apart.none
            have B1181 := B1131.all k1170 Apart.none
            have B1182 := B1132.all k1170 Apart.none
            have B1183 := B1133.all k1170 id
            have B1184 := B1134.all k1170 Apart.none
            have B1185 := B1135.all k1170 Apart.none
            have B1186 := B1136.all k1170 Apart.none
            have B1187 := B1137.all k1170 id
            have K1188 := K1138.trans k1170 (fun _ _ x => x.elim)
            have s1189 : F1168 15 = .bool true := (hF1172 15).trans s1158
            have s1190 : F1168 16 = .pointer (some ⟨p83, 0, none⟩) := (hF1172 16).trans s1159
            have s1191 : F1168 17 = .int .i64 (((k : Nat) : Int)) := (hF1172 17).trans s1160
            have s1192 : F1168 138 = undef := (hF1172 138).trans s1161
            have s1193 : F1168 23 = .pointer (some ⟨p328, 0, none⟩) := (hF1172 23).trans s1162
            have s1194 : F1168 25 = .bool true := (hF1172 25).trans s1163
            have s1195 : F1168 26 = .int .i64 (((2 : Nat) : Int)) := (hF1172 26).trans s1164
            have s1196 : F1168 133 = .bool false := (hF1172 133).trans (G1171 15 (by decide))
            clear G1171 hF1172
            refine then_normal ?_
            refine wq_cond (t := false) s1196 (fun e => by cases e) (fun _ => ?_)
            refine wq_skip ?_
            refine in_normal ?_
            refine then_normal ?_
            refine wq_region ?_
            refine wl_v (.int .i64 (((2 : Nat) : Int))) rfl rfl (y_mov rfl s1195 ⟨rfl, rfl⟩) ?_
            refine wl_v (.int .i64 (((3 : Nat) : Int))) rfl rfl (y_add rfl rfl rfl (i64_n (by omega) (by omega)) ⟨rfl, rfl⟩) ?_
            refine wl_v (.int .i64 (((3 : Nat) : Int))) rfl rfl (y_asg rfl rfl ⟨rfl, rfl⟩) ?_
            refine wl_nil fun F1197 hF1198 => ?_
            have s1199 : F1197 15 = .bool true := (hF1198 15).trans s1189
            have s1200 : F1197 16 = .pointer (some ⟨p83, 0, none⟩) := (hF1198 16).trans s1190
            have s1201 : F1197 17 = .int .i64 (((k : Nat) : Int)) := (hF1198 17).trans s1191
            have s1202 : F1197 138 = undef := (hF1198 138).trans s1192
            have s1203 : F1197 23 = .pointer (some ⟨p328, 0, none⟩) := (hF1198 23).trans s1193
            have s1204 : F1197 25 = .bool true := (hF1198 25).trans s1194
            have s1205 : F1197 26 = .int .i64 (((3 : Nat) : Int)) := (hF1198 26).trans rfl
            clear hF1198
            refine then_normal ?_
            refine wqr_step ?_
            refine wq_seq ?_
            refine wq_seq ?_
            refine wq_region ?_
            refine wl_v (.int .i64 (((3 : Nat) : Int))) rfl rfl (y_mov rfl s1205 ⟨rfl, rfl⟩) ?_
            refine wl_v (.bool false) rfl rfl (y_lss rfl rfl rfl rfl ⟨rfl, rfl⟩) ?_
            refine wl_nil fun F1206 hF1207 => ?_
            have s1208 : F1206 15 = .bool true := (hF1207 15).trans s1199
            have s1209 : F1206 16 = .pointer (some ⟨p83, 0, none⟩) := (hF1207 16).trans s1200
            have s1210 : F1206 17 = .int .i64 (((k : Nat) : Int)) := (hF1207 17).trans s1201
            have s1211 : F1206 138 = undef := (hF1207 138).trans s1202
            have s1212 : F1206 23 = .pointer (some ⟨p328, 0, none⟩) := (hF1207 23).trans s1203
            have s1213 : F1206 25 = .bool true := (hF1207 25).trans s1204
            have s1214 : F1206 26 = .int .i64 (((3 : Nat) : Int)) := (hF1207 26).trans s1205
            have s1215 : F1206 115 = .bool false := (hF1207 115).trans rfl
            clear hF1207
            refine then_normal ?_
            refine wq_cond (t := false) s1215 (fun e => by cases e) (fun _ => ?_)
            refine wq_exit ?_
            refine then_exit ?_
            refine then_exit ?_
            refine in_here ?_
            refine then_normal ?_
            refine wq_seq ?_
            refine wq_region ?_
            refine wl_v (.bool true) rfl rfl (y_mov rfl s1208 ⟨rfl, rfl⟩) ?_
            refine wl_v (.bool true) rfl rfl (y_mov rfl rfl ⟨rfl, rfl⟩) ?_
            refine wl_vw (.bool true) 1 true 135 rfl rfl rfl rfl rfl (y_mov rfl s1213 ⟨rfl, rfl⟩) ?_
            refine wl_v (.bool true) rfl rfl (y_pickT rfl rfl rfl ⟨rfl, rfl⟩) ?_
            refine wl_v (.bool true) rfl rfl (y_asg rfl rfl ⟨rfl, rfl⟩) ?_
            refine wl_nil fun F1216 hF1217 => ?_
            have s1218 : F1216 138 = undef := (hF1217 138).trans s1211
            have s1219 : F1216 14 = .bool true := (hF1217 14).trans rfl
            clear hF1217
            refine then_normal ?_
            refine wq_ret ?_
            exact end_tmp (v := .bool true) s1218 rfl rfl s1219 ⟨rfl, K1188⟩
          · skip
            refine wq_said [some 118, some 119, some 120, some 121, some 122, some 123, some 124, some 125, some 126, some 127, some 128, some 129, some 130, some 131, some 132, some 133] [Pd.eq (.int .i64 (((2 : Nat) : Int))), Pd.eq (.int .i64 (((k : Nat) : Int))), Pd.eq (.bool false), Pd.eq (.bool false), Pd.eq undef, Pd.eq undef, Pd.eq undef, Pd.eq undef, Pd.eq undef, Pd.eq undef, Pd.eq undef, Pd.eq undef, Pd.eq undef, Pd.eq undef, Pd.eq undef, Pd.eq (.bool false)] (by kernel_rfl) (by kernel_rfl) ?_ ?_
            · refine stepsF_cons ?_ ?_
              · refine StepF.one rfl fun F_ w_ hR hout hD => ?_
                exact (y_mov rfl ((hout 26 rfl (by decide)).trans s1164) ⟨rfl, Kept.refl _ _⟩)
              refine stepsF_cons ?_ ?_
              · refine StepF.one rfl fun F_ w_ hR hout hD => ?_
                exact (y_mov rfl ((hout 17 rfl (by decide)).trans s1160) ⟨rfl, Kept.refl _ _⟩)
              refine stepsF_cons ?_ ?_
              · refine StepF.one rfl fun F_ w_ hR hout hD => ?_
                have g118 : F_ 118 = .int .i64 (((2 : Nat) : Int)) := hD.get 0 rfl rfl rfl
                have g119 : F_ 119 = .int .i64 (((k : Nat) : Int)) := hD.get 1 rfl rfl rfl
                exact (y_neqI rfl g118 g119 (decide_eq_false d1166) ⟨rfl, Kept.refl _ _⟩)
              refine stepsF_cons ?_ ?_
              · refine StepF.one rfl fun F_ w_ hR hout hD => ?_
                have g120 : F_ 120 = .bool false := hD.get 0 rfl rfl rfl
                exact (y_mov rfl g120 ⟨rfl, Kept.refl _ _⟩)
              refine stepsF_cons ?_ ?_
              · refine StepF.unless 3 true 121 rfl rfl fun F_ w_ hR hout hD => ?_
                have g121 : F_ 121 = .bool false := hD.get 0 rfl rfl rfl
                exact ⟨Or.inl g121, rfl⟩
              refine stepsF_cons ?_ ?_
              · refine StepF.unless 3 true 121 rfl rfl fun F_ w_ hR hout hD => ?_
                have g121 : F_ 121 = .bool false := hD.get 0 rfl rfl rfl
                exact ⟨Or.inl g121, rfl⟩
              refine stepsF_cons ?_ ?_
              · refine StepF.unless 3 true 121 rfl rfl fun F_ w_ hR hout hD => ?_
                have g121 : F_ 121 = .bool false := hD.get 2 rfl rfl rfl
                exact ⟨Or.inl g121, rfl⟩
              refine stepsF_cons ?_ ?_
              · refine StepF.unless 3 true 121 rfl rfl fun F_ w_ hR hout hD => ?_
                have g121 : F_ 121 = .bool false := hD.get 1 rfl rfl rfl
                exact ⟨Or.inl g121, rfl⟩
              refine stepsF_cons ?_ ?_
              · refine StepF.unless 3 true 121 rfl rfl fun F_ w_ hR hout hD => ?_
                have g121 : F_ 121 = .bool false := hD.get 1 rfl rfl rfl
                exact ⟨Or.inl g121, rfl⟩
              refine stepsF_cons ?_ ?_
              · refine StepF.unless 3 true 121 rfl rfl fun F_ w_ hR hout hD => ?_
                have g121 : F_ 121 = .bool false := hD.get 0 rfl rfl rfl
                exact ⟨Or.inl g121, rfl⟩
              refine stepsF_cons ?_ ?_
              · refine StepF.unless 3 true 121 rfl rfl fun F_ w_ hR hout hD => ?_
                have g121 : F_ 121 = .bool false := hD.get 0 rfl rfl rfl
                exact ⟨Or.inl g121, rfl⟩
              refine stepsF_cons ?_ ?_
              · refine StepF.unless 3 true 121 rfl rfl fun F_ w_ hR hout hD => ?_
                have g121 : F_ 121 = .bool false := hD.get 2 rfl rfl rfl
                exact ⟨Or.inl g121, rfl⟩
              refine stepsF_cons ?_ ?_
              · refine StepF.unless 3 true 121 rfl rfl fun F_ w_ hR hout hD => ?_
                have g121 : F_ 121 = .bool false := hD.get 1 rfl rfl rfl
                exact ⟨Or.inl g121, rfl⟩
              refine stepsF_cons ?_ ?_
              · refine StepF.unless 3 true 121 rfl rfl fun F_ w_ hR hout hD => ?_
                have g121 : F_ 121 = .bool false := hD.get 1 rfl rfl rfl
                exact ⟨Or.inl g121, rfl⟩
              refine stepsF_cons ?_ ?_
              · refine StepF.unless 3 true 121 rfl rfl fun F_ w_ hR hout hD => ?_
                have g121 : F_ 121 = .bool false := hD.get 2 rfl rfl rfl
                exact ⟨Or.inl g121, rfl⟩
              refine stepsF_cons ?_ ?_
              · refine StepF.one rfl fun F_ w_ hR hout hD => ?_
                have g121 : F_ 121 = .bool false := hD.get 0 rfl rfl rfl
                exact (y_pickF rfl g121 rfl ⟨rfl, Kept.refl _ _⟩)
              exact stepsF_nil
            intro v1220 F1221 w1222 k1223 G1224 hF1225
            have B1227 := B1124.all k1223 Apart.none
            have B1228 := B1125.all k1223 id
            have B1229 := B1126.all k1223 Apart.none
            have B1230 := B1127.all k1223 Apart.none
            have B1231 := B1128.all k1223 Apart.none
            have B1232 := B1129.all k1223 id
            have B1233 := B1130.all k1223 Apart.none
            have B1234 := B1131.all k1223 Apart.none
            have B1235 := B1132.all k1223 Apart.none
            have B1236 := B1133.all k1223 id
            have B1237 := B1134.all k1223 Apart.none
            have B1238 := B1135.all k1223 Apart.none
            have B1239 := B1136.all k1223 Apart.none
            have B1240 := B1137.all k1223 id
            have K1241 := K1138.trans k1223 (fun _ _ x => x.elim)
            have s1242 : F1221 15 = .bool true := (hF1225 15).trans s1158
            have s1243 : F1221 16 = .pointer (some ⟨p83, 0, none⟩) := (hF1225 16).trans s1159
            have s1244 : F1221 17 = .int .i64 (((k : Nat) : Int)) := (hF1225 17).trans s1160
            have s1245 : F1221 138 = undef := (hF1225 138).trans s1161
            have s1246 : F1221 23 = .pointer (some ⟨p328, 0, none⟩) := (hF1225 23).trans s1162
            have s1247 : F1221 25 = .bool true := (hF1225 25).trans s1163
            have s1248 : F1221 26 = .int .i64 (((2 : Nat) : Int)) := (hF1225 26).trans s1164
            have s1249 : F1221 133 = .bool false := (hF1225 133).trans (G1224 15 (by decide))
            clear G1224 hF1225
            refine then_normal ?_
            refine wq_cond (t := false) s1249 (fun e => by cases e) (fun _ => ?_)
            refine wq_skip ?_
            refine in_normal ?_
            refine then_normal ?_
            refine wq_region ?_
            refine wl_v (.int .i64 (((2 : Nat) : Int))) rfl rfl (y_mov rfl s1248 ⟨rfl, rfl⟩) ?_
            refine wl_v (.int .i64 (((3 : Nat) : Int))) rfl rfl (y_add rfl rfl rfl (i64_n (by omega) (by omega)) ⟨rfl, rfl⟩) ?_
            refine wl_v (.int .i64 (((3 : Nat) : Int))) rfl rfl (y_asg rfl rfl ⟨rfl, rfl⟩) ?_
            refine wl_nil fun F1250 hF1251 => ?_
            have s1252 : F1250 15 = .bool true := (hF1251 15).trans s1242
            have s1253 : F1250 16 = .pointer (some ⟨p83, 0, none⟩) := (hF1251 16).trans s1243
            have s1254 : F1250 17 = .int .i64 (((k : Nat) : Int)) := (hF1251 17).trans s1244
            have s1255 : F1250 138 = undef := (hF1251 138).trans s1245
            have s1256 : F1250 23 = .pointer (some ⟨p328, 0, none⟩) := (hF1251 23).trans s1246
            have s1257 : F1250 25 = .bool true := (hF1251 25).trans s1247
            have s1258 : F1250 26 = .int .i64 (((3 : Nat) : Int)) := (hF1251 26).trans rfl
            clear hF1251
            refine then_normal ?_
            refine wqr_step ?_
            refine wq_seq ?_
            refine wq_seq ?_
            refine wq_region ?_
            refine wl_v (.int .i64 (((3 : Nat) : Int))) rfl rfl (y_mov rfl s1258 ⟨rfl, rfl⟩) ?_
            refine wl_v (.bool false) rfl rfl (y_lss rfl rfl rfl rfl ⟨rfl, rfl⟩) ?_
            refine wl_nil fun F1259 hF1260 => ?_
            have s1261 : F1259 15 = .bool true := (hF1260 15).trans s1252
            have s1262 : F1259 16 = .pointer (some ⟨p83, 0, none⟩) := (hF1260 16).trans s1253
            have s1263 : F1259 17 = .int .i64 (((k : Nat) : Int)) := (hF1260 17).trans s1254
            have s1264 : F1259 138 = undef := (hF1260 138).trans s1255
            have s1265 : F1259 23 = .pointer (some ⟨p328, 0, none⟩) := (hF1260 23).trans s1256
            have s1266 : F1259 25 = .bool true := (hF1260 25).trans s1257
            have s1267 : F1259 26 = .int .i64 (((3 : Nat) : Int)) := (hF1260 26).trans s1258
            have s1268 : F1259 115 = .bool false := (hF1260 115).trans rfl
            clear hF1260
            refine then_normal ?_
            refine wq_cond (t := false) s1268 (fun e => by cases e) (fun _ => ?_)
            refine wq_exit ?_
            refine then_exit ?_
            refine then_exit ?_
            refine in_here ?_
            refine then_normal ?_
            refine wq_seq ?_
            refine wq_region ?_
            refine wl_v (.bool true) rfl rfl (y_mov rfl s1261 ⟨rfl, rfl⟩) ?_
            refine wl_v (.bool true) rfl rfl (y_mov rfl rfl ⟨rfl, rfl⟩) ?_
            refine wl_vw (.bool true) 1 true 135 rfl rfl rfl rfl rfl (y_mov rfl s1266 ⟨rfl, rfl⟩) ?_
            refine wl_v (.bool true) rfl rfl (y_pickT rfl rfl rfl ⟨rfl, rfl⟩) ?_
            refine wl_v (.bool true) rfl rfl (y_asg rfl rfl ⟨rfl, rfl⟩) ?_
            refine wl_nil fun F1269 hF1270 => ?_
            have s1271 : F1269 138 = undef := (hF1270 138).trans s1264
            have s1272 : F1269 14 = .bool true := (hF1270 14).trans rfl
            clear hF1270
            refine then_normal ?_
            refine wq_ret ?_
            exact end_tmp (v := .bool true) s1271 rfl rfl s1272 ⟨rfl, K1241⟩
end Go.Proofs.Ytomkodoclnbaoaa
namespace Go.Proofs.Ytomkodoclnbaoaa
open Go.RowKit

theorem nat_u8 {n : Int} (h : (Lit.int .u8 n).wf = true) : ∃ m : Nat, n = (m : Int) ∧ m < 256 := by
  have := bounds_u8 h
  exact ⟨n.toNat, by omega, by omega⟩
end Go.Proofs.Ytomkodoclnbaoaa
namespace Go.Proofs.Ytomkodoclnbaoaa
open Go.ChangeShapes Go.WideShapes Go.ChangeAt Go.RowKit

section
variable {H : Type} {enc : TypeId × Value → H} {w : World} {base : Nat} {spare : Nat → Bool} {held : Bool}

theorem BytesArg.of_row {a : Option Addr} {len cap : Nat} {zs : List Int}
    (h : (a = none ∧ len = 0 ∧ cap = 0 ∧ zs = []) ∨ ∃ x, a = some x ∧ len ≤ cap ∧ cap ≤ maxLen ∧ len ≤ zs.length ∧ (∀ i, i < zs.length → w.cell? (x.add i) = some (.int .u8 (zs.getD i 0))) ∧ ∀ n ∈ zs, (Lit.int .u8 n).wf = true) :
    ∃ l : List Nat, BytesArg w (.slice a len cap) l := by
  rcases h with ⟨rfl, rfl, rfl, rfl⟩ | ⟨x, rfl, hlc, hcm, hz, hcell, hwf⟩
  · exact ⟨[], BytesArg.nil w⟩
  · have hlen : ((zs.take len).map Int.toNat).length = len := by simp; omega
    refine ⟨(zs.take len).map Int.toNat, some x, cap, by rw [hlen], by rw [hlen]; exact hlc, hcm, by simp, ?_, ?_⟩
    · intro y hy
      obtain ⟨z, hz1, rfl⟩ := List.mem_map.1 hy
      have := bounds_u8 (hwf z (List.mem_of_mem_take hz1))
      omega
    · intro hpos
      rw [hlen] at hpos
      have hpos' : 0 < zs.length := by omega
      obtain ⟨b, off, rfl, hc⟩ := ints_at hcell hpos'
      refine ⟨b, off, rfl, World.block_lt_of_cell? w _ (hc 0 hpos'), fun i hi => ?_⟩
      rw [hlen] at hi
      have hi' : i < zs.length := by omega
      rw [hc i hi']
      have hwi := bounds_u8 (hwf zs[i] (List.getElem_mem hi'))
      simp [List.getD, hi', hi]
      omega

theorem bytes_open {fuel : Nat} {v : Value} {x : DataW H × List MemPlace}
    (h : DataW.trod enc Try.prog w base spare held fuel 22 [v] = some x) : ∃ l : List Nat, BytesArg w v l := by
  rcases open_ints Try.underlying22 Try.underlying5 (by kernel_rfl) h with ⟨hcs, _⟩ | ⟨a, len, cap, zs, hcs, _, hl, hm, hz, _, hcell, hwz⟩
  · simp at hcs
    subst hcs
    exact ⟨[], BytesArg.nil w⟩
  · simp at hcs
    subst hcs
    exact BytesArg.of_row (.inr ⟨a, rfl, hl, hm, by have := hz; split at this <;> omega, hcell, hwz⟩)

end
end Go.Proofs.Ytomkodoclnbaoaa
namespace Go.Proofs.Ytomkodoclnbaoaa
open Go.ChangeShapes Go.WideShapes Go.ChangeAt Go.RowKit

section
variable {H : Type} {enc : TypeId × Value → H} {P : Program} {w : World} {base : Nat} {spare : Nat → Bool} {held : Bool}

/-- The number at a place. -/
def intAt (cs : List Value) (i : Nat) : Int := match cs[i]? with
  | some (.int _ z) => z
  | _ => 0

theorem cells_ints {t e : TypeId} {n fuel : Nat} {k : IntKind} {cs : List Value} {x : DataW H × List MemPlace} (ht : P.underlying t = some (.array n e)) (he : P.underlying e = some (.int k)) (hce : P.cellsOf e = 1) (hct : P.cellsOf t = n)
    (h : DataW.trod enc P w base spare held fuel t cs = some x) : cs.length = n ∧ ∀ i, i < n → cs[i]? = some (.int k (intAt cs i)) ∧ (Lit.int k (intAt cs i)).wf = true := by
  obtain ⟨xs, m, _, _, hl, hn, hel⟩ := DataW.trod_array ht h
  refine ⟨by rw [hl, hct], fun i hi => ?_⟩
  have h1 := hel i hi
  rw [hce, Nat.mul_one, List.getElem?_eq_getElem (by omega)] at h1
  obtain ⟨z, hz, _, hw⟩ := DataW.trod_int he h1
  have h2 : cs[i]? = some (.int k z) := by
    have := congrArg (·[0]?) hz
    simpa [List.getElem?_take, List.getElem?_drop] using this
  have h3 : intAt cs i = z := by unfold intAt; rw [h2]
  rw [h3]; exact ⟨h2, hw⟩

theorem arr_open {r : Reach} {b0 : Nat} {t e : TypeId} {n : Nat} {v : Value} {d : DataW H} {ps : List MemPlace} (ht : P.underlying t = some (.array n e)) (he : P.underlying e = some (.int .i64)) (hce : P.cellsOf e = 1) (hct : P.cellsOf t = n)
    (hval : Value.okWide P w r b0 t v) (h : DataW.Trod enc P w base spare held t v d ps) : ∃ b : Nat → Int, v = .agg (arrL n b).toArray ∧ ∀ i, i < n → -9223372036854775808 ≤ b i ∧ b i ≤ 9223372036854775807 := by
  obtain ⟨cs, rfl, _, _⟩ : ∃ cs, v = .agg cs ∧ cs.size = P.cellsOf t ∧ Row.okWide P w r b0 t cs := by simpa [Value.okWide, ht] using hval
  obtain ⟨fuel, hf⟩ := h
  obtain ⟨hl, hc⟩ := cells_ints ht he hce hct (cs := cs.toList) hf
  refine ⟨intAt cs.toList, ?_, fun i hi => ?_⟩
  · congr 1
    apply Array.ext'
    apply List.ext_getElem?
    intro i
    by_cases hi : i < n
    · rw [(hc i hi).1]; exact (arrL_at hi).symm
    · rw [List.getElem?_eq_none (by omega), List.getElem?_eq_none (by simp [arrL_length]; omega)]
  · have := bounds_i64 (hc i hi).2
    omega
end
end Go.Proofs.Ytomkodoclnbaoaa
