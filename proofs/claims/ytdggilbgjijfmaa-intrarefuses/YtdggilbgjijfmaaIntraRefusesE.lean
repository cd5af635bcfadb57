/- What IntraRefuses reaches of my texts, part 5. -/
import Derived.Test.YtdggilbgjijfmaaIntraRefusesD
namespace Go.Proofs.Ytdggilbgjijfmaa
open Go.RowKit
theorem none_place (p x y : Int) : ¬ placeF (FD.mk 0 0 [] [] []) p x y := fun h => absurd h.1 (by decide)

set_option maxHeartbeats 4000000 in
set_option maxRecDepth 100000 in
theorem irefuses_walk (w h : Nat) (v : Value) (l : List Nat) (p x y mode : Int) (T_s : Nat → Prop) (w0 : World) (hw : w < 256) (hh : h < 256) (h_s : Byt w0 T_s v (l)) :
    Calls Try.prog 8 #[.int .u8 (((w : Nat) : Int)), .int .u8 (((h : Nat) : Int)), v, .int .i64 (p), .int .i64 (x), .int .i64 (y), .int .i64 (mode)] w0 fun e w' => e = .returned (.bool true) ∧ Kept (fun _ => False) w0 w' := by
  refine calls_wq (args := [.int .u8 (((w : Nat) : Int)), .int .u8 (((h : Nat) : Int)), v, .int .i64 (p), .int .i64 (x), .int .i64 (y), .int .i64 (mode)]) 113 Try.func8 rfl rfl (Nat.le_of_ble_eq_true rfl) ?_
  have K0 := Kept.refl (fun _ => False) w0
  have g_s := Grew.refl w0 T_s
  refine wq_seq ?_
  refine wq_region ?_
  refine wl_v (.bool false) rfl rfl (y_asg rfl rfl ⟨rfl, rfl⟩) ?_
  refine wl_nil fun F1 hF2 => ?_
  have s3 : F1 0 = .int .u8 (((w : Nat) : Int)) := (hF2 0).trans rfl
  have s4 : F1 1 = .int .u8 (((h : Nat) : Int)) := (hF2 1).trans rfl
  have s5 : F1 2 = v := (hF2 2).trans rfl
  have s6 : F1 3 = .int .i64 (p) := (hF2 3).trans rfl
  have s7 : F1 4 = .int .i64 (x) := (hF2 4).trans rfl
  have s8 : F1 5 = .int .i64 (y) := (hF2 5).trans rfl
  have s9 : F1 6 = .int .i64 (mode) := (hF2 6).trans rfl
  have s10 : F1 113 = undef := (hF2 113).trans rfl
  clear hF2
  refine then_normal ?_
  refine wq_seq ?_
  refine wq_region ?_
  refine wl_call (R := fun v_ w_ => v_ = .bool true ∧ Kept (fun _ => False) w0 w_) rfl rfl (y_cs rfl rfl rfl (fun _ _ => by kernel_rfl) (ev_func _) vsN (iawake   _   ) (fun e_ w_ h_ => ⟨_, h_.1, rfl, h_.2⟩)) ?_
  rintro _ w11 ⟨rfl, k12⟩
  have B13 := h_s.all k12 Apart.none
  have K14 := K0.trans k12 (fun _ _ x => x.elim)
  refine wl_v (.bool true) rfl rfl (y_asg rfl rfl ⟨rfl, rfl⟩) ?_
  refine wl_nil fun F15 hF16 => ?_
  have s17 : F15 0 = .int .u8 (((w : Nat) : Int)) := (hF16 0).trans s3
  have s18 : F15 1 = .int .u8 (((h : Nat) : Int)) := (hF16 1).trans s4
  have s19 : F15 2 = v := (hF16 2).trans s5
  have s20 : F15 3 = .int .i64 (p) := (hF16 3).trans s6
  have s21 : F15 4 = .int .i64 (x) := (hF16 4).trans s7
  have s22 : F15 5 = .int .i64 (y) := (hF16 5).trans s8
  have s23 : F15 6 = .int .i64 (mode) := (hF16 6).trans s9
  have s24 : F15 113 = undef := (hF16 113).trans s10
  have s25 : F15 15 = .bool true := (hF16 15).trans rfl
  clear hF16
  refine then_normal ?_
  refine wq_seq ?_
  refine wq_seq ?_
  refine wq_region ?_
  refine wl_v (v) rfl rfl (y_mov rfl s19 ⟨rfl, rfl⟩) ?_
  refine wl_v (.int .i64 ((((l).length : Nat) : Int))) rfl rfl (y_lenV rfl rfl rfl B13 ⟨rfl, rfl⟩) ?_
  refine wl_v (.bool (decide ((300) < ((((l).length : Nat) : Int))))) rfl rfl (y_gtr rfl rfl rfl rfl ⟨rfl, rfl⟩) ?_
  refine wl_nil fun F26 hF27 => ?_
  have s28 : F26 0 = .int .u8 (((w : Nat) : Int)) := (hF27 0).trans s17
  have s29 : F26 1 = .int .u8 (((h : Nat) : Int)) := (hF27 1).trans s18
  have s30 : F26 2 = v := (hF27 2).trans s19
  have s31 : F26 3 = .int .i64 (p) := (hF27 3).trans s20
  have s32 : F26 4 = .int .i64 (x) := (hF27 4).trans s21
  have s33 : F26 5 = .int .i64 (y) := (hF27 5).trans s22
  have s34 : F26 6 = .int .i64 (mode) := (hF27 6).trans s23
  have s35 : F26 113 = undef := (hF27 113).trans s24
  have s36 : F26 15 = .bool true := (hF27 15).trans s25
  have s37 : F26 28 = .bool (decide ((300) < ((((l).length : Nat) : Int)))) := (hF27 28).trans rfl
  clear hF27
  refine then_normal ?_
  refine wq_cond s37 (fun c38 => ?_) (fun c38 => ?_)
  · replace c38 := of_decide_eq_true c38
    refine wq_seq ?_
    refine wq_region ?_
    refine wl_v (.bool true) rfl rfl (y_mov rfl s36 ⟨rfl, rfl⟩) ?_
    refine wl_v (.bool true) rfl rfl (y_asg rfl rfl ⟨rfl, rfl⟩) ?_
    refine wl_nil fun F39 hF40 => ?_
    have s41 : F39 113 = undef := (hF40 113).trans s35
    have s42 : F39 14 = .bool true := (hF40 14).trans rfl
    clear hF40
    refine then_normal ?_
    refine wq_ret ?_
    refine then_ret ?_
    exact end_tmp (v := .bool true) s41 rfl rfl s42 ⟨rfl, K14⟩
  · replace c38 := of_decide_eq_false c38
    refine wq_skip ?_
    refine then_normal ?_
    refine wq_seq ?_
    refine wq_region ?_
    refine wl_v (.int .u8 (((w : Nat) : Int))) rfl rfl (y_mov rfl s28 ⟨rfl, rfl⟩) ?_
    refine wl_v (.int .u8 (((h : Nat) : Int))) rfl rfl (y_mov rfl s29 ⟨rfl, rfl⟩) ?_
    refine wl_v (v) rfl rfl (y_mov rfl s30 ⟨rfl, rfl⟩) ?_
    refine wl_call (R := fun v_ w_ => ∃ (v43 : Value) (T48 : Nat → Prop) (v44 : Value) (T49 : Nat → Prop) (v45 : Value) (T50 : Nat → Prop), .agg #[.int .i64 ((mkF (w) (h) (l)).W), .int .i64 ((mkF (w) (h) (l)).H), v43, v44, v45] = v_ ∧ Kept (fun _ => False) w11 w_ ∧ (Owb w_ T48 v43 ((mkF (w) (h) (l)).p0) ∧ Grew w11 noB T48) ∧ (Owb w_ T49 v44 ((mkF (w) (h) (l)).p1) ∧ Grew w11 noB T49) ∧ (Owb w_ T50 v45 ((mkF (w) (h) (l)).p2) ∧ Grew w11 noB T50) ∧ Apart T48 T49 ∧ Apart T48 T50 ∧ Apart T49 T50) rfl rfl (y_cs rfl rfl rfl (fun _ _ => by kernel_rfl) (ev_func _) (vsC rfl (vsC rfl (vsC rfl vsN))) (flaw_frame (w) (h) (v) (l) (T_s) _ (by omega) (by omega) B13 ) (fun e_ w_ h_ => by obtain ⟨v43_, T48_, v44_, T49_, v45_, T50_, he_, hr_⟩ := h_; exact ⟨_, he_, v43_, T48_, v44_, T49_, v45_, T50_, rfl, hr_⟩)) ?_
    rintro _ w46 ⟨v43, T48, v44, T49, v45, T50, rfl, k47, ⟨B51, g54⟩, ⟨B52, g55⟩, ⟨B53, g56⟩, ap57, ap58, ap59⟩
    have B60 := B13.all k47 Apart.none
    have K61 := K14.trans k47 (fun _ _ x => x.elim)
    have gr62 : Grew w0 noB (T48) := Grew.new K14 g54
    have ap63 : Apart (T48) (T_s) := Apart.new g54 (B13).live
    have gr64 : Grew w0 noB (T49) := Grew.new K14 g55
    have ap65 : Apart (T49) (T_s) := Apart.new g55 (B13).live
    have gr66 : Grew w0 noB (T50) := Grew.new K14 g56
    have ap67 : Apart (T50) (T_s) := Apart.new g56 (B13).live
    refine wl_alloc_stc (n := 5) (vs := [.int .i64 (0), .int .i64 (0), .slice none 0 0, .slice none 0 0, .slice none 0 0]) rfl rfl rfl (by kernel_rfl) fun p68 w69 B71 g72 k70 => ?_
    have gr73 : Grew w0 noB (onB p68) := Grew.new K61 g72
    have ap74 : Apart (onB p68) (T_s) := Apart.new g72 (B60).live
    have ap75 : Apart (onB p68) (T48) := Apart.new g72 (B51).live
    have ap76 : Apart (onB p68) (T49) := Apart.new g72 (B52).live
    have ap77 : Apart (onB p68) (T50) := Apart.new g72 (B53).live
    have B78 := B60.all k70 Apart.none
    have B79 := B51.all k70 Apart.none
    have B80 := B52.all k70 Apart.none
    have B81 := B53.all k70 Apart.none
    have K82 := K61.trans k70 (fun _ _ x => x.elim)
    refine wl_store_stc (us := [.int .i64 ((mkF (w) (h) (l)).W), .int .i64 ((mkF (w) (h) (l)).H), v43, v44, v45]) stcT_frame rfl rfl rfl rfl rfl B71 rfl (oneI rfl (oneI rfl (oneI (B79).one (oneI (B80).one (oneI (B81).one oneN))))) fun w83 B84 k85 => ?_
    have B86 := B78.all k85 (fun i h x => (((ap74).symm) i h x))
    have B87 := B79.all k85 (fun i h x => (((ap75).symm) i h x))
    have B88 := B80.all k85 (fun i h x => (((ap76).symm) i h x))
    have B89 := B81.all k85 (fun i h x => (((ap77).symm) i h x))
    have K90 := K82.trans k85 (Grew.ok (S := fun _ => False) gr73 noB_le)
    refine wl_nil fun F91 hF92 => ?_
    have s93 : F91 3 = .int .i64 (p) := (hF92 3).trans s31
    have s94 : F91 4 = .int .i64 (x) := (hF92 4).trans s32
    have s95 : F91 5 = .int .i64 (y) := (hF92 5).trans s33
    have s96 : F91 6 = .int .i64 (mode) := (hF92 6).trans s34
    have s97 : F91 113 = undef := (hF92 113).trans s35
    have s98 : F91 15 = .bool true := (hF92 15).trans s36
    have s99 : F91 16 = .pointer (some ⟨p68, 0, none⟩) := (hF92 16).trans rfl
    clear hF92
    refine then_normal ?_
    refine wq_seq ?_
    by_cases d100 : (0) ≤ (p)
    · skip
      by_cases d101 : (p) ≤ (2)
      · skip
        by_cases d102 : (0) ≤ (x)
        · skip
          by_cases d103 : (x) ≤ (64)
          · skip
            by_cases d104 : (0) ≤ (y)
            · skip
              refine wq_region ?_
              refine wl_v (.int .i64 (p)) rfl rfl (y_mov rfl s93 ⟨rfl, rfl⟩) ?_
              refine wl_v (.bool true) rfl rfl (y_geq rfl rfl rfl (decide_eq_true d100) ⟨rfl, rfl⟩) ?_
              refine wl_v (.bool true) rfl rfl (y_mov rfl rfl ⟨rfl, rfl⟩) ?_
              refine wl_vw (.int .i64 (p)) 2 true 36 rfl rfl rfl rfl rfl (y_mov rfl s93 ⟨rfl, rfl⟩) ?_
              refine wl_vw (.bool true) 2 true 36 rfl rfl rfl rfl rfl (y_leq rfl rfl rfl (decide_eq_true d101) ⟨rfl, rfl⟩) ?_
              refine wl_v (.bool true) rfl rfl (y_pickT rfl rfl rfl ⟨rfl, rfl⟩) ?_
              refine wl_v (.bool true) rfl rfl (y_mov rfl rfl ⟨rfl, rfl⟩) ?_
              refine wl_vw (.int .i64 (x)) 6 true 40 rfl rfl rfl rfl rfl (y_mov rfl s94 ⟨rfl, rfl⟩) ?_
              refine wl_vw (.bool true) 6 true 40 rfl rfl rfl rfl rfl (y_geq rfl rfl rfl (decide_eq_true d102) ⟨rfl, rfl⟩) ?_
              refine wl_v (.bool true) rfl rfl (y_pickT rfl rfl rfl ⟨rfl, rfl⟩) ?_
              refine wl_v (.bool true) rfl rfl (y_mov rfl rfl ⟨rfl, rfl⟩) ?_
              refine wl_vw (.int .i64 (x)) 10 true 44 rfl rfl rfl rfl rfl (y_mov rfl s94 ⟨rfl, rfl⟩) ?_
              refine wl_vw (.bool true) 10 true 44 rfl rfl rfl rfl rfl (y_leq rfl rfl rfl (decide_eq_true d103) ⟨rfl, rfl⟩) ?_
              refine wl_v (.bool true) rfl rfl (y_pickT rfl rfl rfl ⟨rfl, rfl⟩) ?_
              refine wl_v (.bool true) rfl rfl (y_mov rfl rfl ⟨rfl, rfl⟩) ?_
              refine wl_vw (.int .i64 (y)) 14 true 48 rfl rfl rfl rfl rfl (y_mov rfl s95 ⟨rfl, rfl⟩) ?_
              refine wl_vw (.bool true) 14 true 48 rfl rfl rfl rfl rfl (y_geq rfl rfl rfl (decide_eq_true d104) ⟨rfl, rfl⟩) ?_
              refine wl_v (.bool true) rfl rfl (y_pickT rfl rfl rfl ⟨rfl, rfl⟩) ?_
              refine wl_v (.bool true) rfl rfl (y_mov rfl rfl ⟨rfl, rfl⟩) ?_
              refine wl_vw (.int .i64 (y)) 18 true 52 rfl rfl rfl rfl rfl (y_mov rfl s95 ⟨rfl, rfl⟩) ?_
              refine wl_vw (.bool (decide ((y) ≤ (64)))) 18 true 52 rfl rfl rfl rfl rfl (y_leq rfl rfl rfl rfl ⟨rfl, rfl⟩) ?_
              refine wl_v (.bool (decide ((y) ≤ (64)))) rfl rfl (y_pickT rfl rfl rfl ⟨rfl, rfl⟩) ?_
              refine wl_v (.bool (decide ((y) ≤ (64)))) rfl rfl (y_asg rfl rfl ⟨rfl, rfl⟩) ?_
              refine wl_nil fun F105 hF106 => ?_
              have s107 : F105 3 = .int .i64 (p) := (hF106 3).trans s93
              have s108 : F105 4 = .int .i64 (x) := (hF106 4).trans s94
              have s109 : F105 5 = .int .i64 (y) := (hF106 5).trans s95
              have s110 : F105 6 = .int .i64 (mode) := (hF106 6).trans s96
              have s111 : F105 113 = undef := (hF106 113).trans s97
              have s112 : F105 15 = .bool true := (hF106 15).trans s98
              have s113 : F105 16 = .pointer (some ⟨p68, 0, none⟩) := (hF106 16).trans s99
              have s114 : F105 17 = .bool (decide ((y) ≤ (64))) := (hF106 17).trans rfl
              clear hF106
              refine then_normal ?_
              refine wq_seq ?_
              refine wq_region ?_
              refine wl_v (.agg #[.int .i64 ((mkF (w) (h) (l)).W), .int .i64 ((mkF (w) (h) (l)).H), v43, v44, v45]) rfl rfl (y_load_stc stcT_frame rfl s113 B84 ⟨rfl, rfl⟩) ?_
              refine wl_v (.int .i64 (p)) rfl rfl (y_mov rfl s107 ⟨rfl, rfl⟩) ?_
              refine wl_v (.int .i64 (x)) rfl rfl (y_mov rfl s108 ⟨rfl, rfl⟩) ?_
              refine wl_v (.int .i64 (y)) rfl rfl (y_mov rfl s109 ⟨rfl, rfl⟩) ?_
              refine wl_v (.int .i64 (mode)) rfl rfl (y_mov rfl s110 ⟨rfl, rfl⟩) ?_
              refine wl_call (R := fun v_ w_ => v_ = .tuple #[blkV (predB (mkF (w) (h) (l)) (p) (x) (y) (mode)), .int .i64 (predE (mkF (w) (h) (l)) (p) (x) (y) (mode))] ∧ Kept (fun _ => False) w83 w_) rfl rfl (y_cs rfl rfl rfl (fun _ _ => by kernel_rfl) (ev_func _) (vsC rfl (vsC rfl (vsC rfl (vsC rfl (vsC rfl vsN))))) (il_predict (p) (x) (y) (mode) (mkF (w) (h) (l)) (v43) (v44) (v45) (T48) (T49) (T50) _  (B87).byt (B88).byt (B89).byt ) (fun e_ w_ h_ => ⟨_, h_.1, rfl, h_.2⟩)) ?_
              rintro _ w115 ⟨rfl, k116⟩
              have B117 := B86.all k116 Apart.none
              have B118 := B87.all k116 Apart.none
              have B119 := B88.all k116 Apart.none
              have B120 := B89.all k116 Apart.none
              have B121 := B84.all k116 id
              have K122 := K90.trans k116 (fun _ _ x => x.elim)
              refine wl_v (.tuple #[blkV (predB (mkF (w) (h) (l)) (p) (x) (y) (mode)), .int .i64 (predE (mkF (w) (h) (l)) (p) (x) (y) (mode))]) rfl rfl (y_mov rfl rfl ⟨rfl, rfl⟩) ?_
              refine wl_v (blkV (predB (mkF (w) (h) (l)) (p) (x) (y) (mode))) rfl rfl (y_ext rfl rfl rfl ⟨rfl, rfl⟩) ?_
              refine wl_v (.int .i64 (predE (mkF (w) (h) (l)) (p) (x) (y) (mode))) rfl rfl (y_ext rfl rfl rfl ⟨rfl, rfl⟩) ?_
              refine wl_alloc_blk rfl rfl rfl blkT_block.2.2 fun p123 w124 e127 B125 k126 => ?_
              have g128 := onB_new (Nat.le_of_eq e127.symm)
              have gr129 : Grew w0 noB (onB p123) := Grew.new K122 g128
              have ap130 : Apart (onB p123) (T_s) := Apart.new g128 (B117).live
              have ap131 : Apart (onB p123) (T48) := Apart.new g128 (B118).live
              have ap132 : Apart (onB p123) (T49) := Apart.new g128 (B119).live
              have ap133 : Apart (onB p123) (T50) := Apart.new g128 (B120).live
              have ap134 : Apart (onB p123) (onB p68) := Apart.new g128 (onB_live (B121).lt)
              clear e127 g128
              have B135 := B117.all k126 Apart.none
              have B136 := B118.all k126 Apart.none
              have B137 := B119.all k126 Apart.none
              have B138 := B120.all k126 Apart.none
              have B139 := B121.all k126 id
              have K140 := K122.trans k126 (fun _ _ x => x.elim)
              refine wl_store_blk blkT_block rfl rfl rfl rfl rfl B125 fun w141 B142 k143 => ?_
              have B144 := B135.all k143 (fun i h x => (((ap130).symm) i h x))
              have B145 := B136.all k143 (fun i h x => (((ap131).symm) i h x))
              have B146 := B137.all k143 (fun i h x => (((ap132).symm) i h x))
              have B147 := B138.all k143 (fun i h x => (((ap133).symm) i h x))
              have B148 := B139.all k143 (fun x => (((ap134).symm) p68 rfl x))
              have K149 := K140.trans k143 (Grew.ok (S := fun _ => False) gr129 noB_le)
              refine wl_v (.int .i64 (predE (mkF (w) (h) (l)) (p) (x) (y) (mode))) rfl rfl (y_asg rfl rfl ⟨rfl, rfl⟩) ?_
              refine wl_nil fun F150 hF151 => ?_
              have s152 : F150 3 = .int .i64 (p) := (hF151 3).trans s107
              have s153 : F150 4 = .int .i64 (x) := (hF151 4).trans s108
              have s154 : F150 5 = .int .i64 (y) := (hF151 5).trans s109
              have s155 : F150 6 = .int .i64 (mode) := (hF151 6).trans s110
              have s156 : F150 113 = undef := (hF151 113).trans s111
              have s157 : F150 15 = .bool true := (hF151 15).trans s112
              have s158 : F150 16 = .pointer (some ⟨p68, 0, none⟩) := (hF151 16).trans s113
              have s159 : F150 17 = .bool (decide ((y) ≤ (64))) := (hF151 17).trans s114
              have s160 : F150 19 = .int .i64 (predE (mkF (w) (h) (l)) (p) (x) (y) (mode)) := (hF151 19).trans rfl
              clear hF151
              refine then_normal ?_
              refine wq_seq ?_
              refine wq_region ?_
              refine wl_v (.agg #[.int .i64 ((mkF (w) (h) (l)).W), .int .i64 ((mkF (w) (h) (l)).H), v43, v44, v45]) rfl rfl (y_load_stc stcT_frame rfl s158 B148 ⟨rfl, rfl⟩) ?_
              refine wl_v (.int .i64 (p)) rfl rfl (y_mov rfl s152 ⟨rfl, rfl⟩) ?_
              refine wl_v (.int .i64 (x)) rfl rfl (y_mov rfl s153 ⟨rfl, rfl⟩) ?_
              refine wl_v (.int .i64 (y)) rfl rfl (y_mov rfl s154 ⟨rfl, rfl⟩) ?_
              refine wl_v (blkV (fun _ => 0)) rfl rfl (y_buildR (cells := (arrL 16 (fun _ => 0)).toArray) rfl (by kernel_rfl) rfl ⟨rfl, rfl⟩) ?_
              refine wl_call (R := fun v_ w_ => v_ = .tuple #[.int .i64 ((bestF (mkF (w) (h) (l)) (p) (x) (y) (fun _ => 0)).1), .int .i64 ((bestF (mkF (w) (h) (l)) (p) (x) (y) (fun _ => 0)).2)] ∧ Kept (fun _ => False) w141 w_) rfl rfl (y_cs rfl rfl rfl (fun _ _ => by kernel_rfl) (ev_func _) (vsC rfl (vsC rfl (vsC rfl (vsC rfl (vsC rfl vsN))))) (il_best (p) (x) (y) (fun _ => 0) (mkF (w) (h) (l)) (v43) (v44) (v45) (T48) (T49) (T50) _  (B145).byt (B146).byt (B147).byt ) (fun e_ w_ h_ => ⟨_, h_.1, rfl, h_.2⟩)) ?_
              rintro _ w161 ⟨rfl, k162⟩
              have B163 := B144.all k162 Apart.none
              have B164 := B145.all k162 Apart.none
              have B165 := B146.all k162 Apart.none
              have B166 := B147.all k162 Apart.none
              have B167 := B148.all k162 id
              have B168 := B142.all k162 id
              have K169 := K149.trans k162 (fun _ _ x => x.elim)
              refine wl_v (.tuple #[.int .i64 ((bestF (mkF (w) (h) (l)) (p) (x) (y) (fun _ => 0)).1), .int .i64 ((bestF (mkF (w) (h) (l)) (p) (x) (y) (fun _ => 0)).2)]) rfl rfl (y_mov rfl rfl ⟨rfl, rfl⟩) ?_
              refine wl_v (.int .i64 ((bestF (mkF (w) (h) (l)) (p) (x) (y) (fun _ => 0)).1)) rfl rfl (y_ext rfl rfl rfl ⟨rfl, rfl⟩) ?_
              refine wl_v (.int .i64 ((bestF (mkF (w) (h) (l)) (p) (x) (y) (fun _ => 0)).2)) rfl rfl (y_ext rfl rfl rfl ⟨rfl, rfl⟩) ?_
              refine wl_v (.int .i64 ((bestF (mkF (w) (h) (l)) (p) (x) (y) (fun _ => 0)).1)) rfl rfl (y_asg rfl rfl ⟨rfl, rfl⟩) ?_
              refine wl_v (.int .i64 ((bestF (mkF (w) (h) (l)) (p) (x) (y) (fun _ => 0)).2)) rfl rfl (y_asg rfl rfl ⟨rfl, rfl⟩) ?_
              refine wl_nil fun F170 hF171 => ?_
              have s172 : F170 3 = .int .i64 (p) := (hF171 3).trans s152
              have s173 : F170 4 = .int .i64 (x) := (hF171 4).trans s153
              have s174 : F170 5 = .int .i64 (y) := (hF171 5).trans s154
              have s175 : F170 6 = .int .i64 (mode) := (hF171 6).trans s155
              have s176 : F170 113 = undef := (hF171 113).trans s156
              have s177 : F170 15 = .bool true := (hF171 15).trans s157
              have s178 : F170 17 = .bool (decide ((y) ≤ (64))) := (hF171 17).trans s159
              have s179 : F170 19 = .int .i64 (predE (mkF (w) (h) (l)) (p) (x) (y) (mode)) := (hF171 19).trans s160
              have s180 : F170 20 = .int .i64 ((bestF (mkF (w) (h) (l)) (p) (x) (y) (fun _ => 0)).1) := (hF171 20).trans rfl
              have s181 : F170 21 = .int .i64 ((bestF (mkF (w) (h) (l)) (p) (x) (y) (fun _ => 0)).2) := (hF171 21).trans rfl
              clear hF171
              refine then_normal ?_
              refine wq_seq ?_
              refine wq_region ?_
              refine wl_v (.agg #[.int .i64 (0), .int .i64 (0), .slice none 0 0, .slice none 0 0, .slice none 0 0]) rfl rfl (y_buildL (l' := []) (cells := #[.int .i64 (0), .int .i64 (0), .slice none 0 0, .slice none 0 0, .slice none 0 0]) rfl bpN (by kernel_rfl) rfl ⟨rfl, rfl⟩) ?_
              refine wl_v (.int .i64 (p)) rfl rfl (y_mov rfl s172 ⟨rfl, rfl⟩) ?_
              refine wl_v (.int .i64 (x)) rfl rfl (y_mov rfl s173 ⟨rfl, rfl⟩) ?_
              refine wl_v (.int .i64 (y)) rfl rfl (y_mov rfl s174 ⟨rfl, rfl⟩) ?_
              refine wl_v (.int .i64 (mode)) rfl rfl (y_mov rfl s175 ⟨rfl, rfl⟩) ?_
              refine wl_call (R := fun v_ w_ => v_ = .tuple #[blkV (predB (FD.mk (0) (0) ([]) ([]) ([])) (p) (x) (y) (mode)), .int .i64 (predE (FD.mk (0) (0) ([]) ([]) ([])) (p) (x) (y) (mode))] ∧ Kept (fun _ => False) w161 w_) rfl rfl (y_cs rfl rfl rfl (fun _ _ => by kernel_rfl) (ev_func _) (vsC rfl (vsC rfl (vsC rfl (vsC rfl (vsC rfl vsN))))) (il_predict (p) (x) (y) (mode) (FD.mk (0) (0) ([]) ([]) ([])) (.slice none 0 0) (.slice none 0 0) (.slice none 0 0) (noB) (noB) (noB) _  (Byt.nil _) (Byt.nil _) (Byt.nil _) ) (fun e_ w_ h_ => ⟨_, h_.1, rfl, h_.2⟩)) ?_
              rintro _ w182 ⟨rfl, k183⟩
              have B184 := B163.all k183 Apart.none
              have B185 := B164.all k183 Apart.none
              have B186 := B165.all k183 Apart.none
              have B187 := B166.all k183 Apart.none
              have B188 := B167.all k183 id
              have B189 := B168.all k183 id
              have K190 := K169.trans k183 (fun _ _ x => x.elim)
              refine wl_v (.tuple #[blkV (predB (FD.mk (0) (0) ([]) ([]) ([])) (p) (x) (y) (mode)), .int .i64 (predE (FD.mk (0) (0) ([]) ([]) ([])) (p) (x) (y) (mode))]) rfl rfl (y_mov rfl rfl ⟨rfl, rfl⟩) ?_
              refine wl_v (blkV (predB (FD.mk (0) (0) ([]) ([]) ([])) (p) (x) (y) (mode))) rfl rfl (y_ext rfl rfl rfl ⟨rfl, rfl⟩) ?_
              refine wl_v (.int .i64 (predE (FD.mk (0) (0) ([]) ([]) ([])) (p) (x) (y) (mode))) rfl rfl (y_ext rfl rfl rfl ⟨rfl, rfl⟩) ?_
              refine wl_alloc_blk rfl rfl rfl blkT_block.2.2 fun p191 w192 e195 B193 k194 => ?_
              have g196 := onB_new (Nat.le_of_eq e195.symm)
              have gr197 : Grew w0 noB (onB p191) := Grew.new K190 g196
              have ap198 : Apart (onB p191) (T_s) := Apart.new g196 (B184).live
              have ap199 : Apart (onB p191) (T48) := Apart.new g196 (B185).live
              have ap200 : Apart (onB p191) (T49) := Apart.new g196 (B186).live
              have ap201 : Apart (onB p191) (T50) := Apart.new g196 (B187).live
              have ap202 : Apart (onB p191) (onB p68) := Apart.new g196 (onB_live (B188).lt)
              have ap203 : Apart (onB p191) (onB p123) := Apart.new g196 (onB_live (B189).lt)
              clear e195 g196
              have B204 := B184.all k194 Apart.none
              have B205 := B185.all k194 Apart.none
              have B206 := B186.all k194 Apart.none
              have B207 := B187.all k194 Apart.none
              have B208 := B188.all k194 id
              have B209 := B189.all k194 id
              have K210 := K190.trans k194 (fun _ _ x => x.elim)
              refine wl_store_blk blkT_block rfl rfl rfl rfl rfl B193 fun w211 B212 k213 => ?_
              have B214 := B204.all k213 (fun i h x => (((ap198).symm) i h x))
              have B215 := B205.all k213 (fun i h x => (((ap199).symm) i h x))
              have B216 := B206.all k213 (fun i h x => (((ap200).symm) i h x))
              have B217 := B207.all k213 (fun i h x => (((ap201).symm) i h x))
              have B218 := B208.all k213 (fun x => (((ap202).symm) p68 rfl x))
              have B219 := B209.all k213 (fun x => (((ap203).symm) p123 rfl x))
              have K220 := K210.trans k213 (Grew.ok (S := fun _ => False) gr197 noB_le)
              refine wl_v (.int .i64 (predE (FD.mk (0) (0) ([]) ([]) ([])) (p) (x) (y) (mode))) rfl rfl (y_asg rfl rfl ⟨rfl, rfl⟩) ?_
              refine wl_nil fun F221 hF222 => ?_
              have s223 : F221 6 = .int .i64 (mode) := (hF222 6).trans s175
              have s224 : F221 113 = undef := (hF222 113).trans s176
              have s225 : F221 15 = .bool true := (hF222 15).trans s177
              have s226 : F221 17 = .bool (decide ((y) ≤ (64))) := (hF222 17).trans s178
              have s227 : F221 19 = .int .i64 (predE (mkF (w) (h) (l)) (p) (x) (y) (mode)) := (hF222 19).trans s179
              have s228 : F221 20 = .int .i64 ((bestF (mkF (w) (h) (l)) (p) (x) (y) (fun _ => 0)).1) := (hF222 20).trans s180
              have s229 : F221 21 = .int .i64 ((bestF (mkF (w) (h) (l)) (p) (x) (y) (fun _ => 0)).2) := (hF222 21).trans s181
              have s230 : F221 23 = .int .i64 (predE (FD.mk (0) (0) ([]) ([]) ([])) (p) (x) (y) (mode)) := (hF222 23).trans rfl
              clear hF222
              refine then_normal ?_
              refine wq_seq ?_
              refine wq_region ?_
              refine wl_v (.int .i64 (0)) rfl rfl (y_asg rfl rfl ⟨rfl, rfl⟩) ?_
              refine wl_nil fun F231 hF232 => ?_
              have s233 : F231 6 = .int .i64 (mode) := (hF232 6).trans s223
              have s234 : F231 113 = undef := (hF232 113).trans s224
              have s235 : F231 15 = .bool true := (hF232 15).trans s225
              have s236 : F231 17 = .bool (decide ((y) ≤ (64))) := (hF232 17).trans s226
              have s237 : F231 19 = .int .i64 (predE (mkF (w) (h) (l)) (p) (x) (y) (mode)) := (hF232 19).trans s227
              have s238 : F231 20 = .int .i64 ((bestF (mkF (w) (h) (l)) (p) (x) (y) (fun _ => 0)).1) := (hF232 20).trans s228
              have s239 : F231 21 = .int .i64 ((bestF (mkF (w) (h) (l)) (p) (x) (y) (fun _ => 0)).2) := (hF232 21).trans s229
              have s240 : F231 23 = .int .i64 (predE (FD.mk (0) (0) ([]) ([]) ([])) (p) (x) (y) (mode)) := (hF232 23).trans s230
              have s241 : F231 24 = .int .i64 (0) := (hF232 24).trans rfl
              clear hF232
              refine then_normal ?_
              refine wq_seq ?_
              refine wq_seq ?_
              by_cases d242 : (y) ≤ (64)
              · skip
                refine wq_region ?_
                refine wl_v (.bool true) rfl rfl (y_mov rfl (Eq.trans s236 (congrArg Value.bool (decide_eq_true d242))) ⟨rfl, rfl⟩) ?_
                refine wl_v (.bool false) rfl rfl (y_not rfl rfl rfl ⟨rfl, rfl⟩) ?_
                refine wl_nil fun F243 hF244 => ?_
                have s245 : F243 6 = .int .i64 (mode) := (hF244 6).trans s233
                have s246 : F243 113 = undef := (hF244 113).trans s234
                have s247 : F243 15 = .bool true := (hF244 15).trans s235
                have s248 : F243 17 = .bool (decide ((y) ≤ (64))) := (hF244 17).trans s236
                have s249 : F243 19 = .int .i64 (predE (mkF (w) (h) (l)) (p) (x) (y) (mode)) := (hF244 19).trans s237
                have s250 : F243 20 = .int .i64 ((bestF (mkF (w) (h) (l)) (p) (x) (y) (fun _ => 0)).1) := (hF244 20).trans s238
                have s251 : F243 21 = .int .i64 ((bestF (mkF (w) (h) (l)) (p) (x) (y) (fun _ => 0)).2) := (hF244 21).trans s239
                have s252 : F243 23 = .int .i64 (predE (FD.mk (0) (0) ([]) ([]) ([])) (p) (x) (y) (mode)) := (hF244 23).trans s240
                have s253 : F243 24 = .int .i64 (0) := (hF244 24).trans s241
                have s254 : F243 84 = .bool false := (hF244 84).trans rfl
                clear hF244
                refine then_normal ?_
                refine wq_cond (t := false) s254 (fun e => by cases e) (fun _ => ?_)
                refine wq_seq ?_
                by_cases d255 : (mode) < (0)
                · skip
                  refine wq_region ?_
                  refine wl_v (.int .i64 (mode)) rfl rfl (y_mov rfl s245 ⟨rfl, rfl⟩) ?_
                  refine wl_v (.bool true) rfl rfl (y_lss rfl rfl rfl (decide_eq_true d255) ⟨rfl, rfl⟩) ?_
                  refine wl_v (.bool true) rfl rfl (y_mov rfl rfl ⟨rfl, rfl⟩) ?_
                  refine wl_unless 2 false 87 rfl rfl rfl (Or.inl rfl) rfl ?_
                  refine wl_unless 2 false 87 rfl rfl rfl (Or.inl rfl) rfl ?_
                  refine wl_v (.bool true) rfl rfl (y_pickT rfl rfl rfl ⟨rfl, rfl⟩) ?_
                  refine wl_nil fun F256 hF257 => ?_
                  have s258 : F256 113 = undef := (hF257 113).trans s246
                  have s259 : F256 15 = .bool true := (hF257 15).trans s247
                  have s260 : F256 17 = .bool (decide ((y) ≤ (64))) := (hF257 17).trans s248
                  have s261 : F256 19 = .int .i64 (predE (mkF (w) (h) (l)) (p) (x) (y) (mode)) := (hF257 19).trans s249
                  have s262 : F256 20 = .int .i64 ((bestF (mkF (w) (h) (l)) (p) (x) (y) (fun _ => 0)).1) := (hF257 20).trans s250
                  have s263 : F256 21 = .int .i64 ((bestF (mkF (w) (h) (l)) (p) (x) (y) (fun _ => 0)).2) := (hF257 21).trans s251
                  have s264 : F256 23 = .int .i64 (predE (FD.mk (0) (0) ([]) ([]) ([])) (p) (x) (y) (mode)) := (hF257 23).trans s252
                  have s265 : F256 24 = .int .i64 (0) := (hF257 24).trans s253
                  have s266 : F256 90 = .bool true := (hF257 90).trans rfl
                  clear hF257
                  refine then_normal ?_
                  refine wq_cond (t := true) s266 (fun _ => ?_) (fun e => by cases e)
                  refine wq_region ?_
                  refine wl_v (.int .i64 (80)) rfl rfl (y_asg rfl rfl ⟨rfl, rfl⟩) ?_
                  refine wl_nil fun F267 hF268 => ?_
                  have s269 : F267 113 = undef := (hF268 113).trans s258
                  have s270 : F267 15 = .bool true := (hF268 15).trans s259
                  have s271 : F267 17 = .bool (decide ((y) ≤ (64))) := (hF268 17).trans s260
                  have s272 : F267 19 = .int .i64 (predE (mkF (w) (h) (l)) (p) (x) (y) (mode)) := (hF268 19).trans s261
                  have s273 : F267 20 = .int .i64 ((bestF (mkF (w) (h) (l)) (p) (x) (y) (fun _ => 0)).1) := (hF268 20).trans s262
                  have s274 : F267 21 = .int .i64 ((bestF (mkF (w) (h) (l)) (p) (x) (y) (fun _ => 0)).2) := (hF268 21).trans s263
                  have s275 : F267 23 = .int .i64 (predE (FD.mk (0) (0) ([]) ([]) ([])) (p) (x) (y) (mode)) := (hF268 23).trans s264
                  have s276 : F267 24 = .int .i64 (80) := (hF268 24).trans rfl
                  clear hF268
                  refine then_normal ?_
                  refine wq_seq ?_
                  refine wq_region ?_
                  refine wl_v (.bool true) rfl rfl (y_mov rfl s270 ⟨rfl, rfl⟩) ?_
                  refine wl_v (.bool true) rfl rfl (y_mov rfl rfl ⟨rfl, rfl⟩) ?_
                  refine wl_vw (.int .i64 (predE (mkF (w) (h) (l)) (p) (x) (y) (mode))) 1 true 92 rfl rfl rfl rfl rfl (y_mov rfl s272 ⟨rfl, rfl⟩) ?_
                  refine wl_vw (.int .i64 (80)) 1 true 92 rfl rfl rfl rfl rfl (y_mov rfl s276 ⟨rfl, rfl⟩) ?_
                  refine wl_vw (.bool true) 1 true 92 rfl rfl rfl rfl rfl (y_eqlI rfl rfl rfl (decide_eq_true (by first | exact (pred_no (by rintro ⟨_, h1, h2, h3, h4, h5, h6⟩; omega)).1 | exact (pred_none ⟨mkF_ok w h l, by omega, by omega, by omega, by omega, by omega, by omega⟩ (by omega)).1 | exact (pred_yes ⟨mkF_ok w h l, by omega, by omega, by omega, by omega, by omega, by omega⟩ (by omega)).1)) ⟨rfl, rfl⟩) ?_
                  refine wl_v (.bool true) rfl rfl (y_pickT rfl rfl rfl ⟨rfl, rfl⟩) ?_
                  refine wl_v (.bool true) rfl rfl (y_mov rfl rfl ⟨rfl, rfl⟩) ?_
                  refine wl_vw (.int .i64 (predE (FD.mk (0) (0) ([]) ([]) ([])) (p) (x) (y) (mode))) 6 true 97 rfl rfl rfl rfl rfl (y_mov rfl s275 ⟨rfl, rfl⟩) ?_
                  refine wl_vw (.bool true) 6 true 97 rfl rfl rfl rfl rfl (y_eqlI rfl rfl rfl (decide_eq_true (pred_no (none_place _ _ _)).1) ⟨rfl, rfl⟩) ?_
                  refine wl_v (.bool true) rfl rfl (y_pickT rfl rfl rfl ⟨rfl, rfl⟩) ?_
                  refine wl_v (.bool true) rfl rfl (y_mov rfl rfl ⟨rfl, rfl⟩) ?_
                  refine wl_vw (.int .i64 ((bestF (mkF (w) (h) (l)) (p) (x) (y) (fun _ => 0)).1)) 10 true 101 rfl rfl rfl rfl rfl (y_mov rfl s273 ⟨rfl, rfl⟩) ?_
                  refine wl_vw (.bool (decide ((0) ≤ ((bestF (mkF (w) (h) (l)) (p) (x) (y) (fun _ => 0)).1)))) 10 true 101 rfl rfl rfl rfl rfl (y_geq rfl rfl rfl rfl ⟨rfl, rfl⟩) ?_
                  refine wl_vw (.bool true) 10 true 101 rfl rfl rfl rfl rfl (y_mov rfl (Eq.trans s271 (congrArg Value.bool (decide_eq_true d242))) ⟨rfl, rfl⟩) ?_
                  refine wl_vw (.bool true) 10 true 101 rfl rfl rfl rfl rfl (y_eqlB rfl rfl rfl Try.underlying4 ((by first | (rw [decide_eq_true ((best_sign _ _ _ _ _).1 ⟨mkF_ok w h l, by omega, by omega, by omega, by omega, by omega, by omega⟩).1]; rfl) | (rw [decide_eq_false ((best_sign _ _ _ _ _).2 (by rintro ⟨_, h1, h2, h3, h4, h5, h6⟩; omega)).1]; rfl))) ⟨rfl, rfl⟩) ?_
                  refine wl_v (.bool true) rfl rfl (y_pickT rfl rfl rfl ⟨rfl, rfl⟩) ?_
                  refine wl_v (.bool true) rfl rfl (y_mov rfl rfl ⟨rfl, rfl⟩) ?_
                  refine wl_vw (.int .i64 ((bestF (mkF (w) (h) (l)) (p) (x) (y) (fun _ => 0)).2)) 16 true 107 rfl rfl rfl rfl rfl (y_mov rfl s274 ⟨rfl, rfl⟩) ?_
                  refine wl_vw (.bool (decide ((0) ≤ ((bestF (mkF (w) (h) (l)) (p) (x) (y) (fun _ => 0)).2)))) 16 true 107 rfl rfl rfl rfl rfl (y_geq rfl rfl rfl rfl ⟨rfl, rfl⟩) ?_
                  refine wl_vw (.bool true) 16 true 107 rfl rfl rfl rfl rfl (y_mov rfl (Eq.trans s271 (congrArg Value.bool (decide_eq_true d242))) ⟨rfl, rfl⟩) ?_
                  refine wl_vw (.bool true) 16 true 107 rfl rfl rfl rfl rfl (y_eqlB rfl rfl rfl Try.underlying4 ((by first | (rw [decide_eq_true ((best_sign _ _ _ _ _).1 ⟨mkF_ok w h l, by omega, by omega, by omega, by omega, by omega, by omega⟩).2]; rfl) | (rw [decide_eq_false ((best_sign _ _ _ _ _).2 (by rintro ⟨_, h1, h2, h3, h4, h5, h6⟩; omega)).2]; rfl))) ⟨rfl, rfl⟩) ?_
                  refine wl_v (.bool true) rfl rfl (y_pickT rfl rfl rfl ⟨rfl, rfl⟩) ?_
                  refine wl_v (.bool true) rfl rfl (y_asg rfl rfl ⟨rfl, rfl⟩) ?_
                  refine wl_nil fun F277 hF278 => ?_
                  have s279 : F277 113 = undef := (hF278 113).trans s269
                  have s280 : F277 14 = .bool true := (hF278 14).trans rfl
                  clear hF278
                  refine then_normal ?_
                  refine wq_ret ?_
                  exact end_tmp (v := .bool true) s279 rfl rfl s280 ⟨rfl, K220⟩
                · skip
                  refine wq_region ?_
                  refine wl_v (.int .i64 (mode)) rfl rfl (y_mov rfl s245 ⟨rfl, rfl⟩) ?_
                  refine wl_v (.bool false) rfl rfl (y_lss rfl rfl rfl (decide_eq_false d255) ⟨rfl, rfl⟩) ?_
                  refine wl_v (.bool false) rfl rfl (y_mov rfl rfl ⟨rfl, rfl⟩) ?_
                  refine wl_vw (.int .i64 (mode)) 2 false 87 rfl rfl rfl rfl rfl (y_mov rfl s245 ⟨rfl, rfl⟩) ?_
                  refine wl_vw (.bool (decide ((3) < (mode)))) 2 false 87 rfl rfl rfl rfl rfl (y_gtr rfl rfl rfl rfl ⟨rfl, rfl⟩) ?_
                  refine wl_v (.bool (decide ((3) < (mode)))) rfl rfl (y_pickF rfl rfl rfl ⟨rfl, rfl⟩) ?_
                  refine wl_nil fun F281 hF282 => ?_
                  have s283 : F281 113 = undef := (hF282 113).trans s246
                  have s284 : F281 15 = .bool true := (hF282 15).trans s247
                  have s285 : F281 17 = .bool (decide ((y) ≤ (64))) := (hF282 17).trans s248
                  have s286 : F281 19 = .int .i64 (predE (mkF (w) (h) (l)) (p) (x) (y) (mode)) := (hF282 19).trans s249
                  have s287 : F281 20 = .int .i64 ((bestF (mkF (w) (h) (l)) (p) (x) (y) (fun _ => 0)).1) := (hF282 20).trans s250
                  have s288 : F281 21 = .int .i64 ((bestF (mkF (w) (h) (l)) (p) (x) (y) (fun _ => 0)).2) := (hF282 21).trans s251
                  have s289 : F281 23 = .int .i64 (predE (FD.mk (0) (0) ([]) ([]) ([])) (p) (x) (y) (mode)) := (hF282 23).trans s252
                  have s290 : F281 24 = .int .i64 (0) := (hF282 24).trans s253
                  have s291 : F281 90 = .bool (decide ((3) < (mode))) := (hF282 90).trans rfl
                  clear hF282
                  refine then_normal ?_
                  refine wq_cond s291 (fun c292 => ?_) (fun c292 => ?_)
                  · replace c292 := of_decide_eq_true c292
                    refine wq_region ?_
                    refine wl_v (.int .i64 (80)) rfl rfl (y_asg rfl rfl ⟨rfl, rfl⟩) ?_
                    refine wl_nil fun F293 hF294 => ?_
                    have s295 : F293 113 = undef := (hF294 113).trans s283
                    have s296 : F293 15 = .bool true := (hF294 15).trans s284
                    have s297 : F293 17 = .bool (decide ((y) ≤ (64))) := (hF294 17).trans s285
                    have s298 : F293 19 = .int .i64 (predE (mkF (w) (h) (l)) (p) (x) (y) (mode)) := (hF294 19).trans s286
                    have s299 : F293 20 = .int .i64 ((bestF (mkF (w) (h) (l)) (p) (x) (y) (fun _ => 0)).1) := (hF294 20).trans s287
                    have s300 : F293 21 = .int .i64 ((bestF (mkF (w) (h) (l)) (p) (x) (y) (fun _ => 0)).2) := (hF294 21).trans s288
                    have s301 : F293 23 = .int .i64 (predE (FD.mk (0) (0) ([]) ([]) ([])) (p) (x) (y) (mode)) := (hF294 23).trans s289
                    have s302 : F293 24 = .int .i64 (80) := (hF294 24).trans rfl
                    clear hF294
                    refine then_normal ?_
                    refine wq_seq ?_
                    refine wq_region ?_
                    refine wl_v (.bool true) rfl rfl (y_mov rfl s296 ⟨rfl, rfl⟩) ?_
                    refine wl_v (.bool true) rfl rfl (y_mov rfl rfl ⟨rfl, rfl⟩) ?_
                    refine wl_vw (.int .i64 (predE (mkF (w) (h) (l)) (p) (x) (y) (mode))) 1 true 92 rfl rfl rfl rfl rfl (y_mov rfl s298 ⟨rfl, rfl⟩) ?_
                    refine wl_vw (.int .i64 (80)) 1 true 92 rfl rfl rfl rfl rfl (y_mov rfl s302 ⟨rfl, rfl⟩) ?_
                    refine wl_vw (.bool true) 1 true 92 rfl rfl rfl rfl rfl (y_eqlI rfl rfl rfl (decide_eq_true (by first | exact (pred_no (by rintro ⟨_, h1, h2, h3, h4, h5, h6⟩; omega)).1 | exact (pred_none ⟨mkF_ok w h l, by omega, by omega, by omega, by omega, by omega, by omega⟩ (by omega)).1 | exact (pred_yes ⟨mkF_ok w h l, by omega, by omega, by omega, by omega, by omega, by omega⟩ (by omega)).1)) ⟨rfl, rfl⟩) ?_
                    refine wl_v (.bool true) rfl rfl (y_pickT rfl rfl rfl ⟨rfl, rfl⟩) ?_
                    refine wl_v (.bool true) rfl rfl (y_mov rfl rfl ⟨rfl, rfl⟩) ?_
                    refine wl_vw (.int .i64 (predE (FD.mk (0) (0) ([]) ([]) ([])) (p) (x) (y) (mode))) 6 true 97 rfl rfl rfl rfl rfl (y_mov rfl s301 ⟨rfl, rfl⟩) ?_
                    refine wl_vw (.bool true) 6 true 97 rfl rfl rfl rfl rfl (y_eqlI rfl rfl rfl (decide_eq_true (pred_no (none_place _ _ _)).1) ⟨rfl, rfl⟩) ?_
                    refine wl_v (.bool true) rfl rfl (y_pickT rfl rfl rfl ⟨rfl, rfl⟩) ?_
                    refine wl_v (.bool true) rfl rfl (y_mov rfl rfl ⟨rfl, rfl⟩) ?_
                    refine wl_vw (.int .i64 ((bestF (mkF (w) (h) (l)) (p) (x) (y) (fun _ => 0)).1)) 10 true 101 rfl rfl rfl rfl rfl (y_mov rfl s299 ⟨rfl, rfl⟩) ?_
                    refine wl_vw (.bool (decide ((0) ≤ ((bestF (mkF (w) (h) (l)) (p) (x) (y) (fun _ => 0)).1)))) 10 true 101 rfl rfl rfl rfl rfl (y_geq rfl rfl rfl rfl ⟨rfl, rfl⟩) ?_
                    refine wl_vw (.bool true) 10 true 101 rfl rfl rfl rfl rfl (y_mov rfl (Eq.trans s297 (congrArg Value.bool (decide_eq_true d242))) ⟨rfl, rfl⟩) ?_
                    refine wl_vw (.bool true) 10 true 101 rfl rfl rfl rfl rfl (y_eqlB rfl rfl rfl Try.underlying4 ((by first | (rw [decide_eq_true ((best_sign _ _ _ _ _).1 ⟨mkF_ok w h l, by omega, by omega, by omega, by omega, by omega, by omega⟩).1]; rfl) | (rw [decide_eq_false ((best_sign _ _ _ _ _).2 (by rintro ⟨_, h1, h2, h3, h4, h5, h6⟩; omega)).1]; rfl))) ⟨rfl, rfl⟩) ?_
                    refine wl_v (.bool true) rfl rfl (y_pickT rfl rfl rfl ⟨rfl, rfl⟩) ?_
                    refine wl_v (.bool true) rfl rfl (y_mov rfl rfl ⟨rfl, rfl⟩) ?_
                    refine wl_vw (.int .i64 ((bestF (mkF (w) (h) (l)) (p) (x) (y) (fun _ => 0)).2)) 16 true 107 rfl rfl rfl rfl rfl (y_mov rfl s300 ⟨rfl, rfl⟩) ?_
                    refine wl_vw (.bool (decide ((0) ≤ ((bestF (mkF (w) (h) (l)) (p) (x) (y) (fun _ => 0)).2)))) 16 true 107 rfl rfl rfl rfl rfl (y_geq rfl rfl rfl rfl ⟨rfl, rfl⟩) ?_
                    refine wl_vw (.bool true) 16 true 107 rfl rfl rfl rfl rfl (y_mov rfl (Eq.trans s297 (congrArg Value.bool (decide_eq_true d242))) ⟨rfl, rfl⟩) ?_
                    refine wl_vw (.bool true) 16 true 107 rfl rfl rfl rfl rfl (y_eqlB rfl rfl rfl Try.underlying4 ((by first | (rw [decide_eq_true ((best_sign _ _ _ _ _).1 ⟨mkF_ok w h l, by omega, by omega, by omega, by omega, by omega, by omega⟩).2]; rfl) | (rw [decide_eq_false ((best_sign _ _ _ _ _).2 (by rintro ⟨_, h1, h2, h3, h4, h5, h6⟩; omega)).2]; rfl))) ⟨rfl, rfl⟩) ?_
                    refine wl_v (.bool true) rfl rfl (y_pickT rfl rfl rfl ⟨rfl, rfl⟩) ?_
                    refine wl_v (.bool true) rfl rfl (y_asg rfl rfl ⟨rfl, rfl⟩) ?_
                    refine wl_nil fun F303 hF304 => ?_
                    have s305 : F303 113 = undef := (hF304 113).trans s295
                    have s306 : F303 14 = .bool true := (hF304 14).trans rfl
                    clear hF304
                    refine then_normal ?_
                    refine wq_ret ?_
                    exact end_tmp (v := .bool true) s305 rfl rfl s306 ⟨rfl, K220⟩
                  · replace c292 := of_decide_eq_false c292
                    refine wq_skip ?_
                    refine then_normal ?_
                    refine wq_seq ?_
                    refine wq_region ?_
                    refine wl_v (.bool true) rfl rfl (y_mov rfl s284 ⟨rfl, rfl⟩) ?_
                    refine wl_v (.bool true) rfl rfl (y_mov rfl rfl ⟨rfl, rfl⟩) ?_
                    refine wl_vw (.int .i64 (predE (mkF (w) (h) (l)) (p) (x) (y) (mode))) 1 true 92 rfl rfl rfl rfl rfl (y_mov rfl s286 ⟨rfl, rfl⟩) ?_
                    refine wl_vw (.int .i64 (0)) 1 true 92 rfl rfl rfl rfl rfl (y_mov rfl s290 ⟨rfl, rfl⟩) ?_
                    refine wl_vw (.bool true) 1 true 92 rfl rfl rfl rfl rfl (y_eqlI rfl rfl rfl (decide_eq_true (by first | exact (pred_no (by rintro ⟨_, h1, h2, h3, h4, h5, h6⟩; omega)).1 | exact (pred_none ⟨mkF_ok w h l, by omega, by omega, by omega, by omega, by omega, by omega⟩ (by omega)).1 | exact (pred_yes ⟨mkF_ok w h l, by omega, by omega, by omega, by omega, by omega, by omega⟩ (by omega)).1)) ⟨rfl, rfl⟩) ?_
                    refine wl_v (.bool true) rfl rfl (y_pickT rfl rfl rfl ⟨rfl, rfl⟩) ?_
                    refine wl_v (.bool true) rfl rfl (y_mov rfl rfl ⟨rfl, rfl⟩) ?_
                    refine wl_vw (.int .i64 (predE (FD.mk (0) (0) ([]) ([]) ([])) (p) (x) (y) (mode))) 6 true 97 rfl rfl rfl rfl rfl (y_mov rfl s289 ⟨rfl, rfl⟩) ?_
                    refine wl_vw (.bool true) 6 true 97 rfl rfl rfl rfl rfl (y_eqlI rfl rfl rfl (decide_eq_true (pred_no (none_place _ _ _)).1) ⟨rfl, rfl⟩) ?_
                    refine wl_v (.bool true) rfl rfl (y_pickT rfl rfl rfl ⟨rfl, rfl⟩) ?_
                    refine wl_v (.bool true) rfl rfl (y_mov rfl rfl ⟨rfl, rfl⟩) ?_
                    refine wl_vw (.int .i64 ((bestF (mkF (w) (h) (l)) (p) (x) (y) (fun _ => 0)).1)) 10 true 101 rfl rfl rfl rfl rfl (y_mov rfl s287 ⟨rfl, rfl⟩) ?_
                    refine wl_vw (.bool (decide ((0) ≤ ((bestF (mkF (w) (h) (l)) (p) (x) (y) (fun _ => 0)).1)))) 10 true 101 rfl rfl rfl rfl rfl (y_geq rfl rfl rfl rfl ⟨rfl, rfl⟩) ?_
                    refine wl_vw (.bool true) 10 true 101 rfl rfl rfl rfl rfl (y_mov rfl (Eq.trans s285 (congrArg Value.bool (decide_eq_true d242))) ⟨rfl, rfl⟩) ?_
                    refine wl_vw (.bool true) 10 true 101 rfl rfl rfl rfl rfl (y_eqlB rfl rfl rfl Try.underlying4 ((by first | (rw [decide_eq_true ((best_sign _ _ _ _ _).1 ⟨mkF_ok w h l, by omega, by omega, by omega, by omega, by omega, by omega⟩).1]; rfl) | (rw [decide_eq_false ((best_sign _ _ _ _ _).2 (by rintro ⟨_, h1, h2, h3, h4, h5, h6⟩; omega)).1]; rfl))) ⟨rfl, rfl⟩) ?_
                    refine wl_v (.bool true) rfl rfl (y_pickT rfl rfl rfl ⟨rfl, rfl⟩) ?_
                    refine wl_v (.bool true) rfl rfl (y_mov rfl rfl ⟨rfl, rfl⟩) ?_
                    refine wl_vw (.int .i64 ((bestF (mkF (w) (h) (l)) (p) (x) (y) (fun _ => 0)).2)) 16 true 107 rfl rfl rfl rfl rfl (y_mov rfl s288 ⟨rfl, rfl⟩) ?_
                    refine wl_vw (.bool (decide ((0) ≤ ((bestF (mkF (w) (h) (l)) (p) (x) (y) (fun _ => 0)).2)))) 16 true 107 rfl rfl rfl rfl rfl (y_geq rfl rfl rfl rfl ⟨rfl, rfl⟩) ?_
                    refine wl_vw (.bool true) 16 true 107 rfl rfl rfl rfl rfl (y_mov rfl (Eq.trans s285 (congrArg Value.bool (decide_eq_true d242))) ⟨rfl, rfl⟩) ?_
                    refine wl_vw (.bool true) 16 true 107 rfl rfl rfl rfl rfl (y_eqlB rfl rfl rfl Try.underlying4 ((by first | (rw [decide_eq_true ((best_sign _ _ _ _ _).1 ⟨mkF_ok w h l, by omega, by omega, by omega, by omega, by omega, by omega⟩).2]; rfl) | (rw [decide_eq_false ((best_sign _ _ _ _ _).2 (by rintro ⟨_, h1, h2, h3, h4, h5, h6⟩; omega)).2]; rfl))) ⟨rfl, rfl⟩) ?_
                    refine wl_v (.bool true) rfl rfl (y_pickT rfl rfl rfl ⟨rfl, rfl⟩) ?_
                    refine wl_v (.bool true) rfl rfl (y_asg rfl rfl ⟨rfl, rfl⟩) ?_
                    refine wl_nil fun F307 hF308 => ?_
                    have s309 : F307 113 = undef := (hF308 113).trans s283
                    have s310 : F307 14 = .bool true := (hF308 14).trans rfl
                    clear hF308
                    refine then_normal ?_
                    refine wq_ret ?_
                    exact end_tmp (v := .bool true) s309 rfl rfl s310 ⟨rfl, K220⟩
              · skip
                refine wq_region ?_
                refine wl_v (.bool false) rfl rfl (y_mov rfl (Eq.trans s236 (congrArg Value.bool (decide_eq_false d242))) ⟨rfl, rfl⟩) ?_
                refine wl_v (.bool true) rfl rfl (y_not rfl rfl rfl ⟨rfl, rfl⟩) ?_
                refine wl_nil fun F311 hF312 => ?_
                have s313 : F311 6 = .int .i64 (mode) := (hF312 6).trans s233
                have s314 : F311 113 = undef := (hF312 113).trans s234
                have s315 : F311 15 = .bool true := (hF312 15).trans s235
                have s316 : F311 17 = .bool (decide ((y) ≤ (64))) := (hF312 17).trans s236
                have s317 : F311 19 = .int .i64 (predE (mkF (w) (h) (l)) (p) (x) (y) (mode)) := (hF312 19).trans s237
                have s318 : F311 20 = .int .i64 ((bestF (mkF (w) (h) (l)) (p) (x) (y) (fun _ => 0)).1) := (hF312 20).trans s238
                have s319 : F311 21 = .int .i64 ((bestF (mkF (w) (h) (l)) (p) (x) (y) (fun _ => 0)).2) := (hF312 21).trans s239
                have s320 : F311 23 = .int .i64 (predE (FD.mk (0) (0) ([]) ([]) ([])) (p) (x) (y) (mode)) := (hF312 23).trans s240
                have s321 : F311 24 = .int .i64 (0) := (hF312 24).trans s241
                have s322 : F311 84 = .bool true := (hF312 84).trans rfl
                clear hF312
                refine then_normal ?_
                refine wq_cond (t := true) s322 (fun _ => ?_) (fun e => by cases e)
                refine wq_region ?_
                refine wl_v (.int .i64 (70)) rfl rfl (y_asg rfl rfl ⟨rfl, rfl⟩) ?_
                refine wl_nil fun F323 hF324 => ?_
                have s325 : F323 113 = undef := (hF324 113).trans s314
                have s326 : F323 15 = .bool true := (hF324 15).trans s315
                have s327 : F323 17 = .bool (decide ((y) ≤ (64))) := (hF324 17).trans s316
                have s328 : F323 19 = .int .i64 (predE (mkF (w) (h) (l)) (p) (x) (y) (mode)) := (hF324 19).trans s317
                have s329 : F323 20 = .int .i64 ((bestF (mkF (w) (h) (l)) (p) (x) (y) (fun _ => 0)).1) := (hF324 20).trans s318
                have s330 : F323 21 = .int .i64 ((bestF (mkF (w) (h) (l)) (p) (x) (y) (fun _ => 0)).2) := (hF324 21).trans s319
                have s331 : F323 23 = .int .i64 (predE (FD.mk (0) (0) ([]) ([]) ([])) (p) (x) (y) (mode)) := (hF324 23).trans s320
                have s332 : F323 24 = .int .i64 (70) := (hF324 24).trans rfl
                clear hF324
                refine then_normal ?_
                refine wq_seq ?_
                refine wq_region ?_
                refine wl_v (.bool true) rfl rfl (y_mov rfl s326 ⟨rfl, rfl⟩) ?_
                refine wl_v (.bool true) rfl rfl (y_mov rfl rfl ⟨rfl, rfl⟩) ?_
                refine wl_vw (.int .i64 (predE (mkF (w) (h) (l)) (p) (x) (y) (mode))) 1 true 92 rfl rfl rfl rfl rfl (y_mov rfl s328 ⟨rfl, rfl⟩) ?_
                refine wl_vw (.int .i64 (70)) 1 true 92 rfl rfl rfl rfl rfl (y_mov rfl s332 ⟨rfl, rfl⟩) ?_
                refine wl_vw (.bool true) 1 true 92 rfl rfl rfl rfl rfl (y_eqlI rfl rfl rfl (decide_eq_true (by first | exact (pred_no (by rintro ⟨_, h1, h2, h3, h4, h5, h6⟩; omega)).1 | exact (pred_none ⟨mkF_ok w h l, by omega, by omega, by omega, by omega, by omega, by omega⟩ (by omega)).1 | exact (pred_yes ⟨mkF_ok w h l, by omega, by omega, by omega, by omega, by omega, by omega⟩ (by omega)).1)) ⟨rfl, rfl⟩) ?_
                refine wl_v (.bool true) rfl rfl (y_pickT rfl rfl rfl ⟨rfl, rfl⟩) ?_
                refine wl_v (.bool true) rfl rfl (y_mov rfl rfl ⟨rfl, rfl⟩) ?_
                refine wl_vw (.int .i64 (predE (FD.mk (0) (0) ([]) ([]) ([])) (p) (x) (y) (mode))) 6 true 97 rfl rfl rfl rfl rfl (y_mov rfl s331 ⟨rfl, rfl⟩) ?_
                refine wl_vw (.bool true) 6 true 97 rfl rfl rfl rfl rfl (y_eqlI rfl rfl rfl (decide_eq_true (pred_no (none_place _ _ _)).1) ⟨rfl, rfl⟩) ?_
                refine wl_v (.bool true) rfl rfl (y_pickT rfl rfl rfl ⟨rfl, rfl⟩) ?_
                refine wl_v (.bool true) rfl rfl (y_mov rfl rfl ⟨rfl, rfl⟩) ?_
                refine wl_vw (.int .i64 ((bestF (mkF (w) (h) (l)) (p) (x) (y) (fun _ => 0)).1)) 10 true 101 rfl rfl rfl rfl rfl (y_mov rfl s329 ⟨rfl, rfl⟩) ?_
                refine wl_vw (.bool (decide ((0) ≤ ((bestF (mkF (w) (h) (l)) (p) (x) (y) (fun _ => 0)).1)))) 10 true 101 rfl rfl rfl rfl rfl (y_geq rfl rfl rfl rfl ⟨rfl, rfl⟩) ?_
                refine wl_vw (.bool false) 10 true 101 rfl rfl rfl rfl rfl (y_mov rfl (Eq.trans s327 (congrArg Value.bool (decide_eq_false d242))) ⟨rfl, rfl⟩) ?_
                refine wl_vw (.bool true) 10 true 101 rfl rfl rfl rfl rfl (y_eqlB rfl rfl rfl Try.underlying4 ((by first | (rw [decide_eq_true ((best_sign _ _ _ _ _).1 ⟨mkF_ok w h l, by omega, by omega, by omega, by omega, by omega, by omega⟩).1]; rfl) | (rw [decide_eq_false ((best_sign _ _ _ _ _).2 (by rintro ⟨_, h1, h2, h3, h4, h5, h6⟩; omega)).1]; rfl))) ⟨rfl, rfl⟩) ?_
                refine wl_v (.bool true) rfl rfl (y_pickT rfl rfl rfl ⟨rfl, rfl⟩) ?_
                refine wl_v (.bool true) rfl rfl (y_mov rfl rfl ⟨rfl, rfl⟩) ?_
                refine wl_vw (.int .i64 ((bestF (mkF (w) (h) (l)) (p) (x) (y) (fun _ => 0)).2)) 16 true 107 rfl rfl rfl rfl rfl (y_mov rfl s330 ⟨rfl, rfl⟩) ?_
                refine wl_vw (.bool (decide ((0) ≤ ((bestF (mkF (w) (h) (l)) (p) (x) (y) (fun _ => 0)).2)))) 16 true 107 rfl rfl rfl rfl rfl (y_geq rfl rfl rfl rfl ⟨rfl, rfl⟩) ?_
                refine wl_vw (.bool false) 16 true 107 rfl rfl rfl rfl rfl (y_mov rfl (Eq.trans s327 (congrArg Value.bool (decide_eq_false d242))) ⟨rfl, rfl⟩) ?_
                refine wl_vw (.bool true) 16 true 107 rfl rfl rfl rfl rfl (y_eqlB rfl rfl rfl Try.underlying4 ((by first | (rw [decide_eq_true ((best_sign _ _ _ _ _).1 ⟨mkF_ok w h l, by omega, by omega, by omega, by omega, by omega, by omega⟩).2]; rfl) | (rw [decide_eq_false ((best_sign _ _ _ _ _).2 (by rintro ⟨_, h1, h2, h3, h4, h5, h6⟩; omega)).2]; rfl))) ⟨rfl, rfl⟩) ?_
                refine wl_v (.bool true) rfl rfl (y_pickT rfl rfl rfl ⟨rfl, rfl⟩) ?_
                refine wl_v (.bool true) rfl rfl (y_asg rfl rfl ⟨rfl, rfl⟩) ?_
                refine wl_nil fun F333 hF334 => ?_
                have s335 : F333 113 = undef := (hF334 113).trans s325
                have s336 : F333 14 = .bool true := (hF334 14).trans rfl
                clear hF334
                refine then_normal ?_
                refine wq_ret ?_
                exact end_tmp (v := .bool true) s335 rfl rfl s336 ⟨rfl, K220⟩
            · skip
              refine wq_region ?_
              refine wl_v (.int .i64 (p)) rfl rfl (y_mov rfl s93 ⟨rfl, rfl⟩) ?_
              refine wl_v (.bool true) rfl rfl (y_geq rfl rfl rfl (decide_eq_true d100) ⟨rfl, rfl⟩) ?_
              refine wl_v (.bool true) rfl rfl (y_mov rfl rfl ⟨rfl, rfl⟩) ?_
              refine wl_vw (.int .i64 (p)) 2 true 36 rfl rfl rfl rfl rfl (y_mov rfl s93 ⟨rfl, rfl⟩) ?_
              refine wl_vw (.bool true) 2 true 36 rfl rfl rfl rfl rfl (y_leq rfl rfl rfl (decide_eq_true d101) ⟨rfl, rfl⟩) ?_
              refine wl_v (.bool true) rfl rfl (y_pickT rfl rfl rfl ⟨rfl, rfl⟩) ?_
              refine wl_v (.bool true) rfl rfl (y_mov rfl rfl ⟨rfl, rfl⟩) ?_
              refine wl_vw (.int .i64 (x)) 6 true 40 rfl rfl rfl rfl rfl (y_mov rfl s94 ⟨rfl, rfl⟩) ?_
              refine wl_vw (.bool true) 6 true 40 rfl rfl rfl rfl rfl (y_geq rfl rfl rfl (decide_eq_true d102) ⟨rfl, rfl⟩) ?_
              refine wl_v (.bool true) rfl rfl (y_pickT rfl rfl rfl ⟨rfl, rfl⟩) ?_
              refine wl_v (.bool true) rfl rfl (y_mov rfl rfl ⟨rfl, rfl⟩) ?_
              refine wl_vw (.int .i64 (x)) 10 true 44 rfl rfl rfl rfl rfl (y_mov rfl s94 ⟨rfl, rfl⟩) ?_
              refine wl_vw (.bool true) 10 true 44 rfl rfl rfl rfl rfl (y_leq rfl rfl rfl (decide_eq_true d103) ⟨rfl, rfl⟩) ?_
              refine wl_v (.bool true) rfl rfl (y_pickT rfl rfl rfl ⟨rfl, rfl⟩) ?_
              refine wl_v (.bool true) rfl rfl (y_mov rfl rfl ⟨rfl, rfl⟩) ?_
              refine wl_vw (.int .i64 (y)) 14 true 48 rfl rfl rfl rfl rfl (y_mov rfl s95 ⟨rfl, rfl⟩) ?_
              refine wl_vw (.bool false) 14 true 48 rfl rfl rfl rfl rfl (y_geq rfl rfl rfl (decide_eq_false d104) ⟨rfl, rfl⟩) ?_
              refine wl_v (.bool false) rfl rfl (y_pickT rfl rfl rfl ⟨rfl, rfl⟩) ?_
              refine wl_v (.bool false) rfl rfl (y_mov rfl rfl ⟨rfl, rfl⟩) ?_
              refine wl_unless 18 true 52 rfl rfl rfl (Or.inl rfl) rfl ?_
              refine wl_unless 18 true 52 rfl rfl rfl (Or.inl rfl) rfl ?_
              refine wl_v (.bool false) rfl rfl (y_pickF rfl rfl rfl ⟨rfl, rfl⟩) ?_
              refine wl_v (.bool false) rfl rfl (y_asg rfl rfl ⟨rfl, rfl⟩) ?_
              refine wl_nil fun F337 hF338 => ?_
              have s339 : F337 3 = .int .i64 (p) := (hF338 3).trans s93
              have s340 : F337 4 = .int .i64 (x) := (hF338 4).trans s94
              have s341 : F337 5 = .int .i64 (y) := (hF338 5).trans s95
              have s342 : F337 6 = .int .i64 (mode) := (hF338 6).trans s96
              have s343 : F337 113 = undef := (hF338 113).trans s97
              have s344 : F337 15 = .bool true := (hF338 15).trans s98
              have s345 : F337 16 = .pointer (some ⟨p68, 0, none⟩) := (hF338 16).trans s99
              have s346 : F337 17 = .bool false := (hF338 17).trans rfl
              clear hF338
              refine then_normal ?_
              refine wq_seq ?_
              refine wq_region ?_
              refine wl_v (.agg #[.int .i64 ((mkF (w) (h) (l)).W), .int .i64 ((mkF (w) (h) (l)).H), v43, v44, v45]) rfl rfl (y_load_stc stcT_frame rfl s345 B84 ⟨rfl, rfl⟩) ?_
              refine wl_v (.int .i64 (p)) rfl rfl (y_mov rfl s339 ⟨rfl, rfl⟩) ?_
              refine wl_v (.int .i64 (x)) rfl rfl (y_mov rfl s340 ⟨rfl, rfl⟩) ?_
              refine wl_v (.int .i64 (y)) rfl rfl (y_mov rfl s341 ⟨rfl, rfl⟩) ?_
              refine wl_v (.int .i64 (mode)) rfl rfl (y_mov rfl s342 ⟨rfl, rfl⟩) ?_
              refine wl_call (R := fun v_ w_ => v_ = .tuple #[blkV (predB (mkF (w) (h) (l)) (p) (x) (y) (mode)), .int .i64 (predE (mkF (w) (h) (l)) (p) (x) (y) (mode))] ∧ Kept (fun _ => False) w83 w_) rfl rfl (y_cs rfl rfl rfl (fun _ _ => by kernel_rfl) (ev_func _) (vsC rfl (vsC rfl (vsC rfl (vsC rfl (vsC rfl vsN))))) (il_predict (p) (x) (y) (mode) (mkF (w) (h) (l)) (v43) (v44) (v45) (T48) (T49) (T50) _  (B87).byt (B88).byt (B89).byt ) (fun e_ w_ h_ => ⟨_, h_.1, rfl, h_.2⟩)) ?_
              rintro _ w347 ⟨rfl, k348⟩
              have B349 := B86.all k348 Apart.none
              have B350 := B87.all k348 Apart.none
              have B351 := B88.all k348 Apart.none
              have B352 := B89.all k348 Apart.none
              have B353 := B84.all k348 id
              have K354 := K90.trans k348 (fun _ _ x => x.elim)
              refine wl_v (.tuple #[blkV (predB (mkF (w) (h) (l)) (p) (x) (y) (mode)), .int .i64 (predE (mkF (w) (h) (l)) (p) (x) (y) (mode))]) rfl rfl (y_mov rfl rfl ⟨rfl, rfl⟩) ?_
              refine wl_v (blkV (predB (mkF (w) (h) (l)) (p) (x) (y) (mode))) rfl rfl (y_ext rfl rfl rfl ⟨rfl, rfl⟩) ?_
              refine wl_v (.int .i64 (predE (mkF (w) (h) (l)) (p) (x) (y) (mode))) rfl rfl (y_ext rfl rfl rfl ⟨rfl, rfl⟩) ?_
              refine wl_alloc_blk rfl rfl rfl blkT_block.2.2 fun p355 w356 e359 B357 k358 => ?_
              have g360 := onB_new (Nat.le_of_eq e359.symm)
              have gr361 : Grew w0 noB (onB p355) := Grew.new K354 g360
              have ap362 : Apart (onB p355) (T_s) := Apart.new g360 (B349).live
              have ap363 : Apart (onB p355) (T48) := Apart.new g360 (B350).live
              have ap364 : Apart (onB p355) (T49) := Apart.new g360 (B351).live
              have ap365 : Apart (onB p355) (T50) := Apart.new g360 (B352).live
              have ap366 : Apart (onB p355) (onB p68) := Apart.new g360 (onB_live (B353).lt)
              clear e359 g360
              have B367 := B349.all k358 Apart.none
              have B368 := B350.all k358 Apart.none
              have B369 := B351.all k358 Apart.none
              have B370 := B352.all k358 Apart.none
              have B371 := B353.all k358 id
              have K372 := K354.trans k358 (fun _ _ x => x.elim)
              refine wl_store_blk blkT_block rfl rfl rfl rfl rfl B357 fun w373 B374 k375 => ?_
              have B376 := B367.all k375 (fun i h x => (((ap362).symm) i h x))
              have B377 := B368.all k375 (fun i h x => (((ap363).symm) i h x))
              have B378 := B369.all k375 (fun i h x => (((ap364).symm) i h x))
              have B379 := B370.all k375 (fun i h x => (((ap365).symm) i h x))
              have B380 := B371.all k375 (fun x => (((ap366).symm) p68 rfl x))
              have K381 := K372.trans k375 (Grew.ok (S := fun _ => False) gr361 noB_le)
              refine wl_v (.int .i64 (predE (mkF (w) (h) (l)) (p) (x) (y) (mode))) rfl rfl (y_asg rfl rfl ⟨rfl, rfl⟩) ?_
              refine wl_nil fun F382 hF383 => ?_
              have s384 : F382 3 = .int .i64 (p) := (hF383 3).trans s339
              have s385 : F382 4 = .int .i64 (x) := (hF383 4).trans s340
              have s386 : F382 5 = .int .i64 (y) := (hF383 5).trans s341
              have s387 : F382 6 = .int .i64 (mode) := (hF383 6).trans s342
              have s388 : F382 113 = undef := (hF383 113).trans s343
              have s389 : F382 15 = .bool true := (hF383 15).trans s344
              have s390 : F382 16 = .pointer (some ⟨p68, 0, none⟩) := (hF383 16).trans s345
              have s391 : F382 17 = .bool false := (hF383 17).trans s346
              have s392 : F382 19 = .int .i64 (predE (mkF (w) (h) (l)) (p) (x) (y) (mode)) := (hF383 19).trans rfl
              clear hF383
              refine then_normal ?_
              refine wq_seq ?_
              refine wq_region ?_
              refine wl_v (.agg #[.int .i64 ((mkF (w) (h) (l)).W), .int .i64 ((mkF (w) (h) (l)).H), v43, v44, v45]) rfl rfl (y_load_stc stcT_frame rfl s390 B380 ⟨rfl, rfl⟩) ?_
              refine wl_v (.int .i64 (p)) rfl rfl (y_mov rfl s384 ⟨rfl, rfl⟩) ?_
              refine wl_v (.int .i64 (x)) rfl rfl (y_mov rfl s385 ⟨rfl, rfl⟩) ?_
              refine wl_v (.int .i64 (y)) rfl rfl (y_mov rfl s386 ⟨rfl, rfl⟩) ?_
              refine wl_v (blkV (fun _ => 0)) rfl rfl (y_buildR (cells := (arrL 16 (fun _ => 0)).toArray) rfl (by kernel_rfl) rfl ⟨rfl, rfl⟩) ?_
              refine wl_call (R := fun v_ w_ => v_ = .tuple #[.int .i64 ((bestF (mkF (w) (h) (l)) (p) (x) (y) (fun _ => 0)).1), .int .i64 ((bestF (mkF (w) (h) (l)) (p) (x) (y) (fun _ => 0)).2)] ∧ Kept (fun _ => False) w373 w_) rfl rfl (y_cs rfl rfl rfl (fun _ _ => by kernel_rfl) (ev_func _) (vsC rfl (vsC rfl (vsC rfl (vsC rfl (vsC rfl vsN))))) (il_best (p) (x) (y) (fun _ => 0) (mkF (w) (h) (l)) (v43) (v44) (v45) (T48) (T49) (T50) _  (B377).byt (B378).byt (B379).byt ) (fun e_ w_ h_ => ⟨_, h_.1, rfl, h_.2⟩)) ?_
              rintro _ w393 ⟨rfl, k394⟩
              have B395 := B376.all k394 Apart.none
              have B396 := B377.all k394 Apart.none
              have B397 := B378.all k394 Apart.none
              have B398 := B379.all k394 Apart.none
              have B399 := B380.all k394 id
              have B400 := B374.all k394 id
              have K401 := K381.trans k394 (fun _ _ x => x.elim)
              refine wl_v (.tuple #[.int .i64 ((bestF (mkF (w) (h) (l)) (p) (x) (y) (fun _ => 0)).1), .int .i64 ((bestF (mkF (w) (h) (l)) (p) (x) (y) (fun _ => 0)).2)]) rfl rfl (y_mov rfl rfl ⟨rfl, rfl⟩) ?_
              refine wl_v (.int .i64 ((bestF (mkF (w) (h) (l)) (p) (x) (y) (fun _ => 0)).1)) rfl rfl (y_ext rfl rfl rfl ⟨rfl, rfl⟩) ?_
              refine wl_v (.int .i64 ((bestF (mkF (w) (h) (l)) (p) (x) (y) (fun _ => 0)).2)) rfl rfl (y_ext rfl rfl rfl ⟨rfl, rfl⟩) ?_
              refine wl_v (.int .i64 ((bestF (mkF (w) (h) (l)) (p) (x) (y) (fun _ => 0)).1)) rfl rfl (y_asg rfl rfl ⟨rfl, rfl⟩) ?_
              refine wl_v (.int .i64 ((bestF (mkF (w) (h) (l)) (p) (x) (y) (fun _ => 0)).2)) rfl rfl (y_asg rfl rfl ⟨rfl, rfl⟩) ?_
              refine wl_nil fun F402 hF403 => ?_
              have s404 : F402 3 = .int .i64 (p) := (hF403 3).trans s384
              have s405 : F402 4 = .int .i64 (x) := (hF403 4).trans s385
              have s406 : F402 5 = .int .i64 (y) := (hF403 5).trans s386
              have s407 : F402 6 = .int .i64 (mode) := (hF403 6).trans s387
              have s408 : F402 113 = undef := (hF403 113).trans s388
              have s409 : F402 15 = .bool true := (hF403 15).trans s389
              have s410 : F402 17 = .bool false := (hF403 17).trans s391
              have s411 : F402 19 = .int .i64 (predE (mkF (w) (h) (l)) (p) (x) (y) (mode)) := (hF403 19).trans s392
              have s412 : F402 20 = .int .i64 ((bestF (mkF (w) (h) (l)) (p) (x) (y) (fun _ => 0)).1) := (hF403 20).trans rfl
              have s413 : F402 21 = .int .i64 ((bestF (mkF (w) (h) (l)) (p) (x) (y) (fun _ => 0)).2) := (hF403 21).trans rfl
              clear hF403
              refine then_normal ?_
              refine wq_seq ?_
              refine wq_region ?_
              refine wl_v (.agg #[.int .i64 (0), .int .i64 (0), .slice none 0 0, .slice none 0 0, .slice none 0 0]) rfl rfl (y_buildL (l' := []) (cells := #[.int .i64 (0), .int .i64 (0), .slice none 0 0, .slice none 0 0, .slice none 0 0]) rfl bpN (by kernel_rfl) rfl ⟨rfl, rfl⟩) ?_
              refine wl_v (.int .i64 (p)) rfl rfl (y_mov rfl s404 ⟨rfl, rfl⟩) ?_
              refine wl_v (.int .i64 (x)) rfl rfl (y_mov rfl s405 ⟨rfl, rfl⟩) ?_
              refine wl_v (.int .i64 (y)) rfl rfl (y_mov rfl s406 ⟨rfl, rfl⟩) ?_
              refine wl_v (.int .i64 (mode)) rfl rfl (y_mov rfl s407 ⟨rfl, rfl⟩) ?_
              refine wl_call (R := fun v_ w_ => v_ = .tuple #[blkV (predB (FD.mk (0) (0) ([]) ([]) ([])) (p) (x) (y) (mode)), .int .i64 (predE (FD.mk (0) (0) ([]) ([]) ([])) (p) (x) (y) (mode))] ∧ Kept (fun _ => False) w393 w_) rfl rfl (y_cs rfl rfl rfl (fun _ _ => by kernel_rfl) (ev_func _) (vsC rfl (vsC rfl (vsC rfl (vsC rfl (vsC rfl vsN))))) (il_predict (p) (x) (y) (mode) (FD.mk (0) (0) ([]) ([]) ([])) (.slice none 0 0) (.slice none 0 0) (.slice none 0 0) (noB) (noB) (noB) _  (Byt.nil _) (Byt.nil _) (Byt.nil _) ) (fun e_ w_ h_ => ⟨_, h_.1, rfl, h_.2⟩)) ?_
              rintro _ w414 ⟨rfl, k415⟩
              have B416 := B395.all k415 Apart.none
              have B417 := B396.all k415 Apart.none
              have B418 := B397.all k415 Apart.none
              have B419 := B398.all k415 Apart.none
              have B420 := B399.all k415 id
              have B421 := B400.all k415 id
              have K422 := K401.trans k415 (fun _ _ x => x.elim)
              refine wl_v (.tuple #[blkV (predB (FD.mk (0) (0) ([]) ([]) ([])) (p) (x) (y) (mode)), .int .i64 (predE (FD.mk (0) (0) ([]) ([]) ([])) (p) (x) (y) (mode))]) rfl rfl (y_mov rfl rfl ⟨rfl, rfl⟩) ?_
              refine wl_v (blkV (predB (FD.mk (0) (0) ([]) ([]) ([])) (p) (x) (y) (mode))) rfl rfl (y_ext rfl rfl rfl ⟨rfl, rfl⟩) ?_
              refine wl_v (.int .i64 (predE (FD.mk (0) (0) ([]) ([]) ([])) (p) (x) (y) (mode))) rfl rfl (y_ext rfl rfl rfl ⟨rfl, rfl⟩) ?_
              refine wl_alloc_blk rfl rfl rfl blkT_block.2.2 fun p423 w424 e427 B425 k426 => ?_
              have g428 := onB_new (Nat.le_of_eq e427.symm)
              have gr429 : Grew w0 noB (onB p423) := Grew.new K422 g428
              have ap430 : Apart (onB p423) (T_s) := Apart.new g428 (B416).live
              have ap431 : Apart (onB p423) (T48) := Apart.new g428 (B417).live
              have ap432 : Apart (onB p423) (T49) := Apart.new g428 (B418).live
              have ap433 : Apart (onB p423) (T50) := Apart.new g428 (B419).live
              have ap434 : Apart (onB p423) (onB p68) := Apart.new g428 (onB_live (B420).lt)
              have ap435 : Apart (onB p423) (onB p355) := Apart.new g428 (onB_live (B421).lt)
              clear e427 g428
              have B436 := B416.all k426 Apart.none
              have B437 := B417.all k426 Apart.none
              have B438 := B418.all k426 Apart.none
              have B439 := B419.all k426 Apart.none
              have B440 := B420.all k426 id
              have B441 := B421.all k426 id
              have K442 := K422.trans k426 (fun _ _ x => x.elim)
              refine wl_store_blk blkT_block rfl rfl rfl rfl rfl B425 fun w443 B444 k445 => ?_
              have B446 := B436.all k445 (fun i h x => (((ap430).symm) i h x))
              have B447 := B437.all k445 (fun i h x => (((ap431).symm) i h x))
              have B448 := B438.all k445 (fun i h x => (((ap432).symm) i h x))
              have B449 := B439.all k445 (fun i h x => (((ap433).symm) i h x))
              have B450 := B440.all k445 (fun x => (((ap434).symm) p68 rfl x))
              have B451 := B441.all k445 (fun x => (((ap435).symm) p355 rfl x))
              have K452 := K442.trans k445 (Grew.ok (S := fun _ => False) gr429 noB_le)
              refine wl_v (.int .i64 (predE (FD.mk (0) (0) ([]) ([]) ([])) (p) (x) (y) (mode))) rfl rfl (y_asg rfl rfl ⟨rfl, rfl⟩) ?_
              refine wl_nil fun F453 hF454 => ?_
              have s455 : F453 6 = .int .i64 (mode) := (hF454 6).trans s407
              have s456 : F453 113 = undef := (hF454 113).trans s408
              have s457 : F453 15 = .bool true := (hF454 15).trans s409
              have s458 : F453 17 = .bool false := (hF454 17).trans s410
              have s459 : F453 19 = .int .i64 (predE (mkF (w) (h) (l)) (p) (x) (y) (mode)) := (hF454 19).trans s411
              have s460 : F453 20 = .int .i64 ((bestF (mkF (w) (h) (l)) (p) (x) (y) (fun _ => 0)).1) := (hF454 20).trans s412
              have s461 : F453 21 = .int .i64 ((bestF (mkF (w) (h) (l)) (p) (x) (y) (fun _ => 0)).2) := (hF454 21).trans s413
              have s462 : F453 23 = .int .i64 (predE (FD.mk (0) (0) ([]) ([]) ([])) (p) (x) (y) (mode)) := (hF454 23).trans rfl
              clear hF454
              refine then_normal ?_
              refine wq_seq ?_
              refine wq_region ?_
              refine wl_v (.int .i64 (0)) rfl rfl (y_asg rfl rfl ⟨rfl, rfl⟩) ?_
              refine wl_nil fun F463 hF464 => ?_
              have s465 : F463 6 = .int .i64 (mode) := (hF464 6).trans s455
              have s466 : F463 113 = undef := (hF464 113).trans s456
              have s467 : F463 15 = .bool true := (hF464 15).trans s457
              have s468 : F463 17 = .bool false := (hF464 17).trans s458
              have s469 : F463 19 = .int .i64 (predE (mkF (w) (h) (l)) (p) (x) (y) (mode)) := (hF464 19).trans s459
              have s470 : F463 20 = .int .i64 ((bestF (mkF (w) (h) (l)) (p) (x) (y) (fun _ => 0)).1) := (hF464 20).trans s460
              have s471 : F463 21 = .int .i64 ((bestF (mkF (w) (h) (l)) (p) (x) (y) (fun _ => 0)).2) := (hF464 21).trans s461
              have s472 : F463 23 = .int .i64 (predE (FD.mk (0) (0) ([]) ([]) ([])) (p) (x) (y) (mode)) := (hF464 23).trans s462
              have s473 : F463 24 = .int .i64 (0) := (hF464 24).trans rfl
              clear hF464
              refine then_normal ?_
              refine wq_seq ?_
              refine wq_seq ?_
              refine wq_region ?_
              refine wl_v (.bool false) rfl rfl (y_mov rfl s468 ⟨rfl, rfl⟩) ?_
              refine wl_v (.bool true) rfl rfl (y_not rfl rfl rfl ⟨rfl, rfl⟩) ?_
              refine wl_nil fun F474 hF475 => ?_
              have s476 : F474 6 = .int .i64 (mode) := (hF475 6).trans s465
              have s477 : F474 113 = undef := (hF475 113).trans s466
              have s478 : F474 15 = .bool true := (hF475 15).trans s467
              have s479 : F474 17 = .bool false := (hF475 17).trans s468
              have s480 : F474 19 = .int .i64 (predE (mkF (w) (h) (l)) (p) (x) (y) (mode)) := (hF475 19).trans s469
              have s481 : F474 20 = .int .i64 ((bestF (mkF (w) (h) (l)) (p) (x) (y) (fun _ => 0)).1) := (hF475 20).trans s470
              have s482 : F474 21 = .int .i64 ((bestF (mkF (w) (h) (l)) (p) (x) (y) (fun _ => 0)).2) := (hF475 21).trans s471
              have s483 : F474 23 = .int .i64 (predE (FD.mk (0) (0) ([]) ([]) ([])) (p) (x) (y) (mode)) := (hF475 23).trans s472
              have s484 : F474 24 = .int .i64 (0) := (hF475 24).trans s473
              have s485 : F474 84 = .bool true := (hF475 84).trans rfl
              clear hF475
              refine then_normal ?_
              refine wq_cond (t := true) s485 (fun _ => ?_) (fun e => by cases e)
              refine wq_region ?_
              refine wl_v (.int .i64 (70)) rfl rfl (y_asg rfl rfl ⟨rfl, rfl⟩) ?_
              refine wl_nil fun F486 hF487 => ?_
              have s488 : F486 113 = undef := (hF487 113).trans s477
              have s489 : F486 15 = .bool true := (hF487 15).trans s478
              have s490 : F486 17 = .bool false := (hF487 17).trans s479
              have s491 : F486 19 = .int .i64 (predE (mkF (w) (h) (l)) (p) (x) (y) (mode)) := (hF487 19).trans s480
              have s492 : F486 20 = .int .i64 ((bestF (mkF (w) (h) (l)) (p) (x) (y) (fun _ => 0)).1) := (hF487 20).trans s481
              have s493 : F486 21 = .int .i64 ((bestF (mkF (w) (h) (l)) (p) (x) (y) (fun _ => 0)).2) := (hF487 21).trans s482
              have s494 : F486 23 = .int .i64 (predE (FD.mk (0) (0) ([]) ([]) ([])) (p) (x) (y) (mode)) := (hF487 23).trans s483
              have s495 : F486 24 = .int .i64 (70) := (hF487 24).trans rfl
              clear hF487
              refine then_normal ?_
              refine wq_seq ?_
              refine wq_region ?_
              refine wl_v (.bool true) rfl rfl (y_mov rfl s489 ⟨rfl, rfl⟩) ?_
              refine wl_v (.bool true) rfl rfl (y_mov rfl rfl ⟨rfl, rfl⟩) ?_
              refine wl_vw (.int .i64 (predE (mkF (w) (h) (l)) (p) (x) (y) (mode))) 1 true 92 rfl rfl rfl rfl rfl (y_mov rfl s491 ⟨rfl, rfl⟩) ?_
              refine wl_vw (.int .i64 (70)) 1 true 92 rfl rfl rfl rfl rfl (y_mov rfl s495 ⟨rfl, rfl⟩) ?_
              refine wl_vw (.bool true) 1 true 92 rfl rfl rfl rfl rfl (y_eqlI rfl rfl rfl (decide_eq_true (by first | exact (pred_no (by rintro ⟨_, h1, h2, h3, h4, h5, h6⟩; omega)).1 | exact (pred_none ⟨mkF_ok w h l, by omega, by omega, by omega, by omega, by omega, by omega⟩ (by omega)).1 | exact (pred_yes ⟨mkF_ok w h l, by omega, by omega, by omega, by omega, by omega, by omega⟩ (by omega)).1)) ⟨rfl, rfl⟩) ?_
              refine wl_v (.bool true) rfl rfl (y_pickT rfl rfl rfl ⟨rfl, rfl⟩) ?_
              refine wl_v (.bool true) rfl rfl (y_mov rfl rfl ⟨rfl, rfl⟩) ?_
              refine wl_vw (.int .i64 (predE (FD.mk (0) (0) ([]) ([]) ([])) (p) (x) (y) (mode))) 6 true 97 rfl rfl rfl rfl rfl (y_mov rfl s494 ⟨rfl, rfl⟩) ?_
              refine wl_vw (.bool true) 6 true 97 rfl rfl rfl rfl rfl (y_eqlI rfl rfl rfl (decide_eq_true (pred_no (none_place _ _ _)).1) ⟨rfl, rfl⟩) ?_
              refine wl_v (.bool true) rfl rfl (y_pickT rfl rfl rfl ⟨rfl, rfl⟩) ?_
              refine wl_v (.bool true) rfl rfl (y_mov rfl rfl ⟨rfl, rfl⟩) ?_
              refine wl_vw (.int .i64 ((bestF (mkF (w) (h) (l)) (p) (x) (y) (fun _ => 0)).1)) 10 true 101 rfl rfl rfl rfl rfl (y_mov rfl s492 ⟨rfl, rfl⟩) ?_
              refine wl_vw (.bool (decide ((0) ≤ ((bestF (mkF (w) (h) (l)) (p) (x) (y) (fun _ => 0)).1)))) 10 true 101 rfl rfl rfl rfl rfl (y_geq rfl rfl rfl rfl ⟨rfl, rfl⟩) ?_
              refine wl_vw (.bool false) 10 true 101 rfl rfl rfl rfl rfl (y_mov rfl s490 ⟨rfl, rfl⟩) ?_
              refine wl_vw (.bool true) 10 true 101 rfl rfl rfl rfl rfl (y_eqlB rfl rfl rfl Try.underlying4 ((by first | (rw [decide_eq_true ((best_sign _ _ _ _ _).1 ⟨mkF_ok w h l, by omega, by omega, by omega, by omega, by omega, by omega⟩).1]; rfl) | (rw [decide_eq_false ((best_sign _ _ _ _ _).2 (by rintro ⟨_, h1, h2, h3, h4, h5, h6⟩; omega)).1]; rfl))) ⟨rfl, rfl⟩) ?_
              refine wl_v (.bool true) rfl rfl (y_pickT rfl rfl rfl ⟨rfl, rfl⟩) ?_
              refine wl_v (.bool true) rfl rfl (y_mov rfl rfl ⟨rfl, rfl⟩) ?_
              refine wl_vw (.int .i64 ((bestF (mkF (w) (h) (l)) (p) (x) (y) (fun _ => 0)).2)) 16 true 107 rfl rfl rfl rfl rfl (y_mov rfl s493 ⟨rfl, rfl⟩) ?_
              refine wl_vw (.bool (decide ((0) ≤ ((bestF (mkF (w) (h) (l)) (p) (x) (y) (fun _ => 0)).2)))) 16 true 107 rfl rfl rfl rfl rfl (y_geq rfl rfl rfl rfl ⟨rfl, rfl⟩) ?_
              refine wl_vw (.bool false) 16 true 107 rfl rfl rfl rfl rfl (y_mov rfl s490 ⟨rfl, rfl⟩) ?_
              refine wl_vw (.bool true) 16 true 107 rfl rfl rfl rfl rfl (y_eqlB rfl rfl rfl Try.underlying4 ((by first | (rw [decide_eq_true ((best_sign _ _ _ _ _).1 ⟨mkF_ok w h l, by omega, by omega, by omega, by omega, by omega, by omega⟩).2]; rfl) | (rw [decide_eq_false ((best_sign _ _ _ _ _).2 (by rintro ⟨_, h1, h2, h3, h4, h5, h6⟩; omega)).2]; rfl))) ⟨rfl, rfl⟩) ?_
              refine wl_v (.bool true) rfl rfl (y_pickT rfl rfl rfl ⟨rfl, rfl⟩) ?_
              refine wl_v (.bool true) rfl rfl (y_asg rfl rfl ⟨rfl, rfl⟩) ?_
              refine wl_nil fun F496 hF497 => ?_
              have s498 : F496 113 = undef := (hF497 113).trans s488
              have s499 : F496 14 = .bool true := (hF497 14).trans rfl
              clear hF497
              refine then_normal ?_
              refine wq_ret ?_
              exact end_tmp (v := .bool true) s498 rfl rfl s499 ⟨rfl, K452⟩
          · skip
            refine wq_region ?_
            refine wl_v (.int .i64 (p)) rfl rfl (y_mov rfl s93 ⟨rfl, rfl⟩) ?_
            refine wl_v (.bool true) rfl rfl (y_geq rfl rfl rfl (decide_eq_true d100) ⟨rfl, rfl⟩) ?_
            refine wl_v (.bool true) rfl rfl (y_mov rfl rfl ⟨rfl, rfl⟩) ?_
            refine wl_vw (.int .i64 (p)) 2 true 36 rfl rfl rfl rfl rfl (y_mov rfl s93 ⟨rfl, rfl⟩) ?_
            refine wl_vw (.bool true) 2 true 36 rfl rfl rfl rfl rfl (y_leq rfl rfl rfl (decide_eq_true d101) ⟨rfl, rfl⟩) ?_
            refine wl_v (.bool true) rfl rfl (y_pickT rfl rfl rfl ⟨rfl, rfl⟩) ?_
            refine wl_v (.bool true) rfl rfl (y_mov rfl rfl ⟨rfl, rfl⟩) ?_
            refine wl_vw (.int .i64 (x)) 6 true 40 rfl rfl rfl rfl rfl (y_mov rfl s94 ⟨rfl, rfl⟩) ?_
            refine wl_vw (.bool true) 6 true 40 rfl rfl rfl rfl rfl (y_geq rfl rfl rfl (decide_eq_true d102) ⟨rfl, rfl⟩) ?_
            refine wl_v (.bool true) rfl rfl (y_pickT rfl rfl rfl ⟨rfl, rfl⟩) ?_
            refine wl_v (.bool true) rfl rfl (y_mov rfl rfl ⟨rfl, rfl⟩) ?_
            refine wl_vw (.int .i64 (x)) 10 true 44 rfl rfl rfl rfl rfl (y_mov rfl s94 ⟨rfl, rfl⟩) ?_
            refine wl_vw (.bool false) 10 true 44 rfl rfl rfl rfl rfl (y_leq rfl rfl rfl (decide_eq_false d103) ⟨rfl, rfl⟩) ?_
            refine wl_v (.bool false) rfl rfl (y_pickT rfl rfl rfl ⟨rfl, rfl⟩) ?_
            refine wl_v (.bool false) rfl rfl (y_mov rfl rfl ⟨rfl, rfl⟩) ?_
            refine wl_unless 14 true 48 rfl rfl rfl (Or.inl rfl) rfl ?_
            refine wl_unless 14 true 48 rfl rfl rfl (Or.inl rfl) rfl ?_
            refine wl_v (.bool false) rfl rfl (y_pickF rfl rfl rfl ⟨rfl, rfl⟩) ?_
            refine wl_v (.bool false) rfl rfl (y_mov rfl rfl ⟨rfl, rfl⟩) ?_
            refine wl_unless 18 true 52 rfl rfl rfl (Or.inl rfl) rfl ?_
            refine wl_unless 18 true 52 rfl rfl rfl (Or.inl rfl) rfl ?_
            refine wl_v (.bool false) rfl rfl (y_pickF rfl rfl rfl ⟨rfl, rfl⟩) ?_
            refine wl_v (.bool false) rfl rfl (y_asg rfl rfl ⟨rfl, rfl⟩) ?_
            refine wl_nil fun F500 hF501 => ?_
            have s502 : F500 3 = .int .i64 (p) := (hF501 3).trans s93
            have s503 : F500 4 = .int .i64 (x) := (hF501 4).trans s94
            have s504 : F500 5 = .int .i64 (y) := (hF501 5).trans s95
            have s505 : F500 6 = .int .i64 (mode) := (hF501 6).trans s96
            have s506 : F500 113 = undef := (hF501 113).trans s97
            have s507 : F500 15 = .bool true := (hF501 15).trans s98
            have s508 : F500 16 = .pointer (some ⟨p68, 0, none⟩) := (hF501 16).trans s99
            have s509 : F500 17 = .bool false := (hF501 17).trans rfl
            clear hF501
            refine then_normal ?_
            refine wq_seq ?_
            refine wq_region ?_
            refine wl_v (.agg #[.int .i64 ((mkF (w) (h) (l)).W), .int .i64 ((mkF (w) (h) (l)).H), v43, v44, v45]) rfl rfl (y_load_stc stcT_frame rfl s508 B84 ⟨rfl, rfl⟩) ?_
            refine wl_v (.int .i64 (p)) rfl rfl (y_mov rfl s502 ⟨rfl, rfl⟩) ?_
            refine wl_v (.int .i64 (x)) rfl rfl (y_mov rfl s503 ⟨rfl, rfl⟩) ?_
            refine wl_v (.int .i64 (y)) rfl rfl (y_mov rfl s504 ⟨rfl, rfl⟩) ?_
            refine wl_v (.int .i64 (mode)) rfl rfl (y_mov rfl s505 ⟨rfl, rfl⟩) ?_
            refine wl_call (R := fun v_ w_ => v_ = .tuple #[blkV (predB (mkF (w) (h) (l)) (p) (x) (y) (mode)), .int .i64 (predE (mkF (w) (h) (l)) (p) (x) (y) (mode))] ∧ Kept (fun _ => False) w83 w_) rfl rfl (y_cs rfl rfl rfl (fun _ _ => by kernel_rfl) (ev_func _) (vsC rfl (vsC rfl (vsC rfl (vsC rfl (vsC rfl vsN))))) (il_predict (p) (x) (y) (mode) (mkF (w) (h) (l)) (v43) (v44) (v45) (T48) (T49) (T50) _  (B87).byt (B88).byt (B89).byt ) (fun e_ w_ h_ => ⟨_, h_.1, rfl, h_.2⟩)) ?_
            rintro _ w510 ⟨rfl, k511⟩
            have B512 := B86.all k511 Apart.none
            have B513 := B87.all k511 Apart.none
            have B514 := B88.all k511 Apart.none
            have B515 := B89.all k511 Apart.none
            have B516 := B84.all k511 id
            have K517 := K90.trans k511 (fun _ _ x => x.elim)
            refine wl_v (.tuple #[blkV (predB (mkF (w) (h) (l)) (p) (x) (y) (mode)), .int .i64 (predE (mkF (w) (h) (l)) (p) (x) (y) (mode))]) rfl rfl (y_mov rfl rfl ⟨rfl, rfl⟩) ?_
            refine wl_v (blkV (predB (mkF (w) (h) (l)) (p) (x) (y) (mode))) rfl rfl (y_ext rfl rfl rfl ⟨rfl, rfl⟩) ?_
            refine wl_v (.int .i64 (predE (mkF (w) (h) (l)) (p) (x) (y) (mode))) rfl rfl (y_ext rfl rfl rfl ⟨rfl, rfl⟩) ?_
            refine wl_alloc_blk rfl rfl rfl blkT_block.2.2 fun p518 w519 e522 B520 k521 => ?_
            have g523 := onB_new (Nat.le_of_eq e522.symm)
            have gr524 : Grew w0 noB (onB p518) := Grew.new K517 g523
            have ap525 : Apart (onB p518) (T_s) := Apart.new g523 (B512).live
            have ap526 : Apart (onB p518) (T48) := Apart.new g523 (B513).live
            have ap527 : Apart (onB p518) (T49) := Apart.new g523 (B514).live
            have ap528 : Apart (onB p518) (T50) := Apart.new g523 (B515).live
            have ap529 : Apart (onB p518) (onB p68) := Apart.new g523 (onB_live (B516).lt)
            clear e522 g523
            have B530 := B512.all k521 Apart.none
            have B531 := B513.all k521 Apart.none
            have B532 := B514.all k521 Apart.none
            have B533 := B515.all k521 Apart.none
            have B534 := B516.all k521 id
            have K535 := K517.trans k521 (fun _ _ x => x.elim)
            refine wl_store_blk blkT_block rfl rfl rfl rfl rfl B520 fun w536 B537 k538 => ?_
            have B539 := B530.all k538 (fun i h x => (((ap525).symm) i h x))
            have B540 := B531.all k538 (fun i h x => (((ap526).symm) i h x))
            have B541 := B532.all k538 (fun i h x => (((ap527).symm) i h x))
            have B542 := B533.all k538 (fun i h x => (((ap528).symm) i h x))
            have B543 := B534.all k538 (fun x => (((ap529).symm) p68 rfl x))
            have K544 := K535.trans k538 (Grew.ok (S := fun _ => False) gr524 noB_le)
            refine wl_v (.int .i64 (predE (mkF (w) (h) (l)) (p) (x) (y) (mode))) rfl rfl (y_asg rfl rfl ⟨rfl, rfl⟩) ?_
            refine wl_nil fun F545 hF546 => ?_
            have s547 : F545 3 = .int .i64 (p) := (hF546 3).trans s502
            have s548 : F545 4 = .int .i64 (x) := (hF546 4).trans s503
            have s549 : F545 5 = .int .i64 (y) := (hF546 5).trans s504
            have s550 : F545 6 = .int .i64 (mode) := (hF546 6).trans s505
            have s551 : F545 113 = undef := (hF546 113).trans s506
            have s552 : F545 15 = .bool true := (hF546 15).trans s507
            have s553 : F545 16 = .pointer (some ⟨p68, 0, none⟩) := (hF546 16).trans s508
            have s554 : F545 17 = .bool false := (hF546 17).trans s509
            have s555 : F545 19 = .int .i64 (predE (mkF (w) (h) (l)) (p) (x) (y) (mode)) := (hF546 19).trans rfl
            clear hF546
            refine then_normal ?_
            refine wq_seq ?_
            refine wq_region ?_
            refine wl_v (.agg #[.int .i64 ((mkF (w) (h) (l)).W), .int .i64 ((mkF (w) (h) (l)).H), v43, v44, v45]) rfl rfl (y_load_stc stcT_frame rfl s553 B543 ⟨rfl, rfl⟩) ?_
            refine wl_v (.int .i64 (p)) rfl rfl (y_mov rfl s547 ⟨rfl, rfl⟩) ?_
            refine wl_v (.int .i64 (x)) rfl rfl (y_mov rfl s548 ⟨rfl, rfl⟩) ?_
            refine wl_v (.int .i64 (y)) rfl rfl (y_mov rfl s549 ⟨rfl, rfl⟩) ?_
            refine wl_v (blkV (fun _ => 0)) rfl rfl (y_buildR (cells := (arrL 16 (fun _ => 0)).toArray) rfl (by kernel_rfl) rfl ⟨rfl, rfl⟩) ?_
            refine wl_call (R := fun v_ w_ => v_ = .tuple #[.int .i64 ((bestF (mkF (w) (h) (l)) (p) (x) (y) (fun _ => 0)).1), .int .i64 ((bestF (mkF (w) (h) (l)) (p) (x) (y) (fun _ => 0)).2)] ∧ Kept (fun _ => False) w536 w_) rfl rfl (y_cs rfl rfl rfl (fun _ _ => by kernel_rfl) (ev_func _) (vsC rfl (vsC rfl (vsC rfl (vsC rfl (vsC rfl vsN))))) (il_best (p) (x) (y) (fun _ => 0) (mkF (w) (h) (l)) (v43) (v44) (v45) (T48) (T49) (T50) _  (B540).byt (B541).byt (B542).byt ) (fun e_ w_ h_ => ⟨_, h_.1, rfl, h_.2⟩)) ?_
            rintro _ w556 ⟨rfl, k557⟩
            have B558 := B539.all k557 Apart.none
            have B559 := B540.all k557 Apart.none
            have B560 := B541.all k557 Apart.none
            have B561 := B542.all k557 Apart.none
            have B562 := B543.all k557 id
            have B563 := B537.all k557 id
            have K564 := K544.trans k557 (fun _ _ x => x.elim)
            refine wl_v (.tuple #[.int .i64 ((bestF (mkF (w) (h) (l)) (p) (x) (y) (fun _ => 0)).1), .int .i64 ((bestF (mkF (w) (h) (l)) (p) (x) (y) (fun _ => 0)).2)]) rfl rfl (y_mov rfl rfl ⟨rfl, rfl⟩) ?_
            refine wl_v (.int .i64 ((bestF (mkF (w) (h) (l)) (p) (x) (y) (fun _ => 0)).1)) rfl rfl (y_ext rfl rfl rfl ⟨rfl, rfl⟩) ?_
            refine wl_v (.int .i64 ((bestF (mkF (w) (h) (l)) (p) (x) (y) (fun _ => 0)).2)) rfl rfl (y_ext rfl rfl rfl ⟨rfl, rfl⟩) ?_
            refine wl_v (.int .i64 ((bestF (mkF (w) (h) (l)) (p) (x) (y) (fun _ => 0)).1)) rfl rfl (y_asg rfl rfl ⟨rfl, rfl⟩) ?_
            refine wl_v (.int .i64 ((bestF (mkF (w) (h) (l)) (p) (x) (y) (fun _ => 0)).2)) rfl rfl (y_asg rfl rfl ⟨rfl, rfl⟩) ?_
            refine wl_nil fun F565 hF566 => ?_
            have s567 : F565 3 = .int .i64 (p) := (hF566 3).trans s547
            have s568 : F565 4 = .int .i64 (x) := (hF566 4).trans s548
            have s569 : F565 5 = .int .i64 (y) := (hF566 5).trans s549
            have s570 : F565 6 = .int .i64 (mode) := (hF566 6).trans s550
            have s571 : F565 113 = undef := (hF566 113).trans s551
            have s572 : F565 15 = .bool true := (hF566 15).trans s552
            have s573 : F565 17 = .bool false := (hF566 17).trans s554
            have s574 : F565 19 = .int .i64 (predE (mkF (w) (h) (l)) (p) (x) (y) (mode)) := (hF566 19).trans s555
            have s575 : F565 20 = .int .i64 ((bestF (mkF (w) (h) (l)) (p) (x) (y) (fun _ => 0)).1) := (hF566 20).trans rfl
            have s576 : F565 21 = .int .i64 ((bestF (mkF (w) (h) (l)) (p) (x) (y) (fun _ => 0)).2) := (hF566 21).trans rfl
            clear hF566
            refine then_normal ?_
            refine wq_seq ?_
            refine wq_region ?_
            refine wl_v (.agg #[.int .i64 (0), .int .i64 (0), .slice none 0 0, .slice none 0 0, .slice none 0 0]) rfl rfl (y_buildL (l' := []) (cells := #[.int .i64 (0), .int .i64 (0), .slice none 0 0, .slice none 0 0, .slice none 0 0]) rfl bpN (by kernel_rfl) rfl ⟨rfl, rfl⟩) ?_
            refine wl_v (.int .i64 (p)) rfl rfl (y_mov rfl s567 ⟨rfl, rfl⟩) ?_
            refine wl_v (.int .i64 (x)) rfl rfl (y_mov rfl s568 ⟨rfl, rfl⟩) ?_
            refine wl_v (.int .i64 (y)) rfl rfl (y_mov rfl s569 ⟨rfl, rfl⟩) ?_
            refine wl_v (.int .i64 (mode)) rfl rfl (y_mov rfl s570 ⟨rfl, rfl⟩) ?_
            refine wl_call (R := fun v_ w_ => v_ = .tuple #[blkV (predB (FD.mk (0) (0) ([]) ([]) ([])) (p) (x) (y) (mode)), .int .i64 (predE (FD.mk (0) (0) ([]) ([]) ([])) (p) (x) (y) (mode))] ∧ Kept (fun _ => False) w556 w_) rfl rfl (y_cs rfl rfl rfl (fun _ _ => by kernel_rfl) (ev_func _) (vsC rfl (vsC rfl (vsC rfl (vsC rfl (vsC rfl vsN))))) (il_predict (p) (x) (y) (mode) (FD.mk (0) (0) ([]) ([]) ([])) (.slice none 0 0) (.slice none 0 0) (.slice none 0 0) (noB) (noB) (noB) _  (Byt.nil _) (Byt.nil _) (Byt.nil _) ) (fun e_ w_ h_ => ⟨_, h_.1, rfl, h_.2⟩)) ?_
            rintro _ w577 ⟨rfl, k578⟩
            have B579 := B558.all k578 Apart.none
            have B580 := B559.all k578 Apart.none
            have B581 := B560.all k578 Apart.none
            have B582 := B561.all k578 Apart.none
            have B583 := B562.all k578 id
            have B584 := B563.all k578 id
            have K585 := K564.trans k578 (fun _ _ x => x.elim)
            refine wl_v (.tuple #[blkV (predB (FD.mk (0) (0) ([]) ([]) ([])) (p) (x) (y) (mode)), .int .i64 (predE (FD.mk (0) (0) ([]) ([]) ([])) (p) (x) (y) (mode))]) rfl rfl (y_mov rfl rfl ⟨rfl, rfl⟩) ?_
            refine wl_v (blkV (predB (FD.mk (0) (0) ([]) ([]) ([])) (p) (x) (y) (mode))) rfl rfl (y_ext rfl rfl rfl ⟨rfl, rfl⟩) ?_
            refine wl_v (.int .i64 (predE (FD.mk (0) (0) ([]) ([]) ([])) (p) (x) (y) (mode))) rfl rfl (y_ext rfl rfl rfl ⟨rfl, rfl⟩) ?_
            refine wl_alloc_blk rfl rfl rfl blkT_block.2.2 fun p586 w587 e590 B588 k589 => ?_
            have g591 := onB_new (Nat.le_of_eq e590.symm)
            have gr592 : Grew w0 noB (onB p586) := Grew.new K585 g591
            have ap593 : Apart (onB p586) (T_s) := Apart.new g591 (B579).live
            have ap594 : Apart (onB p586) (T48) := Apart.new g591 (B580).live
            have ap595 : Apart (onB p586) (T49) := Apart.new g591 (B581).live
            have ap596 : Apart (onB p586) (T50) := Apart.new g591 (B582).live
            have ap597 : Apart (onB p586) (onB p68) := Apart.new g591 (onB_live (B583).lt)
            have ap598 : Apart (onB p586) (onB p518) := Apart.new g591 (onB_live (B584).lt)
            clear e590 g591
            have B599 := B579.all k589 Apart.none
            have B600 := B580.all k589 Apart.none
            have B601 := B581.all k589 Apart.none
            have B602 := B582.all k589 Apart.none
            have B603 := B583.all k589 id
            have B604 := B584.all k589 id
            have K605 := K585.trans k589 (fun _ _ x => x.elim)
            refine wl_store_blk blkT_block rfl rfl rfl rfl rfl B588 fun w606 B607 k608 => ?_
            have B609 := B599.all k608 (fun i h x => (((ap593).symm) i h x))
            have B610 := B600.all k608 (fun i h x => (((ap594).symm) i h x))
            have B611 := B601.all k608 (fun i h x => (((ap595).symm) i h x))
            have B612 := B602.all k608 (fun i h x => (((ap596).symm) i h x))
            have B613 := B603.all k608 (fun x => (((ap597).symm) p68 rfl x))
            have B614 := B604.all k608 (fun x => (((ap598).symm) p518 rfl x))
            have K615 := K605.trans k608 (Grew.ok (S := fun _ => False) gr592 noB_le)
            refine wl_v (.int .i64 (predE (FD.mk (0) (0) ([]) ([]) ([])) (p) (x) (y) (mode))) rfl rfl (y_asg rfl rfl ⟨rfl, rfl⟩) ?_
            refine wl_nil fun F616 hF617 => ?_
            have s618 : F616 6 = .int .i64 (mode) := (hF617 6).trans s570
            have s619 : F616 113 = undef := (hF617 113).trans s571
            have s620 : F616 15 = .bool true := (hF617 15).trans s572
            have s621 : F616 17 = .bool false := (hF617 17).trans s573
            have s622 : F616 19 = .int .i64 (predE (mkF (w) (h) (l)) (p) (x) (y) (mode)) := (hF617 19).trans s574
            have s623 : F616 20 = .int .i64 ((bestF (mkF (w) (h) (l)) (p) (x) (y) (fun _ => 0)).1) := (hF617 20).trans s575
            have s624 : F616 21 = .int .i64 ((bestF (mkF (w) (h) (l)) (p) (x) (y) (fun _ => 0)).2) := (hF617 21).trans s576
            have s625 : F616 23 = .int .i64 (predE (FD.mk (0) (0) ([]) ([]) ([])) (p) (x) (y) (mode)) := (hF617 23).trans rfl
            clear hF617
            refine then_normal ?_
            refine wq_seq ?_
            refine wq_region ?_
            refine wl_v (.int .i64 (0)) rfl rfl (y_asg rfl rfl ⟨rfl, rfl⟩) ?_
            refine wl_nil fun F626 hF627 => ?_
            have s628 : F626 6 = .int .i64 (mode) := (hF627 6).trans s618
            have s629 : F626 113 = undef := (hF627 113).trans s619
            have s630 : F626 15 = .bool true := (hF627 15).trans s620
            have s631 : F626 17 = .bool false := (hF627 17).trans s621
            have s632 : F626 19 = .int .i64 (predE (mkF (w) (h) (l)) (p) (x) (y) (mode)) := (hF627 19).trans s622
            have s633 : F626 20 = .int .i64 ((bestF (mkF (w) (h) (l)) (p) (x) (y) (fun _ => 0)).1) := (hF627 20).trans s623
            have s634 : F626 21 = .int .i64 ((bestF (mkF (w) (h) (l)) (p) (x) (y) (fun _ => 0)).2) := (hF627 21).trans s624
            have s635 : F626 23 = .int .i64 (predE (FD.mk (0) (0) ([]) ([]) ([])) (p) (x) (y) (mode)) := (hF627 23).trans s625
            have s636 : F626 24 = .int .i64 (0) := (hF627 24).trans rfl
            clear hF627
            refine then_normal ?_
            refine wq_seq ?_
            refine wq_seq ?_
            refine wq_region ?_
            refine wl_v (.bool false) rfl rfl (y_mov rfl s631 ⟨rfl, rfl⟩) ?_
            refine wl_v (.bool true) rfl rfl (y_not rfl rfl rfl ⟨rfl, rfl⟩) ?_
            refine wl_nil fun F637 hF638 => ?_
            have s639 : F637 6 = .int .i64 (mode) := (hF638 6).trans s628
            have s640 : F637 113 = undef := (hF638 113).trans s629
            have s641 : F637 15 = .bool true := (hF638 15).trans s630
            have s642 : F637 17 = .bool false := (hF638 17).trans s631
            have s643 : F637 19 = .int .i64 (predE (mkF (w) (h) (l)) (p) (x) (y) (mode)) := (hF638 19).trans s632
            have s644 : F637 20 = .int .i64 ((bestF (mkF (w) (h) (l)) (p) (x) (y) (fun _ => 0)).1) := (hF638 20).trans s633
            have s645 : F637 21 = .int .i64 ((bestF (mkF (w) (h) (l)) (p) (x) (y) (fun _ => 0)).2) := (hF638 21).trans s634
            have s646 : F637 23 = .int .i64 (predE (FD.mk (0) (0) ([]) ([]) ([])) (p) (x) (y) (mode)) := (hF638 23).trans s635
            have s647 : F637 24 = .int .i64 (0) := (hF638 24).trans s636
            have s648 : F637 84 = .bool true := (hF638 84).trans rfl
            clear hF638
            refine then_normal ?_
            refine wq_cond (t := true) s648 (fun _ => ?_) (fun e => by cases e)
            refine wq_region ?_
            refine wl_v (.int .i64 (70)) rfl rfl (y_asg rfl rfl ⟨rfl, rfl⟩) ?_
            refine wl_nil fun F649 hF650 => ?_
            have s651 : F649 113 = undef := (hF650 113).trans s640
            have s652 : F649 15 = .bool true := (hF650 15).trans s641
            have s653 : F649 17 = .bool false := (hF650 17).trans s642
            have s654 : F649 19 = .int .i64 (predE (mkF (w) (h) (l)) (p) (x) (y) (mode)) := (hF650 19).trans s643
            have s655 : F649 20 = .int .i64 ((bestF (mkF (w) (h) (l)) (p) (x) (y) (fun _ => 0)).1) := (hF650 20).trans s644
            have s656 : F649 21 = .int .i64 ((bestF (mkF (w) (h) (l)) (p) (x) (y) (fun _ => 0)).2) := (hF650 21).trans s645
            have s657 : F649 23 = .int .i64 (predE (FD.mk (0) (0) ([]) ([]) ([])) (p) (x) (y) (mode)) := (hF650 23).trans s646
            have s658 : F649 24 = .int .i64 (70) := (hF650 24).trans rfl
            clear hF650
            refine then_normal ?_
            refine wq_seq ?_
            refine wq_region ?_
            refine wl_v (.bool true) rfl rfl (y_mov rfl s652 ⟨rfl, rfl⟩) ?_
            refine wl_v (.bool true) rfl rfl (y_mov rfl rfl ⟨rfl, rfl⟩) ?_
            refine wl_vw (.int .i64 (predE (mkF (w) (h) (l)) (p) (x) (y) (mode))) 1 true 92 rfl rfl rfl rfl rfl (y_mov rfl s654 ⟨rfl, rfl⟩) ?_
            refine wl_vw (.int .i64 (70)) 1 true 92 rfl rfl rfl rfl rfl (y_mov rfl s658 ⟨rfl, rfl⟩) ?_
            refine wl_vw (.bool true) 1 true 92 rfl rfl rfl rfl rfl (y_eqlI rfl rfl rfl (decide_eq_true (by first | exact (pred_no (by rintro ⟨_, h1, h2, h3, h4, h5, h6⟩; omega)).1 | exact (pred_none ⟨mkF_ok w h l, by omega, by omega, by omega, by omega, by omega, by omega⟩ (by omega)).1 | exact (pred_yes ⟨mkF_ok w h l, by omega, by omega, by omega, by omega, by omega, by omega⟩ (by omega)).1)) ⟨rfl, rfl⟩) ?_
            refine wl_v (.bool true) rfl rfl (y_pickT rfl rfl rfl ⟨rfl, rfl⟩) ?_
            refine wl_v (.bool true) rfl rfl (y_mov rfl rfl ⟨rfl, rfl⟩) ?_
            refine wl_vw (.int .i64 (predE (FD.mk (0) (0) ([]) ([]) ([])) (p) (x) (y) (mode))) 6 true 97 rfl rfl rfl rfl rfl (y_mov rfl s657 ⟨rfl, rfl⟩) ?_
            refine wl_vw (.bool true) 6 true 97 rfl rfl rfl rfl rfl (y_eqlI rfl rfl rfl (decide_eq_true (pred_no (none_place _ _ _)).1) ⟨rfl, rfl⟩) ?_
            refine wl_v (.bool true) rfl rfl (y_pickT rfl rfl rfl ⟨rfl, rfl⟩) ?_
            refine wl_v (.bool true) rfl rfl (y_mov rfl rfl ⟨rfl, rfl⟩) ?_
            refine wl_vw (.int .i64 ((bestF (mkF (w) (h) (l)) (p) (x) (y) (fun _ => 0)).1)) 10 true 101 rfl rfl rfl rfl rfl (y_mov rfl s655 ⟨rfl, rfl⟩) ?_
            refine wl_vw (.bool (decide ((0) ≤ ((bestF (mkF (w) (h) (l)) (p) (x) (y) (fun _ => 0)).1)))) 10 true 101 rfl rfl rfl rfl rfl (y_geq rfl rfl rfl rfl ⟨rfl, rfl⟩) ?_
            refine wl_vw (.bool false) 10 true 101 rfl rfl rfl rfl rfl (y_mov rfl s653 ⟨rfl, rfl⟩) ?_
            refine wl_vw (.bool true) 10 true 101 rfl rfl rfl rfl rfl (y_eqlB rfl rfl rfl Try.underlying4 ((by first | (rw [decide_eq_true ((best_sign _ _ _ _ _).1 ⟨mkF_ok w h l, by omega, by omega, by omega, by omega, by omega, by omega⟩).1]; rfl) | (rw [decide_eq_false ((best_sign _ _ _ _ _).2 (by rintro ⟨_, h1, h2, h3, h4, h5, h6⟩; omega)).1]; rfl))) ⟨rfl, rfl⟩) ?_
            refine wl_v (.bool true) rfl rfl (y_pickT rfl rfl rfl ⟨rfl, rfl⟩) ?_
            refine wl_v (.bool true) rfl rfl (y_mov rfl rfl ⟨rfl, rfl⟩) ?_
            refine wl_vw (.int .i64 ((bestF (mkF (w) (h) (l)) (p) (x) (y) (fun _ => 0)).2)) 16 true 107 rfl rfl rfl rfl rfl (y_mov rfl s656 ⟨rfl, rfl⟩) ?_
            refine wl_vw (.bool (decide ((0) ≤ ((bestF (mkF (w) (h) (l)) (p) (x) (y) (fun _ => 0)).2)))) 16 true 107 rfl rfl rfl rfl rfl (y_geq rfl rfl rfl rfl ⟨rfl, rfl⟩) ?_
            refine wl_vw (.bool false) 16 true 107 rfl rfl rfl rfl rfl (y_mov rfl s653 ⟨rfl, rfl⟩) ?_
            refine wl_vw (.bool true) 16 true 107 rfl rfl rfl rfl rfl (y_eqlB rfl rfl rfl Try.underlying4 ((by first | (rw [decide_eq_true ((best_sign _ _ _ _ _).1 ⟨mkF_ok w h l, by omega, by omega, by omega, by omega, by omega, by omega⟩).2]; rfl) | (rw [decide_eq_false ((best_sign _ _ _ _ _).2 (by rintro ⟨_, h1, h2, h3, h4, h5, h6⟩; omega)).2]; rfl))) ⟨rfl, rfl⟩) ?_
            refine wl_v (.bool true) rfl rfl (y_pickT rfl rfl rfl ⟨rfl, rfl⟩) ?_
            refine wl_v (.bool true) rfl rfl (y_asg rfl rfl ⟨rfl, rfl⟩) ?_
            refine wl_nil fun F659 hF660 => ?_
            have s661 : F659 113 = undef := (hF660 113).trans s651
            have s662 : F659 14 = .bool true := (hF660 14).trans rfl
            clear hF660
            refine then_normal ?_
            refine wq_ret ?_
            exact end_tmp (v := .bool true) s661 rfl rfl s662 ⟨rfl, K615⟩
        · skip
          refine wq_region ?_
          refine wl_v (.int .i64 (p)) rfl rfl (y_mov rfl s93 ⟨rfl, rfl⟩) ?_
          refine wl_v (.bool true) rfl rfl (y_geq rfl rfl rfl (decide_eq_true d100) ⟨rfl, rfl⟩) ?_
          refine wl_v (.bool true) rfl rfl (y_mov rfl rfl ⟨rfl, rfl⟩) ?_
          refine wl_vw (.int .i64 (p)) 2 true 36 rfl rfl rfl rfl rfl (y_mov rfl s93 ⟨rfl, rfl⟩) ?_
          refine wl_vw (.bool true) 2 true 36 rfl rfl rfl rfl rfl (y_leq rfl rfl rfl (decide_eq_true d101) ⟨rfl, rfl⟩) ?_
          refine wl_v (.bool true) rfl rfl (y_pickT rfl rfl rfl ⟨rfl, rfl⟩) ?_
          refine wl_v (.bool true) rfl rfl (y_mov rfl rfl ⟨rfl, rfl⟩) ?_
          refine wl_vw (.int .i64 (x)) 6 true 40 rfl rfl rfl rfl rfl (y_mov rfl s94 ⟨rfl, rfl⟩) ?_
          refine wl_vw (.bool false) 6 true 40 rfl rfl rfl rfl rfl (y_geq rfl rfl rfl (decide_eq_false d102) ⟨rfl, rfl⟩) ?_
          refine wl_v (.bool false) rfl rfl (y_pickT rfl rfl rfl ⟨rfl, rfl⟩) ?_
          refine wl_v (.bool false) rfl rfl (y_mov rfl rfl ⟨rfl, rfl⟩) ?_
          refine wl_unless 10 true 44 rfl rfl rfl (Or.inl rfl) rfl ?_
          refine wl_unless 10 true 44 rfl rfl rfl (Or.inl rfl) rfl ?_
          refine wl_v (.bool false) rfl rfl (y_pickF rfl rfl rfl ⟨rfl, rfl⟩) ?_
          refine wl_v (.bool false) rfl rfl (y_mov rfl rfl ⟨rfl, rfl⟩) ?_
          refine wl_unless 14 true 48 rfl rfl rfl (Or.inl rfl) rfl ?_
          refine wl_unless 14 true 48 rfl rfl rfl (Or.inl rfl) rfl ?_
          refine wl_v (.bool false) rfl rfl (y_pickF rfl rfl rfl ⟨rfl, rfl⟩) ?_
          refine wl_v (.bool false) rfl rfl (y_mov rfl rfl ⟨rfl, rfl⟩) ?_
          refine wl_unless 18 true 52 rfl rfl rfl (Or.inl rfl) rfl ?_
          refine wl_unless 18 true 52 rfl rfl rfl (Or.inl rfl) rfl ?_
          refine wl_v (.bool false) rfl rfl (y_pickF rfl rfl rfl ⟨rfl, rfl⟩) ?_
          refine wl_v (.bool false) rfl rfl (y_asg rfl rfl ⟨rfl, rfl⟩) ?_
          refine wl_nil fun F663 hF664 => ?_
          have s665 : F663 3 = .int .i64 (p) := (hF664 3).trans s93
          have s666 : F663 4 = .int .i64 (x) := (hF664 4).trans s94
          have s667 : F663 5 = .int .i64 (y) := (hF664 5).trans s95
          have s668 : F663 6 = .int .i64 (mode) := (hF664 6).trans s96
          have s669 : F663 113 = undef := (hF664 113).trans s97
          have s670 : F663 15 = .bool true := (hF664 15).trans s98
          have s671 : F663 16 = .pointer (some ⟨p68, 0, none⟩) := (hF664 16).trans s99
          have s672 : F663 17 = .bool false := (hF664 17).trans rfl
          clear hF664
          refine then_normal ?_
          refine wq_seq ?_
          refine wq_region ?_
          refine wl_v (.agg #[.int .i64 ((mkF (w) (h) (l)).W), .int .i64 ((mkF (w) (h) (l)).H), v43, v44, v45]) rfl rfl (y_load_stc stcT_frame rfl s671 B84 ⟨rfl, rfl⟩) ?_
          refine wl_v (.int .i64 (p)) rfl rfl (y_mov rfl s665 ⟨rfl, rfl⟩) ?_
          refine wl_v (.int .i64 (x)) rfl rfl (y_mov rfl s666 ⟨rfl, rfl⟩) ?_
          refine wl_v (.int .i64 (y)) rfl rfl (y_mov rfl s667 ⟨rfl, rfl⟩) ?_
          refine wl_v (.int .i64 (mode)) rfl rfl (y_mov rfl s668 ⟨rfl, rfl⟩) ?_
          refine wl_call (R := fun v_ w_ => v_ = .tuple #[blkV (predB (mkF (w) (h) (l)) (p) (x) (y) (mode)), .int .i64 (predE (mkF (w) (h) (l)) (p) (x) (y) (mode))] ∧ Kept (fun _ => False) w83 w_) rfl rfl (y_cs rfl rfl rfl (fun _ _ => by kernel_rfl) (ev_func _) (vsC rfl (vsC rfl (vsC rfl (vsC rfl (vsC rfl vsN))))) (il_predict (p) (x) (y) (mode) (mkF (w) (h) (l)) (v43) (v44) (v45) (T48) (T49) (T50) _  (B87).byt (B88).byt (B89).byt ) (fun e_ w_ h_ => ⟨_, h_.1, rfl, h_.2⟩)) ?_
          rintro _ w673 ⟨rfl, k674⟩
          have B675 := B86.all k674 Apart.none
          have B676 := B87.all k674 Apart.none
          have B677 := B88.all k674 Apart.none
          have B678 := B89.all k674 Apart.none
          have B679 := B84.all k674 id
          have K680 := K90.trans k674 (fun _ _ x => x.elim)
          refine wl_v (.tuple #[blkV (predB (mkF (w) (h) (l)) (p) (x) (y) (mode)), .int .i64 (predE (mkF (w) (h) (l)) (p) (x) (y) (mode))]) rfl rfl (y_mov rfl rfl ⟨rfl, rfl⟩) ?_
          refine wl_v (blkV (predB (mkF (w) (h) (l)) (p) (x) (y) (mode))) rfl rfl (y_ext rfl rfl rfl ⟨rfl, rfl⟩) ?_
          refine wl_v (.int .i64 (predE (mkF (w) (h) (l)) (p) (x) (y) (mode))) rfl rfl (y_ext rfl rfl rfl ⟨rfl, rfl⟩) ?_
          refine wl_alloc_blk rfl rfl rfl blkT_block.2.2 fun p681 w682 e685 B683 k684 => ?_
          have g686 := onB_new (Nat.le_of_eq e685.symm)
          have gr687 : Grew w0 noB (onB p681) := Grew.new K680 g686
          have ap688 : Apart (onB p681) (T_s) := Apart.new g686 (B675).live
          have ap689 : Apart (onB p681) (T48) := Apart.new g686 (B676).live
          have ap690 : Apart (onB p681) (T49) := Apart.new g686 (B677).live
          have ap691 : Apart (onB p681) (T50) := Apart.new g686 (B678).live
          have ap692 : Apart (onB p681) (onB p68) := Apart.new g686 (onB_live (B679).lt)
          clear e685 g686
          have B693 := B675.all k684 Apart.none
          have B694 := B676.all k684 Apart.none
          have B695 := B677.all k684 Apart.none
          have B696 := B678.all k684 Apart.none
          have B697 := B679.all k684 id
          have K698 := K680.trans k684 (fun _ _ x => x.elim)
          refine wl_store_blk blkT_block rfl rfl rfl rfl rfl B683 fun w699 B700 k701 => ?_
          have B702 := B693.all k701 (fun i h x => (((ap688).symm) i h x))
          have B703 := B694.all k701 (fun i h x => (((ap689).symm) i h x))
          have B704 := B695.all k701 (fun i h x => (((ap690).symm) i h x))
          have B705 := B696.all k701 (fun i h x => (((ap691).symm) i h x))
          have B706 := B697.all k701 (fun x => (((ap692).symm) p68 rfl x))
          have K707 := K698.trans k701 (Grew.ok (S := fun _ => False) gr687 noB_le)
          refine wl_v (.int .i64 (predE (mkF (w) (h) (l)) (p) (x) (y) (mode))) rfl rfl (y_asg rfl rfl ⟨rfl, rfl⟩) ?_
          refine wl_nil fun F708 hF709 => ?_
          have s710 : F708 3 = .int .i64 (p) := (hF709 3).trans s665
          have s711 : F708 4 = .int .i64 (x) := (hF709 4).trans s666
          have s712 : F708 5 = .int .i64 (y) := (hF709 5).trans s667
          have s713 : F708 6 = .int .i64 (mode) := (hF709 6).trans s668
          have s714 : F708 113 = undef := (hF709 113).trans s669
          have s715 : F708 15 = .bool true := (hF709 15).trans s670
          have s716 : F708 16 = .pointer (some ⟨p68, 0, none⟩) := (hF709 16).trans s671
          have s717 : F708 17 = .bool false := (hF709 17).trans s672
          have s718 : F708 19 = .int .i64 (predE (mkF (w) (h) (l)) (p) (x) (y) (mode)) := (hF709 19).trans rfl
          clear hF709
          refine then_normal ?_
          refine wq_seq ?_
          refine wq_region ?_
          refine wl_v (.agg #[.int .i64 ((mkF (w) (h) (l)).W), .int .i64 ((mkF (w) (h) (l)).H), v43, v44, v45]) rfl rfl (y_load_stc stcT_frame rfl s716 B706 ⟨rfl, rfl⟩) ?_
          refine wl_v (.int .i64 (p)) rfl rfl (y_mov rfl s710 ⟨rfl, rfl⟩) ?_
          refine wl_v (.int .i64 (x)) rfl rfl (y_mov rfl s711 ⟨rfl, rfl⟩) ?_
          refine wl_v (.int .i64 (y)) rfl rfl (y_mov rfl s712 ⟨rfl, rfl⟩) ?_
          refine wl_v (blkV (fun _ => 0)) rfl rfl (y_buildR (cells := (arrL 16 (fun _ => 0)).toArray) rfl (by kernel_rfl) rfl ⟨rfl, rfl⟩) ?_
          refine wl_call (R := fun v_ w_ => v_ = .tuple #[.int .i64 ((bestF (mkF (w) (h) (l)) (p) (x) (y) (fun _ => 0)).1), .int .i64 ((bestF (mkF (w) (h) (l)) (p) (x) (y) (fun _ => 0)).2)] ∧ Kept (fun _ => False) w699 w_) rfl rfl (y_cs rfl rfl rfl (fun _ _ => by kernel_rfl) (ev_func _) (vsC rfl (vsC rfl (vsC rfl (vsC rfl (vsC rfl vsN))))) (il_best (p) (x) (y) (fun _ => 0) (mkF (w) (h) (l)) (v43) (v44) (v45) (T48) (T49) (T50) _  (B703).byt (B704).byt (B705).byt ) (fun e_ w_ h_ => ⟨_, h_.1, rfl, h_.2⟩)) ?_
          rintro _ w719 ⟨rfl, k720⟩
          have B721 := B702.all k720 Apart.none
          have B722 := B703.all k720 Apart.none
          have B723 := B704.all k720 Apart.none
          have B724 := B705.all k720 Apart.none
          have B725 := B706.all k720 id
          have B726 := B700.all k720 id
          have K727 := K707.trans k720 (fun _ _ x => x.elim)
          refine wl_v (.tuple #[.int .i64 ((bestF (mkF (w) (h) (l)) (p) (x) (y) (fun _ => 0)).1), .int .i64 ((bestF (mkF (w) (h) (l)) (p) (x) (y) (fun _ => 0)).2)]) rfl rfl (y_mov rfl rfl ⟨rfl, rfl⟩) ?_
          refine wl_v (.int .i64 ((bestF (mkF (w) (h) (l)) (p) (x) (y) (fun _ => 0)).1)) rfl rfl (y_ext rfl rfl rfl ⟨rfl, rfl⟩) ?_
          refine wl_v (.int .i64 ((bestF (mkF (w) (h) (l)) (p) (x) (y) (fun _ => 0)).2)) rfl rfl (y_ext rfl rfl rfl ⟨rfl, rfl⟩) ?_
          refine wl_v (.int .i64 ((bestF (mkF (w) (h) (l)) (p) (x) (y) (fun _ => 0)).1)) rfl rfl (y_asg rfl rfl ⟨rfl, rfl⟩) ?_
          refine wl_v (.int .i64 ((bestF (mkF (w) (h) (l)) (p) (x) (y) (fun _ => 0)).2)) rfl rfl (y_asg rfl rfl ⟨rfl, rfl⟩) ?_
          refine wl_nil fun F728 hF729 => ?_
          have s730 : F728 3 = .int .i64 (p) := (hF729 3).trans s710
          have s731 : F728 4 = .int .i64 (x) := (hF729 4).trans s711
          have s732 : F728 5 = .int .i64 (y) := (hF729 5).trans s712
          have s733 : F728 6 = .int .i64 (mode) := (hF729 6).trans s713
          have s734 : F728 113 = undef := (hF729 113).trans s714
          have s735 : F728 15 = .bool true := (hF729 15).trans s715
          have s736 : F728 17 = .bool false := (hF729 17).trans s717
          have s737 : F728 19 = .int .i64 (predE (mkF (w) (h) (l)) (p) (x) (y) (mode)) := (hF729 19).trans s718
          have s738 : F728 20 = .int .i64 ((bestF (mkF (w) (h) (l)) (p) (x) (y) (fun _ => 0)).1) := (hF729 20).trans rfl
          have s739 : F728 21 = .int .i64 ((bestF (mkF (w) (h) (l)) (p) (x) (y) (fun _ => 0)).2) := (hF729 21).trans rfl
          clear hF729
          refine then_normal ?_
          refine wq_seq ?_
          refine wq_region ?_
          refine wl_v (.agg #[.int .i64 (0), .int .i64 (0), .slice none 0 0, .slice none 0 0, .slice none 0 0]) rfl rfl (y_buildL (l' := []) (cells := #[.int .i64 (0), .int .i64 (0), .slice none 0 0, .slice none 0 0, .slice none 0 0]) rfl bpN (by kernel_rfl) rfl ⟨rfl, rfl⟩) ?_
          refine wl_v (.int .i64 (p)) rfl rfl (y_mov rfl s730 ⟨rfl, rfl⟩) ?_
          refine wl_v (.int .i64 (x)) rfl rfl (y_mov rfl s731 ⟨rfl, rfl⟩) ?_
          refine wl_v (.int .i64 (y)) rfl rfl (y_mov rfl s732 ⟨rfl, rfl⟩) ?_
          refine wl_v (.int .i64 (mode)) rfl rfl (y_mov rfl s733 ⟨rfl, rfl⟩) ?_
          refine wl_call (R := fun v_ w_ => v_ = .tuple #[blkV (predB (FD.mk (0) (0) ([]) ([]) ([])) (p) (x) (y) (mode)), .int .i64 (predE (FD.mk (0) (0) ([]) ([]) ([])) (p) (x) (y) (mode))] ∧ Kept (fun _ => False) w719 w_) rfl rfl (y_cs rfl rfl rfl (fun _ _ => by kernel_rfl) (ev_func _) (vsC rfl (vsC rfl (vsC rfl (vsC rfl (vsC rfl vsN))))) (il_predict (p) (x) (y) (mode) (FD.mk (0) (0) ([]) ([]) ([])) (.slice none 0 0) (.slice none 0 0) (.slice none 0 0) (noB) (noB) (noB) _  (Byt.nil _) (Byt.nil _) (Byt.nil _) ) (fun e_ w_ h_ => ⟨_, h_.1, rfl, h_.2⟩)) ?_
          rintro _ w740 ⟨rfl, k741⟩
          have B742 := B721.all k741 Apart.none
          have B743 := B722.all k741 Apart.none
          have B744 := B723.all k741 Apart.none
          have B745 := B724.all k741 Apart.none
          have B746 := B725.all k741 id
          have B747 := B726.all k741 id
          have K748 := K727.trans k741 (fun _ _ x => x.elim)
          refine wl_v (.tuple #[blkV (predB (FD.mk (0) (0) ([]) ([]) ([])) (p) (x) (y) (mode)), .int .i64 (predE (FD.mk (0) (0) ([]) ([]) ([])) (p) (x) (y) (mode))]) rfl rfl (y_mov rfl rfl ⟨rfl, rfl⟩) ?_
          refine wl_v (blkV (predB (FD.mk (0) (0) ([]) ([]) ([])) (p) (x) (y) (mode))) rfl rfl (y_ext rfl rfl rfl ⟨rfl, rfl⟩) ?_
          refine wl_v (.int .i64 (predE (FD.mk (0) (0) ([]) ([]) ([])) (p) (x) (y) (mode))) rfl rfl (y_ext rfl rfl rfl ⟨rfl, rfl⟩) ?_
          refine wl_alloc_blk rfl rfl rfl blkT_block.2.2 fun p749 w750 e753 B751 k752 => ?_
          have g754 := onB_new (Nat.le_of_eq e753.symm)
          have gr755 : Grew w0 noB (onB p749) := Grew.new K748 g754
          have ap756 : Apart (onB p749) (T_s) := Apart.new g754 (B742).live
          have ap757 : Apart (onB p749) (T48) := Apart.new g754 (B743).live
          have ap758 : Apart (onB p749) (T49) := Apart.new g754 (B744).live
          have ap759 : Apart (onB p749) (T50) := Apart.new g754 (B745).live
          have ap760 : Apart (onB p749) (onB p68) := Apart.new g754 (onB_live (B746).lt)
          have ap761 : Apart (onB p749) (onB p681) := Apart.new g754 (onB_live (B747).lt)
          clear e753 g754
          have B762 := B742.all k752 Apart.none
          have B763 := B743.all k752 Apart.none
          have B764 := B744.all k752 Apart.none
          have B765 := B745.all k752 Apart.none
          have B766 := B746.all k752 id
          have B767 := B747.all k752 id
          have K768 := K748.trans k752 (fun _ _ x => x.elim)
          refine wl_store_blk blkT_block rfl rfl rfl rfl rfl B751 fun w769 B770 k771 => ?_
          have B772 := B762.all k771 (fun i h x => (((ap756).symm) i h x))
          have B773 := B763.all k771 (fun i h x => (((ap757).symm) i h x))
          have B774 := B764.all k771 (fun i h x => (((ap758).symm) i h x))
          have B775 := B765.all k771 (fun i h x => (((ap759).symm) i h x))
          have B776 := B766.all k771 (fun x => (((ap760).symm) p68 rfl x))
          have B777 := B767.all k771 (fun x => (((ap761).symm) p681 rfl x))
          have K778 := K768.trans k771 (Grew.ok (S := fun _ => False) gr755 noB_le)
          refine wl_v (.int .i64 (predE (FD.mk (0) (0) ([]) ([]) ([])) (p) (x) (y) (mode))) rfl rfl (y_asg rfl rfl ⟨rfl, rfl⟩) ?_
          refine wl_nil fun F779 hF780 => ?_
          have s781 : F779 6 = .int .i64 (mode) := (hF780 6).trans s733
          have s782 : F779 113 = undef := (hF780 113).trans s734
          have s783 : F779 15 = .bool true := (hF780 15).trans s735
          have s784 : F779 17 = .bool false := (hF780 17).trans s736
          have s785 : F779 19 = .int .i64 (predE (mkF (w) (h) (l)) (p) (x) (y) (mode)) := (hF780 19).trans s737
          have s786 : F779 20 = .int .i64 ((bestF (mkF (w) (h) (l)) (p) (x) (y) (fun _ => 0)).1) := (hF780 20).trans s738
          have s787 : F779 21 = .int .i64 ((bestF (mkF (w) (h) (l)) (p) (x) (y) (fun _ => 0)).2) := (hF780 21).trans s739
          have s788 : F779 23 = .int .i64 (predE (FD.mk (0) (0) ([]) ([]) ([])) (p) (x) (y) (mode)) := (hF780 23).trans rfl
          clear hF780
          refine then_normal ?_
          refine wq_seq ?_
          refine wq_region ?_
          refine wl_v (.int .i64 (0)) rfl rfl (y_asg rfl rfl ⟨rfl, rfl⟩) ?_
          refine wl_nil fun F789 hF790 => ?_
          have s791 : F789 6 = .int .i64 (mode) := (hF790 6).trans s781
          have s792 : F789 113 = undef := (hF790 113).trans s782
          have s793 : F789 15 = .bool true := (hF790 15).trans s783
          have s794 : F789 17 = .bool false := (hF790 17).trans s784
          have s795 : F789 19 = .int .i64 (predE (mkF (w) (h) (l)) (p) (x) (y) (mode)) := (hF790 19).trans s785
          have s796 : F789 20 = .int .i64 ((bestF (mkF (w) (h) (l)) (p) (x) (y) (fun _ => 0)).1) := (hF790 20).trans s786
          have s797 : F789 21 = .int .i64 ((bestF (mkF (w) (h) (l)) (p) (x) (y) (fun _ => 0)).2) := (hF790 21).trans s787
          have s798 : F789 23 = .int .i64 (predE (FD.mk (0) (0) ([]) ([]) ([])) (p) (x) (y) (mode)) := (hF790 23).trans s788
          have s799 : F789 24 = .int .i64 (0) := (hF790 24).trans rfl
          clear hF790
          refine then_normal ?_
          refine wq_seq ?_
          refine wq_seq ?_
          refine wq_region ?_
          refine wl_v (.bool false) rfl rfl (y_mov rfl s794 ⟨rfl, rfl⟩) ?_
          refine wl_v (.bool true) rfl rfl (y_not rfl rfl rfl ⟨rfl, rfl⟩) ?_
          refine wl_nil fun F800 hF801 => ?_
          have s802 : F800 6 = .int .i64 (mode) := (hF801 6).trans s791
          have s803 : F800 113 = undef := (hF801 113).trans s792
          have s804 : F800 15 = .bool true := (hF801 15).trans s793
          have s805 : F800 17 = .bool false := (hF801 17).trans s794
          have s806 : F800 19 = .int .i64 (predE (mkF (w) (h) (l)) (p) (x) (y) (mode)) := (hF801 19).trans s795
          have s807 : F800 20 = .int .i64 ((bestF (mkF (w) (h) (l)) (p) (x) (y) (fun _ => 0)).1) := (hF801 20).trans s796
          have s808 : F800 21 = .int .i64 ((bestF (mkF (w) (h) (l)) (p) (x) (y) (fun _ => 0)).2) := (hF801 21).trans s797
          have s809 : F800 23 = .int .i64 (predE (FD.mk (0) (0) ([]) ([]) ([])) (p) (x) (y) (mode)) := (hF801 23).trans s798
          have s810 : F800 24 = .int .i64 (0) := (hF801 24).trans s799
          have s811 : F800 84 = .bool true := (hF801 84).trans rfl
          clear hF801
          refine then_normal ?_
          refine wq_cond (t := true) s811 (fun _ => ?_) (fun e => by cases e)
          refine wq_region ?_
          refine wl_v (.int .i64 (70)) rfl rfl (y_asg rfl rfl ⟨rfl, rfl⟩) ?_
          refine wl_nil fun F812 hF813 => ?_
          have s814 : F812 113 = undef := (hF813 113).trans s803
          have s815 : F812 15 = .bool true := (hF813 15).trans s804
          have s816 : F812 17 = .bool false := (hF813 17).trans s805
          have s817 : F812 19 = .int .i64 (predE (mkF (w) (h) (l)) (p) (x) (y) (mode)) := (hF813 19).trans s806
          have s818 : F812 20 = .int .i64 ((bestF (mkF (w) (h) (l)) (p) (x) (y) (fun _ => 0)).1) := (hF813 20).trans s807
          have s819 : F812 21 = .int .i64 ((bestF (mkF (w) (h) (l)) (p) (x) (y) (fun _ => 0)).2) := (hF813 21).trans s808
          have s820 : F812 23 = .int .i64 (predE (FD.mk (0) (0) ([]) ([]) ([])) (p) (x) (y) (mode)) := (hF813 23).trans s809
          have s821 : F812 24 = .int .i64 (70) := (hF813 24).trans rfl
          clear hF813
          refine then_normal ?_
          refine wq_seq ?_
          refine wq_region ?_
          refine wl_v (.bool true) rfl rfl (y_mov rfl s815 ⟨rfl, rfl⟩) ?_
          refine wl_v (.bool true) rfl rfl (y_mov rfl rfl ⟨rfl, rfl⟩) ?_
          refine wl_vw (.int .i64 (predE (mkF (w) (h) (l)) (p) (x) (y) (mode))) 1 true 92 rfl rfl rfl rfl rfl (y_mov rfl s817 ⟨rfl, rfl⟩) ?_
          refine wl_vw (.int .i64 (70)) 1 true 92 rfl rfl rfl rfl rfl (y_mov rfl s821 ⟨rfl, rfl⟩) ?_
          refine wl_vw (.bool true) 1 true 92 rfl rfl rfl rfl rfl (y_eqlI rfl rfl rfl (decide_eq_true (by first | exact (pred_no (by rintro ⟨_, h1, h2, h3, h4, h5, h6⟩; omega)).1 | exact (pred_none ⟨mkF_ok w h l, by omega, by omega, by omega, by omega, by omega, by omega⟩ (by omega)).1 | exact (pred_yes ⟨mkF_ok w h l, by omega, by omega, by omega, by omega, by omega, by omega⟩ (by omega)).1)) ⟨rfl, rfl⟩) ?_
          refine wl_v (.bool true) rfl rfl (y_pickT rfl rfl rfl ⟨rfl, rfl⟩) ?_
          refine wl_v (.bool true) rfl rfl (y_mov rfl rfl ⟨rfl, rfl⟩) ?_
          refine wl_vw (.int .i64 (predE (FD.mk (0) (0) ([]) ([]) ([])) (p) (x) (y) (mode))) 6 true 97 rfl rfl rfl rfl rfl (y_mov rfl s820 ⟨rfl, rfl⟩) ?_
          refine wl_vw (.bool true) 6 true 97 rfl rfl rfl rfl rfl (y_eqlI rfl rfl rfl (decide_eq_true (pred_no (none_place _ _ _)).1) ⟨rfl, rfl⟩) ?_
          refine wl_v (.bool true) rfl rfl (y_pickT rfl rfl rfl ⟨rfl, rfl⟩) ?_
          refine wl_v (.bool true) rfl rfl (y_mov rfl rfl ⟨rfl, rfl⟩) ?_
          refine wl_vw (.int .i64 ((bestF (mkF (w) (h) (l)) (p) (x) (y) (fun _ => 0)).1)) 10 true 101 rfl rfl rfl rfl rfl (y_mov rfl s818 ⟨rfl, rfl⟩) ?_
          refine wl_vw (.bool (decide ((0) ≤ ((bestF (mkF (w) (h) (l)) (p) (x) (y) (fun _ => 0)).1)))) 10 true 101 rfl rfl rfl rfl rfl (y_geq rfl rfl rfl rfl ⟨rfl, rfl⟩) ?_
          refine wl_vw (.bool false) 10 true 101 rfl rfl rfl rfl rfl (y_mov rfl s816 ⟨rfl, rfl⟩) ?_
          refine wl_vw (.bool true) 10 true 101 rfl rfl rfl rfl rfl (y_eqlB rfl rfl rfl Try.underlying4 ((by first | (rw [decide_eq_true ((best_sign _ _ _ _ _).1 ⟨mkF_ok w h l, by omega, by omega, by omega, by omega, by omega, by omega⟩).1]; rfl) | (rw [decide_eq_false ((best_sign _ _ _ _ _).2 (by rintro ⟨_, h1, h2, h3, h4, h5, h6⟩; omega)).1]; rfl))) ⟨rfl, rfl⟩) ?_
          refine wl_v (.bool true) rfl rfl (y_pickT rfl rfl rfl ⟨rfl, rfl⟩) ?_
          refine wl_v (.bool true) rfl rfl (y_mov rfl rfl ⟨rfl, rfl⟩) ?_
          refine wl_vw (.int .i64 ((bestF (mkF (w) (h) (l)) (p) (x) (y) (fun _ => 0)).2)) 16 true 107 rfl rfl rfl rfl rfl (y_mov rfl s819 ⟨rfl, rfl⟩) ?_
          refine wl_vw (.bool (decide ((0) ≤ ((bestF (mkF (w) (h) (l)) (p) (x) (y) (fun _ => 0)).2)))) 16 true 107 rfl rfl rfl rfl rfl (y_geq rfl rfl rfl rfl ⟨rfl, rfl⟩) ?_
          refine wl_vw (.bool false) 16 true 107 rfl rfl rfl rfl rfl (y_mov rfl s816 ⟨rfl, rfl⟩) ?_
          refine wl_vw (.bool true) 16 true 107 rfl rfl rfl rfl rfl (y_eqlB rfl rfl rfl Try.underlying4 ((by first | (rw [decide_eq_true ((best_sign _ _ _ _ _).1 ⟨mkF_ok w h l, by omega, by omega, by omega, by omega, by omega, by omega⟩).2]; rfl) | (rw [decide_eq_false ((best_sign _ _ _ _ _).2 (by rintro ⟨_, h1, h2, h3, h4, h5, h6⟩; omega)).2]; rfl))) ⟨rfl, rfl⟩) ?_
          refine wl_v (.bool true) rfl rfl (y_pickT rfl rfl rfl ⟨rfl, rfl⟩) ?_
          refine wl_v (.bool true) rfl rfl (y_asg rfl rfl ⟨rfl, rfl⟩) ?_
          refine wl_nil fun F822 hF823 => ?_
          have s824 : F822 113 = undef := (hF823 113).trans s814
          have s825 : F822 14 = .bool true := (hF823 14).trans rfl
          clear hF823
          refine then_normal ?_
          refine wq_ret ?_
          exact end_tmp (v := .bool true) s824 rfl rfl s825 ⟨rfl, K778⟩
      · skip
        refine wq_region ?_
        refine wl_v (.int .i64 (p)) rfl rfl (y_mov rfl s93 ⟨rfl, rfl⟩) ?_
        refine wl_v (.bool true) rfl rfl (y_geq rfl rfl rfl (decide_eq_true d100) ⟨rfl, rfl⟩) ?_
        refine wl_v (.bool true) rfl rfl (y_mov rfl rfl ⟨rfl, rfl⟩) ?_
        refine wl_vw (.int .i64 (p)) 2 true 36 rfl rfl rfl rfl rfl (y_mov rfl s93 ⟨rfl, rfl⟩) ?_
        refine wl_vw (.bool false) 2 true 36 rfl rfl rfl rfl rfl (y_leq rfl rfl rfl (decide_eq_false d101) ⟨rfl, rfl⟩) ?_
        refine wl_v (.bool false) rfl rfl (y_pickT rfl rfl rfl ⟨rfl, rfl⟩) ?_
        refine wl_v (.bool false) rfl rfl (y_mov rfl rfl ⟨rfl, rfl⟩) ?_
        refine wl_unless 6 true 40 rfl rfl rfl (Or.inl rfl) rfl ?_
        refine wl_unless 6 true 40 rfl rfl rfl (Or.inl rfl) rfl ?_
        refine wl_v (.bool false) rfl rfl (y_pickF rfl rfl rfl ⟨rfl, rfl⟩) ?_
        refine wl_v (.bool false) rfl rfl (y_mov rfl rfl ⟨rfl, rfl⟩) ?_
        refine wl_unless 10 true 44 rfl rfl rfl (Or.inl rfl) rfl ?_
        refine wl_unless 10 true 44 rfl rfl rfl (Or.inl rfl) rfl ?_
        refine wl_v (.bool false) rfl rfl (y_pickF rfl rfl rfl ⟨rfl, rfl⟩) ?_
        refine wl_v (.bool false) rfl rfl (y_mov rfl rfl ⟨rfl, rfl⟩) ?_
        refine wl_unless 14 true 48 rfl rfl rfl (Or.inl rfl) rfl ?_
        refine wl_unless 14 true 48 rfl rfl rfl (Or.inl rfl) rfl ?_
        refine wl_v (.bool false) rfl rfl (y_pickF rfl rfl rfl ⟨rfl, rfl⟩) ?_
        refine wl_v (.bool false) rfl rfl (y_mov rfl rfl ⟨rfl, rfl⟩) ?_
        refine wl_unless 18 true 52 rfl rfl rfl (Or.inl rfl) rfl ?_
        refine wl_unless 18 true 52 rfl rfl rfl (Or.inl rfl) rfl ?_
        refine wl_v (.bool false) rfl rfl (y_pickF rfl rfl rfl ⟨rfl, rfl⟩) ?_
        refine wl_v (.bool false) rfl rfl (y_asg rfl rfl ⟨rfl, rfl⟩) ?_
        refine wl_nil fun F826 hF827 => ?_
        have s828 : F826 3 = .int .i64 (p) := (hF827 3).trans s93
        have s829 : F826 4 = .int .i64 (x) := (hF827 4).trans s94
        have s830 : F826 5 = .int .i64 (y) := (hF827 5).trans s95
        have s831 : F826 6 = .int .i64 (mode) := (hF827 6).trans s96
        have s832 : F826 113 = undef := (hF827 113).trans s97
        have s833 : F826 15 = .bool true := (hF827 15).trans s98
        have s834 : F826 16 = .pointer (some ⟨p68, 0, none⟩) := (hF827 16).trans s99
        have s835 : F826 17 = .bool false := (hF827 17).trans rfl
        clear hF827
        refine then_normal ?_
        refine wq_seq ?_
        refine wq_region ?_
        refine wl_v (.agg #[.int .i64 ((mkF (w) (h) (l)).W), .int .i64 ((mkF (w) (h) (l)).H), v43, v44, v45]) rfl rfl (y_load_stc stcT_frame rfl s834 B84 ⟨rfl, rfl⟩) ?_
        refine wl_v (.int .i64 (p)) rfl rfl (y_mov rfl s828 ⟨rfl, rfl⟩) ?_
        refine wl_v (.int .i64 (x)) rfl rfl (y_mov rfl s829 ⟨rfl, rfl⟩) ?_
        refine wl_v (.int .i64 (y)) rfl rfl (y_mov rfl s830 ⟨rfl, rfl⟩) ?_
        refine wl_v (.int .i64 (mode)) rfl rfl (y_mov rfl s831 ⟨rfl, rfl⟩) ?_
        refine wl_call (R := fun v_ w_ => v_ = .tuple #[blkV (predB (mkF (w) (h) (l)) (p) (x) (y) (mode)), .int .i64 (predE (mkF (w) (h) (l)) (p) (x) (y) (mode))] ∧ Kept (fun _ => False) w83 w_) rfl rfl (y_cs rfl rfl rfl (fun _ _ => by kernel_rfl) (ev_func _) (vsC rfl (vsC rfl (vsC rfl (vsC rfl (vsC rfl vsN))))) (il_predict (p) (x) (y) (mode) (mkF (w) (h) (l)) (v43) (v44) (v45) (T48) (T49) (T50) _  (B87).byt (B88).byt (B89).byt ) (fun e_ w_ h_ => ⟨_, h_.1, rfl, h_.2⟩)) ?_
        rintro _ w836 ⟨rfl, k837⟩
        have B838 := B86.all k837 Apart.none
        have B839 := B87.all k837 Apart.none
        have B840 := B88.all k837 Apart.none
        have B841 := B89.all k837 Apart.none
        have B842 := B84.all k837 id
        have K843 := K90.trans k837 (fun _ _ x => x.elim)
        refine wl_v (.tuple #[blkV (predB (mkF (w) (h) (l)) (p) (x) (y) (mode)), .int .i64 (predE (mkF (w) (h) (l)) (p) (x) (y) (mode))]) rfl rfl (y_mov rfl rfl ⟨rfl, rfl⟩) ?_
        refine wl_v (blkV (predB (mkF (w) (h) (l)) (p) (x) (y) (mode))) rfl rfl (y_ext rfl rfl rfl ⟨rfl, rfl⟩) ?_
        refine wl_v (.int .i64 (predE (mkF (w) (h) (l)) (p) (x) (y) (mode))) rfl rfl (y_ext rfl rfl rfl ⟨rfl, rfl⟩) ?_
        refine wl_alloc_blk rfl rfl rfl blkT_block.2.2 fun p844 w845 e848 B846 k847 => ?_
        have g849 := onB_new (Nat.le_of_eq e848.symm)
        have gr850 : Grew w0 noB (onB p844) := Grew.new K843 g849
        have ap851 : Apart (onB p844) (T_s) := Apart.new g849 (B838).live
        have ap852 : Apart (onB p844) (T48) := Apart.new g849 (B839).live
        have ap853 : Apart (onB p844) (T49) := Apart.new g849 (B840).live
        have ap854 : Apart (onB p844) (T50) := Apart.new g849 (B841).live
        have ap855 : Apart (onB p844) (onB p68) := Apart.new g849 (onB_live (B842).lt)
        clear e848 g849
        have B856 := B838.all k847 Apart.none
        have B857 := B839.all k847 Apart.none
        have B858 := B840.all k847 Apart.none
        have B859 := B841.all k847 Apart.none
        have B860 := B842.all k847 id
        have K861 := K843.trans k847 (fun _ _ x => x.elim)
        refine wl_store_blk blkT_block rfl rfl rfl rfl rfl B846 fun w862 B863 k864 => ?_
        have B865 := B856.all k864 (fun i h x => (((ap851).symm) i h x))
        have B866 := B857.all k864 (fun i h x => (((ap852).symm) i h x))
        have B867 := B858.all k864 (fun i h x => (((ap853).symm) i h x))
        have B868 := B859.all k864 (fun i h x => (((ap854).symm) i h x))
        have B869 := B860.all k864 (fun x => (((ap855).symm) p68 rfl x))
        have K870 := K861.trans k864 (Grew.ok (S := fun _ => False) gr850 noB_le)
        refine wl_v (.int .i64 (predE (mkF (w) (h) (l)) (p) (x) (y) (mode))) rfl rfl (y_asg rfl rfl ⟨rfl, rfl⟩) ?_
        refine wl_nil fun F871 hF872 => ?_
        have s873 : F871 3 = .int .i64 (p) := (hF872 3).trans s828
        have s874 : F871 4 = .int .i64 (x) := (hF872 4).trans s829
        have s875 : F871 5 = .int .i64 (y) := (hF872 5).trans s830
        have s876 : F871 6 = .int .i64 (mode) := (hF872 6).trans s831
        have s877 : F871 113 = undef := (hF872 113).trans s832
        have s878 : F871 15 = .bool true := (hF872 15).trans s833
        have s879 : F871 16 = .pointer (some ⟨p68, 0, none⟩) := (hF872 16).trans s834
        have s880 : F871 17 = .bool false := (hF872 17).trans s835
        have s881 : F871 19 = .int .i64 (predE (mkF (w) (h) (l)) (p) (x) (y) (mode)) := (hF872 19).trans rfl
        clear hF872
        refine then_normal ?_
        refine wq_seq ?_
        refine wq_region ?_
        refine wl_v (.agg #[.int .i64 ((mkF (w) (h) (l)).W), .int .i64 ((mkF (w) (h) (l)).H), v43, v44, v45]) rfl rfl (y_load_stc stcT_frame rfl s879 B869 ⟨rfl, rfl⟩) ?_
        refine wl_v (.int .i64 (p)) rfl rfl (y_mov rfl s873 ⟨rfl, rfl⟩) ?_
        refine wl_v (.int .i64 (x)) rfl rfl (y_mov rfl s874 ⟨rfl, rfl⟩) ?_
        refine wl_v (.int .i64 (y)) rfl rfl (y_mov rfl s875 ⟨rfl, rfl⟩) ?_
        refine wl_v (blkV (fun _ => 0)) rfl rfl (y_buildR (cells := (arrL 16 (fun _ => 0)).toArray) rfl (by kernel_rfl) rfl ⟨rfl, rfl⟩) ?_
        refine wl_call (R := fun v_ w_ => v_ = .tuple #[.int .i64 ((bestF (mkF (w) (h) (l)) (p) (x) (y) (fun _ => 0)).1), .int .i64 ((bestF (mkF (w) (h) (l)) (p) (x) (y) (fun _ => 0)).2)] ∧ Kept (fun _ => False) w862 w_) rfl rfl (y_cs rfl rfl rfl (fun _ _ => by kernel_rfl) (ev_func _) (vsC rfl (vsC rfl (vsC rfl (vsC rfl (vsC rfl vsN))))) (il_best (p) (x) (y) (fun _ => 0) (mkF (w) (h) (l)) (v43) (v44) (v45) (T48) (T49) (T50) _  (B866).byt (B867).byt (B868).byt ) (fun e_ w_ h_ => ⟨_, h_.1, rfl, h_.2⟩)) ?_
        rintro _ w882 ⟨rfl, k883⟩
        have B884 := B865.all k883 Apart.none
        have B885 := B866.all k883 Apart.none
        have B886 := B867.all k883 Apart.none
        have B887 := B868.all k883 Apart.none
        have B888 := B869.all k883 id
        have B889 := B863.all k883 id
        have K890 := K870.trans k883 (fun _ _ x => x.elim)
        refine wl_v (.tuple #[.int .i64 ((bestF (mkF (w) (h) (l)) (p) (x) (y) (fun _ => 0)).1), .int .i64 ((bestF (mkF (w) (h) (l)) (p) (x) (y) (fun _ => 0)).2)]) rfl rfl (y_mov rfl rfl ⟨rfl, rfl⟩) ?_
        refine wl_v (.int .i64 ((bestF (mkF (w) (h) (l)) (p) (x) (y) (fun _ => 0)).1)) rfl rfl (y_ext rfl rfl rfl ⟨rfl, rfl⟩) ?_
        refine wl_v (.int .i64 ((bestF (mkF (w) (h) (l)) (p) (x) (y) (fun _ => 0)).2)) rfl rfl (y_ext rfl rfl rfl ⟨rfl, rfl⟩) ?_
        refine wl_v (.int .i64 ((bestF (mkF (w) (h) (l)) (p) (x) (y) (fun _ => 0)).1)) rfl rfl (y_asg rfl rfl ⟨rfl, rfl⟩) ?_
        refine wl_v (.int .i64 ((bestF (mkF (w) (h) (l)) (p) (x) (y) (fun _ => 0)).2)) rfl rfl (y_asg rfl rfl ⟨rfl, rfl⟩) ?_
        refine wl_nil fun F891 hF892 => ?_
        have s893 : F891 3 = .int .i64 (p) := (hF892 3).trans s873
        have s894 : F891 4 = .int .i64 (x) := (hF892 4).trans s874
        have s895 : F891 5 = .int .i64 (y) := (hF892 5).trans s875
        have s896 : F891 6 = .int .i64 (mode) := (hF892 6).trans s876
        have s897 : F891 113 = undef := (hF892 113).trans s877
        have s898 : F891 15 = .bool true := (hF892 15).trans s878
        have s899 : F891 17 = .bool false := (hF892 17).trans s880
        have s900 : F891 19 = .int .i64 (predE (mkF (w) (h) (l)) (p) (x) (y) (mode)) := (hF892 19).trans s881
        have s901 : F891 20 = .int .i64 ((bestF (mkF (w) (h) (l)) (p) (x) (y) (fun _ => 0)).1) := (hF892 20).trans rfl
        have s902 : F891 21 = .int .i64 ((bestF (mkF (w) (h) (l)) (p) (x) (y) (fun _ => 0)).2) := (hF892 21).trans rfl
        clear hF892
        refine then_normal ?_
        refine wq_seq ?_
        refine wq_region ?_
        refine wl_v (.agg #[.int .i64 (0), .int .i64 (0), .slice none 0 0, .slice none 0 0, .slice none 0 0]) rfl rfl (y_buildL (l' := []) (cells := #[.int .i64 (0), .int .i64 (0), .slice none 0 0, .slice none 0 0, .slice none 0 0]) rfl bpN (by kernel_rfl) rfl ⟨rfl, rfl⟩) ?_
        refine wl_v (.int .i64 (p)) rfl rfl (y_mov rfl s893 ⟨rfl, rfl⟩) ?_
        refine wl_v (.int .i64 (x)) rfl rfl (y_mov rfl s894 ⟨rfl, rfl⟩) ?_
        refine wl_v (.int .i64 (y)) rfl rfl (y_mov rfl s895 ⟨rfl, rfl⟩) ?_
        refine wl_v (.int .i64 (mode)) rfl rfl (y_mov rfl s896 ⟨rfl, rfl⟩) ?_
        refine wl_call (R := fun v_ w_ => v_ = .tuple #[blkV (predB (FD.mk (0) (0) ([]) ([]) ([])) (p) (x) (y) (mode)), .int .i64 (predE (FD.mk (0) (0) ([]) ([]) ([])) (p) (x) (y) (mode))] ∧ Kept (fun _ => False) w882 w_) rfl rfl (y_cs rfl rfl rfl (fun _ _ => by kernel_rfl) (ev_func _) (vsC rfl (vsC rfl (vsC rfl (vsC rfl (vsC rfl vsN))))) (il_predict (p) (x) (y) (mode) (FD.mk (0) (0) ([]) ([]) ([])) (.slice none 0 0) (.slice none 0 0) (.slice none 0 0) (noB) (noB) (noB) _  (Byt.nil _) (Byt.nil _) (Byt.nil _) ) (fun e_ w_ h_ => ⟨_, h_.1, rfl, h_.2⟩)) ?_
        rintro _ w903 ⟨rfl, k904⟩
        have B905 := B884.all k904 Apart.none
        have B906 := B885.all k904 Apart.none
        have B907 := B886.all k904 Apart.none
        have B908 := B887.all k904 Apart.none
        have B909 := B888.all k904 id
        have B910 := B889.all k904 id
        have K911 := K890.trans k904 (fun _ _ x => x.elim)
        refine wl_v (.tuple #[blkV (predB (FD.mk (0) (0) ([]) ([]) ([])) (p) (x) (y) (mode)), .int .i64 (predE (FD.mk (0) (0) ([]) ([]) ([])) (p) (x) (y) (mode))]) rfl rfl (y_mov rfl rfl ⟨rfl, rfl⟩) ?_
        refine wl_v (blkV (predB (FD.mk (0) (0) ([]) ([]) ([])) (p) (x) (y) (mode))) rfl rfl (y_ext rfl rfl rfl ⟨rfl, rfl⟩) ?_
        refine wl_v (.int .i64 (predE (FD.mk (0) (0) ([]) ([]) ([])) (p) (x) (y) (mode))) rfl rfl (y_ext rfl rfl rfl ⟨rfl, rfl⟩) ?_
        refine wl_alloc_blk rfl rfl rfl blkT_block.2.2 fun p912 w913 e916 B914 k915 => ?_
        have g917 := onB_new (Nat.le_of_eq e916.symm)
        have gr918 : Grew w0 noB (onB p912) := Grew.new K911 g917
        have ap919 : Apart (onB p912) (T_s) := Apart.new g917 (B905).live
        have ap920 : Apart (onB p912) (T48) := Apart.new g917 (B906).live
        have ap921 : Apart (onB p912) (T49) := Apart.new g917 (B907).live
        have ap922 : Apart (onB p912) (T50) := Apart.new g917 (B908).live
        have ap923 : Apart (onB p912) (onB p68) := Apart.new g917 (onB_live (B909).lt)
        have ap924 : Apart (onB p912) (onB p844) := Apart.new g917 (onB_live (B910).lt)
        clear e916 g917
        have B925 := B905.all k915 Apart.none
        have B926 := B906.all k915 Apart.none
        have B927 := B907.all k915 Apart.none
        have B928 := B908.all k915 Apart.none
        have B929 := B909.all k915 id
        have B930 := B910.all k915 id
        have K931 := K911.trans k915 (fun _ _ x => x.elim)
        refine wl_store_blk blkT_block rfl rfl rfl rfl rfl B914 fun w932 B933 k934 => ?_
        have B935 := B925.all k934 (fun i h x => (((ap919).symm) i h x))
        have B936 := B926.all k934 (fun i h x => (((ap920).symm) i h x))
        have B937 := B927.all k934 (fun i h x => (((ap921).symm) i h x))
        have B938 := B928.all k934 (fun i h x => (((ap922).symm) i h x))
        have B939 := B929.all k934 (fun x => (((ap923).symm) p68 rfl x))
        have B940 := B930.all k934 (fun x => (((ap924).symm) p844 rfl x))
        have K941 := K931.trans k934 (Grew.ok (S := fun _ => False) gr918 noB_le)
        refine wl_v (.int .i64 (predE (FD.mk (0) (0) ([]) ([]) ([])) (p) (x) (y) (mode))) rfl rfl (y_asg rfl rfl ⟨rfl, rfl⟩) ?_
        refine wl_nil fun F942 hF943 => ?_
        have s944 : F942 6 = .int .i64 (mode) := (hF943 6).trans s896
        have s945 : F942 113 = undef := (hF943 113).trans s897
        have s946 : F942 15 = .bool true := (hF943 15).trans s898
        have s947 : F942 17 = .bool false := (hF943 17).trans s899
        have s948 : F942 19 = .int .i64 (predE (mkF (w) (h) (l)) (p) (x) (y) (mode)) := (hF943 19).trans s900
        have s949 : F942 20 = .int .i64 ((bestF (mkF (w) (h) (l)) (p) (x) (y) (fun _ => 0)).1) := (hF943 20).trans s901
        have s950 : F942 21 = .int .i64 ((bestF (mkF (w) (h) (l)) (p) (x) (y) (fun _ => 0)).2) := (hF943 21).trans s902
        have s951 : F942 23 = .int .i64 (predE (FD.mk (0) (0) ([]) ([]) ([])) (p) (x) (y) (mode)) := (hF943 23).trans rfl
        clear hF943
        refine then_normal ?_
        refine wq_seq ?_
        refine wq_region ?_
        refine wl_v (.int .i64 (0)) rfl rfl (y_asg rfl rfl ⟨rfl, rfl⟩) ?_
        refine wl_nil fun F952 hF953 => ?_
        have s954 : F952 6 = .int .i64 (mode) := (hF953 6).trans s944
        have s955 : F952 113 = undef := (hF953 113).trans s945
        have s956 : F952 15 = .bool true := (hF953 15).trans s946
        have s957 : F952 17 = .bool false := (hF953 17).trans s947
        have s958 : F952 19 = .int .i64 (predE (mkF (w) (h) (l)) (p) (x) (y) (mode)) := (hF953 19).trans s948
        have s959 : F952 20 = .int .i64 ((bestF (mkF (w) (h) (l)) (p) (x) (y) (fun _ => 0)).1) := (hF953 20).trans s949
        have s960 : F952 21 = .int .i64 ((bestF (mkF (w) (h) (l)) (p) (x) (y) (fun _ => 0)).2) := (hF953 21).trans s950
        have s961 : F952 23 = .int .i64 (predE (FD.mk (0) (0) ([]) ([]) ([])) (p) (x) (y) (mode)) := (hF953 23).trans s951
        have s962 : F952 24 = .int .i64 (0) := (hF953 24).trans rfl
        clear hF953
        refine then_normal ?_
        refine wq_seq ?_
        refine wq_seq ?_
        refine wq_region ?_
        refine wl_v (.bool false) rfl rfl (y_mov rfl s957 ⟨rfl, rfl⟩) ?_
        refine wl_v (.bool true) rfl rfl (y_not rfl rfl rfl ⟨rfl, rfl⟩) ?_
        refine wl_nil fun F963 hF964 => ?_
        have s965 : F963 6 = .int .i64 (mode) := (hF964 6).trans s954
        have s966 : F963 113 = undef := (hF964 113).trans s955
        have s967 : F963 15 = .bool true := (hF964 15).trans s956
        have s968 : F963 17 = .bool false := (hF964 17).trans s957
        have s969 : F963 19 = .int .i64 (predE (mkF (w) (h) (l)) (p) (x) (y) (mode)) := (hF964 19).trans s958
        have s970 : F963 20 = .int .i64 ((bestF (mkF (w) (h) (l)) (p) (x) (y) (fun _ => 0)).1) := (hF964 20).trans s959
        have s971 : F963 21 = .int .i64 ((bestF (mkF (w) (h) (l)) (p) (x) (y) (fun _ => 0)).2) := (hF964 21).trans s960
        have s972 : F963 23 = .int .i64 (predE (FD.mk (0) (0) ([]) ([]) ([])) (p) (x) (y) (mode)) := (hF964 23).trans s961
        have s973 : F963 24 = .int .i64 (0) := (hF964 24).trans s962
        have s974 : F963 84 = .bool true := (hF964 84).trans rfl
        clear hF964
        refine then_normal ?_
        refine wq_cond (t := true) s974 (fun _ => ?_) (fun e => by cases e)
        refine wq_region ?_
        refine wl_v (.int .i64 (70)) rfl rfl (y_asg rfl rfl ⟨rfl, rfl⟩) ?_
        refine wl_nil fun F975 hF976 => ?_
        have s977 : F975 113 = undef := (hF976 113).trans s966
        have s978 : F975 15 = .bool true := (hF976 15).trans s967
        have s979 : F975 17 = .bool false := (hF976 17).trans s968
        have s980 : F975 19 = .int .i64 (predE (mkF (w) (h) (l)) (p) (x) (y) (mode)) := (hF976 19).trans s969
        have s981 : F975 20 = .int .i64 ((bestF (mkF (w) (h) (l)) (p) (x) (y) (fun _ => 0)).1) := (hF976 20).trans s970
        have s982 : F975 21 = .int .i64 ((bestF (mkF (w) (h) (l)) (p) (x) (y) (fun _ => 0)).2) := (hF976 21).trans s971
        have s983 : F975 23 = .int .i64 (predE (FD.mk (0) (0) ([]) ([]) ([])) (p) (x) (y) (mode)) := (hF976 23).trans s972
        have s984 : F975 24 = .int .i64 (70) := (hF976 24).trans rfl
        clear hF976
        refine then_normal ?_
        refine wq_seq ?_
        refine wq_region ?_
        refine wl_v (.bool true) rfl rfl (y_mov rfl s978 ⟨rfl, rfl⟩) ?_
        refine wl_v (.bool true) rfl rfl (y_mov rfl rfl ⟨rfl, rfl⟩) ?_
        refine wl_vw (.int .i64 (predE (mkF (w) (h) (l)) (p) (x) (y) (mode))) 1 true 92 rfl rfl rfl rfl rfl (y_mov rfl s980 ⟨rfl, rfl⟩) ?_
        refine wl_vw (.int .i64 (70)) 1 true 92 rfl rfl rfl rfl rfl (y_mov rfl s984 ⟨rfl, rfl⟩) ?_
        refine wl_vw (.bool true) 1 true 92 rfl rfl rfl rfl rfl (y_eqlI rfl rfl rfl (decide_eq_true (by first | exact (pred_no (by rintro ⟨_, h1, h2, h3, h4, h5, h6⟩; omega)).1 | exact (pred_none ⟨mkF_ok w h l, by omega, by omega, by omega, by omega, by omega, by omega⟩ (by omega)).1 | exact (pred_yes ⟨mkF_ok w h l, by omega, by omega, by omega, by omega, by omega, by omega⟩ (by omega)).1)) ⟨rfl, rfl⟩) ?_
        refine wl_v (.bool true) rfl rfl (y_pickT rfl rfl rfl ⟨rfl, rfl⟩) ?_
        refine wl_v (.bool true) rfl rfl (y_mov rfl rfl ⟨rfl, rfl⟩) ?_
        refine wl_vw (.int .i64 (predE (FD.mk (0) (0) ([]) ([]) ([])) (p) (x) (y) (mode))) 6 true 97 rfl rfl rfl rfl rfl (y_mov rfl s983 ⟨rfl, rfl⟩) ?_
        refine wl_vw (.bool true) 6 true 97 rfl rfl rfl rfl rfl (y_eqlI rfl rfl rfl (decide_eq_true (pred_no (none_place _ _ _)).1) ⟨rfl, rfl⟩) ?_
        refine wl_v (.bool true) rfl rfl (y_pickT rfl rfl rfl ⟨rfl, rfl⟩) ?_
        refine wl_v (.bool true) rfl rfl (y_mov rfl rfl ⟨rfl, rfl⟩) ?_
        refine wl_vw (.int .i64 ((bestF (mkF (w) (h) (l)) (p) (x) (y) (fun _ => 0)).1)) 10 true 101 rfl rfl rfl rfl rfl (y_mov rfl s981 ⟨rfl, rfl⟩) ?_
        refine wl_vw (.bool (decide ((0) ≤ ((bestF (mkF (w) (h) (l)) (p) (x) (y) (fun _ => 0)).1)))) 10 true 101 rfl rfl rfl rfl rfl (y_geq rfl rfl rfl rfl ⟨rfl, rfl⟩) ?_
        refine wl_vw (.bool false) 10 true 101 rfl rfl rfl rfl rfl (y_mov rfl s979 ⟨rfl, rfl⟩) ?_
        refine wl_vw (.bool true) 10 true 101 rfl rfl rfl rfl rfl (y_eqlB rfl rfl rfl Try.underlying4 ((by first | (rw [decide_eq_true ((best_sign _ _ _ _ _).1 ⟨mkF_ok w h l, by omega, by omega, by omega, by omega, by omega, by omega⟩).1]; rfl) | (rw [decide_eq_false ((best_sign _ _ _ _ _).2 (by rintro ⟨_, h1, h2, h3, h4, h5, h6⟩; omega)).1]; rfl))) ⟨rfl, rfl⟩) ?_
        refine wl_v (.bool true) rfl rfl (y_pickT rfl rfl rfl ⟨rfl, rfl⟩) ?_
        refine wl_v (.bool true) rfl rfl (y_mov rfl rfl ⟨rfl, rfl⟩) ?_
        refine wl_vw (.int .i64 ((bestF (mkF (w) (h) (l)) (p) (x) (y) (fun _ => 0)).2)) 16 true 107 rfl rfl rfl rfl rfl (y_mov rfl s982 ⟨rfl, rfl⟩) ?_
        refine wl_vw (.bool (decide ((0) ≤ ((bestF (mkF (w) (h) (l)) (p) (x) (y) (fun _ => 0)).2)))) 16 true 107 rfl rfl rfl rfl rfl (y_geq rfl rfl rfl rfl ⟨rfl, rfl⟩) ?_
        refine wl_vw (.bool false) 16 true 107 rfl rfl rfl rfl rfl (y_mov rfl s979 ⟨rfl, rfl⟩) ?_
        refine wl_vw (.bool true) 16 true 107 rfl rfl rfl rfl rfl (y_eqlB rfl rfl rfl Try.underlying4 ((by first | (rw [decide_eq_true ((best_sign _ _ _ _ _).1 ⟨mkF_ok w h l, by omega, by omega, by omega, by omega, by omega, by omega⟩).2]; rfl) | (rw [decide_eq_false ((best_sign _ _ _ _ _).2 (by rintro ⟨_, h1, h2, h3, h4, h5, h6⟩; omega)).2]; rfl))) ⟨rfl, rfl⟩) ?_
        refine wl_v (.bool true) rfl rfl (y_pickT rfl rfl rfl ⟨rfl, rfl⟩) ?_
        refine wl_v (.bool true) rfl rfl (y_asg rfl rfl ⟨rfl, rfl⟩) ?_
        refine wl_nil fun F985 hF986 => ?_
        have s987 : F985 113 = undef := (hF986 113).trans s977
        have s988 : F985 14 = .bool true := (hF986 14).trans rfl
        clear hF986
        refine then_normal ?_
        refine wq_ret ?_
        exact end_tmp (v := .bool true) s987 rfl rfl s988 ⟨rfl, K941⟩
    · skip
      refine wq_region ?_
      refine wl_v (.int .i64 (p)) rfl rfl (y_mov rfl s93 ⟨rfl, rfl⟩) ?_
      refine wl_v (.bool false) rfl rfl (y_geq rfl rfl rfl (decide_eq_false d100) ⟨rfl, rfl⟩) ?_
      refine wl_v (.bool false) rfl rfl (y_mov rfl rfl ⟨rfl, rfl⟩) ?_
      refine wl_unless 2 true 36 rfl rfl rfl (Or.inl rfl) rfl ?_
      refine wl_unless 2 true 36 rfl rfl rfl (Or.inl rfl) rfl ?_
      refine wl_v (.bool false) rfl rfl (y_pickF rfl rfl rfl ⟨rfl, rfl⟩) ?_
      refine wl_v (.bool false) rfl rfl (y_mov rfl rfl ⟨rfl, rfl⟩) ?_
      refine wl_unless 6 true 40 rfl rfl rfl (Or.inl rfl) rfl ?_
      refine wl_unless 6 true 40 rfl rfl rfl (Or.inl rfl) rfl ?_
      refine wl_v (.bool false) rfl rfl (y_pickF rfl rfl rfl ⟨rfl, rfl⟩) ?_
      refine wl_v (.bool false) rfl rfl (y_mov rfl rfl ⟨rfl, rfl⟩) ?_
      refine wl_unless 10 true 44 rfl rfl rfl (Or.inl rfl) rfl ?_
      refine wl_unless 10 true 44 rfl rfl rfl (Or.inl rfl) rfl ?_
      refine wl_v (.bool false) rfl rfl (y_pickF rfl rfl rfl ⟨rfl, rfl⟩) ?_
      refine wl_v (.bool false) rfl rfl (y_mov rfl rfl ⟨rfl, rfl⟩) ?_
      refine wl_unless 14 true 48 rfl rfl rfl (Or.inl rfl) rfl ?_
      refine wl_unless 14 true 48 rfl rfl rfl (Or.inl rfl) rfl ?_
      refine wl_v (.bool false) rfl rfl (y_pickF rfl rfl rfl ⟨rfl, rfl⟩) ?_
      refine wl_v (.bool false) rfl rfl (y_mov rfl rfl ⟨rfl, rfl⟩) ?_
      refine wl_unless 18 true 52 rfl rfl rfl (Or.inl rfl) rfl ?_
      refine wl_unless 18 true 52 rfl rfl rfl (Or.inl rfl) rfl ?_
      refine wl_v (.bool false) rfl rfl (y_pickF rfl rfl rfl ⟨rfl, rfl⟩) ?_
      refine wl_v (.bool false) rfl rfl (y_asg rfl rfl ⟨rfl, rfl⟩) ?_
      refine wl_nil fun F989 hF990 => ?_
      have s991 : F989 3 = .int .i64 (p) := (hF990 3).trans s93
      have s992 : F989 4 = .int .i64 (x) := (hF990 4).trans s94
      have s993 : F989 5 = .int .i64 (y) := (hF990 5).trans s95
      have s994 : F989 6 = .int .i64 (mode) := (hF990 6).trans s96
      have s995 : F989 113 = undef := (hF990 113).trans s97
      have s996 : F989 15 = .bool true := (hF990 15).trans s98
      have s997 : F989 16 = .pointer (some ⟨p68, 0, none⟩) := (hF990 16).trans s99
      have s998 : F989 17 = .bool false := (hF990 17).trans rfl
      clear hF990
      refine then_normal ?_
      refine wq_seq ?_
      refine wq_region ?_
      refine wl_v (.agg #[.int .i64 ((mkF (w) (h) (l)).W), .int .i64 ((mkF (w) (h) (l)).H), v43, v44, v45]) rfl rfl (y_load_stc stcT_frame rfl s997 B84 ⟨rfl, rfl⟩) ?_
      refine wl_v (.int .i64 (p)) rfl rfl (y_mov rfl s991 ⟨rfl, rfl⟩) ?_
      refine wl_v (.int .i64 (x)) rfl rfl (y_mov rfl s992 ⟨rfl, rfl⟩) ?_
      refine wl_v (.int .i64 (y)) rfl rfl (y_mov rfl s993 ⟨rfl, rfl⟩) ?_
      refine wl_v (.int .i64 (mode)) rfl rfl (y_mov rfl s994 ⟨rfl, rfl⟩) ?_
      refine wl_call (R := fun v_ w_ => v_ = .tuple #[blkV (predB (mkF (w) (h) (l)) (p) (x) (y) (mode)), .int .i64 (predE (mkF (w) (h) (l)) (p) (x) (y) (mode))] ∧ Kept (fun _ => False) w83 w_) rfl rfl (y_cs rfl rfl rfl (fun _ _ => by kernel_rfl) (ev_func _) (vsC rfl (vsC rfl (vsC rfl (vsC rfl (vsC rfl vsN))))) (il_predict (p) (x) (y) (mode) (mkF (w) (h) (l)) (v43) (v44) (v45) (T48) (T49) (T50) _  (B87).byt (B88).byt (B89).byt ) (fun e_ w_ h_ => ⟨_, h_.1, rfl, h_.2⟩)) ?_
      rintro _ w999 ⟨rfl, k1000⟩
      have B1001 := B86.all k1000 Apart.none
      have B1002 := B87.all k1000 Apart.none
      have B1003 := B88.all k1000 Apart.none
      have B1004 := B89.all k1000 Apart.none
      have B1005 := B84.all k1000 id
      have K1006 := K90.trans k1000 (fun _ _ x => x.elim)
      refine wl_v (.tuple #[blkV (predB (mkF (w) (h) (l)) (p) (x) (y) (mode)), .int .i64 (predE (mkF (w) (h) (l)) (p) (x) (y) (mode))]) rfl rfl (y_mov rfl rfl ⟨rfl, rfl⟩) ?_
      refine wl_v (blkV (predB (mkF (w) (h) (l)) (p) (x) (y) (mode))) rfl rfl (y_ext rfl rfl rfl ⟨rfl, rfl⟩) ?_
      refine wl_v (.int .i64 (predE (mkF (w) (h) (l)) (p) (x) (y) (mode))) rfl rfl (y_ext rfl rfl rfl ⟨rfl, rfl⟩) ?_
      refine wl_alloc_blk rfl rfl rfl blkT_block.2.2 fun p1007 w1008 e1011 B1009 k1010 => ?_
      have g1012 := onB_new (Nat.le_of_eq e1011.symm)
      have gr1013 : Grew w0 noB (onB p1007) := Grew.new K1006 g1012
      have ap1014 : Apart (onB p1007) (T_s) := Apart.new g1012 (B1001).live
      have ap1015 : Apart (onB p1007) (T48) := Apart.new g1012 (B1002).live
      have ap1016 : Apart (onB p1007) (T49) := Apart.new g1012 (B1003).live
      have ap1017 : Apart (onB p1007) (T50) := Apart.new g1012 (B1004).live
      have ap1018 : Apart (onB p1007) (onB p68) := Apart.new g1012 (onB_live (B1005).lt)
      clear e1011 g1012
      have B1019 := B1001.all k1010 Apart.none
      have B1020 := B1002.all k1010 Apart.none
      have B1021 := B1003.all k1010 Apart.none
      have B1022 := B1004.all k1010 Apart.none
      have B1023 := B1005.all k1010 id
      have K1024 := K1006.trans k1010 (fun _ _ x => x.elim)
      refine wl_store_blk blkT_block rfl rfl rfl rfl rfl B1009 fun w1025 B1026 k1027 => ?_
      have B1028 := B1019.all k1027 (fun i h x => (((ap1014).symm) i h x))
      have B1029 := B1020.all k1027 (fun i h x => (((ap1015).symm) i h x))
      have B1030 := B1021.all k1027 (fun i h x => (((ap1016).symm) i h x))
      have B1031 := B1022.all k1027 (fun i h x => (((ap1017).symm) i h x))
      have B1032 := B1023.all k1027 (fun x => (((ap1018).symm) p68 rfl x))
      have K1033 := K1024.trans k1027 (Grew.ok (S := fun _ => False) gr1013 noB_le)
      refine wl_v (.int .i64 (predE (mkF (w) (h) (l)) (p) (x) (y) (mode))) rfl rfl (y_asg rfl rfl ⟨rfl, rfl⟩) ?_
      refine wl_nil fun F1034 hF1035 => ?_
      have s1036 : F1034 3 = .int .i64 (p) := (hF1035 3).trans s991
      have s1037 : F1034 4 = .int .i64 (x) := (hF1035 4).trans s992
      have s1038 : F1034 5 = .int .i64 (y) := (hF1035 5).trans s993
      have s1039 : F1034 6 = .int .i64 (mode) := (hF1035 6).trans s994
      have s1040 : F1034 113 = undef := (hF1035 113).trans s995
      have s1041 : F1034 15 = .bool true := (hF1035 15).trans s996
      have s1042 : F1034 16 = .pointer (some ⟨p68, 0, none⟩) := (hF1035 16).trans s997
      have s1043 : F1034 17 = .bool false := (hF1035 17).trans s998
      have s1044 : F1034 19 = .int .i64 (predE (mkF (w) (h) (l)) (p) (x) (y) (mode)) := (hF1035 19).trans rfl
      clear hF1035
      refine then_normal ?_
      refine wq_seq ?_
      refine wq_region ?_
      refine wl_v (.agg #[.int .i64 ((mkF (w) (h) (l)).W), .int .i64 ((mkF (w) (h) (l)).H), v43, v44, v45]) rfl rfl (y_load_stc stcT_frame rfl s1042 B1032 ⟨rfl, rfl⟩) ?_
      refine wl_v (.int .i64 (p)) rfl rfl (y_mov rfl s1036 ⟨rfl, rfl⟩) ?_
      refine wl_v (.int .i64 (x)) rfl rfl (y_mov rfl s1037 ⟨rfl, rfl⟩) ?_
      refine wl_v (.int .i64 (y)) rfl rfl (y_mov rfl s1038 ⟨rfl, rfl⟩) ?_
      refine wl_v (blkV (fun _ => 0)) rfl rfl (y_buildR (cells := (arrL 16 (fun _ => 0)).toArray) rfl (by kernel_rfl) rfl ⟨rfl, rfl⟩) ?_
      refine wl_call (R := fun v_ w_ => v_ = .tuple #[.int .i64 ((bestF (mkF (w) (h) (l)) (p) (x) (y) (fun _ => 0)).1), .int .i64 ((bestF (mkF (w) (h) (l)) (p) (x) (y) (fun _ => 0)).2)] ∧ Kept (fun _ => False) w1025 w_) rfl rfl (y_cs rfl rfl rfl (fun _ _ => by kernel_rfl) (ev_func _) (vsC rfl (vsC rfl (vsC rfl (vsC rfl (vsC rfl vsN))))) (il_best (p) (x) (y) (fun _ => 0) (mkF (w) (h) (l)) (v43) (v44) (v45) (T48) (T49) (T50) _  (B1029).byt (B1030).byt (B1031).byt ) (fun e_ w_ h_ => ⟨_, h_.1, rfl, h_.2⟩)) ?_
      rintro _ w1045 ⟨rfl, k1046⟩
      have B1047 := B1028.all k1046 Apart.none
      have B1048 := B1029.all k1046 Apart.none
      have B1049 := B1030.all k1046 Apart.none
      have B1050 := B1031.all k1046 Apart.none
      have B1051 := B1032.all k1046 id
      have B1052 := B1026.all k1046 id
      have K1053 := K1033.trans k1046 (fun _ _ x => x.elim)
      refine wl_v (.tuple #[.int .i64 ((bestF (mkF (w) (h) (l)) (p) (x) (y) (fun _ => 0)).1), .int .i64 ((bestF (mkF (w) (h) (l)) (p) (x) (y) (fun _ => 0)).2)]) rfl rfl (y_mov rfl rfl ⟨rfl, rfl⟩) ?_
      refine wl_v (.int .i64 ((bestF (mkF (w) (h) (l)) (p) (x) (y) (fun _ => 0)).1)) rfl rfl (y_ext rfl rfl rfl ⟨rfl, rfl⟩) ?_
      refine wl_v (.int .i64 ((bestF (mkF (w) (h) (l)) (p) (x) (y) (fun _ => 0)).2)) rfl rfl (y_ext rfl rfl rfl ⟨rfl, rfl⟩) ?_
      refine wl_v (.int .i64 ((bestF (mkF (w) (h) (l)) (p) (x) (y) (fun _ => 0)).1)) rfl rfl (y_asg rfl rfl ⟨rfl, rfl⟩) ?_
      refine wl_v (.int .i64 ((bestF (mkF (w) (h) (l)) (p) (x) (y) (fun _ => 0)).2)) rfl rfl (y_asg rfl rfl ⟨rfl, rfl⟩) ?_
      refine wl_nil fun F1054 hF1055 => ?_
      have s1056 : F1054 3 = .int .i64 (p) := (hF1055 3).trans s1036
      have s1057 : F1054 4 = .int .i64 (x) := (hF1055 4).trans s1037
      have s1058 : F1054 5 = .int .i64 (y) := (hF1055 5).trans s1038
      have s1059 : F1054 6 = .int .i64 (mode) := (hF1055 6).trans s1039
      have s1060 : F1054 113 = undef := (hF1055 113).trans s1040
      have s1061 : F1054 15 = .bool true := (hF1055 15).trans s1041
      have s1062 : F1054 17 = .bool false := (hF1055 17).trans s1043
      have s1063 : F1054 19 = .int .i64 (predE (mkF (w) (h) (l)) (p) (x) (y) (mode)) := (hF1055 19).trans s1044
      have s1064 : F1054 20 = .int .i64 ((bestF (mkF (w) (h) (l)) (p) (x) (y) (fun _ => 0)).1) := (hF1055 20).trans rfl
      have s1065 : F1054 21 = .int .i64 ((bestF (mkF (w) (h) (l)) (p) (x) (y) (fun _ => 0)).2) := (hF1055 21).trans rfl
      clear hF1055
      refine then_normal ?_
      refine wq_seq ?_
      refine wq_region ?_
      refine wl_v (.agg #[.int .i64 (0), .int .i64 (0), .slice none 0 0, .slice none 0 0, .slice none 0 0]) rfl rfl (y_buildL (l' := []) (cells := #[.int .i64 (0), .int .i64 (0), .slice none 0 0, .slice none 0 0, .slice none 0 0]) rfl bpN (by kernel_rfl) rfl ⟨rfl, rfl⟩) ?_
      refine wl_v (.int .i64 (p)) rfl rfl (y_mov rfl s1056 ⟨rfl, rfl⟩) ?_
      refine wl_v (.int .i64 (x)) rfl rfl (y_mov rfl s1057 ⟨rfl, rfl⟩) ?_
      refine wl_v (.int .i64 (y)) rfl rfl (y_mov rfl s1058 ⟨rfl, rfl⟩) ?_
      refine wl_v (.int .i64 (mode)) rfl rfl (y_mov rfl s1059 ⟨rfl, rfl⟩) ?_
      refine wl_call (R := fun v_ w_ => v_ = .tuple #[blkV (predB (FD.mk (0) (0) ([]) ([]) ([])) (p) (x) (y) (mode)), .int .i64 (predE (FD.mk (0) (0) ([]) ([]) ([])) (p) (x) (y) (mode))] ∧ Kept (fun _ => False) w1045 w_) rfl rfl (y_cs rfl rfl rfl (fun _ _ => by kernel_rfl) (ev_func _) (vsC rfl (vsC rfl (vsC rfl (vsC rfl (vsC rfl vsN))))) (il_predict (p) (x) (y) (mode) (FD.mk (0) (0) ([]) ([]) ([])) (.slice none 0 0) (.slice none 0 0) (.slice none 0 0) (noB) (noB) (noB) _  (Byt.nil _) (Byt.nil _) (Byt.nil _) ) (fun e_ w_ h_ => ⟨_, h_.1, rfl, h_.2⟩)) ?_
      rintro _ w1066 ⟨rfl, k1067⟩
      have B1068 := B1047.all k1067 Apart.none
      have B1069 := B1048.all k1067 Apart.none
      have B1070 := B1049.all k1067 Apart.none
      have B1071 := B1050.all k1067 Apart.none
      have B1072 := B1051.all k1067 id
      have B1073 := B1052.all k1067 id
      have K1074 := K1053.trans k1067 (fun _ _ x => x.elim)
      refine wl_v (.tuple #[blkV (predB (FD.mk (0) (0) ([]) ([]) ([])) (p) (x) (y) (mode)), .int .i64 (predE (FD.mk (0) (0) ([]) ([]) ([])) (p) (x) (y) (mode))]) rfl rfl (y_mov rfl rfl ⟨rfl, rfl⟩) ?_
      refine wl_v (blkV (predB (FD.mk (0) (0) ([]) ([]) ([])) (p) (x) (y) (mode))) rfl rfl (y_ext rfl rfl rfl ⟨rfl, rfl⟩) ?_
      refine wl_v (.int .i64 (predE (FD.mk (0) (0) ([]) ([]) ([])) (p) (x) (y) (mode))) rfl rfl (y_ext rfl rfl rfl ⟨rfl, rfl⟩) ?_
      refine wl_alloc_blk rfl rfl rfl blkT_block.2.2 fun p1075 w1076 e1079 B1077 k1078 => ?_
      have g1080 := onB_new (Nat.le_of_eq e1079.symm)
      have gr1081 : Grew w0 noB (onB p1075) := Grew.new K1074 g1080
      have ap1082 : Apart (onB p1075) (T_s) := Apart.new g1080 (B1068).live
      have ap1083 : Apart (onB p1075) (T48) := Apart.new g1080 (B1069).live
      have ap1084 : Apart (onB p1075) (T49) := Apart.new g1080 (B1070).live
      have ap1085 : Apart (onB p1075) (T50) := Apart.new g1080 (B1071).live
      have ap1086 : Apart (onB p1075) (onB p68) := Apart.new g1080 (onB_live (B1072).lt)
      have ap1087 : Apart (onB p1075) (onB p1007) := Apart.new g1080 (onB_live (B1073).lt)
      clear e1079 g1080
      have B1088 := B1068.all k1078 Apart.none
      have B1089 := B1069.all k1078 Apart.none
      have B1090 := B1070.all k1078 Apart.none
      have B1091 := B1071.all k1078 Apart.none
      have B1092 := B1072.all k1078 id
      have B1093 := B1073.all k1078 id
      have K1094 := K1074.trans k1078 (fun _ _ x => x.elim)
      refine wl_store_blk blkT_block rfl rfl rfl rfl rfl B1077 fun w1095 B1096 k1097 => ?_
      have B1098 := B1088.all k1097 (fun i h x => (((ap1082).symm) i h x))
      have B1099 := B1089.all k1097 (fun i h x => (((ap1083).symm) i h x))
      have B1100 := B1090.all k1097 (fun i h x => (((ap1084).symm) i h x))
      have B1101 := B1091.all k1097 (fun i h x => (((ap1085).symm) i h x))
      have B1102 := B1092.all k1097 (fun x => (((ap1086).symm) p68 rfl x))
      have B1103 := B1093.all k1097 (fun x => (((ap1087).symm) p1007 rfl x))
      have K1104 := K1094.trans k1097 (Grew.ok (S := fun _ => False) gr1081 noB_le)
      refine wl_v (.int .i64 (predE (FD.mk (0) (0) ([]) ([]) ([])) (p) (x) (y) (mode))) rfl rfl (y_asg rfl rfl ⟨rfl, rfl⟩) ?_
      refine wl_nil fun F1105 hF1106 => ?_
      have s1107 : F1105 6 = .int .i64 (mode) := (hF1106 6).trans s1059
      have s1108 : F1105 113 = undef := (hF1106 113).trans s1060
      have s1109 : F1105 15 = .bool true := (hF1106 15).trans s1061
      have s1110 : F1105 17 = .bool false := (hF1106 17).trans s1062
      have s1111 : F1105 19 = .int .i64 (predE (mkF (w) (h) (l)) (p) (x) (y) (mode)) := (hF1106 19).trans s1063
      have s1112 : F1105 20 = .int .i64 ((bestF (mkF (w) (h) (l)) (p) (x) (y) (fun _ => 0)).1) := (hF1106 20).trans s1064
      have s1113 : F1105 21 = .int .i64 ((bestF (mkF (w) (h) (l)) (p) (x) (y) (fun _ => 0)).2) := (hF1106 21).trans s1065
      have s1114 : F1105 23 = .int .i64 (predE (FD.mk (0) (0) ([]) ([]) ([])) (p) (x) (y) (mode)) := (hF1106 23).trans rfl
      clear hF1106
      refine then_normal ?_
      refine wq_seq ?_
      refine wq_region ?_
      refine wl_v (.int .i64 (0)) rfl rfl (y_asg rfl rfl ⟨rfl, rfl⟩) ?_
      refine wl_nil fun F1115 hF1116 => ?_
      have s1117 : F1115 6 = .int .i64 (mode) := (hF1116 6).trans s1107
      have s1118 : F1115 113 = undef := (hF1116 113).trans s1108
      have s1119 : F1115 15 = .bool true := (hF1116 15).trans s1109
      have s1120 : F1115 17 = .bool false := (hF1116 17).trans s1110
      have s1121 : F1115 19 = .int .i64 (predE (mkF (w) (h) (l)) (p) (x) (y) (mode)) := (hF1116 19).trans s1111
      have s1122 : F1115 20 = .int .i64 ((bestF (mkF (w) (h) (l)) (p) (x) (y) (fun _ => 0)).1) := (hF1116 20).trans s1112
      have s1123 : F1115 21 = .int .i64 ((bestF (mkF (w) (h) (l)) (p) (x) (y) (fun _ => 0)).2) := (hF1116 21).trans s1113
      have s1124 : F1115 23 = .int .i64 (predE (FD.mk (0) (0) ([]) ([]) ([])) (p) (x) (y) (mode)) := (hF1116 23).trans s1114
      have s1125 : F1115 24 = .int .i64 (0) := (hF1116 24).trans rfl
      clear hF1116
      refine then_normal ?_
      refine wq_seq ?_
      refine wq_seq ?_
      refine wq_region ?_
      refine wl_v (.bool false) rfl rfl (y_mov rfl s1120 ⟨rfl, rfl⟩) ?_
      refine wl_v (.bool true) rfl rfl (y_not rfl rfl rfl ⟨rfl, rfl⟩) ?_
      refine wl_nil fun F1126 hF1127 => ?_
      have s1128 : F1126 6 = .int .i64 (mode) := (hF1127 6).trans s1117
      have s1129 : F1126 113 = undef := (hF1127 113).trans s1118
      have s1130 : F1126 15 = .bool true := (hF1127 15).trans s1119
      have s1131 : F1126 17 = .bool false := (hF1127 17).trans s1120
      have s1132 : F1126 19 = .int .i64 (predE (mkF (w) (h) (l)) (p) (x) (y) (mode)) := (hF1127 19).trans s1121
      have s1133 : F1126 20 = .int .i64 ((bestF (mkF (w) (h) (l)) (p) (x) (y) (fun _ => 0)).1) := (hF1127 20).trans s1122
      have s1134 : F1126 21 = .int .i64 ((bestF (mkF (w) (h) (l)) (p) (x) (y) (fun _ => 0)).2) := (hF1127 21).trans s1123
      have s1135 : F1126 23 = .int .i64 (predE (FD.mk (0) (0) ([]) ([]) ([])) (p) (x) (y) (mode)) := (hF1127 23).trans s1124
      have s1136 : F1126 24 = .int .i64 (0) := (hF1127 24).trans s1125
      have s1137 : F1126 84 = .bool true := (hF1127 84).trans rfl
      clear hF1127
      refine then_normal ?_
      refine wq_cond (t := true) s1137 (fun _ => ?_) (fun e => by cases e)
      refine wq_region ?_
      refine wl_v (.int .i64 (70)) rfl rfl (y_asg rfl rfl ⟨rfl, rfl⟩) ?_
      refine wl_nil fun F1138 hF1139 => ?_
      have s1140 : F1138 113 = undef := (hF1139 113).trans s1129
      have s1141 : F1138 15 = .bool true := (hF1139 15).trans s1130
      have s1142 : F1138 17 = .bool false := (hF1139 17).trans s1131
      have s1143 : F1138 19 = .int .i64 (predE (mkF (w) (h) (l)) (p) (x) (y) (mode)) := (hF1139 19).trans s1132
      have s1144 : F1138 20 = .int .i64 ((bestF (mkF (w) (h) (l)) (p) (x) (y) (fun _ => 0)).1) := (hF1139 20).trans s1133
      have s1145 : F1138 21 = .int .i64 ((bestF (mkF (w) (h) (l)) (p) (x) (y) (fun _ => 0)).2) := (hF1139 21).trans s1134
      have s1146 : F1138 23 = .int .i64 (predE (FD.mk (0) (0) ([]) ([]) ([])) (p) (x) (y) (mode)) := (hF1139 23).trans s1135
      have s1147 : F1138 24 = .int .i64 (70) := (hF1139 24).trans rfl
      clear hF1139
      refine then_normal ?_
      refine wq_seq ?_
      refine wq_region ?_
      refine wl_v (.bool true) rfl rfl (y_mov rfl s1141 ⟨rfl, rfl⟩) ?_
      refine wl_v (.bool true) rfl rfl (y_mov rfl rfl ⟨rfl, rfl⟩) ?_
      refine wl_vw (.int .i64 (predE (mkF (w) (h) (l)) (p) (x) (y) (mode))) 1 true 92 rfl rfl rfl rfl rfl (y_mov rfl s1143 ⟨rfl, rfl⟩) ?_
      refine wl_vw (.int .i64 (70)) 1 true 92 rfl rfl rfl rfl rfl (y_mov rfl s1147 ⟨rfl, rfl⟩) ?_
      refine wl_vw (.bool true) 1 true 92 rfl rfl rfl rfl rfl (y_eqlI rfl rfl rfl (decide_eq_true (by first | exact (pred_no (by rintro ⟨_, h1, h2, h3, h4, h5, h6⟩; omega)).1 | exact (pred_none ⟨mkF_ok w h l, by omega, by omega, by omega, by omega, by omega, by omega⟩ (by omega)).1 | exact (pred_yes ⟨mkF_ok w h l, by omega, by omega, by omega, by omega, by omega, by omega⟩ (by omega)).1)) ⟨rfl, rfl⟩) ?_
      refine wl_v (.bool true) rfl rfl (y_pickT rfl rfl rfl ⟨rfl, rfl⟩) ?_
      refine wl_v (.bool true) rfl rfl (y_mov rfl rfl ⟨rfl, rfl⟩) ?_
      refine wl_vw (.int .i64 (predE (FD.mk (0) (0) ([]) ([]) ([])) (p) (x) (y) (mode))) 6 true 97 rfl rfl rfl rfl rfl (y_mov rfl s1146 ⟨rfl, rfl⟩) ?_
      refine wl_vw (.bool true) 6 true 97 rfl rfl rfl rfl rfl (y_eqlI rfl rfl rfl (decide_eq_true (pred_no (none_place _ _ _)).1) ⟨rfl, rfl⟩) ?_
      refine wl_v (.bool true) rfl rfl (y_pickT rfl rfl rfl ⟨rfl, rfl⟩) ?_
      refine wl_v (.bool true) rfl rfl (y_mov rfl rfl ⟨rfl, rfl⟩) ?_
      refine wl_vw (.int .i64 ((bestF (mkF (w) (h) (l)) (p) (x) (y) (fun _ => 0)).1)) 10 true 101 rfl rfl rfl rfl rfl (y_mov rfl s1144 ⟨rfl, rfl⟩) ?_
      refine wl_vw (.bool (decide ((0) ≤ ((bestF (mkF (w) (h) (l)) (p) (x) (y) (fun _ => 0)).1)))) 10 true 101 rfl rfl rfl rfl rfl (y_geq rfl rfl rfl rfl ⟨rfl, rfl⟩) ?_
      refine wl_vw (.bool false) 10 true 101 rfl rfl rfl rfl rfl (y_mov rfl s1142 ⟨rfl, rfl⟩) ?_
      refine wl_vw (.bool true) 10 true 101 rfl rfl rfl rfl rfl (y_eqlB rfl rfl rfl Try.underlying4 ((by first | (rw [decide_eq_true ((best_sign _ _ _ _ _).1 ⟨mkF_ok w h l, by omega, by omega, by omega, by omega, by omega, by omega⟩).1]; rfl) | (rw [decide_eq_false ((best_sign _ _ _ _ _).2 (by rintro ⟨_, h1, h2, h3, h4, h5, h6⟩; omega)).1]; rfl))) ⟨rfl, rfl⟩) ?_
      refine wl_v (.bool true) rfl rfl (y_pickT rfl rfl rfl ⟨rfl, rfl⟩) ?_
      refine wl_v (.bool true) rfl rfl (y_mov rfl rfl ⟨rfl, rfl⟩) ?_
      refine wl_vw (.int .i64 ((bestF (mkF (w) (h) (l)) (p) (x) (y) (fun _ => 0)).2)) 16 true 107 rfl rfl rfl rfl rfl (y_mov rfl s1145 ⟨rfl, rfl⟩) ?_
      refine wl_vw (.bool (decide ((0) ≤ ((bestF (mkF (w) (h) (l)) (p) (x) (y) (fun _ => 0)).2)))) 16 true 107 rfl rfl rfl rfl rfl (y_geq rfl rfl rfl rfl ⟨rfl, rfl⟩) ?_
      refine wl_vw (.bool false) 16 true 107 rfl rfl rfl rfl rfl (y_mov rfl s1142 ⟨rfl, rfl⟩) ?_
      refine wl_vw (.bool true) 16 true 107 rfl rfl rfl rfl rfl (y_eqlB rfl rfl rfl Try.underlying4 ((by first | (rw [decide_eq_true ((best_sign _ _ _ _ _).1 ⟨mkF_ok w h l, by omega, by omega, by omega, by omega, by omega, by omega⟩).2]; rfl) | (rw [decide_eq_false ((best_sign _ _ _ _ _).2 (by rintro ⟨_, h1, h2, h3, h4, h5, h6⟩; omega)).2]; rfl))) ⟨rfl, rfl⟩) ?_
      refine wl_v (.bool true) rfl rfl (y_pickT rfl rfl rfl ⟨rfl, rfl⟩) ?_
      refine wl_v (.bool true) rfl rfl (y_asg rfl rfl ⟨rfl, rfl⟩) ?_
      refine wl_nil fun F1148 hF1149 => ?_
      have s1150 : F1148 113 = undef := (hF1149 113).trans s1140
      have s1151 : F1148 14 = .bool true := (hF1149 14).trans rfl
      clear hF1149
      refine then_normal ?_
      refine wq_ret ?_
      exact end_tmp (v := .bool true) s1150 rfl rfl s1151 ⟨rfl, K1104⟩
end Go.Proofs.Ytdggilbgjijfmaa
namespace Go.Proofs.Ytdggilbgjijfmaa
open Go.RowKit

theorem nat_u8 {n : Int} (h : (Lit.int .u8 n).wf = true) : ∃ m : Nat, n = (m : Int) ∧ m < 256 := by
  have := bounds_u8 h
  exact ⟨n.toNat, by omega, by omega⟩
end Go.Proofs.Ytdggilbgjijfmaa
namespace Go.Proofs.Ytdggilbgjijfmaa
open Go.ChangeShapes Go.WideShapes Go.ChangeAt Go.RowKit

section
variable {H : Type} {enc : TypeId × Value → H} {w : World} {base : Nat} {spare : Nat → Bool} {held : Bool}

theorem BytesArg.of_row {a : Option Addr} {len cap : Nat} {zs : List Int}
    (h : (a = none ∧ len = 0 ∧ cap = 0 ∧ zs = []) ∨ ∃ x, a = some x ∧ len ≤ cap ∧ cap ≤ maxLen ∧ len ≤ zs.length ∧ (∀ i, i < zs.length → w.cell? (x.add i) = some (.int .u8 (zs.getD i 0))) ∧ ∀ n ∈ zs, (Lit.int .u8 n).wf = true) :
    ∃ l : List Nat, BytesArg w (.slice a len cap) l := by
  rcases h with ⟨rfl, rfl, rfl, rfl⟩ | ⟨x, rfl, hlc, hcm, hz, hcell, hwf⟩
  · exact ⟨[], BytesArg.nil w⟩
  · have hlen : ((zs.take len).map Int.toNat).length = len := by simp; omega
    refine ⟨(zs.take len).map Int.toNat, some x, cap, by rw [hlen], by rw [hlen]; exact hlc, hcm, by simp, ?_, ?_⟩
    · intro y hy
      obtain ⟨z, hz1, rfl⟩ := List.mem_map.1 hy
      have := bounds_u8 (hwf z (List.mem_of_mem_take hz1))
      omega
    · intro hpos
      rw [hlen] at hpos
      have hpos' : 0 < zs.length := by omega
      obtain ⟨b, off, rfl, hc⟩ := ints_at hcell hpos'
      refine ⟨b, off, rfl, World.block_lt_of_cell? w _ (hc 0 hpos'), fun i hi => ?_⟩
      rw [hlen] at hi
      have hi' : i < zs.length := by omega
      rw [hc i hi']
      have hwi := bounds_u8 (hwf zs[i] (List.getElem_mem hi'))
      simp [List.getD, hi', hi]
      omega

theorem bytes_open {fuel : Nat} {v : Value} {x : DataW H × List MemPlace}
    (h : DataW.trod enc Try.prog w base spare held fuel 22 [v] = some x) : ∃ l : List Nat, BytesArg w v l := by
  rcases open_ints Try.underlying22 Try.underlying5 (by kernel_rfl) h with ⟨hcs, _⟩ | ⟨a, len, cap, zs, hcs, _, hl, hm, hz, _, hcell, hwz⟩
  · simp at hcs
    subst hcs
    exact ⟨[], BytesArg.nil w⟩
  · simp at hcs
    subst hcs
    exact BytesArg.of_row (.inr ⟨a, rfl, hl, hm, by have := hz; split at this <;> omega, hcell, hwz⟩)

end
end Go.Proofs.Ytdggilbgjijfmaa
