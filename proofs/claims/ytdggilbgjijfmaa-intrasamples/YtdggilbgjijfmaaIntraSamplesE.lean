/- What IntraSamples reaches of my texts, part 5. -/
import Derived.Test.YtdggilbgjijfmaaIntraSamplesD
namespace Go.Proofs.Ytdggilbgjijfmaa
open Go.RowKit
theorem rem_bounds (q n : Nat) (h : 0 < n) : 0 ≤ Int.tmod (q : Int) (n : Int) ∧ Int.tmod (q : Int) (n : Int) < n := by
  rw [rem_nat]; have := Nat.mod_lt q h; omega
set_option maxHeartbeats 4000000 in
set_option maxRecDepth 100000 in
theorem isamples_walk (w h : Nat) (v : Value) (l : List Nat) (p x y : Nat) (T_s : Nat → Prop) (w0 : World) (hw : w < 256) (hh : h < 256) (hp : p < 256) (hx : x < 256) (hy : y < 256) (h_s : Byt w0 T_s v (l)) :
    Calls Try.prog 4 #[.int .u8 (((w : Nat) : Int)), .int .u8 (((h : Nat) : Int)), v, .int .u8 (((p : Nat) : Int)), .int .u8 (((x : Nat) : Int)), .int .u8 (((y : Nat) : Int))] w0 fun e w' => e = .returned (.bool true) ∧ Kept (fun _ => False) w0 w' := by
  refine calls_wq (args := [.int .u8 (((w : Nat) : Int)), .int .u8 (((h : Nat) : Int)), v, .int .u8 (((p : Nat) : Int)), .int .u8 (((x : Nat) : Int)), .int .u8 (((y : Nat) : Int))]) 208 Try.func4 rfl rfl (Nat.le_of_ble_eq_true rfl) ?_
  have K0 := Kept.refl (fun _ => False) w0
  obtain ⟨K, hK⟩ : ∃ K : Int, K = Int.tmod (p : Int) 3 := ⟨_, rfl⟩
  obtain ⟨U, hU⟩ : ∃ U : Int, U = Int.tmod (x : Int) 25 := ⟨_, rfl⟩
  obtain ⟨V, hV⟩ : ∃ V : Int, V = Int.tmod (y : Int) 25 := ⟨_, rfl⟩
  have hK2 : 0 ≤ K ∧ K < 3 := by rw [hK]; exact rem_bounds p 3 (by omega)
  have hU2 : 0 ≤ U ∧ U < 25 := by rw [hU]; exact rem_bounds x 25 (by omega)
  have hV2 : 0 ≤ V ∧ V < 25 := by rw [hV]; exact rem_bounds y 25 (by omega)
  have hpl : placeF (mkF w h l) K U V := ⟨mkF_ok w h l, by omega, by omega, by omega, by omega, by omega, by omega⟩
  have hb := mkF_bytes w h l
  have g_s := Grew.refl w0 T_s
  refine wq_seq ?_
  refine wq_region ?_
  refine wl_v (.bool false) rfl rfl (y_asg rfl rfl ⟨rfl, rfl⟩) ?_
  refine wl_nil fun F1 hF2 => ?_
  have s3 : F1 0 = .int .u8 (((w : Nat) : Int)) := (hF2 0).trans rfl
  have s4 : F1 1 = .int .u8 (((h : Nat) : Int)) := (hF2 1).trans rfl
  have s5 : F1 2 = v := (hF2 2).trans rfl
  have s6 : F1 3 = .int .u8 (((p : Nat) : Int)) := (hF2 3).trans rfl
  have s7 : F1 4 = .int .u8 (((x : Nat) : Int)) := (hF2 4).trans rfl
  have s8 : F1 5 = .int .u8 (((y : Nat) : Int)) := (hF2 5).trans rfl
  have s9 : F1 208 = undef := (hF2 208).trans rfl
  clear hF2
  refine then_normal ?_
  refine wq_seq ?_
  refine wq_region ?_
  refine wl_call (R := fun v_ w_ => v_ = .bool true ∧ Kept (fun _ => False) w0 w_) rfl rfl (y_cs rfl rfl rfl (fun _ _ => by kernel_rfl) (ev_func _) vsN (iawake   _   ) (fun e_ w_ h_ => ⟨_, h_.1, rfl, h_.2⟩)) ?_
  rintro _ w10 ⟨rfl, k11⟩
  have B12 := h_s.all k11 Apart.none
  have K13 := K0.trans k11 (fun _ _ x => x.elim)
  refine wl_v (.bool true) rfl rfl (y_asg rfl rfl ⟨rfl, rfl⟩) ?_
  refine wl_nil fun F14 hF15 => ?_
  have s16 : F14 0 = .int .u8 (((w : Nat) : Int)) := (hF15 0).trans s3
  have s17 : F14 1 = .int .u8 (((h : Nat) : Int)) := (hF15 1).trans s4
  have s18 : F14 2 = v := (hF15 2).trans s5
  have s19 : F14 3 = .int .u8 (((p : Nat) : Int)) := (hF15 3).trans s6
  have s20 : F14 4 = .int .u8 (((x : Nat) : Int)) := (hF15 4).trans s7
  have s21 : F14 5 = .int .u8 (((y : Nat) : Int)) := (hF15 5).trans s8
  have s22 : F14 208 = undef := (hF15 208).trans s9
  have s23 : F14 13 = .bool true := (hF15 13).trans rfl
  clear hF15
  refine then_normal ?_
  refine wq_seq ?_
  refine wq_seq ?_
  refine wq_region ?_
  refine wl_v (v) rfl rfl (y_mov rfl s18 ⟨rfl, rfl⟩) ?_
  refine wl_v (.int .i64 ((((l).length : Nat) : Int))) rfl rfl (y_lenV rfl rfl rfl B12 ⟨rfl, rfl⟩) ?_
  refine wl_v (.bool (decide ((300) < ((((l).length : Nat) : Int))))) rfl rfl (y_gtr rfl rfl rfl rfl ⟨rfl, rfl⟩) ?_
  refine wl_nil fun F24 hF25 => ?_
  have s26 : F24 0 = .int .u8 (((w : Nat) : Int)) := (hF25 0).trans s16
  have s27 : F24 1 = .int .u8 (((h : Nat) : Int)) := (hF25 1).trans s17
  have s28 : F24 2 = v := (hF25 2).trans s18
  have s29 : F24 3 = .int .u8 (((p : Nat) : Int)) := (hF25 3).trans s19
  have s30 : F24 4 = .int .u8 (((x : Nat) : Int)) := (hF25 4).trans s20
  have s31 : F24 5 = .int .u8 (((y : Nat) : Int)) := (hF25 5).trans s21
  have s32 : F24 208 = undef := (hF25 208).trans s22
  have s33 : F24 13 = .bool true := (hF25 13).trans s23
  have s34 : F24 34 = .bool (decide ((300) < ((((l).length : Nat) : Int)))) := (hF25 34).trans rfl
  clear hF25
  refine then_normal ?_
  refine wq_cond s34 (fun c35 => ?_) (fun c35 => ?_)
  · replace c35 := of_decide_eq_true c35
    refine wq_seq ?_
    refine wq_region ?_
    refine wl_v (.bool true) rfl rfl (y_mov rfl s33 ⟨rfl, rfl⟩) ?_
    refine wl_v (.bool true) rfl rfl (y_asg rfl rfl ⟨rfl, rfl⟩) ?_
    refine wl_nil fun F36 hF37 => ?_
    have s38 : F36 208 = undef := (hF37 208).trans s32
    have s39 : F36 12 = .bool true := (hF37 12).trans rfl
    clear hF37
    refine then_normal ?_
    refine wq_ret ?_
    refine then_ret ?_
    exact end_tmp (v := .bool true) s38 rfl rfl s39 ⟨rfl, K13⟩
  · replace c35 := of_decide_eq_false c35
    refine wq_skip ?_
    refine then_normal ?_
    refine wq_seq ?_
    refine wq_region ?_
    refine wl_v (.int .u8 (((w : Nat) : Int))) rfl rfl (y_mov rfl s26 ⟨rfl, rfl⟩) ?_
    refine wl_v (.int .u8 (((h : Nat) : Int))) rfl rfl (y_mov rfl s27 ⟨rfl, rfl⟩) ?_
    refine wl_v (v) rfl rfl (y_mov rfl s28 ⟨rfl, rfl⟩) ?_
    refine wl_call (R := fun v_ w_ => ∃ (v40 : Value) (T45 : Nat → Prop) (v41 : Value) (T46 : Nat → Prop) (v42 : Value) (T47 : Nat → Prop), .agg #[.int .i64 ((mkF (w) (h) (l)).W), .int .i64 ((mkF (w) (h) (l)).H), v40, v41, v42] = v_ ∧ Kept (fun _ => False) w10 w_ ∧ (Owb w_ T45 v40 ((mkF (w) (h) (l)).p0) ∧ Grew w10 noB T45) ∧ (Owb w_ T46 v41 ((mkF (w) (h) (l)).p1) ∧ Grew w10 noB T46) ∧ (Owb w_ T47 v42 ((mkF (w) (h) (l)).p2) ∧ Grew w10 noB T47) ∧ Apart T45 T46 ∧ Apart T45 T47 ∧ Apart T46 T47) rfl rfl (y_cs rfl rfl rfl (fun _ _ => by kernel_rfl) (ev_func _) (vsC rfl (vsC rfl (vsC rfl vsN))) (flaw_frame (w) (h) (v) (l) (T_s) _ (by omega) (by omega) B12 ) (fun e_ w_ h_ => by obtain ⟨v40_, T45_, v41_, T46_, v42_, T47_, he_, hr_⟩ := h_; exact ⟨_, he_, v40_, T45_, v41_, T46_, v42_, T47_, rfl, hr_⟩)) ?_
    rintro _ w43 ⟨v40, T45, v41, T46, v42, T47, rfl, k44, ⟨B48, g51⟩, ⟨B49, g52⟩, ⟨B50, g53⟩, ap54, ap55, ap56⟩
    have B57 := B12.all k44 Apart.none
    have K58 := K13.trans k44 (fun _ _ x => x.elim)
    have gr59 : Grew w0 noB (T45) := Grew.new K13 g51
    have ap60 : Apart (T45) (T_s) := Apart.new g51 (B12).live
    have gr61 : Grew w0 noB (T46) := Grew.new K13 g52
    have ap62 : Apart (T46) (T_s) := Apart.new g52 (B12).live
    have gr63 : Grew w0 noB (T47) := Grew.new K13 g53
    have ap64 : Apart (T47) (T_s) := Apart.new g53 (B12).live
    refine wl_alloc_stc (n := 5) (vs := [.int .i64 (0), .int .i64 (0), .slice none 0 0, .slice none 0 0, .slice none 0 0]) rfl rfl rfl (by kernel_rfl) fun p65 w66 B68 g69 k67 => ?_
    have gr70 : Grew w0 noB (onB p65) := Grew.new K58 g69
    have ap71 : Apart (onB p65) (T_s) := Apart.new g69 (B57).live
    have ap72 : Apart (onB p65) (T45) := Apart.new g69 (B48).live
    have ap73 : Apart (onB p65) (T46) := Apart.new g69 (B49).live
    have ap74 : Apart (onB p65) (T47) := Apart.new g69 (B50).live
    have B75 := B57.all k67 Apart.none
    have B76 := B48.all k67 Apart.none
    have B77 := B49.all k67 Apart.none
    have B78 := B50.all k67 Apart.none
    have K79 := K58.trans k67 (fun _ _ x => x.elim)
    refine wl_store_stc (us := [.int .i64 ((mkF (w) (h) (l)).W), .int .i64 ((mkF (w) (h) (l)).H), v40, v41, v42]) stcT_frame rfl rfl rfl rfl rfl B68 rfl (oneI rfl (oneI rfl (oneI (B76).one (oneI (B77).one (oneI (B78).one oneN))))) fun w80 B81 k82 => ?_
    have B83 := B75.all k82 (fun i h x => (((ap71).symm) i h x))
    have B84 := B76.all k82 (fun i h x => (((ap72).symm) i h x))
    have B85 := B77.all k82 (fun i h x => (((ap73).symm) i h x))
    have B86 := B78.all k82 (fun i h x => (((ap74).symm) i h x))
    have K87 := K79.trans k82 (Grew.ok (S := fun _ => False) gr70 noB_le)
    refine wl_nil fun F88 hF89 => ?_
    have s90 : F88 3 = .int .u8 (((p : Nat) : Int)) := (hF89 3).trans s29
    have s91 : F88 4 = .int .u8 (((x : Nat) : Int)) := (hF89 4).trans s30
    have s92 : F88 5 = .int .u8 (((y : Nat) : Int)) := (hF89 5).trans s31
    have s93 : F88 208 = undef := (hF89 208).trans s32
    have s94 : F88 13 = .bool true := (hF89 13).trans s33
    have s95 : F88 14 = .pointer (some ⟨p65, 0, none⟩) := (hF89 14).trans rfl
    clear hF89
    refine then_normal ?_
    refine wq_seq ?_
    refine wq_region ?_
    refine wl_v (.int .u8 (((x : Nat) : Int))) rfl rfl (y_mov rfl s91 ⟨rfl, rfl⟩) ?_
    refine wl_v (.int .i64 (((x : Nat) : Int))) rfl rfl (y_convR rfl rfl Try.underlying5 Try.underlying3 (i64_i rfl (by omega)) ⟨rfl, rfl⟩) ?_
    refine wl_v (.int .i64 (U)) rfl rfl (y_rem rfl rfl rfl (by first | decide | omega) (hU.symm) ⟨rfl, rfl⟩) ?_
    refine wl_v (.int .i64 (U)) rfl rfl (y_asg rfl rfl ⟨rfl, rfl⟩) ?_
    refine wl_nil fun F96 hF97 => ?_
    have s98 : F96 3 = .int .u8 (((p : Nat) : Int)) := (hF97 3).trans s90
    have s99 : F96 5 = .int .u8 (((y : Nat) : Int)) := (hF97 5).trans s92
    have s100 : F96 208 = undef := (hF97 208).trans s93
    have s101 : F96 13 = .bool true := (hF97 13).trans s94
    have s102 : F96 14 = .pointer (some ⟨p65, 0, none⟩) := (hF97 14).trans s95
    have s103 : F96 15 = .int .i64 (U) := (hF97 15).trans rfl
    clear hF97
    refine then_normal ?_
    refine wq_seq ?_
    refine wq_region ?_
    refine wl_v (.int .u8 (((y : Nat) : Int))) rfl rfl (y_mov rfl s99 ⟨rfl, rfl⟩) ?_
    refine wl_v (.int .i64 (((y : Nat) : Int))) rfl rfl (y_convR rfl rfl Try.underlying5 Try.underlying3 (i64_i rfl (by omega)) ⟨rfl, rfl⟩) ?_
    refine wl_v (.int .i64 (V)) rfl rfl (y_rem rfl rfl rfl (by first | decide | omega) (hV.symm) ⟨rfl, rfl⟩) ?_
    refine wl_v (.int .i64 (V)) rfl rfl (y_asg rfl rfl ⟨rfl, rfl⟩) ?_
    refine wl_nil fun F104 hF105 => ?_
    have s106 : F104 3 = .int .u8 (((p : Nat) : Int)) := (hF105 3).trans s98
    have s107 : F104 208 = undef := (hF105 208).trans s100
    have s108 : F104 13 = .bool true := (hF105 13).trans s101
    have s109 : F104 14 = .pointer (some ⟨p65, 0, none⟩) := (hF105 14).trans s102
    have s110 : F104 15 = .int .i64 (U) := (hF105 15).trans s103
    have s111 : F104 16 = .int .i64 (V) := (hF105 16).trans rfl
    clear hF105
    refine then_normal ?_
    refine wq_seq ?_
    refine wq_seq ?_
    refine wq_region ?_
    refine wl_v (.int .i64 (0)) rfl rfl (y_asg rfl rfl ⟨rfl, rfl⟩) ?_
    refine wl_nil fun F112 hF113 => ?_
    have s114 : F112 3 = .int .u8 (((p : Nat) : Int)) := (hF113 3).trans s106
    have s115 : F112 208 = undef := (hF113 208).trans s107
    have s116 : F112 13 = .bool true := (hF113 13).trans s108
    have s117 : F112 14 = .pointer (some ⟨p65, 0, none⟩) := (hF113 14).trans s109
    have s118 : F112 15 = .int .i64 (U) := (hF113 15).trans s110
    have s119 : F112 16 = .int .i64 (V) := (hF113 16).trans s111
    have s120 : F112 17 = .int .i64 (0) := (hF113 17).trans rfl
    clear hF113
    refine then_normal ?_
    refine wq_block ?_
    refine wq_rounds 5 ?_
    refine wqr_step ?_
    refine wq_seq ?_
    refine wq_seq ?_
    refine wq_region ?_
    refine wl_v (.int .i64 (0)) rfl rfl (y_mov rfl s120 ⟨rfl, rfl⟩) ?_
    refine wl_v (.bool true) rfl rfl (y_lss rfl rfl rfl rfl ⟨rfl, rfl⟩) ?_
    refine wl_nil fun F121 hF122 => ?_
    have s123 : F121 3 = .int .u8 (((p : Nat) : Int)) := (hF122 3).trans s114
    have s124 : F121 208 = undef := (hF122 208).trans s115
    have s125 : F121 13 = .bool true := (hF122 13).trans s116
    have s126 : F121 14 = .pointer (some ⟨p65, 0, none⟩) := (hF122 14).trans s117
    have s127 : F121 15 = .int .i64 (U) := (hF122 15).trans s118
    have s128 : F121 16 = .int .i64 (V) := (hF122 16).trans s119
    have s129 : F121 17 = .int .i64 (0) := (hF122 17).trans s120
    have s130 : F121 47 = .bool true := (hF122 47).trans rfl
    clear hF122
    refine then_normal ?_
    refine wq_cond (t := true) s130 (fun _ => ?_) (fun e => by cases e)
    refine wq_skip ?_
    refine then_normal ?_
    refine wq_seq ?_
    refine wq_block ?_
    refine wq_seq ?_
    refine wq_region ?_
    refine wl_v (.agg #[.int .i64 ((mkF (w) (h) (l)).W), .int .i64 ((mkF (w) (h) (l)).H), v40, v41, v42]) rfl rfl (y_load_stc stcT_frame rfl s126 B81 ⟨rfl, rfl⟩) ?_
    refine wl_v (.int .u8 (((p : Nat) : Int))) rfl rfl (y_mov rfl s123 ⟨rfl, rfl⟩) ?_
    refine wl_v (.int .i64 (((p : Nat) : Int))) rfl rfl (y_convR rfl rfl Try.underlying5 Try.underlying3 (i64_i rfl (by omega)) ⟨rfl, rfl⟩) ?_
    refine wl_v (.int .i64 (K)) rfl rfl (y_rem rfl rfl rfl (by first | decide | omega) (hK.symm) ⟨rfl, rfl⟩) ?_
    refine wl_v (.int .i64 (U)) rfl rfl (y_mov rfl s127 ⟨rfl, rfl⟩) ?_
    refine wl_v (.int .i64 (V)) rfl rfl (y_mov rfl s128 ⟨rfl, rfl⟩) ?_
    refine wl_v (.int .i64 (0)) rfl rfl (y_mov rfl s129 ⟨rfl, rfl⟩) ?_
    refine wl_call (R := fun v_ w_ => v_ = .tuple #[blkV (predB (mkF (w) (h) (l)) (K) (U) (V) (0)), .int .i64 (predE (mkF (w) (h) (l)) (K) (U) (V) (0))] ∧ Kept (fun _ => False) w80 w_) rfl rfl (y_cs rfl rfl rfl (fun _ _ => by kernel_rfl) (ev_func _) (vsC rfl (vsC rfl (vsC rfl (vsC rfl (vsC rfl vsN))))) (il_predict (K) (U) (V) (0) (mkF (w) (h) (l)) (v40) (v41) (v42) (T45) (T46) (T47) _  (B84).byt (B85).byt (B86).byt ) (fun e_ w_ h_ => ⟨_, h_.1, rfl, h_.2⟩)) ?_
    rintro _ w131 ⟨rfl, k132⟩
    have B133 := B83.all k132 Apart.none
    have B134 := B84.all k132 Apart.none
    have B135 := B85.all k132 Apart.none
    have B136 := B86.all k132 Apart.none
    have B137 := B81.all k132 id
    have K138 := K87.trans k132 (fun _ _ x => x.elim)
    refine wl_v (.tuple #[blkV (predB (mkF (w) (h) (l)) (K) (U) (V) (0)), .int .i64 (predE (mkF (w) (h) (l)) (K) (U) (V) (0))]) rfl rfl (y_mov rfl rfl ⟨rfl, rfl⟩) ?_
    refine wl_v (blkV (predB (mkF (w) (h) (l)) (K) (U) (V) (0))) rfl rfl (y_ext rfl rfl rfl ⟨rfl, rfl⟩) ?_
    refine wl_v (.int .i64 (predE (mkF (w) (h) (l)) (K) (U) (V) (0))) rfl rfl (y_ext rfl rfl rfl ⟨rfl, rfl⟩) ?_
    refine wl_alloc_blk rfl rfl rfl blkT_block.2.2 fun p139 w140 e143 B141 k142 => ?_
    have g144 := onB_new (Nat.le_of_eq e143.symm)
    have gr145 : Grew w0 noB (onB p139) := Grew.new K138 g144
    have ap146 : Apart (onB p139) (T_s) := Apart.new g144 (B133).live
    have ap147 : Apart (onB p139) (T45) := Apart.new g144 (B134).live
    have ap148 : Apart (onB p139) (T46) := Apart.new g144 (B135).live
    have ap149 : Apart (onB p139) (T47) := Apart.new g144 (B136).live
    have ap150 : Apart (onB p139) (onB p65) := Apart.new g144 (onB_live (B137).lt)
    clear e143 g144
    have B151 := B133.all k142 Apart.none
    have B152 := B134.all k142 Apart.none
    have B153 := B135.all k142 Apart.none
    have B154 := B136.all k142 Apart.none
    have B155 := B137.all k142 id
    have K156 := K138.trans k142 (fun _ _ x => x.elim)
    refine wl_store_blk blkT_block rfl rfl rfl rfl rfl B141 fun w157 B158 k159 => ?_
    have B160 := B151.all k159 (fun i h x => (((ap146).symm) i h x))
    have B161 := B152.all k159 (fun i h x => (((ap147).symm) i h x))
    have B162 := B153.all k159 (fun i h x => (((ap148).symm) i h x))
    have B163 := B154.all k159 (fun i h x => (((ap149).symm) i h x))
    have B164 := B155.all k159 (fun x => (((ap150).symm) p65 rfl x))
    have K165 := K156.trans k159 (Grew.ok (S := fun _ => False) gr145 noB_le)
    refine wl_v (.int .i64 (predE (mkF (w) (h) (l)) (K) (U) (V) (0))) rfl rfl (y_asg rfl rfl ⟨rfl, rfl⟩) ?_
    refine wl_nil fun F166 hF167 => ?_
    have s168 : F166 3 = .int .u8 (((p : Nat) : Int)) := (hF167 3).trans s123
    have s169 : F166 208 = undef := (hF167 208).trans s124
    have s170 : F166 13 = .bool true := (hF167 13).trans s125
    have s171 : F166 14 = .pointer (some ⟨p65, 0, none⟩) := (hF167 14).trans s126
    have s172 : F166 15 = .int .i64 (U) := (hF167 15).trans s127
    have s173 : F166 16 = .int .i64 (V) := (hF167 16).trans s128
    have s174 : F166 17 = .int .i64 (0) := (hF167 17).trans s129
    have s175 : F166 18 = .pointer (some ⟨p139, 0, none⟩) := (hF167 18).trans rfl
    have s176 : F166 19 = .int .i64 (predE (mkF (w) (h) (l)) (K) (U) (V) (0)) := (hF167 19).trans rfl
    clear hF167
    refine then_normal ?_
    refine wq_seq ?_
    refine wq_seq ?_
    refine wq_region ?_
    refine wl_v (.int .i64 (predE (mkF (w) (h) (l)) (K) (U) (V) (0))) rfl rfl (y_mov rfl s176 ⟨rfl, rfl⟩) ?_
    refine wl_v (.bool false) rfl rfl (y_neqI rfl rfl rfl (decide_eq_false (fun h => h (pred_yes (mode := 0) hpl (by decide)).1)) ⟨rfl, rfl⟩) ?_
    refine wl_nil fun F177 hF178 => ?_
    have s179 : F177 3 = .int .u8 (((p : Nat) : Int)) := (hF178 3).trans s168
    have s180 : F177 208 = undef := (hF178 208).trans s169
    have s181 : F177 13 = .bool true := (hF178 13).trans s170
    have s182 : F177 14 = .pointer (some ⟨p65, 0, none⟩) := (hF178 14).trans s171
    have s183 : F177 15 = .int .i64 (U) := (hF178 15).trans s172
    have s184 : F177 16 = .int .i64 (V) := (hF178 16).trans s173
    have s185 : F177 17 = .int .i64 (0) := (hF178 17).trans s174
    have s186 : F177 18 = .pointer (some ⟨p139, 0, none⟩) := (hF178 18).trans s175
    have s187 : F177 62 = .bool false := (hF178 62).trans rfl
    clear hF178
    refine then_normal ?_
    refine wq_cond (t := false) s187 (fun e => by cases e) (fun _ => ?_)
    refine wq_skip ?_
    refine then_normal ?_
    refine wq_seq ?_
    have B188 : Blk w157 p139 29 (predN (mkF w h l) K U V 0) := ((by rw [← (pred_yes (mode := 0) hpl (by decide)).2]; exact B158))
    refine wq_region ?_
    refine wl_v (.int .i64 (0)) rfl rfl (y_asg rfl rfl ⟨rfl, rfl⟩) ?_
    refine wl_nil fun F189 hF190 => ?_
    have s191 : F189 3 = .int .u8 (((p : Nat) : Int)) := (hF190 3).trans s179
    have s192 : F189 208 = undef := (hF190 208).trans s180
    have s193 : F189 13 = .bool true := (hF190 13).trans s181
    have s194 : F189 14 = .pointer (some ⟨p65, 0, none⟩) := (hF190 14).trans s182
    have s195 : F189 15 = .int .i64 (U) := (hF190 15).trans s183
    have s196 : F189 16 = .int .i64 (V) := (hF190 16).trans s184
    have s197 : F189 17 = .int .i64 (0) := (hF190 17).trans s185
    have s198 : F189 18 = .pointer (some ⟨p139, 0, none⟩) := (hF190 18).trans s186
    have s199 : F189 20 = .int .i64 (0) := (hF190 20).trans rfl
    clear hF190
    refine then_normal ?_
    refine wq_block ?_
    refine wq_loop (fun nn FF ww => ∃ (i : Nat), (i ≤ 16) ∧ nn = 16 - i ∧ FF 3 = .int .u8 (((p : Nat) : Int)) ∧ FF 13 = .bool true ∧ FF 14 = .pointer (some ⟨p65, 0, none⟩) ∧ FF 15 = .int .i64 (U) ∧ FF 16 = .int .i64 (V) ∧ FF 17 = .int .i64 (0) ∧ FF 18 = .pointer (some ⟨p139, 0, none⟩) ∧ FF 208 = undef ∧ FF 20 = .int .i64 (((i : Nat) : Int)) ∧ Kept (fun _ => False) w0 ww ∧ Byt ww (T_s) v (l) ∧ Owb ww (T45) v40 ((mkF (w) (h) (l)).p0) ∧ Owb ww (T46) v41 ((mkF (w) (h) (l)).p1) ∧ Owb ww (T47) v42 ((mkF (w) (h) (l)).p2) ∧ Stc ww p65 25 [.int .i64 ((mkF (w) (h) (l)).W), .int .i64 ((mkF (w) (h) (l)).H), v40, v41, v42] ∧ Blk ww p139 29 (predN (mkF w h l) K U V 0)) (16 - (0)) ⟨0, by omega, rfl, s191, s193, s194, s195, s196, s197, s198, s192, s199, K165, B160, B161, B162, B163, B164, B188⟩ ?_
    rintro n203 F200 w201 ⟨i, i204, hn203, s205, s206, s207, s208, s209, s210, s211, s212, s213, K202, B214, B215, B216, B217, B218, B219⟩
    refine wq_seq ?_
    refine wq_seq ?_
    refine wq_region ?_
    refine wl_v (.int .i64 (((i : Nat) : Int))) rfl rfl (y_mov rfl s213 ⟨rfl, rfl⟩) ?_
    refine wl_v (.bool (decide ((((i : Nat) : Int)) < (16)))) rfl rfl (y_lss rfl rfl rfl rfl ⟨rfl, rfl⟩) ?_
    refine wl_nil fun F220 hF221 => ?_
    have s222 : F220 3 = .int .u8 (((p : Nat) : Int)) := (hF221 3).trans s205
    have s223 : F220 13 = .bool true := (hF221 13).trans s206
    have s224 : F220 14 = .pointer (some ⟨p65, 0, none⟩) := (hF221 14).trans s207
    have s225 : F220 15 = .int .i64 (U) := (hF221 15).trans s208
    have s226 : F220 16 = .int .i64 (V) := (hF221 16).trans s209
    have s227 : F220 17 = .int .i64 (0) := (hF221 17).trans s210
    have s228 : F220 18 = .pointer (some ⟨p139, 0, none⟩) := (hF221 18).trans s211
    have s229 : F220 208 = undef := (hF221 208).trans s212
    have s230 : F220 20 = .int .i64 (((i : Nat) : Int)) := (hF221 20).trans s213
    have s231 : F220 64 = .bool (decide ((((i : Nat) : Int)) < (16))) := (hF221 64).trans rfl
    clear hF221
    refine then_normal ?_
    refine wq_cond s231 (fun c232 => ?_) (fun c232 => ?_)
    · replace c232 := of_decide_eq_true c232
      refine wq_skip ?_
      refine then_normal ?_
      refine wq_seq ?_
      refine wq_block ?_
      refine wq_seq ?_
      refine wq_said [some 67, some 68, some 69, some 70, some 71, some 72, some 73, some 74, some 75, some 76, some 77, some 78, some 79, some 80, some 81, some 82, some 83, some 84, some 85, some 86, some 87, some 88, some 89, some 90, some 91, some 92, some 93, some 94, some 95, some 96, some 97, some 98, some 99, some 100, some 101, some 102, some 103, some 104, some 105, some 106, some 107, some 108, some 109, some 21] [Pd.eq (.int .i64 (0)), Pd.eq (.bool true), Pd.eq (.bool true), Pd.eq (.int .i64 (((i : Nat) : Int))), Pd.eq (.pointer (some ⟨p139, i, none⟩)), Pd.eq (.int .i64 ((predN (mkF w h l) K U V 0) (i))), Pd.eq (.pointer (some ⟨p139, 0, none⟩)), Pd.eq (.int .i64 ((predN (mkF w h l) K U V 0) (0))), Pd.eq (.bool true), Pd.eq (.bool true), Pd.eq (.bool true), Pd.eq undef, Pd.eq undef, Pd.eq undef, Pd.eq undef, Pd.eq undef, Pd.eq undef, Pd.eq undef, Pd.eq undef, Pd.eq undef, Pd.eq undef, Pd.eq undef, Pd.eq undef, Pd.eq (.bool true), Pd.eq (.bool true), Pd.eq undef, Pd.eq undef, Pd.eq undef, Pd.eq undef, Pd.eq undef, Pd.eq undef, Pd.eq undef, Pd.eq undef, Pd.eq undef, Pd.eq undef, Pd.eq undef, Pd.eq undef, Pd.eq undef, Pd.eq (.bool true), Pd.eq (.bool true), Pd.eq undef, Pd.eq undef, Pd.eq (.bool true), Pd.eq (.bool true)] (by kernel_rfl) (by kernel_rfl) ?_ ?_
      · refine stepsF_cons ?_ ?_
        · refine StepF.one rfl fun F_ w_ hR hout hD => ?_
          exact (y_mov rfl ((hout 17 rfl (by decide)).trans s227) ⟨rfl, Kept.refl _ _⟩)
        refine stepsF_cons ?_ ?_
        · refine StepF.one rfl fun F_ w_ hR hout hD => ?_
          have g67 : F_ 67 = .int .i64 (0) := hD.get 0 rfl rfl rfl
          exact (y_eqlI rfl g67 rfl rfl ⟨rfl, Kept.refl _ _⟩)
        refine stepsF_cons ?_ ?_
        · refine StepF.one rfl fun F_ w_ hR hout hD => ?_
          have g68 : F_ 68 = .bool true := hD.get 0 rfl rfl rfl
          exact (y_mov rfl g68 ⟨rfl, Kept.refl _ _⟩)
        refine stepsF_cons ?_ ?_
        · refine StepF.when 2 true 69 rfl rfl fun F_ w_ hR hout hD => ?_
          have g69 : F_ 69 = .bool true := hD.get 0 rfl rfl rfl
          exact ⟨g69, (y_mov rfl ((hout 20 rfl (by decide)).trans s230) ⟨rfl, Kept.refl _ _⟩)⟩
        refine stepsF_cons ?_ ?_
        · refine StepF.when 2 true 69 rfl rfl fun F_ w_ hR hout hD => ?_
          have g69 : F_ 69 = .bool true := hD.get 1 rfl rfl rfl
          have g70 : F_ 70 = .int .i64 (((i : Nat) : Int)) := hD.get 0 rfl rfl rfl
          exact ⟨g69, (y_atR (i) (s := 1) rfl ((hout 18 rfl (by decide)).trans s228) g70 (by omega) Try.underlying29 (by omega) (by kernel_rfl) (by omega) ⟨rfl, Kept.refl _ _⟩)⟩
        refine stepsF_cons ?_ ?_
        · refine StepF.when 2 true 69 rfl rfl fun F_ w_ hR hout hD => ?_
          have g69 : F_ 69 = .bool true := hD.get 1 rfl rfl rfl
          have g71 : F_ 71 = .pointer (some ⟨p139, i, none⟩) := hD.get 0 rfl rfl rfl
          exact ⟨g69, (y_ldR rfl g71 Try.underlying3 (((B219.all hR id)).cell (by omega)) ⟨rfl, Kept.refl _ _⟩)⟩
        refine stepsF_cons ?_ ?_
        · refine StepF.when 2 true 69 rfl rfl fun F_ w_ hR hout hD => ?_
          have g69 : F_ 69 = .bool true := hD.get 0 rfl rfl rfl
          exact ⟨g69, (y_atR (0) (s := 1) rfl ((hout 18 rfl (by decide)).trans s228) rfl (by omega) Try.underlying29 (by omega) (by kernel_rfl) (by omega) ⟨rfl, Kept.refl _ _⟩)⟩
        refine stepsF_cons ?_ ?_
        · refine StepF.when 2 true 69 rfl rfl fun F_ w_ hR hout hD => ?_
          have g69 : F_ 69 = .bool true := hD.get 1 rfl rfl rfl
          have g73 : F_ 73 = .pointer (some ⟨p139, 0, none⟩) := hD.get 0 rfl rfl rfl
          exact ⟨g69, (y_ldR rfl g73 Try.underlying3 (((B219.all hR id)).cell (by omega)) ⟨rfl, Kept.refl _ _⟩)⟩
        refine stepsF_cons ?_ ?_
        · refine StepF.when 2 true 69 rfl rfl fun F_ w_ hR hout hD => ?_
          have g69 : F_ 69 = .bool true := hD.get 2 rfl rfl rfl
          have g72 : F_ 72 = .int .i64 ((predN (mkF w h l) K U V 0) (i)) := hD.get 0 rfl rfl rfl
          have g74 : F_ 74 = .int .i64 ((predN (mkF w h l) K U V 0) (0)) := hD.get 1 rfl rfl rfl
          exact ⟨g69, (y_eqlI rfl g72 g74 (decide_eq_true (alike_0 _ _ _ _ i)) ⟨rfl, Kept.refl _ _⟩)⟩
        refine stepsF_cons ?_ ?_
        · refine StepF.one rfl fun F_ w_ hR hout hD => ?_
          have g69 : F_ 69 = .bool true := hD.get 0 rfl rfl rfl
          have g75 : F_ 75 = .bool true := hD.get 1 rfl rfl rfl
          exact (y_pickT rfl g69 g75 ⟨rfl, Kept.refl _ _⟩)
        refine stepsF_cons ?_ ?_
        · refine StepF.one rfl fun F_ w_ hR hout hD => ?_
          have g76 : F_ 76 = .bool true := hD.get 0 rfl rfl rfl
          exact (y_mov rfl g76 ⟨rfl, Kept.refl _ _⟩)
        refine stepsF_cons ?_ ?_
        · refine StepF.unless 10 false 77 rfl rfl fun F_ w_ hR hout hD => ?_
          have g77 : F_ 77 = .bool true := hD.get 0 rfl rfl rfl
          exact ⟨Or.inl g77, rfl⟩
        refine stepsF_cons ?_ ?_
        · refine StepF.unless 10 false 77 rfl rfl fun F_ w_ hR hout hD => ?_
          have g77 : F_ 77 = .bool true := hD.get 1 rfl rfl rfl
          exact ⟨Or.inl g77, rfl⟩
        refine stepsF_cons ?_ ?_
        · refine StepF.unless 10 false 77 rfl rfl fun F_ w_ hR hout hD => ?_
          have g77 : F_ 77 = .bool true := hD.get 1 rfl rfl rfl
          exact ⟨Or.inl g77, rfl⟩
        refine stepsF_cons ?_ ?_
        · refine StepF.unless 13 true 80 rfl rfl fun F_ w_ hR hout hD => ?_
          have g80 : F_ 80 = undef := hD.get 0 rfl rfl rfl
          exact ⟨Or.inr g80, rfl⟩
        refine stepsF_cons ?_ ?_
        · refine StepF.unless 13 true 80 rfl rfl fun F_ w_ hR hout hD => ?_
          have g80 : F_ 80 = undef := hD.get 1 rfl rfl rfl
          exact ⟨Or.inr g80, rfl⟩
        refine stepsF_cons ?_ ?_
        · refine StepF.unless 13 true 80 rfl rfl fun F_ w_ hR hout hD => ?_
          have g80 : F_ 80 = undef := hD.get 1 rfl rfl rfl
          exact ⟨Or.inr g80, rfl⟩
        refine stepsF_cons ?_ ?_
        · refine StepF.unless 13 true 80 rfl rfl fun F_ w_ hR hout hD => ?_
          have g80 : F_ 80 = undef := hD.get 0 rfl rfl rfl
          exact ⟨Or.inr g80, rfl⟩
        refine stepsF_cons ?_ ?_
        · refine StepF.unless 13 true 80 rfl rfl fun F_ w_ hR hout hD => ?_
          have g80 : F_ 80 = undef := hD.get 1 rfl rfl rfl
          exact ⟨Or.inr g80, rfl⟩
        refine stepsF_cons ?_ ?_
        · refine StepF.unless 13 true 80 rfl rfl fun F_ w_ hR hout hD => ?_
          have g80 : F_ 80 = undef := hD.get 1 rfl rfl rfl
          exact ⟨Or.inr g80, rfl⟩
        refine stepsF_cons ?_ ?_
        · refine StepF.unless 13 true 80 rfl rfl fun F_ w_ hR hout hD => ?_
          have g80 : F_ 80 = undef := hD.get 1 rfl rfl rfl
          exact ⟨Or.inr g80, rfl⟩
        refine stepsF_cons ?_ ?_
        · refine StepF.unless 13 true 80 rfl rfl fun F_ w_ hR hout hD => ?_
          have g80 : F_ 80 = undef := hD.get 2 rfl rfl rfl
          exact ⟨Or.inr g80, rfl⟩
        refine stepsF_cons ?_ ?_
        · refine StepF.unless 10 false 77 rfl rfl fun F_ w_ hR hout hD => ?_
          have g77 : F_ 77 = .bool true := hD.get 2 rfl rfl rfl
          exact ⟨Or.inl g77, rfl⟩
        refine stepsF_cons ?_ ?_
        · refine StepF.one rfl fun F_ w_ hR hout hD => ?_
          have g77 : F_ 77 = .bool true := hD.get 0 rfl rfl rfl
          exact (y_pickT rfl g77 rfl ⟨rfl, Kept.refl _ _⟩)
        refine stepsF_cons ?_ ?_
        · refine StepF.one rfl fun F_ w_ hR hout hD => ?_
          have g90 : F_ 90 = .bool true := hD.get 0 rfl rfl rfl
          exact (y_mov rfl g90 ⟨rfl, Kept.refl _ _⟩)
        refine stepsF_cons ?_ ?_
        · refine StepF.unless 24 false 91 rfl rfl fun F_ w_ hR hout hD => ?_
          have g91 : F_ 91 = .bool true := hD.get 0 rfl rfl rfl
          exact ⟨Or.inl g91, rfl⟩
        refine stepsF_cons ?_ ?_
        · refine StepF.unless 24 false 91 rfl rfl fun F_ w_ hR hout hD => ?_
          have g91 : F_ 91 = .bool true := hD.get 1 rfl rfl rfl
          exact ⟨Or.inl g91, rfl⟩
        refine stepsF_cons ?_ ?_
        · refine StepF.unless 24 false 91 rfl rfl fun F_ w_ hR hout hD => ?_
          have g91 : F_ 91 = .bool true := hD.get 1 rfl rfl rfl
          exact ⟨Or.inl g91, rfl⟩
        refine stepsF_cons ?_ ?_
        · refine StepF.unless 27 true 94 rfl rfl fun F_ w_ hR hout hD => ?_
          have g94 : F_ 94 = undef := hD.get 0 rfl rfl rfl
          exact ⟨Or.inr g94, rfl⟩
        refine stepsF_cons ?_ ?_
        · refine StepF.unless 27 true 94 rfl rfl fun F_ w_ hR hout hD => ?_
          have g94 : F_ 94 = undef := hD.get 1 rfl rfl rfl
          exact ⟨Or.inr g94, rfl⟩
        refine stepsF_cons ?_ ?_
        · refine StepF.unless 27 true 94 rfl rfl fun F_ w_ hR hout hD => ?_
          have g94 : F_ 94 = undef := hD.get 1 rfl rfl rfl
          exact ⟨Or.inr g94, rfl⟩
        refine stepsF_cons ?_ ?_
        · refine StepF.unless 27 true 94 rfl rfl fun F_ w_ hR hout hD => ?_
          have g94 : F_ 94 = undef := hD.get 0 rfl rfl rfl
          exact ⟨Or.inr g94, rfl⟩
        refine stepsF_cons ?_ ?_
        · refine StepF.unless 27 true 94 rfl rfl fun F_ w_ hR hout hD => ?_
          have g94 : F_ 94 = undef := hD.get 1 rfl rfl rfl
          exact ⟨Or.inr g94, rfl⟩
        refine stepsF_cons ?_ ?_
        · refine StepF.unless 27 true 94 rfl rfl fun F_ w_ hR hout hD => ?_
          have g94 : F_ 94 = undef := hD.get 1 rfl rfl rfl
          exact ⟨Or.inr g94, rfl⟩
        refine stepsF_cons ?_ ?_
        · refine StepF.unless 27 true 94 rfl rfl fun F_ w_ hR hout hD => ?_
          have g94 : F_ 94 = undef := hD.get 1 rfl rfl rfl
          exact ⟨Or.inr g94, rfl⟩
        refine stepsF_cons ?_ ?_
        · refine StepF.unless 27 true 94 rfl rfl fun F_ w_ hR hout hD => ?_
          have g94 : F_ 94 = undef := hD.get 1 rfl rfl rfl
          exact ⟨Or.inr g94, rfl⟩
        refine stepsF_cons ?_ ?_
        · refine StepF.unless 27 true 94 rfl rfl fun F_ w_ hR hout hD => ?_
          have g94 : F_ 94 = undef := hD.get 2 rfl rfl rfl
          exact ⟨Or.inr g94, rfl⟩
        refine stepsF_cons ?_ ?_
        · refine StepF.unless 24 false 91 rfl rfl fun F_ w_ hR hout hD => ?_
          have g91 : F_ 91 = .bool true := hD.get 2 rfl rfl rfl
          exact ⟨Or.inl g91, rfl⟩
        refine stepsF_cons ?_ ?_
        · refine StepF.one rfl fun F_ w_ hR hout hD => ?_
          have g91 : F_ 91 = .bool true := hD.get 0 rfl rfl rfl
          exact (y_pickT rfl g91 rfl ⟨rfl, Kept.refl _ _⟩)
        refine stepsF_cons ?_ ?_
        · refine StepF.one rfl fun F_ w_ hR hout hD => ?_
          have g105 : F_ 105 = .bool true := hD.get 0 rfl rfl rfl
          exact (y_mov rfl g105 ⟨rfl, Kept.refl _ _⟩)
        refine stepsF_cons ?_ ?_
        · refine StepF.unless 39 false 106 rfl rfl fun F_ w_ hR hout hD => ?_
          have g106 : F_ 106 = .bool true := hD.get 0 rfl rfl rfl
          exact ⟨Or.inl g106, rfl⟩
        refine stepsF_cons ?_ ?_
        · refine StepF.unless 39 false 106 rfl rfl fun F_ w_ hR hout hD => ?_
          have g106 : F_ 106 = .bool true := hD.get 1 rfl rfl rfl
          exact ⟨Or.inl g106, rfl⟩
        refine stepsF_cons ?_ ?_
        · refine StepF.one rfl fun F_ w_ hR hout hD => ?_
          have g106 : F_ 106 = .bool true := hD.get 0 rfl rfl rfl
          exact (y_pickT rfl g106 rfl ⟨rfl, Kept.refl _ _⟩)
        refine stepsF_cons ?_ ?_
        · refine StepF.one rfl fun F_ w_ hR hout hD => ?_
          have g109 : F_ 109 = .bool true := hD.get 0 rfl rfl rfl
          exact (y_asg rfl g109 ⟨rfl, Kept.refl _ _⟩)
        exact stepsF_nil
      intro v233 F234 w235 k236 G237 hF238
      have B240 := B214.all k236 Apart.none
      have B241 := B215.all k236 Apart.none
      have B242 := B216.all k236 Apart.none
      have B243 := B217.all k236 Apart.none
      have B244 := B218.all k236 id
      have B245 := B219.all k236 id
      have K246 := K202.trans k236 (fun _ _ x => x.elim)
      have s247 : F234 3 = .int .u8 (((p : Nat) : Int)) := (hF238 3).trans s222
      have s248 : F234 13 = .bool true := (hF238 13).trans s223
      have s249 : F234 14 = .pointer (some ⟨p65, 0, none⟩) := (hF238 14).trans s224
      have s250 : F234 15 = .int .i64 (U) := (hF238 15).trans s225
      have s251 : F234 16 = .int .i64 (V) := (hF238 16).trans s226
      have s252 : F234 17 = .int .i64 (0) := (hF238 17).trans s227
      have s253 : F234 18 = .pointer (some ⟨p139, 0, none⟩) := (hF238 18).trans s228
      have s254 : F234 208 = undef := (hF238 208).trans s229
      have s255 : F234 20 = .int .i64 (((i : Nat) : Int)) := (hF238 20).trans s230
      have s256 : F234 21 = .bool true := (hF238 21).trans (G237 43 (by decide))
      clear G237 hF238
      refine then_normal ?_
      refine wq_seq ?_
      have hle := predN_le hb K U V 0 i
      refine wq_region ?_
      refine wl_v (.int .i64 (((i : Nat) : Int))) rfl rfl (y_mov rfl s255 ⟨rfl, rfl⟩) ?_
      refine wl_v (.pointer (some ⟨p139, i, none⟩)) rfl rfl (y_atR (i) (s := 1) rfl s253 rfl (by omega) Try.underlying29 (by omega) (by kernel_rfl) (by omega) ⟨rfl, rfl⟩) ?_
      refine wl_v (.int .i64 ((predN (mkF w h l) K U V 0) (i))) rfl rfl (y_ldR rfl rfl Try.underlying3 ((B245).cell (by omega)) ⟨rfl, rfl⟩) ?_
      refine wl_v (.bool false) rfl rfl (y_lss rfl rfl rfl (decide_eq_false (by omega)) ⟨rfl, rfl⟩) ?_
      refine wl_v (.bool false) rfl rfl (y_mov rfl rfl ⟨rfl, rfl⟩) ?_
      refine wl_vw (.int .i64 (((i : Nat) : Int))) 4 false 114 rfl rfl rfl rfl rfl (y_mov rfl s255 ⟨rfl, rfl⟩) ?_
      refine wl_vw (.pointer (some ⟨p139, i, none⟩)) 4 false 114 rfl rfl rfl rfl rfl (y_atR (i) (s := 1) rfl s253 rfl (by omega) Try.underlying29 (by omega) (by kernel_rfl) (by omega) ⟨rfl, rfl⟩) ?_
      refine wl_vw (.int .i64 ((predN (mkF w h l) K U V 0) (i))) 4 false 114 rfl rfl rfl rfl rfl (y_ldR rfl rfl Try.underlying3 ((B245).cell (by omega)) ⟨rfl, rfl⟩) ?_
      refine wl_vw (.bool false) 4 false 114 rfl rfl rfl rfl rfl (y_gtr rfl rfl rfl (decide_eq_false (by omega)) ⟨rfl, rfl⟩) ?_
      refine wl_v (.bool false) rfl rfl (y_pickF rfl rfl rfl ⟨rfl, rfl⟩) ?_
      refine wl_v (.bool false) rfl rfl (y_mov rfl rfl ⟨rfl, rfl⟩) ?_
      refine wl_vw (.bool true) 10 false 120 rfl rfl rfl rfl rfl (y_mov rfl s256 ⟨rfl, rfl⟩) ?_
      refine wl_vw (.bool false) 10 false 120 rfl rfl rfl rfl rfl (y_not rfl rfl rfl ⟨rfl, rfl⟩) ?_
      refine wl_v (.bool false) rfl rfl (y_pickF rfl rfl rfl ⟨rfl, rfl⟩) ?_
      refine wl_nil fun F257 hF258 => ?_
      have s259 : F257 3 = .int .u8 (((p : Nat) : Int)) := (hF258 3).trans s247
      have s260 : F257 13 = .bool true := (hF258 13).trans s248
      have s261 : F257 14 = .pointer (some ⟨p65, 0, none⟩) := (hF258 14).trans s249
      have s262 : F257 15 = .int .i64 (U) := (hF258 15).trans s250
      have s263 : F257 16 = .int .i64 (V) := (hF258 16).trans s251
      have s264 : F257 17 = .int .i64 (0) := (hF258 17).trans s252
      have s265 : F257 18 = .pointer (some ⟨p139, 0, none⟩) := (hF258 18).trans s253
      have s266 : F257 208 = undef := (hF258 208).trans s254
      have s267 : F257 20 = .int .i64 (((i : Nat) : Int)) := (hF258 20).trans s255
      have s268 : F257 123 = .bool false := (hF258 123).trans rfl
      clear hF258
      refine then_normal ?_
      refine wq_cond (t := false) s268 (fun e => by cases e) (fun _ => ?_)
      refine wq_skip ?_
      refine in_normal ?_
      refine then_normal ?_
      refine wq_region ?_
      refine wl_v (.int .i64 (((i : Nat) : Int))) rfl rfl (y_mov rfl s267 ⟨rfl, rfl⟩) ?_
      refine wl_v (.int .i64 (((i + 1 : Nat) : Int))) rfl rfl (y_add rfl rfl rfl (i64_n (by omega) (by omega)) ⟨rfl, rfl⟩) ?_
      refine wl_v (.int .i64 (((i + 1 : Nat) : Int))) rfl rfl (y_asg rfl rfl ⟨rfl, rfl⟩) ?_
      refine wl_nil fun F269 hF270 => ?_
      have s271 : F269 3 = .int .u8 (((p : Nat) : Int)) := (hF270 3).trans s259
      have s272 : F269 13 = .bool true := (hF270 13).trans s260
      have s273 : F269 14 = .pointer (some ⟨p65, 0, none⟩) := (hF270 14).trans s261
      have s274 : F269 15 = .int .i64 (U) := (hF270 15).trans s262
      have s275 : F269 16 = .int .i64 (V) := (hF270 16).trans s263
      have s276 : F269 17 = .int .i64 (0) := (hF270 17).trans s264
      have s277 : F269 18 = .pointer (some ⟨p139, 0, none⟩) := (hF270 18).trans s265
      have s278 : F269 208 = undef := (hF270 208).trans s266
      have s279 : F269 20 = .int .i64 (((i + 1 : Nat) : Int)) := (hF270 20).trans rfl
      clear hF270
      exact then_normal ⟨(16 - (i + 1)), by omega, i + 1, by omega, rfl, s271, s272, s273, s274, s275, s276, s277, s278, s279, K246, B240, B241, B242, B243, B244, B245⟩
    · replace c232 := of_decide_eq_false c232
      refine wq_exit ?_
      refine then_exit ?_
      refine then_exit ?_
      have l280 : 16 = i := by omega
      subst l280
      refine in_here ?_
      refine in_normal ?_
      refine then_normal ?_
      refine wq_region ?_
      refine wl_v (.int .i64 (0)) rfl rfl (y_mov rfl s227 ⟨rfl, rfl⟩) ?_
      refine wl_v (.int .i64 (((1 : Nat) : Int))) rfl rfl (y_add rfl rfl rfl (i64_n (by omega) (by omega)) ⟨rfl, rfl⟩) ?_
      refine wl_v (.int .i64 (((1 : Nat) : Int))) rfl rfl (y_asg rfl rfl ⟨rfl, rfl⟩) ?_
      refine wl_nil fun F281 hF282 => ?_
      have s283 : F281 3 = .int .u8 (((p : Nat) : Int)) := (hF282 3).trans s222
      have s284 : F281 13 = .bool true := (hF282 13).trans s223
      have s285 : F281 14 = .pointer (some ⟨p65, 0, none⟩) := (hF282 14).trans s224
      have s286 : F281 15 = .int .i64 (U) := (hF282 15).trans s225
      have s287 : F281 16 = .int .i64 (V) := (hF282 16).trans s226
      have s288 : F281 208 = undef := (hF282 208).trans s229
      have s289 : F281 17 = .int .i64 (((1 : Nat) : Int)) := (hF282 17).trans rfl
      clear hF282
      refine then_normal ?_
      refine wqr_step ?_
      refine wq_seq ?_
      refine wq_seq ?_
      refine wq_region ?_
      refine wl_v (.int .i64 (((1 : Nat) : Int))) rfl rfl (y_mov rfl s289 ⟨rfl, rfl⟩) ?_
      refine wl_v (.bool true) rfl rfl (y_lss rfl rfl rfl rfl ⟨rfl, rfl⟩) ?_
      refine wl_nil fun F290 hF291 => ?_
      have s292 : F290 3 = .int .u8 (((p : Nat) : Int)) := (hF291 3).trans s283
      have s293 : F290 13 = .bool true := (hF291 13).trans s284
      have s294 : F290 14 = .pointer (some ⟨p65, 0, none⟩) := (hF291 14).trans s285
      have s295 : F290 15 = .int .i64 (U) := (hF291 15).trans s286
      have s296 : F290 16 = .int .i64 (V) := (hF291 16).trans s287
      have s297 : F290 208 = undef := (hF291 208).trans s288
      have s298 : F290 17 = .int .i64 (((1 : Nat) : Int)) := (hF291 17).trans s289
      have s299 : F290 47 = .bool true := (hF291 47).trans rfl
      clear hF291
      refine then_normal ?_
      refine wq_cond (t := true) s299 (fun _ => ?_) (fun e => by cases e)
      refine wq_skip ?_
      refine then_normal ?_
      refine wq_seq ?_
      refine wq_block ?_
      refine wq_seq ?_
      refine wq_region ?_
      refine wl_v (.agg #[.int .i64 ((mkF (w) (h) (l)).W), .int .i64 ((mkF (w) (h) (l)).H), v40, v41, v42]) rfl rfl (y_load_stc stcT_frame rfl s294 B218 ⟨rfl, rfl⟩) ?_
      refine wl_v (.int .u8 (((p : Nat) : Int))) rfl rfl (y_mov rfl s292 ⟨rfl, rfl⟩) ?_
      refine wl_v (.int .i64 (((p : Nat) : Int))) rfl rfl (y_convR rfl rfl Try.underlying5 Try.underlying3 (i64_i rfl (by omega)) ⟨rfl, rfl⟩) ?_
      refine wl_v (.int .i64 (K)) rfl rfl (y_rem rfl rfl rfl (by first | decide | omega) (hK.symm) ⟨rfl, rfl⟩) ?_
      refine wl_v (.int .i64 (U)) rfl rfl (y_mov rfl s295 ⟨rfl, rfl⟩) ?_
      refine wl_v (.int .i64 (V)) rfl rfl (y_mov rfl s296 ⟨rfl, rfl⟩) ?_
      refine wl_v (.int .i64 (((1 : Nat) : Int))) rfl rfl (y_mov rfl s298 ⟨rfl, rfl⟩) ?_
      refine wl_call (R := fun v_ w_ => v_ = .tuple #[blkV (predB (mkF (w) (h) (l)) (K) (U) (V) (((1 : Nat) : Int))), .int .i64 (predE (mkF (w) (h) (l)) (K) (U) (V) (((1 : Nat) : Int)))] ∧ Kept (fun _ => False) w201 w_) rfl rfl (y_cs rfl rfl rfl (fun _ _ => by kernel_rfl) (ev_func _) (vsC rfl (vsC rfl (vsC rfl (vsC rfl (vsC rfl vsN))))) (il_predict (K) (U) (V) (((1 : Nat) : Int)) (mkF (w) (h) (l)) (v40) (v41) (v42) (T45) (T46) (T47) _  (B215).byt (B216).byt (B217).byt ) (fun e_ w_ h_ => ⟨_, h_.1, rfl, h_.2⟩)) ?_
      rintro _ w300 ⟨rfl, k301⟩
      have B302 := B214.all k301 Apart.none
      have B303 := B215.all k301 Apart.none
      have B304 := B216.all k301 Apart.none
      have B305 := B217.all k301 Apart.none
      have B306 := B218.all k301 id
      have B307 := B219.all k301 id
      have K308 := K202.trans k301 (fun _ _ x => x.elim)
      refine wl_v (.tuple #[blkV (predB (mkF (w) (h) (l)) (K) (U) (V) (((1 : Nat) : Int))), .int .i64 (predE (mkF (w) (h) (l)) (K) (U) (V) (((1 : Nat) : Int)))]) rfl rfl (y_mov rfl rfl ⟨rfl, rfl⟩) ?_
      refine wl_v (blkV (predB (mkF (w) (h) (l)) (K) (U) (V) (((1 : Nat) : Int)))) rfl rfl (y_ext rfl rfl rfl ⟨rfl, rfl⟩) ?_
      refine wl_v (.int .i64 (predE (mkF (w) (h) (l)) (K) (U) (V) (((1 : Nat) : Int)))) rfl rfl (y_ext rfl rfl rfl ⟨rfl, rfl⟩) ?_
      refine wl_alloc_blk rfl rfl rfl blkT_block.2.2 fun p309 w310 e313 B311 k312 => ?_
      have g314 := onB_new (Nat.le_of_eq e313.symm)
      have gr315 : Grew w0 noB (onB p309) := Grew.new K308 g314
      have ap316 : Apart (onB p309) (T_s) := Apart.new g314 (B302).live
      have ap317 : Apart (onB p309) (T45) := Apart.new g314 (B303).live
      have ap318 : Apart (onB p309) (T46) := Apart.new g314 (B304).live
      have ap319 : Apart (onB p309) (T47) := Apart.new g314 (B305).live
      have ap320 : Apart (onB p309) (onB p65) := Apart.new g314 (onB_live (B306).lt)
      have ap321 : Apart (onB p309) (onB p139) := Apart.new g314 (onB_live (B307).lt)
      clear e313 g314
      have B322 := B302.all k312 Apart.none
      have B323 := B303.all k312 Apart.none
      have B324 := B304.all k312 Apart.none
      have B325 := B305.all k312 Apart.none
      have B326 := B306.all k312 id
      have B327 := B307.all k312 id
      have K328 := K308.trans k312 (fun _ _ x => x.elim)
      refine wl_store_blk blkT_block rfl rfl rfl rfl rfl B311 fun w329 B330 k331 => ?_
      have B332 := B322.all k331 (fun i h x => (((ap316).symm) i h x))
      have B333 := B323.all k331 (fun i h x => (((ap317).symm) i h x))
      have B334 := B324.all k331 (fun i h x => (((ap318).symm) i h x))
      have B335 := B325.all k331 (fun i h x => (((ap319).symm) i h x))
      have B336 := B326.all k331 (fun x => (((ap320).symm) p65 rfl x))
      have B337 := B327.all k331 (fun x => (((ap321).symm) p139 rfl x))
      have K338 := K328.trans k331 (Grew.ok (S := fun _ => False) gr315 noB_le)
      refine wl_v (.int .i64 (predE (mkF (w) (h) (l)) (K) (U) (V) (((1 : Nat) : Int)))) rfl rfl (y_asg rfl rfl ⟨rfl, rfl⟩) ?_
      refine wl_nil fun F339 hF340 => ?_
      have s341 : F339 3 = .int .u8 (((p : Nat) : Int)) := (hF340 3).trans s292
      have s342 : F339 13 = .bool true := (hF340 13).trans s293
      have s343 : F339 14 = .pointer (some ⟨p65, 0, none⟩) := (hF340 14).trans s294
      have s344 : F339 15 = .int .i64 (U) := (hF340 15).trans s295
      have s345 : F339 16 = .int .i64 (V) := (hF340 16).trans s296
      have s346 : F339 208 = undef := (hF340 208).trans s297
      have s347 : F339 17 = .int .i64 (((1 : Nat) : Int)) := (hF340 17).trans s298
      have s348 : F339 18 = .pointer (some ⟨p309, 0, none⟩) := (hF340 18).trans rfl
      have s349 : F339 19 = .int .i64 (predE (mkF (w) (h) (l)) (K) (U) (V) (((1 : Nat) : Int))) := (hF340 19).trans rfl
      clear hF340
      refine then_normal ?_
      refine wq_seq ?_
      refine wq_seq ?_
      refine wq_region ?_
      refine wl_v (.int .i64 (predE (mkF (w) (h) (l)) (K) (U) (V) (((1 : Nat) : Int)))) rfl rfl (y_mov rfl s349 ⟨rfl, rfl⟩) ?_
      refine wl_v (.bool false) rfl rfl (y_neqI rfl rfl rfl (decide_eq_false (fun h => h (pred_yes (mode := 1) hpl (by decide)).1)) ⟨rfl, rfl⟩) ?_
      refine wl_nil fun F350 hF351 => ?_
      have s352 : F350 3 = .int .u8 (((p : Nat) : Int)) := (hF351 3).trans s341
      have s353 : F350 13 = .bool true := (hF351 13).trans s342
      have s354 : F350 14 = .pointer (some ⟨p65, 0, none⟩) := (hF351 14).trans s343
      have s355 : F350 15 = .int .i64 (U) := (hF351 15).trans s344
      have s356 : F350 16 = .int .i64 (V) := (hF351 16).trans s345
      have s357 : F350 208 = undef := (hF351 208).trans s346
      have s358 : F350 17 = .int .i64 (((1 : Nat) : Int)) := (hF351 17).trans s347
      have s359 : F350 18 = .pointer (some ⟨p309, 0, none⟩) := (hF351 18).trans s348
      have s360 : F350 62 = .bool false := (hF351 62).trans rfl
      clear hF351
      refine then_normal ?_
      refine wq_cond (t := false) s360 (fun e => by cases e) (fun _ => ?_)
      refine wq_skip ?_
      refine then_normal ?_
      refine wq_seq ?_
      have B361 : Blk w329 p309 29 (predN (mkF w h l) K U V 1) := ((by rw [← (pred_yes (mode := 1) hpl (by decide)).2]; exact B330))
      refine wq_region ?_
      refine wl_v (.int .i64 (0)) rfl rfl (y_asg rfl rfl ⟨rfl, rfl⟩) ?_
      refine wl_nil fun F362 hF363 => ?_
      have s364 : F362 3 = .int .u8 (((p : Nat) : Int)) := (hF363 3).trans s352
      have s365 : F362 13 = .bool true := (hF363 13).trans s353
      have s366 : F362 14 = .pointer (some ⟨p65, 0, none⟩) := (hF363 14).trans s354
      have s367 : F362 15 = .int .i64 (U) := (hF363 15).trans s355
      have s368 : F362 16 = .int .i64 (V) := (hF363 16).trans s356
      have s369 : F362 208 = undef := (hF363 208).trans s357
      have s370 : F362 17 = .int .i64 (((1 : Nat) : Int)) := (hF363 17).trans s358
      have s371 : F362 18 = .pointer (some ⟨p309, 0, none⟩) := (hF363 18).trans s359
      have s372 : F362 20 = .int .i64 (0) := (hF363 20).trans rfl
      clear hF363
      refine then_normal ?_
      refine wq_block ?_
      refine wq_loop (fun nn FF ww => ∃ (i : Nat), (i ≤ 16) ∧ nn = 16 - i ∧ FF 3 = .int .u8 (((p : Nat) : Int)) ∧ FF 13 = .bool true ∧ FF 14 = .pointer (some ⟨p65, 0, none⟩) ∧ FF 15 = .int .i64 (U) ∧ FF 16 = .int .i64 (V) ∧ FF 17 = .int .i64 (((1 : Nat) : Int)) ∧ FF 18 = .pointer (some ⟨p309, 0, none⟩) ∧ FF 208 = undef ∧ FF 20 = .int .i64 (((i : Nat) : Int)) ∧ Kept (fun _ => False) w0 ww ∧ Byt ww (T_s) v (l) ∧ Owb ww (T45) v40 ((mkF (w) (h) (l)).p0) ∧ Owb ww (T46) v41 ((mkF (w) (h) (l)).p1) ∧ Owb ww (T47) v42 ((mkF (w) (h) (l)).p2) ∧ Stc ww p65 25 [.int .i64 ((mkF (w) (h) (l)).W), .int .i64 ((mkF (w) (h) (l)).H), v40, v41, v42] ∧ Blk ww p139 29 (predN (mkF w h l) K U V 0) ∧ Blk ww p309 29 (predN (mkF w h l) K U V 1)) (16 - (0)) ⟨0, by omega, rfl, s364, s365, s366, s367, s368, s370, s371, s369, s372, K338, B332, B333, B334, B335, B336, B337, B361⟩ ?_
      rintro n376 F373 w374 ⟨i, i377, hn376, s378, s379, s380, s381, s382, s383, s384, s385, s386, K375, B387, B388, B389, B390, B391, B392, B393⟩
      refine wq_seq ?_
      refine wq_seq ?_
      refine wq_region ?_
      refine wl_v (.int .i64 (((i : Nat) : Int))) rfl rfl (y_mov rfl s386 ⟨rfl, rfl⟩) ?_
      refine wl_v (.bool (decide ((((i : Nat) : Int)) < (16)))) rfl rfl (y_lss rfl rfl rfl rfl ⟨rfl, rfl⟩) ?_
      refine wl_nil fun F394 hF395 => ?_
      have s396 : F394 3 = .int .u8 (((p : Nat) : Int)) := (hF395 3).trans s378
      have s397 : F394 13 = .bool true := (hF395 13).trans s379
      have s398 : F394 14 = .pointer (some ⟨p65, 0, none⟩) := (hF395 14).trans s380
      have s399 : F394 15 = .int .i64 (U) := (hF395 15).trans s381
      have s400 : F394 16 = .int .i64 (V) := (hF395 16).trans s382
      have s401 : F394 17 = .int .i64 (((1 : Nat) : Int)) := (hF395 17).trans s383
      have s402 : F394 18 = .pointer (some ⟨p309, 0, none⟩) := (hF395 18).trans s384
      have s403 : F394 208 = undef := (hF395 208).trans s385
      have s404 : F394 20 = .int .i64 (((i : Nat) : Int)) := (hF395 20).trans s386
      have s405 : F394 64 = .bool (decide ((((i : Nat) : Int)) < (16))) := (hF395 64).trans rfl
      clear hF395
      refine then_normal ?_
      refine wq_cond s405 (fun c406 => ?_) (fun c406 => ?_)
      · replace c406 := of_decide_eq_true c406
        refine wq_skip ?_
        refine then_normal ?_
        refine wq_seq ?_
        refine wq_block ?_
        refine wq_seq ?_
        refine wq_said [some 67, some 68, some 69, some 70, some 71, some 72, some 73, some 74, some 75, some 76, some 77, some 78, some 79, some 80, some 81, some 82, some 83, some 84, some 85, some 86, some 87, some 88, some 89, some 90, some 91, some 92, some 93, some 94, some 95, some 96, some 97, some 98, some 99, some 100, some 101, some 102, some 103, some 104, some 105, some 106, some 107, some 108, some 109, some 21] [Pd.eq (.int .i64 (((1 : Nat) : Int))), Pd.eq (.bool false), Pd.eq (.bool false), Pd.eq undef, Pd.eq undef, Pd.eq undef, Pd.eq undef, Pd.eq undef, Pd.eq undef, Pd.eq (.bool false), Pd.eq (.bool false), Pd.eq (.int .i64 (((1 : Nat) : Int))), Pd.eq (.bool true), Pd.eq (.bool true), Pd.eq (.int .i64 (((i : Nat) : Int))), Pd.eq (.pointer (some ⟨p309, i, none⟩)), Pd.eq (.int .i64 ((predN (mkF w h l) K U V 1) (i))), Pd.eq (.int .i64 (((i : Nat) : Int))), Pd.eq (.int .i64 ((((i % 4) : Nat) : Int))), Pd.eq (.pointer (some ⟨p309, (i % 4), none⟩)), Pd.eq (.int .i64 ((predN (mkF w h l) K U V 1) ((i % 4)))), Pd.eq (.bool true), Pd.eq (.bool true), Pd.eq (.bool true), Pd.eq (.bool true), Pd.eq undef, Pd.eq undef, Pd.eq undef, Pd.eq undef, Pd.eq undef, Pd.eq undef, Pd.eq undef, Pd.eq undef, Pd.eq undef, Pd.eq undef, Pd.eq undef, Pd.eq undef, Pd.eq undef, Pd.eq (.bool true), Pd.eq (.bool true), Pd.eq undef, Pd.eq undef, Pd.eq (.bool true), Pd.eq (.bool true)] (by kernel_rfl) (by kernel_rfl) ?_ ?_
        · refine stepsF_cons ?_ ?_
          · refine StepF.one rfl fun F_ w_ hR hout hD => ?_
            exact (y_mov rfl ((hout 17 rfl (by decide)).trans s401) ⟨rfl, Kept.refl _ _⟩)
          refine stepsF_cons ?_ ?_
          · refine StepF.one rfl fun F_ w_ hR hout hD => ?_
            have g67 : F_ 67 = .int .i64 (((1 : Nat) : Int)) := hD.get 0 rfl rfl rfl
            exact (y_eqlI rfl g67 rfl rfl ⟨rfl, Kept.refl _ _⟩)
          refine stepsF_cons ?_ ?_
          · refine StepF.one rfl fun F_ w_ hR hout hD => ?_
            have g68 : F_ 68 = .bool false := hD.get 0 rfl rfl rfl
            exact (y_mov rfl g68 ⟨rfl, Kept.refl _ _⟩)
          refine stepsF_cons ?_ ?_
          · refine StepF.unless 2 true 69 rfl rfl fun F_ w_ hR hout hD => ?_
            have g69 : F_ 69 = .bool false := hD.get 0 rfl rfl rfl
            exact ⟨Or.inl g69, rfl⟩
          refine stepsF_cons ?_ ?_
          · refine StepF.unless 2 true 69 rfl rfl fun F_ w_ hR hout hD => ?_
            have g69 : F_ 69 = .bool false := hD.get 1 rfl rfl rfl
            exact ⟨Or.inl g69, rfl⟩
          refine stepsF_cons ?_ ?_
          · refine StepF.unless 2 true 69 rfl rfl fun F_ w_ hR hout hD => ?_
            have g69 : F_ 69 = .bool false := hD.get 1 rfl rfl rfl
            exact ⟨Or.inl g69, rfl⟩
          refine stepsF_cons ?_ ?_
          · refine StepF.unless 2 true 69 rfl rfl fun F_ w_ hR hout hD => ?_
            have g69 : F_ 69 = .bool false := hD.get 0 rfl rfl rfl
            exact ⟨Or.inl g69, rfl⟩
          refine stepsF_cons ?_ ?_
          · refine StepF.unless 2 true 69 rfl rfl fun F_ w_ hR hout hD => ?_
            have g69 : F_ 69 = .bool false := hD.get 1 rfl rfl rfl
            exact ⟨Or.inl g69, rfl⟩
          refine stepsF_cons ?_ ?_
          · refine StepF.unless 2 true 69 rfl rfl fun F_ w_ hR hout hD => ?_
            have g69 : F_ 69 = .bool false := hD.get 2 rfl rfl rfl
            exact ⟨Or.inl g69, rfl⟩
          refine stepsF_cons ?_ ?_
          · refine StepF.one rfl fun F_ w_ hR hout hD => ?_
            have g69 : F_ 69 = .bool false := hD.get 0 rfl rfl rfl
            exact (y_pickF rfl g69 rfl ⟨rfl, Kept.refl _ _⟩)
          refine stepsF_cons ?_ ?_
          · refine StepF.one rfl fun F_ w_ hR hout hD => ?_
            have g76 : F_ 76 = .bool false := hD.get 0 rfl rfl rfl
            exact (y_mov rfl g76 ⟨rfl, Kept.refl _ _⟩)
          refine stepsF_cons ?_ ?_
          · refine StepF.when 10 false 77 rfl rfl fun F_ w_ hR hout hD => ?_
            have g77 : F_ 77 = .bool false := hD.get 0 rfl rfl rfl
            exact ⟨g77, (y_mov rfl ((hout 17 rfl (by decide)).trans s401) ⟨rfl, Kept.refl _ _⟩)⟩
          refine stepsF_cons ?_ ?_
          · refine StepF.when 10 false 77 rfl rfl fun F_ w_ hR hout hD => ?_
            have g77 : F_ 77 = .bool false := hD.get 1 rfl rfl rfl
            have g78 : F_ 78 = .int .i64 (((1 : Nat) : Int)) := hD.get 0 rfl rfl rfl
            exact ⟨g77, (y_eqlI rfl g78 rfl rfl ⟨rfl, Kept.refl _ _⟩)⟩
          refine stepsF_cons ?_ ?_
          · refine StepF.when 10 false 77 rfl rfl fun F_ w_ hR hout hD => ?_
            have g77 : F_ 77 = .bool false := hD.get 1 rfl rfl rfl
            have g79 : F_ 79 = .bool true := hD.get 0 rfl rfl rfl
            exact ⟨g77, (y_mov rfl g79 ⟨rfl, Kept.refl _ _⟩)⟩
          refine stepsF_cons ?_ ?_
          · refine StepF.when 13 true 80 rfl rfl fun F_ w_ hR hout hD => ?_
            have g80 : F_ 80 = .bool true := hD.get 0 rfl rfl rfl
            exact ⟨g80, (y_mov rfl ((hout 20 rfl (by decide)).trans s404) ⟨rfl, Kept.refl _ _⟩)⟩
          refine stepsF_cons ?_ ?_
          · refine StepF.when 13 true 80 rfl rfl fun F_ w_ hR hout hD => ?_
            have g80 : F_ 80 = .bool true := hD.get 1 rfl rfl rfl
            have g81 : F_ 81 = .int .i64 (((i : Nat) : Int)) := hD.get 0 rfl rfl rfl
            exact ⟨g80, (y_atR (i) (s := 1) rfl ((hout 18 rfl (by decide)).trans s402) g81 (by omega) Try.underlying29 (by omega) (by kernel_rfl) (by omega) ⟨rfl, Kept.refl _ _⟩)⟩
          refine stepsF_cons ?_ ?_
          · refine StepF.when 13 true 80 rfl rfl fun F_ w_ hR hout hD => ?_
            have g80 : F_ 80 = .bool true := hD.get 1 rfl rfl rfl
            have g82 : F_ 82 = .pointer (some ⟨p309, i, none⟩) := hD.get 0 rfl rfl rfl
            exact ⟨g80, (y_ldR rfl g82 Try.underlying3 (((B393.all hR id)).cell (by omega)) ⟨rfl, Kept.refl _ _⟩)⟩
          refine stepsF_cons ?_ ?_
          · refine StepF.when 13 true 80 rfl rfl fun F_ w_ hR hout hD => ?_
            have g80 : F_ 80 = .bool true := hD.get 0 rfl rfl rfl
            exact ⟨g80, (y_mov rfl ((hout 20 rfl (by decide)).trans s404) ⟨rfl, Kept.refl _ _⟩)⟩
          refine stepsF_cons ?_ ?_
          · refine StepF.when 13 true 80 rfl rfl fun F_ w_ hR hout hD => ?_
            have g80 : F_ 80 = .bool true := hD.get 1 rfl rfl rfl
            have g84 : F_ 84 = .int .i64 (((i : Nat) : Int)) := hD.get 0 rfl rfl rfl
            exact ⟨g80, (y_rem rfl g84 rfl (by first | decide | omega) (rem_nat i 4) ⟨rfl, Kept.refl _ _⟩)⟩
          refine stepsF_cons ?_ ?_
          · refine StepF.when 13 true 80 rfl rfl fun F_ w_ hR hout hD => ?_
            have g80 : F_ 80 = .bool true := hD.get 1 rfl rfl rfl
            have g85 : F_ 85 = .int .i64 ((((i % 4) : Nat) : Int)) := hD.get 0 rfl rfl rfl
            exact ⟨g80, (y_atR ((i % 4)) (s := 1) rfl ((hout 18 rfl (by decide)).trans s402) g85 (by omega) Try.underlying29 (by omega) (by kernel_rfl) (by omega) ⟨rfl, Kept.refl _ _⟩)⟩
          refine stepsF_cons ?_ ?_
          · refine StepF.when 13 true 80 rfl rfl fun F_ w_ hR hout hD => ?_
            have g80 : F_ 80 = .bool true := hD.get 1 rfl rfl rfl
            have g86 : F_ 86 = .pointer (some ⟨p309, (i % 4), none⟩) := hD.get 0 rfl rfl rfl
            exact ⟨g80, (y_ldR rfl g86 Try.underlying3 (((B393.all hR id)).cell (by omega)) ⟨rfl, Kept.refl _ _⟩)⟩
          refine stepsF_cons ?_ ?_
          · refine StepF.when 13 true 80 rfl rfl fun F_ w_ hR hout hD => ?_
            have g80 : F_ 80 = .bool true := hD.get 2 rfl rfl rfl
            have g83 : F_ 83 = .int .i64 ((predN (mkF w h l) K U V 1) (i)) := hD.get 0 rfl rfl rfl
            have g87 : F_ 87 = .int .i64 ((predN (mkF w h l) K U V 1) ((i % 4))) := hD.get 1 rfl rfl rfl
            exact ⟨g80, (y_eqlI rfl g83 g87 (decide_eq_true (alike_1 _ _ _ _ i)) ⟨rfl, Kept.refl _ _⟩)⟩
          refine stepsF_cons ?_ ?_
          · refine StepF.when 10 false 77 rfl rfl fun F_ w_ hR hout hD => ?_
            have g77 : F_ 77 = .bool false := hD.get 2 rfl rfl rfl
            have g80 : F_ 80 = .bool true := hD.get 0 rfl rfl rfl
            have g88 : F_ 88 = .bool true := hD.get 1 rfl rfl rfl
            exact ⟨g77, (y_pickT rfl g80 g88 ⟨rfl, Kept.refl _ _⟩)⟩
          refine stepsF_cons ?_ ?_
          · refine StepF.one rfl fun F_ w_ hR hout hD => ?_
            have g77 : F_ 77 = .bool false := hD.get 0 rfl rfl rfl
            have g89 : F_ 89 = .bool true := hD.get 1 rfl rfl rfl
            exact (y_pickF rfl g77 g89 ⟨rfl, Kept.refl _ _⟩)
          refine stepsF_cons ?_ ?_
          · refine StepF.one rfl fun F_ w_ hR hout hD => ?_
            have g90 : F_ 90 = .bool true := hD.get 0 rfl rfl rfl
            exact (y_mov rfl g90 ⟨rfl, Kept.refl _ _⟩)
          refine stepsF_cons ?_ ?_
          · refine StepF.unless 24 false 91 rfl rfl fun F_ w_ hR hout hD => ?_
            have g91 : F_ 91 = .bool true := hD.get 0 rfl rfl rfl
            exact ⟨Or.inl g91, rfl⟩
          refine stepsF_cons ?_ ?_
          · refine StepF.unless 24 false 91 rfl rfl fun F_ w_ hR hout hD => ?_
            have g91 : F_ 91 = .bool true := hD.get 1 rfl rfl rfl
            exact ⟨Or.inl g91, rfl⟩
          refine stepsF_cons ?_ ?_
          · refine StepF.unless 24 false 91 rfl rfl fun F_ w_ hR hout hD => ?_
            have g91 : F_ 91 = .bool true := hD.get 1 rfl rfl rfl
            exact ⟨Or.inl g91, rfl⟩
          refine stepsF_cons ?_ ?_
          · refine StepF.unless 27 true 94 rfl rfl fun F_ w_ hR hout hD => ?_
            have g94 : F_ 94 = undef := hD.get 0 rfl rfl rfl
            exact ⟨Or.inr g94, rfl⟩
          refine stepsF_cons ?_ ?_
          · refine StepF.unless 27 true 94 rfl rfl fun F_ w_ hR hout hD => ?_
            have g94 : F_ 94 = undef := hD.get 1 rfl rfl rfl
            exact ⟨Or.inr g94, rfl⟩
          refine stepsF_cons ?_ ?_
          · refine StepF.unless 27 true 94 rfl rfl fun F_ w_ hR hout hD => ?_
            have g94 : F_ 94 = undef := hD.get 1 rfl rfl rfl
            exact ⟨Or.inr g94, rfl⟩
          refine stepsF_cons ?_ ?_
          · refine StepF.unless 27 true 94 rfl rfl fun F_ w_ hR hout hD => ?_
            have g94 : F_ 94 = undef := hD.get 0 rfl rfl rfl
            exact ⟨Or.inr g94, rfl⟩
          refine stepsF_cons ?_ ?_
          · refine StepF.unless 27 true 94 rfl rfl fun F_ w_ hR hout hD => ?_
            have g94 : F_ 94 = undef := hD.get 1 rfl rfl rfl
            exact ⟨Or.inr g94, rfl⟩
          refine stepsF_cons ?_ ?_
          · refine StepF.unless 27 true 94 rfl rfl fun F_ w_ hR hout hD => ?_
            have g94 : F_ 94 = undef := hD.get 1 rfl rfl rfl
            exact ⟨Or.inr g94, rfl⟩
          refine stepsF_cons ?_ ?_
          · refine StepF.unless 27 true 94 rfl rfl fun F_ w_ hR hout hD => ?_
            have g94 : F_ 94 = undef := hD.get 1 rfl rfl rfl
            exact ⟨Or.inr g94, rfl⟩
          refine stepsF_cons ?_ ?_
          · refine StepF.unless 27 true 94 rfl rfl fun F_ w_ hR hout hD => ?_
            have g94 : F_ 94 = undef := hD.get 1 rfl rfl rfl
            exact ⟨Or.inr g94, rfl⟩
          refine stepsF_cons ?_ ?_
          · refine StepF.unless 27 true 94 rfl rfl fun F_ w_ hR hout hD => ?_
            have g94 : F_ 94 = undef := hD.get 2 rfl rfl rfl
            exact ⟨Or.inr g94, rfl⟩
          refine stepsF_cons ?_ ?_
          · refine StepF.unless 24 false 91 rfl rfl fun F_ w_ hR hout hD => ?_
            have g91 : F_ 91 = .bool true := hD.get 2 rfl rfl rfl
            exact ⟨Or.inl g91, rfl⟩
          refine stepsF_cons ?_ ?_
          · refine StepF.one rfl fun F_ w_ hR hout hD => ?_
            have g91 : F_ 91 = .bool true := hD.get 0 rfl rfl rfl
            exact (y_pickT rfl g91 rfl ⟨rfl, Kept.refl _ _⟩)
          refine stepsF_cons ?_ ?_
          · refine StepF.one rfl fun F_ w_ hR hout hD => ?_
            have g105 : F_ 105 = .bool true := hD.get 0 rfl rfl rfl
            exact (y_mov rfl g105 ⟨rfl, Kept.refl _ _⟩)
          refine stepsF_cons ?_ ?_
          · refine StepF.unless 39 false 106 rfl rfl fun F_ w_ hR hout hD => ?_
            have g106 : F_ 106 = .bool true := hD.get 0 rfl rfl rfl
            exact ⟨Or.inl g106, rfl⟩
          refine stepsF_cons ?_ ?_
          · refine StepF.unless 39 false 106 rfl rfl fun F_ w_ hR hout hD => ?_
            have g106 : F_ 106 = .bool true := hD.get 1 rfl rfl rfl
            exact ⟨Or.inl g106, rfl⟩
          refine stepsF_cons ?_ ?_
          · refine StepF.one rfl fun F_ w_ hR hout hD => ?_
            have g106 : F_ 106 = .bool true := hD.get 0 rfl rfl rfl
            exact (y_pickT rfl g106 rfl ⟨rfl, Kept.refl _ _⟩)
          refine stepsF_cons ?_ ?_
          · refine StepF.one rfl fun F_ w_ hR hout hD => ?_
            have g109 : F_ 109 = .bool true := hD.get 0 rfl rfl rfl
            exact (y_asg rfl g109 ⟨rfl, Kept.refl _ _⟩)
          exact stepsF_nil
        intro v407 F408 w409 k410 G411 hF412
        have B414 := B387.all k410 Apart.none
        have B415 := B388.all k410 Apart.none
        have B416 := B389.all k410 Apart.none
        have B417 := B390.all k410 Apart.none
        have B418 := B391.all k410 id
        have B419 := B392.all k410 id
        have B420 := B393.all k410 id
        have K421 := K375.trans k410 (fun _ _ x => x.elim)
        have s422 : F408 3 = .int .u8 (((p : Nat) : Int)) := (hF412 3).trans s396
        have s423 : F408 13 = .bool true := (hF412 13).trans s397
        have s424 : F408 14 = .pointer (some ⟨p65, 0, none⟩) := (hF412 14).trans s398
        have s425 : F408 15 = .int .i64 (U) := (hF412 15).trans s399
        have s426 : F408 16 = .int .i64 (V) := (hF412 16).trans s400
        have s427 : F408 17 = .int .i64 (((1 : Nat) : Int)) := (hF412 17).trans s401
        have s428 : F408 18 = .pointer (some ⟨p309, 0, none⟩) := (hF412 18).trans s402
        have s429 : F408 208 = undef := (hF412 208).trans s403
        have s430 : F408 20 = .int .i64 (((i : Nat) : Int)) := (hF412 20).trans s404
        have s431 : F408 21 = .bool true := (hF412 21).trans (G411 43 (by decide))
        clear G411 hF412
        refine then_normal ?_
        refine wq_seq ?_
        have hle := predN_le hb K U V 1 i
        refine wq_region ?_
        refine wl_v (.int .i64 (((i : Nat) : Int))) rfl rfl (y_mov rfl s430 ⟨rfl, rfl⟩) ?_
        refine wl_v (.pointer (some ⟨p309, i, none⟩)) rfl rfl (y_atR (i) (s := 1) rfl s428 rfl (by omega) Try.underlying29 (by omega) (by kernel_rfl) (by omega) ⟨rfl, rfl⟩) ?_
        refine wl_v (.int .i64 ((predN (mkF w h l) K U V 1) (i))) rfl rfl (y_ldR rfl rfl Try.underlying3 ((B420).cell (by omega)) ⟨rfl, rfl⟩) ?_
        refine wl_v (.bool false) rfl rfl (y_lss rfl rfl rfl (decide_eq_false (by omega)) ⟨rfl, rfl⟩) ?_
        refine wl_v (.bool false) rfl rfl (y_mov rfl rfl ⟨rfl, rfl⟩) ?_
        refine wl_vw (.int .i64 (((i : Nat) : Int))) 4 false 114 rfl rfl rfl rfl rfl (y_mov rfl s430 ⟨rfl, rfl⟩) ?_
        refine wl_vw (.pointer (some ⟨p309, i, none⟩)) 4 false 114 rfl rfl rfl rfl rfl (y_atR (i) (s := 1) rfl s428 rfl (by omega) Try.underlying29 (by omega) (by kernel_rfl) (by omega) ⟨rfl, rfl⟩) ?_
        refine wl_vw (.int .i64 ((predN (mkF w h l) K U V 1) (i))) 4 false 114 rfl rfl rfl rfl rfl (y_ldR rfl rfl Try.underlying3 ((B420).cell (by omega)) ⟨rfl, rfl⟩) ?_
        refine wl_vw (.bool false) 4 false 114 rfl rfl rfl rfl rfl (y_gtr rfl rfl rfl (decide_eq_false (by omega)) ⟨rfl, rfl⟩) ?_
        refine wl_v (.bool false) rfl rfl (y_pickF rfl rfl rfl ⟨rfl, rfl⟩) ?_
        refine wl_v (.bool false) rfl rfl (y_mov rfl rfl ⟨rfl, rfl⟩) ?_
        refine wl_vw (.bool true) 10 false 120 rfl rfl rfl rfl rfl (y_mov rfl s431 ⟨rfl, rfl⟩) ?_
        refine wl_vw (.bool false) 10 false 120 rfl rfl rfl rfl rfl (y_not rfl rfl rfl ⟨rfl, rfl⟩) ?_
        refine wl_v (.bool false) rfl rfl (y_pickF rfl rfl rfl ⟨rfl, rfl⟩) ?_
        refine wl_nil fun F432 hF433 => ?_
        have s434 : F432 3 = .int .u8 (((p : Nat) : Int)) := (hF433 3).trans s422
        have s435 : F432 13 = .bool true := (hF433 13).trans s423
        have s436 : F432 14 = .pointer (some ⟨p65, 0, none⟩) := (hF433 14).trans s424
        have s437 : F432 15 = .int .i64 (U) := (hF433 15).trans s425
        have s438 : F432 16 = .int .i64 (V) := (hF433 16).trans s426
        have s439 : F432 17 = .int .i64 (((1 : Nat) : Int)) := (hF433 17).trans s427
        have s440 : F432 18 = .pointer (some ⟨p309, 0, none⟩) := (hF433 18).trans s428
        have s441 : F432 208 = undef := (hF433 208).trans s429
        have s442 : F432 20 = .int .i64 (((i : Nat) : Int)) := (hF433 20).trans s430
        have s443 : F432 123 = .bool false := (hF433 123).trans rfl
        clear hF433
        refine then_normal ?_
        refine wq_cond (t := false) s443 (fun e => by cases e) (fun _ => ?_)
        refine wq_skip ?_
        refine in_normal ?_
        refine then_normal ?_
        refine wq_region ?_
        refine wl_v (.int .i64 (((i : Nat) : Int))) rfl rfl (y_mov rfl s442 ⟨rfl, rfl⟩) ?_
        refine wl_v (.int .i64 (((i + 1 : Nat) : Int))) rfl rfl (y_add rfl rfl rfl (i64_n (by omega) (by omega)) ⟨rfl, rfl⟩) ?_
        refine wl_v (.int .i64 (((i + 1 : Nat) : Int))) rfl rfl (y_asg rfl rfl ⟨rfl, rfl⟩) ?_
        refine wl_nil fun F444 hF445 => ?_
        have s446 : F444 3 = .int .u8 (((p : Nat) : Int)) := (hF445 3).trans s434
        have s447 : F444 13 = .bool true := (hF445 13).trans s435
        have s448 : F444 14 = .pointer (some ⟨p65, 0, none⟩) := (hF445 14).trans s436
        have s449 : F444 15 = .int .i64 (U) := (hF445 15).trans s437
        have s450 : F444 16 = .int .i64 (V) := (hF445 16).trans s438
        have s451 : F444 17 = .int .i64 (((1 : Nat) : Int)) := (hF445 17).trans s439
        have s452 : F444 18 = .pointer (some ⟨p309, 0, none⟩) := (hF445 18).trans s440
        have s453 : F444 208 = undef := (hF445 208).trans s441
        have s454 : F444 20 = .int .i64 (((i + 1 : Nat) : Int)) := (hF445 20).trans rfl
        clear hF445
        exact then_normal ⟨(16 - (i + 1)), by omega, i + 1, by omega, rfl, s446, s447, s448, s449, s450, s451, s452, s453, s454, K421, B414, B415, B416, B417, B418, B419, B420⟩
      · replace c406 := of_decide_eq_false c406
        refine wq_exit ?_
        refine then_exit ?_
        refine then_exit ?_
        have l455 : 16 = i := by omega
        subst l455
        refine in_here ?_
        refine in_normal ?_
        refine then_normal ?_
        refine wq_region ?_
        refine wl_v (.int .i64 (((1 : Nat) : Int))) rfl rfl (y_mov rfl s401 ⟨rfl, rfl⟩) ?_
        refine wl_v (.int .i64 (((2 : Nat) : Int))) rfl rfl (y_add rfl rfl rfl (i64_n (by omega) (by omega)) ⟨rfl, rfl⟩) ?_
        refine wl_v (.int .i64 (((2 : Nat) : Int))) rfl rfl (y_asg rfl rfl ⟨rfl, rfl⟩) ?_
        refine wl_nil fun F456 hF457 => ?_
        have s458 : F456 3 = .int .u8 (((p : Nat) : Int)) := (hF457 3).trans s396
        have s459 : F456 13 = .bool true := (hF457 13).trans s397
        have s460 : F456 14 = .pointer (some ⟨p65, 0, none⟩) := (hF457 14).trans s398
        have s461 : F456 15 = .int .i64 (U) := (hF457 15).trans s399
        have s462 : F456 16 = .int .i64 (V) := (hF457 16).trans s400
        have s463 : F456 208 = undef := (hF457 208).trans s403
        have s464 : F456 17 = .int .i64 (((2 : Nat) : Int)) := (hF457 17).trans rfl
        clear hF457
        refine then_normal ?_
        refine wqr_step ?_
        refine wq_seq ?_
        refine wq_seq ?_
        refine wq_region ?_
        refine wl_v (.int .i64 (((2 : Nat) : Int))) rfl rfl (y_mov rfl s464 ⟨rfl, rfl⟩) ?_
        refine wl_v (.bool true) rfl rfl (y_lss rfl rfl rfl rfl ⟨rfl, rfl⟩) ?_
        refine wl_nil fun F465 hF466 => ?_
        have s467 : F465 3 = .int .u8 (((p : Nat) : Int)) := (hF466 3).trans s458
        have s468 : F465 13 = .bool true := (hF466 13).trans s459
        have s469 : F465 14 = .pointer (some ⟨p65, 0, none⟩) := (hF466 14).trans s460
        have s470 : F465 15 = .int .i64 (U) := (hF466 15).trans s461
        have s471 : F465 16 = .int .i64 (V) := (hF466 16).trans s462
        have s472 : F465 208 = undef := (hF466 208).trans s463
        have s473 : F465 17 = .int .i64 (((2 : Nat) : Int)) := (hF466 17).trans s464
        have s474 : F465 47 = .bool true := (hF466 47).trans rfl
        clear hF466
        refine then_normal ?_
        refine wq_cond (t := true) s474 (fun _ => ?_) (fun e => by cases e)
        refine wq_skip ?_
        refine then_normal ?_
        refine wq_seq ?_
        refine wq_block ?_
        refine wq_seq ?_
        refine wq_region ?_
        refine wl_v (.agg #[.int .i64 ((mkF (w) (h) (l)).W), .int .i64 ((mkF (w) (h) (l)).H), v40, v41, v42]) rfl rfl (y_load_stc stcT_frame rfl s469 B391 ⟨rfl, rfl⟩) ?_
        refine wl_v (.int .u8 (((p : Nat) : Int))) rfl rfl (y_mov rfl s467 ⟨rfl, rfl⟩) ?_
        refine wl_v (.int .i64 (((p : Nat) : Int))) rfl rfl (y_convR rfl rfl Try.underlying5 Try.underlying3 (i64_i rfl (by omega)) ⟨rfl, rfl⟩) ?_
        refine wl_v (.int .i64 (K)) rfl rfl (y_rem rfl rfl rfl (by first | decide | omega) (hK.symm) ⟨rfl, rfl⟩) ?_
        refine wl_v (.int .i64 (U)) rfl rfl (y_mov rfl s470 ⟨rfl, rfl⟩) ?_
        refine wl_v (.int .i64 (V)) rfl rfl (y_mov rfl s471 ⟨rfl, rfl⟩) ?_
        refine wl_v (.int .i64 (((2 : Nat) : Int))) rfl rfl (y_mov rfl s473 ⟨rfl, rfl⟩) ?_
        refine wl_call (R := fun v_ w_ => v_ = .tuple #[blkV (predB (mkF (w) (h) (l)) (K) (U) (V) (((2 : Nat) : Int))), .int .i64 (predE (mkF (w) (h) (l)) (K) (U) (V) (((2 : Nat) : Int)))] ∧ Kept (fun _ => False) w374 w_) rfl rfl (y_cs rfl rfl rfl (fun _ _ => by kernel_rfl) (ev_func _) (vsC rfl (vsC rfl (vsC rfl (vsC rfl (vsC rfl vsN))))) (il_predict (K) (U) (V) (((2 : Nat) : Int)) (mkF (w) (h) (l)) (v40) (v41) (v42) (T45) (T46) (T47) _  (B388).byt (B389).byt (B390).byt ) (fun e_ w_ h_ => ⟨_, h_.1, rfl, h_.2⟩)) ?_
        rintro _ w475 ⟨rfl, k476⟩
        have B477 := B387.all k476 Apart.none
        have B478 := B388.all k476 Apart.none
        have B479 := B389.all k476 Apart.none
        have B480 := B390.all k476 Apart.none
        have B481 := B391.all k476 id
        have B482 := B392.all k476 id
        have B483 := B393.all k476 id
        have K484 := K375.trans k476 (fun _ _ x => x.elim)
        refine wl_v (.tuple #[blkV (predB (mkF (w) (h) (l)) (K) (U) (V) (((2 : Nat) : Int))), .int .i64 (predE (mkF (w) (h) (l)) (K) (U) (V) (((2 : Nat) : Int)))]) rfl rfl (y_mov rfl rfl ⟨rfl, rfl⟩) ?_
        refine wl_v (blkV (predB (mkF (w) (h) (l)) (K) (U) (V) (((2 : Nat) : Int)))) rfl rfl (y_ext rfl rfl rfl ⟨rfl, rfl⟩) ?_
        refine wl_v (.int .i64 (predE (mkF (w) (h) (l)) (K) (U) (V) (((2 : Nat) : Int)))) rfl rfl (y_ext rfl rfl rfl ⟨rfl, rfl⟩) ?_
        refine wl_alloc_blk rfl rfl rfl blkT_block.2.2 fun p485 w486 e489 B487 k488 => ?_
        have g490 := onB_new (Nat.le_of_eq e489.symm)
        have gr491 : Grew w0 noB (onB p485) := Grew.new K484 g490
        have ap492 : Apart (onB p485) (T_s) := Apart.new g490 (B477).live
        have ap493 : Apart (onB p485) (T45) := Apart.new g490 (B478).live
        have ap494 : Apart (onB p485) (T46) := Apart.new g490 (B479).live
        have ap495 : Apart (onB p485) (T47) := Apart.new g490 (B480).live
        have ap496 : Apart (onB p485) (onB p65) := Apart.new g490 (onB_live (B481).lt)
        have ap497 : Apart (onB p485) (onB p139) := Apart.new g490 (onB_live (B482).lt)
        have ap498 : Apart (onB p485) (onB p309) := Apart.new g490 (onB_live (B483).lt)
        clear e489 g490
        have B499 := B477.all k488 Apart.none
        have B500 := B478.all k488 Apart.none
        have B501 := B479.all k488 Apart.none
        have B502 := B480.all k488 Apart.none
        have B503 := B481.all k488 id
        have B504 := B482.all k488 id
        have B505 := B483.all k488 id
        have K506 := K484.trans k488 (fun _ _ x => x.elim)
        refine wl_store_blk blkT_block rfl rfl rfl rfl rfl B487 fun w507 B508 k509 => ?_
        have B510 := B499.all k509 (fun i h x => (((ap492).symm) i h x))
        have B511 := B500.all k509 (fun i h x => (((ap493).symm) i h x))
        have B512 := B501.all k509 (fun i h x => (((ap494).symm) i h x))
        have B513 := B502.all k509 (fun i h x => (((ap495).symm) i h x))
        have B514 := B503.all k509 (fun x => (((ap496).symm) p65 rfl x))
        have B515 := B504.all k509 (fun x => (((ap497).symm) p139 rfl x))
        have B516 := B505.all k509 (fun x => (((ap498).symm) p309 rfl x))
        have K517 := K506.trans k509 (Grew.ok (S := fun _ => False) gr491 noB_le)
        refine wl_v (.int .i64 (predE (mkF (w) (h) (l)) (K) (U) (V) (((2 : Nat) : Int)))) rfl rfl (y_asg rfl rfl ⟨rfl, rfl⟩) ?_
        refine wl_nil fun F518 hF519 => ?_
        have s520 : F518 3 = .int .u8 (((p : Nat) : Int)) := (hF519 3).trans s467
        have s521 : F518 13 = .bool true := (hF519 13).trans s468
        have s522 : F518 14 = .pointer (some ⟨p65, 0, none⟩) := (hF519 14).trans s469
        have s523 : F518 15 = .int .i64 (U) := (hF519 15).trans s470
        have s524 : F518 16 = .int .i64 (V) := (hF519 16).trans s471
        have s525 : F518 208 = undef := (hF519 208).trans s472
        have s526 : F518 17 = .int .i64 (((2 : Nat) : Int)) := (hF519 17).trans s473
        have s527 : F518 18 = .pointer (some ⟨p485, 0, none⟩) := (hF519 18).trans rfl
        have s528 : F518 19 = .int .i64 (predE (mkF (w) (h) (l)) (K) (U) (V) (((2 : Nat) : Int))) := (hF519 19).trans rfl
        clear hF519
        refine then_normal ?_
        refine wq_seq ?_
        refine wq_seq ?_
        refine wq_region ?_
        refine wl_v (.int .i64 (predE (mkF (w) (h) (l)) (K) (U) (V) (((2 : Nat) : Int)))) rfl rfl (y_mov rfl s528 ⟨rfl, rfl⟩) ?_
        refine wl_v (.bool false) rfl rfl (y_neqI rfl rfl rfl (decide_eq_false (fun h => h (pred_yes (mode := 2) hpl (by decide)).1)) ⟨rfl, rfl⟩) ?_
        refine wl_nil fun F529 hF530 => ?_
        have s531 : F529 3 = .int .u8 (((p : Nat) : Int)) := (hF530 3).trans s520
        have s532 : F529 13 = .bool true := (hF530 13).trans s521
        have s533 : F529 14 = .pointer (some ⟨p65, 0, none⟩) := (hF530 14).trans s522
        have s534 : F529 15 = .int .i64 (U) := (hF530 15).trans s523
        have s535 : F529 16 = .int .i64 (V) := (hF530 16).trans s524
        have s536 : F529 208 = undef := (hF530 208).trans s525
        have s537 : F529 17 = .int .i64 (((2 : Nat) : Int)) := (hF530 17).trans s526
        have s538 : F529 18 = .pointer (some ⟨p485, 0, none⟩) := (hF530 18).trans s527
        have s539 : F529 62 = .bool false := (hF530 62).trans rfl
        clear hF530
        refine then_normal ?_
        refine wq_cond (t := false) s539 (fun e => by cases e) (fun _ => ?_)
        refine wq_skip ?_
        refine then_normal ?_
        refine wq_seq ?_
        have B540 : Blk w507 p485 29 (predN (mkF w h l) K U V 2) := ((by rw [← (pred_yes (mode := 2) hpl (by decide)).2]; exact B508))
        refine wq_region ?_
        refine wl_v (.int .i64 (0)) rfl rfl (y_asg rfl rfl ⟨rfl, rfl⟩) ?_
        refine wl_nil fun F541 hF542 => ?_
        have s543 : F541 3 = .int .u8 (((p : Nat) : Int)) := (hF542 3).trans s531
        have s544 : F541 13 = .bool true := (hF542 13).trans s532
        have s545 : F541 14 = .pointer (some ⟨p65, 0, none⟩) := (hF542 14).trans s533
        have s546 : F541 15 = .int .i64 (U) := (hF542 15).trans s534
        have s547 : F541 16 = .int .i64 (V) := (hF542 16).trans s535
        have s548 : F541 208 = undef := (hF542 208).trans s536
        have s549 : F541 17 = .int .i64 (((2 : Nat) : Int)) := (hF542 17).trans s537
        have s550 : F541 18 = .pointer (some ⟨p485, 0, none⟩) := (hF542 18).trans s538
        have s551 : F541 20 = .int .i64 (0) := (hF542 20).trans rfl
        clear hF542
        refine then_normal ?_
        refine wq_block ?_
        refine wq_loop (fun nn FF ww => ∃ (i : Nat), (i ≤ 16) ∧ nn = 16 - i ∧ FF 3 = .int .u8 (((p : Nat) : Int)) ∧ FF 13 = .bool true ∧ FF 14 = .pointer (some ⟨p65, 0, none⟩) ∧ FF 15 = .int .i64 (U) ∧ FF 16 = .int .i64 (V) ∧ FF 17 = .int .i64 (((2 : Nat) : Int)) ∧ FF 18 = .pointer (some ⟨p485, 0, none⟩) ∧ FF 208 = undef ∧ FF 20 = .int .i64 (((i : Nat) : Int)) ∧ Kept (fun _ => False) w0 ww ∧ Byt ww (T_s) v (l) ∧ Owb ww (T45) v40 ((mkF (w) (h) (l)).p0) ∧ Owb ww (T46) v41 ((mkF (w) (h) (l)).p1) ∧ Owb ww (T47) v42 ((mkF (w) (h) (l)).p2) ∧ Stc ww p65 25 [.int .i64 ((mkF (w) (h) (l)).W), .int .i64 ((mkF (w) (h) (l)).H), v40, v41, v42] ∧ Blk ww p139 29 (predN (mkF w h l) K U V 0) ∧ Blk ww p309 29 (predN (mkF w h l) K U V 1) ∧ Blk ww p485 29 (predN (mkF w h l) K U V 2)) (16 - (0)) ⟨0, by omega, rfl, s543, s544, s545, s546, s547, s549, s550, s548, s551, K517, B510, B511, B512, B513, B514, B515, B516, B540⟩ ?_
        rintro n555 F552 w553 ⟨i, i556, hn555, s557, s558, s559, s560, s561, s562, s563, s564, s565, K554, B566, B567, B568, B569, B570, B571, B572, B573⟩
        refine wq_seq ?_
        refine wq_seq ?_
        refine wq_region ?_
        refine wl_v (.int .i64 (((i : Nat) : Int))) rfl rfl (y_mov rfl s565 ⟨rfl, rfl⟩) ?_
        refine wl_v (.bool (decide ((((i : Nat) : Int)) < (16)))) rfl rfl (y_lss rfl rfl rfl rfl ⟨rfl, rfl⟩) ?_
        refine wl_nil fun F574 hF575 => ?_
        have s576 : F574 3 = .int .u8 (((p : Nat) : Int)) := (hF575 3).trans s557
        have s577 : F574 13 = .bool true := (hF575 13).trans s558
        have s578 : F574 14 = .pointer (some ⟨p65, 0, none⟩) := (hF575 14).trans s559
        have s579 : F574 15 = .int .i64 (U) := (hF575 15).trans s560
        have s580 : F574 16 = .int .i64 (V) := (hF575 16).trans s561
        have s581 : F574 17 = .int .i64 (((2 : Nat) : Int)) := (hF575 17).trans s562
        have s582 : F574 18 = .pointer (some ⟨p485, 0, none⟩) := (hF575 18).trans s563
        have s583 : F574 208 = undef := (hF575 208).trans s564
        have s584 : F574 20 = .int .i64 (((i : Nat) : Int)) := (hF575 20).trans s565
        have s585 : F574 64 = .bool (decide ((((i : Nat) : Int)) < (16))) := (hF575 64).trans rfl
        clear hF575
        refine then_normal ?_
        refine wq_cond s585 (fun c586 => ?_) (fun c586 => ?_)
        · replace c586 := of_decide_eq_true c586
          refine wq_skip ?_
          refine then_normal ?_
          refine wq_seq ?_
          refine wq_block ?_
          refine wq_seq ?_
          refine wq_said [some 67, some 68, some 69, some 70, some 71, some 72, some 73, some 74, some 75, some 76, some 77, some 78, some 79, some 80, some 81, some 82, some 83, some 84, some 85, some 86, some 87, some 88, some 89, some 90, some 91, some 92, some 93, some 94, some 95, some 96, some 97, some 98, some 99, some 100, some 101, some 102, some 103, some 104, some 105, some 106, some 107, some 108, some 109, some 21] [Pd.eq (.int .i64 (((2 : Nat) : Int))), Pd.eq (.bool false), Pd.eq (.bool false), Pd.eq undef, Pd.eq undef, Pd.eq undef, Pd.eq undef, Pd.eq undef, Pd.eq undef, Pd.eq (.bool false), Pd.eq (.bool false), Pd.eq (.int .i64 (((2 : Nat) : Int))), Pd.eq (.bool false), Pd.eq (.bool false), Pd.eq undef, Pd.eq undef, Pd.eq undef, Pd.eq undef, Pd.eq undef, Pd.eq undef, Pd.eq undef, Pd.eq undef, Pd.eq (.bool false), Pd.eq (.bool false), Pd.eq (.bool false), Pd.eq (.int .i64 (((2 : Nat) : Int))), Pd.eq (.bool true), Pd.eq (.bool true), Pd.eq (.int .i64 (((i : Nat) : Int))), Pd.eq (.pointer (some ⟨p485, i, none⟩)), Pd.eq (.int .i64 ((predN (mkF w h l) K U V 2) (i))), Pd.eq (.int .i64 (((i : Nat) : Int))), Pd.eq (.int .i64 ((((i / 4) : Nat) : Int))), Pd.eq (.int .i64 (((((i / 4)) * 4 : Nat) : Int))), Pd.eq (.pointer (some ⟨p485, ((i / 4)) * 4, none⟩)), Pd.eq (.int .i64 ((predN (mkF w h l) K U V 2) (((i / 4)) * 4))), Pd.eq (.bool true), Pd.eq (.bool true), Pd.eq (.bool true), Pd.eq (.bool true), Pd.eq undef, Pd.eq undef, Pd.eq (.bool true), Pd.eq (.bool true)] (by kernel_rfl) (by kernel_rfl) ?_ ?_
          · refine stepsF_cons ?_ ?_
            · refine StepF.one rfl fun F_ w_ hR hout hD => ?_
              exact (y_mov rfl ((hout 17 rfl (by decide)).trans s581) ⟨rfl, Kept.refl _ _⟩)
            refine stepsF_cons ?_ ?_
            · refine StepF.one rfl fun F_ w_ hR hout hD => ?_
              have g67 : F_ 67 = .int .i64 (((2 : Nat) : Int)) := hD.get 0 rfl rfl rfl
              exact (y_eqlI rfl g67 rfl rfl ⟨rfl, Kept.refl _ _⟩)
            refine stepsF_cons ?_ ?_
            · refine StepF.one rfl fun F_ w_ hR hout hD => ?_
              have g68 : F_ 68 = .bool false := hD.get 0 rfl rfl rfl
              exact (y_mov rfl g68 ⟨rfl, Kept.refl _ _⟩)
            refine stepsF_cons ?_ ?_
            · refine StepF.unless 2 true 69 rfl rfl fun F_ w_ hR hout hD => ?_
              have g69 : F_ 69 = .bool false := hD.get 0 rfl rfl rfl
              exact ⟨Or.inl g69, rfl⟩
            refine stepsF_cons ?_ ?_
            · refine StepF.unless 2 true 69 rfl rfl fun F_ w_ hR hout hD => ?_
              have g69 : F_ 69 = .bool false := hD.get 1 rfl rfl rfl
              exact ⟨Or.inl g69, rfl⟩
            refine stepsF_cons ?_ ?_
            · refine StepF.unless 2 true 69 rfl rfl fun F_ w_ hR hout hD => ?_
              have g69 : F_ 69 = .bool false := hD.get 1 rfl rfl rfl
              exact ⟨Or.inl g69, rfl⟩
            refine stepsF_cons ?_ ?_
            · refine StepF.unless 2 true 69 rfl rfl fun F_ w_ hR hout hD => ?_
              have g69 : F_ 69 = .bool false := hD.get 0 rfl rfl rfl
              exact ⟨Or.inl g69, rfl⟩
            refine stepsF_cons ?_ ?_
            · refine StepF.unless 2 true 69 rfl rfl fun F_ w_ hR hout hD => ?_
              have g69 : F_ 69 = .bool false := hD.get 1 rfl rfl rfl
              exact ⟨Or.inl g69, rfl⟩
            refine stepsF_cons ?_ ?_
            · refine StepF.unless 2 true 69 rfl rfl fun F_ w_ hR hout hD => ?_
              have g69 : F_ 69 = .bool false := hD.get 2 rfl rfl rfl
              exact ⟨Or.inl g69, rfl⟩
            refine stepsF_cons ?_ ?_
            · refine StepF.one rfl fun F_ w_ hR hout hD => ?_
              have g69 : F_ 69 = .bool false := hD.get 0 rfl rfl rfl
              exact (y_pickF rfl g69 rfl ⟨rfl, Kept.refl _ _⟩)
            refine stepsF_cons ?_ ?_
            · refine StepF.one rfl fun F_ w_ hR hout hD => ?_
              have g76 : F_ 76 = .bool false := hD.get 0 rfl rfl rfl
              exact (y_mov rfl g76 ⟨rfl, Kept.refl _ _⟩)
            refine stepsF_cons ?_ ?_
            · refine StepF.when 10 false 77 rfl rfl fun F_ w_ hR hout hD => ?_
              have g77 : F_ 77 = .bool false := hD.get 0 rfl rfl rfl
              exact ⟨g77, (y_mov rfl ((hout 17 rfl (by decide)).trans s581) ⟨rfl, Kept.refl _ _⟩)⟩
            refine stepsF_cons ?_ ?_
            · refine StepF.when 10 false 77 rfl rfl fun F_ w_ hR hout hD => ?_
              have g77 : F_ 77 = .bool false := hD.get 1 rfl rfl rfl
              have g78 : F_ 78 = .int .i64 (((2 : Nat) : Int)) := hD.get 0 rfl rfl rfl
              exact ⟨g77, (y_eqlI rfl g78 rfl rfl ⟨rfl, Kept.refl _ _⟩)⟩
            refine stepsF_cons ?_ ?_
            · refine StepF.when 10 false 77 rfl rfl fun F_ w_ hR hout hD => ?_
              have g77 : F_ 77 = .bool false := hD.get 1 rfl rfl rfl
              have g79 : F_ 79 = .bool false := hD.get 0 rfl rfl rfl
              exact ⟨g77, (y_mov rfl g79 ⟨rfl, Kept.refl _ _⟩)⟩
            refine stepsF_cons ?_ ?_
            · refine StepF.unless 13 true 80 rfl rfl fun F_ w_ hR hout hD => ?_
              have g80 : F_ 80 = .bool false := hD.get 0 rfl rfl rfl
              exact ⟨Or.inl g80, rfl⟩
            refine stepsF_cons ?_ ?_
            · refine StepF.unless 13 true 80 rfl rfl fun F_ w_ hR hout hD => ?_
              have g80 : F_ 80 = .bool false := hD.get 1 rfl rfl rfl
              exact ⟨Or.inl g80, rfl⟩
            refine stepsF_cons ?_ ?_
            · refine StepF.unless 13 true 80 rfl rfl fun F_ w_ hR hout hD => ?_
              have g80 : F_ 80 = .bool false := hD.get 1 rfl rfl rfl
              exact ⟨Or.inl g80, rfl⟩
            refine stepsF_cons ?_ ?_
            · refine StepF.unless 13 true 80 rfl rfl fun F_ w_ hR hout hD => ?_
              have g80 : F_ 80 = .bool false := hD.get 0 rfl rfl rfl
              exact ⟨Or.inl g80, rfl⟩
            refine stepsF_cons ?_ ?_
            · refine StepF.unless 13 true 80 rfl rfl fun F_ w_ hR hout hD => ?_
              have g80 : F_ 80 = .bool false := hD.get 1 rfl rfl rfl
              exact ⟨Or.inl g80, rfl⟩
            refine stepsF_cons ?_ ?_
            · refine StepF.unless 13 true 80 rfl rfl fun F_ w_ hR hout hD => ?_
              have g80 : F_ 80 = .bool false := hD.get 1 rfl rfl rfl
              exact ⟨Or.inl g80, rfl⟩
            refine stepsF_cons ?_ ?_
            · refine StepF.unless 13 true 80 rfl rfl fun F_ w_ hR hout hD => ?_
              have g80 : F_ 80 = .bool false := hD.get 1 rfl rfl rfl
              exact ⟨Or.inl g80, rfl⟩
            refine stepsF_cons ?_ ?_
            · refine StepF.unless 13 true 80 rfl rfl fun F_ w_ hR hout hD => ?_
              have g80 : F_ 80 = .bool false := hD.get 2 rfl rfl rfl
              exact ⟨Or.inl g80, rfl⟩
            refine stepsF_cons ?_ ?_
            · refine StepF.when 10 false 77 rfl rfl fun F_ w_ hR hout hD => ?_
              have g77 : F_ 77 = .bool false := hD.get 2 rfl rfl rfl
              have g80 : F_ 80 = .bool false := hD.get 0 rfl rfl rfl
              exact ⟨g77, (y_pickF rfl g80 rfl ⟨rfl, Kept.refl _ _⟩)⟩
            refine stepsF_cons ?_ ?_
            · refine StepF.one rfl fun F_ w_ hR hout hD => ?_
              have g77 : F_ 77 = .bool false := hD.get 0 rfl rfl rfl
              have g89 : F_ 89 = .bool false := hD.get 1 rfl rfl rfl
              exact (y_pickF rfl g77 g89 ⟨rfl, Kept.refl _ _⟩)
            refine stepsF_cons ?_ ?_
            · refine StepF.one rfl fun F_ w_ hR hout hD => ?_
              have g90 : F_ 90 = .bool false := hD.get 0 rfl rfl rfl
              exact (y_mov rfl g90 ⟨rfl, Kept.refl _ _⟩)
            refine stepsF_cons ?_ ?_
            · refine StepF.when 24 false 91 rfl rfl fun F_ w_ hR hout hD => ?_
              have g91 : F_ 91 = .bool false := hD.get 0 rfl rfl rfl
              exact ⟨g91, (y_mov rfl ((hout 17 rfl (by decide)).trans s581) ⟨rfl, Kept.refl _ _⟩)⟩
            refine stepsF_cons ?_ ?_
            · refine StepF.when 24 false 91 rfl rfl fun F_ w_ hR hout hD => ?_
              have g91 : F_ 91 = .bool false := hD.get 1 rfl rfl rfl
              have g92 : F_ 92 = .int .i64 (((2 : Nat) : Int)) := hD.get 0 rfl rfl rfl
              exact ⟨g91, (y_eqlI rfl g92 rfl rfl ⟨rfl, Kept.refl _ _⟩)⟩
            refine stepsF_cons ?_ ?_
            · refine StepF.when 24 false 91 rfl rfl fun F_ w_ hR hout hD => ?_
              have g91 : F_ 91 = .bool false := hD.get 1 rfl rfl rfl
              have g93 : F_ 93 = .bool true := hD.get 0 rfl rfl rfl
              exact ⟨g91, (y_mov rfl g93 ⟨rfl, Kept.refl _ _⟩)⟩
            refine stepsF_cons ?_ ?_
            · refine StepF.when 27 true 94 rfl rfl fun F_ w_ hR hout hD => ?_
              have g94 : F_ 94 = .bool true := hD.get 0 rfl rfl rfl
              exact ⟨g94, (y_mov rfl ((hout 20 rfl (by decide)).trans s584) ⟨rfl, Kept.refl _ _⟩)⟩
            refine stepsF_cons ?_ ?_
            · refine StepF.when 27 true 94 rfl rfl fun F_ w_ hR hout hD => ?_
              have g94 : F_ 94 = .bool true := hD.get 1 rfl rfl rfl
              have g95 : F_ 95 = .int .i64 (((i : Nat) : Int)) := hD.get 0 rfl rfl rfl
              exact ⟨g94, (y_atR (i) (s := 1) rfl ((hout 18 rfl (by decide)).trans s582) g95 (by omega) Try.underlying29 (by omega) (by kernel_rfl) (by omega) ⟨rfl, Kept.refl _ _⟩)⟩
            refine stepsF_cons ?_ ?_
            · refine StepF.when 27 true 94 rfl rfl fun F_ w_ hR hout hD => ?_
              have g94 : F_ 94 = .bool true := hD.get 1 rfl rfl rfl
              have g96 : F_ 96 = .pointer (some ⟨p485, i, none⟩) := hD.get 0 rfl rfl rfl
              exact ⟨g94, (y_ldR rfl g96 Try.underlying3 (((B573.all hR id)).cell (by omega)) ⟨rfl, Kept.refl _ _⟩)⟩
            refine stepsF_cons ?_ ?_
            · refine StepF.when 27 true 94 rfl rfl fun F_ w_ hR hout hD => ?_
              have g94 : F_ 94 = .bool true := hD.get 0 rfl rfl rfl
              exact ⟨g94, (y_mov rfl ((hout 20 rfl (by decide)).trans s584) ⟨rfl, Kept.refl _ _⟩)⟩
            refine stepsF_cons ?_ ?_
            · refine StepF.when 27 true 94 rfl rfl fun F_ w_ hR hout hD => ?_
              have g94 : F_ 94 = .bool true := hD.get 1 rfl rfl rfl
              have g98 : F_ 98 = .int .i64 (((i : Nat) : Int)) := hD.get 0 rfl rfl rfl
              exact ⟨g94, (y_quo rfl g98 rfl (by first | decide | omega) (i64_n (quo_nat i 4) (by omega)) ⟨rfl, Kept.refl _ _⟩)⟩
            refine stepsF_cons ?_ ?_
            · refine StepF.when 27 true 94 rfl rfl fun F_ w_ hR hout hD => ?_
              have g94 : F_ 94 = .bool true := hD.get 1 rfl rfl rfl
              have g99 : F_ 99 = .int .i64 ((((i / 4) : Nat) : Int)) := hD.get 0 rfl rfl rfl
              exact ⟨g94, (y_mul rfl g99 rfl (i64_n (by omega) (by omega)) ⟨rfl, Kept.refl _ _⟩)⟩
            refine stepsF_cons ?_ ?_
            · refine StepF.when 27 true 94 rfl rfl fun F_ w_ hR hout hD => ?_
              have g94 : F_ 94 = .bool true := hD.get 1 rfl rfl rfl
              have g100 : F_ 100 = .int .i64 (((((i / 4)) * 4 : Nat) : Int)) := hD.get 0 rfl rfl rfl
              exact ⟨g94, (y_atR (((i / 4)) * 4) (s := 1) rfl ((hout 18 rfl (by decide)).trans s582) g100 (by omega) Try.underlying29 (by omega) (by kernel_rfl) (by omega) ⟨rfl, Kept.refl _ _⟩)⟩
            refine stepsF_cons ?_ ?_
            · refine StepF.when 27 true 94 rfl rfl fun F_ w_ hR hout hD => ?_
              have g94 : F_ 94 = .bool true := hD.get 1 rfl rfl rfl
              have g101 : F_ 101 = .pointer (some ⟨p485, ((i / 4)) * 4, none⟩) := hD.get 0 rfl rfl rfl
              exact ⟨g94, (y_ldR rfl g101 Try.underlying3 (((B573.all hR id)).cell (by omega)) ⟨rfl, Kept.refl _ _⟩)⟩
            refine stepsF_cons ?_ ?_
            · refine StepF.when 27 true 94 rfl rfl fun F_ w_ hR hout hD => ?_
              have g94 : F_ 94 = .bool true := hD.get 2 rfl rfl rfl
              have g97 : F_ 97 = .int .i64 ((predN (mkF w h l) K U V 2) (i)) := hD.get 0 rfl rfl rfl
              have g102 : F_ 102 = .int .i64 ((predN (mkF w h l) K U V 2) (((i / 4)) * 4)) := hD.get 1 rfl rfl rfl
              exact ⟨g94, (y_eqlI rfl g97 g102 (decide_eq_true (alike_2 _ _ _ _ i)) ⟨rfl, Kept.refl _ _⟩)⟩
            refine stepsF_cons ?_ ?_
            · refine StepF.when 24 false 91 rfl rfl fun F_ w_ hR hout hD => ?_
              have g91 : F_ 91 = .bool false := hD.get 2 rfl rfl rfl
              have g94 : F_ 94 = .bool true := hD.get 0 rfl rfl rfl
              have g103 : F_ 103 = .bool true := hD.get 1 rfl rfl rfl
              exact ⟨g91, (y_pickT rfl g94 g103 ⟨rfl, Kept.refl _ _⟩)⟩
            refine stepsF_cons ?_ ?_
            · refine StepF.one rfl fun F_ w_ hR hout hD => ?_
              have g91 : F_ 91 = .bool false := hD.get 0 rfl rfl rfl
              have g104 : F_ 104 = .bool true := hD.get 1 rfl rfl rfl
              exact (y_pickF rfl g91 g104 ⟨rfl, Kept.refl _ _⟩)
            refine stepsF_cons ?_ ?_
            · refine StepF.one rfl fun F_ w_ hR hout hD => ?_
              have g105 : F_ 105 = .bool true := hD.get 0 rfl rfl rfl
              exact (y_mov rfl g105 ⟨rfl, Kept.refl _ _⟩)
            refine stepsF_cons ?_ ?_
            · refine StepF.unless 39 false 106 rfl rfl fun F_ w_ hR hout hD => ?_
              have g106 : F_ 106 = .bool true := hD.get 0 rfl rfl rfl
              exact ⟨Or.inl g106, rfl⟩
            refine stepsF_cons ?_ ?_
            · refine StepF.unless 39 false 106 rfl rfl fun F_ w_ hR hout hD => ?_
              have g106 : F_ 106 = .bool true := hD.get 1 rfl rfl rfl
              exact ⟨Or.inl g106, rfl⟩
            refine stepsF_cons ?_ ?_
            · refine StepF.one rfl fun F_ w_ hR hout hD => ?_
              have g106 : F_ 106 = .bool true := hD.get 0 rfl rfl rfl
              exact (y_pickT rfl g106 rfl ⟨rfl, Kept.refl _ _⟩)
            refine stepsF_cons ?_ ?_
            · refine StepF.one rfl fun F_ w_ hR hout hD => ?_
              have g109 : F_ 109 = .bool true := hD.get 0 rfl rfl rfl
              exact (y_asg rfl g109 ⟨rfl, Kept.refl _ _⟩)
            exact stepsF_nil
          intro v587 F588 w589 k590 G591 hF592
          have B594 := B566.all k590 Apart.none
          have B595 := B567.all k590 Apart.none
          have B596 := B568.all k590 Apart.none
          have B597 := B569.all k590 Apart.none
          have B598 := B570.all k590 id
          have B599 := B571.all k590 id
          have B600 := B572.all k590 id
          have B601 := B573.all k590 id
          have K602 := K554.trans k590 (fun _ _ x => x.elim)
          have s603 : F588 3 = .int .u8 (((p : Nat) : Int)) := (hF592 3).trans s576
          have s604 : F588 13 = .bool true := (hF592 13).trans s577
          have s605 : F588 14 = .pointer (some ⟨p65, 0, none⟩) := (hF592 14).trans s578
          have s606 : F588 15 = .int .i64 (U) := (hF592 15).trans s579
          have s607 : F588 16 = .int .i64 (V) := (hF592 16).trans s580
          have s608 : F588 17 = .int .i64 (((2 : Nat) : Int)) := (hF592 17).trans s581
          have s609 : F588 18 = .pointer (some ⟨p485, 0, none⟩) := (hF592 18).trans s582
          have s610 : F588 208 = undef := (hF592 208).trans s583
          have s611 : F588 20 = .int .i64 (((i : Nat) : Int)) := (hF592 20).trans s584
          have s612 : F588 21 = .bool true := (hF592 21).trans (G591 43 (by decide))
          clear G591 hF592
          refine then_normal ?_
          refine wq_seq ?_
          have hle := predN_le hb K U V 2 i
          refine wq_region ?_
          refine wl_v (.int .i64 (((i : Nat) : Int))) rfl rfl (y_mov rfl s611 ⟨rfl, rfl⟩) ?_
          refine wl_v (.pointer (some ⟨p485, i, none⟩)) rfl rfl (y_atR (i) (s := 1) rfl s609 rfl (by omega) Try.underlying29 (by omega) (by kernel_rfl) (by omega) ⟨rfl, rfl⟩) ?_
          refine wl_v (.int .i64 ((predN (mkF w h l) K U V 2) (i))) rfl rfl (y_ldR rfl rfl Try.underlying3 ((B601).cell (by omega)) ⟨rfl, rfl⟩) ?_
          refine wl_v (.bool false) rfl rfl (y_lss rfl rfl rfl (decide_eq_false (by omega)) ⟨rfl, rfl⟩) ?_
          refine wl_v (.bool false) rfl rfl (y_mov rfl rfl ⟨rfl, rfl⟩) ?_
          refine wl_vw (.int .i64 (((i : Nat) : Int))) 4 false 114 rfl rfl rfl rfl rfl (y_mov rfl s611 ⟨rfl, rfl⟩) ?_
          refine wl_vw (.pointer (some ⟨p485, i, none⟩)) 4 false 114 rfl rfl rfl rfl rfl (y_atR (i) (s := 1) rfl s609 rfl (by omega) Try.underlying29 (by omega) (by kernel_rfl) (by omega) ⟨rfl, rfl⟩) ?_
          refine wl_vw (.int .i64 ((predN (mkF w h l) K U V 2) (i))) 4 false 114 rfl rfl rfl rfl rfl (y_ldR rfl rfl Try.underlying3 ((B601).cell (by omega)) ⟨rfl, rfl⟩) ?_
          refine wl_vw (.bool false) 4 false 114 rfl rfl rfl rfl rfl (y_gtr rfl rfl rfl (decide_eq_false (by omega)) ⟨rfl, rfl⟩) ?_
          refine wl_v (.bool false) rfl rfl (y_pickF rfl rfl rfl ⟨rfl, rfl⟩) ?_
          refine wl_v (.bool false) rfl rfl (y_mov rfl rfl ⟨rfl, rfl⟩) ?_
          refine wl_vw (.bool true) 10 false 120 rfl rfl rfl rfl rfl (y_mov rfl s612 ⟨rfl, rfl⟩) ?_
          refine wl_vw (.bool false) 10 false 120 rfl rfl rfl rfl rfl (y_not rfl rfl rfl ⟨rfl, rfl⟩) ?_
          refine wl_v (.bool false) rfl rfl (y_pickF rfl rfl rfl ⟨rfl, rfl⟩) ?_
          refine wl_nil fun F613 hF614 => ?_
          have s615 : F613 3 = .int .u8 (((p : Nat) : Int)) := (hF614 3).trans s603
          have s616 : F613 13 = .bool true := (hF614 13).trans s604
          have s617 : F613 14 = .pointer (some ⟨p65, 0, none⟩) := (hF614 14).trans s605
          have s618 : F613 15 = .int .i64 (U) := (hF614 15).trans s606
          have s619 : F613 16 = .int .i64 (V) := (hF614 16).trans s607
          have s620 : F613 17 = .int .i64 (((2 : Nat) : Int)) := (hF614 17).trans s608
          have s621 : F613 18 = .pointer (some ⟨p485, 0, none⟩) := (hF614 18).trans s609
          have s622 : F613 208 = undef := (hF614 208).trans s610
          have s623 : F613 20 = .int .i64 (((i : Nat) : Int)) := (hF614 20).trans s611
          have s624 : F613 123 = .bool false := (hF614 123).trans rfl
          clear hF614
          refine then_normal ?_
          refine wq_cond (t := false) s624 (fun e => by cases e) (fun _ => ?_)
          refine wq_skip ?_
          refine in_normal ?_
          refine then_normal ?_
          refine wq_region ?_
          refine wl_v (.int .i64 (((i : Nat) : Int))) rfl rfl (y_mov rfl s623 ⟨rfl, rfl⟩) ?_
          refine wl_v (.int .i64 (((i + 1 : Nat) : Int))) rfl rfl (y_add rfl rfl rfl (i64_n (by omega) (by omega)) ⟨rfl, rfl⟩) ?_
          refine wl_v (.int .i64 (((i + 1 : Nat) : Int))) rfl rfl (y_asg rfl rfl ⟨rfl, rfl⟩) ?_
          refine wl_nil fun F625 hF626 => ?_
          have s627 : F625 3 = .int .u8 (((p : Nat) : Int)) := (hF626 3).trans s615
          have s628 : F625 13 = .bool true := (hF626 13).trans s616
          have s629 : F625 14 = .pointer (some ⟨p65, 0, none⟩) := (hF626 14).trans s617
          have s630 : F625 15 = .int .i64 (U) := (hF626 15).trans s618
          have s631 : F625 16 = .int .i64 (V) := (hF626 16).trans s619
          have s632 : F625 17 = .int .i64 (((2 : Nat) : Int)) := (hF626 17).trans s620
          have s633 : F625 18 = .pointer (some ⟨p485, 0, none⟩) := (hF626 18).trans s621
          have s634 : F625 208 = undef := (hF626 208).trans s622
          have s635 : F625 20 = .int .i64 (((i + 1 : Nat) : Int)) := (hF626 20).trans rfl
          clear hF626
          exact then_normal ⟨(16 - (i + 1)), by omega, i + 1, by omega, rfl, s627, s628, s629, s630, s631, s632, s633, s634, s635, K602, B594, B595, B596, B597, B598, B599, B600, B601⟩
        · replace c586 := of_decide_eq_false c586
          refine wq_exit ?_
          refine then_exit ?_
          refine then_exit ?_
          have l636 : 16 = i := by omega
          subst l636
          refine in_here ?_
          refine in_normal ?_
          refine then_normal ?_
          refine wq_region ?_
          refine wl_v (.int .i64 (((2 : Nat) : Int))) rfl rfl (y_mov rfl s581 ⟨rfl, rfl⟩) ?_
          refine wl_v (.int .i64 (((3 : Nat) : Int))) rfl rfl (y_add rfl rfl rfl (i64_n (by omega) (by omega)) ⟨rfl, rfl⟩) ?_
          refine wl_v (.int .i64 (((3 : Nat) : Int))) rfl rfl (y_asg rfl rfl ⟨rfl, rfl⟩) ?_
          refine wl_nil fun F637 hF638 => ?_
          have s639 : F637 3 = .int .u8 (((p : Nat) : Int)) := (hF638 3).trans s576
          have s640 : F637 13 = .bool true := (hF638 13).trans s577
          have s641 : F637 14 = .pointer (some ⟨p65, 0, none⟩) := (hF638 14).trans s578
          have s642 : F637 15 = .int .i64 (U) := (hF638 15).trans s579
          have s643 : F637 16 = .int .i64 (V) := (hF638 16).trans s580
          have s644 : F637 208 = undef := (hF638 208).trans s583
          have s645 : F637 17 = .int .i64 (((3 : Nat) : Int)) := (hF638 17).trans rfl
          clear hF638
          refine then_normal ?_
          refine wqr_step ?_
          refine wq_seq ?_
          refine wq_seq ?_
          refine wq_region ?_
          refine wl_v (.int .i64 (((3 : Nat) : Int))) rfl rfl (y_mov rfl s645 ⟨rfl, rfl⟩) ?_
          refine wl_v (.bool true) rfl rfl (y_lss rfl rfl rfl rfl ⟨rfl, rfl⟩) ?_
          refine wl_nil fun F646 hF647 => ?_
          have s648 : F646 3 = .int .u8 (((p : Nat) : Int)) := (hF647 3).trans s639
          have s649 : F646 13 = .bool true := (hF647 13).trans s640
          have s650 : F646 14 = .pointer (some ⟨p65, 0, none⟩) := (hF647 14).trans s641
          have s651 : F646 15 = .int .i64 (U) := (hF647 15).trans s642
          have s652 : F646 16 = .int .i64 (V) := (hF647 16).trans s643
          have s653 : F646 208 = undef := (hF647 208).trans s644
          have s654 : F646 17 = .int .i64 (((3 : Nat) : Int)) := (hF647 17).trans s645
          have s655 : F646 47 = .bool true := (hF647 47).trans rfl
          clear hF647
          refine then_normal ?_
          refine wq_cond (t := true) s655 (fun _ => ?_) (fun e => by cases e)
          refine wq_skip ?_
          refine then_normal ?_
          refine wq_seq ?_
          refine wq_block ?_
          refine wq_seq ?_
          refine wq_region ?_
          refine wl_v (.agg #[.int .i64 ((mkF (w) (h) (l)).W), .int .i64 ((mkF (w) (h) (l)).H), v40, v41, v42]) rfl rfl (y_load_stc stcT_frame rfl s650 B570 ⟨rfl, rfl⟩) ?_
          refine wl_v (.int .u8 (((p : Nat) : Int))) rfl rfl (y_mov rfl s648 ⟨rfl, rfl⟩) ?_
          refine wl_v (.int .i64 (((p : Nat) : Int))) rfl rfl (y_convR rfl rfl Try.underlying5 Try.underlying3 (i64_i rfl (by omega)) ⟨rfl, rfl⟩) ?_
          refine wl_v (.int .i64 (K)) rfl rfl (y_rem rfl rfl rfl (by first | decide | omega) (hK.symm) ⟨rfl, rfl⟩) ?_
          refine wl_v (.int .i64 (U)) rfl rfl (y_mov rfl s651 ⟨rfl, rfl⟩) ?_
          refine wl_v (.int .i64 (V)) rfl rfl (y_mov rfl s652 ⟨rfl, rfl⟩) ?_
          refine wl_v (.int .i64 (((3 : Nat) : Int))) rfl rfl (y_mov rfl s654 ⟨rfl, rfl⟩) ?_
          refine wl_call (R := fun v_ w_ => v_ = .tuple #[blkV (predB (mkF (w) (h) (l)) (K) (U) (V) (((3 : Nat) : Int))), .int .i64 (predE (mkF (w) (h) (l)) (K) (U) (V) (((3 : Nat) : Int)))] ∧ Kept (fun _ => False) w553 w_) rfl rfl (y_cs rfl rfl rfl (fun _ _ => by kernel_rfl) (ev_func _) (vsC rfl (vsC rfl (vsC rfl (vsC rfl (vsC rfl vsN))))) (il_predict (K) (U) (V) (((3 : Nat) : Int)) (mkF (w) (h) (l)) (v40) (v41) (v42) (T45) (T46) (T47) _  (B567).byt (B568).byt (B569).byt ) (fun e_ w_ h_ => ⟨_, h_.1, rfl, h_.2⟩)) ?_
          rintro _ w656 ⟨rfl, k657⟩
          have B658 := B566.all k657 Apart.none
          have B659 := B567.all k657 Apart.none
          have B660 := B568.all k657 Apart.none
          have B661 := B569.all k657 Apart.none
          have B662 := B570.all k657 id
          have B663 := B571.all k657 id
          have B664 := B572.all k657 id
          have B665 := B573.all k657 id
          have K666 := K554.trans k657 (fun _ _ x => x.elim)
          refine wl_v (.tuple #[blkV (predB (mkF (w) (h) (l)) (K) (U) (V) (((3 : Nat) : Int))), .int .i64 (predE (mkF (w) (h) (l)) (K) (U) (V) (((3 : Nat) : Int)))]) rfl rfl (y_mov rfl rfl ⟨rfl, rfl⟩) ?_
          refine wl_v (blkV (predB (mkF (w) (h) (l)) (K) (U) (V) (((3 : Nat) : Int)))) rfl rfl (y_ext rfl rfl rfl ⟨rfl, rfl⟩) ?_
          refine wl_v (.int .i64 (predE (mkF (w) (h) (l)) (K) (U) (V) (((3 : Nat) : Int)))) rfl rfl (y_ext rfl rfl rfl ⟨rfl, rfl⟩) ?_
          refine wl_alloc_blk rfl rfl rfl blkT_block.2.2 fun p667 w668 e671 B669 k670 => ?_
          have g672 := onB_new (Nat.le_of_eq e671.symm)
          have gr673 : Grew w0 noB (onB p667) := Grew.new K666 g672
          have ap674 : Apart (onB p667) (T_s) := Apart.new g672 (B658).live
          have ap675 : Apart (onB p667) (T45) := Apart.new g672 (B659).live
          have ap676 : Apart (onB p667) (T46) := Apart.new g672 (B660).live
          have ap677 : Apart (onB p667) (T47) := Apart.new g672 (B661).live
          have ap678 : Apart (onB p667) (onB p65) := Apart.new g672 (onB_live (B662).lt)
          have ap679 : Apart (onB p667) (onB p139) := Apart.new g672 (onB_live (B663).lt)
          have ap680 : Apart (onB p667) (onB p309) := Apart.new g672 (onB_live (B664).lt)
          have ap681 : Apart (onB p667) (onB p485) := Apart.new g672 (onB_live (B665).lt)
          clear e671 g672
          have B682 := B658.all k670 Apart.none
          have B683 := B659.all k670 Apart.none
          have B684 := B660.all k670 Apart.none
          have B685 := B661.all k670 Apart.none
          have B686 := B662.all k670 id
          have B687 := B663.all k670 id
          have B688 := B664.all k670 id
          have B689 := B665.all k670 id
          have K690 := K666.trans k670 (fun _ _ x => x.elim)
          refine wl_store_blk blkT_block rfl rfl rfl rfl rfl B669 fun w691 B692 k693 => ?_
          have B694 := B682.all k693 (fun i h x => (((ap674).symm) i h x))
          have B695 := B683.all k693 (fun i h x => (((ap675).symm) i h x))
          have B696 := B684.all k693 (fun i h x => (((ap676).symm) i h x))
          have B697 := B685.all k693 (fun i h x => (((ap677).symm) i h x))
          have B698 := B686.all k693 (fun x => (((ap678).symm) p65 rfl x))
          have B699 := B687.all k693 (fun x => (((ap679).symm) p139 rfl x))
          have B700 := B688.all k693 (fun x => (((ap680).symm) p309 rfl x))
          have B701 := B689.all k693 (fun x => (((ap681).symm) p485 rfl x))
          have K702 := K690.trans k693 (Grew.ok (S := fun _ => False) gr673 noB_le)
          refine wl_v (.int .i64 (predE (mkF (w) (h) (l)) (K) (U) (V) (((3 : Nat) : Int)))) rfl rfl (y_asg rfl rfl ⟨rfl, rfl⟩) ?_
          refine wl_nil fun F703 hF704 => ?_
          have s705 : F703 3 = .int .u8 (((p : Nat) : Int)) := (hF704 3).trans s648
          have s706 : F703 13 = .bool true := (hF704 13).trans s649
          have s707 : F703 14 = .pointer (some ⟨p65, 0, none⟩) := (hF704 14).trans s650
          have s708 : F703 15 = .int .i64 (U) := (hF704 15).trans s651
          have s709 : F703 16 = .int .i64 (V) := (hF704 16).trans s652
          have s710 : F703 208 = undef := (hF704 208).trans s653
          have s711 : F703 17 = .int .i64 (((3 : Nat) : Int)) := (hF704 17).trans s654
          have s712 : F703 18 = .pointer (some ⟨p667, 0, none⟩) := (hF704 18).trans rfl
          have s713 : F703 19 = .int .i64 (predE (mkF (w) (h) (l)) (K) (U) (V) (((3 : Nat) : Int))) := (hF704 19).trans rfl
          clear hF704
          refine then_normal ?_
          refine wq_seq ?_
          refine wq_seq ?_
          refine wq_region ?_
          refine wl_v (.int .i64 (predE (mkF (w) (h) (l)) (K) (U) (V) (((3 : Nat) : Int)))) rfl rfl (y_mov rfl s713 ⟨rfl, rfl⟩) ?_
          refine wl_v (.bool false) rfl rfl (y_neqI rfl rfl rfl (decide_eq_false (fun h => h (pred_yes (mode := 3) hpl (by decide)).1)) ⟨rfl, rfl⟩) ?_
          refine wl_nil fun F714 hF715 => ?_
          have s716 : F714 3 = .int .u8 (((p : Nat) : Int)) := (hF715 3).trans s705
          have s717 : F714 13 = .bool true := (hF715 13).trans s706
          have s718 : F714 14 = .pointer (some ⟨p65, 0, none⟩) := (hF715 14).trans s707
          have s719 : F714 15 = .int .i64 (U) := (hF715 15).trans s708
          have s720 : F714 16 = .int .i64 (V) := (hF715 16).trans s709
          have s721 : F714 208 = undef := (hF715 208).trans s710
          have s722 : F714 17 = .int .i64 (((3 : Nat) : Int)) := (hF715 17).trans s711
          have s723 : F714 18 = .pointer (some ⟨p667, 0, none⟩) := (hF715 18).trans s712
          have s724 : F714 62 = .bool false := (hF715 62).trans rfl
          clear hF715
          refine then_normal ?_
          refine wq_cond (t := false) s724 (fun e => by cases e) (fun _ => ?_)
          refine wq_skip ?_
          refine then_normal ?_
          refine wq_seq ?_
          have B725 : Blk w691 p667 29 (predN (mkF w h l) K U V 3) := ((by rw [← (pred_yes (mode := 3) hpl (by decide)).2]; exact B692))
          refine wq_region ?_
          refine wl_v (.int .i64 (0)) rfl rfl (y_asg rfl rfl ⟨rfl, rfl⟩) ?_
          refine wl_nil fun F726 hF727 => ?_
          have s728 : F726 3 = .int .u8 (((p : Nat) : Int)) := (hF727 3).trans s716
          have s729 : F726 13 = .bool true := (hF727 13).trans s717
          have s730 : F726 14 = .pointer (some ⟨p65, 0, none⟩) := (hF727 14).trans s718
          have s731 : F726 15 = .int .i64 (U) := (hF727 15).trans s719
          have s732 : F726 16 = .int .i64 (V) := (hF727 16).trans s720
          have s733 : F726 208 = undef := (hF727 208).trans s721
          have s734 : F726 17 = .int .i64 (((3 : Nat) : Int)) := (hF727 17).trans s722
          have s735 : F726 18 = .pointer (some ⟨p667, 0, none⟩) := (hF727 18).trans s723
          have s736 : F726 20 = .int .i64 (0) := (hF727 20).trans rfl
          clear hF727
          refine then_normal ?_
          refine wq_block ?_
          refine wq_loop (fun nn FF ww => ∃ (i : Nat), (i ≤ 16) ∧ nn = 16 - i ∧ FF 3 = .int .u8 (((p : Nat) : Int)) ∧ FF 13 = .bool true ∧ FF 14 = .pointer (some ⟨p65, 0, none⟩) ∧ FF 15 = .int .i64 (U) ∧ FF 16 = .int .i64 (V) ∧ FF 17 = .int .i64 (((3 : Nat) : Int)) ∧ FF 18 = .pointer (some ⟨p667, 0, none⟩) ∧ FF 208 = undef ∧ FF 20 = .int .i64 (((i : Nat) : Int)) ∧ Kept (fun _ => False) w0 ww ∧ Byt ww (T_s) v (l) ∧ Owb ww (T45) v40 ((mkF (w) (h) (l)).p0) ∧ Owb ww (T46) v41 ((mkF (w) (h) (l)).p1) ∧ Owb ww (T47) v42 ((mkF (w) (h) (l)).p2) ∧ Stc ww p65 25 [.int .i64 ((mkF (w) (h) (l)).W), .int .i64 ((mkF (w) (h) (l)).H), v40, v41, v42] ∧ Blk ww p139 29 (predN (mkF w h l) K U V 0) ∧ Blk ww p309 29 (predN (mkF w h l) K U V 1) ∧ Blk ww p485 29 (predN (mkF w h l) K U V 2) ∧ Blk ww p667 29 (predN (mkF w h l) K U V 3)) (16 - (0)) ⟨0, by omega, rfl, s728, s729, s730, s731, s732, s734, s735, s733, s736, K702, B694, B695, B696, B697, B698, B699, B700, B701, B725⟩ ?_
          rintro n740 F737 w738 ⟨i, i741, hn740, s742, s743, s744, s745, s746, s747, s748, s749, s750, K739, B751, B752, B753, B754, B755, B756, B757, B758, B759⟩
          refine wq_seq ?_
          refine wq_seq ?_
          refine wq_region ?_
          refine wl_v (.int .i64 (((i : Nat) : Int))) rfl rfl (y_mov rfl s750 ⟨rfl, rfl⟩) ?_
          refine wl_v (.bool (decide ((((i : Nat) : Int)) < (16)))) rfl rfl (y_lss rfl rfl rfl rfl ⟨rfl, rfl⟩) ?_
          refine wl_nil fun F760 hF761 => ?_
          have s762 : F760 3 = .int .u8 (((p : Nat) : Int)) := (hF761 3).trans s742
          have s763 : F760 13 = .bool true := (hF761 13).trans s743
          have s764 : F760 14 = .pointer (some ⟨p65, 0, none⟩) := (hF761 14).trans s744
          have s765 : F760 15 = .int .i64 (U) := (hF761 15).trans s745
          have s766 : F760 16 = .int .i64 (V) := (hF761 16).trans s746
          have s767 : F760 17 = .int .i64 (((3 : Nat) : Int)) := (hF761 17).trans s747
          have s768 : F760 18 = .pointer (some ⟨p667, 0, none⟩) := (hF761 18).trans s748
          have s769 : F760 208 = undef := (hF761 208).trans s749
          have s770 : F760 20 = .int .i64 (((i : Nat) : Int)) := (hF761 20).trans s750
          have s771 : F760 64 = .bool (decide ((((i : Nat) : Int)) < (16))) := (hF761 64).trans rfl
          clear hF761
          refine then_normal ?_
          refine wq_cond s771 (fun c772 => ?_) (fun c772 => ?_)
          · replace c772 := of_decide_eq_true c772
            refine wq_skip ?_
            refine then_normal ?_
            refine wq_seq ?_
            refine wq_block ?_
            refine wq_seq ?_
            refine wq_said [some 67, some 68, some 69, some 70, some 71, some 72, some 73, some 74, some 75, some 76, some 77, some 78, some 79, some 80, some 81, some 82, some 83, some 84, some 85, some 86, some 87, some 88, some 89, some 90, some 91, some 92, some 93, some 94, some 95, some 96, some 97, some 98, some 99, some 100, some 101, some 102, some 103, some 104, some 105, some 106, some 107, some 108, some 109, some 21] [Pd.eq (.int .i64 (((3 : Nat) : Int))), Pd.eq (.bool false), Pd.eq (.bool false), Pd.eq undef, Pd.eq undef, Pd.eq undef, Pd.eq undef, Pd.eq undef, Pd.eq undef, Pd.eq (.bool false), Pd.eq (.bool false), Pd.eq (.int .i64 (((3 : Nat) : Int))), Pd.eq (.bool false), Pd.eq (.bool false), Pd.eq undef, Pd.eq undef, Pd.eq undef, Pd.eq undef, Pd.eq undef, Pd.eq undef, Pd.eq undef, Pd.eq undef, Pd.eq (.bool false), Pd.eq (.bool false), Pd.eq (.bool false), Pd.eq (.int .i64 (((3 : Nat) : Int))), Pd.eq (.bool false), Pd.eq (.bool false), Pd.eq undef, Pd.eq undef, Pd.eq undef, Pd.eq undef, Pd.eq undef, Pd.eq undef, Pd.eq undef, Pd.eq undef, Pd.eq undef, Pd.eq (.bool false), Pd.eq (.bool false), Pd.eq (.bool false), Pd.eq (.int .i64 (((3 : Nat) : Int))), Pd.eq (.bool true), Pd.eq (.bool true), Pd.eq (.bool true)] (by kernel_rfl) (by kernel_rfl) ?_ ?_
            · refine stepsF_cons ?_ ?_
              · refine StepF.one rfl fun F_ w_ hR hout hD => ?_
                exact (y_mov rfl ((hout 17 rfl (by decide)).trans s767) ⟨rfl, Kept.refl _ _⟩)
              refine stepsF_cons ?_ ?_
              · refine StepF.one rfl fun F_ w_ hR hout hD => ?_
                have g67 : F_ 67 = .int .i64 (((3 : Nat) : Int)) := hD.get 0 rfl rfl rfl
                exact (y_eqlI rfl g67 rfl rfl ⟨rfl, Kept.refl _ _⟩)
              refine stepsF_cons ?_ ?_
              · refine StepF.one rfl fun F_ w_ hR hout hD => ?_
                have g68 : F_ 68 = .bool false := hD.get 0 rfl rfl rfl
                exact (y_mov rfl g68 ⟨rfl, Kept.refl _ _⟩)
              refine stepsF_cons ?_ ?_
              · refine StepF.unless 2 true 69 rfl rfl fun F_ w_ hR hout hD => ?_
                have g69 : F_ 69 = .bool false := hD.get 0 rfl rfl rfl
                exact ⟨Or.inl g69, rfl⟩
              refine stepsF_cons ?_ ?_
              · refine StepF.unless 2 true 69 rfl rfl fun F_ w_ hR hout hD => ?_
                have g69 : F_ 69 = .bool false := hD.get 1 rfl rfl rfl
                exact ⟨Or.inl g69, rfl⟩
              refine stepsF_cons ?_ ?_
              · refine StepF.unless 2 true 69 rfl rfl fun F_ w_ hR hout hD => ?_
                have g69 : F_ 69 = .bool false := hD.get 1 rfl rfl rfl
                exact ⟨Or.inl g69, rfl⟩
              refine stepsF_cons ?_ ?_
              · refine StepF.unless 2 true 69 rfl rfl fun F_ w_ hR hout hD => ?_
                have g69 : F_ 69 = .bool false := hD.get 0 rfl rfl rfl
                exact ⟨Or.inl g69, rfl⟩
              refine stepsF_cons ?_ ?_
              · refine StepF.unless 2 true 69 rfl rfl fun F_ w_ hR hout hD => ?_
                have g69 : F_ 69 = .bool false := hD.get 1 rfl rfl rfl
                exact ⟨Or.inl g69, rfl⟩
              refine stepsF_cons ?_ ?_
              · refine StepF.unless 2 true 69 rfl rfl fun F_ w_ hR hout hD => ?_
                have g69 : F_ 69 = .bool false := hD.get 2 rfl rfl rfl
                exact ⟨Or.inl g69, rfl⟩
              refine stepsF_cons ?_ ?_
              · refine StepF.one rfl fun F_ w_ hR hout hD => ?_
                have g69 : F_ 69 = .bool false := hD.get 0 rfl rfl rfl
                exact (y_pickF rfl g69 rfl ⟨rfl, Kept.refl _ _⟩)
              refine stepsF_cons ?_ ?_
              · refine StepF.one rfl fun F_ w_ hR hout hD => ?_
                have g76 : F_ 76 = .bool false := hD.get 0 rfl rfl rfl
                exact (y_mov rfl g76 ⟨rfl, Kept.refl _ _⟩)
              refine stepsF_cons ?_ ?_
              · refine StepF.when 10 false 77 rfl rfl fun F_ w_ hR hout hD => ?_
                have g77 : F_ 77 = .bool false := hD.get 0 rfl rfl rfl
                exact ⟨g77, (y_mov rfl ((hout 17 rfl (by decide)).trans s767) ⟨rfl, Kept.refl _ _⟩)⟩
              refine stepsF_cons ?_ ?_
              · refine StepF.when 10 false 77 rfl rfl fun F_ w_ hR hout hD => ?_
                have g77 : F_ 77 = .bool false := hD.get 1 rfl rfl rfl
                have g78 : F_ 78 = .int .i64 (((3 : Nat) : Int)) := hD.get 0 rfl rfl rfl
                exact ⟨g77, (y_eqlI rfl g78 rfl rfl ⟨rfl, Kept.refl _ _⟩)⟩
              refine stepsF_cons ?_ ?_
              · refine StepF.when 10 false 77 rfl rfl fun F_ w_ hR hout hD => ?_
                have g77 : F_ 77 = .bool false := hD.get 1 rfl rfl rfl
                have g79 : F_ 79 = .bool false := hD.get 0 rfl rfl rfl
                exact ⟨g77, (y_mov rfl g79 ⟨rfl, Kept.refl _ _⟩)⟩
              refine stepsF_cons ?_ ?_
              · refine StepF.unless 13 true 80 rfl rfl fun F_ w_ hR hout hD => ?_
                have g80 : F_ 80 = .bool false := hD.get 0 rfl rfl rfl
                exact ⟨Or.inl g80, rfl⟩
              refine stepsF_cons ?_ ?_
              · refine StepF.unless 13 true 80 rfl rfl fun F_ w_ hR hout hD => ?_
                have g80 : F_ 80 = .bool false := hD.get 1 rfl rfl rfl
                exact ⟨Or.inl g80, rfl⟩
              refine stepsF_cons ?_ ?_
              · refine StepF.unless 13 true 80 rfl rfl fun F_ w_ hR hout hD => ?_
                have g80 : F_ 80 = .bool false := hD.get 1 rfl rfl rfl
                exact ⟨Or.inl g80, rfl⟩
              refine stepsF_cons ?_ ?_
              · refine StepF.unless 13 true 80 rfl rfl fun F_ w_ hR hout hD => ?_
                have g80 : F_ 80 = .bool false := hD.get 0 rfl rfl rfl
                exact ⟨Or.inl g80, rfl⟩
              refine stepsF_cons ?_ ?_
              · refine StepF.unless 13 true 80 rfl rfl fun F_ w_ hR hout hD => ?_
                have g80 : F_ 80 = .bool false := hD.get 1 rfl rfl rfl
                exact ⟨Or.inl g80, rfl⟩
              refine stepsF_cons ?_ ?_
              · refine StepF.unless 13 true 80 rfl rfl fun F_ w_ hR hout hD => ?_
                have g80 : F_ 80 = .bool false := hD.get 1 rfl rfl rfl
                exact ⟨Or.inl g80, rfl⟩
              refine stepsF_cons ?_ ?_
              · refine StepF.unless 13 true 80 rfl rfl fun F_ w_ hR hout hD => ?_
                have g80 : F_ 80 = .bool false := hD.get 1 rfl rfl rfl
                exact ⟨Or.inl g80, rfl⟩
              refine stepsF_cons ?_ ?_
              · refine StepF.unless 13 true 80 rfl rfl fun F_ w_ hR hout hD => ?_
                have g80 : F_ 80 = .bool false := hD.get 2 rfl rfl rfl
                exact ⟨Or.inl g80, rfl⟩
              refine stepsF_cons ?_ ?_
              · refine StepF.when 10 false 77 rfl rfl fun F_ w_ hR hout hD => ?_
                have g77 : F_ 77 = .bool false := hD.get 2 rfl rfl rfl
                have g80 : F_ 80 = .bool false := hD.get 0 rfl rfl rfl
                exact ⟨g77, (y_pickF rfl g80 rfl ⟨rfl, Kept.refl _ _⟩)⟩
              refine stepsF_cons ?_ ?_
              · refine StepF.one rfl fun F_ w_ hR hout hD => ?_
                have g77 : F_ 77 = .bool false := hD.get 0 rfl rfl rfl
                have g89 : F_ 89 = .bool false := hD.get 1 rfl rfl rfl
                exact (y_pickF rfl g77 g89 ⟨rfl, Kept.refl _ _⟩)
              refine stepsF_cons ?_ ?_
              · refine StepF.one rfl fun F_ w_ hR hout hD => ?_
                have g90 : F_ 90 = .bool false := hD.get 0 rfl rfl rfl
                exact (y_mov rfl g90 ⟨rfl, Kept.refl _ _⟩)
              refine stepsF_cons ?_ ?_
              · refine StepF.when 24 false 91 rfl rfl fun F_ w_ hR hout hD => ?_
                have g91 : F_ 91 = .bool false := hD.get 0 rfl rfl rfl
                exact ⟨g91, (y_mov rfl ((hout 17 rfl (by decide)).trans s767) ⟨rfl, Kept.refl _ _⟩)⟩
              refine stepsF_cons ?_ ?_
              · refine StepF.when 24 false 91 rfl rfl fun F_ w_ hR hout hD => ?_
                have g91 : F_ 91 = .bool false := hD.get 1 rfl rfl rfl
                have g92 : F_ 92 = .int .i64 (((3 : Nat) : Int)) := hD.get 0 rfl rfl rfl
                exact ⟨g91, (y_eqlI rfl g92 rfl rfl ⟨rfl, Kept.refl _ _⟩)⟩
              refine stepsF_cons ?_ ?_
              · refine StepF.when 24 false 91 rfl rfl fun F_ w_ hR hout hD => ?_
                have g91 : F_ 91 = .bool false := hD.get 1 rfl rfl rfl
                have g93 : F_ 93 = .bool false := hD.get 0 rfl rfl rfl
                exact ⟨g91, (y_mov rfl g93 ⟨rfl, Kept.refl _ _⟩)⟩
              refine stepsF_cons ?_ ?_
              · refine StepF.unless 27 true 94 rfl rfl fun F_ w_ hR hout hD => ?_
                have g94 : F_ 94 = .bool false := hD.get 0 rfl rfl rfl
                exact ⟨Or.inl g94, rfl⟩
              refine stepsF_cons ?_ ?_
              · refine StepF.unless 27 true 94 rfl rfl fun F_ w_ hR hout hD => ?_
                have g94 : F_ 94 = .bool false := hD.get 1 rfl rfl rfl
                exact ⟨Or.inl g94, rfl⟩
              refine stepsF_cons ?_ ?_
              · refine StepF.unless 27 true 94 rfl rfl fun F_ w_ hR hout hD => ?_
                have g94 : F_ 94 = .bool false := hD.get 1 rfl rfl rfl
                exact ⟨Or.inl g94, rfl⟩
              refine stepsF_cons ?_ ?_
              · refine StepF.unless 27 true 94 rfl rfl fun F_ w_ hR hout hD => ?_
                have g94 : F_ 94 = .bool false := hD.get 0 rfl rfl rfl
                exact ⟨Or.inl g94, rfl⟩
              refine stepsF_cons ?_ ?_
              · refine StepF.unless 27 true 94 rfl rfl fun F_ w_ hR hout hD => ?_
                have g94 : F_ 94 = .bool false := hD.get 1 rfl rfl rfl
                exact ⟨Or.inl g94, rfl⟩
              refine stepsF_cons ?_ ?_
              · refine StepF.unless 27 true 94 rfl rfl fun F_ w_ hR hout hD => ?_
                have g94 : F_ 94 = .bool false := hD.get 1 rfl rfl rfl
                exact ⟨Or.inl g94, rfl⟩
              refine stepsF_cons ?_ ?_
              · refine StepF.unless 27 true 94 rfl rfl fun F_ w_ hR hout hD => ?_
                have g94 : F_ 94 = .bool false := hD.get 1 rfl rfl rfl
                exact ⟨Or.inl g94, rfl⟩
              refine stepsF_cons ?_ ?_
              · refine StepF.unless 27 true 94 rfl rfl fun F_ w_ hR hout hD => ?_
                have g94 : F_ 94 = .bool false := hD.get 1 rfl rfl rfl
                exact ⟨Or.inl g94, rfl⟩
              refine stepsF_cons ?_ ?_
              · refine StepF.unless 27 true 94 rfl rfl fun F_ w_ hR hout hD => ?_
                have g94 : F_ 94 = .bool false := hD.get 2 rfl rfl rfl
                exact ⟨Or.inl g94, rfl⟩
              refine stepsF_cons ?_ ?_
              · refine StepF.when 24 false 91 rfl rfl fun F_ w_ hR hout hD => ?_
                have g91 : F_ 91 = .bool false := hD.get 2 rfl rfl rfl
                have g94 : F_ 94 = .bool false := hD.get 0 rfl rfl rfl
                exact ⟨g91, (y_pickF rfl g94 rfl ⟨rfl, Kept.refl _ _⟩)⟩
              refine stepsF_cons ?_ ?_
              · refine StepF.one rfl fun F_ w_ hR hout hD => ?_
                have g91 : F_ 91 = .bool false := hD.get 0 rfl rfl rfl
                have g104 : F_ 104 = .bool false := hD.get 1 rfl rfl rfl
                exact (y_pickF rfl g91 g104 ⟨rfl, Kept.refl _ _⟩)
              refine stepsF_cons ?_ ?_
              · refine StepF.one rfl fun F_ w_ hR hout hD => ?_
                have g105 : F_ 105 = .bool false := hD.get 0 rfl rfl rfl
                exact (y_mov rfl g105 ⟨rfl, Kept.refl _ _⟩)
              refine stepsF_cons ?_ ?_
              · refine StepF.when 39 false 106 rfl rfl fun F_ w_ hR hout hD => ?_
                have g106 : F_ 106 = .bool false := hD.get 0 rfl rfl rfl
                exact ⟨g106, (y_mov rfl ((hout 17 rfl (by decide)).trans s767) ⟨rfl, Kept.refl _ _⟩)⟩
              refine stepsF_cons ?_ ?_
              · refine StepF.when 39 false 106 rfl rfl fun F_ w_ hR hout hD => ?_
                have g106 : F_ 106 = .bool false := hD.get 1 rfl rfl rfl
                have g107 : F_ 107 = .int .i64 (((3 : Nat) : Int)) := hD.get 0 rfl rfl rfl
                exact ⟨g106, (y_eqlI rfl g107 rfl rfl ⟨rfl, Kept.refl _ _⟩)⟩
              refine stepsF_cons ?_ ?_
              · refine StepF.one rfl fun F_ w_ hR hout hD => ?_
                have g106 : F_ 106 = .bool false := hD.get 0 rfl rfl rfl
                have g108 : F_ 108 = .bool true := hD.get 1 rfl rfl rfl
                exact (y_pickF rfl g106 g108 ⟨rfl, Kept.refl _ _⟩)
              refine stepsF_cons ?_ ?_
              · refine StepF.one rfl fun F_ w_ hR hout hD => ?_
                have g109 : F_ 109 = .bool true := hD.get 0 rfl rfl rfl
                exact (y_asg rfl g109 ⟨rfl, Kept.refl _ _⟩)
              exact stepsF_nil
            intro v773 F774 w775 k776 G777 hF778
            have B780 := B751.all k776 Apart.none
            have B781 := B752.all k776 Apart.none
            have B782 := B753.all k776 Apart.none
            have B783 := B754.all k776 Apart.none
            have B784 := B755.all k776 id
            have B785 := B756.all k776 id
            have B786 := B757.all k776 id
            have B787 := B758.all k776 id
            have B788 := B759.all k776 id
            have K789 := K739.trans k776 (fun _ _ x => x.elim)
            have s790 : F774 3 = .int .u8 (((p : Nat) : Int)) := (hF778 3).trans s762
            have s791 : F774 13 = .bool true := (hF778 13).trans s763
            have s792 : F774 14 = .pointer (some ⟨p65, 0, none⟩) := (hF778 14).trans s764
            have s793 : F774 15 = .int .i64 (U) := (hF778 15).trans s765
            have s794 : F774 16 = .int .i64 (V) := (hF778 16).trans s766
            have s795 : F774 17 = .int .i64 (((3 : Nat) : Int)) := (hF778 17).trans s767
            have s796 : F774 18 = .pointer (some ⟨p667, 0, none⟩) := (hF778 18).trans s768
            have s797 : F774 208 = undef := (hF778 208).trans s769
            have s798 : F774 20 = .int .i64 (((i : Nat) : Int)) := (hF778 20).trans s770
            have s799 : F774 21 = .bool true := (hF778 21).trans (G777 43 (by decide))
            clear G777 hF778
            refine then_normal ?_
            refine wq_seq ?_
            have hle := predN_le hb K U V 3 i
            refine wq_region ?_
            refine wl_v (.int .i64 (((i : Nat) : Int))) rfl rfl (y_mov rfl s798 ⟨rfl, rfl⟩) ?_
            refine wl_v (.pointer (some ⟨p667, i, none⟩)) rfl rfl (y_atR (i) (s := 1) rfl s796 rfl (by omega) Try.underlying29 (by omega) (by kernel_rfl) (by omega) ⟨rfl, rfl⟩) ?_
            refine wl_v (.int .i64 ((predN (mkF w h l) K U V 3) (i))) rfl rfl (y_ldR rfl rfl Try.underlying3 ((B788).cell (by omega)) ⟨rfl, rfl⟩) ?_
            refine wl_v (.bool false) rfl rfl (y_lss rfl rfl rfl (decide_eq_false (by omega)) ⟨rfl, rfl⟩) ?_
            refine wl_v (.bool false) rfl rfl (y_mov rfl rfl ⟨rfl, rfl⟩) ?_
            refine wl_vw (.int .i64 (((i : Nat) : Int))) 4 false 114 rfl rfl rfl rfl rfl (y_mov rfl s798 ⟨rfl, rfl⟩) ?_
            refine wl_vw (.pointer (some ⟨p667, i, none⟩)) 4 false 114 rfl rfl rfl rfl rfl (y_atR (i) (s := 1) rfl s796 rfl (by omega) Try.underlying29 (by omega) (by kernel_rfl) (by omega) ⟨rfl, rfl⟩) ?_
            refine wl_vw (.int .i64 ((predN (mkF w h l) K U V 3) (i))) 4 false 114 rfl rfl rfl rfl rfl (y_ldR rfl rfl Try.underlying3 ((B788).cell (by omega)) ⟨rfl, rfl⟩) ?_
            refine wl_vw (.bool false) 4 false 114 rfl rfl rfl rfl rfl (y_gtr rfl rfl rfl (decide_eq_false (by omega)) ⟨rfl, rfl⟩) ?_
            refine wl_v (.bool false) rfl rfl (y_pickF rfl rfl rfl ⟨rfl, rfl⟩) ?_
            refine wl_v (.bool false) rfl rfl (y_mov rfl rfl ⟨rfl, rfl⟩) ?_
            refine wl_vw (.bool true) 10 false 120 rfl rfl rfl rfl rfl (y_mov rfl s799 ⟨rfl, rfl⟩) ?_
            refine wl_vw (.bool false) 10 false 120 rfl rfl rfl rfl rfl (y_not rfl rfl rfl ⟨rfl, rfl⟩) ?_
            refine wl_v (.bool false) rfl rfl (y_pickF rfl rfl rfl ⟨rfl, rfl⟩) ?_
            refine wl_nil fun F800 hF801 => ?_
            have s802 : F800 3 = .int .u8 (((p : Nat) : Int)) := (hF801 3).trans s790
            have s803 : F800 13 = .bool true := (hF801 13).trans s791
            have s804 : F800 14 = .pointer (some ⟨p65, 0, none⟩) := (hF801 14).trans s792
            have s805 : F800 15 = .int .i64 (U) := (hF801 15).trans s793
            have s806 : F800 16 = .int .i64 (V) := (hF801 16).trans s794
            have s807 : F800 17 = .int .i64 (((3 : Nat) : Int)) := (hF801 17).trans s795
            have s808 : F800 18 = .pointer (some ⟨p667, 0, none⟩) := (hF801 18).trans s796
            have s809 : F800 208 = undef := (hF801 208).trans s797
            have s810 : F800 20 = .int .i64 (((i : Nat) : Int)) := (hF801 20).trans s798
            have s811 : F800 123 = .bool false := (hF801 123).trans rfl
            clear hF801
            refine then_normal ?_
            refine wq_cond (t := false) s811 (fun e => by cases e) (fun _ => ?_)
            refine wq_skip ?_
            refine in_normal ?_
            refine then_normal ?_
            refine wq_region ?_
            refine wl_v (.int .i64 (((i : Nat) : Int))) rfl rfl (y_mov rfl s810 ⟨rfl, rfl⟩) ?_
            refine wl_v (.int .i64 (((i + 1 : Nat) : Int))) rfl rfl (y_add rfl rfl rfl (i64_n (by omega) (by omega)) ⟨rfl, rfl⟩) ?_
            refine wl_v (.int .i64 (((i + 1 : Nat) : Int))) rfl rfl (y_asg rfl rfl ⟨rfl, rfl⟩) ?_
            refine wl_nil fun F812 hF813 => ?_
            have s814 : F812 3 = .int .u8 (((p : Nat) : Int)) := (hF813 3).trans s802
            have s815 : F812 13 = .bool true := (hF813 13).trans s803
            have s816 : F812 14 = .pointer (some ⟨p65, 0, none⟩) := (hF813 14).trans s804
            have s817 : F812 15 = .int .i64 (U) := (hF813 15).trans s805
            have s818 : F812 16 = .int .i64 (V) := (hF813 16).trans s806
            have s819 : F812 17 = .int .i64 (((3 : Nat) : Int)) := (hF813 17).trans s807
            have s820 : F812 18 = .pointer (some ⟨p667, 0, none⟩) := (hF813 18).trans s808
            have s821 : F812 208 = undef := (hF813 208).trans s809
            have s822 : F812 20 = .int .i64 (((i + 1 : Nat) : Int)) := (hF813 20).trans rfl
            clear hF813
            exact then_normal ⟨(16 - (i + 1)), by omega, i + 1, by omega, rfl, s814, s815, s816, s817, s818, s819, s820, s821, s822, K789, B780, B781, B782, B783, B784, B785, B786, B787, B788⟩
          · replace c772 := of_decide_eq_false c772
            refine wq_exit ?_
            refine then_exit ?_
            refine then_exit ?_
            have l823 : 16 = i := by omega
            subst l823
            refine in_here ?_
            refine in_normal ?_
            refine then_normal ?_
            refine wq_region ?_
            refine wl_v (.int .i64 (((3 : Nat) : Int))) rfl rfl (y_mov rfl s767 ⟨rfl, rfl⟩) ?_
            refine wl_v (.int .i64 (((4 : Nat) : Int))) rfl rfl (y_add rfl rfl rfl (i64_n (by omega) (by omega)) ⟨rfl, rfl⟩) ?_
            refine wl_v (.int .i64 (((4 : Nat) : Int))) rfl rfl (y_asg rfl rfl ⟨rfl, rfl⟩) ?_
            refine wl_nil fun F824 hF825 => ?_
            have s826 : F824 3 = .int .u8 (((p : Nat) : Int)) := (hF825 3).trans s762
            have s827 : F824 13 = .bool true := (hF825 13).trans s763
            have s828 : F824 14 = .pointer (some ⟨p65, 0, none⟩) := (hF825 14).trans s764
            have s829 : F824 15 = .int .i64 (U) := (hF825 15).trans s765
            have s830 : F824 16 = .int .i64 (V) := (hF825 16).trans s766
            have s831 : F824 208 = undef := (hF825 208).trans s769
            have s832 : F824 17 = .int .i64 (((4 : Nat) : Int)) := (hF825 17).trans rfl
            clear hF825
            refine then_normal ?_
            refine wqr_step ?_
            refine wq_seq ?_
            refine wq_seq ?_
            refine wq_region ?_
            refine wl_v (.int .i64 (((4 : Nat) : Int))) rfl rfl (y_mov rfl s832 ⟨rfl, rfl⟩) ?_
            refine wl_v (.bool false) rfl rfl (y_lss rfl rfl rfl rfl ⟨rfl, rfl⟩) ?_
            refine wl_nil fun F833 hF834 => ?_
            have s835 : F833 3 = .int .u8 (((p : Nat) : Int)) := (hF834 3).trans s826
            have s836 : F833 13 = .bool true := (hF834 13).trans s827
            have s837 : F833 14 = .pointer (some ⟨p65, 0, none⟩) := (hF834 14).trans s828
            have s838 : F833 15 = .int .i64 (U) := (hF834 15).trans s829
            have s839 : F833 16 = .int .i64 (V) := (hF834 16).trans s830
            have s840 : F833 208 = undef := (hF834 208).trans s831
            have s841 : F833 17 = .int .i64 (((4 : Nat) : Int)) := (hF834 17).trans s832
            have s842 : F833 47 = .bool false := (hF834 47).trans rfl
            clear hF834
            refine then_normal ?_
            refine wq_cond (t := false) s842 (fun e => by cases e) (fun _ => ?_)
            refine wq_exit ?_
            refine then_exit ?_
            refine then_exit ?_
            refine in_here ?_
            refine then_normal ?_
            refine wq_seq ?_
            refine wq_region ?_
            refine wl_v (.agg #[.int .i64 ((mkF (w) (h) (l)).W), .int .i64 ((mkF (w) (h) (l)).H), v40, v41, v42]) rfl rfl (y_load_stc stcT_frame rfl s837 B755 ⟨rfl, rfl⟩) ?_
            refine wl_v (.int .u8 (((p : Nat) : Int))) rfl rfl (y_mov rfl s835 ⟨rfl, rfl⟩) ?_
            refine wl_v (.int .i64 (((p : Nat) : Int))) rfl rfl (y_convR rfl rfl Try.underlying5 Try.underlying3 (i64_i rfl (by omega)) ⟨rfl, rfl⟩) ?_
            refine wl_v (.int .i64 (K)) rfl rfl (y_rem rfl rfl rfl (by first | decide | omega) (hK.symm) ⟨rfl, rfl⟩) ?_
            refine wl_v (.int .i64 (U)) rfl rfl (y_mov rfl s838 ⟨rfl, rfl⟩) ?_
            refine wl_v (.int .i64 (V)) rfl rfl (y_mov rfl s839 ⟨rfl, rfl⟩) ?_
            refine wl_call (R := fun v_ w_ => v_ = .tuple #[blkV (predB (mkF (w) (h) (l)) (K) (U) (V) (1)), .int .i64 (predE (mkF (w) (h) (l)) (K) (U) (V) (1))] ∧ Kept (fun _ => False) w738 w_) rfl rfl (y_cs rfl rfl rfl (fun _ _ => by kernel_rfl) (ev_func _) (vsC rfl (vsC rfl (vsC rfl (vsC rfl (vsC rfl vsN))))) (il_predict (K) (U) (V) (1) (mkF (w) (h) (l)) (v40) (v41) (v42) (T45) (T46) (T47) _  (B752).byt (B753).byt (B754).byt ) (fun e_ w_ h_ => ⟨_, h_.1, rfl, h_.2⟩)) ?_
            rintro _ w843 ⟨rfl, k844⟩
            have B845 := B751.all k844 Apart.none
            have B846 := B752.all k844 Apart.none
            have B847 := B753.all k844 Apart.none
            have B848 := B754.all k844 Apart.none
            have B849 := B755.all k844 id
            have B850 := B756.all k844 id
            have B851 := B757.all k844 id
            have B852 := B758.all k844 id
            have B853 := B759.all k844 id
            have K854 := K739.trans k844 (fun _ _ x => x.elim)
            refine wl_v (.tuple #[blkV (predB (mkF (w) (h) (l)) (K) (U) (V) (1)), .int .i64 (predE (mkF (w) (h) (l)) (K) (U) (V) (1))]) rfl rfl (y_mov rfl rfl ⟨rfl, rfl⟩) ?_
            refine wl_v (blkV (predB (mkF (w) (h) (l)) (K) (U) (V) (1))) rfl rfl (y_ext rfl rfl rfl ⟨rfl, rfl⟩) ?_
            refine wl_v (.int .i64 (predE (mkF (w) (h) (l)) (K) (U) (V) (1))) rfl rfl (y_ext rfl rfl rfl ⟨rfl, rfl⟩) ?_
            refine wl_alloc_blk rfl rfl rfl blkT_block.2.2 fun p855 w856 e859 B857 k858 => ?_
            have g860 := onB_new (Nat.le_of_eq e859.symm)
            have gr861 : Grew w0 noB (onB p855) := Grew.new K854 g860
            have ap862 : Apart (onB p855) (T_s) := Apart.new g860 (B845).live
            have ap863 : Apart (onB p855) (T45) := Apart.new g860 (B846).live
            have ap864 : Apart (onB p855) (T46) := Apart.new g860 (B847).live
            have ap865 : Apart (onB p855) (T47) := Apart.new g860 (B848).live
            have ap866 : Apart (onB p855) (onB p65) := Apart.new g860 (onB_live (B849).lt)
            have ap867 : Apart (onB p855) (onB p139) := Apart.new g860 (onB_live (B850).lt)
            have ap868 : Apart (onB p855) (onB p309) := Apart.new g860 (onB_live (B851).lt)
            have ap869 : Apart (onB p855) (onB p485) := Apart.new g860 (onB_live (B852).lt)
            have ap870 : Apart (onB p855) (onB p667) := Apart.new g860 (onB_live (B853).lt)
            clear e859 g860
            have B871 := B845.all k858 Apart.none
            have B872 := B846.all k858 Apart.none
            have B873 := B847.all k858 Apart.none
            have B874 := B848.all k858 Apart.none
            have B875 := B849.all k858 id
            have B876 := B850.all k858 id
            have B877 := B851.all k858 id
            have B878 := B852.all k858 id
            have B879 := B853.all k858 id
            have K880 := K854.trans k858 (fun _ _ x => x.elim)
            refine wl_store_blk blkT_block rfl rfl rfl rfl rfl B857 fun w881 B882 k883 => ?_
            have B884 := B871.all k883 (fun i h x => (((ap862).symm) i h x))
            have B885 := B872.all k883 (fun i h x => (((ap863).symm) i h x))
            have B886 := B873.all k883 (fun i h x => (((ap864).symm) i h x))
            have B887 := B874.all k883 (fun i h x => (((ap865).symm) i h x))
            have B888 := B875.all k883 (fun x => (((ap866).symm) p65 rfl x))
            have B889 := B876.all k883 (fun x => (((ap867).symm) p139 rfl x))
            have B890 := B877.all k883 (fun x => (((ap868).symm) p309 rfl x))
            have B891 := B878.all k883 (fun x => (((ap869).symm) p485 rfl x))
            have B892 := B879.all k883 (fun x => (((ap870).symm) p667 rfl x))
            have K893 := K880.trans k883 (Grew.ok (S := fun _ => False) gr861 noB_le)
            refine wl_v (.int .i64 (predE (mkF (w) (h) (l)) (K) (U) (V) (1))) rfl rfl (y_asg rfl rfl ⟨rfl, rfl⟩) ?_
            refine wl_nil fun F894 hF895 => ?_
            have s896 : F894 3 = .int .u8 (((p : Nat) : Int)) := (hF895 3).trans s835
            have s897 : F894 13 = .bool true := (hF895 13).trans s836
            have s898 : F894 14 = .pointer (some ⟨p65, 0, none⟩) := (hF895 14).trans s837
            have s899 : F894 15 = .int .i64 (U) := (hF895 15).trans s838
            have s900 : F894 16 = .int .i64 (V) := (hF895 16).trans s839
            have s901 : F894 208 = undef := (hF895 208).trans s840
            have s902 : F894 22 = .pointer (some ⟨p855, 0, none⟩) := (hF895 22).trans rfl
            clear hF895
            refine then_normal ?_
            refine wq_seq ?_
            refine wq_region ?_
            refine wl_v (.agg #[.int .i64 ((mkF (w) (h) (l)).W), .int .i64 ((mkF (w) (h) (l)).H), v40, v41, v42]) rfl rfl (y_load_stc stcT_frame rfl s898 B888 ⟨rfl, rfl⟩) ?_
            refine wl_v (.int .u8 (((p : Nat) : Int))) rfl rfl (y_mov rfl s896 ⟨rfl, rfl⟩) ?_
            refine wl_v (.int .i64 (((p : Nat) : Int))) rfl rfl (y_convR rfl rfl Try.underlying5 Try.underlying3 (i64_i rfl (by omega)) ⟨rfl, rfl⟩) ?_
            refine wl_v (.int .i64 (K)) rfl rfl (y_rem rfl rfl rfl (by first | decide | omega) (hK.symm) ⟨rfl, rfl⟩) ?_
            refine wl_v (.int .i64 (U)) rfl rfl (y_mov rfl s899 ⟨rfl, rfl⟩) ?_
            refine wl_v (.int .i64 (V)) rfl rfl (y_mov rfl s900 ⟨rfl, rfl⟩) ?_
            refine wl_call (R := fun v_ w_ => v_ = .tuple #[blkV (predB (mkF (w) (h) (l)) (K) (U) (V) (2)), .int .i64 (predE (mkF (w) (h) (l)) (K) (U) (V) (2))] ∧ Kept (fun _ => False) w881 w_) rfl rfl (y_cs rfl rfl rfl (fun _ _ => by kernel_rfl) (ev_func _) (vsC rfl (vsC rfl (vsC rfl (vsC rfl (vsC rfl vsN))))) (il_predict (K) (U) (V) (2) (mkF (w) (h) (l)) (v40) (v41) (v42) (T45) (T46) (T47) _  (B885).byt (B886).byt (B887).byt ) (fun e_ w_ h_ => ⟨_, h_.1, rfl, h_.2⟩)) ?_
            rintro _ w903 ⟨rfl, k904⟩
            have B905 := B884.all k904 Apart.none
            have B906 := B885.all k904 Apart.none
            have B907 := B886.all k904 Apart.none
            have B908 := B887.all k904 Apart.none
            have B909 := B888.all k904 id
            have B910 := B889.all k904 id
            have B911 := B890.all k904 id
            have B912 := B891.all k904 id
            have B913 := B892.all k904 id
            have B914 := B882.all k904 id
            have K915 := K893.trans k904 (fun _ _ x => x.elim)
            refine wl_v (.tuple #[blkV (predB (mkF (w) (h) (l)) (K) (U) (V) (2)), .int .i64 (predE (mkF (w) (h) (l)) (K) (U) (V) (2))]) rfl rfl (y_mov rfl rfl ⟨rfl, rfl⟩) ?_
            refine wl_v (blkV (predB (mkF (w) (h) (l)) (K) (U) (V) (2))) rfl rfl (y_ext rfl rfl rfl ⟨rfl, rfl⟩) ?_
            refine wl_v (.int .i64 (predE (mkF (w) (h) (l)) (K) (U) (V) (2))) rfl rfl (y_ext rfl rfl rfl ⟨rfl, rfl⟩) ?_
            refine wl_alloc_blk rfl rfl rfl blkT_block.2.2 fun p916 w917 e920 B918 k919 => ?_
            have g921 := onB_new (Nat.le_of_eq e920.symm)
            have gr922 : Grew w0 noB (onB p916) := Grew.new K915 g921
            have ap923 : Apart (onB p916) (T_s) := Apart.new g921 (B905).live
            have ap924 : Apart (onB p916) (T45) := Apart.new g921 (B906).live
            have ap925 : Apart (onB p916) (T46) := Apart.new g921 (B907).live
            have ap926 : Apart (onB p916) (T47) := Apart.new g921 (B908).live
            have ap927 : Apart (onB p916) (onB p65) := Apart.new g921 (onB_live (B909).lt)
            have ap928 : Apart (onB p916) (onB p139) := Apart.new g921 (onB_live (B910).lt)
            have ap929 : Apart (onB p916) (onB p309) := Apart.new g921 (onB_live (B911).lt)
            have ap930 : Apart (onB p916) (onB p485) := Apart.new g921 (onB_live (B912).lt)
            have ap931 : Apart (onB p916) (onB p667) := Apart.new g921 (onB_live (B913).lt)
            have ap932 : Apart (onB p916) (onB p855) := Apart.new g921 (onB_live (B914).lt)
            clear e920 g921
            have B933 := B905.all k919 Apart.none
            have B934 := B906.all k919 Apart.none
            have B935 := B907.all k919 Apart.none
            have B936 := B908.all k919 Apart.none
            have B937 := B909.all k919 id
            have B938 := B910.all k919 id
            have B939 := B911.all k919 id
            have B940 := B912.all k919 id
            have B941 := B913.all k919 id
            have B942 := B914.all k919 id
            have K943 := K915.trans k919 (fun _ _ x => x.elim)
            refine wl_store_blk blkT_block rfl rfl rfl rfl rfl B918 fun w944 B945 k946 => ?_
            have B947 := B933.all k946 (fun i h x => (((ap923).symm) i h x))
            have B948 := B934.all k946 (fun i h x => (((ap924).symm) i h x))
            have B949 := B935.all k946 (fun i h x => (((ap925).symm) i h x))
            have B950 := B936.all k946 (fun i h x => (((ap926).symm) i h x))
            have B951 := B937.all k946 (fun x => (((ap927).symm) p65 rfl x))
            have B952 := B938.all k946 (fun x => (((ap928).symm) p139 rfl x))
            have B953 := B939.all k946 (fun x => (((ap929).symm) p309 rfl x))
            have B954 := B940.all k946 (fun x => (((ap930).symm) p485 rfl x))
            have B955 := B941.all k946 (fun x => (((ap931).symm) p667 rfl x))
            have B956 := B942.all k946 (fun x => (((ap932).symm) p855 rfl x))
            have K957 := K943.trans k946 (Grew.ok (S := fun _ => False) gr922 noB_le)
            refine wl_v (.int .i64 (predE (mkF (w) (h) (l)) (K) (U) (V) (2))) rfl rfl (y_asg rfl rfl ⟨rfl, rfl⟩) ?_
            refine wl_nil fun F958 hF959 => ?_
            have s960 : F958 3 = .int .u8 (((p : Nat) : Int)) := (hF959 3).trans s896
            have s961 : F958 13 = .bool true := (hF959 13).trans s897
            have s962 : F958 14 = .pointer (some ⟨p65, 0, none⟩) := (hF959 14).trans s898
            have s963 : F958 15 = .int .i64 (U) := (hF959 15).trans s899
            have s964 : F958 16 = .int .i64 (V) := (hF959 16).trans s900
            have s965 : F958 208 = undef := (hF959 208).trans s901
            have s966 : F958 22 = .pointer (some ⟨p855, 0, none⟩) := (hF959 22).trans s902
            have s967 : F958 24 = .pointer (some ⟨p916, 0, none⟩) := (hF959 24).trans rfl
            clear hF959
            refine then_normal ?_
            refine wq_seq ?_
            refine wq_region ?_
            refine wl_v (.agg #[.int .i64 ((mkF (w) (h) (l)).W), .int .i64 ((mkF (w) (h) (l)).H), v40, v41, v42]) rfl rfl (y_load_stc stcT_frame rfl s962 B951 ⟨rfl, rfl⟩) ?_
            refine wl_v (.int .u8 (((p : Nat) : Int))) rfl rfl (y_mov rfl s960 ⟨rfl, rfl⟩) ?_
            refine wl_v (.int .i64 (((p : Nat) : Int))) rfl rfl (y_convR rfl rfl Try.underlying5 Try.underlying3 (i64_i rfl (by omega)) ⟨rfl, rfl⟩) ?_
            refine wl_v (.int .i64 (K)) rfl rfl (y_rem rfl rfl rfl (by first | decide | omega) (hK.symm) ⟨rfl, rfl⟩) ?_
            refine wl_v (.int .i64 (U)) rfl rfl (y_mov rfl s963 ⟨rfl, rfl⟩) ?_
            refine wl_v (.int .i64 (V)) rfl rfl (y_mov rfl s964 ⟨rfl, rfl⟩) ?_
            refine wl_call (R := fun v_ w_ => v_ = .tuple #[blkV (predB (mkF (w) (h) (l)) (K) (U) (V) (0)), .int .i64 (predE (mkF (w) (h) (l)) (K) (U) (V) (0))] ∧ Kept (fun _ => False) w944 w_) rfl rfl (y_cs rfl rfl rfl (fun _ _ => by kernel_rfl) (ev_func _) (vsC rfl (vsC rfl (vsC rfl (vsC rfl (vsC rfl vsN))))) (il_predict (K) (U) (V) (0) (mkF (w) (h) (l)) (v40) (v41) (v42) (T45) (T46) (T47) _  (B948).byt (B949).byt (B950).byt ) (fun e_ w_ h_ => ⟨_, h_.1, rfl, h_.2⟩)) ?_
            rintro _ w968 ⟨rfl, k969⟩
            have B970 := B947.all k969 Apart.none
            have B971 := B948.all k969 Apart.none
            have B972 := B949.all k969 Apart.none
            have B973 := B950.all k969 Apart.none
            have B974 := B951.all k969 id
            have B975 := B952.all k969 id
            have B976 := B953.all k969 id
            have B977 := B954.all k969 id
            have B978 := B955.all k969 id
            have B979 := B956.all k969 id
            have B980 := B945.all k969 id
            have K981 := K957.trans k969 (fun _ _ x => x.elim)
            refine wl_v (.tuple #[blkV (predB (mkF (w) (h) (l)) (K) (U) (V) (0)), .int .i64 (predE (mkF (w) (h) (l)) (K) (U) (V) (0))]) rfl rfl (y_mov rfl rfl ⟨rfl, rfl⟩) ?_
            refine wl_v (blkV (predB (mkF (w) (h) (l)) (K) (U) (V) (0))) rfl rfl (y_ext rfl rfl rfl ⟨rfl, rfl⟩) ?_
            refine wl_v (.int .i64 (predE (mkF (w) (h) (l)) (K) (U) (V) (0))) rfl rfl (y_ext rfl rfl rfl ⟨rfl, rfl⟩) ?_
            refine wl_alloc_blk rfl rfl rfl blkT_block.2.2 fun p982 w983 e986 B984 k985 => ?_
            have g987 := onB_new (Nat.le_of_eq e986.symm)
            have gr988 : Grew w0 noB (onB p982) := Grew.new K981 g987
            have ap989 : Apart (onB p982) (T_s) := Apart.new g987 (B970).live
            have ap990 : Apart (onB p982) (T45) := Apart.new g987 (B971).live
            have ap991 : Apart (onB p982) (T46) := Apart.new g987 (B972).live
            have ap992 : Apart (onB p982) (T47) := Apart.new g987 (B973).live
            have ap993 : Apart (onB p982) (onB p65) := Apart.new g987 (onB_live (B974).lt)
            have ap994 : Apart (onB p982) (onB p139) := Apart.new g987 (onB_live (B975).lt)
            have ap995 : Apart (onB p982) (onB p309) := Apart.new g987 (onB_live (B976).lt)
            have ap996 : Apart (onB p982) (onB p485) := Apart.new g987 (onB_live (B977).lt)
            have ap997 : Apart (onB p982) (onB p667) := Apart.new g987 (onB_live (B978).lt)
            have ap998 : Apart (onB p982) (onB p855) := Apart.new g987 (onB_live (B979).lt)
            have ap999 : Apart (onB p982) (onB p916) := Apart.new g987 (onB_live (B980).lt)
            clear e986 g987
            have B1000 := B970.all k985 Apart.none
            have B1001 := B971.all k985 Apart.none
            have B1002 := B972.all k985 Apart.none
            have B1003 := B973.all k985 Apart.none
            have B1004 := B974.all k985 id
            have B1005 := B975.all k985 id
            have B1006 := B976.all k985 id
            have B1007 := B977.all k985 id
            have B1008 := B978.all k985 id
            have B1009 := B979.all k985 id
            have B1010 := B980.all k985 id
            have K1011 := K981.trans k985 (fun _ _ x => x.elim)
            refine wl_store_blk blkT_block rfl rfl rfl rfl rfl B984 fun w1012 B1013 k1014 => ?_
            have B1015 := B1000.all k1014 (fun i h x => (((ap989).symm) i h x))
            have B1016 := B1001.all k1014 (fun i h x => (((ap990).symm) i h x))
            have B1017 := B1002.all k1014 (fun i h x => (((ap991).symm) i h x))
            have B1018 := B1003.all k1014 (fun i h x => (((ap992).symm) i h x))
            have B1019 := B1004.all k1014 (fun x => (((ap993).symm) p65 rfl x))
            have B1020 := B1005.all k1014 (fun x => (((ap994).symm) p139 rfl x))
            have B1021 := B1006.all k1014 (fun x => (((ap995).symm) p309 rfl x))
            have B1022 := B1007.all k1014 (fun x => (((ap996).symm) p485 rfl x))
            have B1023 := B1008.all k1014 (fun x => (((ap997).symm) p667 rfl x))
            have B1024 := B1009.all k1014 (fun x => (((ap998).symm) p855 rfl x))
            have B1025 := B1010.all k1014 (fun x => (((ap999).symm) p916 rfl x))
            have K1026 := K1011.trans k1014 (Grew.ok (S := fun _ => False) gr988 noB_le)
            refine wl_v (.int .i64 (predE (mkF (w) (h) (l)) (K) (U) (V) (0))) rfl rfl (y_asg rfl rfl ⟨rfl, rfl⟩) ?_
            refine wl_nil fun F1027 hF1028 => ?_
            have s1029 : F1027 3 = .int .u8 (((p : Nat) : Int)) := (hF1028 3).trans s960
            have s1030 : F1027 13 = .bool true := (hF1028 13).trans s961
            have s1031 : F1027 14 = .pointer (some ⟨p65, 0, none⟩) := (hF1028 14).trans s962
            have s1032 : F1027 15 = .int .i64 (U) := (hF1028 15).trans s963
            have s1033 : F1027 16 = .int .i64 (V) := (hF1028 16).trans s964
            have s1034 : F1027 208 = undef := (hF1028 208).trans s965
            have s1035 : F1027 22 = .pointer (some ⟨p855, 0, none⟩) := (hF1028 22).trans s966
            have s1036 : F1027 24 = .pointer (some ⟨p916, 0, none⟩) := (hF1028 24).trans s967
            have s1037 : F1027 26 = .pointer (some ⟨p982, 0, none⟩) := (hF1028 26).trans rfl
            clear hF1028
            refine then_normal ?_
            refine wq_seq ?_
            refine wq_region ?_
            refine wl_v (.agg #[.int .i64 ((mkF (w) (h) (l)).W), .int .i64 ((mkF (w) (h) (l)).H), v40, v41, v42]) rfl rfl (y_load_stc stcT_frame rfl s1031 B1019 ⟨rfl, rfl⟩) ?_
            refine wl_v (.int .u8 (((p : Nat) : Int))) rfl rfl (y_mov rfl s1029 ⟨rfl, rfl⟩) ?_
            refine wl_v (.int .i64 (((p : Nat) : Int))) rfl rfl (y_convR rfl rfl Try.underlying5 Try.underlying3 (i64_i rfl (by omega)) ⟨rfl, rfl⟩) ?_
            refine wl_v (.int .i64 (K)) rfl rfl (y_rem rfl rfl rfl (by first | decide | omega) (hK.symm) ⟨rfl, rfl⟩) ?_
            refine wl_v (.int .i64 (U)) rfl rfl (y_mov rfl s1032 ⟨rfl, rfl⟩) ?_
            refine wl_v (.int .i64 (V)) rfl rfl (y_mov rfl s1033 ⟨rfl, rfl⟩) ?_
            refine wl_call (R := fun v_ w_ => v_ = .tuple #[blkV (predB (mkF (w) (h) (l)) (K) (U) (V) (3)), .int .i64 (predE (mkF (w) (h) (l)) (K) (U) (V) (3))] ∧ Kept (fun _ => False) w1012 w_) rfl rfl (y_cs rfl rfl rfl (fun _ _ => by kernel_rfl) (ev_func _) (vsC rfl (vsC rfl (vsC rfl (vsC rfl (vsC rfl vsN))))) (il_predict (K) (U) (V) (3) (mkF (w) (h) (l)) (v40) (v41) (v42) (T45) (T46) (T47) _  (B1016).byt (B1017).byt (B1018).byt ) (fun e_ w_ h_ => ⟨_, h_.1, rfl, h_.2⟩)) ?_
            rintro _ w1038 ⟨rfl, k1039⟩
            have B1040 := B1015.all k1039 Apart.none
            have B1041 := B1016.all k1039 Apart.none
            have B1042 := B1017.all k1039 Apart.none
            have B1043 := B1018.all k1039 Apart.none
            have B1044 := B1019.all k1039 id
            have B1045 := B1020.all k1039 id
            have B1046 := B1021.all k1039 id
            have B1047 := B1022.all k1039 id
            have B1048 := B1023.all k1039 id
            have B1049 := B1024.all k1039 id
            have B1050 := B1025.all k1039 id
            have B1051 := B1013.all k1039 id
            have K1052 := K1026.trans k1039 (fun _ _ x => x.elim)
            refine wl_v (.tuple #[blkV (predB (mkF (w) (h) (l)) (K) (U) (V) (3)), .int .i64 (predE (mkF (w) (h) (l)) (K) (U) (V) (3))]) rfl rfl (y_mov rfl rfl ⟨rfl, rfl⟩) ?_
            refine wl_v (blkV (predB (mkF (w) (h) (l)) (K) (U) (V) (3))) rfl rfl (y_ext rfl rfl rfl ⟨rfl, rfl⟩) ?_
            refine wl_v (.int .i64 (predE (mkF (w) (h) (l)) (K) (U) (V) (3))) rfl rfl (y_ext rfl rfl rfl ⟨rfl, rfl⟩) ?_
            refine wl_alloc_blk rfl rfl rfl blkT_block.2.2 fun p1053 w1054 e1057 B1055 k1056 => ?_
            have g1058 := onB_new (Nat.le_of_eq e1057.symm)
            have gr1059 : Grew w0 noB (onB p1053) := Grew.new K1052 g1058
            have ap1060 : Apart (onB p1053) (T_s) := Apart.new g1058 (B1040).live
            have ap1061 : Apart (onB p1053) (T45) := Apart.new g1058 (B1041).live
            have ap1062 : Apart (onB p1053) (T46) := Apart.new g1058 (B1042).live
            have ap1063 : Apart (onB p1053) (T47) := Apart.new g1058 (B1043).live
            have ap1064 : Apart (onB p1053) (onB p65) := Apart.new g1058 (onB_live (B1044).lt)
            have ap1065 : Apart (onB p1053) (onB p139) := Apart.new g1058 (onB_live (B1045).lt)
            have ap1066 : Apart (onB p1053) (onB p309) := Apart.new g1058 (onB_live (B1046).lt)
            have ap1067 : Apart (onB p1053) (onB p485) := Apart.new g1058 (onB_live (B1047).lt)
            have ap1068 : Apart (onB p1053) (onB p667) := Apart.new g1058 (onB_live (B1048).lt)
            have ap1069 : Apart (onB p1053) (onB p855) := Apart.new g1058 (onB_live (B1049).lt)
            have ap1070 : Apart (onB p1053) (onB p916) := Apart.new g1058 (onB_live (B1050).lt)
            have ap1071 : Apart (onB p1053) (onB p982) := Apart.new g1058 (onB_live (B1051).lt)
            clear e1057 g1058
            have B1072 := B1040.all k1056 Apart.none
            have B1073 := B1041.all k1056 Apart.none
            have B1074 := B1042.all k1056 Apart.none
            have B1075 := B1043.all k1056 Apart.none
            have B1076 := B1044.all k1056 id
            have B1077 := B1045.all k1056 id
            have B1078 := B1046.all k1056 id
            have B1079 := B1047.all k1056 id
            have B1080 := B1048.all k1056 id
            have B1081 := B1049.all k1056 id
            have B1082 := B1050.all k1056 id
            have B1083 := B1051.all k1056 id
            have K1084 := K1052.trans k1056 (fun _ _ x => x.elim)
            refine wl_store_blk blkT_block rfl rfl rfl rfl rfl B1055 fun w1085 B1086 k1087 => ?_
            have B1088 := B1072.all k1087 (fun i h x => (((ap1060).symm) i h x))
            have B1089 := B1073.all k1087 (fun i h x => (((ap1061).symm) i h x))
            have B1090 := B1074.all k1087 (fun i h x => (((ap1062).symm) i h x))
            have B1091 := B1075.all k1087 (fun i h x => (((ap1063).symm) i h x))
            have B1092 := B1076.all k1087 (fun x => (((ap1064).symm) p65 rfl x))
            have B1093 := B1077.all k1087 (fun x => (((ap1065).symm) p139 rfl x))
            have B1094 := B1078.all k1087 (fun x => (((ap1066).symm) p309 rfl x))
            have B1095 := B1079.all k1087 (fun x => (((ap1067).symm) p485 rfl x))
            have B1096 := B1080.all k1087 (fun x => (((ap1068).symm) p667 rfl x))
            have B1097 := B1081.all k1087 (fun x => (((ap1069).symm) p855 rfl x))
            have B1098 := B1082.all k1087 (fun x => (((ap1070).symm) p916 rfl x))
            have B1099 := B1083.all k1087 (fun x => (((ap1071).symm) p982 rfl x))
            have K1100 := K1084.trans k1087 (Grew.ok (S := fun _ => False) gr1059 noB_le)
            refine wl_v (.int .i64 (predE (mkF (w) (h) (l)) (K) (U) (V) (3))) rfl rfl (y_asg rfl rfl ⟨rfl, rfl⟩) ?_
            refine wl_nil fun F1101 hF1102 => ?_
            have s1103 : F1101 13 = .bool true := (hF1102 13).trans s1030
            have s1104 : F1101 208 = undef := (hF1102 208).trans s1034
            have s1105 : F1101 22 = .pointer (some ⟨p855, 0, none⟩) := (hF1102 22).trans s1035
            have s1106 : F1101 24 = .pointer (some ⟨p916, 0, none⟩) := (hF1102 24).trans s1036
            have s1107 : F1101 26 = .pointer (some ⟨p982, 0, none⟩) := (hF1102 26).trans s1037
            have s1108 : F1101 28 = .pointer (some ⟨p1053, 0, none⟩) := (hF1102 28).trans rfl
            clear hF1102
            refine then_normal ?_
            refine wq_seq ?_
            have a0 := predN_le hb K U V 1 0
            have a1 := predN_le hb K U V 1 1
            have a2 := predN_le hb K U V 1 2
            have a3 := predN_le hb K U V 1 3
            have l0 := predN_le hb K U V 2 0
            have l4 := predN_le hb K U V 2 4
            have l8 := predN_le hb K U V 2 8
            have l12 := predN_le hb K U V 2 12
            have B1109 : Blk w1085 p855 29 (predN (mkF w h l) K U V 1) := ((by rw [← (pred_yes (mode := 1) hpl (by decide)).2]; exact B1097))
            have B1110 : Blk w1085 p916 29 (predN (mkF w h l) K U V 2) := ((by rw [← (pred_yes (mode := 2) hpl (by decide)).2]; exact B1098))
            have B1111 : Blk w1085 p982 29 (predN (mkF w h l) K U V 0) := ((by rw [← (pred_yes (mode := 0) hpl (by decide)).2]; exact B1099))
            have B1112 : Blk w1085 p1053 29 (predN (mkF w h l) K U V 3) := ((by rw [← (pred_yes (mode := 3) hpl (by decide)).2]; exact B1086))
            refine wq_region ?_
            refine wl_v (.pointer (some ⟨p855, 0, none⟩)) rfl rfl (y_atR (0) (s := 1) rfl s1105 rfl (by omega) Try.underlying29 (by omega) (by kernel_rfl) (by omega) ⟨rfl, rfl⟩) ?_
            refine wl_v (.int .i64 ((predN (mkF w h l) K U V 1) (0))) rfl rfl (y_ldR rfl rfl Try.underlying3 ((B1109).cell (by omega)) ⟨rfl, rfl⟩) ?_
            refine wl_v (.pointer (some ⟨p855, 1, none⟩)) rfl rfl (y_atR (1) (s := 1) rfl s1105 rfl (by omega) Try.underlying29 (by omega) (by kernel_rfl) (by omega) ⟨rfl, rfl⟩) ?_
            refine wl_v (.int .i64 ((predN (mkF w h l) K U V 1) (1))) rfl rfl (y_ldR rfl rfl Try.underlying3 ((B1109).cell (by omega)) ⟨rfl, rfl⟩) ?_
            refine wl_v (.int .i64 (((predN (mkF w h l) K U V 1) (0)) + ((predN (mkF w h l) K U V 1) (1)))) rfl rfl (y_add rfl rfl rfl (i64_i rfl (by omega)) ⟨rfl, rfl⟩) ?_
            refine wl_v (.pointer (some ⟨p855, 2, none⟩)) rfl rfl (y_atR (2) (s := 1) rfl s1105 rfl (by omega) Try.underlying29 (by omega) (by kernel_rfl) (by omega) ⟨rfl, rfl⟩) ?_
            refine wl_v (.int .i64 ((predN (mkF w h l) K U V 1) (2))) rfl rfl (y_ldR rfl rfl Try.underlying3 ((B1109).cell (by omega)) ⟨rfl, rfl⟩) ?_
            refine wl_v (.int .i64 ((((predN (mkF w h l) K U V 1) (0)) + ((predN (mkF w h l) K U V 1) (1))) + ((predN (mkF w h l) K U V 1) (2)))) rfl rfl (y_add rfl rfl rfl (i64_i rfl (by omega)) ⟨rfl, rfl⟩) ?_
            refine wl_v (.pointer (some ⟨p855, 3, none⟩)) rfl rfl (y_atR (3) (s := 1) rfl s1105 rfl (by omega) Try.underlying29 (by omega) (by kernel_rfl) (by omega) ⟨rfl, rfl⟩) ?_
            refine wl_v (.int .i64 ((predN (mkF w h l) K U V 1) (3))) rfl rfl (y_ldR rfl rfl Try.underlying3 ((B1109).cell (by omega)) ⟨rfl, rfl⟩) ?_
            refine wl_v (.int .i64 (((((predN (mkF w h l) K U V 1) (0)) + ((predN (mkF w h l) K U V 1) (1))) + ((predN (mkF w h l) K U V 1) (2))) + ((predN (mkF w h l) K U V 1) (3)))) rfl rfl (y_add rfl rfl rfl (i64_i rfl (by omega)) ⟨rfl, rfl⟩) ?_
            refine wl_v (.pointer (some ⟨p916, 0, none⟩)) rfl rfl (y_atR (0) (s := 1) rfl s1106 rfl (by omega) Try.underlying29 (by omega) (by kernel_rfl) (by omega) ⟨rfl, rfl⟩) ?_
            refine wl_v (.int .i64 ((predN (mkF w h l) K U V 2) (0))) rfl rfl (y_ldR rfl rfl Try.underlying3 ((B1110).cell (by omega)) ⟨rfl, rfl⟩) ?_
            refine wl_v (.int .i64 ((((((predN (mkF w h l) K U V 1) (0)) + ((predN (mkF w h l) K U V 1) (1))) + ((predN (mkF w h l) K U V 1) (2))) + ((predN (mkF w h l) K U V 1) (3))) + ((predN (mkF w h l) K U V 2) (0)))) rfl rfl (y_add rfl rfl rfl (i64_i rfl (by omega)) ⟨rfl, rfl⟩) ?_
            refine wl_v (.pointer (some ⟨p916, 4, none⟩)) rfl rfl (y_atR (4) (s := 1) rfl s1106 rfl (by omega) Try.underlying29 (by omega) (by kernel_rfl) (by omega) ⟨rfl, rfl⟩) ?_
            refine wl_v (.int .i64 ((predN (mkF w h l) K U V 2) (4))) rfl rfl (y_ldR rfl rfl Try.underlying3 ((B1110).cell (by omega)) ⟨rfl, rfl⟩) ?_
            refine wl_v (.int .i64 (((((((predN (mkF w h l) K U V 1) (0)) + ((predN (mkF w h l) K U V 1) (1))) + ((predN (mkF w h l) K U V 1) (2))) + ((predN (mkF w h l) K U V 1) (3))) + ((predN (mkF w h l) K U V 2) (0))) + ((predN (mkF w h l) K U V 2) (4)))) rfl rfl (y_add rfl rfl rfl (i64_i rfl (by omega)) ⟨rfl, rfl⟩) ?_
            refine wl_v (.pointer (some ⟨p916, 8, none⟩)) rfl rfl (y_atR (8) (s := 1) rfl s1106 rfl (by omega) Try.underlying29 (by omega) (by kernel_rfl) (by omega) ⟨rfl, rfl⟩) ?_
            refine wl_v (.int .i64 ((predN (mkF w h l) K U V 2) (8))) rfl rfl (y_ldR rfl rfl Try.underlying3 ((B1110).cell (by omega)) ⟨rfl, rfl⟩) ?_
            refine wl_v (.int .i64 ((((((((predN (mkF w h l) K U V 1) (0)) + ((predN (mkF w h l) K U V 1) (1))) + ((predN (mkF w h l) K U V 1) (2))) + ((predN (mkF w h l) K U V 1) (3))) + ((predN (mkF w h l) K U V 2) (0))) + ((predN (mkF w h l) K U V 2) (4))) + ((predN (mkF w h l) K U V 2) (8)))) rfl rfl (y_add rfl rfl rfl (i64_i rfl (by omega)) ⟨rfl, rfl⟩) ?_
            refine wl_v (.pointer (some ⟨p916, 12, none⟩)) rfl rfl (y_atR (12) (s := 1) rfl s1106 rfl (by omega) Try.underlying29 (by omega) (by kernel_rfl) (by omega) ⟨rfl, rfl⟩) ?_
            refine wl_v (.int .i64 ((predN (mkF w h l) K U V 2) (12))) rfl rfl (y_ldR rfl rfl Try.underlying3 ((B1110).cell (by omega)) ⟨rfl, rfl⟩) ?_
            refine wl_v (.int .i64 (((((((((predN (mkF w h l) K U V 1) (0)) + ((predN (mkF w h l) K U V 1) (1))) + ((predN (mkF w h l) K U V 1) (2))) + ((predN (mkF w h l) K U V 1) (3))) + ((predN (mkF w h l) K U V 2) (0))) + ((predN (mkF w h l) K U V 2) (4))) + ((predN (mkF w h l) K U V 2) (8))) + ((predN (mkF w h l) K U V 2) (12)))) rfl rfl (y_add rfl rfl rfl (i64_i rfl (by omega)) ⟨rfl, rfl⟩) ?_
            refine wl_v (.int .i64 (((((((((predN (mkF w h l) K U V 1) (0)) + ((predN (mkF w h l) K U V 1) (1))) + ((predN (mkF w h l) K U V 1) (2))) + ((predN (mkF w h l) K U V 1) (3))) + ((predN (mkF w h l) K U V 2) (0))) + ((predN (mkF w h l) K U V 2) (4))) + ((predN (mkF w h l) K U V 2) (8))) + ((predN (mkF w h l) K U V 2) (12)))) rfl rfl (y_asg rfl rfl ⟨rfl, rfl⟩) ?_
            refine wl_nil fun F1113 hF1114 => ?_
            have s1115 : F1113 13 = .bool true := (hF1114 13).trans s1103
            have s1116 : F1113 208 = undef := (hF1114 208).trans s1104
            have s1117 : F1113 22 = .pointer (some ⟨p855, 0, none⟩) := (hF1114 22).trans s1105
            have s1118 : F1113 24 = .pointer (some ⟨p916, 0, none⟩) := (hF1114 24).trans s1106
            have s1119 : F1113 26 = .pointer (some ⟨p982, 0, none⟩) := (hF1114 26).trans s1107
            have s1120 : F1113 28 = .pointer (some ⟨p1053, 0, none⟩) := (hF1114 28).trans s1108
            have s1121 : F1113 30 = .int .i64 (((((((((predN (mkF w h l) K U V 1) (0)) + ((predN (mkF w h l) K U V 1) (1))) + ((predN (mkF w h l) K U V 1) (2))) + ((predN (mkF w h l) K U V 1) (3))) + ((predN (mkF w h l) K U V 2) (0))) + ((predN (mkF w h l) K U V 2) (4))) + ((predN (mkF w h l) K U V 2) (8))) + ((predN (mkF w h l) K U V 2) (12))) := (hF1114 30).trans rfl
            clear hF1114
            refine then_normal ?_
            refine wq_seq ?_
            have m0 := predN_le hb K U V 0 0
            have t6 := predN_le hb K U V 3 6
            refine wq_region ?_
            refine wl_v (.bool true) rfl rfl (y_mov rfl s1115 ⟨rfl, rfl⟩) ?_
            refine wl_v (.bool true) rfl rfl (y_mov rfl rfl ⟨rfl, rfl⟩) ?_
            refine wl_vw (.pointer (some ⟨p982, 0, none⟩)) 1 true 188 rfl rfl rfl rfl rfl (y_atR (0) (s := 1) rfl s1119 rfl (by omega) Try.underlying29 (by omega) (by kernel_rfl) (by omega) ⟨rfl, rfl⟩) ?_
            refine wl_vw (.int .i64 ((predN (mkF w h l) K U V 0) (0))) 1 true 188 rfl rfl rfl rfl rfl (y_ldR rfl rfl Try.underlying3 ((B1111).cell (by omega)) ⟨rfl, rfl⟩) ?_
            refine wl_vw (.int .i64 (((((((((predN (mkF w h l) K U V 1) (0)) + ((predN (mkF w h l) K U V 1) (1))) + ((predN (mkF w h l) K U V 1) (2))) + ((predN (mkF w h l) K U V 1) (3))) + ((predN (mkF w h l) K U V 2) (0))) + ((predN (mkF w h l) K U V 2) (4))) + ((predN (mkF w h l) K U V 2) (8))) + ((predN (mkF w h l) K U V 2) (12)))) 1 true 188 rfl rfl rfl rfl rfl (y_mov rfl s1121 ⟨rfl, rfl⟩) ?_
            refine wl_vw (.int .i64 ((((((((((predN (mkF w h l) K U V 1) (0)) + ((predN (mkF w h l) K U V 1) (1))) + ((predN (mkF w h l) K U V 1) (2))) + ((predN (mkF w h l) K U V 1) (3))) + ((predN (mkF w h l) K U V 2) (0))) + ((predN (mkF w h l) K U V 2) (4))) + ((predN (mkF w h l) K U V 2) (8))) + ((predN (mkF w h l) K U V 2) (12))) + (4))) 1 true 188 rfl rfl rfl rfl rfl (y_add rfl rfl rfl (i64_i rfl (by omega)) ⟨rfl, rfl⟩) ?_
            refine wl_vw (.int .i64 (predN (mkF w h l) K U V 0 0)) 1 true 188 rfl rfl rfl rfl rfl (y_quo rfl rfl rfl (by first | decide | omega) (i64_i (mean_is _ _ _ _).symm (by omega)) ⟨rfl, rfl⟩) ?_
            refine wl_vw (.bool true) 1 true 188 rfl rfl rfl rfl rfl (y_eqlI rfl rfl rfl (decide_eq_true rfl) ⟨rfl, rfl⟩) ?_
            refine wl_v (.bool true) rfl rfl (y_pickT rfl rfl rfl ⟨rfl, rfl⟩) ?_
            refine wl_v (.bool true) rfl rfl (y_mov rfl rfl ⟨rfl, rfl⟩) ?_
            refine wl_vw (.pointer (some ⟨p1053, 6, none⟩)) 9 true 196 rfl rfl rfl rfl rfl (y_atR (6) (s := 1) rfl s1120 rfl (by omega) Try.underlying29 (by omega) (by kernel_rfl) (by omega) ⟨rfl, rfl⟩) ?_
            refine wl_vw (.int .i64 ((predN (mkF w h l) K U V 3) (6))) 9 true 196 rfl rfl rfl rfl rfl (y_ldR rfl rfl Try.underlying3 ((B1112).cell (by omega)) ⟨rfl, rfl⟩) ?_
            refine wl_vw (.pointer (some ⟨p855, 2, none⟩)) 9 true 196 rfl rfl rfl rfl rfl (y_atR (2) (s := 1) rfl s1117 rfl (by omega) Try.underlying29 (by omega) (by kernel_rfl) (by omega) ⟨rfl, rfl⟩) ?_
            refine wl_vw (.int .i64 ((predN (mkF w h l) K U V 1) (2))) 9 true 196 rfl rfl rfl rfl rfl (y_ldR rfl rfl Try.underlying3 ((B1109).cell (by omega)) ⟨rfl, rfl⟩) ?_
            refine wl_vw (.pointer (some ⟨p916, 4, none⟩)) 9 true 196 rfl rfl rfl rfl rfl (y_atR (4) (s := 1) rfl s1118 rfl (by omega) Try.underlying29 (by omega) (by kernel_rfl) (by omega) ⟨rfl, rfl⟩) ?_
            refine wl_vw (.int .i64 ((predN (mkF w h l) K U V 2) (4))) 9 true 196 rfl rfl rfl rfl rfl (y_ldR rfl rfl Try.underlying3 ((B1110).cell (by omega)) ⟨rfl, rfl⟩) ?_
            refine wl_vw (.int .i64 (((predN (mkF w h l) K U V 1) (2)) + ((predN (mkF w h l) K U V 2) (4)))) 9 true 196 rfl rfl rfl rfl rfl (y_add rfl rfl rfl (i64_i rfl (by omega)) ⟨rfl, rfl⟩) ?_
            refine wl_vw (.int .i64 ((((predN (mkF w h l) K U V 1) (2)) + ((predN (mkF w h l) K U V 2) (4))) + (1))) 9 true 196 rfl rfl rfl rfl rfl (y_add rfl rfl rfl (i64_i rfl (by omega)) ⟨rfl, rfl⟩) ?_
            refine wl_vw (.int .i64 (predN (mkF w h l) K U V 3 6)) 9 true 196 rfl rfl rfl rfl rfl (y_quo rfl rfl rfl (by first | decide | omega) (i64_i (slant_is _ _ _ _).symm (by omega)) ⟨rfl, rfl⟩) ?_
            refine wl_vw (.bool true) 9 true 196 rfl rfl rfl rfl rfl (y_eqlI rfl rfl rfl (decide_eq_true rfl) ⟨rfl, rfl⟩) ?_
            refine wl_v (.bool true) rfl rfl (y_pickT rfl rfl rfl ⟨rfl, rfl⟩) ?_
            refine wl_v (.bool true) rfl rfl (y_asg rfl rfl ⟨rfl, rfl⟩) ?_
            refine wl_nil fun F1122 hF1123 => ?_
            have s1124 : F1122 208 = undef := (hF1123 208).trans s1116
            have s1125 : F1122 12 = .bool true := (hF1123 12).trans rfl
            clear hF1123
            refine then_normal ?_
            refine wq_ret ?_
            exact end_tmp (v := .bool true) s1124 rfl rfl s1125 ⟨rfl, K1100⟩

end Go.Proofs.Ytdggilbgjijfmaa
namespace Go.Proofs.Ytdggilbgjijfmaa
open Go.RowKit

theorem nat_u8 {n : Int} (h : (Lit.int .u8 n).wf = true) : ∃ m : Nat, n = (m : Int) ∧ m < 256 := by
  have := bounds_u8 h
  exact ⟨n.toNat, by omega, by omega⟩
end Go.Proofs.Ytdggilbgjijfmaa
namespace Go.Proofs.Ytdggilbgjijfmaa
open Go.ChangeShapes Go.WideShapes Go.ChangeAt Go.RowKit

section
variable {H : Type} {enc : TypeId × Value → H} {w : World} {base : Nat} {spare : Nat → Bool} {held : Bool}

theorem BytesArg.of_row {a : Option Addr} {len cap : Nat} {zs : List Int}
    (h : (a = none ∧ len = 0 ∧ cap = 0 ∧ zs = []) ∨ ∃ x, a = some x ∧ len ≤ cap ∧ cap ≤ maxLen ∧ len ≤ zs.length ∧ (∀ i, i < zs.length → w.cell? (x.add i) = some (.int .u8 (zs.getD i 0))) ∧ ∀ n ∈ zs, (Lit.int .u8 n).wf = true) :
    ∃ l : List Nat, BytesArg w (.slice a len cap) l := by
  rcases h with ⟨rfl, rfl, rfl, rfl⟩ | ⟨x, rfl, hlc, hcm, hz, hcell, hwf⟩
  · exact ⟨[], BytesArg.nil w⟩
  · have hlen : ((zs.take len).map Int.toNat).length = len := by simp; omega
    refine ⟨(zs.take len).map Int.toNat, some x, cap, by rw [hlen], by rw [hlen]; exact hlc, hcm, by simp, ?_, ?_⟩
    · intro y hy
      obtain ⟨z, hz1, rfl⟩ := List.mem_map.1 hy
      have := bounds_u8 (hwf z (List.mem_of_mem_take hz1))
      omega
    · intro hpos
      rw [hlen] at hpos
      have hpos' : 0 < zs.length := by omega
      obtain ⟨b, off, rfl, hc⟩ := ints_at hcell hpos'
      refine ⟨b, off, rfl, World.block_lt_of_cell? w _ (hc 0 hpos'), fun i hi => ?_⟩
      rw [hlen] at hi
      have hi' : i < zs.length := by omega
      rw [hc i hi']
      have hwi := bounds_u8 (hwf zs[i] (List.getElem_mem hi'))
      simp [List.getD, hi', hi]
      omega

theorem bytes_open {fuel : Nat} {v : Value} {x : DataW H × List MemPlace}
    (h : DataW.trod enc Try.prog w base spare held fuel 22 [v] = some x) : ∃ l : List Nat, BytesArg w v l := by
  rcases open_ints Try.underlying22 Try.underlying5 (by kernel_rfl) h with ⟨hcs, _⟩ | ⟨a, len, cap, zs, hcs, _, hl, hm, hz, _, hcell, hwz⟩
  · simp at hcs
    subst hcs
    exact ⟨[], BytesArg.nil w⟩
  · simp at hcs
    subst hcs
    exact BytesArg.of_row (.inr ⟨a, rfl, hl, hm, by have := hz; split at this <;> omega, hcell, hwz⟩)

end
end Go.Proofs.Ytdggilbgjijfmaa
