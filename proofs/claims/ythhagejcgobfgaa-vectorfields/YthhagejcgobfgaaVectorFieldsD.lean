/- What VectorFields reaches of my texts, part 4. -/
import Derived.Test.YthhagejcgobfgaaVectorFieldsC
namespace Go.Proofs.Ythhagejcgobfgaa
open Go.RowKit

structure Lay4 where
  x : Int
  y : Int
  X : Int
  Y : Int
def rLay : RowT Lay4 := { t := 22, e := 35, k := 4, by_ := 32, enc := fun q => [.int .i64 q.x, .int .i64 q.y, .int .i64 q.X, .int .i64 q.Y], d := ⟨0, 0, 0, 0⟩, z := .agg #[.int .i64 0, .int .i64 0, .int .i64 0, .int .i64 0] }
theorem one_four {a b c d : Int} : ∀ u ∈ [Value.int .i64 a, Value.int .i64 b, Value.int .i64 c, Value.int .i64 d], u.oneCell' = true := fun u hu => by
  rcases List.mem_cons.1 hu with rfl | hu
  · rfl
  · rcases List.mem_cons.1 hu with rfl | hu
    · rfl
    · exact one_two u hu
instance rLay_ok : RowT.Ok rLay := ⟨Try.underlying22, by kernel_rfl, rfl, by decide, fun _ => rfl, fun _ => one_four, by decide⟩
def layTo (m n : Int) (L : List Lay4) : Nat → VF
  | 0 => newV m n
  | i + 1 => setV (layTo m n L i) (L.getD i ⟨0, 0, 0, 0⟩).x (L.getD i ⟨0, 0, 0, 0⟩).y (L.getD i ⟨0, 0, 0, 0⟩).X (L.getD i ⟨0, 0, 0, 0⟩).Y
theorem optV_some {m n : Int} (h : (optV m n).isNone = false) : sidesOk m n := by
  by_cases hs : sidesOk m n
  · exact hs
  · rw [optV_no hs] at h; cases h
theorem isNone_same (o : Option VF) : (o.isNone != o.isNone) = false := by cases o <;> rfl
theorem same_not (a b : Int) : (!sameVec a b a b) = false := by rw [sameVec_self]; rfl

set_option maxHeartbeats 4000000 in
set_option maxRecDepth 100000 in
theorem vfields_walk (m n : Int) (v : Value) (L : List Lay4) (x y : Int) (T_l : Nat → Prop) (w0 : World) (hx : inI x) (hy : inI y) (hL : ∀ i, i < L.length → inI (L.getD i ⟨0, 0, 0, 0⟩).x ∧ inI (L.getD i ⟨0, 0, 0, 0⟩).y) (h_l : RoA rLay w0 T_l v (L)) :
    Calls Try.prog 3 #[.int .i64 (m), .int .i64 (n), v, .int .i64 (x), .int .i64 (y)] w0 fun e w' => e = .returned (.bool true) ∧ Kept (fun _ => False) w0 w' := by
  refine calls_wq (args := [.int .i64 (m), .int .i64 (n), v, .int .i64 (x), .int .i64 (y)]) 127 Try.func3 rfl rfl (Nat.le_of_ble_eq_true rfl) ?_
  have K0 := Kept.refl (fun _ => False) w0
  have g_l := Grew.refl w0 T_l
  refine wq_seq ?_
  refine wq_region ?_
  refine wl_v (.bool false) rfl rfl (y_asg rfl rfl ⟨rfl, rfl⟩) ?_
  refine wl_nil fun F1 hF2 => ?_
  have s3 : F1 0 = .int .i64 (m) := (hF2 0).trans rfl
  have s4 : F1 1 = .int .i64 (n) := (hF2 1).trans rfl
  have s5 : F1 2 = v := (hF2 2).trans rfl
  have s6 : F1 3 = .int .i64 (x) := (hF2 3).trans rfl
  have s7 : F1 4 = .int .i64 (y) := (hF2 4).trans rfl
  have s8 : F1 127 = undef := (hF2 127).trans rfl
  clear hF2
  refine then_normal ?_
  refine wq_seq ?_
  refine wq_region ?_
  refine wl_call (R := fun v_ w_ => v_ = .bool true ∧ Kept (fun _ => False) w0 w_) rfl rfl (y_cs rfl rfl rfl (fun _ _ => by kernel_rfl) (ev_func _) vsN (vawake_any   _   ) (fun e_ w_ h_ => ⟨_, h_.1, rfl, h_.2⟩)) ?_
  rintro _ w9 ⟨rfl, k10⟩
  have B11 := h_l.all k10 Apart.none
  have K12 := K0.trans k10 (fun _ _ x => x.elim)
  refine wl_v (.bool true) rfl rfl (y_asg rfl rfl ⟨rfl, rfl⟩) ?_
  refine wl_nil fun F13 hF14 => ?_
  have s15 : F13 0 = .int .i64 (m) := (hF14 0).trans s3
  have s16 : F13 1 = .int .i64 (n) := (hF14 1).trans s4
  have s17 : F13 2 = v := (hF14 2).trans s5
  have s18 : F13 3 = .int .i64 (x) := (hF14 3).trans s6
  have s19 : F13 4 = .int .i64 (y) := (hF14 4).trans s7
  have s20 : F13 127 = undef := (hF14 127).trans s8
  have s21 : F13 11 = .bool true := (hF14 11).trans rfl
  clear hF14
  refine then_normal ?_
  refine wq_seq ?_
  refine wq_region ?_
  refine wl_v (.int .i64 (m)) rfl rfl (y_mov rfl s15 ⟨rfl, rfl⟩) ?_
  refine wl_v (.int .i64 (n)) rfl rfl (y_mov rfl s16 ⟨rfl, rfl⟩) ?_
  refine wl_call (R := fun v_ w_ => ∃ (v22 : Value) (T25 : Nat → Prop), .tuple #[v22, .int .i64 (newVE (m) (n))] = v_ ∧ Kept (fun _ => False) w9 w_ ∧ (Vpo w_ T25 v22 ((optV (m) (n))) ∧ Grew w9 noB T25)) rfl rfl (y_cs rfl rfl rfl (fun _ _ => by kernel_rfl) (ev_func _) (vsC rfl (vsC rfl vsN)) (vt_new (m) (n)  _   ) (fun e_ w_ h_ => by obtain ⟨v22_, T25_, he_, hr_⟩ := h_; exact ⟨_, he_, v22_, T25_, rfl, hr_⟩)) ?_
  rintro _ w23 ⟨v22, T25, rfl, k24, ⟨B26, g27⟩⟩
  have B28 := B11.all k24 Apart.none
  have K29 := K12.trans k24 (fun _ _ x => x.elim)
  have gr30 : Grew w0 noB (T25) := Grew.new K12 g27
  have ap31 : Apart (T25) (T_l) := Apart.new g27 (B11).live
  refine wl_v (.tuple #[v22, .int .i64 (newVE (m) (n))]) rfl rfl (y_mov rfl rfl ⟨rfl, rfl⟩) ?_
  refine wl_v (v22) rfl rfl (y_ext rfl rfl rfl ⟨rfl, rfl⟩) ?_
  refine wl_v (.int .i64 (newVE (m) (n))) rfl rfl (y_ext rfl rfl rfl ⟨rfl, rfl⟩) ?_
  refine wl_v (v22) rfl rfl (y_asg rfl rfl ⟨rfl, rfl⟩) ?_
  refine wl_v (.int .i64 (newVE (m) (n))) rfl rfl (y_asg rfl rfl ⟨rfl, rfl⟩) ?_
  refine wl_nil fun F32 hF33 => ?_
  have s34 : F32 0 = .int .i64 (m) := (hF33 0).trans s15
  have s35 : F32 1 = .int .i64 (n) := (hF33 1).trans s16
  have s36 : F32 2 = v := (hF33 2).trans s17
  have s37 : F32 3 = .int .i64 (x) := (hF33 3).trans s18
  have s38 : F32 4 = .int .i64 (y) := (hF33 4).trans s19
  have s39 : F32 127 = undef := (hF33 127).trans s20
  have s40 : F32 11 = .bool true := (hF33 11).trans s21
  have s41 : F32 12 = v22 := (hF33 12).trans rfl
  have s42 : F32 13 = .int .i64 (newVE (m) (n)) := (hF33 13).trans rfl
  clear hF33
  refine then_normal ?_
  refine wq_seq ?_
  refine wq_region ?_
  refine wl_v (.int .i64 (m)) rfl rfl (y_mov rfl s34 ⟨rfl, rfl⟩) ?_
  refine wl_v (.int .i64 (n)) rfl rfl (y_mov rfl s35 ⟨rfl, rfl⟩) ?_
  refine wl_call (R := fun v_ w_ => ∃ (v43 : Value) (T46 : Nat → Prop), .tuple #[v43, .int .i64 (newVE (m) (n))] = v_ ∧ Kept (fun _ => False) w23 w_ ∧ (Vfo w_ T46 v43 ((optV (m) (n))) ∧ Grew w23 noB T46)) rfl rfl (y_cs rfl rfl rfl (fun _ _ => by kernel_rfl) (ev_func _) (vsC rfl (vsC rfl vsN)) (mref_vnew (m) (n)  _   ) (fun e_ w_ h_ => by obtain ⟨v43_, T46_, he_, hr_⟩ := h_; exact ⟨_, he_, v43_, T46_, rfl, hr_⟩)) ?_
  rintro _ w44 ⟨v43, T46, rfl, k45, ⟨B47, g48⟩⟩
  have B49 := B28.all k45 Apart.none
  have B50 := B26.all k45 Apart.none
  have K51 := K29.trans k45 (fun _ _ x => x.elim)
  have gr52 : Grew w0 noB (T46) := Grew.new K29 g48
  have ap53 : Apart (T46) (T_l) := Apart.new g48 (B28).live
  have ap54 : Apart (T46) (T25) := Apart.new g48 (B26).live
  refine wl_v (.tuple #[v43, .int .i64 (newVE (m) (n))]) rfl rfl (y_mov rfl rfl ⟨rfl, rfl⟩) ?_
  refine wl_v (v43) rfl rfl (y_ext rfl rfl rfl ⟨rfl, rfl⟩) ?_
  refine wl_v (.int .i64 (newVE (m) (n))) rfl rfl (y_ext rfl rfl rfl ⟨rfl, rfl⟩) ?_
  refine wl_v (v43) rfl rfl (y_asg rfl rfl ⟨rfl, rfl⟩) ?_
  refine wl_v (.int .i64 (newVE (m) (n))) rfl rfl (y_asg rfl rfl ⟨rfl, rfl⟩) ?_
  refine wl_nil fun F55 hF56 => ?_
  have s57 : F55 2 = v := (hF56 2).trans s36
  have s58 : F55 3 = .int .i64 (x) := (hF56 3).trans s37
  have s59 : F55 4 = .int .i64 (y) := (hF56 4).trans s38
  have s60 : F55 127 = undef := (hF56 127).trans s39
  have s61 : F55 11 = .bool true := (hF56 11).trans s40
  have s62 : F55 12 = v22 := (hF56 12).trans s41
  have s63 : F55 13 = .int .i64 (newVE (m) (n)) := (hF56 13).trans s42
  have s64 : F55 14 = v43 := (hF56 14).trans rfl
  have s65 : F55 15 = .int .i64 (newVE (m) (n)) := (hF56 15).trans rfl
  clear hF56
  refine then_normal ?_
  refine wq_seq ?_
  refine wq_seq ?_
  refine wq_region ?_
  refine wl_v (.int .i64 (newVE (m) (n))) rfl rfl (y_mov rfl s63 ⟨rfl, rfl⟩) ?_
  refine wl_v (.int .i64 (newVE (m) (n))) rfl rfl (y_mov rfl s65 ⟨rfl, rfl⟩) ?_
  refine wl_v (.bool false) rfl rfl (y_neqI rfl rfl rfl (decide_eq_false (fun h => h rfl)) ⟨rfl, rfl⟩) ?_
  refine wl_v (.bool false) rfl rfl (y_mov rfl rfl ⟨rfl, rfl⟩) ?_
  refine wl_vw (v22) 3 false 33 rfl rfl rfl rfl rfl (y_mov rfl s62 ⟨rfl, rfl⟩) ?_
  refine wl_vw (.bool (((optV (m) (n))).isNone)) 3 false 33 rfl rfl rfl rfl rfl (y_eqlNone rfl rfl rfl Try.underlying24 (B50).isnil rfl ⟨rfl, rfl⟩) ?_
  refine wl_vw (v43) 3 false 33 rfl rfl rfl rfl rfl (y_mov rfl s64 ⟨rfl, rfl⟩) ?_
  refine wl_vw (.bool (((optV (m) (n))).isNone)) 3 false 33 rfl rfl rfl rfl rfl (y_eqlNone rfl rfl rfl Try.underlying28 (B47).isnil rfl ⟨rfl, rfl⟩) ?_
  refine wl_vw (.bool false) 3 false 33 rfl rfl rfl rfl rfl (y_neqB rfl rfl rfl Try.underlying4 (isNone_same _) ⟨rfl, rfl⟩) ?_
  refine wl_v (.bool false) rfl rfl (y_pickF rfl rfl rfl ⟨rfl, rfl⟩) ?_
  refine wl_nil fun F66 hF67 => ?_
  have s68 : F66 2 = v := (hF67 2).trans s57
  have s69 : F66 3 = .int .i64 (x) := (hF67 3).trans s58
  have s70 : F66 4 = .int .i64 (y) := (hF67 4).trans s59
  have s71 : F66 127 = undef := (hF67 127).trans s60
  have s72 : F66 11 = .bool true := (hF67 11).trans s61
  have s73 : F66 12 = v22 := (hF67 12).trans s62
  have s74 : F66 14 = v43 := (hF67 14).trans s64
  have s75 : F66 39 = .bool false := (hF67 39).trans rfl
  clear hF67
  refine then_normal ?_
  refine wq_cond (t := false) s75 (fun e => by cases e) (fun _ => ?_)
  refine wq_skip ?_
  refine then_normal ?_
  refine wq_seq ?_
  refine wq_seq ?_
  refine wq_region ?_
  refine wl_v (v43) rfl rfl (y_mov rfl s74 ⟨rfl, rfl⟩) ?_
  refine wl_v (.bool (((optV (m) (n))).isNone)) rfl rfl (y_eqlNone rfl rfl rfl Try.underlying28 (B47).isnil rfl ⟨rfl, rfl⟩) ?_
  refine wl_nil fun F76 hF77 => ?_
  have s78 : F76 2 = v := (hF77 2).trans s68
  have s79 : F76 3 = .int .i64 (x) := (hF77 3).trans s69
  have s80 : F76 4 = .int .i64 (y) := (hF77 4).trans s70
  have s81 : F76 127 = undef := (hF77 127).trans s71
  have s82 : F76 11 = .bool true := (hF77 11).trans s72
  have s83 : F76 12 = v22 := (hF77 12).trans s73
  have s84 : F76 14 = v43 := (hF77 14).trans s74
  have s85 : F76 41 = .bool (((optV (m) (n))).isNone) := (hF77 41).trans rfl
  clear hF77
  refine then_normal ?_
  refine wq_cond s85 (fun c86 => ?_) (fun c86 => ?_)
  · skip
    refine wq_seq ?_
    refine wq_region ?_
    refine wl_v (.bool true) rfl rfl (y_mov rfl s82 ⟨rfl, rfl⟩) ?_
    refine wl_v (.bool true) rfl rfl (y_asg rfl rfl ⟨rfl, rfl⟩) ?_
    refine wl_nil fun F87 hF88 => ?_
    have s89 : F87 127 = undef := (hF88 127).trans s81
    have s90 : F87 10 = .bool true := (hF88 10).trans rfl
    clear hF88
    refine then_normal ?_
    refine wq_ret ?_
    refine then_ret ?_
    exact end_tmp (v := .bool true) s89 rfl rfl s90 ⟨rfl, K51⟩
  · skip
    refine wq_skip ?_
    refine then_normal ?_
    refine wq_seq ?_
    refine wq_seq ?_
    have hs : sidesOk m n := optV_some (by assumption)
    have B91 : Vpo w44 (T25) v22 (some (newV m n)) := ((by rw [← optV_yes hs]; exact B50))
    have B92 : Vfo w44 (T46) v43 (some (newV m n)) := ((by rw [← optV_yes hs]; exact B47))
    refine wq_region ?_
    refine wl_v (.int .i64 (0)) rfl rfl (y_asg rfl rfl ⟨rfl, rfl⟩) ?_
    refine wl_nil fun F93 hF94 => ?_
    have s95 : F93 2 = v := (hF94 2).trans s78
    have s96 : F93 3 = .int .i64 (x) := (hF94 3).trans s79
    have s97 : F93 4 = .int .i64 (y) := (hF94 4).trans s80
    have s98 : F93 127 = undef := (hF94 127).trans s81
    have s99 : F93 11 = .bool true := (hF94 11).trans s82
    have s100 : F93 12 = v22 := (hF94 12).trans s83
    have s101 : F93 14 = v43 := (hF94 14).trans s84
    have s102 : F93 16 = .int .i64 (0) := (hF94 16).trans rfl
    clear hF94
    refine then_normal ?_
    refine wq_block ?_
    refine wq_loop (fun nn FF ww => ∃ (i : Nat), ∃ (T103 : Nat → Prop), ∃ (T104 : Nat → Prop), (i ≤ (min L.length 100)) ∧ nn = (min L.length 100) - i ∧ FF 2 = v ∧ FF 3 = .int .i64 (x) ∧ FF 4 = .int .i64 (y) ∧ FF 11 = .bool true ∧ FF 12 = v22 ∧ FF 14 = v43 ∧ FF 127 = undef ∧ FF 16 = .int .i64 (((i : Nat) : Int)) ∧ Kept (fun _ => False) w0 ww ∧ RoA rLay ww (T_l) v (L) ∧ Vpo ww (T103) v22 (some (layTo m n L i)) ∧ Vfo ww (T104) v43 (some (layTo m n L i)) ∧ Grew w0 (noB) T103 ∧ Grew w0 (noB) T104 ∧ Apart (T103) (T_l) ∧ Apart (T103) (T104) ∧ Apart (T104) (T_l)) ((min L.length 100) - (0)) ⟨0, T25, T46, by omega, rfl, s95, s96, s97, s99, s100, s101, s98, s102, K51, B49, B91, B92, gr30, gr52, ap31, (ap54).symm, ap53⟩ ?_
    rintro n108 F105 w106 ⟨i, T103, T104, i109, hn108, s110, s111, s112, s113, s114, s115, s116, s117, K107, B118, B119, B120, gr121, gr122, ap123, ap124, ap125⟩
    refine wq_seq ?_
    refine wq_seq ?_
    by_cases d126 : (((i : Nat) : Int)) < ((((L).length : Nat) : Int))
    · skip
      refine wq_region ?_
      refine wl_v (.int .i64 (((i : Nat) : Int))) rfl rfl (y_mov rfl s117 ⟨rfl, rfl⟩) ?_
      refine wl_v (v) rfl rfl (y_mov rfl s110 ⟨rfl, rfl⟩) ?_
      refine wl_v (.int .i64 ((((L).length : Nat) : Int))) rfl rfl (y_lenRo (r := rLay) rfl rfl rfl B118 ⟨rfl, rfl⟩) ?_
      refine wl_v (.bool true) rfl rfl (y_lss rfl rfl rfl (decide_eq_true d126) ⟨rfl, rfl⟩) ?_
      refine wl_v (.bool true) rfl rfl (y_mov rfl rfl ⟨rfl, rfl⟩) ?_
      refine wl_vw (.int .i64 (((i : Nat) : Int))) 4 true 47 rfl rfl rfl rfl rfl (y_mov rfl s117 ⟨rfl, rfl⟩) ?_
      refine wl_vw (.bool (decide ((((i : Nat) : Int)) < (100)))) 4 true 47 rfl rfl rfl rfl rfl (y_lss rfl rfl rfl rfl ⟨rfl, rfl⟩) ?_
      refine wl_v (.bool (decide ((((i : Nat) : Int)) < (100)))) rfl rfl (y_pickT rfl rfl rfl ⟨rfl, rfl⟩) ?_
      refine wl_nil fun F127 hF128 => ?_
      have s129 : F127 2 = v := (hF128 2).trans s110
      have s130 : F127 3 = .int .i64 (x) := (hF128 3).trans s111
      have s131 : F127 4 = .int .i64 (y) := (hF128 4).trans s112
      have s132 : F127 11 = .bool true := (hF128 11).trans s113
      have s133 : F127 12 = v22 := (hF128 12).trans s114
      have s134 : F127 14 = v43 := (hF128 14).trans s115
      have s135 : F127 127 = undef := (hF128 127).trans s116
      have s136 : F127 16 = .int .i64 (((i : Nat) : Int)) := (hF128 16).trans s117
      have s137 : F127 50 = .bool (decide ((((i : Nat) : Int)) < (100))) := (hF128 50).trans rfl
      clear hF128
      refine then_normal ?_
      refine wq_cond s137 (fun c138 => ?_) (fun c138 => ?_)
      · replace c138 := of_decide_eq_true c138
        refine wq_skip ?_
        refine then_normal ?_
        refine wq_seq ?_
        refine wq_block ?_
        refine wq_seq ?_
        have hli := hL i (by omega)
        refine wq_turns (S := fun i => (T103) i ∨ ((T104) i)) [(34, 16), (35, 16), (35, 33), (36, 16), (48, 33)] [some 53, some 54, some 55, some 56, some 57, some 58, some 59, some 60, some 61, some 62, some 63, some 64, some 65, some 66, some 67, some 68, some 69, some 70, some 71, some 72, some 73, some 74, some 75, some 76, some 77, some 78, some 79, some 80, some 81, some 82, some 83, some 84, some 85, some 86, some 87, some 88, some 89, some 90, some 91, some 92, some 93, some 94, some 95, some 96, some 97, some 98, some 99, some 100, some 101, some 102, some 103, some 104, some 105, some 106, some 107, some 108, some 109, some 110, some 111, some 112, some 113, some 114] [Pt.eq (v22), Pt.eq (v), Pt.eq (.int .i64 (((i : Nat) : Int))), Pt.eq (bytAddr (v) ((i) * 4)), Pt.eq (bytAddr (v) ((i) * 4)), Pt.eq (.int .i64 (((L).getD (i) ⟨0, 0, 0, 0⟩).x)), Pt.eq (v), Pt.eq (.int .i64 (((i : Nat) : Int))), Pt.eq (bytAddr (v) ((i) * 4)), Pt.eq (bytAddr (v) ((i) * 4 + 1)), Pt.eq (.int .i64 (((L).getD (i) ⟨0, 0, 0, 0⟩).y)), Pt.eq (v), Pt.eq (.int .i64 (((i : Nat) : Int))), Pt.eq (bytAddr (v) ((i) * 4)), Pt.eq (bytAddr (v) ((i) * 4 + 2)), Pt.eq (.agg #[.int .i64 (((L).getD (i) ⟨0, 0, 0, 0⟩).X), .int .i64 (((L).getD (i) ⟨0, 0, 0, 0⟩).Y)]), Pt.thg ⟨fun w_ => Vpo w_ (T103) v22 (some (layTo m n L i)), T103, fun T_ w_ => Vpo w_ T_ v22 ((putO (some (layTo m n L i)) (((L).getD (i) ⟨0, 0, 0, 0⟩).x) (((L).getD (i) ⟨0, 0, 0, 0⟩).y) (((L).getD (i) ⟨0, 0, 0, 0⟩).X) (((L).getD (i) ⟨0, 0, 0, 0⟩).Y))), fun _ _ _ h_ k_ ha_ => h_.all k_ ha_, fun _ _ _ _ h_ k_ ha_ => h_.all k_ ha_, fun _ h_ => h_.live, fun _ _ h_ => h_.live⟩ (.int .i64 (setO (some (layTo m n L i)) (((L).getD (i) ⟨0, 0, 0, 0⟩).x) (((L).getD (i) ⟨0, 0, 0, 0⟩).y) (((L).getD (i) ⟨0, 0, 0, 0⟩).X) (((L).getD (i) ⟨0, 0, 0, 0⟩).Y))), Pt.eq (v43), Pt.eq (v), Pt.eq (.int .i64 (((i : Nat) : Int))), Pt.eq (bytAddr (v) ((i) * 4)), Pt.eq (bytAddr (v) ((i) * 4)), Pt.eq (.int .i64 (((L).getD (i) ⟨0, 0, 0, 0⟩).x)), Pt.eq (v), Pt.eq (.int .i64 (((i : Nat) : Int))), Pt.eq (bytAddr (v) ((i) * 4)), Pt.eq (bytAddr (v) ((i) * 4 + 1)), Pt.eq (.int .i64 (((L).getD (i) ⟨0, 0, 0, 0⟩).y)), Pt.eq (v), Pt.eq (.int .i64 (((i : Nat) : Int))), Pt.eq (bytAddr (v) ((i) * 4)), Pt.eq (bytAddr (v) ((i) * 4 + 2)), Pt.eq (.agg #[.int .i64 (((L).getD (i) ⟨0, 0, 0, 0⟩).X), .int .i64 (((L).getD (i) ⟨0, 0, 0, 0⟩).Y)]), Pt.thg ⟨fun w_ => Vfo w_ (T104) v43 (some (layTo m n L i)), T104, fun T_ w_ => Vfo w_ T_ v43 ((some (setV (layTo m n L i) (((L).getD (i) ⟨0, 0, 0, 0⟩).x) (((L).getD (i) ⟨0, 0, 0, 0⟩).y) (((L).getD (i) ⟨0, 0, 0, 0⟩).X) (((L).getD (i) ⟨0, 0, 0, 0⟩).Y)))), fun _ _ _ h_ k_ ha_ => h_.all k_ ha_, fun _ _ _ _ h_ k_ ha_ => h_.all k_ ha_, fun _ h_ => h_.live, fun _ _ h_ => h_.live⟩ (.int .i64 (setE (layTo m n L i) (((L).getD (i) ⟨0, 0, 0, 0⟩).x) (((L).getD (i) ⟨0, 0, 0, 0⟩).y) (((L).getD (i) ⟨0, 0, 0, 0⟩).X) (((L).getD (i) ⟨0, 0, 0, 0⟩).Y))), Pt.eq (.bool false), Pt.eq (.bool false), Pt.eq (v22), Pt.eq (v), Pt.eq (.int .i64 (((i : Nat) : Int))), Pt.eq (bytAddr (v) ((i) * 4)), Pt.eq (bytAddr (v) ((i) * 4)), Pt.eq (.int .i64 (((L).getD (i) ⟨0, 0, 0, 0⟩).x)), Pt.eq (v), Pt.eq (.int .i64 (((i : Nat) : Int))), Pt.eq (bytAddr (v) ((i) * 4)), Pt.eq (bytAddr (v) ((i) * 4 + 1)), Pt.eq (.int .i64 (((L).getD (i) ⟨0, 0, 0, 0⟩).y)), Pt.eq (.agg #[.int .i64 (gOX ((putO (some (layTo m n L i)) (((L).getD (i) ⟨0, 0, 0, 0⟩).x) (((L).getD (i) ⟨0, 0, 0, 0⟩).y) (((L).getD (i) ⟨0, 0, 0, 0⟩).X) (((L).getD (i) ⟨0, 0, 0, 0⟩).Y))) (((L).getD (i) ⟨0, 0, 0, 0⟩).x) (((L).getD (i) ⟨0, 0, 0, 0⟩).y)), .int .i64 (gOY ((putO (some (layTo m n L i)) (((L).getD (i) ⟨0, 0, 0, 0⟩).x) (((L).getD (i) ⟨0, 0, 0, 0⟩).y) (((L).getD (i) ⟨0, 0, 0, 0⟩).X) (((L).getD (i) ⟨0, 0, 0, 0⟩).Y))) (((L).getD (i) ⟨0, 0, 0, 0⟩).x) (((L).getD (i) ⟨0, 0, 0, 0⟩).y))]), Pt.eq (v43), Pt.eq (v), Pt.eq (.int .i64 (((i : Nat) : Int))), Pt.eq (bytAddr (v) ((i) * 4)), Pt.eq (bytAddr (v) ((i) * 4)), Pt.eq (.int .i64 (((L).getD (i) ⟨0, 0, 0, 0⟩).x)), Pt.eq (v), Pt.eq (.int .i64 (((i : Nat) : Int))), Pt.eq (bytAddr (v) ((i) * 4)), Pt.eq (bytAddr (v) ((i) * 4 + 1)), Pt.eq (.int .i64 (((L).getD (i) ⟨0, 0, 0, 0⟩).y)), Pt.eq (.agg #[.int .i64 (gX (setV (layTo m n L i) (L.getD i ⟨0, 0, 0, 0⟩).x (L.getD i ⟨0, 0, 0, 0⟩).y (L.getD i ⟨0, 0, 0, 0⟩).X (L.getD i ⟨0, 0, 0, 0⟩).Y) (((L).getD (i) ⟨0, 0, 0, 0⟩).x) (((L).getD (i) ⟨0, 0, 0, 0⟩).y)), .int .i64 (gY (setV (layTo m n L i) (L.getD i ⟨0, 0, 0, 0⟩).x (L.getD i ⟨0, 0, 0, 0⟩).y (L.getD i ⟨0, 0, 0, 0⟩).X (L.getD i ⟨0, 0, 0, 0⟩).Y) (((L).getD (i) ⟨0, 0, 0, 0⟩).x) (((L).getD (i) ⟨0, 0, 0, 0⟩).y))]), Pt.eq (.bool false), Pt.eq (.bool false)] (by kernel_rfl) (by kernel_rfl) (by kernel_rfl) rfl (OldsT.old ⟨⟨fun _ x_ => Or.inl x_, B119, ⟨ap124, trivial⟩⟩, ⟨⟨fun _ x_ => Or.inr x_, B120, trivial⟩, trivial⟩⟩) ?_ ?_
        · refine stepsFT_cons ?_ ?_
          · refine StepFT.one rfl fun F_ w_ hR hout hD => ?_
            exact (y_mov rfl ((hout 12 rfl (by decide)).trans s133) ⟨rfl, Kept.refl _ _⟩)
          refine stepsFT_cons ?_ ?_
          · refine StepFT.one rfl fun F_ w_ hR hout hD => ?_
            exact (y_mov rfl ((hout 2 rfl (by decide)).trans s129) ⟨rfl, Kept.refl _ _⟩)
          refine stepsFT_cons ?_ ?_
          · refine StepFT.one rfl fun F_ w_ hR hout hD => ?_
            exact (y_mov rfl ((hout 16 rfl (by decide)).trans s136) ⟨rfl, Kept.refl _ _⟩)
          refine stepsFT_cons ?_ ?_
          · refine StepFT.one rfl fun F_ w_ hR hout hD => ?_
            have g54 : F_ 54 = v := (hD.get 0 rfl rfl rfl).1
            have g55 : F_ 55 = .int .i64 (((i : Nat) : Int)) := (hD.get 1 rfl rfl rfl).1
            exact (y_atRo (r := rLay) (i) rfl g54 g55 (by omega) (B118.all hR (fun i h x => (x.elim (fun y => (((ap123).symm) i h y)) (fun y => (((ap125).symm) i h y))))) (by omega) ⟨rfl, Kept.refl _ _⟩)
          refine stepsFT_cons ?_ ?_
          · refine StepFT.one rfl fun F_ w_ hR hout hD => ?_
            have g56 : F_ 56 = bytAddr (v) ((i) * 4) := (hD.get 0 rfl rfl rfl).1
            exact (y_fieldRo (j := i) (n := 1) rfl g56 (B118.all hR (fun i h x => (x.elim (fun y => (((ap123).symm) i h y)) (fun y => (((ap125).symm) i h y))))) (by omega) Try.underlying35 rfl (by kernel_rfl) (by decide) rfl ⟨rfl, Kept.refl _ _⟩)
          refine stepsFT_cons ?_ ?_
          · refine StepFT.one rfl fun F_ w_ hR hout hD => ?_
            have g57 : F_ 57 = bytAddr (v) ((i) * 4) := (hD.get 0 rfl rfl rfl).1
            exact (y_ldRo (r := rLay) (i) 0 rfl g57 (B118.all hR (fun i h x => (x.elim (fun y => (((ap123).symm) i h y)) (fun y => (((ap125).symm) i h y))))) (by omega) (by decide) rfl Try.underlying3 rfl ⟨rfl, Kept.refl _ _⟩)
          refine stepsFT_cons ?_ ?_
          · refine StepFT.one rfl fun F_ w_ hR hout hD => ?_
            exact (y_mov rfl ((hout 2 rfl (by decide)).trans s129) ⟨rfl, Kept.refl _ _⟩)
          refine stepsFT_cons ?_ ?_
          · refine StepFT.one rfl fun F_ w_ hR hout hD => ?_
            exact (y_mov rfl ((hout 16 rfl (by decide)).trans s136) ⟨rfl, Kept.refl _ _⟩)
          refine stepsFT_cons ?_ ?_
          · refine StepFT.one rfl fun F_ w_ hR hout hD => ?_
            have g59 : F_ 59 = v := (hD.get 0 rfl rfl rfl).1
            have g60 : F_ 60 = .int .i64 (((i : Nat) : Int)) := (hD.get 1 rfl rfl rfl).1
            exact (y_atRo (r := rLay) (i) rfl g59 g60 (by omega) (B118.all hR (fun i h x => (x.elim (fun y => (((ap123).symm) i h y)) (fun y => (((ap125).symm) i h y))))) (by omega) ⟨rfl, Kept.refl _ _⟩)
          refine stepsFT_cons ?_ ?_
          · refine StepFT.one rfl fun F_ w_ hR hout hD => ?_
            have g61 : F_ 61 = bytAddr (v) ((i) * 4) := (hD.get 0 rfl rfl rfl).1
            exact (y_fieldRo (j := i) (n := 1) rfl g61 (B118.all hR (fun i h x => (x.elim (fun y => (((ap123).symm) i h y)) (fun y => (((ap125).symm) i h y))))) (by omega) Try.underlying35 rfl (by kernel_rfl) (by decide) rfl ⟨rfl, Kept.refl _ _⟩)
          refine stepsFT_cons ?_ ?_
          · refine StepFT.one rfl fun F_ w_ hR hout hD => ?_
            have g62 : F_ 62 = bytAddr (v) ((i) * 4 + 1) := (hD.get 0 rfl rfl rfl).1
            exact (y_ldRo (r := rLay) (i) 1 rfl g62 (B118.all hR (fun i h x => (x.elim (fun y => (((ap123).symm) i h y)) (fun y => (((ap125).symm) i h y))))) (by omega) (by decide) rfl Try.underlying3 rfl ⟨rfl, Kept.refl _ _⟩)
          refine stepsFT_cons ?_ ?_
          · refine StepFT.one rfl fun F_ w_ hR hout hD => ?_
            exact (y_mov rfl ((hout 2 rfl (by decide)).trans s129) ⟨rfl, Kept.refl _ _⟩)
          refine stepsFT_cons ?_ ?_
          · refine StepFT.one rfl fun F_ w_ hR hout hD => ?_
            exact (y_mov rfl ((hout 16 rfl (by decide)).trans s136) ⟨rfl, Kept.refl _ _⟩)
          refine stepsFT_cons ?_ ?_
          · refine StepFT.one rfl fun F_ w_ hR hout hD => ?_
            have g64 : F_ 64 = v := (hD.get 0 rfl rfl rfl).1
            have g65 : F_ 65 = .int .i64 (((i : Nat) : Int)) := (hD.get 1 rfl rfl rfl).1
            exact (y_atRo (r := rLay) (i) rfl g64 g65 (by omega) (B118.all hR (fun i h x => (x.elim (fun y => (((ap123).symm) i h y)) (fun y => (((ap125).symm) i h y))))) (by omega) ⟨rfl, Kept.refl _ _⟩)
          refine stepsFT_cons ?_ ?_
          · refine StepFT.one rfl fun F_ w_ hR hout hD => ?_
            have g66 : F_ 66 = bytAddr (v) ((i) * 4) := (hD.get 0 rfl rfl rfl).1
            exact (y_fieldRo (j := i) (n := 2) rfl g66 (B118.all hR (fun i h x => (x.elim (fun y => (((ap123).symm) i h y)) (fun y => (((ap125).symm) i h y))))) (by omega) Try.underlying35 rfl (by kernel_rfl) (by decide) rfl ⟨rfl, Kept.refl _ _⟩)
          refine stepsFT_cons ?_ ?_
          · refine StepFT.one rfl fun F_ w_ hR hout hD => ?_
            have g67 : F_ 67 = bytAddr (v) ((i) * 4 + 2) := (hD.get 0 rfl rfl rfl).1
            exact (y_ldRoP (r := rLay) (n := 2) (i) 2 stcT_vector rfl g67 (B118.all hR (fun i h x => (x.elim (fun y => (((ap123).symm) i h y)) (fun y => (((ap125).symm) i h y))))) (by omega) (by decide) rfl ⟨rfl, Kept.refl _ _⟩)
          refine stepsFT_cons ?_ ?_
          · refine StepFT.turn rfl rfl fun F_ w_ hR hout hD hA_ => ?_
            have g58 : F_ 58 = .int .i64 (((L).getD (i) ⟨0, 0, 0, 0⟩).x) := (hD.get 1 rfl rfl rfl).1
            have g68 : F_ 68 = .agg #[.int .i64 (((L).getD (i) ⟨0, 0, 0, 0⟩).X), .int .i64 (((L).getD (i) ⟨0, 0, 0, 0⟩).Y)] := (hD.get 3 rfl rfl rfl).1
            have g53 : F_ 53 = v22 := (hD.get 0 rfl rfl rfl).1
            have g63 : F_ 63 = .int .i64 (((L).getD (i) ⟨0, 0, 0, 0⟩).y) := (hD.get 2 rfl rfl rfl).1
            exact (y_cs rfl rfl rfl (fun _ _ => by kernel_rfl) (ev_func _) (vsC g53 (vsC g58 (vsC g63 (vsC g68 vsN)))) (vt_set (v22) (some (layTo m n L i)) (((L).getD (i) ⟨0, 0, 0, 0⟩).x) (((L).getD (i) ⟨0, 0, 0, 0⟩).y) (((L).getD (i) ⟨0, 0, 0, 0⟩).X) (((L).getD (i) ⟨0, 0, 0, 0⟩).Y) (T103) _ hli.1 hli.2 hA_ ) (fun e_ w_ h_ => by obtain ⟨_, he_, k_, hb_, hg_⟩ := h_; exact ⟨_, he_, rfl, k_, _, hb_, hg_⟩))
          refine stepsFT_cons ?_ ?_
          · refine StepFT.one rfl fun F_ w_ hR hout hD => ?_
            exact (y_mov rfl ((hout 14 rfl (by decide)).trans s134) ⟨rfl, Kept.refl _ _⟩)
          refine stepsFT_cons ?_ ?_
          · refine StepFT.one rfl fun F_ w_ hR hout hD => ?_
            exact (y_mov rfl ((hout 2 rfl (by decide)).trans s129) ⟨rfl, Kept.refl _ _⟩)
          refine stepsFT_cons ?_ ?_
          · refine StepFT.one rfl fun F_ w_ hR hout hD => ?_
            exact (y_mov rfl ((hout 16 rfl (by decide)).trans s136) ⟨rfl, Kept.refl _ _⟩)
          refine stepsFT_cons ?_ ?_
          · refine StepFT.one rfl fun F_ w_ hR hout hD => ?_
            have g71 : F_ 71 = v := (hD.get 0 rfl rfl rfl).1
            have g72 : F_ 72 = .int .i64 (((i : Nat) : Int)) := (hD.get 1 rfl rfl rfl).1
            exact (y_atRo (r := rLay) (i) rfl g71 g72 (by omega) (B118.all hR (fun i h x => (x.elim (fun y => (((ap123).symm) i h y)) (fun y => (((ap125).symm) i h y))))) (by omega) ⟨rfl, Kept.refl _ _⟩)
          refine stepsFT_cons ?_ ?_
          · refine StepFT.one rfl fun F_ w_ hR hout hD => ?_
            have g73 : F_ 73 = bytAddr (v) ((i) * 4) := (hD.get 0 rfl rfl rfl).1
            exact (y_fieldRo (j := i) (n := 1) rfl g73 (B118.all hR (fun i h x => (x.elim (fun y => (((ap123).symm) i h y)) (fun y => (((ap125).symm) i h y))))) (by omega) Try.underlying35 rfl (by kernel_rfl) (by decide) rfl ⟨rfl, Kept.refl _ _⟩)
          refine stepsFT_cons ?_ ?_
          · refine StepFT.one rfl fun F_ w_ hR hout hD => ?_
            have g74 : F_ 74 = bytAddr (v) ((i) * 4) := (hD.get 0 rfl rfl rfl).1
            exact (y_ldRo (r := rLay) (i) 0 rfl g74 (B118.all hR (fun i h x => (x.elim (fun y => (((ap123).symm) i h y)) (fun y => (((ap125).symm) i h y))))) (by omega) (by decide) rfl Try.underlying3 rfl ⟨rfl, Kept.refl _ _⟩)
          refine stepsFT_cons ?_ ?_
          · refine StepFT.one rfl fun F_ w_ hR hout hD => ?_
            exact (y_mov rfl ((hout 2 rfl (by decide)).trans s129) ⟨rfl, Kept.refl _ _⟩)
          refine stepsFT_cons ?_ ?_
          · refine StepFT.one rfl fun F_ w_ hR hout hD => ?_
            exact (y_mov rfl ((hout 16 rfl (by decide)).trans s136) ⟨rfl, Kept.refl _ _⟩)
          refine stepsFT_cons ?_ ?_
          · refine StepFT.one rfl fun F_ w_ hR hout hD => ?_
            have g76 : F_ 76 = v := (hD.get 0 rfl rfl rfl).1
            have g77 : F_ 77 = .int .i64 (((i : Nat) : Int)) := (hD.get 1 rfl rfl rfl).1
            exact (y_atRo (r := rLay) (i) rfl g76 g77 (by omega) (B118.all hR (fun i h x => (x.elim (fun y => (((ap123).symm) i h y)) (fun y => (((ap125).symm) i h y))))) (by omega) ⟨rfl, Kept.refl _ _⟩)
          refine stepsFT_cons ?_ ?_
          · refine StepFT.one rfl fun F_ w_ hR hout hD => ?_
            have g78 : F_ 78 = bytAddr (v) ((i) * 4) := (hD.get 0 rfl rfl rfl).1
            exact (y_fieldRo (j := i) (n := 1) rfl g78 (B118.all hR (fun i h x => (x.elim (fun y => (((ap123).symm) i h y)) (fun y => (((ap125).symm) i h y))))) (by omega) Try.underlying35 rfl (by kernel_rfl) (by decide) rfl ⟨rfl, Kept.refl _ _⟩)
          refine stepsFT_cons ?_ ?_
          · refine StepFT.one rfl fun F_ w_ hR hout hD => ?_
            have g79 : F_ 79 = bytAddr (v) ((i) * 4 + 1) := (hD.get 0 rfl rfl rfl).1
            exact (y_ldRo (r := rLay) (i) 1 rfl g79 (B118.all hR (fun i h x => (x.elim (fun y => (((ap123).symm) i h y)) (fun y => (((ap125).symm) i h y))))) (by omega) (by decide) rfl Try.underlying3 rfl ⟨rfl, Kept.refl _ _⟩)
          refine stepsFT_cons ?_ ?_
          · refine StepFT.one rfl fun F_ w_ hR hout hD => ?_
            exact (y_mov rfl ((hout 2 rfl (by decide)).trans s129) ⟨rfl, Kept.refl _ _⟩)
          refine stepsFT_cons ?_ ?_
          · refine StepFT.one rfl fun F_ w_ hR hout hD => ?_
            exact (y_mov rfl ((hout 16 rfl (by decide)).trans s136) ⟨rfl, Kept.refl _ _⟩)
          refine stepsFT_cons ?_ ?_
          · refine StepFT.one rfl fun F_ w_ hR hout hD => ?_
            have g81 : F_ 81 = v := (hD.get 0 rfl rfl rfl).1
            have g82 : F_ 82 = .int .i64 (((i : Nat) : Int)) := (hD.get 1 rfl rfl rfl).1
            exact (y_atRo (r := rLay) (i) rfl g81 g82 (by omega) (B118.all hR (fun i h x => (x.elim (fun y => (((ap123).symm) i h y)) (fun y => (((ap125).symm) i h y))))) (by omega) ⟨rfl, Kept.refl _ _⟩)
          refine stepsFT_cons ?_ ?_
          · refine StepFT.one rfl fun F_ w_ hR hout hD => ?_
            have g83 : F_ 83 = bytAddr (v) ((i) * 4) := (hD.get 0 rfl rfl rfl).1
            exact (y_fieldRo (j := i) (n := 2) rfl g83 (B118.all hR (fun i h x => (x.elim (fun y => (((ap123).symm) i h y)) (fun y => (((ap125).symm) i h y))))) (by omega) Try.underlying35 rfl (by kernel_rfl) (by decide) rfl ⟨rfl, Kept.refl _ _⟩)
          refine stepsFT_cons ?_ ?_
          · refine StepFT.one rfl fun F_ w_ hR hout hD => ?_
            have g84 : F_ 84 = bytAddr (v) ((i) * 4 + 2) := (hD.get 0 rfl rfl rfl).1
            exact (y_ldRoP (r := rLay) (n := 2) (i) 2 stcT_vector rfl g84 (B118.all hR (fun i h x => (x.elim (fun y => (((ap123).symm) i h y)) (fun y => (((ap125).symm) i h y))))) (by omega) (by decide) rfl ⟨rfl, Kept.refl _ _⟩)
          refine stepsFT_cons ?_ ?_
          · refine StepFT.turn rfl rfl fun F_ w_ hR hout hD hA_ => ?_
            have g80 : F_ 80 = .int .i64 (((L).getD (i) ⟨0, 0, 0, 0⟩).y) := (hD.get 2 rfl rfl rfl).1
            have g75 : F_ 75 = .int .i64 (((L).getD (i) ⟨0, 0, 0, 0⟩).x) := (hD.get 1 rfl rfl rfl).1
            have g85 : F_ 85 = .agg #[.int .i64 (((L).getD (i) ⟨0, 0, 0, 0⟩).X), .int .i64 (((L).getD (i) ⟨0, 0, 0, 0⟩).Y)] := (hD.get 3 rfl rfl rfl).1
            have g70 : F_ 70 = v43 := (hD.get 0 rfl rfl rfl).1
            exact (y_cs rfl rfl rfl (fun _ _ => by kernel_rfl) (ev_func _) (vsC g70 (vsC g75 (vsC g80 (vsC g85 vsN)))) (mref_vset (v43) (layTo m n L i) (((L).getD (i) ⟨0, 0, 0, 0⟩).x) (((L).getD (i) ⟨0, 0, 0, 0⟩).y) (((L).getD (i) ⟨0, 0, 0, 0⟩).X) (((L).getD (i) ⟨0, 0, 0, 0⟩).Y) (T104) _  hA_ ) (fun e_ w_ h_ => by obtain ⟨_, he_, k_, hb_, hg_⟩ := h_; exact ⟨_, he_, rfl, k_, _, hb_, hg_⟩))
          refine stepsFT_cons ?_ ?_
          · refine StepFT.one rfl fun F_ w_ hR hout hD => ?_
            have g69 : F_ 69 = .int .i64 (setO (some (layTo m n L i)) (((L).getD (i) ⟨0, 0, 0, 0⟩).x) (((L).getD (i) ⟨0, 0, 0, 0⟩).y) (((L).getD (i) ⟨0, 0, 0, 0⟩).X) (((L).getD (i) ⟨0, 0, 0, 0⟩).Y)) := (hD.get 0 rfl rfl rfl).1
            have g86 : F_ 86 = .int .i64 (setE (layTo m n L i) (((L).getD (i) ⟨0, 0, 0, 0⟩).x) (((L).getD (i) ⟨0, 0, 0, 0⟩).y) (((L).getD (i) ⟨0, 0, 0, 0⟩).X) (((L).getD (i) ⟨0, 0, 0, 0⟩).Y)) := (hD.get 1 rfl rfl rfl).1
            exact (y_neqI rfl g69 g86 (decide_eq_false (fun h => h rfl)) ⟨rfl, Kept.refl _ _⟩)
          refine stepsFT_cons ?_ ?_
          · refine StepFT.one rfl fun F_ w_ hR hout hD => ?_
            have g87 : F_ 87 = .bool false := (hD.get 0 rfl rfl rfl).1
            exact (y_mov rfl g87 ⟨rfl, Kept.refl _ _⟩)
          refine stepsFT_cons ?_ ?_
          · refine StepFT.when 35 false 88 rfl rfl fun F_ w_ hR hout hD => ?_
            have g88 : F_ 88 = .bool false := (hD.get 0 rfl rfl rfl).1
            exact ⟨g88, (y_mov rfl ((hout 12 rfl (by decide)).trans s133) ⟨rfl, Kept.refl _ _⟩)⟩
          refine stepsFT_cons ?_ ?_
          · refine StepFT.when 35 false 88 rfl rfl fun F_ w_ hR hout hD => ?_
            have g88 : F_ 88 = .bool false := (hD.get 0 rfl rfl rfl).1
            exact ⟨g88, (y_mov rfl ((hout 2 rfl (by decide)).trans s129) ⟨rfl, Kept.refl _ _⟩)⟩
          refine stepsFT_cons ?_ ?_
          · refine StepFT.when 35 false 88 rfl rfl fun F_ w_ hR hout hD => ?_
            have g88 : F_ 88 = .bool false := (hD.get 0 rfl rfl rfl).1
            exact ⟨g88, (y_mov rfl ((hout 16 rfl (by decide)).trans s136) ⟨rfl, Kept.refl _ _⟩)⟩
          refine stepsFT_cons ?_ ?_
          · refine StepFT.when 35 false 88 rfl rfl fun F_ w_ hR hout hD => ?_
            have g88 : F_ 88 = .bool false := (hD.get 2 rfl rfl rfl).1
            have g90 : F_ 90 = v := (hD.get 0 rfl rfl rfl).1
            have g91 : F_ 91 = .int .i64 (((i : Nat) : Int)) := (hD.get 1 rfl rfl rfl).1
            exact ⟨g88, (y_atRo (r := rLay) (i) rfl g90 g91 (by omega) (B118.all hR (fun i h x => (x.elim (fun y => (((ap123).symm) i h y)) (fun y => (((ap125).symm) i h y))))) (by omega) ⟨rfl, Kept.refl _ _⟩)⟩
          refine stepsFT_cons ?_ ?_
          · refine StepFT.when 35 false 88 rfl rfl fun F_ w_ hR hout hD => ?_
            have g88 : F_ 88 = .bool false := (hD.get 1 rfl rfl rfl).1
            have g92 : F_ 92 = bytAddr (v) ((i) * 4) := (hD.get 0 rfl rfl rfl).1
            exact ⟨g88, (y_fieldRo (j := i) (n := 1) rfl g92 (B118.all hR (fun i h x => (x.elim (fun y => (((ap123).symm) i h y)) (fun y => (((ap125).symm) i h y))))) (by omega) Try.underlying35 rfl (by kernel_rfl) (by decide) rfl ⟨rfl, Kept.refl _ _⟩)⟩
          refine stepsFT_cons ?_ ?_
          · refine StepFT.when 35 false 88 rfl rfl fun F_ w_ hR hout hD => ?_
            have g88 : F_ 88 = .bool false := (hD.get 1 rfl rfl rfl).1
            have g93 : F_ 93 = bytAddr (v) ((i) * 4) := (hD.get 0 rfl rfl rfl).1
            exact ⟨g88, (y_ldRo (r := rLay) (i) 0 rfl g93 (B118.all hR (fun i h x => (x.elim (fun y => (((ap123).symm) i h y)) (fun y => (((ap125).symm) i h y))))) (by omega) (by decide) rfl Try.underlying3 rfl ⟨rfl, Kept.refl _ _⟩)⟩
          refine stepsFT_cons ?_ ?_
          · refine StepFT.when 35 false 88 rfl rfl fun F_ w_ hR hout hD => ?_
            have g88 : F_ 88 = .bool false := (hD.get 0 rfl rfl rfl).1
            exact ⟨g88, (y_mov rfl ((hout 2 rfl (by decide)).trans s129) ⟨rfl, Kept.refl _ _⟩)⟩
          refine stepsFT_cons ?_ ?_
          · refine StepFT.when 35 false 88 rfl rfl fun F_ w_ hR hout hD => ?_
            have g88 : F_ 88 = .bool false := (hD.get 0 rfl rfl rfl).1
            exact ⟨g88, (y_mov rfl ((hout 16 rfl (by decide)).trans s136) ⟨rfl, Kept.refl _ _⟩)⟩
          refine stepsFT_cons ?_ ?_
          · refine StepFT.when 35 false 88 rfl rfl fun F_ w_ hR hout hD => ?_
            have g88 : F_ 88 = .bool false := (hD.get 2 rfl rfl rfl).1
            have g95 : F_ 95 = v := (hD.get 0 rfl rfl rfl).1
            have g96 : F_ 96 = .int .i64 (((i : Nat) : Int)) := (hD.get 1 rfl rfl rfl).1
            exact ⟨g88, (y_atRo (r := rLay) (i) rfl g95 g96 (by omega) (B118.all hR (fun i h x => (x.elim (fun y => (((ap123).symm) i h y)) (fun y => (((ap125).symm) i h y))))) (by omega) ⟨rfl, Kept.refl _ _⟩)⟩
          refine stepsFT_cons ?_ ?_
          · refine StepFT.when 35 false 88 rfl rfl fun F_ w_ hR hout hD => ?_
            have g88 : F_ 88 = .bool false := (hD.get 1 rfl rfl rfl).1
            have g97 : F_ 97 = bytAddr (v) ((i) * 4) := (hD.get 0 rfl rfl rfl).1
            exact ⟨g88, (y_fieldRo (j := i) (n := 1) rfl g97 (B118.all hR (fun i h x => (x.elim (fun y => (((ap123).symm) i h y)) (fun y => (((ap125).symm) i h y))))) (by omega) Try.underlying35 rfl (by kernel_rfl) (by decide) rfl ⟨rfl, Kept.refl _ _⟩)⟩
          refine stepsFT_cons ?_ ?_
          · refine StepFT.when 35 false 88 rfl rfl fun F_ w_ hR hout hD => ?_
            have g88 : F_ 88 = .bool false := (hD.get 1 rfl rfl rfl).1
            have g98 : F_ 98 = bytAddr (v) ((i) * 4 + 1) := (hD.get 0 rfl rfl rfl).1
            exact ⟨g88, (y_ldRo (r := rLay) (i) 1 rfl g98 (B118.all hR (fun i h x => (x.elim (fun y => (((ap123).symm) i h y)) (fun y => (((ap125).symm) i h y))))) (by omega) (by decide) rfl Try.underlying3 rfl ⟨rfl, Kept.refl _ _⟩)⟩
          refine stepsFT_cons ?_ ?_
          · refine StepFT.when 35 false 88 rfl rfl fun F_ w_ hR hout hD => ?_
            have g88 : F_ 88 = .bool false := (hD.get 3 rfl rfl rfl).1
            have g89 : F_ 89 = v22 := (hD.get 0 rfl rfl rfl).1
            obtain ⟨Tn16_, hn16_, gn16_⟩ : ∃ T_, Vpo w_ T_ v22 ((putO (some (layTo m n L i)) (((L).getD (i) ⟨0, 0, 0, 0⟩).x) (((L).getD (i) ⟨0, 0, 0, 0⟩).y) (((L).getD (i) ⟨0, 0, 0, 0⟩).X) (((L).getD (i) ⟨0, 0, 0, 0⟩).Y))) ∧ Grew w106 (T103) T_ := (hD.get 0 rfl rfl rfl).2.2 16 (by decide)
            have g99 : F_ 99 = .int .i64 (((L).getD (i) ⟨0, 0, 0, 0⟩).y) := (hD.get 2 rfl rfl rfl).1
            have g94 : F_ 94 = .int .i64 (((L).getD (i) ⟨0, 0, 0, 0⟩).x) := (hD.get 1 rfl rfl rfl).1
            exact ⟨g88, (y_cs rfl rfl rfl (fun _ _ => by kernel_rfl) (ev_func _) (vsC g89 (vsC g94 (vsC g99 vsN))) (vt_guess (v22) ((putO (some (layTo m n L i)) (((L).getD (i) ⟨0, 0, 0, 0⟩).x) (((L).getD (i) ⟨0, 0, 0, 0⟩).y) (((L).getD (i) ⟨0, 0, 0, 0⟩).X) (((L).getD (i) ⟨0, 0, 0, 0⟩).Y))) (((L).getD (i) ⟨0, 0, 0, 0⟩).x) (((L).getD (i) ⟨0, 0, 0, 0⟩).y) (Tn16_) _ hli.1 hli.2 hn16_ ) (fun e_ w_ h_ => ⟨_, h_.1, rfl, h_.2⟩))⟩
          refine stepsFT_cons ?_ ?_
          · refine StepFT.when 35 false 88 rfl rfl fun F_ w_ hR hout hD => ?_
            have g88 : F_ 88 = .bool false := (hD.get 0 rfl rfl rfl).1
            exact ⟨g88, (y_mov rfl ((hout 14 rfl (by decide)).trans s134) ⟨rfl, Kept.refl _ _⟩)⟩
          refine stepsFT_cons ?_ ?_
          · refine StepFT.when 35 false 88 rfl rfl fun F_ w_ hR hout hD => ?_
            have g88 : F_ 88 = .bool false := (hD.get 0 rfl rfl rfl).1
            exact ⟨g88, (y_mov rfl ((hout 2 rfl (by decide)).trans s129) ⟨rfl, Kept.refl _ _⟩)⟩
          refine stepsFT_cons ?_ ?_
          · refine StepFT.when 35 false 88 rfl rfl fun F_ w_ hR hout hD => ?_
            have g88 : F_ 88 = .bool false := (hD.get 0 rfl rfl rfl).1
            exact ⟨g88, (y_mov rfl ((hout 16 rfl (by decide)).trans s136) ⟨rfl, Kept.refl _ _⟩)⟩
          refine stepsFT_cons ?_ ?_
          · refine StepFT.when 35 false 88 rfl rfl fun F_ w_ hR hout hD => ?_
            have g88 : F_ 88 = .bool false := (hD.get 2 rfl rfl rfl).1
            have g102 : F_ 102 = v := (hD.get 0 rfl rfl rfl).1
            have g103 : F_ 103 = .int .i64 (((i : Nat) : Int)) := (hD.get 1 rfl rfl rfl).1
            exact ⟨g88, (y_atRo (r := rLay) (i) rfl g102 g103 (by omega) (B118.all hR (fun i h x => (x.elim (fun y => (((ap123).symm) i h y)) (fun y => (((ap125).symm) i h y))))) (by omega) ⟨rfl, Kept.refl _ _⟩)⟩
          refine stepsFT_cons ?_ ?_
          · refine StepFT.when 35 false 88 rfl rfl fun F_ w_ hR hout hD => ?_
            have g88 : F_ 88 = .bool false := (hD.get 1 rfl rfl rfl).1
            have g104 : F_ 104 = bytAddr (v) ((i) * 4) := (hD.get 0 rfl rfl rfl).1
            exact ⟨g88, (y_fieldRo (j := i) (n := 1) rfl g104 (B118.all hR (fun i h x => (x.elim (fun y => (((ap123).symm) i h y)) (fun y => (((ap125).symm) i h y))))) (by omega) Try.underlying35 rfl (by kernel_rfl) (by decide) rfl ⟨rfl, Kept.refl _ _⟩)⟩
          refine stepsFT_cons ?_ ?_
          · refine StepFT.when 35 false 88 rfl rfl fun F_ w_ hR hout hD => ?_
            have g88 : F_ 88 = .bool false := (hD.get 1 rfl rfl rfl).1
            have g105 : F_ 105 = bytAddr (v) ((i) * 4) := (hD.get 0 rfl rfl rfl).1
            exact ⟨g88, (y_ldRo (r := rLay) (i) 0 rfl g105 (B118.all hR (fun i h x => (x.elim (fun y => (((ap123).symm) i h y)) (fun y => (((ap125).symm) i h y))))) (by omega) (by decide) rfl Try.underlying3 rfl ⟨rfl, Kept.refl _ _⟩)⟩
          refine stepsFT_cons ?_ ?_
          · refine StepFT.when 35 false 88 rfl rfl fun F_ w_ hR hout hD => ?_
            have g88 : F_ 88 = .bool false := (hD.get 0 rfl rfl rfl).1
            exact ⟨g88, (y_mov rfl ((hout 2 rfl (by decide)).trans s129) ⟨rfl, Kept.refl _ _⟩)⟩
          refine stepsFT_cons ?_ ?_
          · refine StepFT.when 35 false 88 rfl rfl fun F_ w_ hR hout hD => ?_
            have g88 : F_ 88 = .bool false := (hD.get 0 rfl rfl rfl).1
            exact ⟨g88, (y_mov rfl ((hout 16 rfl (by decide)).trans s136) ⟨rfl, Kept.refl _ _⟩)⟩
          refine stepsFT_cons ?_ ?_
          · refine StepFT.when 35 false 88 rfl rfl fun F_ w_ hR hout hD => ?_
            have g88 : F_ 88 = .bool false := (hD.get 2 rfl rfl rfl).1
            have g107 : F_ 107 = v := (hD.get 0 rfl rfl rfl).1
            have g108 : F_ 108 = .int .i64 (((i : Nat) : Int)) := (hD.get 1 rfl rfl rfl).1
            exact ⟨g88, (y_atRo (r := rLay) (i) rfl g107 g108 (by omega) (B118.all hR (fun i h x => (x.elim (fun y => (((ap123).symm) i h y)) (fun y => (((ap125).symm) i h y))))) (by omega) ⟨rfl, Kept.refl _ _⟩)⟩
          refine stepsFT_cons ?_ ?_
          · refine StepFT.when 35 false 88 rfl rfl fun F_ w_ hR hout hD => ?_
            have g88 : F_ 88 = .bool false := (hD.get 1 rfl rfl rfl).1
            have g109 : F_ 109 = bytAddr (v) ((i) * 4) := (hD.get 0 rfl rfl rfl).1
            exact ⟨g88, (y_fieldRo (j := i) (n := 1) rfl g109 (B118.all hR (fun i h x => (x.elim (fun y => (((ap123).symm) i h y)) (fun y => (((ap125).symm) i h y))))) (by omega) Try.underlying35 rfl (by kernel_rfl) (by decide) rfl ⟨rfl, Kept.refl _ _⟩)⟩
          refine stepsFT_cons ?_ ?_
          · refine StepFT.when 35 false 88 rfl rfl fun F_ w_ hR hout hD => ?_
            have g88 : F_ 88 = .bool false := (hD.get 1 rfl rfl rfl).1
            have g110 : F_ 110 = bytAddr (v) ((i) * 4 + 1) := (hD.get 0 rfl rfl rfl).1
            exact ⟨g88, (y_ldRo (r := rLay) (i) 1 rfl g110 (B118.all hR (fun i h x => (x.elim (fun y => (((ap123).symm) i h y)) (fun y => (((ap125).symm) i h y))))) (by omega) (by decide) rfl Try.underlying3 rfl ⟨rfl, Kept.refl _ _⟩)⟩
          refine stepsFT_cons ?_ ?_
          · refine StepFT.when 35 false 88 rfl rfl fun F_ w_ hR hout hD => ?_
            have g88 : F_ 88 = .bool false := (hD.get 4 rfl rfl rfl).1
            have g106 : F_ 106 = .int .i64 (((L).getD (i) ⟨0, 0, 0, 0⟩).x) := (hD.get 1 rfl rfl rfl).1
            have g101 : F_ 101 = v43 := (hD.get 0 rfl rfl rfl).1
            obtain ⟨Tn33_, hn33_, gn33_⟩ : ∃ T_, Vfo w_ T_ v43 ((some (setV (layTo m n L i) (((L).getD (i) ⟨0, 0, 0, 0⟩).x) (((L).getD (i) ⟨0, 0, 0, 0⟩).y) (((L).getD (i) ⟨0, 0, 0, 0⟩).X) (((L).getD (i) ⟨0, 0, 0, 0⟩).Y)))) ∧ Grew w106 (T104) T_ := (hD.get 0 rfl rfl rfl).2.2 33 (by decide)
            have g111 : F_ 111 = .int .i64 (((L).getD (i) ⟨0, 0, 0, 0⟩).y) := (hD.get 2 rfl rfl rfl).1
            exact ⟨g88, (y_cs rfl rfl rfl (fun _ _ => by kernel_rfl) (ev_func _) (vsC g101 (vsC g106 (vsC g111 vsN))) (mref_vguess (v43) (setV (layTo m n L i) (L.getD i ⟨0, 0, 0, 0⟩).x (L.getD i ⟨0, 0, 0, 0⟩).y (L.getD i ⟨0, 0, 0, 0⟩).X (L.getD i ⟨0, 0, 0, 0⟩).Y) (((L).getD (i) ⟨0, 0, 0, 0⟩).x) (((L).getD (i) ⟨0, 0, 0, 0⟩).y) (Tn33_) _  hn33_ ) (fun e_ w_ h_ => ⟨_, h_.1, rfl, h_.2⟩))⟩
          refine stepsFT_cons ?_ ?_
          · refine StepFT.when 35 false 88 rfl rfl fun F_ w_ hR hout hD => ?_
            have g88 : F_ 88 = .bool false := (hD.get 2 rfl rfl rfl).1
            have g100 : F_ 100 = .agg #[.int .i64 (gOX ((putO (some (layTo m n L i)) (((L).getD (i) ⟨0, 0, 0, 0⟩).x) (((L).getD (i) ⟨0, 0, 0, 0⟩).y) (((L).getD (i) ⟨0, 0, 0, 0⟩).X) (((L).getD (i) ⟨0, 0, 0, 0⟩).Y))) (((L).getD (i) ⟨0, 0, 0, 0⟩).x) (((L).getD (i) ⟨0, 0, 0, 0⟩).y)), .int .i64 (gOY ((putO (some (layTo m n L i)) (((L).getD (i) ⟨0, 0, 0, 0⟩).x) (((L).getD (i) ⟨0, 0, 0, 0⟩).y) (((L).getD (i) ⟨0, 0, 0, 0⟩).X) (((L).getD (i) ⟨0, 0, 0, 0⟩).Y))) (((L).getD (i) ⟨0, 0, 0, 0⟩).x) (((L).getD (i) ⟨0, 0, 0, 0⟩).y))] := (hD.get 0 rfl rfl rfl).1
            have g112 : F_ 112 = .agg #[.int .i64 (gX (setV (layTo m n L i) (L.getD i ⟨0, 0, 0, 0⟩).x (L.getD i ⟨0, 0, 0, 0⟩).y (L.getD i ⟨0, 0, 0, 0⟩).X (L.getD i ⟨0, 0, 0, 0⟩).Y) (((L).getD (i) ⟨0, 0, 0, 0⟩).x) (((L).getD (i) ⟨0, 0, 0, 0⟩).y)), .int .i64 (gY (setV (layTo m n L i) (L.getD i ⟨0, 0, 0, 0⟩).x (L.getD i ⟨0, 0, 0, 0⟩).y (L.getD i ⟨0, 0, 0, 0⟩).X (L.getD i ⟨0, 0, 0, 0⟩).Y) (((L).getD (i) ⟨0, 0, 0, 0⟩).x) (((L).getD (i) ⟨0, 0, 0, 0⟩).y))] := (hD.get 1 rfl rfl rfl).1
            exact ⟨g88, (y_neqVec rfl g100 g112 (same_not _ _) ⟨rfl, Kept.refl _ _⟩)⟩
          refine stepsFT_cons ?_ ?_
          · refine StepFT.one rfl fun F_ w_ hR hout hD => ?_
            have g88 : F_ 88 = .bool false := (hD.get 0 rfl rfl rfl).1
            have g113 : F_ 113 = .bool false := (hD.get 1 rfl rfl rfl).1
            exact (y_pickF rfl g88 g113 ⟨rfl, Kept.refl _ _⟩)
          exact stepsFT_nil
        intro v139 Tf146 F140 w141 k142 G143 Gt147 Ga148 hF144
        have B149 := B118.all k142 (fun i h x => (x.elim (fun y => (((ap123).symm) i h y)) (fun y => (((ap125).symm) i h y))))
        have K150 := K107.trans k142 (fun i hi x => (x.elim (fun y => ((Grew.ok (S := fun _ => False) gr121 noB_le) i hi y)) (fun y => ((Grew.ok (S := fun _ => False) gr122 noB_le) i hi y))))
        obtain ⟨T151, e152⟩ : ∃ T_, T_ = Tf146 16 := ⟨_, rfl⟩
        have B153 : Vpo w141 (T151) v22 ((putO (some (layTo m n L i)) (((L).getD (i) ⟨0, 0, 0, 0⟩).x) (((L).getD (i) ⟨0, 0, 0, 0⟩).y) (((L).getD (i) ⟨0, 0, 0, 0⟩).X) (((L).getD (i) ⟨0, 0, 0, 0⟩).Y))) := by rw [e152]; exact (Gt147 16 _ _ rfl).1
        have g154 : Grew w106 (T103) T151 := by rw [e152]; exact (Gt147 16 _ _ rfl).2
        have gr155 := gr121.trans K107 g154
        have ap156 : Apart T151 (T_l) := (ap123).grew g154 (B118).live
        obtain ⟨T157, e158⟩ : ∃ T_, T_ = Tf146 33 := ⟨_, rfl⟩
        have B159 : Vfo w141 (T157) v43 ((some (setV (layTo m n L i) (((L).getD (i) ⟨0, 0, 0, 0⟩).x) (((L).getD (i) ⟨0, 0, 0, 0⟩).y) (((L).getD (i) ⟨0, 0, 0, 0⟩).X) (((L).getD (i) ⟨0, 0, 0, 0⟩).Y)))) := by rw [e158]; exact (Gt147 33 _ _ rfl).1
        have g160 : Grew w106 (T104) T157 := by rw [e158]; exact (Gt147 33 _ _ rfl).2
        have gr161 := gr122.trans K107 g160
        have ap162 : Apart T157 (T_l) := (ap125).grew g160 (B118).live
        have ap163 : Apart T151 T157 := by rw [e152, e158]; exact Ga148 16 33 _ _ _ _ (by decide) rfl rfl
        clear Gt147 Ga148
        have s164 : F140 2 = v := (hF144 2).trans s129
        have s165 : F140 3 = .int .i64 (x) := (hF144 3).trans s130
        have s166 : F140 4 = .int .i64 (y) := (hF144 4).trans s131
        have s167 : F140 11 = .bool true := (hF144 11).trans s132
        have s168 : F140 12 = v22 := (hF144 12).trans s133
        have s169 : F140 14 = v43 := (hF144 14).trans s134
        have s170 : F140 127 = undef := (hF144 127).trans s135
        have s171 : F140 16 = .int .i64 (((i : Nat) : Int)) := (hF144 16).trans s136
        have s172 : F140 114 = .bool false := (hF144 114).trans (G143 61 (by decide))
        clear G143 hF144
        refine then_normal ?_
        refine wq_cond (t := false) s172 (fun e => by cases e) (fun _ => ?_)
        refine wq_skip ?_
        refine in_normal ?_
        refine then_normal ?_
        refine wq_region ?_
        refine wl_v (.int .i64 (((i : Nat) : Int))) rfl rfl (y_mov rfl s171 ⟨rfl, rfl⟩) ?_
        refine wl_v (.int .i64 (((i + 1 : Nat) : Int))) rfl rfl (y_add rfl rfl rfl (i64_n (by omega) (by omega)) ⟨rfl, rfl⟩) ?_
        refine wl_v (.int .i64 (((i + 1 : Nat) : Int))) rfl rfl (y_asg rfl rfl ⟨rfl, rfl⟩) ?_
        refine wl_nil fun F173 hF174 => ?_
        have s175 : F173 2 = v := (hF174 2).trans s164
        have s176 : F173 3 = .int .i64 (x) := (hF174 3).trans s165
        have s177 : F173 4 = .int .i64 (y) := (hF174 4).trans s166
        have s178 : F173 11 = .bool true := (hF174 11).trans s167
        have s179 : F173 12 = v22 := (hF174 12).trans s168
        have s180 : F173 14 = v43 := (hF174 14).trans s169
        have s181 : F173 127 = undef := (hF174 127).trans s170
        have s182 : F173 16 = .int .i64 (((i + 1 : Nat) : Int)) := (hF174 16).trans rfl
        clear hF174
        exact then_normal ⟨((min L.length 100) - (i + 1)), by omega, i + 1, T151, T157, by omega, rfl, s175, s176, s177, s178, s179, s180, s181, s182, K150, B149, B153, B159, gr155, gr161, ap156, ap163, ap162⟩
      · replace c138 := of_decide_eq_false c138
        refine wq_exit ?_
        refine then_exit ?_
        refine then_exit ?_
        have l183 : (min L.length 100) = i := by omega
        subst l183
        refine in_here ?_
        refine then_normal ?_
        refine wq_seq ?_
        refine wq_region ?_
        refine wl_v (.bool true) rfl rfl (y_mov rfl s132 ⟨rfl, rfl⟩) ?_
        refine wl_v (.bool true) rfl rfl (y_mov rfl rfl ⟨rfl, rfl⟩) ?_
        refine wl_vw (v22) 1 true 116 rfl rfl rfl rfl rfl (y_mov rfl s133 ⟨rfl, rfl⟩) ?_
        refine wl_vw (.int .i64 (x)) 1 true 116 rfl rfl rfl rfl rfl (y_mov rfl s130 ⟨rfl, rfl⟩) ?_
        refine wl_vw (.int .i64 (y)) 1 true 116 rfl rfl rfl rfl rfl (y_mov rfl s131 ⟨rfl, rfl⟩) ?_
        refine wl_callw (R := fun v_ w_ => v_ = .agg #[.int .i64 (gOX (some (layTo m n L (min L.length 100))) (x) (y)), .int .i64 (gOY (some (layTo m n L (min L.length 100))) (x) (y))] ∧ Kept (fun _ => False) w106 w_) 1 true 116 rfl rfl rfl rfl rfl (y_cs rfl rfl rfl (fun _ _ => by kernel_rfl) (ev_func _) (vsC rfl (vsC rfl (vsC rfl vsN))) (vt_guess (v22) (some (layTo m n L (min L.length 100))) (x) (y) (T103) _ hx hy B119 ) (fun e_ w_ h_ => ⟨_, h_.1, rfl, h_.2⟩)) ?_
        rintro _ w184 ⟨rfl, k185⟩
        have B186 := B118.all k185 Apart.none
        have B187 := B119.all k185 Apart.none
        have B188 := B120.all k185 Apart.none
        have K189 := K107.trans k185 (fun _ _ x => x.elim)
        refine wl_vw (v43) 1 true 116 rfl rfl rfl rfl rfl (y_mov rfl s134 ⟨rfl, rfl⟩) ?_
        refine wl_vw (.int .i64 (x)) 1 true 116 rfl rfl rfl rfl rfl (y_mov rfl s130 ⟨rfl, rfl⟩) ?_
        refine wl_vw (.int .i64 (y)) 1 true 116 rfl rfl rfl rfl rfl (y_mov rfl s131 ⟨rfl, rfl⟩) ?_
        refine wl_callw (R := fun v_ w_ => v_ = .agg #[.int .i64 (gX (layTo m n L (min L.length 100)) (x) (y)), .int .i64 (gY (layTo m n L (min L.length 100)) (x) (y))] ∧ Kept (fun _ => False) w184 w_) 1 true 116 rfl rfl rfl rfl rfl (y_cs rfl rfl rfl (fun _ _ => by kernel_rfl) (ev_func _) (vsC rfl (vsC rfl (vsC rfl vsN))) (mref_vguess (v43) (layTo m n L (min L.length 100)) (x) (y) (T104) _  B188 ) (fun e_ w_ h_ => ⟨_, h_.1, rfl, h_.2⟩)) ?_
        rintro _ w190 ⟨rfl, k191⟩
        have B192 := B186.all k191 Apart.none
        have B193 := B187.all k191 Apart.none
        have B194 := B188.all k191 Apart.none
        have K195 := K189.trans k191 (fun _ _ x => x.elim)
        refine wl_vw (.bool true) 1 true 116 rfl rfl rfl rfl rfl (y_eqlVec rfl rfl rfl (sameVec_self _ _) ⟨rfl, rfl⟩) ?_
        refine wl_v (.bool true) rfl rfl (y_pickT rfl rfl rfl ⟨rfl, rfl⟩) ?_
        refine wl_v (.bool true) rfl rfl (y_asg rfl rfl ⟨rfl, rfl⟩) ?_
        refine wl_nil fun F196 hF197 => ?_
        have s198 : F196 127 = undef := (hF197 127).trans s135
        have s199 : F196 10 = .bool true := (hF197 10).trans rfl
        clear hF197
        refine then_normal ?_
        refine wq_ret ?_
        exact end_tmp (v := .bool true) s198 rfl rfl s199 ⟨rfl, K195⟩
    · skip
      refine wq_region ?_
      refine wl_v (.int .i64 (((i : Nat) : Int))) rfl rfl (y_mov rfl s117 ⟨rfl, rfl⟩) ?_
      refine wl_v (v) rfl rfl (y_mov rfl s110 ⟨rfl, rfl⟩) ?_
      refine wl_v (.int .i64 ((((L).length : Nat) : Int))) rfl rfl (y_lenRo (r := rLay) rfl rfl rfl B118 ⟨rfl, rfl⟩) ?_
      refine wl_v (.bool false) rfl rfl (y_lss rfl rfl rfl (decide_eq_false d126) ⟨rfl, rfl⟩) ?_
      refine wl_v (.bool false) rfl rfl (y_mov rfl rfl ⟨rfl, rfl⟩) ?_
      refine wl_unless 4 true 47 rfl rfl rfl (Or.inl rfl) rfl ?_
      refine wl_unless 4 true 47 rfl rfl rfl (Or.inl rfl) rfl ?_
      refine wl_v (.bool false) rfl rfl (y_pickF rfl rfl rfl ⟨rfl, rfl⟩) ?_
      refine wl_nil fun F200 hF201 => ?_
      have s202 : F200 2 = v := (hF201 2).trans s110
      have s203 : F200 3 = .int .i64 (x) := (hF201 3).trans s111
      have s204 : F200 4 = .int .i64 (y) := (hF201 4).trans s112
      have s205 : F200 11 = .bool true := (hF201 11).trans s113
      have s206 : F200 12 = v22 := (hF201 12).trans s114
      have s207 : F200 14 = v43 := (hF201 14).trans s115
      have s208 : F200 127 = undef := (hF201 127).trans s116
      have s209 : F200 16 = .int .i64 (((i : Nat) : Int)) := (hF201 16).trans s117
      have s210 : F200 50 = .bool false := (hF201 50).trans rfl
      clear hF201
      refine then_normal ?_
      refine wq_cond (t := false) s210 (fun e => by cases e) (fun _ => ?_)
      refine wq_exit ?_
      refine then_exit ?_
      refine then_exit ?_
      have l211 : (min L.length 100) = i := by omega
      subst l211
      refine in_here ?_
      refine then_normal ?_
      refine wq_seq ?_
      refine wq_region ?_
      refine wl_v (.bool true) rfl rfl (y_mov rfl s205 ⟨rfl, rfl⟩) ?_
      refine wl_v (.bool true) rfl rfl (y_mov rfl rfl ⟨rfl, rfl⟩) ?_
      refine wl_vw (v22) 1 true 116 rfl rfl rfl rfl rfl (y_mov rfl s206 ⟨rfl, rfl⟩) ?_
      refine wl_vw (.int .i64 (x)) 1 true 116 rfl rfl rfl rfl rfl (y_mov rfl s203 ⟨rfl, rfl⟩) ?_
      refine wl_vw (.int .i64 (y)) 1 true 116 rfl rfl rfl rfl rfl (y_mov rfl s204 ⟨rfl, rfl⟩) ?_
      refine wl_callw (R := fun v_ w_ => v_ = .agg #[.int .i64 (gOX (some (layTo m n L (min L.length 100))) (x) (y)), .int .i64 (gOY (some (layTo m n L (min L.length 100))) (x) (y))] ∧ Kept (fun _ => False) w106 w_) 1 true 116 rfl rfl rfl rfl rfl (y_cs rfl rfl rfl (fun _ _ => by kernel_rfl) (ev_func _) (vsC rfl (vsC rfl (vsC rfl vsN))) (vt_guess (v22) (some (layTo m n L (min L.length 100))) (x) (y) (T103) _ hx hy B119 ) (fun e_ w_ h_ => ⟨_, h_.1, rfl, h_.2⟩)) ?_
      rintro _ w212 ⟨rfl, k213⟩
      have B214 := B118.all k213 Apart.none
      have B215 := B119.all k213 Apart.none
      have B216 := B120.all k213 Apart.none
      have K217 := K107.trans k213 (fun _ _ x => x.elim)
      refine wl_vw (v43) 1 true 116 rfl rfl rfl rfl rfl (y_mov rfl s207 ⟨rfl, rfl⟩) ?_
      refine wl_vw (.int .i64 (x)) 1 true 116 rfl rfl rfl rfl rfl (y_mov rfl s203 ⟨rfl, rfl⟩) ?_
      refine wl_vw (.int .i64 (y)) 1 true 116 rfl rfl rfl rfl rfl (y_mov rfl s204 ⟨rfl, rfl⟩) ?_
      refine wl_callw (R := fun v_ w_ => v_ = .agg #[.int .i64 (gX (layTo m n L (min L.length 100)) (x) (y)), .int .i64 (gY (layTo m n L (min L.length 100)) (x) (y))] ∧ Kept (fun _ => False) w212 w_) 1 true 116 rfl rfl rfl rfl rfl (y_cs rfl rfl rfl (fun _ _ => by kernel_rfl) (ev_func _) (vsC rfl (vsC rfl (vsC rfl vsN))) (mref_vguess (v43) (layTo m n L (min L.length 100)) (x) (y) (T104) _  B216 ) (fun e_ w_ h_ => ⟨_, h_.1, rfl, h_.2⟩)) ?_
      rintro _ w218 ⟨rfl, k219⟩
      have B220 := B214.all k219 Apart.none
      have B221 := B215.all k219 Apart.none
      have B222 := B216.all k219 Apart.none
      have K223 := K217.trans k219 (fun _ _ x => x.elim)
      refine wl_vw (.bool true) 1 true 116 rfl rfl rfl rfl rfl (y_eqlVec rfl rfl rfl (sameVec_self _ _) ⟨rfl, rfl⟩) ?_
      refine wl_v (.bool true) rfl rfl (y_pickT rfl rfl rfl ⟨rfl, rfl⟩) ?_
      refine wl_v (.bool true) rfl rfl (y_asg rfl rfl ⟨rfl, rfl⟩) ?_
      refine wl_nil fun F224 hF225 => ?_
      have s226 : F224 127 = undef := (hF225 127).trans s208
      have s227 : F224 10 = .bool true := (hF225 10).trans rfl
      clear hF225
      refine then_normal ?_
      refine wq_ret ?_
      exact end_tmp (v := .bool true) s226 rfl rfl s227 ⟨rfl, K223⟩

end Go.Proofs.Ythhagejcgobfgaa
namespace Go.Proofs.Ythhagejcgobfgaa
open Go.ChangeShapes Go.WideShapes Go.ChangeAt Go.RowKit Go.Deep

section
variable {H : Type} {enc : TypeId × Value → H} {w : World} {base : Nat} {spare : Nat → Bool} {held : Bool}
theorem rows_open {α : Type} (r : RowT α) [hk : r.Ok] (P : α → Prop) (hce : Try.prog.cellsOf r.e = r.k)
    (hel : ∀ fuel cs y, DataW.trod enc Try.prog w base spare held fuel r.e cs = some y → ∃ u, cs = r.enc u ∧ P u)
    {fuel : Nat} {v : Value} {x : DataW H × List MemPlace} (h : DataW.trod enc Try.prog w base spare held fuel r.t [v] = some x) :
    ∃ (T : Nat → Prop) (l : List α), RoA r w T v l ∧ ∀ i, i < l.length → P (l.getD i r.d) := by
  rcases open_slice hk.slice h with ⟨hcs, _⟩ | ⟨a, len, cap, m, n, D, Pl, hcs, hb, hl, hm, hmm, hx, hi⟩
  · simp at hcs
    subst hcs
    exact ⟨noB, [], RoA.nil r w, fun i h => absurd h (by simp)⟩
  · simp at hcs
    subst hcs
    rw [hce] at hi
    have hle : len ≤ m := by rw [hmm]; split <;> omega
    have hq : ∀ i, i < len → ∃ u : α, P u ∧ ∀ j, j < r.k → w.cell? ((a.add (i * r.k)).add j) = (r.enc u)[j]? := by
      intro i hil
      obtain ⟨cs', hc, ht⟩ := hi i (by omega)
      obtain ⟨_, hlen, hat⟩ := World.cells?_some hc
      obtain ⟨u, rfl, hp⟩ := hel _ _ _ ht
      exact ⟨u, hp, fun j hj => hat j hj⟩
    have hc : ∃ f : Nat → α, ∀ i, i < len → P (f i) ∧ ∀ j, j < r.k → w.cell? ((a.add (i * r.k)).add j) = (r.enc (f i))[j]? :=
      ⟨fun i => if h : i < len then Classical.choose (hq i h) else r.d, fun i h => by simp only [dif_pos h]; exact Classical.choose_spec (hq i h)⟩
    obtain ⟨f, hf⟩ := hc
    have hgd : ∀ i, i < len → ((List.range len).map f).getD i r.d = f i := fun i hil => by simp [List.getD, hil]
    by_cases hpos : 0 < len
    · obtain ⟨b, off, spot⟩ := a
      have h0 : w.cell? (((⟨b, off, spot⟩ : Addr).add (0 * r.k)).add 0) = some ((r.enc (f 0))[0]'(by rw [hk.len]; exact hk.pos)) := by
        rw [(hf 0 hpos).2 0 hk.pos]; exact List.getElem?_eq_getElem _
      have hs := World.cell?_spot h0
      have hspot : spot = none := by simpa [Addr.add] using hs
      subst hspot
      have hlt : b < w.heap.size := by
        rw [Addr.add_lit, Addr.add_lit] at h0
        exact World.block_lt_of_cell? w _ h0
      refine ⟨onB b, (List.range len).map f, ⟨some ⟨b, off, none⟩, cap, by simp, by simpa using hl, hm, (fun e => by cases e), onB_live hlt, fun _ => ⟨b, off, rfl, rfl, fun j u hj => ?_⟩⟩, fun i hi2 => ?_⟩
      · have hjl : j < ((List.range len).map f).length * r.k := by
          rw [← flat_len (r := r)]
          exact (List.getElem?_eq_some_iff.1 hj).1
        have hjl' : j < len * r.k := by simpa using hjl
        have hi2 : j / r.k < len := Nat.div_lt_of_lt_mul (by rw [Nat.mul_comm]; exact hjl')
        have hm2 : j % r.k < r.k := Nat.mod_lt _ hk.pos
        have e := flat_at (r := r) ((List.range len).map f) (j / r.k) (j % r.k) (by simpa using hi2) hm2
        have hd : j / r.k * r.k + j % r.k = j := by rw [Nat.mul_comm]; exact Nat.div_add_mod j r.k
        rw [hd, hj, hgd _ hi2] at e
        have hcell := (hf _ hi2).2 _ hm2
        rw [Addr.add_lit, Addr.add_lit, show off + j / r.k * r.k + j % r.k = off + j by omega] at hcell
        rw [hcell, ← e]
      · have hil : i < len := by simpa using hi2
        rw [hgd i hil]; exact (hf i hil).1
    · have h0 : len = 0 := by omega
      subst h0
      exact ⟨noB, [], ⟨some a, cap, rfl, Nat.zero_le _, hm, (fun e => by cases e), (fun _ h => h.elim), fun h => absurd h (by simp)⟩, fun i h => absurd h (by simp)⟩

theorem inI_of {z : Int} (h : (Lit.int .i64 z).wf = true) : inI z := by have b := bounds_i64 h; unfold inI; omega

theorem Try.cellsVecR : Try.prog.cellsOf 33 = 2 := by kernel_rfl
theorem Try.cellsLayR : Try.prog.cellsOf 35 = 4 := by kernel_rfl
theorem Try.cellsIntR : Try.prog.cellsOf 3 = 1 := by kernel_rfl

theorem vec_cells {fuel : Nat} {cs : List Value} {y : DataW H × List MemPlace} (h : DataW.trod enc Try.prog w base spare held fuel 33 cs = some y) :
    ∃ X Y : Int, cs = [.int .i64 X, .int .i64 Y] := by
  obtain ⟨y0, y1, n, _, hsz, h0, h1⟩ := trod_struct2 Try.underlying33 h
  rw [Try.cellsVecR] at hsz
  match cs, hsz with
  | [c0, c1], _ =>
    simp only [Try.cellsIntR, List.drop_zero, List.drop_succ_cons, List.take_succ_cons, List.take_zero] at h0 h1
    obtain ⟨X, hX, _, _⟩ := DataW.trod_int Try.underlying3 h0
    obtain ⟨Y, hY, _, _⟩ := DataW.trod_int Try.underlying3 h1
    simp only [List.cons.injEq, and_true] at hX hY
    subst hX; subst hY
    exact ⟨X, Y, rfl⟩

theorem lay_cells {fuel : Nat} {cs : List Value} {y : DataW H × List MemPlace} (h : DataW.trod enc Try.prog w base spare held fuel 35 cs = some y) :
    ∃ u : Lay4, cs = rLay.enc u ∧ inI u.x ∧ inI u.y := by
  obtain ⟨y0, y1, y2, n, _, hsz, h0, h1, h2⟩ := trod_struct3 Try.underlying35 h
  rw [Try.cellsLayR] at hsz
  match cs, hsz with
  | [c0, c1, c2, c3], _ =>
    simp only [Try.cellsIntR, Try.cellsVecR, List.drop_zero, List.drop_succ_cons, List.take_succ_cons, List.take_zero] at h0 h1 h2
    obtain ⟨a, ha, _, wa⟩ := DataW.trod_int Try.underlying3 h0
    obtain ⟨b, hb, _, wb⟩ := DataW.trod_int Try.underlying3 h1
    obtain ⟨X, Y, hv⟩ := vec_cells h2
    simp only [List.cons.injEq, and_true] at ha hb hv
    obtain ⟨hX, hY⟩ := hv
    subst ha; subst hb; subst hX; subst hY
    have ba := bounds_i64 wa
    have bb := bounds_i64 wb
    exact ⟨⟨a, b, X, Y⟩, rfl, by unfold inI; omega, by unfold inI; omega⟩

theorem lays_open {fuel : Nat} {v : Value} {x : DataW H × List MemPlace} (h : DataW.trod enc Try.prog w base spare held fuel 22 [v] = some x) :
    ∃ (T : Nat → Prop) (l : List Lay4), RoA rLay w T v l ∧ ∀ i, i < l.length → inI (l.getD i ⟨0, 0, 0, 0⟩).x ∧ inI (l.getD i ⟨0, 0, 0, 0⟩).y :=
  rows_open rLay (fun u => inI u.x ∧ inI u.y) Try.cellsLayR (fun _ _ _ hy => lay_cells hy) h
end
end Go.Proofs.Ythhagejcgobfgaa
