/- What MotionFinds reaches of my texts, part 2. -/
import Derived.Test.YtceoidglhakanaaMotionFindsA
namespace Go.Proofs.Ytceoidglhakanaa
open Go.RowKit
/-- A frame that can be read. -/
def FrmV (w : World) (v : Value) (f : FD) : Prop := ∃ (a b c : Value) (Ta Tb Tc : Nat → Prop), v = .agg #[.int .i64 f.W, .int .i64 f.H, a, b, c] ∧ Owb w Ta a f.p0 ∧ Owb w Tb b f.p1 ∧ Owb w Tc c f.p2
theorem FrmV.all {w w' : World} {v : Value} {f : FD} (h : FrmV w v f) (k : Kept (fun _ => False) w w') : FrmV w' v f := by
  obtain ⟨a, b, c, Ta, Tb, Tc, e, h1, h2, h3⟩ := h
  exact ⟨a, b, c, Ta, Tb, Tc, e, h1.all k Apart.none, h2.all k Apart.none, h3.all k Apart.none⟩
theorem Stc.apart {w : World} {p : Nat} {t : TypeId} {vs : List Value} {T : Nat → Prop} {v : Value} {l : List Nat} (h : Stc w p t vs) (ho : Owb w T v l) (ht : t ≠ 5) : Apart (onB p) T := fun i hi hT => by
  cases hi
  have hv := (ho.2 _).1 hT
  rcases ho.1.1.2 with ⟨rfl, _⟩ | ⟨g, cap, cur, rfl, _, hg, _⟩
  · cases hv
  · cases hv
    have h' := h
    unfold Stc at h'
    rw [h'] at hg
    cases hg; exact ht rfl
theorem u8_mod (n : Nat) : IntKind.u8.wrap ((n : Nat) : Int) = ((n % 256 : Nat) : Int) := by
  unfold IntKind.wrap; simp [IntKind.signed, IntKind.bits]
theorem u8_small {n : Nat} (h : n < 256) : IntKind.u8.wrap ((n : Nat) : Int) = ((n : Nat) : Int) := by rw [u8_mod, Nat.mod_eq_of_lt h]

set_option maxHeartbeats 4000000 in
set_option maxRecDepth 100000 in
theorem flaw_frame (w h : Nat) (v : Value) (l : List Nat) (T_b : Nat → Prop) (w0 : World) (hw : w < 256) (hh : h < 256) (h_b : Byt w0 T_b v (l)) :
    Calls Try.prog 21 #[.int .u8 (((w : Nat) : Int)), .int .u8 (((h : Nat) : Int)), v] w0 fun e w' => ∃ (v1 : Value) (T1 : Nat → Prop) (v2 : Value) (T2 : Nat → Prop) (v3 : Value) (T3 : Nat → Prop), e = .returned (.agg #[.int .i64 ((mkF w h l).W), .int .i64 ((mkF w h l).H), v1, v2, v3]) ∧ Kept (fun _ => False) w0 w' ∧ (Owb w' T1 v1 ((mkF w h l).p0) ∧ Grew w0 noB T1) ∧ (Owb w' T2 v2 ((mkF w h l).p1) ∧ Grew w0 noB T2) ∧ (Owb w' T3 v3 ((mkF w h l).p2) ∧ Grew w0 noB T3) ∧ Apart T1 T2 ∧ Apart T1 T3 ∧ Apart T2 T3 := by
  refine calls_wq (args := [.int .u8 (((w : Nat) : Int)), .int .u8 (((h : Nat) : Int)), v]) 72 Try.func21 rfl rfl (Nat.le_of_ble_eq_true rfl) ?_
  have K0 := Kept.refl (fun _ => False) w0
  obtain ⟨A, hA⟩ : ∃ A, A = sd w := ⟨_, rfl⟩
  obtain ⟨B, hB⟩ : ∃ B, B = sd h := ⟨_, rfl⟩
  obtain ⟨N, hN⟩ : ∃ N, N = A * B := ⟨_, rfl⟩
  have hF : mkF w h l = ⟨(A : Nat), (B : Nat), smps l 0 N, smps l 1 (N / 4), smps l 2 (N / 4)⟩ := by rw [hN, hA, hB]; rfl
  have hA2 : A = 8 * (1 + w % 3) := hA
  have hB2 : B = 8 * (1 + h % 3) := hB
  have hN2 : N ≤ 24 * 24 := by rw [hN]; exact Nat.mul_le_mul (by omega) (by omega)
  have g_b := Grew.refl w0 T_b
  refine wq_seq ?_
  refine wq_region ?_
  refine wl_alloc_stc (n := 5) (vs := [.int .i64 (0), .int .i64 (0), .slice none 0 0, .slice none 0 0, .slice none 0 0]) rfl rfl rfl (by kernel_rfl) fun p1 w2 B4 g5 k3 => ?_
  have gr6 : Grew w0 noB (onB p1) := Grew.new K0 g5
  have ap7 : Apart (onB p1) (T_b) := Apart.new g5 (h_b).live
  have B8 := h_b.all k3 Apart.none
  have K9 := K0.trans k3 (fun _ _ x => x.elim)
  refine wl_nil fun F10 hF11 => ?_
  have s12 : F10 0 = .int .u8 (((w : Nat) : Int)) := (hF11 0).trans rfl
  have s13 : F10 1 = .int .u8 (((h : Nat) : Int)) := (hF11 1).trans rfl
  have s14 : F10 2 = v := (hF11 2).trans rfl
  have s15 : F10 72 = undef := (hF11 72).trans rfl
  have s16 : F10 6 = .pointer (some ⟨p1, 0, none⟩) := (hF11 6).trans rfl
  clear hF11
  refine then_normal ?_
  refine wq_seq ?_
  refine wq_region ?_
  refine wl_v (.int .u8 (((w : Nat) : Int))) rfl rfl (y_mov rfl s12 ⟨rfl, rfl⟩) ?_
  refine wl_v (.int .i64 (((w : Nat) : Int))) rfl rfl (y_convR rfl rfl Try.underlying5 Try.underlying3 (i64_i rfl (by omega)) ⟨rfl, rfl⟩) ?_
  refine wl_v (.int .i64 ((((w % 3) : Nat) : Int))) rfl rfl (y_rem rfl rfl rfl (by first | decide | omega) (rem_nat w 3) ⟨rfl, rfl⟩) ?_
  refine wl_v (.int .i64 (((1 + ((w % 3)) : Nat) : Int))) rfl rfl (y_add rfl rfl rfl (i64_n (by omega) (by omega)) ⟨rfl, rfl⟩) ?_
  refine wl_v (.int .i64 (((A : Nat) : Int))) rfl rfl (y_mul rfl rfl rfl (i64_n (by omega) (by omega)) ⟨rfl, rfl⟩) ?_
  refine wl_v (.int .u8 (((h : Nat) : Int))) rfl rfl (y_mov rfl s13 ⟨rfl, rfl⟩) ?_
  refine wl_v (.int .i64 (((h : Nat) : Int))) rfl rfl (y_convR rfl rfl Try.underlying5 Try.underlying3 (i64_i rfl (by omega)) ⟨rfl, rfl⟩) ?_
  refine wl_v (.int .i64 ((((h % 3) : Nat) : Int))) rfl rfl (y_rem rfl rfl rfl (by first | decide | omega) (rem_nat h 3) ⟨rfl, rfl⟩) ?_
  refine wl_v (.int .i64 (((1 + ((h % 3)) : Nat) : Int))) rfl rfl (y_add rfl rfl rfl (i64_n (by omega) (by omega)) ⟨rfl, rfl⟩) ?_
  refine wl_v (.int .i64 (((B : Nat) : Int))) rfl rfl (y_mul rfl rfl rfl (i64_n (by omega) (by omega)) ⟨rfl, rfl⟩) ?_
  refine wl_v (.agg #[.int .i64 (((A : Nat) : Int)), .int .i64 (((B : Nat) : Int)), .slice none 0 0, .slice none 0 0, .slice none 0 0]) rfl rfl (y_buildL (l' := [(0, .int .i64 (((A : Nat) : Int))), (1, .int .i64 (((B : Nat) : Int)))]) (cells := #[.int .i64 (((A : Nat) : Int)), .int .i64 (((B : Nat) : Int)), .slice none 0 0, .slice none 0 0, .slice none 0 0]) rfl (bpC rfl (bpC rfl bpN)) (by kernel_rfl) rfl ⟨rfl, rfl⟩) ?_
  refine wl_alloc_stc (n := 5) (vs := [.int .i64 (0), .int .i64 (0), .slice none 0 0, .slice none 0 0, .slice none 0 0]) rfl rfl rfl (by kernel_rfl) fun p17 w18 B20 g21 k19 => ?_
  have gr22 : Grew w0 noB (onB p17) := Grew.new K9 g21
  have ap23 : Apart (onB p17) (T_b) := Apart.new g21 (B8).live
  have ap24 : Apart (onB p17) (onB p1) := Apart.new g21 (onB_live (B4).lt)
  have B25 := B8.all k19 Apart.none
  have B26 := B4.all k19 id
  have K27 := K9.trans k19 (fun _ _ x => x.elim)
  refine wl_store_stc (us := [.int .i64 (((A : Nat) : Int)), .int .i64 (((B : Nat) : Int)), .slice none 0 0, .slice none 0 0, .slice none 0 0]) stcT_frame rfl rfl rfl rfl rfl B20 rfl (oneI rfl (oneI rfl (oneI rfl (oneI rfl (oneI rfl oneN))))) fun w28 B29 k30 => ?_
  have B31 := B25.all k30 (fun i h x => (((ap23).symm) i h x))
  have B32 := B26.all k30 (fun x => (((ap24).symm) p1 rfl x))
  have K33 := K27.trans k30 (Grew.ok (S := fun _ => False) gr22 noB_le)
  refine wl_nil fun F34 hF35 => ?_
  have s36 : F34 2 = v := (hF35 2).trans s14
  have s37 : F34 72 = undef := (hF35 72).trans s15
  have s38 : F34 6 = .pointer (some ⟨p1, 0, none⟩) := (hF35 6).trans s16
  have s39 : F34 7 = .pointer (some ⟨p17, 0, none⟩) := (hF35 7).trans rfl
  clear hF35
  refine then_normal ?_
  refine wq_seq ?_
  refine wq_seq ?_
  refine wq_region ?_
  refine wl_v (.int .i64 (0)) rfl rfl (y_asg rfl rfl ⟨rfl, rfl⟩) ?_
  refine wl_nil fun F40 hF41 => ?_
  have s42 : F40 2 = v := (hF41 2).trans s36
  have s43 : F40 72 = undef := (hF41 72).trans s37
  have s44 : F40 6 = .pointer (some ⟨p1, 0, none⟩) := (hF41 6).trans s38
  have s45 : F40 7 = .pointer (some ⟨p17, 0, none⟩) := (hF41 7).trans s39
  have s46 : F40 8 = .int .i64 (0) := (hF41 8).trans rfl
  clear hF41
  refine then_normal ?_
  refine wq_block ?_
  refine wq_rounds 4 ?_
  refine wqr_step ?_
  refine wq_seq ?_
  refine wq_seq ?_
  refine wq_region ?_
  refine wl_v (.int .i64 (0)) rfl rfl (y_mov rfl s46 ⟨rfl, rfl⟩) ?_
  refine wl_v (.bool true) rfl rfl (y_lss rfl rfl rfl rfl ⟨rfl, rfl⟩) ?_
  refine wl_nil fun F47 hF48 => ?_
  have s49 : F47 2 = v := (hF48 2).trans s42
  have s50 : F47 72 = undef := (hF48 72).trans s43
  have s51 : F47 6 = .pointer (some ⟨p1, 0, none⟩) := (hF48 6).trans s44
  have s52 : F47 7 = .pointer (some ⟨p17, 0, none⟩) := (hF48 7).trans s45
  have s53 : F47 8 = .int .i64 (0) := (hF48 8).trans s46
  have s54 : F47 24 = .bool true := (hF48 24).trans rfl
  clear hF48
  refine then_normal ?_
  refine wq_cond (t := true) s54 (fun _ => ?_) (fun e => by cases e)
  refine wq_skip ?_
  refine then_normal ?_
  refine wq_seq ?_
  refine wq_block ?_
  refine wq_seq ?_
  refine wq_region ?_
  refine wl_v (.pointer (some ⟨p17, 0, none⟩)) rfl rfl (y_fieldR (n := 1) rfl s52 Try.underlying25 rfl (by kernel_rfl) (by decide) rfl ⟨rfl, rfl⟩) ?_
  refine wl_v (.int .i64 (((A : Nat) : Int))) rfl rfl (y_ld_stc rfl rfl Try.underlying3 B29 rfl rfl ⟨rfl, rfl⟩) ?_
  refine wl_v (.pointer (some ⟨p17, 1, none⟩)) rfl rfl (y_fieldR (n := 1) rfl s52 Try.underlying25 rfl (by kernel_rfl) (by decide) rfl ⟨rfl, rfl⟩) ?_
  refine wl_v (.int .i64 (((B : Nat) : Int))) rfl rfl (y_ld_stc rfl rfl Try.underlying3 B29 rfl rfl ⟨rfl, rfl⟩) ?_
  refine wl_v (.int .i64 (((N : Nat) : Int))) rfl rfl (y_mul rfl rfl rfl (i64_n (by rw [hN, Int.natCast_mul]) (by omega)) ⟨rfl, rfl⟩) ?_
  refine wl_v (.int .i64 (((N : Nat) : Int))) rfl rfl (y_asg rfl rfl ⟨rfl, rfl⟩) ?_
  refine wl_nil fun F55 hF56 => ?_
  have s57 : F55 2 = v := (hF56 2).trans s49
  have s58 : F55 72 = undef := (hF56 72).trans s50
  have s59 : F55 6 = .pointer (some ⟨p1, 0, none⟩) := (hF56 6).trans s51
  have s60 : F55 7 = .pointer (some ⟨p17, 0, none⟩) := (hF56 7).trans s52
  have s61 : F55 8 = .int .i64 (0) := (hF56 8).trans s53
  have s62 : F55 9 = .int .i64 (((N : Nat) : Int)) := (hF56 9).trans rfl
  clear hF56
  refine then_normal ?_
  refine wq_seq ?_
  refine wq_seq ?_
  refine wq_region ?_
  refine wl_v (.int .i64 (0)) rfl rfl (y_mov rfl s61 ⟨rfl, rfl⟩) ?_
  refine wl_v (.bool false) rfl rfl (y_gtr rfl rfl rfl rfl ⟨rfl, rfl⟩) ?_
  refine wl_nil fun F63 hF64 => ?_
  have s65 : F63 2 = v := (hF64 2).trans s57
  have s66 : F63 72 = undef := (hF64 72).trans s58
  have s67 : F63 6 = .pointer (some ⟨p1, 0, none⟩) := (hF64 6).trans s59
  have s68 : F63 7 = .pointer (some ⟨p17, 0, none⟩) := (hF64 7).trans s60
  have s69 : F63 8 = .int .i64 (0) := (hF64 8).trans s61
  have s70 : F63 9 = .int .i64 (((N : Nat) : Int)) := (hF64 9).trans s62
  have s71 : F63 33 = .bool false := (hF64 33).trans rfl
  clear hF64
  refine then_normal ?_
  refine wq_cond (t := false) s71 (fun e => by cases e) (fun _ => ?_)
  refine wq_skip ?_
  refine then_normal ?_
  refine wq_seq ?_
  have hpn := pn_le N 0
  have s72 : F63 9 = .int .i64 ((((pn N 0) : Nat) : Int)) := s70.trans (congrArg (Value.int .i64) (rfl))
  refine wq_region ?_
  refine wl_v (.int .i64 (0)) rfl rfl (y_asg rfl rfl ⟨rfl, rfl⟩) ?_
  refine wl_nil fun F73 hF74 => ?_
  have s75 : F73 2 = v := (hF74 2).trans s65
  have s76 : F73 72 = undef := (hF74 72).trans s66
  have s77 : F73 6 = .pointer (some ⟨p1, 0, none⟩) := (hF74 6).trans s67
  have s78 : F73 7 = .pointer (some ⟨p17, 0, none⟩) := (hF74 7).trans s68
  have s79 : F73 8 = .int .i64 (0) := (hF74 8).trans s69
  have s80 : F73 9 = .int .i64 ((((pn N 0) : Nat) : Int)) := (hF74 9).trans s72
  have s81 : F73 10 = .int .i64 (0) := (hF74 10).trans rfl
  clear hF74
  refine then_normal ?_
  refine wq_block ?_
  refine wq_loop (fun nn FF ww => ∃ (i : Nat), ∃ (q0 : Value), ∃ (T82 : Nat → Prop), (i ≤ (pn N 0)) ∧ nn = (pn N 0) - i ∧ FF 2 = v ∧ FF 6 = .pointer (some ⟨p1, 0, none⟩) ∧ FF 7 = .pointer (some ⟨p17, 0, none⟩) ∧ FF 8 = .int .i64 (0) ∧ FF 9 = .int .i64 ((((pn N 0) : Nat) : Int)) ∧ FF 72 = undef ∧ FF 10 = .int .i64 (((i : Nat) : Int)) ∧ Kept (fun _ => False) w0 ww ∧ Byt ww (T_b) v (l) ∧ Stc ww p1 25 [.int .i64 (0), .int .i64 (0), .slice none 0 0, .slice none 0 0, .slice none 0 0] ∧ Stc ww p17 25 [.int .i64 (((A : Nat) : Int)), .int .i64 (((B : Nat) : Int)), q0, .slice none 0 0, .slice none 0 0] ∧ Owb ww (T82) q0 (smps l 0 i) ∧ Grew w0 (noB) T82 ∧ Apart (T82) (T_b) ∧ Apart (T82) (onB p1) ∧ Apart (T82) (onB p17)) ((pn N 0) - (0)) ⟨0, (.slice none 0 0), noB, by omega, rfl, s75, s77, s78, s79, s80, s76, s81, K33, B31, B32, B29, (Owb.nil _), (Grew.refl _ _), Apart.none.symm, Apart.none.symm, Apart.none.symm⟩ ?_
  rintro n86 F83 w84 ⟨i, q0, T82, i87, hn86, s88, s89, s90, s91, s92, s93, s94, K85, B95, B96, B97, B98, gr99, ap100, ap101, ap102⟩
  refine wq_seq ?_
  refine wq_seq ?_
  refine wq_region ?_
  refine wl_v (.int .i64 (((i : Nat) : Int))) rfl rfl (y_mov rfl s94 ⟨rfl, rfl⟩) ?_
  refine wl_v (.int .i64 ((((pn N 0) : Nat) : Int))) rfl rfl (y_mov rfl s92 ⟨rfl, rfl⟩) ?_
  refine wl_v (.bool (decide ((((i : Nat) : Int)) < ((((pn N 0) : Nat) : Int))))) rfl rfl (y_lss rfl rfl rfl rfl ⟨rfl, rfl⟩) ?_
  refine wl_nil fun F103 hF104 => ?_
  have s105 : F103 2 = v := (hF104 2).trans s88
  have s106 : F103 6 = .pointer (some ⟨p1, 0, none⟩) := (hF104 6).trans s89
  have s107 : F103 7 = .pointer (some ⟨p17, 0, none⟩) := (hF104 7).trans s90
  have s108 : F103 8 = .int .i64 (0) := (hF104 8).trans s91
  have s109 : F103 9 = .int .i64 ((((pn N 0) : Nat) : Int)) := (hF104 9).trans s92
  have s110 : F103 72 = undef := (hF104 72).trans s93
  have s111 : F103 10 = .int .i64 (((i : Nat) : Int)) := (hF104 10).trans s94
  have s112 : F103 38 = .bool (decide ((((i : Nat) : Int)) < ((((pn N 0) : Nat) : Int)))) := (hF104 38).trans rfl
  clear hF104
  refine then_normal ?_
  refine wq_cond s112 (fun c113 => ?_) (fun c113 => ?_)
  · replace c113 := of_decide_eq_true c113
    refine wq_skip ?_
    refine then_normal ?_
    refine wq_seq ?_
    refine wq_block ?_
    refine wq_seq ?_
    refine wq_region ?_
    refine wl_v (.int .i64 (((i : Nat) : Int))) rfl rfl (y_mov rfl s111 ⟨rfl, rfl⟩) ?_
    refine wl_v (.int .i64 (((i * 3 : Nat) : Int))) rfl rfl (y_mul rfl rfl rfl (i64_n (by omega) (by omega)) ⟨rfl, rfl⟩) ?_
    refine wl_v (.int .u8 ((((i * 3 % 256) : Nat) : Int))) rfl rfl (y_convR rfl rfl Try.underlying3 Try.underlying5 (u8_mod (i * 3)) ⟨rfl, rfl⟩) ?_
    refine wl_v (.int .u8 ((((i * 3 % 256) : Nat) : Int))) rfl rfl (y_asg rfl rfl ⟨rfl, rfl⟩) ?_
    refine wl_nil fun F114 hF115 => ?_
    have s116 : F114 2 = v := (hF115 2).trans s105
    have s117 : F114 6 = .pointer (some ⟨p1, 0, none⟩) := (hF115 6).trans s106
    have s118 : F114 7 = .pointer (some ⟨p17, 0, none⟩) := (hF115 7).trans s107
    have s119 : F114 8 = .int .i64 (0) := (hF115 8).trans s108
    have s120 : F114 9 = .int .i64 ((((pn N 0) : Nat) : Int)) := (hF115 9).trans s109
    have s121 : F114 72 = undef := (hF115 72).trans s110
    have s122 : F114 10 = .int .i64 (((i : Nat) : Int)) := (hF115 10).trans s111
    have s123 : F114 11 = .int .u8 ((((i * 3 % 256) : Nat) : Int)) := (hF115 11).trans rfl
    clear hF115
    refine then_normal ?_
    refine wq_seq ?_
    refine wq_seq ?_
    refine wq_region ?_
    refine wl_v (v) rfl rfl (y_mov rfl s116 ⟨rfl, rfl⟩) ?_
    refine wl_v (.int .i64 ((((l).length : Nat) : Int))) rfl rfl (y_lenV rfl rfl rfl B95 ⟨rfl, rfl⟩) ?_
    refine wl_v (.bool (decide ((0) < ((((l).length : Nat) : Int))))) rfl rfl (y_gtr rfl rfl rfl rfl ⟨rfl, rfl⟩) ?_
    refine wl_nil fun F124 hF125 => ?_
    have s126 : F124 2 = v := (hF125 2).trans s116
    have s127 : F124 6 = .pointer (some ⟨p1, 0, none⟩) := (hF125 6).trans s117
    have s128 : F124 7 = .pointer (some ⟨p17, 0, none⟩) := (hF125 7).trans s118
    have s129 : F124 8 = .int .i64 (0) := (hF125 8).trans s119
    have s130 : F124 9 = .int .i64 ((((pn N 0) : Nat) : Int)) := (hF125 9).trans s120
    have s131 : F124 72 = undef := (hF125 72).trans s121
    have s132 : F124 10 = .int .i64 (((i : Nat) : Int)) := (hF125 10).trans s122
    have s133 : F124 11 = .int .u8 ((((i * 3 % 256) : Nat) : Int)) := (hF125 11).trans s123
    have s134 : F124 46 = .bool (decide ((0) < ((((l).length : Nat) : Int)))) := (hF125 46).trans rfl
    clear hF125
    refine then_normal ?_
    refine wq_cond s134 (fun c135 => ?_) (fun c135 => ?_)
    · replace c135 := of_decide_eq_true c135
      refine wq_region ?_
      refine wl_v (v) rfl rfl (y_mov rfl s126 ⟨rfl, rfl⟩) ?_
      refine wl_v (.int .i64 (((i : Nat) : Int))) rfl rfl (y_mov rfl s132 ⟨rfl, rfl⟩) ?_
      refine wl_v (.int .i64 (0)) rfl rfl (y_mov rfl s129 ⟨rfl, rfl⟩) ?_
      refine wl_v (.int .i64 (((0 : Nat) : Int))) rfl rfl (y_mul rfl rfl rfl (i64_n (by omega) (by omega)) ⟨rfl, rfl⟩) ?_
      refine wl_v (.int .i64 (((i + 0 : Nat) : Int))) rfl rfl (y_add rfl rfl rfl (i64_n (by omega) (by omega)) ⟨rfl, rfl⟩) ?_
      refine wl_v (v) rfl rfl (y_mov rfl s126 ⟨rfl, rfl⟩) ?_
      refine wl_v (.int .i64 ((((l).length : Nat) : Int))) rfl rfl (y_lenV rfl rfl rfl B95 ⟨rfl, rfl⟩) ?_
      refine wl_v (.int .i64 (((((i + 7 * 0) % (l).length) : Nat) : Int))) rfl rfl (y_rem rfl rfl rfl (by first | decide | omega) (rem_nat (i + 7 * 0) (l).length) ⟨rfl, rfl⟩) ?_
      refine wl_v (bytAddr (v) (((i + 7 * 0) % (l).length))) rfl rfl (y_atB (((i + 7 * 0) % (l).length)) rfl rfl rfl (by omega) B95 (Nat.mod_lt _ (by omega)) ⟨rfl, rfl⟩) ?_
      have u136 := getD_lt (B95).lt256 (((i + 7 * 0) % (l).length))
      refine wl_v (.int .u8 ((((l).getD (((i + 7 * 0) % (l).length)) 0 : Nat) : Int))) rfl rfl (y_ldB rfl rfl B95 (Nat.mod_lt _ (by omega)) ⟨rfl, rfl⟩) ?_
      refine wl_v (.int .i64 (((i : Nat) : Int))) rfl rfl (y_mov rfl s132 ⟨rfl, rfl⟩) ?_
      refine wl_v (.int .i64 ((((i / 16) : Nat) : Int))) rfl rfl (y_quo rfl rfl rfl (by first | decide | omega) (i64_n (quo_nat i 16) (by omega)) ⟨rfl, rfl⟩) ?_
      refine wl_v (.int .u8 ((((i / 16) : Nat) : Int))) rfl rfl (y_convR rfl rfl Try.underlying3 Try.underlying5 (u8_small (by omega)) ⟨rfl, rfl⟩) ?_
      refine wl_v (.int .u8 (((smp l 0 i : Nat) : Int))) rfl rfl (y_add rfl rfl rfl ((by rw [smp_some (by omega)]; exact u8_mod _)) ⟨rfl, rfl⟩) ?_
      refine wl_v (.int .u8 (((smp l 0 i : Nat) : Int))) rfl rfl (y_asg rfl rfl ⟨rfl, rfl⟩) ?_
      refine wl_nil fun F137 hF138 => ?_
      have s139 : F137 2 = v := (hF138 2).trans s126
      have s140 : F137 6 = .pointer (some ⟨p1, 0, none⟩) := (hF138 6).trans s127
      have s141 : F137 7 = .pointer (some ⟨p17, 0, none⟩) := (hF138 7).trans s128
      have s142 : F137 8 = .int .i64 (0) := (hF138 8).trans s129
      have s143 : F137 9 = .int .i64 ((((pn N 0) : Nat) : Int)) := (hF138 9).trans s130
      have s144 : F137 72 = undef := (hF138 72).trans s131
      have s145 : F137 10 = .int .i64 (((i : Nat) : Int)) := (hF138 10).trans s132
      have s146 : F137 11 = .int .u8 (((smp l 0 i : Nat) : Int)) := (hF138 11).trans rfl
      clear hF138
      refine then_normal ?_
      have hsm := smp_lt l 0 i
      have hsl := smps_length l 0 i
      refine wq_region ?_
      refine wl_v (.int .i64 (0)) rfl rfl (y_mov rfl s142 ⟨rfl, rfl⟩) ?_
      refine wl_v (.int .i64 (0)) rfl rfl (y_mov rfl s142 ⟨rfl, rfl⟩) ?_
      refine wl_v (.pointer (some ⟨p17, 2, none⟩)) rfl rfl (y_fieldR (n := 3) rfl s141 Try.underlying25 rfl (by kernel_rfl) (by decide) rfl ⟨rfl, rfl⟩) ?_
      refine wl_v (.pointer (some ⟨p17, 2, none⟩)) rfl rfl (y_atR (0) (s := 1) rfl rfl rfl (by omega) Try.underlying23 (by omega) (by kernel_rfl) (by omega) ⟨rfl, rfl⟩) ?_
      refine wl_v (q0) rfl rfl (y_ld_stc rfl rfl Try.underlying22 B97 rfl rfl ⟨rfl, rfl⟩) ?_
      refine wl_v (.int .u8 (((smp l 0 i : Nat) : Int))) rfl rfl (y_mov rfl s146 ⟨rfl, rfl⟩) ?_
      refine wl_builtB1 (n := smp l 0 i) rfl rfl rfl rfl (by omega) (by omega) fun v147 w148 T152 B150 g151 k149 => ?_
      have gr153 : Grew w0 noB (T152) := Grew.new K85 g151
      have ap154 : Apart (T152) (T_b) := Apart.new g151 (B95).live
      have ap155 : Apart (T152) (onB p1) := Apart.new g151 (onB_live (B96).lt)
      have ap156 : Apart (T152) (onB p17) := Apart.new g151 (onB_live (B97).lt)
      have ap157 : Apart (T152) (T82) := Apart.new g151 (B98).live
      have B158 := B95.all k149 Apart.none
      have B159 := B96.all k149 id
      have B160 := B97.all k149 id
      have B161 := B98.all k149 Apart.none
      have K162 := K85.trans k149 (fun _ _ x => x.elim)
      refine wl_appendB rfl rfl rfl rfl rfl rfl B161 (B150).byt (by first | omega | (simp; omega)) fun v163 w164 T168 B166 g167 k165 => ?_
      have gr169 := Grew.trans gr99 K162 g167
      have ap170 : Apart T168 (T_b) := (ap100).grew g167 (B158).live
      have ap171 : Apart T168 (onB p1) := (ap101).grew g167 (onB_live (B159).lt)
      have ap172 : Apart T168 (onB p17) := (ap102).grew g167 (onB_live (B160).lt)
      have ap173 : Apart T168 (T152) := ((ap157).symm).grew g167 (B150).live
      have B174 := B158.all k165 (fun i h x => (((ap100).symm) i h x))
      have B175 := B159.all k165 (fun x => (((ap101).symm) p1 rfl x))
      have B176 := B160.all k165 (fun x => (((ap102).symm) p17 rfl x))
      have B177 := B150.all k165 (fun i h x => ((ap157) i h x))
      have K178 := K162.trans k165 (Grew.ok (S := fun _ => False) gr99 noB_le)
      refine wl_v (.pointer (some ⟨p17, 2, none⟩)) rfl rfl (y_fieldR (n := 3) rfl s141 Try.underlying25 rfl (by kernel_rfl) (by decide) rfl ⟨rfl, rfl⟩) ?_
      refine wl_v (.pointer (some ⟨p17, 2, none⟩)) rfl rfl (y_atR (0) (s := 1) rfl rfl rfl (by omega) Try.underlying23 (by omega) (by kernel_rfl) (by omega) ⟨rfl, rfl⟩) ?_
      refine wl_set_stc rfl rfl rfl rfl rfl B176 rfl (B166).oneC (by kernel_rfl) fun w179 B180 k181 => ?_
      replace B180 : Stc w179 p17 25 [.int .i64 (((A : Nat) : Int)), .int .i64 (((B : Nat) : Int)), v163, .slice none 0 0, .slice none 0 0] := B180
      have B182 := B174.all k181 (fun i h x => (((ap23).symm) i h x))
      have B183 := B175.all k181 (fun x => (((ap24).symm) p1 rfl x))
      have B184 := B177.all k181 (fun i h x => ((ap156) i h x))
      have B185 := B166.all k181 (fun i h x => ((ap172) i h x))
      have K186 := K178.trans k181 (Grew.ok (S := fun _ => False) gr22 noB_le)
      refine wl_nil fun F187 hF188 => ?_
      have s189 : F187 2 = v := (hF188 2).trans s139
      have s190 : F187 6 = .pointer (some ⟨p1, 0, none⟩) := (hF188 6).trans s140
      have s191 : F187 7 = .pointer (some ⟨p17, 0, none⟩) := (hF188 7).trans s141
      have s192 : F187 8 = .int .i64 (0) := (hF188 8).trans s142
      have s193 : F187 9 = .int .i64 ((((pn N 0) : Nat) : Int)) := (hF188 9).trans s143
      have s194 : F187 72 = undef := (hF188 72).trans s144
      have s195 : F187 10 = .int .i64 (((i : Nat) : Int)) := (hF188 10).trans s145
      clear hF188
      refine in_normal ?_
      refine then_normal ?_
      refine wq_region ?_
      refine wl_v (.int .i64 (((i : Nat) : Int))) rfl rfl (y_mov rfl s195 ⟨rfl, rfl⟩) ?_
      refine wl_v (.int .i64 (((i + 1 : Nat) : Int))) rfl rfl (y_add rfl rfl rfl (i64_n (by omega) (by omega)) ⟨rfl, rfl⟩) ?_
      refine wl_v (.int .i64 (((i + 1 : Nat) : Int))) rfl rfl (y_asg rfl rfl ⟨rfl, rfl⟩) ?_
      refine wl_nil fun F196 hF197 => ?_
      have s198 : F196 2 = v := (hF197 2).trans s189
      have s199 : F196 6 = .pointer (some ⟨p1, 0, none⟩) := (hF197 6).trans s190
      have s200 : F196 7 = .pointer (some ⟨p17, 0, none⟩) := (hF197 7).trans s191
      have s201 : F196 8 = .int .i64 (0) := (hF197 8).trans s192
      have s202 : F196 9 = .int .i64 ((((pn N 0) : Nat) : Int)) := (hF197 9).trans s193
      have s203 : F196 72 = undef := (hF197 72).trans s194
      have s204 : F196 10 = .int .i64 (((i + 1 : Nat) : Int)) := (hF197 10).trans rfl
      clear hF197
      exact then_normal ⟨((pn N 0) - (i + 1)), by omega, i + 1, (v163), T168, by omega, rfl, s198, s199, s200, s201, s202, s203, s204, K186, B182, B183, B180, (by rw [smps_succ]; exact B185), gr169, ap170, ap171, ap172⟩
    · replace c135 := of_decide_eq_false c135
      refine wq_skip ?_
      refine then_normal ?_
      have hsm := smp_lt l 0 i
      have hsl := smps_length l 0 i
      have s205 : F124 11 = .int .u8 (((smp l 0 i : Nat) : Int)) := s133.trans (congrArg (Value.int .u8) ((by rw [smp_none (by omega)])))
      refine wq_region ?_
      refine wl_v (.int .i64 (0)) rfl rfl (y_mov rfl s129 ⟨rfl, rfl⟩) ?_
      refine wl_v (.int .i64 (0)) rfl rfl (y_mov rfl s129 ⟨rfl, rfl⟩) ?_
      refine wl_v (.pointer (some ⟨p17, 2, none⟩)) rfl rfl (y_fieldR (n := 3) rfl s128 Try.underlying25 rfl (by kernel_rfl) (by decide) rfl ⟨rfl, rfl⟩) ?_
      refine wl_v (.pointer (some ⟨p17, 2, none⟩)) rfl rfl (y_atR (0) (s := 1) rfl rfl rfl (by omega) Try.underlying23 (by omega) (by kernel_rfl) (by omega) ⟨rfl, rfl⟩) ?_
      refine wl_v (q0) rfl rfl (y_ld_stc rfl rfl Try.underlying22 B97 rfl rfl ⟨rfl, rfl⟩) ?_
      refine wl_v (.int .u8 (((smp l 0 i : Nat) : Int))) rfl rfl (y_mov rfl s205 ⟨rfl, rfl⟩) ?_
      refine wl_builtB1 (n := smp l 0 i) rfl rfl rfl rfl (by omega) (by omega) fun v206 w207 T211 B209 g210 k208 => ?_
      have gr212 : Grew w0 noB (T211) := Grew.new K85 g210
      have ap213 : Apart (T211) (T_b) := Apart.new g210 (B95).live
      have ap214 : Apart (T211) (onB p1) := Apart.new g210 (onB_live (B96).lt)
      have ap215 : Apart (T211) (onB p17) := Apart.new g210 (onB_live (B97).lt)
      have ap216 : Apart (T211) (T82) := Apart.new g210 (B98).live
      have B217 := B95.all k208 Apart.none
      have B218 := B96.all k208 id
      have B219 := B97.all k208 id
      have B220 := B98.all k208 Apart.none
      have K221 := K85.trans k208 (fun _ _ x => x.elim)
      refine wl_appendB rfl rfl rfl rfl rfl rfl B220 (B209).byt (by first | omega | (simp; omega)) fun v222 w223 T227 B225 g226 k224 => ?_
      have gr228 := Grew.trans gr99 K221 g226
      have ap229 : Apart T227 (T_b) := (ap100).grew g226 (B217).live
      have ap230 : Apart T227 (onB p1) := (ap101).grew g226 (onB_live (B218).lt)
      have ap231 : Apart T227 (onB p17) := (ap102).grew g226 (onB_live (B219).lt)
      have ap232 : Apart T227 (T211) := ((ap216).symm).grew g226 (B209).live
      have B233 := B217.all k224 (fun i h x => (((ap100).symm) i h x))
      have B234 := B218.all k224 (fun x => (((ap101).symm) p1 rfl x))
      have B235 := B219.all k224 (fun x => (((ap102).symm) p17 rfl x))
      have B236 := B209.all k224 (fun i h x => ((ap216) i h x))
      have K237 := K221.trans k224 (Grew.ok (S := fun _ => False) gr99 noB_le)
      refine wl_v (.pointer (some ⟨p17, 2, none⟩)) rfl rfl (y_fieldR (n := 3) rfl s128 Try.underlying25 rfl (by kernel_rfl) (by decide) rfl ⟨rfl, rfl⟩) ?_
      refine wl_v (.pointer (some ⟨p17, 2, none⟩)) rfl rfl (y_atR (0) (s := 1) rfl rfl rfl (by omega) Try.underlying23 (by omega) (by kernel_rfl) (by omega) ⟨rfl, rfl⟩) ?_
      refine wl_set_stc rfl rfl rfl rfl rfl B235 rfl (B225).oneC (by kernel_rfl) fun w238 B239 k240 => ?_
      replace B239 : Stc w238 p17 25 [.int .i64 (((A : Nat) : Int)), .int .i64 (((B : Nat) : Int)), v222, .slice none 0 0, .slice none 0 0] := B239
      have B241 := B233.all k240 (fun i h x => (((ap23).symm) i h x))
      have B242 := B234.all k240 (fun x => (((ap24).symm) p1 rfl x))
      have B243 := B236.all k240 (fun i h x => ((ap215) i h x))
      have B244 := B225.all k240 (fun i h x => ((ap231) i h x))
      have K245 := K237.trans k240 (Grew.ok (S := fun _ => False) gr22 noB_le)
      refine wl_nil fun F246 hF247 => ?_
      have s248 : F246 2 = v := (hF247 2).trans s126
      have s249 : F246 6 = .pointer (some ⟨p1, 0, none⟩) := (hF247 6).trans s127
      have s250 : F246 7 = .pointer (some ⟨p17, 0, none⟩) := (hF247 7).trans s128
      have s251 : F246 8 = .int .i64 (0) := (hF247 8).trans s129
      have s252 : F246 9 = .int .i64 ((((pn N 0) : Nat) : Int)) := (hF247 9).trans s130
      have s253 : F246 72 = undef := (hF247 72).trans s131
      have s254 : F246 10 = .int .i64 (((i : Nat) : Int)) := (hF247 10).trans s132
      clear hF247
      refine in_normal ?_
      refine then_normal ?_
      refine wq_region ?_
      refine wl_v (.int .i64 (((i : Nat) : Int))) rfl rfl (y_mov rfl s254 ⟨rfl, rfl⟩) ?_
      refine wl_v (.int .i64 (((i + 1 : Nat) : Int))) rfl rfl (y_add rfl rfl rfl (i64_n (by omega) (by omega)) ⟨rfl, rfl⟩) ?_
      refine wl_v (.int .i64 (((i + 1 : Nat) : Int))) rfl rfl (y_asg rfl rfl ⟨rfl, rfl⟩) ?_
      refine wl_nil fun F255 hF256 => ?_
      have s257 : F255 2 = v := (hF256 2).trans s248
      have s258 : F255 6 = .pointer (some ⟨p1, 0, none⟩) := (hF256 6).trans s249
      have s259 : F255 7 = .pointer (some ⟨p17, 0, none⟩) := (hF256 7).trans s250
      have s260 : F255 8 = .int .i64 (0) := (hF256 8).trans s251
      have s261 : F255 9 = .int .i64 ((((pn N 0) : Nat) : Int)) := (hF256 9).trans s252
      have s262 : F255 72 = undef := (hF256 72).trans s253
      have s263 : F255 10 = .int .i64 (((i + 1 : Nat) : Int)) := (hF256 10).trans rfl
      clear hF256
      exact then_normal ⟨((pn N 0) - (i + 1)), by omega, i + 1, (v222), T227, by omega, rfl, s257, s258, s259, s260, s261, s262, s263, K245, B241, B242, B239, (by rw [smps_succ]; exact B244), gr228, ap229, ap230, ap231⟩
  · replace c113 := of_decide_eq_false c113
    refine wq_exit ?_
    refine then_exit ?_
    refine then_exit ?_
    have l264 : (pn N 0) = i := by omega
    subst l264
    refine in_here ?_
    refine in_normal ?_
    refine then_normal ?_
    refine wq_region ?_
    refine wl_v (.int .i64 (0)) rfl rfl (y_mov rfl s108 ⟨rfl, rfl⟩) ?_
    refine wl_v (.int .i64 (((1 : Nat) : Int))) rfl rfl (y_add rfl rfl rfl (i64_n (by omega) (by omega)) ⟨rfl, rfl⟩) ?_
    refine wl_v (.int .i64 (((1 : Nat) : Int))) rfl rfl (y_asg rfl rfl ⟨rfl, rfl⟩) ?_
    refine wl_nil fun F265 hF266 => ?_
    have s267 : F265 2 = v := (hF266 2).trans s105
    have s268 : F265 6 = .pointer (some ⟨p1, 0, none⟩) := (hF266 6).trans s106
    have s269 : F265 7 = .pointer (some ⟨p17, 0, none⟩) := (hF266 7).trans s107
    have s270 : F265 72 = undef := (hF266 72).trans s110
    have s271 : F265 8 = .int .i64 (((1 : Nat) : Int)) := (hF266 8).trans rfl
    clear hF266
    refine then_normal ?_
    refine wqr_step ?_
    refine wq_seq ?_
    refine wq_seq ?_
    refine wq_region ?_
    refine wl_v (.int .i64 (((1 : Nat) : Int))) rfl rfl (y_mov rfl s271 ⟨rfl, rfl⟩) ?_
    refine wl_v (.bool true) rfl rfl (y_lss rfl rfl rfl rfl ⟨rfl, rfl⟩) ?_
    refine wl_nil fun F272 hF273 => ?_
    have s274 : F272 2 = v := (hF273 2).trans s267
    have s275 : F272 6 = .pointer (some ⟨p1, 0, none⟩) := (hF273 6).trans s268
    have s276 : F272 7 = .pointer (some ⟨p17, 0, none⟩) := (hF273 7).trans s269
    have s277 : F272 72 = undef := (hF273 72).trans s270
    have s278 : F272 8 = .int .i64 (((1 : Nat) : Int)) := (hF273 8).trans s271
    have s279 : F272 24 = .bool true := (hF273 24).trans rfl
    clear hF273
    refine then_normal ?_
    refine wq_cond (t := true) s279 (fun _ => ?_) (fun e => by cases e)
    refine wq_skip ?_
    refine then_normal ?_
    refine wq_seq ?_
    refine wq_block ?_
    refine wq_seq ?_
    refine wq_region ?_
    refine wl_v (.pointer (some ⟨p17, 0, none⟩)) rfl rfl (y_fieldR (n := 1) rfl s276 Try.underlying25 rfl (by kernel_rfl) (by decide) rfl ⟨rfl, rfl⟩) ?_
    refine wl_v (.int .i64 (((A : Nat) : Int))) rfl rfl (y_ld_stc rfl rfl Try.underlying3 B97 rfl rfl ⟨rfl, rfl⟩) ?_
    refine wl_v (.pointer (some ⟨p17, 1, none⟩)) rfl rfl (y_fieldR (n := 1) rfl s276 Try.underlying25 rfl (by kernel_rfl) (by decide) rfl ⟨rfl, rfl⟩) ?_
    refine wl_v (.int .i64 (((B : Nat) : Int))) rfl rfl (y_ld_stc rfl rfl Try.underlying3 B97 rfl rfl ⟨rfl, rfl⟩) ?_
    refine wl_v (.int .i64 (((N : Nat) : Int))) rfl rfl (y_mul rfl rfl rfl (i64_n (by rw [hN, Int.natCast_mul]) (by omega)) ⟨rfl, rfl⟩) ?_
    refine wl_v (.int .i64 (((N : Nat) : Int))) rfl rfl (y_asg rfl rfl ⟨rfl, rfl⟩) ?_
    refine wl_nil fun F280 hF281 => ?_
    have s282 : F280 2 = v := (hF281 2).trans s274
    have s283 : F280 6 = .pointer (some ⟨p1, 0, none⟩) := (hF281 6).trans s275
    have s284 : F280 7 = .pointer (some ⟨p17, 0, none⟩) := (hF281 7).trans s276
    have s285 : F280 72 = undef := (hF281 72).trans s277
    have s286 : F280 8 = .int .i64 (((1 : Nat) : Int)) := (hF281 8).trans s278
    have s287 : F280 9 = .int .i64 (((N : Nat) : Int)) := (hF281 9).trans rfl
    clear hF281
    refine then_normal ?_
    refine wq_seq ?_
    refine wq_seq ?_
    refine wq_region ?_
    refine wl_v (.int .i64 (((1 : Nat) : Int))) rfl rfl (y_mov rfl s286 ⟨rfl, rfl⟩) ?_
    refine wl_v (.bool true) rfl rfl (y_gtr rfl rfl rfl rfl ⟨rfl, rfl⟩) ?_
    refine wl_nil fun F288 hF289 => ?_
    have s290 : F288 2 = v := (hF289 2).trans s282
    have s291 : F288 6 = .pointer (some ⟨p1, 0, none⟩) := (hF289 6).trans s283
    have s292 : F288 7 = .pointer (some ⟨p17, 0, none⟩) := (hF289 7).trans s284
    have s293 : F288 72 = undef := (hF289 72).trans s285
    have s294 : F288 8 = .int .i64 (((1 : Nat) : Int)) := (hF289 8).trans s286
    have s295 : F288 9 = .int .i64 (((N : Nat) : Int)) := (hF289 9).trans s287
    have s296 : F288 33 = .bool true := (hF289 33).trans rfl
    clear hF289
    refine then_normal ?_
    refine wq_cond (t := true) s296 (fun _ => ?_) (fun e => by cases e)
    refine wq_region ?_
    refine wl_v (.int .i64 (((N : Nat) : Int))) rfl rfl (y_mov rfl s295 ⟨rfl, rfl⟩) ?_
    refine wl_v (.int .i64 ((((N / 4) : Nat) : Int))) rfl rfl (y_quo rfl rfl rfl (by first | decide | omega) (i64_n (quo_nat N 4) (by omega)) ⟨rfl, rfl⟩) ?_
    refine wl_v (.int .i64 ((((N / 4) : Nat) : Int))) rfl rfl (y_asg rfl rfl ⟨rfl, rfl⟩) ?_
    refine wl_nil fun F297 hF298 => ?_
    have s299 : F297 2 = v := (hF298 2).trans s290
    have s300 : F297 6 = .pointer (some ⟨p1, 0, none⟩) := (hF298 6).trans s291
    have s301 : F297 7 = .pointer (some ⟨p17, 0, none⟩) := (hF298 7).trans s292
    have s302 : F297 72 = undef := (hF298 72).trans s293
    have s303 : F297 8 = .int .i64 (((1 : Nat) : Int)) := (hF298 8).trans s294
    have s304 : F297 9 = .int .i64 ((((N / 4) : Nat) : Int)) := (hF298 9).trans rfl
    clear hF298
    refine then_normal ?_
    refine wq_seq ?_
    have hpn := pn_le N 1
    have s305 : F297 9 = .int .i64 ((((pn N 1) : Nat) : Int)) := s304.trans (congrArg (Value.int .i64) (rfl))
    refine wq_region ?_
    refine wl_v (.int .i64 (0)) rfl rfl (y_asg rfl rfl ⟨rfl, rfl⟩) ?_
    refine wl_nil fun F306 hF307 => ?_
    have s308 : F306 2 = v := (hF307 2).trans s299
    have s309 : F306 6 = .pointer (some ⟨p1, 0, none⟩) := (hF307 6).trans s300
    have s310 : F306 7 = .pointer (some ⟨p17, 0, none⟩) := (hF307 7).trans s301
    have s311 : F306 72 = undef := (hF307 72).trans s302
    have s312 : F306 8 = .int .i64 (((1 : Nat) : Int)) := (hF307 8).trans s303
    have s313 : F306 9 = .int .i64 ((((pn N 1) : Nat) : Int)) := (hF307 9).trans s305
    have s314 : F306 10 = .int .i64 (0) := (hF307 10).trans rfl
    clear hF307
    refine then_normal ?_
    refine wq_block ?_
    refine wq_loop (fun nn FF ww => ∃ (i : Nat), ∃ (q1 : Value), ∃ (T315 : Nat → Prop), (i ≤ (pn N 1)) ∧ nn = (pn N 1) - i ∧ FF 2 = v ∧ FF 6 = .pointer (some ⟨p1, 0, none⟩) ∧ FF 7 = .pointer (some ⟨p17, 0, none⟩) ∧ FF 8 = .int .i64 (((1 : Nat) : Int)) ∧ FF 9 = .int .i64 ((((pn N 1) : Nat) : Int)) ∧ FF 72 = undef ∧ FF 10 = .int .i64 (((i : Nat) : Int)) ∧ Kept (fun _ => False) w0 ww ∧ Byt ww (T_b) v (l) ∧ Stc ww p1 25 [.int .i64 (0), .int .i64 (0), .slice none 0 0, .slice none 0 0, .slice none 0 0] ∧ Stc ww p17 25 [.int .i64 (((A : Nat) : Int)), .int .i64 (((B : Nat) : Int)), q0, q1, .slice none 0 0] ∧ Owb ww (T82) q0 (smps l 0 (pn N 0)) ∧ Owb ww (T315) q1 (smps l 1 i) ∧ Grew w0 (noB) T315 ∧ Apart (T315) (T_b) ∧ Apart (T315) (onB p1) ∧ Apart (T315) (onB p17) ∧ Apart (T315) (T82)) ((pn N 1) - (0)) ⟨0, (.slice none 0 0), noB, by omega, rfl, s308, s309, s310, s312, s313, s311, s314, K85, B95, B96, B97, B98, (Owb.nil _), (Grew.refl _ _), Apart.none.symm, Apart.none.symm, Apart.none.symm, Apart.none.symm⟩ ?_
    rintro n319 F316 w317 ⟨i, q1, T315, i320, hn319, s321, s322, s323, s324, s325, s326, s327, K318, B328, B329, B330, B331, B332, gr333, ap334, ap335, ap336, ap337⟩
    refine wq_seq ?_
    refine wq_seq ?_
    refine wq_region ?_
    refine wl_v (.int .i64 (((i : Nat) : Int))) rfl rfl (y_mov rfl s327 ⟨rfl, rfl⟩) ?_
    refine wl_v (.int .i64 ((((pn N 1) : Nat) : Int))) rfl rfl (y_mov rfl s325 ⟨rfl, rfl⟩) ?_
    refine wl_v (.bool (decide ((((i : Nat) : Int)) < ((((pn N 1) : Nat) : Int))))) rfl rfl (y_lss rfl rfl rfl rfl ⟨rfl, rfl⟩) ?_
    refine wl_nil fun F338 hF339 => ?_
    have s340 : F338 2 = v := (hF339 2).trans s321
    have s341 : F338 6 = .pointer (some ⟨p1, 0, none⟩) := (hF339 6).trans s322
    have s342 : F338 7 = .pointer (some ⟨p17, 0, none⟩) := (hF339 7).trans s323
    have s343 : F338 8 = .int .i64 (((1 : Nat) : Int)) := (hF339 8).trans s324
    have s344 : F338 9 = .int .i64 ((((pn N 1) : Nat) : Int)) := (hF339 9).trans s325
    have s345 : F338 72 = undef := (hF339 72).trans s326
    have s346 : F338 10 = .int .i64 (((i : Nat) : Int)) := (hF339 10).trans s327
    have s347 : F338 38 = .bool (decide ((((i : Nat) : Int)) < ((((pn N 1) : Nat) : Int)))) := (hF339 38).trans rfl
    clear hF339
    refine then_normal ?_
    refine wq_cond s347 (fun c348 => ?_) (fun c348 => ?_)
    · replace c348 := of_decide_eq_true c348
      refine wq_skip ?_
      refine then_normal ?_
      refine wq_seq ?_
      refine wq_block ?_
      refine wq_seq ?_
      refine wq_region ?_
      refine wl_v (.int .i64 (((i : Nat) : Int))) rfl rfl (y_mov rfl s346 ⟨rfl, rfl⟩) ?_
      refine wl_v (.int .i64 (((i * 3 : Nat) : Int))) rfl rfl (y_mul rfl rfl rfl (i64_n (by omega) (by omega)) ⟨rfl, rfl⟩) ?_
      refine wl_v (.int .u8 ((((i * 3 % 256) : Nat) : Int))) rfl rfl (y_convR rfl rfl Try.underlying3 Try.underlying5 (u8_mod (i * 3)) ⟨rfl, rfl⟩) ?_
      refine wl_v (.int .u8 ((((i * 3 % 256) : Nat) : Int))) rfl rfl (y_asg rfl rfl ⟨rfl, rfl⟩) ?_
      refine wl_nil fun F349 hF350 => ?_
      have s351 : F349 2 = v := (hF350 2).trans s340
      have s352 : F349 6 = .pointer (some ⟨p1, 0, none⟩) := (hF350 6).trans s341
      have s353 : F349 7 = .pointer (some ⟨p17, 0, none⟩) := (hF350 7).trans s342
      have s354 : F349 8 = .int .i64 (((1 : Nat) : Int)) := (hF350 8).trans s343
      have s355 : F349 9 = .int .i64 ((((pn N 1) : Nat) : Int)) := (hF350 9).trans s344
      have s356 : F349 72 = undef := (hF350 72).trans s345
      have s357 : F349 10 = .int .i64 (((i : Nat) : Int)) := (hF350 10).trans s346
      have s358 : F349 11 = .int .u8 ((((i * 3 % 256) : Nat) : Int)) := (hF350 11).trans rfl
      clear hF350
      refine then_normal ?_
      refine wq_seq ?_
      refine wq_seq ?_
      refine wq_region ?_
      refine wl_v (v) rfl rfl (y_mov rfl s351 ⟨rfl, rfl⟩) ?_
      refine wl_v (.int .i64 ((((l).length : Nat) : Int))) rfl rfl (y_lenV rfl rfl rfl B328 ⟨rfl, rfl⟩) ?_
      refine wl_v (.bool (decide ((0) < ((((l).length : Nat) : Int))))) rfl rfl (y_gtr rfl rfl rfl rfl ⟨rfl, rfl⟩) ?_
      refine wl_nil fun F359 hF360 => ?_
      have s361 : F359 2 = v := (hF360 2).trans s351
      have s362 : F359 6 = .pointer (some ⟨p1, 0, none⟩) := (hF360 6).trans s352
      have s363 : F359 7 = .pointer (some ⟨p17, 0, none⟩) := (hF360 7).trans s353
      have s364 : F359 8 = .int .i64 (((1 : Nat) : Int)) := (hF360 8).trans s354
      have s365 : F359 9 = .int .i64 ((((pn N 1) : Nat) : Int)) := (hF360 9).trans s355
      have s366 : F359 72 = undef := (hF360 72).trans s356
      have s367 : F359 10 = .int .i64 (((i : Nat) : Int)) := (hF360 10).trans s357
      have s368 : F359 11 = .int .u8 ((((i * 3 % 256) : Nat) : Int)) := (hF360 11).trans s358
      have s369 : F359 46 = .bool (decide ((0) < ((((l).length : Nat) : Int)))) := (hF360 46).trans rfl
      clear hF360
      refine then_normal ?_
      refine wq_cond s369 (fun c370 => ?_) (fun c370 => ?_)
      · replace c370 := of_decide_eq_true c370
        refine wq_region ?_
        refine wl_v (v) rfl rfl (y_mov rfl s361 ⟨rfl, rfl⟩) ?_
        refine wl_v (.int .i64 (((i : Nat) : Int))) rfl rfl (y_mov rfl s367 ⟨rfl, rfl⟩) ?_
        refine wl_v (.int .i64 (((1 : Nat) : Int))) rfl rfl (y_mov rfl s364 ⟨rfl, rfl⟩) ?_
        refine wl_v (.int .i64 (((7 : Nat) : Int))) rfl rfl (y_mul rfl rfl rfl (i64_n (by omega) (by omega)) ⟨rfl, rfl⟩) ?_
        refine wl_v (.int .i64 (((i + 7 : Nat) : Int))) rfl rfl (y_add rfl rfl rfl (i64_n (by omega) (by omega)) ⟨rfl, rfl⟩) ?_
        refine wl_v (v) rfl rfl (y_mov rfl s361 ⟨rfl, rfl⟩) ?_
        refine wl_v (.int .i64 ((((l).length : Nat) : Int))) rfl rfl (y_lenV rfl rfl rfl B328 ⟨rfl, rfl⟩) ?_
        refine wl_v (.int .i64 (((((i + 7 * 1) % (l).length) : Nat) : Int))) rfl rfl (y_rem rfl rfl rfl (by first | decide | omega) (rem_nat (i + 7 * 1) (l).length) ⟨rfl, rfl⟩) ?_
        refine wl_v (bytAddr (v) (((i + 7 * 1) % (l).length))) rfl rfl (y_atB (((i + 7 * 1) % (l).length)) rfl rfl rfl (by omega) B328 (Nat.mod_lt _ (by omega)) ⟨rfl, rfl⟩) ?_
        have u371 := getD_lt (B328).lt256 (((i + 7 * 1) % (l).length))
        refine wl_v (.int .u8 ((((l).getD (((i + 7 * 1) % (l).length)) 0 : Nat) : Int))) rfl rfl (y_ldB rfl rfl B328 (Nat.mod_lt _ (by omega)) ⟨rfl, rfl⟩) ?_
        refine wl_v (.int .i64 (((i : Nat) : Int))) rfl rfl (y_mov rfl s367 ⟨rfl, rfl⟩) ?_
        refine wl_v (.int .i64 ((((i / 16) : Nat) : Int))) rfl rfl (y_quo rfl rfl rfl (by first | decide | omega) (i64_n (quo_nat i 16) (by omega)) ⟨rfl, rfl⟩) ?_
        refine wl_v (.int .u8 ((((i / 16) : Nat) : Int))) rfl rfl (y_convR rfl rfl Try.underlying3 Try.underlying5 (u8_small (by omega)) ⟨rfl, rfl⟩) ?_
        refine wl_v (.int .u8 (((smp l 1 i : Nat) : Int))) rfl rfl (y_add rfl rfl rfl ((by rw [smp_some (by omega)]; exact u8_mod _)) ⟨rfl, rfl⟩) ?_
        refine wl_v (.int .u8 (((smp l 1 i : Nat) : Int))) rfl rfl (y_asg rfl rfl ⟨rfl, rfl⟩) ?_
        refine wl_nil fun F372 hF373 => ?_
        have s374 : F372 2 = v := (hF373 2).trans s361
        have s375 : F372 6 = .pointer (some ⟨p1, 0, none⟩) := (hF373 6).trans s362
        have s376 : F372 7 = .pointer (some ⟨p17, 0, none⟩) := (hF373 7).trans s363
        have s377 : F372 8 = .int .i64 (((1 : Nat) : Int)) := (hF373 8).trans s364
        have s378 : F372 9 = .int .i64 ((((pn N 1) : Nat) : Int)) := (hF373 9).trans s365
        have s379 : F372 72 = undef := (hF373 72).trans s366
        have s380 : F372 10 = .int .i64 (((i : Nat) : Int)) := (hF373 10).trans s367
        have s381 : F372 11 = .int .u8 (((smp l 1 i : Nat) : Int)) := (hF373 11).trans rfl
        clear hF373
        refine then_normal ?_
        have hsm := smp_lt l 1 i
        have hsl := smps_length l 1 i
        refine wq_region ?_
        refine wl_v (.int .i64 (((1 : Nat) : Int))) rfl rfl (y_mov rfl s377 ⟨rfl, rfl⟩) ?_
        refine wl_v (.int .i64 (((1 : Nat) : Int))) rfl rfl (y_mov rfl s377 ⟨rfl, rfl⟩) ?_
        refine wl_v (.pointer (some ⟨p17, 2, none⟩)) rfl rfl (y_fieldR (n := 3) rfl s376 Try.underlying25 rfl (by kernel_rfl) (by decide) rfl ⟨rfl, rfl⟩) ?_
        refine wl_v (.pointer (some ⟨p17, 3, none⟩)) rfl rfl (y_atR (1) (s := 1) rfl rfl rfl (by omega) Try.underlying23 (by omega) (by kernel_rfl) (by omega) ⟨rfl, rfl⟩) ?_
        refine wl_v (q1) rfl rfl (y_ld_stc rfl rfl Try.underlying22 B330 rfl rfl ⟨rfl, rfl⟩) ?_
        refine wl_v (.int .u8 (((smp l 1 i : Nat) : Int))) rfl rfl (y_mov rfl s381 ⟨rfl, rfl⟩) ?_
        refine wl_builtB1 (n := smp l 1 i) rfl rfl rfl rfl (by omega) (by omega) fun v382 w383 T387 B385 g386 k384 => ?_
        have gr388 : Grew w0 noB (T387) := Grew.new K318 g386
        have ap389 : Apart (T387) (T_b) := Apart.new g386 (B328).live
        have ap390 : Apart (T387) (onB p1) := Apart.new g386 (onB_live (B329).lt)
        have ap391 : Apart (T387) (onB p17) := Apart.new g386 (onB_live (B330).lt)
        have ap392 : Apart (T387) (T82) := Apart.new g386 (B331).live
        have ap393 : Apart (T387) (T315) := Apart.new g386 (B332).live
        have B394 := B328.all k384 Apart.none
        have B395 := B329.all k384 id
        have B396 := B330.all k384 id
        have B397 := B331.all k384 Apart.none
        have B398 := B332.all k384 Apart.none
        have K399 := K318.trans k384 (fun _ _ x => x.elim)
        refine wl_appendB rfl rfl rfl rfl rfl rfl B398 (B385).byt (by first | omega | (simp; omega)) fun v400 w401 T405 B403 g404 k402 => ?_
        have gr406 := Grew.trans gr333 K399 g404
        have ap407 : Apart T405 (T_b) := (ap334).grew g404 (B394).live
        have ap408 : Apart T405 (onB p1) := (ap335).grew g404 (onB_live (B395).lt)
        have ap409 : Apart T405 (onB p17) := (ap336).grew g404 (onB_live (B396).lt)
        have ap410 : Apart T405 (T82) := (ap337).grew g404 (B397).live
        have ap411 : Apart T405 (T387) := ((ap393).symm).grew g404 (B385).live
        have B412 := B394.all k402 (fun i h x => (((ap334).symm) i h x))
        have B413 := B395.all k402 (fun x => (((ap335).symm) p1 rfl x))
        have B414 := B396.all k402 (fun x => (((ap336).symm) p17 rfl x))
        have B415 := B397.all k402 (fun i h x => (((ap337).symm) i h x))
        have B416 := B385.all k402 (fun i h x => ((ap393) i h x))
        have K417 := K399.trans k402 (Grew.ok (S := fun _ => False) gr333 noB_le)
        refine wl_v (.pointer (some ⟨p17, 2, none⟩)) rfl rfl (y_fieldR (n := 3) rfl s376 Try.underlying25 rfl (by kernel_rfl) (by decide) rfl ⟨rfl, rfl⟩) ?_
        refine wl_v (.pointer (some ⟨p17, 3, none⟩)) rfl rfl (y_atR (1) (s := 1) rfl rfl rfl (by omega) Try.underlying23 (by omega) (by kernel_rfl) (by omega) ⟨rfl, rfl⟩) ?_
        refine wl_set_stc rfl rfl rfl rfl rfl B414 rfl (B403).oneC (by kernel_rfl) fun w418 B419 k420 => ?_
        replace B419 : Stc w418 p17 25 [.int .i64 (((A : Nat) : Int)), .int .i64 (((B : Nat) : Int)), q0, v400, .slice none 0 0] := B419
        have B421 := B412.all k420 (fun i h x => (((ap23).symm) i h x))
        have B422 := B413.all k420 (fun x => (((ap24).symm) p1 rfl x))
        have B423 := B415.all k420 (fun i h x => ((ap102) i h x))
        have B424 := B416.all k420 (fun i h x => ((ap391) i h x))
        have B425 := B403.all k420 (fun i h x => ((ap409) i h x))
        have K426 := K417.trans k420 (Grew.ok (S := fun _ => False) gr22 noB_le)
        refine wl_nil fun F427 hF428 => ?_
        have s429 : F427 2 = v := (hF428 2).trans s374
        have s430 : F427 6 = .pointer (some ⟨p1, 0, none⟩) := (hF428 6).trans s375
        have s431 : F427 7 = .pointer (some ⟨p17, 0, none⟩) := (hF428 7).trans s376
        have s432 : F427 8 = .int .i64 (((1 : Nat) : Int)) := (hF428 8).trans s377
        have s433 : F427 9 = .int .i64 ((((pn N 1) : Nat) : Int)) := (hF428 9).trans s378
        have s434 : F427 72 = undef := (hF428 72).trans s379
        have s435 : F427 10 = .int .i64 (((i : Nat) : Int)) := (hF428 10).trans s380
        clear hF428
        refine in_normal ?_
        refine then_normal ?_
        refine wq_region ?_
        refine wl_v (.int .i64 (((i : Nat) : Int))) rfl rfl (y_mov rfl s435 ⟨rfl, rfl⟩) ?_
        refine wl_v (.int .i64 (((i + 1 : Nat) : Int))) rfl rfl (y_add rfl rfl rfl (i64_n (by omega) (by omega)) ⟨rfl, rfl⟩) ?_
        refine wl_v (.int .i64 (((i + 1 : Nat) : Int))) rfl rfl (y_asg rfl rfl ⟨rfl, rfl⟩) ?_
        refine wl_nil fun F436 hF437 => ?_
        have s438 : F436 2 = v := (hF437 2).trans s429
        have s439 : F436 6 = .pointer (some ⟨p1, 0, none⟩) := (hF437 6).trans s430
        have s440 : F436 7 = .pointer (some ⟨p17, 0, none⟩) := (hF437 7).trans s431
        have s441 : F436 8 = .int .i64 (((1 : Nat) : Int)) := (hF437 8).trans s432
        have s442 : F436 9 = .int .i64 ((((pn N 1) : Nat) : Int)) := (hF437 9).trans s433
        have s443 : F436 72 = undef := (hF437 72).trans s434
        have s444 : F436 10 = .int .i64 (((i + 1 : Nat) : Int)) := (hF437 10).trans rfl
        clear hF437
        exact then_normal ⟨((pn N 1) - (i + 1)), by omega, i + 1, (v400), T405, by omega, rfl, s438, s439, s440, s441, s442, s443, s444, K426, B421, B422, B419, B423, (by rw [smps_succ]; exact B425), gr406, ap407, ap408, ap409, ap410⟩
      · replace c370 := of_decide_eq_false c370
        refine wq_skip ?_
        refine then_normal ?_
        have hsm := smp_lt l 1 i
        have hsl := smps_length l 1 i
        have s445 : F359 11 = .int .u8 (((smp l 1 i : Nat) : Int)) := s368.trans (congrArg (Value.int .u8) ((by rw [smp_none (by omega)])))
        refine wq_region ?_
        refine wl_v (.int .i64 (((1 : Nat) : Int))) rfl rfl (y_mov rfl s364 ⟨rfl, rfl⟩) ?_
        refine wl_v (.int .i64 (((1 : Nat) : Int))) rfl rfl (y_mov rfl s364 ⟨rfl, rfl⟩) ?_
        refine wl_v (.pointer (some ⟨p17, 2, none⟩)) rfl rfl (y_fieldR (n := 3) rfl s363 Try.underlying25 rfl (by kernel_rfl) (by decide) rfl ⟨rfl, rfl⟩) ?_
        refine wl_v (.pointer (some ⟨p17, 3, none⟩)) rfl rfl (y_atR (1) (s := 1) rfl rfl rfl (by omega) Try.underlying23 (by omega) (by kernel_rfl) (by omega) ⟨rfl, rfl⟩) ?_
        refine wl_v (q1) rfl rfl (y_ld_stc rfl rfl Try.underlying22 B330 rfl rfl ⟨rfl, rfl⟩) ?_
        refine wl_v (.int .u8 (((smp l 1 i : Nat) : Int))) rfl rfl (y_mov rfl s445 ⟨rfl, rfl⟩) ?_
        refine wl_builtB1 (n := smp l 1 i) rfl rfl rfl rfl (by omega) (by omega) fun v446 w447 T451 B449 g450 k448 => ?_
        have gr452 : Grew w0 noB (T451) := Grew.new K318 g450
        have ap453 : Apart (T451) (T_b) := Apart.new g450 (B328).live
        have ap454 : Apart (T451) (onB p1) := Apart.new g450 (onB_live (B329).lt)
        have ap455 : Apart (T451) (onB p17) := Apart.new g450 (onB_live (B330).lt)
        have ap456 : Apart (T451) (T82) := Apart.new g450 (B331).live
        have ap457 : Apart (T451) (T315) := Apart.new g450 (B332).live
        have B458 := B328.all k448 Apart.none
        have B459 := B329.all k448 id
        have B460 := B330.all k448 id
        have B461 := B331.all k448 Apart.none
        have B462 := B332.all k448 Apart.none
        have K463 := K318.trans k448 (fun _ _ x => x.elim)
        refine wl_appendB rfl rfl rfl rfl rfl rfl B462 (B449).byt (by first | omega | (simp; omega)) fun v464 w465 T469 B467 g468 k466 => ?_
        have gr470 := Grew.trans gr333 K463 g468
        have ap471 : Apart T469 (T_b) := (ap334).grew g468 (B458).live
        have ap472 : Apart T469 (onB p1) := (ap335).grew g468 (onB_live (B459).lt)
        have ap473 : Apart T469 (onB p17) := (ap336).grew g468 (onB_live (B460).lt)
        have ap474 : Apart T469 (T82) := (ap337).grew g468 (B461).live
        have ap475 : Apart T469 (T451) := ((ap457).symm).grew g468 (B449).live
        have B476 := B458.all k466 (fun i h x => (((ap334).symm) i h x))
        have B477 := B459.all k466 (fun x => (((ap335).symm) p1 rfl x))
        have B478 := B460.all k466 (fun x => (((ap336).symm) p17 rfl x))
        have B479 := B461.all k466 (fun i h x => (((ap337).symm) i h x))
        have B480 := B449.all k466 (fun i h x => ((ap457) i h x))
        have K481 := K463.trans k466 (Grew.ok (S := fun _ => False) gr333 noB_le)
        refine wl_v (.pointer (some ⟨p17, 2, none⟩)) rfl rfl (y_fieldR (n := 3) rfl s363 Try.underlying25 rfl (by kernel_rfl) (by decide) rfl ⟨rfl, rfl⟩) ?_
        refine wl_v (.pointer (some ⟨p17, 3, none⟩)) rfl rfl (y_atR (1) (s := 1) rfl rfl rfl (by omega) Try.underlying23 (by omega) (by kernel_rfl) (by omega) ⟨rfl, rfl⟩) ?_
        refine wl_set_stc rfl rfl rfl rfl rfl B478 rfl (B467).oneC (by kernel_rfl) fun w482 B483 k484 => ?_
        replace B483 : Stc w482 p17 25 [.int .i64 (((A : Nat) : Int)), .int .i64 (((B : Nat) : Int)), q0, v464, .slice none 0 0] := B483
        have B485 := B476.all k484 (fun i h x => (((ap23).symm) i h x))
        have B486 := B477.all k484 (fun x => (((ap24).symm) p1 rfl x))
        have B487 := B479.all k484 (fun i h x => ((ap102) i h x))
        have B488 := B480.all k484 (fun i h x => ((ap455) i h x))
        have B489 := B467.all k484 (fun i h x => ((ap473) i h x))
        have K490 := K481.trans k484 (Grew.ok (S := fun _ => False) gr22 noB_le)
        refine wl_nil fun F491 hF492 => ?_
        have s493 : F491 2 = v := (hF492 2).trans s361
        have s494 : F491 6 = .pointer (some ⟨p1, 0, none⟩) := (hF492 6).trans s362
        have s495 : F491 7 = .pointer (some ⟨p17, 0, none⟩) := (hF492 7).trans s363
        have s496 : F491 8 = .int .i64 (((1 : Nat) : Int)) := (hF492 8).trans s364
        have s497 : F491 9 = .int .i64 ((((pn N 1) : Nat) : Int)) := (hF492 9).trans s365
        have s498 : F491 72 = undef := (hF492 72).trans s366
        have s499 : F491 10 = .int .i64 (((i : Nat) : Int)) := (hF492 10).trans s367
        clear hF492
        refine in_normal ?_
        refine then_normal ?_
        refine wq_region ?_
        refine wl_v (.int .i64 (((i : Nat) : Int))) rfl rfl (y_mov rfl s499 ⟨rfl, rfl⟩) ?_
        refine wl_v (.int .i64 (((i + 1 : Nat) : Int))) rfl rfl (y_add rfl rfl rfl (i64_n (by omega) (by omega)) ⟨rfl, rfl⟩) ?_
        refine wl_v (.int .i64 (((i + 1 : Nat) : Int))) rfl rfl (y_asg rfl rfl ⟨rfl, rfl⟩) ?_
        refine wl_nil fun F500 hF501 => ?_
        have s502 : F500 2 = v := (hF501 2).trans s493
        have s503 : F500 6 = .pointer (some ⟨p1, 0, none⟩) := (hF501 6).trans s494
        have s504 : F500 7 = .pointer (some ⟨p17, 0, none⟩) := (hF501 7).trans s495
        have s505 : F500 8 = .int .i64 (((1 : Nat) : Int)) := (hF501 8).trans s496
        have s506 : F500 9 = .int .i64 ((((pn N 1) : Nat) : Int)) := (hF501 9).trans s497
        have s507 : F500 72 = undef := (hF501 72).trans s498
        have s508 : F500 10 = .int .i64 (((i + 1 : Nat) : Int)) := (hF501 10).trans rfl
        clear hF501
        exact then_normal ⟨((pn N 1) - (i + 1)), by omega, i + 1, (v464), T469, by omega, rfl, s502, s503, s504, s505, s506, s507, s508, K490, B485, B486, B483, B487, (by rw [smps_succ]; exact B489), gr470, ap471, ap472, ap473, ap474⟩
    · replace c348 := of_decide_eq_false c348
      refine wq_exit ?_
      refine then_exit ?_
      refine then_exit ?_
      have l509 : (pn N 1) = i := by omega
      subst l509
      refine in_here ?_
      refine in_normal ?_
      refine then_normal ?_
      refine wq_region ?_
      refine wl_v (.int .i64 (((1 : Nat) : Int))) rfl rfl (y_mov rfl s343 ⟨rfl, rfl⟩) ?_
      refine wl_v (.int .i64 (((2 : Nat) : Int))) rfl rfl (y_add rfl rfl rfl (i64_n (by omega) (by omega)) ⟨rfl, rfl⟩) ?_
      refine wl_v (.int .i64 (((2 : Nat) : Int))) rfl rfl (y_asg rfl rfl ⟨rfl, rfl⟩) ?_
      refine wl_nil fun F510 hF511 => ?_
      have s512 : F510 2 = v := (hF511 2).trans s340
      have s513 : F510 6 = .pointer (some ⟨p1, 0, none⟩) := (hF511 6).trans s341
      have s514 : F510 7 = .pointer (some ⟨p17, 0, none⟩) := (hF511 7).trans s342
      have s515 : F510 72 = undef := (hF511 72).trans s345
      have s516 : F510 8 = .int .i64 (((2 : Nat) : Int)) := (hF511 8).trans rfl
      clear hF511
      refine then_normal ?_
      refine wqr_step ?_
      refine wq_seq ?_
      refine wq_seq ?_
      refine wq_region ?_
      refine wl_v (.int .i64 (((2 : Nat) : Int))) rfl rfl (y_mov rfl s516 ⟨rfl, rfl⟩) ?_
      refine wl_v (.bool true) rfl rfl (y_lss rfl rfl rfl rfl ⟨rfl, rfl⟩) ?_
      refine wl_nil fun F517 hF518 => ?_
      have s519 : F517 2 = v := (hF518 2).trans s512
      have s520 : F517 6 = .pointer (some ⟨p1, 0, none⟩) := (hF518 6).trans s513
      have s521 : F517 7 = .pointer (some ⟨p17, 0, none⟩) := (hF518 7).trans s514
      have s522 : F517 72 = undef := (hF518 72).trans s515
      have s523 : F517 8 = .int .i64 (((2 : Nat) : Int)) := (hF518 8).trans s516
      have s524 : F517 24 = .bool true := (hF518 24).trans rfl
      clear hF518
      refine then_normal ?_
      refine wq_cond (t := true) s524 (fun _ => ?_) (fun e => by cases e)
      refine wq_skip ?_
      refine then_normal ?_
      refine wq_seq ?_
      refine wq_block ?_
      refine wq_seq ?_
      refine wq_region ?_
      refine wl_v (.pointer (some ⟨p17, 0, none⟩)) rfl rfl (y_fieldR (n := 1) rfl s521 Try.underlying25 rfl (by kernel_rfl) (by decide) rfl ⟨rfl, rfl⟩) ?_
      refine wl_v (.int .i64 (((A : Nat) : Int))) rfl rfl (y_ld_stc rfl rfl Try.underlying3 B330 rfl rfl ⟨rfl, rfl⟩) ?_
      refine wl_v (.pointer (some ⟨p17, 1, none⟩)) rfl rfl (y_fieldR (n := 1) rfl s521 Try.underlying25 rfl (by kernel_rfl) (by decide) rfl ⟨rfl, rfl⟩) ?_
      refine wl_v (.int .i64 (((B : Nat) : Int))) rfl rfl (y_ld_stc rfl rfl Try.underlying3 B330 rfl rfl ⟨rfl, rfl⟩) ?_
      refine wl_v (.int .i64 (((N : Nat) : Int))) rfl rfl (y_mul rfl rfl rfl (i64_n (by rw [hN, Int.natCast_mul]) (by omega)) ⟨rfl, rfl⟩) ?_
      refine wl_v (.int .i64 (((N : Nat) : Int))) rfl rfl (y_asg rfl rfl ⟨rfl, rfl⟩) ?_
      refine wl_nil fun F525 hF526 => ?_
      have s527 : F525 2 = v := (hF526 2).trans s519
      have s528 : F525 6 = .pointer (some ⟨p1, 0, none⟩) := (hF526 6).trans s520
      have s529 : F525 7 = .pointer (some ⟨p17, 0, none⟩) := (hF526 7).trans s521
      have s530 : F525 72 = undef := (hF526 72).trans s522
      have s531 : F525 8 = .int .i64 (((2 : Nat) : Int)) := (hF526 8).trans s523
      have s532 : F525 9 = .int .i64 (((N : Nat) : Int)) := (hF526 9).trans rfl
      clear hF526
      refine then_normal ?_
      refine wq_seq ?_
      refine wq_seq ?_
      refine wq_region ?_
      refine wl_v (.int .i64 (((2 : Nat) : Int))) rfl rfl (y_mov rfl s531 ⟨rfl, rfl⟩) ?_
      refine wl_v (.bool true) rfl rfl (y_gtr rfl rfl rfl rfl ⟨rfl, rfl⟩) ?_
      refine wl_nil fun F533 hF534 => ?_
      have s535 : F533 2 = v := (hF534 2).trans s527
      have s536 : F533 6 = .pointer (some ⟨p1, 0, none⟩) := (hF534 6).trans s528
      have s537 : F533 7 = .pointer (some ⟨p17, 0, none⟩) := (hF534 7).trans s529
      have s538 : F533 72 = undef := (hF534 72).trans s530
      have s539 : F533 8 = .int .i64 (((2 : Nat) : Int)) := (hF534 8).trans s531
      have s540 : F533 9 = .int .i64 (((N : Nat) : Int)) := (hF534 9).trans s532
      have s541 : F533 33 = .bool true := (hF534 33).trans rfl
      clear hF534
      refine then_normal ?_
      refine wq_cond (t := true) s541 (fun _ => ?_) (fun e => by cases e)
      refine wq_region ?_
      refine wl_v (.int .i64 (((N : Nat) : Int))) rfl rfl (y_mov rfl s540 ⟨rfl, rfl⟩) ?_
      refine wl_v (.int .i64 ((((N / 4) : Nat) : Int))) rfl rfl (y_quo rfl rfl rfl (by first | decide | omega) (i64_n (quo_nat N 4) (by omega)) ⟨rfl, rfl⟩) ?_
      refine wl_v (.int .i64 ((((N / 4) : Nat) : Int))) rfl rfl (y_asg rfl rfl ⟨rfl, rfl⟩) ?_
      refine wl_nil fun F542 hF543 => ?_
      have s544 : F542 2 = v := (hF543 2).trans s535
      have s545 : F542 6 = .pointer (some ⟨p1, 0, none⟩) := (hF543 6).trans s536
      have s546 : F542 7 = .pointer (some ⟨p17, 0, none⟩) := (hF543 7).trans s537
      have s547 : F542 72 = undef := (hF543 72).trans s538
      have s548 : F542 8 = .int .i64 (((2 : Nat) : Int)) := (hF543 8).trans s539
      have s549 : F542 9 = .int .i64 ((((N / 4) : Nat) : Int)) := (hF543 9).trans rfl
      clear hF543
      refine then_normal ?_
      refine wq_seq ?_
      have hpn := pn_le N 2
      have s550 : F542 9 = .int .i64 ((((pn N 2) : Nat) : Int)) := s549.trans (congrArg (Value.int .i64) (rfl))
      refine wq_region ?_
      refine wl_v (.int .i64 (0)) rfl rfl (y_asg rfl rfl ⟨rfl, rfl⟩) ?_
      refine wl_nil fun F551 hF552 => ?_
      have s553 : F551 2 = v := (hF552 2).trans s544
      have s554 : F551 6 = .pointer (some ⟨p1, 0, none⟩) := (hF552 6).trans s545
      have s555 : F551 7 = .pointer (some ⟨p17, 0, none⟩) := (hF552 7).trans s546
      have s556 : F551 72 = undef := (hF552 72).trans s547
      have s557 : F551 8 = .int .i64 (((2 : Nat) : Int)) := (hF552 8).trans s548
      have s558 : F551 9 = .int .i64 ((((pn N 2) : Nat) : Int)) := (hF552 9).trans s550
      have s559 : F551 10 = .int .i64 (0) := (hF552 10).trans rfl
      clear hF552
      refine then_normal ?_
      refine wq_block ?_
      refine wq_loop (fun nn FF ww => ∃ (i : Nat), ∃ (q2 : Value), ∃ (T560 : Nat → Prop), (i ≤ (pn N 2)) ∧ nn = (pn N 2) - i ∧ FF 2 = v ∧ FF 6 = .pointer (some ⟨p1, 0, none⟩) ∧ FF 7 = .pointer (some ⟨p17, 0, none⟩) ∧ FF 8 = .int .i64 (((2 : Nat) : Int)) ∧ FF 9 = .int .i64 ((((pn N 2) : Nat) : Int)) ∧ FF 72 = undef ∧ FF 10 = .int .i64 (((i : Nat) : Int)) ∧ Kept (fun _ => False) w0 ww ∧ Byt ww (T_b) v (l) ∧ Stc ww p1 25 [.int .i64 (0), .int .i64 (0), .slice none 0 0, .slice none 0 0, .slice none 0 0] ∧ Stc ww p17 25 [.int .i64 (((A : Nat) : Int)), .int .i64 (((B : Nat) : Int)), q0, q1, q2] ∧ Owb ww (T82) q0 (smps l 0 (pn N 0)) ∧ Owb ww (T315) q1 (smps l 1 (pn N 1)) ∧ Owb ww (T560) q2 (smps l 2 i) ∧ Grew w0 (noB) T560 ∧ Apart (T560) (T_b) ∧ Apart (T560) (onB p1) ∧ Apart (T560) (onB p17) ∧ Apart (T560) (T82) ∧ Apart (T560) (T315)) ((pn N 2) - (0)) ⟨0, (.slice none 0 0), noB, by omega, rfl, s553, s554, s555, s557, s558, s556, s559, K318, B328, B329, B330, B331, B332, (Owb.nil _), (Grew.refl _ _), Apart.none.symm, Apart.none.symm, Apart.none.symm, Apart.none.symm, Apart.none.symm⟩ ?_
      rintro n564 F561 w562 ⟨i, q2, T560, i565, hn564, s566, s567, s568, s569, s570, s571, s572, K563, B573, B574, B575, B576, B577, B578, gr579, ap580, ap581, ap582, ap583, ap584⟩
      refine wq_seq ?_
      refine wq_seq ?_
      refine wq_region ?_
      refine wl_v (.int .i64 (((i : Nat) : Int))) rfl rfl (y_mov rfl s572 ⟨rfl, rfl⟩) ?_
      refine wl_v (.int .i64 ((((pn N 2) : Nat) : Int))) rfl rfl (y_mov rfl s570 ⟨rfl, rfl⟩) ?_
      refine wl_v (.bool (decide ((((i : Nat) : Int)) < ((((pn N 2) : Nat) : Int))))) rfl rfl (y_lss rfl rfl rfl rfl ⟨rfl, rfl⟩) ?_
      refine wl_nil fun F585 hF586 => ?_
      have s587 : F585 2 = v := (hF586 2).trans s566
      have s588 : F585 6 = .pointer (some ⟨p1, 0, none⟩) := (hF586 6).trans s567
      have s589 : F585 7 = .pointer (some ⟨p17, 0, none⟩) := (hF586 7).trans s568
      have s590 : F585 8 = .int .i64 (((2 : Nat) : Int)) := (hF586 8).trans s569
      have s591 : F585 9 = .int .i64 ((((pn N 2) : Nat) : Int)) := (hF586 9).trans s570
      have s592 : F585 72 = undef := (hF586 72).trans s571
      have s593 : F585 10 = .int .i64 (((i : Nat) : Int)) := (hF586 10).trans s572
      have s594 : F585 38 = .bool (decide ((((i : Nat) : Int)) < ((((pn N 2) : Nat) : Int)))) := (hF586 38).trans rfl
      clear hF586
      refine then_normal ?_
      refine wq_cond s594 (fun c595 => ?_) (fun c595 => ?_)
      · replace c595 := of_decide_eq_true c595
        refine wq_skip ?_
        refine then_normal ?_
        refine wq_seq ?_
        refine wq_block ?_
        refine wq_seq ?_
        refine wq_region ?_
        refine wl_v (.int .i64 (((i : Nat) : Int))) rfl rfl (y_mov rfl s593 ⟨rfl, rfl⟩) ?_
        refine wl_v (.int .i64 (((i * 3 : Nat) : Int))) rfl rfl (y_mul rfl rfl rfl (i64_n (by omega) (by omega)) ⟨rfl, rfl⟩) ?_
        refine wl_v (.int .u8 ((((i * 3 % 256) : Nat) : Int))) rfl rfl (y_convR rfl rfl Try.underlying3 Try.underlying5 (u8_mod (i * 3)) ⟨rfl, rfl⟩) ?_
        refine wl_v (.int .u8 ((((i * 3 % 256) : Nat) : Int))) rfl rfl (y_asg rfl rfl ⟨rfl, rfl⟩) ?_
        refine wl_nil fun F596 hF597 => ?_
        have s598 : F596 2 = v := (hF597 2).trans s587
        have s599 : F596 6 = .pointer (some ⟨p1, 0, none⟩) := (hF597 6).trans s588
        have s600 : F596 7 = .pointer (some ⟨p17, 0, none⟩) := (hF597 7).trans s589
        have s601 : F596 8 = .int .i64 (((2 : Nat) : Int)) := (hF597 8).trans s590
        have s602 : F596 9 = .int .i64 ((((pn N 2) : Nat) : Int)) := (hF597 9).trans s591
        have s603 : F596 72 = undef := (hF597 72).trans s592
        have s604 : F596 10 = .int .i64 (((i : Nat) : Int)) := (hF597 10).trans s593
        have s605 : F596 11 = .int .u8 ((((i * 3 % 256) : Nat) : Int)) := (hF597 11).trans rfl
        clear hF597
        refine then_normal ?_
        refine wq_seq ?_
        refine wq_seq ?_
        refine wq_region ?_
        refine wl_v (v) rfl rfl (y_mov rfl s598 ⟨rfl, rfl⟩) ?_
        refine wl_v (.int .i64 ((((l).length : Nat) : Int))) rfl rfl (y_lenV rfl rfl rfl B573 ⟨rfl, rfl⟩) ?_
        refine wl_v (.bool (decide ((0) < ((((l).length : Nat) : Int))))) rfl rfl (y_gtr rfl rfl rfl rfl ⟨rfl, rfl⟩) ?_
        refine wl_nil fun F606 hF607 => ?_
        have s608 : F606 2 = v := (hF607 2).trans s598
        have s609 : F606 6 = .pointer (some ⟨p1, 0, none⟩) := (hF607 6).trans s599
        have s610 : F606 7 = .pointer (some ⟨p17, 0, none⟩) := (hF607 7).trans s600
        have s611 : F606 8 = .int .i64 (((2 : Nat) : Int)) := (hF607 8).trans s601
        have s612 : F606 9 = .int .i64 ((((pn N 2) : Nat) : Int)) := (hF607 9).trans s602
        have s613 : F606 72 = undef := (hF607 72).trans s603
        have s614 : F606 10 = .int .i64 (((i : Nat) : Int)) := (hF607 10).trans s604
        have s615 : F606 11 = .int .u8 ((((i * 3 % 256) : Nat) : Int)) := (hF607 11).trans s605
        have s616 : F606 46 = .bool (decide ((0) < ((((l).length : Nat) : Int)))) := (hF607 46).trans rfl
        clear hF607
        refine then_normal ?_
        refine wq_cond s616 (fun c617 => ?_) (fun c617 => ?_)
        · replace c617 := of_decide_eq_true c617
          refine wq_region ?_
          refine wl_v (v) rfl rfl (y_mov rfl s608 ⟨rfl, rfl⟩) ?_
          refine wl_v (.int .i64 (((i : Nat) : Int))) rfl rfl (y_mov rfl s614 ⟨rfl, rfl⟩) ?_
          refine wl_v (.int .i64 (((2 : Nat) : Int))) rfl rfl (y_mov rfl s611 ⟨rfl, rfl⟩) ?_
          refine wl_v (.int .i64 (((14 : Nat) : Int))) rfl rfl (y_mul rfl rfl rfl (i64_n (by omega) (by omega)) ⟨rfl, rfl⟩) ?_
          refine wl_v (.int .i64 (((i + 14 : Nat) : Int))) rfl rfl (y_add rfl rfl rfl (i64_n (by omega) (by omega)) ⟨rfl, rfl⟩) ?_
          refine wl_v (v) rfl rfl (y_mov rfl s608 ⟨rfl, rfl⟩) ?_
          refine wl_v (.int .i64 ((((l).length : Nat) : Int))) rfl rfl (y_lenV rfl rfl rfl B573 ⟨rfl, rfl⟩) ?_
          refine wl_v (.int .i64 (((((i + 7 * 2) % (l).length) : Nat) : Int))) rfl rfl (y_rem rfl rfl rfl (by first | decide | omega) (rem_nat (i + 7 * 2) (l).length) ⟨rfl, rfl⟩) ?_
          refine wl_v (bytAddr (v) (((i + 7 * 2) % (l).length))) rfl rfl (y_atB (((i + 7 * 2) % (l).length)) rfl rfl rfl (by omega) B573 (Nat.mod_lt _ (by omega)) ⟨rfl, rfl⟩) ?_
          have u618 := getD_lt (B573).lt256 (((i + 7 * 2) % (l).length))
          refine wl_v (.int .u8 ((((l).getD (((i + 7 * 2) % (l).length)) 0 : Nat) : Int))) rfl rfl (y_ldB rfl rfl B573 (Nat.mod_lt _ (by omega)) ⟨rfl, rfl⟩) ?_
          refine wl_v (.int .i64 (((i : Nat) : Int))) rfl rfl (y_mov rfl s614 ⟨rfl, rfl⟩) ?_
          refine wl_v (.int .i64 ((((i / 16) : Nat) : Int))) rfl rfl (y_quo rfl rfl rfl (by first | decide | omega) (i64_n (quo_nat i 16) (by omega)) ⟨rfl, rfl⟩) ?_
          refine wl_v (.int .u8 ((((i / 16) : Nat) : Int))) rfl rfl (y_convR rfl rfl Try.underlying3 Try.underlying5 (u8_small (by omega)) ⟨rfl, rfl⟩) ?_
          refine wl_v (.int .u8 (((smp l 2 i : Nat) : Int))) rfl rfl (y_add rfl rfl rfl ((by rw [smp_some (by omega)]; exact u8_mod _)) ⟨rfl, rfl⟩) ?_
          refine wl_v (.int .u8 (((smp l 2 i : Nat) : Int))) rfl rfl (y_asg rfl rfl ⟨rfl, rfl⟩) ?_
          refine wl_nil fun F619 hF620 => ?_
          have s621 : F619 2 = v := (hF620 2).trans s608
          have s622 : F619 6 = .pointer (some ⟨p1, 0, none⟩) := (hF620 6).trans s609
          have s623 : F619 7 = .pointer (some ⟨p17, 0, none⟩) := (hF620 7).trans s610
          have s624 : F619 8 = .int .i64 (((2 : Nat) : Int)) := (hF620 8).trans s611
          have s625 : F619 9 = .int .i64 ((((pn N 2) : Nat) : Int)) := (hF620 9).trans s612
          have s626 : F619 72 = undef := (hF620 72).trans s613
          have s627 : F619 10 = .int .i64 (((i : Nat) : Int)) := (hF620 10).trans s614
          have s628 : F619 11 = .int .u8 (((smp l 2 i : Nat) : Int)) := (hF620 11).trans rfl
          clear hF620
          refine then_normal ?_
          have hsm := smp_lt l 2 i
          have hsl := smps_length l 2 i
          refine wq_region ?_
          refine wl_v (.int .i64 (((2 : Nat) : Int))) rfl rfl (y_mov rfl s624 ⟨rfl, rfl⟩) ?_
          refine wl_v (.int .i64 (((2 : Nat) : Int))) rfl rfl (y_mov rfl s624 ⟨rfl, rfl⟩) ?_
          refine wl_v (.pointer (some ⟨p17, 2, none⟩)) rfl rfl (y_fieldR (n := 3) rfl s623 Try.underlying25 rfl (by kernel_rfl) (by decide) rfl ⟨rfl, rfl⟩) ?_
          refine wl_v (.pointer (some ⟨p17, 4, none⟩)) rfl rfl (y_atR (2) (s := 1) rfl rfl rfl (by omega) Try.underlying23 (by omega) (by kernel_rfl) (by omega) ⟨rfl, rfl⟩) ?_
          refine wl_v (q2) rfl rfl (y_ld_stc rfl rfl Try.underlying22 B575 rfl rfl ⟨rfl, rfl⟩) ?_
          refine wl_v (.int .u8 (((smp l 2 i : Nat) : Int))) rfl rfl (y_mov rfl s628 ⟨rfl, rfl⟩) ?_
          refine wl_builtB1 (n := smp l 2 i) rfl rfl rfl rfl (by omega) (by omega) fun v629 w630 T634 B632 g633 k631 => ?_
          have gr635 : Grew w0 noB (T634) := Grew.new K563 g633
          have ap636 : Apart (T634) (T_b) := Apart.new g633 (B573).live
          have ap637 : Apart (T634) (onB p1) := Apart.new g633 (onB_live (B574).lt)
          have ap638 : Apart (T634) (onB p17) := Apart.new g633 (onB_live (B575).lt)
          have ap639 : Apart (T634) (T82) := Apart.new g633 (B576).live
          have ap640 : Apart (T634) (T315) := Apart.new g633 (B577).live
          have ap641 : Apart (T634) (T560) := Apart.new g633 (B578).live
          have B642 := B573.all k631 Apart.none
          have B643 := B574.all k631 id
          have B644 := B575.all k631 id
          have B645 := B576.all k631 Apart.none
          have B646 := B577.all k631 Apart.none
          have B647 := B578.all k631 Apart.none
          have K648 := K563.trans k631 (fun _ _ x => x.elim)
          refine wl_appendB rfl rfl rfl rfl rfl rfl B647 (B632).byt (by first | omega | (simp; omega)) fun v649 w650 T654 B652 g653 k651 => ?_
          have gr655 := Grew.trans gr579 K648 g653
          have ap656 : Apart T654 (T_b) := (ap580).grew g653 (B642).live
          have ap657 : Apart T654 (onB p1) := (ap581).grew g653 (onB_live (B643).lt)
          have ap658 : Apart T654 (onB p17) := (ap582).grew g653 (onB_live (B644).lt)
          have ap659 : Apart T654 (T82) := (ap583).grew g653 (B645).live
          have ap660 : Apart T654 (T315) := (ap584).grew g653 (B646).live
          have ap661 : Apart T654 (T634) := ((ap641).symm).grew g653 (B632).live
          have B662 := B642.all k651 (fun i h x => (((ap580).symm) i h x))
          have B663 := B643.all k651 (fun x => (((ap581).symm) p1 rfl x))
          have B664 := B644.all k651 (fun x => (((ap582).symm) p17 rfl x))
          have B665 := B645.all k651 (fun i h x => (((ap583).symm) i h x))
          have B666 := B646.all k651 (fun i h x => (((ap584).symm) i h x))
          have B667 := B632.all k651 (fun i h x => ((ap641) i h x))
          have K668 := K648.trans k651 (Grew.ok (S := fun _ => False) gr579 noB_le)
          refine wl_v (.pointer (some ⟨p17, 2, none⟩)) rfl rfl (y_fieldR (n := 3) rfl s623 Try.underlying25 rfl (by kernel_rfl) (by decide) rfl ⟨rfl, rfl⟩) ?_
          refine wl_v (.pointer (some ⟨p17, 4, none⟩)) rfl rfl (y_atR (2) (s := 1) rfl rfl rfl (by omega) Try.underlying23 (by omega) (by kernel_rfl) (by omega) ⟨rfl, rfl⟩) ?_
          refine wl_set_stc rfl rfl rfl rfl rfl B664 rfl (B652).oneC (by kernel_rfl) fun w669 B670 k671 => ?_
          replace B670 : Stc w669 p17 25 [.int .i64 (((A : Nat) : Int)), .int .i64 (((B : Nat) : Int)), q0, q1, v649] := B670
          have B672 := B662.all k671 (fun i h x => (((ap23).symm) i h x))
          have B673 := B663.all k671 (fun x => (((ap24).symm) p1 rfl x))
          have B674 := B665.all k671 (fun i h x => ((ap102) i h x))
          have B675 := B666.all k671 (fun i h x => ((ap336) i h x))
          have B676 := B667.all k671 (fun i h x => ((ap638) i h x))
          have B677 := B652.all k671 (fun i h x => ((ap658) i h x))
          have K678 := K668.trans k671 (Grew.ok (S := fun _ => False) gr22 noB_le)
          refine wl_nil fun F679 hF680 => ?_
          have s681 : F679 2 = v := (hF680 2).trans s621
          have s682 : F679 6 = .pointer (some ⟨p1, 0, none⟩) := (hF680 6).trans s622
          have s683 : F679 7 = .pointer (some ⟨p17, 0, none⟩) := (hF680 7).trans s623
          have s684 : F679 8 = .int .i64 (((2 : Nat) : Int)) := (hF680 8).trans s624
          have s685 : F679 9 = .int .i64 ((((pn N 2) : Nat) : Int)) := (hF680 9).trans s625
          have s686 : F679 72 = undef := (hF680 72).trans s626
          have s687 : F679 10 = .int .i64 (((i : Nat) : Int)) := (hF680 10).trans s627
          clear hF680
          refine in_normal ?_
          refine then_normal ?_
          refine wq_region ?_
          refine wl_v (.int .i64 (((i : Nat) : Int))) rfl rfl (y_mov rfl s687 ⟨rfl, rfl⟩) ?_
          refine wl_v (.int .i64 (((i + 1 : Nat) : Int))) rfl rfl (y_add rfl rfl rfl (i64_n (by omega) (by omega)) ⟨rfl, rfl⟩) ?_
          refine wl_v (.int .i64 (((i + 1 : Nat) : Int))) rfl rfl (y_asg rfl rfl ⟨rfl, rfl⟩) ?_
          refine wl_nil fun F688 hF689 => ?_
          have s690 : F688 2 = v := (hF689 2).trans s681
          have s691 : F688 6 = .pointer (some ⟨p1, 0, none⟩) := (hF689 6).trans s682
          have s692 : F688 7 = .pointer (some ⟨p17, 0, none⟩) := (hF689 7).trans s683
          have s693 : F688 8 = .int .i64 (((2 : Nat) : Int)) := (hF689 8).trans s684
          have s694 : F688 9 = .int .i64 ((((pn N 2) : Nat) : Int)) := (hF689 9).trans s685
          have s695 : F688 72 = undef := (hF689 72).trans s686
          have s696 : F688 10 = .int .i64 (((i + 1 : Nat) : Int)) := (hF689 10).trans rfl
          clear hF689
          exact then_normal ⟨((pn N 2) - (i + 1)), by omega, i + 1, (v649), T654, by omega, rfl, s690, s691, s692, s693, s694, s695, s696, K678, B672, B673, B670, B674, B675, (by rw [smps_succ]; exact B677), gr655, ap656, ap657, ap658, ap659, ap660⟩
        · replace c617 := of_decide_eq_false c617
          refine wq_skip ?_
          refine then_normal ?_
          have hsm := smp_lt l 2 i
          have hsl := smps_length l 2 i
          have s697 : F606 11 = .int .u8 (((smp l 2 i : Nat) : Int)) := s615.trans (congrArg (Value.int .u8) ((by rw [smp_none (by omega)])))
          refine wq_region ?_
          refine wl_v (.int .i64 (((2 : Nat) : Int))) rfl rfl (y_mov rfl s611 ⟨rfl, rfl⟩) ?_
          refine wl_v (.int .i64 (((2 : Nat) : Int))) rfl rfl (y_mov rfl s611 ⟨rfl, rfl⟩) ?_
          refine wl_v (.pointer (some ⟨p17, 2, none⟩)) rfl rfl (y_fieldR (n := 3) rfl s610 Try.underlying25 rfl (by kernel_rfl) (by decide) rfl ⟨rfl, rfl⟩) ?_
          refine wl_v (.pointer (some ⟨p17, 4, none⟩)) rfl rfl (y_atR (2) (s := 1) rfl rfl rfl (by omega) Try.underlying23 (by omega) (by kernel_rfl) (by omega) ⟨rfl, rfl⟩) ?_
          refine wl_v (q2) rfl rfl (y_ld_stc rfl rfl Try.underlying22 B575 rfl rfl ⟨rfl, rfl⟩) ?_
          refine wl_v (.int .u8 (((smp l 2 i : Nat) : Int))) rfl rfl (y_mov rfl s697 ⟨rfl, rfl⟩) ?_
          refine wl_builtB1 (n := smp l 2 i) rfl rfl rfl rfl (by omega) (by omega) fun v698 w699 T703 B701 g702 k700 => ?_
          have gr704 : Grew w0 noB (T703) := Grew.new K563 g702
          have ap705 : Apart (T703) (T_b) := Apart.new g702 (B573).live
          have ap706 : Apart (T703) (onB p1) := Apart.new g702 (onB_live (B574).lt)
          have ap707 : Apart (T703) (onB p17) := Apart.new g702 (onB_live (B575).lt)
          have ap708 : Apart (T703) (T82) := Apart.new g702 (B576).live
          have ap709 : Apart (T703) (T315) := Apart.new g702 (B577).live
          have ap710 : Apart (T703) (T560) := Apart.new g702 (B578).live
          have B711 := B573.all k700 Apart.none
          have B712 := B574.all k700 id
          have B713 := B575.all k700 id
          have B714 := B576.all k700 Apart.none
          have B715 := B577.all k700 Apart.none
          have B716 := B578.all k700 Apart.none
          have K717 := K563.trans k700 (fun _ _ x => x.elim)
          refine wl_appendB rfl rfl rfl rfl rfl rfl B716 (B701).byt (by first | omega | (simp; omega)) fun v718 w719 T723 B721 g722 k720 => ?_
          have gr724 := Grew.trans gr579 K717 g722
          have ap725 : Apart T723 (T_b) := (ap580).grew g722 (B711).live
          have ap726 : Apart T723 (onB p1) := (ap581).grew g722 (onB_live (B712).lt)
          have ap727 : Apart T723 (onB p17) := (ap582).grew g722 (onB_live (B713).lt)
          have ap728 : Apart T723 (T82) := (ap583).grew g722 (B714).live
          have ap729 : Apart T723 (T315) := (ap584).grew g722 (B715).live
          have ap730 : Apart T723 (T703) := ((ap710).symm).grew g722 (B701).live
          have B731 := B711.all k720 (fun i h x => (((ap580).symm) i h x))
          have B732 := B712.all k720 (fun x => (((ap581).symm) p1 rfl x))
          have B733 := B713.all k720 (fun x => (((ap582).symm) p17 rfl x))
          have B734 := B714.all k720 (fun i h x => (((ap583).symm) i h x))
          have B735 := B715.all k720 (fun i h x => (((ap584).symm) i h x))
          have B736 := B701.all k720 (fun i h x => ((ap710) i h x))
          have K737 := K717.trans k720 (Grew.ok (S := fun _ => False) gr579 noB_le)
          refine wl_v (.pointer (some ⟨p17, 2, none⟩)) rfl rfl (y_fieldR (n := 3) rfl s610 Try.underlying25 rfl (by kernel_rfl) (by decide) rfl ⟨rfl, rfl⟩) ?_
          refine wl_v (.pointer (some ⟨p17, 4, none⟩)) rfl rfl (y_atR (2) (s := 1) rfl rfl rfl (by omega) Try.underlying23 (by omega) (by kernel_rfl) (by omega) ⟨rfl, rfl⟩) ?_
          refine wl_set_stc rfl rfl rfl rfl rfl B733 rfl (B721).oneC (by kernel_rfl) fun w738 B739 k740 => ?_
          replace B739 : Stc w738 p17 25 [.int .i64 (((A : Nat) : Int)), .int .i64 (((B : Nat) : Int)), q0, q1, v718] := B739
          have B741 := B731.all k740 (fun i h x => (((ap23).symm) i h x))
          have B742 := B732.all k740 (fun x => (((ap24).symm) p1 rfl x))
          have B743 := B734.all k740 (fun i h x => ((ap102) i h x))
          have B744 := B735.all k740 (fun i h x => ((ap336) i h x))
          have B745 := B736.all k740 (fun i h x => ((ap707) i h x))
          have B746 := B721.all k740 (fun i h x => ((ap727) i h x))
          have K747 := K737.trans k740 (Grew.ok (S := fun _ => False) gr22 noB_le)
          refine wl_nil fun F748 hF749 => ?_
          have s750 : F748 2 = v := (hF749 2).trans s608
          have s751 : F748 6 = .pointer (some ⟨p1, 0, none⟩) := (hF749 6).trans s609
          have s752 : F748 7 = .pointer (some ⟨p17, 0, none⟩) := (hF749 7).trans s610
          have s753 : F748 8 = .int .i64 (((2 : Nat) : Int)) := (hF749 8).trans s611
          have s754 : F748 9 = .int .i64 ((((pn N 2) : Nat) : Int)) := (hF749 9).trans s612
          have s755 : F748 72 = undef := (hF749 72).trans s613
          have s756 : F748 10 = .int .i64 (((i : Nat) : Int)) := (hF749 10).trans s614
          clear hF749
          refine in_normal ?_
          refine then_normal ?_
          refine wq_region ?_
          refine wl_v (.int .i64 (((i : Nat) : Int))) rfl rfl (y_mov rfl s756 ⟨rfl, rfl⟩) ?_
          refine wl_v (.int .i64 (((i + 1 : Nat) : Int))) rfl rfl (y_add rfl rfl rfl (i64_n (by omega) (by omega)) ⟨rfl, rfl⟩) ?_
          refine wl_v (.int .i64 (((i + 1 : Nat) : Int))) rfl rfl (y_asg rfl rfl ⟨rfl, rfl⟩) ?_
          refine wl_nil fun F757 hF758 => ?_
          have s759 : F757 2 = v := (hF758 2).trans s750
          have s760 : F757 6 = .pointer (some ⟨p1, 0, none⟩) := (hF758 6).trans s751
          have s761 : F757 7 = .pointer (some ⟨p17, 0, none⟩) := (hF758 7).trans s752
          have s762 : F757 8 = .int .i64 (((2 : Nat) : Int)) := (hF758 8).trans s753
          have s763 : F757 9 = .int .i64 ((((pn N 2) : Nat) : Int)) := (hF758 9).trans s754
          have s764 : F757 72 = undef := (hF758 72).trans s755
          have s765 : F757 10 = .int .i64 (((i + 1 : Nat) : Int)) := (hF758 10).trans rfl
          clear hF758
          exact then_normal ⟨((pn N 2) - (i + 1)), by omega, i + 1, (v718), T723, by omega, rfl, s759, s760, s761, s762, s763, s764, s765, K747, B741, B742, B739, B743, B744, (by rw [smps_succ]; exact B746), gr724, ap725, ap726, ap727, ap728, ap729⟩
      · replace c595 := of_decide_eq_false c595
        refine wq_exit ?_
        refine then_exit ?_
        refine then_exit ?_
        have l766 : (pn N 2) = i := by omega
        subst l766
        refine in_here ?_
        refine in_normal ?_
        refine then_normal ?_
        refine wq_region ?_
        refine wl_v (.int .i64 (((2 : Nat) : Int))) rfl rfl (y_mov rfl s590 ⟨rfl, rfl⟩) ?_
        refine wl_v (.int .i64 (((3 : Nat) : Int))) rfl rfl (y_add rfl rfl rfl (i64_n (by omega) (by omega)) ⟨rfl, rfl⟩) ?_
        refine wl_v (.int .i64 (((3 : Nat) : Int))) rfl rfl (y_asg rfl rfl ⟨rfl, rfl⟩) ?_
        refine wl_nil fun F767 hF768 => ?_
        have s769 : F767 2 = v := (hF768 2).trans s587
        have s770 : F767 6 = .pointer (some ⟨p1, 0, none⟩) := (hF768 6).trans s588
        have s771 : F767 7 = .pointer (some ⟨p17, 0, none⟩) := (hF768 7).trans s589
        have s772 : F767 72 = undef := (hF768 72).trans s592
        have s773 : F767 8 = .int .i64 (((3 : Nat) : Int)) := (hF768 8).trans rfl
        clear hF768
        refine then_normal ?_
        refine wqr_step ?_
        refine wq_seq ?_
        refine wq_seq ?_
        refine wq_region ?_
        refine wl_v (.int .i64 (((3 : Nat) : Int))) rfl rfl (y_mov rfl s773 ⟨rfl, rfl⟩) ?_
        refine wl_v (.bool false) rfl rfl (y_lss rfl rfl rfl rfl ⟨rfl, rfl⟩) ?_
        refine wl_nil fun F774 hF775 => ?_
        have s776 : F774 2 = v := (hF775 2).trans s769
        have s777 : F774 6 = .pointer (some ⟨p1, 0, none⟩) := (hF775 6).trans s770
        have s778 : F774 7 = .pointer (some ⟨p17, 0, none⟩) := (hF775 7).trans s771
        have s779 : F774 72 = undef := (hF775 72).trans s772
        have s780 : F774 8 = .int .i64 (((3 : Nat) : Int)) := (hF775 8).trans s773
        have s781 : F774 24 = .bool false := (hF775 24).trans rfl
        clear hF775
        refine then_normal ?_
        refine wq_cond (t := false) s781 (fun e => by cases e) (fun _ => ?_)
        refine wq_exit ?_
        refine then_exit ?_
        refine then_exit ?_
        refine in_here ?_
        refine then_normal ?_
        refine wq_seq ?_
        refine wq_region ?_
        refine wl_v (.agg #[.int .i64 (((A : Nat) : Int)), .int .i64 (((B : Nat) : Int)), q0, q1, q2]) rfl rfl (y_load_stc stcT_frame rfl s778 B575 ⟨rfl, rfl⟩) ?_
        refine wl_store_stc (us := [.int .i64 (((A : Nat) : Int)), .int .i64 (((B : Nat) : Int)), q0, q1, q2]) stcT_frame rfl rfl rfl s777 rfl B574 rfl (oneI rfl (oneI rfl (oneI (B576).one (oneI (B577).one (oneI (B578).one oneN))))) fun w782 B783 k784 => ?_
        have B785 := B573.all k784 (fun i h x => (((ap7).symm) i h x))
        have B786 := B575.all k784 (fun x => ((ap24) p17 rfl x))
        have B787 := B576.all k784 (fun i h x => ((ap101) i h x))
        have B788 := B577.all k784 (fun i h x => ((ap335) i h x))
        have B789 := B578.all k784 (fun i h x => ((ap581) i h x))
        have K790 := K563.trans k784 (Grew.ok (S := fun _ => False) gr6 noB_le)
        refine wl_nil fun F791 hF792 => ?_
        have s793 : F791 6 = .pointer (some ⟨p1, 0, none⟩) := (hF792 6).trans s777
        have s794 : F791 72 = undef := (hF792 72).trans s779
        clear hF792
        refine then_normal ?_
        refine wq_ret ?_
        exact end_stc (vs := [.int .i64 (((A : Nat) : Int)), .int .i64 (((B : Nat) : Int)), q0, q1, q2]) stcT_frame s794 rfl rfl s793 B783 ⟨q0, T82, q1, T315, q2, T560, (by rw [hF]), K790, ⟨(by rw [hF]; exact B787), gr99⟩, ⟨(by rw [hF]; exact B788), gr333⟩, ⟨(by rw [hF]; exact B789), gr579⟩, (ap337).symm, (ap583).symm, (ap584).symm⟩
end Go.Proofs.Ytceoidglhakanaa
namespace Go.Proofs.Ytceoidglhakanaa

theorem FD.eq {a b : FD} (h1 : a.W = b.W) (h2 : a.H = b.H) (h3 : a.p0 = b.p0) (h4 : a.p1 = b.p1) (h5 : a.p2 = b.p2) : a = b := by
  cases a; cases b; simp only at *; subst h1; subst h2; subst h3; subst h4; subst h5; rfl
theorem ok_of {f g : FD} (h : okF f) (hw : g.W = f.W) (hh : g.H = f.H) (h0 : g.p0.length = f.p0.length) (h1 : g.p1.length = f.p1.length) (h2 : g.p2.length = f.p2.length) : okF g := by
  obtain ⟨a, b, c, d, e⟩ := h
  exact ⟨by rw [hw]; exact a, by rw [hh]; exact b, by rw [hw, hh, h0]; exact c, by rw [hw, hh, h1]; exact d, by rw [hw, hh, h2]; exact e⟩
theorem getD_set (l : List Nat) (i q x : Nat) : (l.set i x).getD q 0 = if i = q ∧ q < l.length then x else l.getD q 0 := by
  by_cases h : i = q
  · subst h
    by_cases hl : i < l.length
    · rw [if_pos ⟨rfl, hl⟩]; simp [List.getD, hl]
    · rw [if_neg (fun h => hl h.2)]; simp [List.getD, hl]
  · rw [if_neg (fun e => h e.1)]; simp [List.getD, List.getElem?_set_ne h]
structure Inside (f : FD) (k x y : Int) : Prop where
  ok : okF f
  k0 : 0 ≤ k
  k2 : k ≤ 2
  x0 : 0 ≤ x
  x1 : x + 4 ≤ (sizeF f k).1
  y0 : 0 ≤ y
  y1 : y + 4 ≤ (sizeF f k).2
def jAt (f : FD) (k x y : Int) (i : Nat) : Nat := ((y + ((i / 4 : Nat) : Int)) * (sizeF f k).1 + (x + ((i % 4 : Nat) : Int))).toNat
theorem Inside.within {f : FD} {k x y : Int} (h : Inside f k x y) (i : Nat) (hi : i < 16) : within (sizeF f k).1 (sizeF f k).2 (x + ((i % 4 : Nat) : Int)) (y + ((i / 4 : Nat) : Int)) := by
  have h1 := h.x0; have h2 := h.x1; have h3 := h.y0; have h4 := h.y1
  exact ⟨by omega, by omega, by omega, by omega⟩
theorem Inside.lt {f : FD} {k x y : Int} (h : Inside f k x y) (i : Nat) (hi : i < 16) : jAt f k x y i < (f.pl k).length := by
  have := within_cell (h.within i hi)
  unfold jAt; omega
theorem Inside.inj {f : FD} {k x y : Int} (h : Inside f k x y) (i i' : Nat) (hi : i < 16) (hi' : i' < 16) (e : jAt f k x y i = jAt f k x y i') : i = i' := by
  have w1 := within_cell (h.within i hi)
  have w2 := within_cell (h.within i' hi')
  have hx1 := h.x1; have hx0 := h.x0
  unfold jAt at e
  have e2 : (y + ((i / 4 : Nat) : Int)) * (sizeF f k).1 + (x + ((i % 4 : Nat) : Int)) = (y + ((i' / 4 : Nat) : Int)) * (sizeF f k).1 + (x + ((i' % 4 : Nat) : Int)) := by omega
  rw [Int.add_mul, Int.add_mul] at e2
  have hw : 4 ≤ (sizeF f k).1 := by omega
  generalize (sizeF f k).1 = w at *
  have hq : i / 4 = i' / 4 := by
    by_cases hlt : i / 4 < i' / 4
    · have : ((i / 4 : Nat) : Int) * w + w ≤ ((i' / 4 : Nat) : Int) * w := by
        have h5 : (((i / 4 : Nat) : Int) + 1) * w ≤ ((i' / 4 : Nat) : Int) * w := Int.mul_le_mul_of_nonneg_right (by omega) (by omega)
        rw [Int.add_mul, Int.one_mul] at h5; exact h5
      omega
    · by_cases hgt : i' / 4 < i / 4
      · have : ((i' / 4 : Nat) : Int) * w + w ≤ ((i / 4 : Nat) : Int) * w := by
          have h5 : (((i' / 4 : Nat) : Int) + 1) * w ≤ ((i / 4 : Nat) : Int) * w := Int.mul_le_mul_of_nonneg_right (by omega) (by omega)
          rw [Int.add_mul, Int.one_mul] at h5; exact h5
        omega
      · omega
  rw [hq] at e2
  omega
theorem setp_pl (f : FD) (p : Int) (j n : Nat) (hp : 0 ≤ p) (hp2 : p ≤ 2) : (f.setp p j n).pl p = (f.pl p).set j n ∧ ∀ q, 0 ≤ q → q ≤ 2 → q ≠ p → (f.setp p j n).pl q = f.pl q := by
  have h3 : p = 0 ∨ p = 1 ∨ p = 2 := by omega
  have hq3 : ∀ q : Int, 0 ≤ q → q ≤ 2 → q = 0 ∨ q = 1 ∨ q = 2 := by omega
  rcases h3 with rfl | rfl | rfl
  · refine ⟨rfl, fun q h1 h2 h3 => ?_⟩
    rcases hq3 q h1 h2 with rfl | rfl | rfl
    · exact absurd rfl h3
    · rfl
    · rfl
  · refine ⟨rfl, fun q h1 h2 h3 => ?_⟩
    rcases hq3 q h1 h2 with rfl | rfl | rfl
    · rfl
    · exact absurd rfl h3
    · rfl
  · refine ⟨rfl, fun q h1 h2 h3 => ?_⟩
    rcases hq3 q h1 h2 with rfl | rfl | rfl
    · rfl
    · rfl
    · exact absurd rfl h3
end Go.Proofs.Ytceoidglhakanaa
namespace Go.Proofs.Ytceoidglhakanaa

structure Bytes3 (f : FD) : Prop where
  b0 : ∀ x ∈ f.p0, x < 256
  b1 : ∀ x ∈ f.p1, x < 256
  b2 : ∀ x ∈ f.p2, x < 256
end Go.Proofs.Ytceoidglhakanaa
namespace Go.Proofs.Ytceoidglhakanaa

def newF (w h : Int) (s : Nat) : FD := if sideB w = true ∧ sideB h = true then ⟨w, h, List.replicate (w * h).toNat s, List.replicate (w * h / 4).toNat s, List.replicate (w * h / 4).toNat s⟩ else FD.none
def newE (w h : Int) : Int := if sideB w = true ∧ sideB h = true then 0 else 70
theorem newF_yes {w h : Int} (s : Nat) (hw : sideB w = true) (hh : sideB h = true) : newF w h s = ⟨w, h, List.replicate (w * h).toNat s, List.replicate (w * h / 4).toNat s, List.replicate (w * h / 4).toNat s⟩ := if_pos ⟨hw, hh⟩
theorem newF_no {w h : Int} (s : Nat) (hn : ¬ (sideB w = true ∧ sideB h = true)) : newF w h s = FD.none := if_neg hn
theorem newE_yes {w h : Int} (hw : sideB w = true) (hh : sideB h = true) : newE w h = 0 := if_pos ⟨hw, hh⟩
theorem newE_no {w h : Int} (hn : ¬ (sideB w = true ∧ sideB h = true)) : newE w h = 70 := if_neg hn
theorem new_ok {w h : Int} (s : Nat) (hw : sideB w = true) (hh : sideB h = true) : okF (newF w h s) := by
  rw [newF_yes s hw hh]
  have ha := area_bounds hw hh
  refine ⟨hw, hh, ?_, ?_, ?_⟩
  · simp only [List.length_replicate]; omega
  · simp only [List.length_replicate]; rw [tdiv4 (by omega)]; omega
  · simp only [List.length_replicate]; rw [tdiv4 (by omega)]; omega
end Go.Proofs.Ytceoidglhakanaa
namespace Go.Proofs.Ytceoidglhakanaa
open Go.RowKit

/-- A part of a slice of bytes: from l, up to h, its room up to m. -/
def subV (v : Value) (l h m : Nat) : Value := match v with
  | .slice a _ _ => .slice (if m = l then a else a.map (·.add l)) (h - l) (m - l)
  | _ => undef
def capV : Value → Nat
  | .slice _ _ c => c
  | _ => 0
theorem Byt.cap {w : World} {T : Nat → Prop} {v : Value} {l : List Nat} (h : Byt w T v l) : l.length ≤ capV v ∧ capV v ≤ maxLen := by
  obtain ⟨⟨a, cap, rfl, h1, h2, _⟩, _⟩ := h; exact ⟨h1, h2⟩
theorem Byt.sub {w : World} {T : Nat → Prop} {v : Value} {l : List Nat} (hb : Byt w T v l) {i j m : Nat} (h1 : i ≤ j) (h2 : j ≤ m) (h3 : j ≤ l.length) (h4 : m ≤ capV v) : Byt w T (subV v i j m) ((l.drop i).take (j - i)) := by
  have hc := hb.cap
  obtain ⟨hB, hL, hT⟩ := hb
  obtain ⟨a, cap, rfl, k1, k2, k3, k4, k5⟩ := hB
  have hB : BytesArg w (.slice a l.length cap) l := ⟨a, cap, rfl, k1, k2, k3, k4, k5⟩
  have hm : m ≤ cap := h4
  refine ⟨hB.cut i j (m - i) h1 h3 (by omega) (by omega) (if m = i then a else a.map (fun z : Addr => z.add i)) (fun hp => by rw [if_neg (by omega)]) (fun h0 => ?_), hL, fun hp a' n c e => ?_⟩
  · split at h0
    · omega
    · have : a = none := by cases a <;> simp_all
      have := k3 this; omega
  · have hlen : 0 < j - i := by
      have : ((l.drop i).take (j - i)).length = j - i := by simp; omega
      omega
    simp only [subV] at e
    rw [if_neg (by omega)] at e
    cases a with
    | none => simp at e
    | some a0 =>
      simp at e
      obtain ⟨e1, _, _⟩ := e
      have hblk : a'.block = a0.block := by rw [← e1]; unfold Addr.add; split <;> rfl
      rw [hblk]
      exact hT (by omega) a0 _ _ rfl
theorem sub_addr {w : World} {T : Nat → Prop} {v : Value} {l : List Nat} (hb : Byt w T v l) {i j m : Nat} (t : Nat) (h2 : j ≤ m) (h3 : j ≤ l.length) (ht : t < j - i) : bytAddr (subV v i j m) t = bytAddr v (i + t) := by
  obtain ⟨⟨a, cap, rfl, _, _, _, _, k5⟩, _⟩ := hb
  obtain ⟨b, off, rfl, _, _⟩ := k5 (by omega)
  simp only [subV, bytAddr]
  rw [if_neg (by omega)]
  simp [Addr.add_lit, Nat.add_assoc]
section
variable {ρ : Operand → Value} {o : Oper} {w : World} {R : Value → World → Prop}
theorem y_cut3 {x lo hi mx : Operand} {T : Nat → Prop} {v : Value} {l : List Nat} {kl kh km : IntKind} (i j m : Nat) {il ih im : Int} (ho : o.op = .slice 22 x (some lo) (some hi) (some mx)) (hx : ρ x = v) (hl : ρ lo = .int kl il) (hh : ρ hi = .int kh ih) (hm : ρ mx = .int km im) (e1 : il = (i : Int)) (e2 : ih = (j : Int)) (e3 : im = (m : Int)) (hb : Byt w T v l) (h1 : i ≤ j) (h2 : j ≤ m) (h3 : m ≤ l.length) (h : R (subV v i j m) w) : Yields Try.prog ρ o w R := by
  subst e1; subst e2; subst e3
  have hc := hb.cap
  obtain ⟨⟨a, cap, rfl, k1, _⟩, _⟩ := hb
  obtain ⟨i0, hi0, hz0, hz1, hz2⟩ := info_parts Try.info_u8
  have hmc : m ≤ cap := by omega
  refine y_val (v := subV (.slice a l.length cap) i j m) (w' := w) ?_ h
  have b1 : (Instr.sliceBounds true l.length cap (some (.int kl (i : Int))) (some (.int kh (j : Int))) (some (.int km (m : Int)))).run Try.prog w = .ok (i, j, m) w := by
    simp [Instr.sliceBounds, Instr.sliceBound, asIntOf, hmc, h1, h2]
  simp [execOp, ho, hx, hl, hh, hm, Instr.sliceAt, Instr.slice, run_underlying Try.underlying22, b1, sizeOf, typeInfo, hi0, hz1, subV]
theorem y_atS {x ix : Operand} {T : Nat → Prop} {v : Value} {l : List Nat} {k : IntKind} {i j m : Nat} (t : Nat) {it : Int} (ho : o.op = .indexAddr 22 x ix) (hx : ρ x = subV v i j m) (hi : ρ ix = .int k it) (hij : it = (t : Int)) (hb : Byt w T v l) (h1 : i ≤ j) (h2 : j ≤ m) (h3 : j ≤ l.length) (h4 : m ≤ capV v) (ht : t < j - i) (h : R (bytAddr v (i + t)) w) : Yields Try.prog ρ o w R := by
  have hl : ((l.drop i).take (j - i)).length = j - i := by simp; omega
  refine y_atB t ho hx hi hij (hb.sub h1 h2 h3 h4) (by rw [hl]; exact ht) ?_
  rw [sub_addr hb t h2 h3 ht]; exact h
theorem sub_len {w : World} {T : Nat → Prop} {v : Value} {l : List Nat} (hb : Byt w T v l) (i j m : Nat) : ∃ a, subV v i j m = .slice a (j - i) (m - i) := by
  obtain ⟨⟨a, cap, rfl, _⟩, _⟩ := hb
  exact ⟨_, rfl⟩
theorem y_lenS {c : Call} {x : Operand} {T : Nat → Prop} {v : Value} {l : List Nat} {i j m : Nat} (ho : o.op = .call c) (hc : c = { callee := .builtin .len, args := #[x], argTypes := #[22] }) (hx : ρ x = subV v i j m) (hb : Byt w T v l) (h : R (.int .i64 ((j - i : Nat) : Int)) w) : Yields Try.prog ρ o w R := by
  subst hc
  obtain ⟨a, e⟩ := sub_len hb i j m
  rw [e] at hx
  exact y_len ho rfl rfl rfl Try.underlying22 hx h
end
end Go.Proofs.Ytceoidglhakanaa
namespace Go.Proofs.Ytceoidglhakanaa
open Go.RowKit

section
variable {ρ : Operand → Value} {o : Oper} {w : World} {R : Value → World → Prop}
theorem y_ldPl {t : TypeId} {x : Operand} {p k : Nat} {vs : List Value} {a b c : Value} (ho : o.op = .load 23 x) (hx : ρ x = .pointer (some ⟨p, k, none⟩)) (hB : Stc w p t vs) (h0 : vs[k]? = some a) (h1 : vs[k + 1]? = some b) (h2 : vs[k + 2]? = some c) (h : R (.agg #[a, b, c]) w) : Yields Try.prog ρ o w R := by
  have hr : w.rangeAt p k [a, b, c] := by
    intro j v hj
    match j, hj with
    | 0, hj => obtain rfl : a = v := by simpa using hj
               exact hB.cell h0
    | 1, hj => obtain rfl : b = v := by simpa using hj
               exact hB.cell h1
    | 2, hj => obtain rfl : c = v := by simpa using hj
               exact hB.cell h2
    | n + 3, hj => simp at hj
  refine y_val (v := .agg #[a, b, c]) (w' := w) ?_ h
  simp only [execOp, ho, hx, Sem.run_bind, run_loadAt_mid w p k 23 [a, b, c] _ hr Try.underlying23 rfl (by kernel_rfl), Result.andThen_ok, Sem.run_pure]
theorem y_ixPl {x y : Operand} {k : IntKind} {cs : Array Value} {v : Value} (j : Nat) (ho : o.op = .index 23 x y) (hx : ρ x = .agg cs) (hy : ρ y = .int k (j : Int)) (hj : j < 3) (hv : cs[j]? = some v) (h : R v w) : Yields Try.prog ρ o w R := by
  have hs : (Try.prog.info? 22).map (·.size) = some 1 := by kernel_rfl
  cases hq : Try.prog.info? 22 with
  | none => simp [hq] at hs
  | some i =>
    have hs' : i.size = 1 := by simpa [hq] using hs
    have hp : (part 22 cs j).run Try.prog w = .ok v w := by simp [part, isAgg, run_underlying Try.underlying22, hv]
    have h1 : (0 : Int) ≤ (j : Int) := by omega
    have h2 : (j : Int) < 3 := by omega
    exact y_val (v := v) (w' := w) (by simp [execOp, ho, hx, hy, Instr.index, run_underlying Try.underlying23, asIntOf, sizeOf, typeInfo, hq, hs', hj, hp]) h
theorem y_cut2L {x lo : Operand} {T : Nat → Prop} {v : Value} {l : List Nat} {kl : IntKind} {i j m : Nat} (k : Nat) {il : Int} (ho : o.op = .slice 22 x (some lo) none none) (hx : ρ x = subV v i j m) (hl : ρ lo = .int kl il) (e1 : il = (k : Int)) (hb : Byt w T v l) (h1 : k ≤ j - i) (h : R (subV (subV v i j m) k (j - i) (m - i)) w) : Yields Try.prog ρ o w R := by
  subst e1
  obtain ⟨a, e⟩ := sub_len hb i j m
  obtain ⟨i0, hi0, hz0, hz1, hz2⟩ := info_parts Try.info_u8
  refine y_val (v := subV (subV v i j m) k (j - i) (m - i)) (w' := w) ?_ h
  rw [e] at hx ⊢
  have b1 : (Instr.sliceBounds true (j - i) (m - i) (some (.int kl (k : Int))) none none).run Try.prog w = .ok (k, j - i, m - i) w := by
    simp [Instr.sliceBounds, Instr.sliceBound, asIntOf, h1]
  simp [execOp, ho, hx, hl, Instr.sliceAt, Instr.slice, run_underlying Try.underlying22, b1, sizeOf, typeInfo, hi0, hz1, subV]
theorem y_cut2H {x hi : Operand} {T : Nat → Prop} {v : Value} {l : List Nat} {kl : IntKind} {i j m : Nat} (k : Nat) {il : Int} (ho : o.op = .slice 22 x none (some hi) none) (hx : ρ x = subV v i j m) (hl : ρ hi = .int kl il) (e1 : il = (k : Int)) (hb : Byt w T v l) (h1 : k ≤ m - i) (h : R (subV (subV v i j m) 0 k (m - i)) w) : Yields Try.prog ρ o w R := by
  subst e1
  obtain ⟨a, e⟩ := sub_len hb i j m
  obtain ⟨i0, hi0, hz0, hz1, hz2⟩ := info_parts Try.info_u8
  refine y_val (v := subV (subV v i j m) 0 k (m - i)) (w' := w) ?_ h
  rw [e] at hx ⊢
  have b1 : (Instr.sliceBounds true (j - i) (m - i) none (some (.int kl (k : Int))) none).run Try.prog w = .ok (0, k, m - i) w := by
    simp [Instr.sliceBounds, Instr.sliceBound, asIntOf, h1]
  simp [execOp, ho, hx, hl, Instr.sliceAt, Instr.slice, run_underlying Try.underlying22, b1, sizeOf, typeInfo, hi0, hz1, subV]
theorem y_cut3T {x hi mx : Operand} {T : Nat → Prop} {v : Value} {l : List Nat} {kh km : IntKind} (j m : Nat) {ih im : Int} (ho : o.op = .slice 22 x none (some hi) (some mx)) (hx : ρ x = v) (hh : ρ hi = .int kh ih) (hm : ρ mx = .int km im) (e2 : ih = (j : Int)) (e3 : im = (m : Int)) (hb : Byt w T v l) (h2 : j ≤ m) (h4 : m ≤ l.length) (h : R (subV v 0 j m) w) : Yields Try.prog ρ o w R := by
  subst e2; subst e3
  obtain ⟨⟨a, cap, rfl, k1, _⟩, _⟩ := hb
  obtain ⟨i0, hi0, hz0, hz1, hz2⟩ := info_parts Try.info_u8
  have hmc : m ≤ cap := by omega
  refine y_val (v := subV (.slice a l.length cap) 0 j m) (w' := w) ?_ h
  have b1 : (Instr.sliceBounds true l.length cap none (some (.int kh (j : Int))) (some (.int km (m : Int)))).run Try.prog w = .ok (0, j, m) w := by
    simp [Instr.sliceBounds, Instr.sliceBound, asIntOf, hmc, h2]
  simp [execOp, ho, hx, hh, hm, Instr.sliceAt, Instr.slice, run_underlying Try.underlying22, b1, sizeOf, typeInfo, hi0, hz1, subV]
end

/-- A part of bytes of one's own: where it lies. -/
def PartAt (x v : Value) (off n : Nat) : Prop := ∃ d cp, x = .slice d n cp ∧ (0 < n → ∀ g nn cc, v = .slice (some ⟨g, 0, none⟩) nn cc → d = some ⟨g, off, none⟩)
theorem part_sub {w : World} {T : Nat → Prop} {v : Value} {l : List Nat} (hb : Byt w T v l) {i j m : Nat} (h2 : j ≤ m) : PartAt (subV v i j m) v i (j - i) := by
  obtain ⟨⟨a, cap, rfl, k1, k2, k3, k4, k5⟩, k6⟩ := hb
  clear k3 k4 k5 k6
  refine ⟨_, _, rfl, fun hp g nn cc e => ?_⟩
  cases e
  rw [if_neg (by omega)]
  simp [Addr.add_lit]
theorem part_sub2 {w : World} {T : Nat → Prop} {v : Value} {l : List Nat} (hb : Byt w T v l) {i j m k q r : Nat} (h2 : j ≤ m) (h3 : q ≤ j - i) (hr : r = i + k) : PartAt (subV (subV v i j m) k q (m - i)) v r (q - k) := by
  subst hr
  obtain ⟨⟨a, cap, rfl, k1, k2, k3, k4, k5⟩, k6⟩ := hb
  clear k3 k4 k5 k6
  refine ⟨_, _, rfl, fun hp g nn cc e => ?_⟩
  cases e
  rw [if_neg (by omega), if_neg (by omega)]
  simp [Addr.add_lit]
section
variable {ro : Option Nat} {N : Nat} {Q : (Exit → (Nat → Value) → World → Prop)} {F : Nat → Value} {w : World} {o : Oper}
theorem run_copyM {ρ : Operand → Value} {c : Call} {x y : Operand} {T U : Nat → Prop} {v u : Value} {l m : List Nat} {off n : Nat} (ho : o.op = .call c) (hc : c = { callee := .builtin .copy, args := #[x, y], argTypes := #[22, 22] }) (hx : PartAt (ρ x) v off n) (hy : ρ y = u) (hv : Owb w T v l) (hu : Byt w U u m) (hoff : off + n ≤ l.length) :
    ∃ w', (execOp ρ o).run Try.prog w = .ok (.value (.int .i64 ((min n m.length : Nat) : Int))) w' ∧ Owb w' T v (l.take off ++ (m.take n ++ l.drop (off + min n m.length))) ∧ Kept T w w' := by
  subst hc
  have hsz : (Try.prog.info? 5).map (·.size) = some 1 := by
    obtain ⟨i0, hi0, hz0, hz1, hz2⟩ := info_parts Try.info_u8
    rw [hi0]; simp [hz1]
  have hlen : (l.take off ++ (m.take n ++ l.drop (off + min n m.length))).length = l.length := by simp; omega
  have hml : (m.take n).length = min n m.length := by simp
  have hall : ∀ y ∈ l.take off ++ (m.take n ++ l.drop (off + min n m.length)), y < 256 := by
    intro y hy
    rcases List.mem_append.1 hy with h' | h'
    · exact hv.lt256 y (List.mem_of_mem_take h')
    · rcases List.mem_append.1 h' with h' | h'
      · exact hu.lt256 y (List.mem_of_mem_take h')
      · exact hv.lt256 y (List.mem_of_mem_drop h')
  obtain ⟨d, cp, hxx, hd⟩ := hx
  by_cases h0 : min n m.length = 0
  · have h0' : min m.length n = 0 := by omega
    obtain ⟨⟨a, cap, rfl, k1, k2, k3, h256, hcu⟩, _⟩ := hu
    clear hcu hd
    have hm : m.take n = [] := List.eq_nil_of_length_eq_zero (by omega)
    have hrun := run_copy_none (P := Try.prog) w 22 22 o.type 5 d a n cp m.length cap Try.underlying22 hsz h0'
    refine ⟨w, by rw [h0]; simp [execOp, ho, resolve, invoke, builtin, hxx, hy, hrun, Result.andThen]; rfl, ?_, Kept.refl _ _⟩
    rw [h0, hm, List.nil_append, Nat.add_zero, List.take_append_drop]; exact hv
  · have hm0 : 0 < m.length := by omega
    have hn0 : 0 < n := by omega
    obtain ⟨⟨a, cap, rfl, k1, k2, k3, h256, hcu⟩, hu2⟩ := hu
    clear k3 hu2
    obtain ⟨b, o1, rfl, hb1, hcell⟩ := hcu hm0
    clear hcu
    replace hd := hd hn0
    rcases hv.1.1.2 with ⟨rfl, hz⟩ | ⟨g, cp2, cur, rfl, hb, hgg, hnc, hcm, hcs, htake⟩
    · omega
    · obtain rfl := hd g _ _ rfl
      have hbl : (byteVals (m.take n)).length = min n m.length := by rw [byteVals_length, hml]
      have hrun := run_copy_row (P := Try.prog) w 22 22 o.type 5 g off n cp ⟨b, o1, none⟩ m.length cap cur 5 (byteVals (m.take n)) Try.underlying22 hsz hgg (by rw [hbl]; show min n m.length = min m.length n; omega) (fun t u ht => by
        have hjl : t < (m.take n).length := by
          have := (List.getElem?_eq_some_iff.1 ht).1
          rwa [byteVals_length] at this
        rw [Addr.add_lit, hcell t (by omega), ← ht, byteVals_at (m.take n) t hjl]
        rw [show (m.take n).getD t 0 = m.getD t 0 by simp [List.getD, show t < n by omega]]) (by rw [hbl]; omega) (byteVals_one _)
      refine ⟨w.setRow g (cur.toList.take off ++ byteVals (m.take n) ++ cur.toList.drop (off + (byteVals (m.take n)).length)).toArray, by simp [execOp, ho, resolve, invoke, builtin, hxx, hy, hrun, Result.andThen, hbl]; rfl, ⟨⟨⟨?_, .inr ⟨g, cp2, _, ?_, hb, setRow_heap w g cur _ _ _ hgg, ?_, hcm, ?_, ?_⟩⟩, hall⟩, hv.2⟩, (Kept.refl T w).setRow g (fun _ => (hv.2 g).2 rfl) _⟩
      · rw [byteVals_length]; omega
      · rw [hlen]
      · omega
      · simp [byteVals_length]; omega
      · have htk : cur.toList.take l.length = byteVals l := by simpa using htake
        have hcl : cur.toList = byteVals l ++ cur.toList.drop l.length := by rw [← htk, List.take_append_drop]
        rw [hcl]
        generalize cur.toList.drop l.length = rest2
        have hli : off ≤ (byteVals l).length := by rw [byteVals_length]; omega
        have hlj : off + (byteVals (m.take n)).length ≤ (byteVals l).length := by rw [hbl, byteVals_length]; omega
        rw [List.take_append_of_le_length hli, List.drop_append_of_le_length hlj, hlen, Nat.mul_one]
        have e2 : byteVals (l.take off ++ (m.take n ++ l.drop (off + min n m.length))) = (byteVals l).take off ++ (byteVals (m.take n) ++ (byteVals l).drop (off + (byteVals (m.take n)).length)) := by
          rw [hbl]
          simp [byteVals, List.map_take, List.map_drop]
        rw [e2]
        have e3 : ((byteVals l).take off ++ byteVals (m.take n) ++ ((byteVals l).drop (off + (byteVals (m.take n)).length) ++ rest2)) = ((byteVals l).take off ++ (byteVals (m.take n) ++ (byteVals l).drop (off + (byteVals (m.take n)).length))) ++ rest2 := by simp
        rw [e3, List.take_append_of_le_length (by simp [byteVals_length]; omega)]
        rw [List.take_of_length_le (by simp [byteVals_length]; omega)]
theorem wl_copyM {ops : Array Oper} {rest : List Oper} {c : Call} {x y : Operand} {T U : Nat → Prop} {v u : Value} {l m : List Nat} {off n : Nat} {X : Value} (hg : o.guard = none) (hd : fits N o.dst = true) (ho : o.op = .call c) (hc : c = { callee := .builtin .copy, args := #[x, y], argTypes := #[22, 22] }) (hxX : ev (cutF N F) x = X) (hp : PartAt X v off n) (hy : ev (cutF N F) y = u) (hv : Owb w T v l) (hu : Byt w U u m) (hoff : off + n ≤ l.length)
    (h : ∀ w', Owb w' T v (l.take off ++ (m.take n ++ l.drop (off + min n m.length))) → Kept T w w' → wl ro Try.prog N ops Q rest (putF F o.dst (.int .i64 ((min n m.length : Nat) : Int))) w') : wl ro Try.prog N ops Q (o :: rest) F w := by
  obtain ⟨w', hr, h1, h2⟩ := run_copyM ho hc (by rw [hxX]; exact hp) hy hv hu hoff
  exact wl_op hg hd (y_val hr (h w' h1 h2))
end

theorem stcT_by4 : StcT Try.prog 74 4 := ⟨_, Try.underlying74, rfl, by kernel_rfl⟩
def arrV (p k : Nat) : Value := .slice (some (if 4 = k then ⟨p, 0, none⟩ else ⟨p, k, none⟩)) (4 - k) (4 - k)
theorem Stc.bytes {w : World} {p t : Nat} {a b c d : Nat} (h : Stc w p t [.int .u8 (a : Int), .int .u8 (b : Int), .int .u8 (c : Int), .int .u8 (d : Int)]) (ha : a < 256) (hb : b < 256) (hc : c < 256) (hd : d < 256) {k : Nat} (hk : k ≤ 4) : Byt w (onB p) (arrV p k) ([a, b, c, d].drop k) := by
  have hl : ([a, b, c, d].drop k).length = 4 - k := by simp
  refine ⟨⟨some (if 4 = k then ⟨p, 0, none⟩ else ⟨p, k, none⟩), 4 - k, by rw [hl]; rfl, by omega, Nat.le_trans (Nat.sub_le 4 k) (by decide), (fun e => by cases e), ?_, fun hp => ⟨p, k, by rw [if_neg (by omega)], h.lt, fun i hi => ?_⟩⟩, onB_live h.lt, fun _ a' n c' e => ?_⟩
  · intro x hx
    have := List.mem_of_mem_drop hx
    simp at this
    omega
  · rw [hl] at hi
    have hc := h.cell (i := k + i) (v := .int .u8 (([a, b, c, d].drop k).getD i 0 : Nat)) (by
      have : k = 0 ∨ k = 1 ∨ k = 2 ∨ k = 3 := by omega
      have hi4 : i = 0 ∨ i = 1 ∨ i = 2 ∨ i = 3 := by omega
      rcases this with rfl | rfl | rfl | rfl <;> rcases hi4 with rfl | rfl | rfl | rfl <;> first | rfl | omega)
    exact hc
  · unfold arrV at e
    simp only [Value.slice.injEq, Option.some.injEq] at e
    rw [← e.1]
    split <;> rfl
section
variable {ρ : Operand → Value} {o : Oper} {w : World} {R : Value → World → Prop}
theorem y_cutA {x lo : Operand} {p : Nat} {kl : IntKind} (k : Nat) {il : Int} (ho : o.op = .slice 74 x (some lo) none none) (hx : ρ x = .pointer (some ⟨p, 0, none⟩)) (hl : ρ lo = .int kl il) (e1 : il = (k : Int)) (hk : k ≤ 4) (h : R (arrV p k) w) : Yields Try.prog ρ o w R := by
  subst e1
  obtain ⟨i0, hi0, hz0, hz1, hz2⟩ := info_parts Try.info_u8
  refine y_val (v := arrV p k) (w' := w) ?_ h
  have b1 : (Instr.sliceBounds false 4 4 (some (.int kl (k : Int))) none none).run Try.prog w = .ok (k, 4, 4) w := by
    simp [Instr.sliceBounds, Instr.sliceBound, asIntOf, hk]
  simp [execOp, ho, hx, hl, Instr.sliceAt, Instr.sureAddr, run_underlying Try.underlying74, b1, sizeOf, typeInfo, hi0, hz1, arrV, Addr.add_lit]
end

theorem digits_bytes : ∀ (n t : Nat) (acc : List Nat), (∀ x ∈ acc, x < 256) → ∃ l : List Nat, Extern.BytealgMakeNoZero.digits n t (byteVals acc).toArray = (byteVals l).toArray ∧ (∀ x ∈ l, x < 256) ∧ l.length = acc.length + n
  | 0, _, acc, h => ⟨acc, rfl, h, rfl⟩
  | n + 1, t, acc, h => by
    obtain ⟨l, h1, h2, h3⟩ := digits_bytes n (t / 256) (acc ++ [t % 256]) (by
      intro x hx
      rcases List.mem_append.1 hx with hx | hx
      · exact h x hx
      · simp at hx; omega)
    refine ⟨l, ?_, h2, by simp at h3; omega⟩
    rw [Extern.BytealgMakeNoZero.digits, ← h1]
    congr 1
    simp [byteVals]
theorem run_makeNoZero_bytes (w : World) (n : Nat) (hn : n < 1099511627776) :
    ∃ cs : Array Value, (Extern.BytealgMakeNoZero.makeNoZero #[3] #[22] #[.int .i64 n]).run Try.prog w = .ok (.slice (some ⟨w.heap.size, 0, none⟩) n cs.size) (w.drew.drew.alloc (.cells cs 5)) ∧ n ≤ cs.size ∧ cs.size ≤ maxLen ∧ ∃ l : List Nat, cs = (byteVals l).toArray ∧ (∀ x ∈ l, x < 256) ∧ l.length = cs.size := by
  obtain ⟨cs, hr, h1, h2⟩ := Lib.run_makeNoZero (P := Try.prog) w #[3] 22 5 Try.underlying22 n (by omega)
  refine ⟨cs, hr, h1, h2 (Nat.le_trans (Nat.le_of_lt hn) (by decide)), ?_⟩
  have h0 : ¬ (n : Int) < 0 := by omega
  have h3 : ¬ (281474976710656 : Int) < (n : Int) := by omega
  have hd : Extern.BytealgMakeNoZero.makeNoZero #[3] #[22] #[.int .i64 n] = underlying 22 >>= _ := rfl
  have hr2 := hr
  rw [hd] at hr2
  simp [run_underlying Try.underlying22, h0, h3, Question.forced, newRow] at hr2
  have e := congrArg (fun W : World => W.heap[w.drew.drew.heap.size]?) hr2.2
  simp only [heap_alloc_new] at e
  have e2 := (Obj.cells.inj (Option.some.inj e)).1
  rw [hr2.1] at e2
  obtain ⟨T, hT⟩ : ∃ T, Extern.BytealgMakeNoZero.digits cs.size T #[] = cs := ⟨_, e2⟩
  obtain ⟨l, k1, k2, k3⟩ := digits_bytes cs.size T [] (by simp)
  exact ⟨l, hT.symm.trans k1, k2, by simpa using k3⟩
/-- bytes that are made, whatever they are: 'n' of them, of a row of their own. -/
theorem wl_mnz {ro : Option Nat} {N : Nat} {Q : (Exit → (Nat → Value) → World → Prop)} {F : Nat → Value} {w : World} {o : Oper} {ops : Array Oper} {rest : List Oper} {c : Call} {x : Operand} {f : FuncId} {fn : Func} {n : Nat} {i : Int} (hg : o.guard = none) (hd : fits N o.dst = true) (ho : o.op = .call c) (hc : c = { callee := .value (.func f), args := #[x], argTypes := #[3] }) (hx : ev (cutF N F) x = .int .i64 i) (hi : i = (n : Int)) (hn : n < 1099511627776)
    (hf : Try.prog.funcs[f]? = some fn) (hname : (fn.name == "runtime.NumGoroutine") = false) (hb : fn.body.isNone = true) (hnx : Extern.findNext fn = none) (he : Extern.find fn = some (Extern.BytealgMakeNoZero.makeNoZero #[3] #[22]))
    (h : ∀ v w' T (l : List Nat), Owb w' T v l → l.length = n → Grew w noB T → Kept (fun _ => False) w w' → wl ro Try.prog N ops Q rest (putF F o.dst v) w') : wl ro Try.prog N ops Q (o :: rest) F w := by
  subst hc; subst hi
  obtain ⟨cs, hrun, hle, hmx, hcap⟩ := run_makeNoZero_bytes w n hn
  obtain ⟨J, hJ, hJ2, hJ3⟩ := hcap
  have hcall : (callFunc f #[.int .i64 (n : Int)]).run Try.prog w = .ok (.value (.slice (some ⟨w.heap.size, 0, none⟩) n cs.size)) (w.drew.drew.alloc (.cells cs 5)) := by
    rw [run_callFunc_extern hf hname hb hnx he, hrun]; rfl
  have hsz : cs.size = J.length := by rw [hJ]; simp [byteVals_length]
  refine wl_op hg hd (y_val (v := .slice (some ⟨w.heap.size, 0, none⟩) n cs.size) (w' := w.drew.drew.alloc (.cells cs 5)) (by simp [execOp, ho, resolve, ev_func, Deferred.ofValue, invoke, hx, hcall]) (h _ _ _ (J.take n) (Owb.of ⟨⟨by rw [byteVals_length]; omega, .inr ⟨w.heap.size, cs.size, cs, by rw [List.length_take, Nat.min_eq_left (by omega)], Nat.zero_le _, ?_, by rw [List.length_take]; omega, hmx, by omega, ?_⟩⟩, fun y hy => hJ2 y (List.mem_of_mem_take hy)⟩) (by rw [List.length_take]; omega) (fun i hi => .inr ?_) (((Kept.refl _ w).drew.drew).alloc _)))
  · exact heap_alloc_new w.drew.drew _
  · rw [hJ, List.length_take, Nat.min_eq_left (by omega), Nat.mul_one]
    simp [byteVals, List.map_take]
  · cases hi; exact Nat.le_refl _
end Go.Proofs.Ytceoidglhakanaa
