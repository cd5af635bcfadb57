/- What PictureTells reaches of my texts, part 16. -/
import Derived.Test.YtknjpdcpmpfklaaGreatDoorPictureTellsO
set_option maxRecDepth 100000
set_option maxHeartbeats 4000000
set_option maxRecDepth 100000
namespace Go.Proofs.YtknjpdcpmpfklaaGreatDoor
open Go.RowKit
theorem pctells_walk (W H R B K Q D F : Int) (v : Value) (l : List Nat) (g : FD) (g0 g1 g2 : Value) (h : FD) (h0 h1 h2 : Value) (T_b : Nat → Prop) (T_g0 : Nat → Prop) (T_g1 : Nat → Prop) (T_g2 : Nat → Prop) (T_h0 : Nat → Prop) (T_h1 : Nat → Prop) (T_h2 : Nat → Prop) (w0 : World) (hA : ActsIn w0) (hO : ScanIn w0) (hs : StepsAt w0) (hw : Waves w0) (h_b : Byt w0 T_b v (l)) (h_g0 : Byt w0 T_g0 g0 ((g).p0)) (h_g1 : Byt w0 T_g1 g1 ((g).p1)) (h_g2 : Byt w0 T_g2 g2 ((g).p2)) (h_h0 : Byt w0 T_h0 h0 ((h).p0)) (h_h1 : Byt w0 T_h1 h1 ((h).p1)) (h_h2 : Byt w0 T_h2 h2 ((h).p2)) :
  Calls Tryz.prog 3 #[.agg #[.int .i64 (W), .int .i64 (H), .int .i64 (R), .int .i64 (B)], .agg #[.int .i64 (K), .int .i64 (Q), .int .i64 (D), .int .i64 (F)], v, .agg #[.int .i64 ((g).W), .int .i64 ((g).H), g0, g1, g2], .agg #[.int .i64 ((h).W), .int .i64 ((h).H), h0, h1, h2]] w0 fun e w' => e = .returned (.bool true) ∧ Kept (fun _ => False) w0 w' := by
 refine calls_wq (args := [.agg #[iv W, iv H, iv R, iv B], .agg #[iv K, iv Q, iv D, iv F], v, .agg #[iv (g.W), iv (g.H), g0, g1, g2], .agg #[iv (h.W), iv (h.H), h0, h1, h2]]) 121 Tryz.func3 rfl rfl (Nat.le_of_ble_eq_true rfl) ?_
 have K0 := Kept.refl (fun _ => False) w0
 have g_b := Grew.refl w0 T_b
 have g_g0 := Grew.refl w0 T_g0
 have g_g1 := Grew.refl w0 T_g1
 have g_g2 := Grew.refl w0 T_g2
 have g_h0 := Grew.refl w0 T_h0
 have g_h1 := Grew.refl w0 T_h1
 have g_h2 := Grew.refl w0 T_h2
 refine wq_seq (wq_region (wl_box_stc (vs := [iv W, iv H, iv R, iv B]) rfl rfl rfl rfl fun p1 w2 B4 g5 k3 => ?_))
 have B14 := h_b.all k3 Apart.none
 have B15 := h_g0.all k3 Apart.none
 have B16 := h_g1.all k3 Apart.none
 have B17 := h_g2.all k3 Apart.none
 have B18 := h_h0.all k3 Apart.none
 have B19 := h_h1.all k3 Apart.none
 have B20 := h_h2.all k3 Apart.none
 have K21 := K0.tr k3
 refine wl_box_stc (vs := [iv K, iv Q, iv D, iv F]) rfl rfl rfl rfl fun p22 w23 B25 g26 k24 => ?_
 have B36 := B14.all k24 Apart.none
 have B37 := B15.all k24 Apart.none
 have B38 := B16.all k24 Apart.none
 have B39 := B17.all k24 Apart.none
 have B40 := B18.all k24 Apart.none
 have B41 := B19.all k24 Apart.none
 have B42 := B20.all k24 Apart.none
 have B43 := B4.all k24 id
 have K44 := K21.tr k24
 refine wl_box_stc (vs := [iv (g.W), iv (g.H), g0, g1, g2]) rfl rfl rfl rfl fun p45 w46 B48 g49 k47 => ?_
 have B60 := B36.all k47 Apart.none
 have B61 := B37.all k47 Apart.none
 have B62 := B38.all k47 Apart.none
 have B63 := B39.all k47 Apart.none
 have B64 := B40.all k47 Apart.none
 have B65 := B41.all k47 Apart.none
 have B66 := B42.all k47 Apart.none
 have B67 := B43.all k47 id
 have B68 := B25.all k47 id
 have K69 := K44.tr k47
 refine wl_box_stc (vs := [iv (h.W), iv (h.H), h0, h1, h2]) rfl rfl rfl rfl fun p70 w71 B73 g74 k72 => ?_
 have B86 := B60.all k72 Apart.none
 have B87 := B61.all k72 Apart.none
 have B88 := B62.all k72 Apart.none
 have B89 := B63.all k72 Apart.none
 have B90 := B64.all k72 Apart.none
 have B91 := B65.all k72 Apart.none
 have B92 := B66.all k72 Apart.none
 have B93 := B67.all k72 id
 have B94 := B68.all k72 id
 have B95 := B48.all k72 id
 have K96 := K69.tr k72
 refine wl_v (.bool false) rfl rfl (y_asg rfl rfl rr) (wl_nil fun F97 hF98 => ?_)
 have s99 : F97 2 = v := (hF98 2).trans rfl
 have s100 : F97 121 = undef := (hF98 121).trans rfl
 have s101 : F97 5 = pt p1 0 := (hF98 5).trans rfl
 have s102 : F97 6 = pt p22 0 := (hF98 6).trans rfl
 have s103 : F97 8 = pt p45 0 := (hF98 8).trans rfl
 have s104 : F97 9 = pt p70 0 := (hF98 9).trans rfl
 clear hF98
 refine then_normal (wq_seq (wq_region (wl_cs rfl rfl rfl rfl rfl (fun _ _ => by kernel_rfl) vsN (pcawake_any   _ (hA.all K96) (hO.all K96) (hs.all K96) (hw.all K96)  ) fun w105 k106 => ?_)))
 have B107 := B86.all k106 Apart.none
 have B108 := B87.all k106 Apart.none
 have B109 := B88.all k106 Apart.none
 have B110 := B89.all k106 Apart.none
 have B111 := B90.all k106 Apart.none
 have B112 := B91.all k106 Apart.none
 have B113 := B92.all k106 Apart.none
 have B114 := B93.all k106 id
 have B115 := B94.all k106 id
 have B116 := B95.all k106 id
 have B117 := B73.all k106 id
 have K118 := K96.tr k106
 refine wl_v (.bool true) rfl rfl (y_asg rfl rfl rr) (wl_nil fun F119 hF120 => ?_)
 obtain ⟨s121, s122, s123, s124, s125, s126⟩ := t6 hF120 2 s99 121 s100 5 s101 6 s102 8 s103 9 s104
 have s127 : F119 11 = .bool true := (hF120 11).trans rfl
 clear hF120
 refine then_normal (wq_seq (wq_seq ?_))
 refine wq_cut (fun FF ww => FF 55 = .bool (decide (bigP W H ∨ 1000 < l.length ∨ fewF g = false ∨ fewF h = false)) ∧ FF 2 = v ∧ FF 5 = pt p1 0 ∧ FF 6 = pt p22 0 ∧ FF 8 = pt p45 0 ∧ FF 9 = pt p70 0 ∧ FF 11 = .bool true ∧ FF 121 = undef ∧ Kept (fun _ => False) w0 ww ∧ Byt ww T_b v l ∧ Byt ww T_g0 g0 (g.p0) ∧ Byt ww T_g1 g1 (g.p1) ∧ Byt ww T_g2 g2 (g.p2) ∧ Byt ww T_h0 h0 (h.p0) ∧ Byt ww T_h1 h1 (h.p1) ∧ Byt ww T_h2 h2 (h.p2) ∧ Stc ww p1 23 [iv W, iv H, iv R, iv B] ∧ Stc ww p22 25 [iv K, iv Q, iv D, iv F] ∧ Stc ww p45 29 [iv (g.W), iv (g.H), g0, g1, g2] ∧ Stc ww p70 29 [iv (h.W), iv (h.H), h0, h1, h2]) ?_ ?_
 ·skip
  by_cases d128 : 16 < W
  ·skip
   by_cases d129 : W ≤ 64
   ·skip
    refine wq_region (wl_v (pt p1 0) rfl rfl (y_fieldR (n := 1) rfl s123 Tryz.underlying23 rfl (by kernel_rfl) (by decide) rfl rr) (wl_v (iv W) rfl rfl (y_ld_stc rfl rfl Tryz.underlying3 B114 rfl rfl rr) (wl_v (.bool true) rfl rfl (y_gtr rfl rfl rfl (decide_eq_true d128) rr) (wl_v (.bool true) rfl rfl (y_mov rfl rfl rr) (wl_vw (pt p1 0) 3 true 26 rfl rfl rfl rfl rfl (y_fieldR (n := 1) rfl s123 Tryz.underlying23 rfl (by kernel_rfl) (by decide) rfl rr) (wl_vw (iv W) 3 true 26 rfl rfl rfl rfl rfl (y_ld_stc rfl rfl Tryz.underlying3 B114 rfl rfl rr) (wl_vw (.bool true) 3 true 26 rfl rfl rfl rfl rfl (y_leq rfl rfl rfl (decide_eq_true d129) rr) (wl_v (.bool true) rfl rfl (y_pickT rfl rfl rfl rr) (wl_v (.bool true) rfl rfl (y_mov rfl rfl rr) (wl_unless 8 false 31 rfl rfl rfl (Or.inl rfl) rfl (wl_unless 8 false 31 rfl rfl rfl (Or.inl rfl) rfl ?_)))))))))))
    refine wl_unless 8 false 31 rfl rfl rfl (Or.inl rfl) rfl (wl_unless 8 false 31 rfl rfl rfl (Or.inl rfl) rfl (wl_unless 12 true 35 rfl rfl rfl (Or.inr rfl) rfl (wl_unless 12 true 35 rfl rfl rfl (Or.inr rfl) rfl (wl_unless 12 true 35 rfl rfl rfl (Or.inr rfl) rfl (wl_unless 8 false 31 rfl rfl rfl (Or.inl rfl) rfl (wl_v (.bool true) rfl rfl (y_pickT rfl rfl rfl rr) (wl_v (.bool true) rfl rfl (y_mov rfl rfl rr) (wl_unless 18 false 41 rfl rfl rfl (Or.inl rfl) rfl (wl_unless 18 false 41 rfl rfl rfl (Or.inl rfl) rfl (wl_unless 18 false 41 rfl rfl rfl (Or.inl rfl) rfl (wl_v (.bool true) rfl rfl (y_pickT rfl rfl rfl rr) ?_)))))))))))
    refine wl_v (.bool true) rfl rfl (y_mov rfl rfl rr) (wl_unless 23 false 46 rfl rfl rfl (Or.inl rfl) rfl (wl_unless 23 false 46 rfl rfl rfl (Or.inl rfl) rfl (wl_unless 23 false 46 rfl rfl rfl (Or.inl rfl) rfl (wl_v (.bool true) rfl rfl (y_pickT rfl rfl rfl rr) (wl_v (.bool true) rfl rfl (y_mov rfl rfl rr) (wl_unless 28 false 51 rfl rfl rfl (Or.inl rfl) rfl (wl_unless 28 false 51 rfl rfl rfl (Or.inl rfl) rfl (wl_unless 28 false 51 rfl rfl rfl (Or.inl rfl) rfl (wl_v (.bool true) rfl rfl (y_pickT rfl rfl rfl rr) (wl_nil fun F130 hF131 => ?_))))))))))
    obtain ⟨s132, s133, s134, s135, s136, s137, s138⟩ := t7 hF131 2 s121 121 s122 5 s123 6 s124 8 s125 9 s126 11 s127
    have s139 : F130 55 = .bool true := (hF131 55).trans rfl
    clear hF131
    exact ⟨s139.trans (congrArg Value.bool (show true = decide (bigP W H ∨ 1000 < l.length ∨ fewF g = false ∨ fewF h = false) from (by rw [Bool.eq_iff_iff, decide_eq_true_iff]; unfold bigP; first | (simp [*]; done) | (simp [*]; omega) | (simp_all; done) | (simp_all; omega)))), s132, s134, s135, s136, s137, s138, s133, K118, B107, B108, B109, B110, B111, B112, B113, B114, B115, B116, B117⟩
   ·skip
    by_cases d140 : 16 < H
    ·skip
     by_cases d141 : H ≤ 64
     ·skip
      refine wq_region (wl_v (pt p1 0) rfl rfl (y_fieldR (n := 1) rfl s123 Tryz.underlying23 rfl (by kernel_rfl) (by decide) rfl rr) (wl_v (iv W) rfl rfl (y_ld_stc rfl rfl Tryz.underlying3 B114 rfl rfl rr) (wl_v (.bool true) rfl rfl (y_gtr rfl rfl rfl (decide_eq_true d128) rr) (wl_v (.bool true) rfl rfl (y_mov rfl rfl rr) (wl_vw (pt p1 0) 3 true 26 rfl rfl rfl rfl rfl (y_fieldR (n := 1) rfl s123 Tryz.underlying23 rfl (by kernel_rfl) (by decide) rfl rr) (wl_vw (iv W) 3 true 26 rfl rfl rfl rfl rfl (y_ld_stc rfl rfl Tryz.underlying3 B114 rfl rfl rr) (wl_vw (.bool false) 3 true 26 rfl rfl rfl rfl rfl (y_leq rfl rfl rfl (decide_eq_false d129) rr) (wl_v (.bool false) rfl rfl (y_pickT rfl rfl rfl rr) (wl_v (.bool false) rfl rfl (y_mov rfl rfl rr) (wl_vw (pt p1 1) 8 false 31 rfl rfl rfl rfl rfl (y_fieldR (n := 1) rfl s123 Tryz.underlying23 rfl (by kernel_rfl) (by decide) rfl rr) (wl_vw (iv H) 8 false 31 rfl rfl rfl rfl rfl (y_ld_stc rfl rfl Tryz.underlying3 B114 rfl rfl rr) ?_)))))))))))
      refine wl_vw (.bool true) 8 false 31 rfl rfl rfl rfl rfl (y_gtr rfl rfl rfl (decide_eq_true d140) rr) (wl_vw (.bool true) 8 false 31 rfl rfl rfl rfl rfl (y_mov rfl rfl rr) (wl_vw (pt p1 1) 12 true 35 rfl rfl rfl rfl rfl (y_fieldR (n := 1) rfl s123 Tryz.underlying23 rfl (by kernel_rfl) (by decide) rfl rr) (wl_vw (iv H) 12 true 35 rfl rfl rfl rfl rfl (y_ld_stc rfl rfl Tryz.underlying3 B114 rfl rfl rr) (wl_vw (.bool true) 12 true 35 rfl rfl rfl rfl rfl (y_leq rfl rfl rfl (decide_eq_true d141) rr) (wl_vw (.bool true) 8 false 31 rfl rfl rfl rfl rfl (y_pickT rfl rfl rfl rr) (wl_v (.bool true) rfl rfl (y_pickF rfl rfl rfl rr) (wl_v (.bool true) rfl rfl (y_mov rfl rfl rr) (wl_unless 18 false 41 rfl rfl rfl (Or.inl rfl) rfl (wl_unless 18 false 41 rfl rfl rfl (Or.inl rfl) rfl (wl_unless 18 false 41 rfl rfl rfl (Or.inl rfl) rfl (wl_v (.bool true) rfl rfl (y_pickT rfl rfl rfl rr) ?_)))))))))))
      refine wl_v (.bool true) rfl rfl (y_mov rfl rfl rr) (wl_unless 23 false 46 rfl rfl rfl (Or.inl rfl) rfl (wl_unless 23 false 46 rfl rfl rfl (Or.inl rfl) rfl (wl_unless 23 false 46 rfl rfl rfl (Or.inl rfl) rfl (wl_v (.bool true) rfl rfl (y_pickT rfl rfl rfl rr) (wl_v (.bool true) rfl rfl (y_mov rfl rfl rr) (wl_unless 28 false 51 rfl rfl rfl (Or.inl rfl) rfl (wl_unless 28 false 51 rfl rfl rfl (Or.inl rfl) rfl (wl_unless 28 false 51 rfl rfl rfl (Or.inl rfl) rfl (wl_v (.bool true) rfl rfl (y_pickT rfl rfl rfl rr) (wl_nil fun F142 hF143 => ?_))))))))))
      obtain ⟨s144, s145, s146, s147, s148, s149, s150⟩ := t7 hF143 2 s121 121 s122 5 s123 6 s124 8 s125 9 s126 11 s127
      have s151 : F142 55 = .bool true := (hF143 55).trans rfl
      clear hF143
      exact ⟨s151.trans (congrArg Value.bool (show true = decide (bigP W H ∨ 1000 < l.length ∨ fewF g = false ∨ fewF h = false) from (by rw [Bool.eq_iff_iff, decide_eq_true_iff]; unfold bigP; first | (simp [*]; done) | (simp [*]; omega) | (simp_all; done) | (simp_all; omega)))), s144, s146, s147, s148, s149, s150, s145, K118, B107, B108, B109, B110, B111, B112, B113, B114, B115, B116, B117⟩
     ·skip
      by_cases d152 : 1000 < ((l.length : Nat) : Int)
      ·skip
       refine wq_region (wl_v (pt p1 0) rfl rfl (y_fieldR (n := 1) rfl s123 Tryz.underlying23 rfl (by kernel_rfl) (by decide) rfl rr) (wl_v (iv W) rfl rfl (y_ld_stc rfl rfl Tryz.underlying3 B114 rfl rfl rr) (wl_v (.bool true) rfl rfl (y_gtr rfl rfl rfl (decide_eq_true d128) rr) (wl_v (.bool true) rfl rfl (y_mov rfl rfl rr) (wl_vw (pt p1 0) 3 true 26 rfl rfl rfl rfl rfl (y_fieldR (n := 1) rfl s123 Tryz.underlying23 rfl (by kernel_rfl) (by decide) rfl rr) (wl_vw (iv W) 3 true 26 rfl rfl rfl rfl rfl (y_ld_stc rfl rfl Tryz.underlying3 B114 rfl rfl rr) (wl_vw (.bool false) 3 true 26 rfl rfl rfl rfl rfl (y_leq rfl rfl rfl (decide_eq_false d129) rr) (wl_v (.bool false) rfl rfl (y_pickT rfl rfl rfl rr) (wl_v (.bool false) rfl rfl (y_mov rfl rfl rr) (wl_vw (pt p1 1) 8 false 31 rfl rfl rfl rfl rfl (y_fieldR (n := 1) rfl s123 Tryz.underlying23 rfl (by kernel_rfl) (by decide) rfl rr) (wl_vw (iv H) 8 false 31 rfl rfl rfl rfl rfl (y_ld_stc rfl rfl Tryz.underlying3 B114 rfl rfl rr) ?_)))))))))))
       refine wl_vw (.bool true) 8 false 31 rfl rfl rfl rfl rfl (y_gtr rfl rfl rfl (decide_eq_true d140) rr) (wl_vw (.bool true) 8 false 31 rfl rfl rfl rfl rfl (y_mov rfl rfl rr) (wl_vw (pt p1 1) 12 true 35 rfl rfl rfl rfl rfl (y_fieldR (n := 1) rfl s123 Tryz.underlying23 rfl (by kernel_rfl) (by decide) rfl rr) (wl_vw (iv H) 12 true 35 rfl rfl rfl rfl rfl (y_ld_stc rfl rfl Tryz.underlying3 B114 rfl rfl rr) (wl_vw (.bool false) 12 true 35 rfl rfl rfl rfl rfl (y_leq rfl rfl rfl (decide_eq_false d141) rr) (wl_vw (.bool false) 8 false 31 rfl rfl rfl rfl rfl (y_pickT rfl rfl rfl rr) (wl_v (.bool false) rfl rfl (y_pickF rfl rfl rfl rr) (wl_v (.bool false) rfl rfl (y_mov rfl rfl rr) (wl_vw v 18 false 41 rfl rfl rfl rfl rfl (y_mov rfl s121 rr) (wl_vw (iv ((l.length : Nat) : Int)) 18 false 41 rfl rfl rfl rfl rfl (y_lenV rfl rfl rfl B107 rr) (wl_vw (.bool true) 18 false 41 rfl rfl rfl rfl rfl (y_gtr rfl rfl rfl (decide_eq_true d152) rr) (wl_v (.bool true) rfl rfl (y_pickF rfl rfl rfl rr) ?_)))))))))))
       refine wl_v (.bool true) rfl rfl (y_mov rfl rfl rr) (wl_unless 23 false 46 rfl rfl rfl (Or.inl rfl) rfl (wl_unless 23 false 46 rfl rfl rfl (Or.inl rfl) rfl (wl_unless 23 false 46 rfl rfl rfl (Or.inl rfl) rfl (wl_v (.bool true) rfl rfl (y_pickT rfl rfl rfl rr) (wl_v (.bool true) rfl rfl (y_mov rfl rfl rr) (wl_unless 28 false 51 rfl rfl rfl (Or.inl rfl) rfl (wl_unless 28 false 51 rfl rfl rfl (Or.inl rfl) rfl (wl_unless 28 false 51 rfl rfl rfl (Or.inl rfl) rfl (wl_v (.bool true) rfl rfl (y_pickT rfl rfl rfl rr) (wl_nil fun F153 hF154 => ?_))))))))))
       obtain ⟨s155, s156, s157, s158, s159, s160, s161⟩ := t7 hF154 2 s121 121 s122 5 s123 6 s124 8 s125 9 s126 11 s127
       have s162 : F153 55 = .bool true := (hF154 55).trans rfl
       clear hF154
       exact ⟨s162.trans (congrArg Value.bool (show true = decide (bigP W H ∨ 1000 < l.length ∨ fewF g = false ∨ fewF h = false) from (by rw [Bool.eq_iff_iff, decide_eq_true_iff]; unfold bigP; first | (simp [*]; done) | (simp [*]; omega) | (simp_all; done) | (simp_all; omega)))), s155, s157, s158, s159, s160, s161, s156, K118, B107, B108, B109, B110, B111, B112, B113, B114, B115, B116, B117⟩
      ·skip
       rcases Bool.eq_false_or_eq_true (fewF g) with d163 | d163
       ·skip
        rcases Bool.eq_false_or_eq_true (fewF h) with d164 | d164
        ·skip
         refine wq_region (wl_v (pt p1 0) rfl rfl (y_fieldR (n := 1) rfl s123 Tryz.underlying23 rfl (by kernel_rfl) (by decide) rfl rr) (wl_v (iv W) rfl rfl (y_ld_stc rfl rfl Tryz.underlying3 B114 rfl rfl rr) (wl_v (.bool true) rfl rfl (y_gtr rfl rfl rfl (decide_eq_true d128) rr) (wl_v (.bool true) rfl rfl (y_mov rfl rfl rr) (wl_vw (pt p1 0) 3 true 26 rfl rfl rfl rfl rfl (y_fieldR (n := 1) rfl s123 Tryz.underlying23 rfl (by kernel_rfl) (by decide) rfl rr) (wl_vw (iv W) 3 true 26 rfl rfl rfl rfl rfl (y_ld_stc rfl rfl Tryz.underlying3 B114 rfl rfl rr) (wl_vw (.bool false) 3 true 26 rfl rfl rfl rfl rfl (y_leq rfl rfl rfl (decide_eq_false d129) rr) (wl_v (.bool false) rfl rfl (y_pickT rfl rfl rfl rr) (wl_v (.bool false) rfl rfl (y_mov rfl rfl rr) (wl_vw (pt p1 1) 8 false 31 rfl rfl rfl rfl rfl (y_fieldR (n := 1) rfl s123 Tryz.underlying23 rfl (by kernel_rfl) (by decide) rfl rr) (wl_vw (iv H) 8 false 31 rfl rfl rfl rfl rfl (y_ld_stc rfl rfl Tryz.underlying3 B114 rfl rfl rr) ?_)))))))))))
         refine wl_vw (.bool true) 8 false 31 rfl rfl rfl rfl rfl (y_gtr rfl rfl rfl (decide_eq_true d140) rr) (wl_vw (.bool true) 8 false 31 rfl rfl rfl rfl rfl (y_mov rfl rfl rr) (wl_vw (pt p1 1) 12 true 35 rfl rfl rfl rfl rfl (y_fieldR (n := 1) rfl s123 Tryz.underlying23 rfl (by kernel_rfl) (by decide) rfl rr) (wl_vw (iv H) 12 true 35 rfl rfl rfl rfl rfl (y_ld_stc rfl rfl Tryz.underlying3 B114 rfl rfl rr) (wl_vw (.bool false) 12 true 35 rfl rfl rfl rfl rfl (y_leq rfl rfl rfl (decide_eq_false d141) rr) (wl_vw (.bool false) 8 false 31 rfl rfl rfl rfl rfl (y_pickT rfl rfl rfl rr) (wl_v (.bool false) rfl rfl (y_pickF rfl rfl rfl rr) (wl_v (.bool false) rfl rfl (y_mov rfl rfl rr) (wl_vw v 18 false 41 rfl rfl rfl rfl rfl (y_mov rfl s121 rr) (wl_vw (iv ((l.length : Nat) : Int)) 18 false 41 rfl rfl rfl rfl rfl (y_lenV rfl rfl rfl B107 rr) (wl_vw (.bool false) 18 false 41 rfl rfl rfl rfl rfl (y_gtr rfl rfl rfl (decide_eq_false d152) rr) (wl_v (.bool false) rfl rfl (y_pickF rfl rfl rfl rr) ?_)))))))))))
         refine wl_v (.bool false) rfl rfl (y_mov rfl rfl rr) (wl_vw (.agg #[iv (g.W), iv (g.H), g0, g1, g2]) 23 false 46 rfl rfl rfl rfl rfl (y_load_stc stcT_frame rfl s125 B116 rr) (wl_callw (R := fun v_ w_ => v_ = .bool true ∧ Kept (fun _ => False) w105 w_) 23 false 46 rfl rfl rfl rfl rfl (y_cs rfl rfl rfl (fun _ _ => by kernel_rfl) (ev_func _) (vsC rfl vsN) (flaw_few g g0 g1 g2 T_g0 T_g1 T_g2 _  B108 B109 B110 ) (fun e_ w_ h_ => ⟨_, h_.1, (congrArg Value.bool d163), h_.2⟩)) ?_))
         rintro _ w165 ⟨rfl, k166⟩
         have B167 := B107.all k166 Apart.none
         have B168 := B108.all k166 Apart.none
         have B169 := B109.all k166 Apart.none
         have B170 := B110.all k166 Apart.none
         have B171 := B111.all k166 Apart.none
         have B172 := B112.all k166 Apart.none
         have B173 := B113.all k166 Apart.none
         have B174 := B114.all k166 id
         have B175 := B115.all k166 id
         have B176 := B116.all k166 id
         have B177 := B117.all k166 id
         have K178 := K118.tr k166
         refine wl_vw (.bool false) 23 false 46 rfl rfl rfl rfl rfl (y_not rfl rfl rfl rr) (wl_v (.bool false) rfl rfl (y_pickF rfl rfl rfl rr) (wl_v (.bool false) rfl rfl (y_mov rfl rfl rr) (wl_vw (.agg #[iv (h.W), iv (h.H), h0, h1, h2]) 28 false 51 rfl rfl rfl rfl rfl (y_load_stc stcT_frame rfl s126 B177 rr) (wl_callw (R := fun v_ w_ => v_ = .bool true ∧ Kept (fun _ => False) w165 w_) 28 false 51 rfl rfl rfl rfl rfl (y_cs rfl rfl rfl (fun _ _ => by kernel_rfl) (ev_func _) (vsC rfl vsN) (flaw_few h h0 h1 h2 T_h0 T_h1 T_h2 _  B171 B172 B173 ) (fun e_ w_ h_ => ⟨_, h_.1, (congrArg Value.bool d164), h_.2⟩)) ?_))))
         rintro _ w179 ⟨rfl, k180⟩
         have B181 := B167.all k180 Apart.none
         have B182 := B168.all k180 Apart.none
         have B183 := B169.all k180 Apart.none
         have B184 := B170.all k180 Apart.none
         have B185 := B171.all k180 Apart.none
         have B186 := B172.all k180 Apart.none
         have B187 := B173.all k180 Apart.none
         have B188 := B174.all k180 id
         have B189 := B175.all k180 id
         have B190 := B176.all k180 id
         have B191 := B177.all k180 id
         have K192 := K178.tr k180
         refine wl_vw (.bool false) 28 false 51 rfl rfl rfl rfl rfl (y_not rfl rfl rfl rr) (wl_v (.bool false) rfl rfl (y_pickF rfl rfl rfl rr) (wl_nil fun F193 hF194 => ?_))
         obtain ⟨s195, s196, s197, s198, s199, s200, s201⟩ := t7 hF194 2 s121 121 s122 5 s123 6 s124 8 s125 9 s126 11 s127
         have s202 : F193 55 = .bool false := (hF194 55).trans rfl
         clear hF194
         exact ⟨s202.trans (congrArg Value.bool (show false = decide (bigP W H ∨ 1000 < l.length ∨ fewF g = false ∨ fewF h = false) from (by rw [Bool.eq_iff_iff, decide_eq_true_iff]; unfold bigP; first | (simp [*]; done) | (simp [*]; omega) | (simp_all; done) | (simp_all; omega)))), s195, s197, s198, s199, s200, s201, s196, K192, B181, B182, B183, B184, B185, B186, B187, B188, B189, B190, B191⟩
        ·skip
         refine wq_region (wl_v (pt p1 0) rfl rfl (y_fieldR (n := 1) rfl s123 Tryz.underlying23 rfl (by kernel_rfl) (by decide) rfl rr) (wl_v (iv W) rfl rfl (y_ld_stc rfl rfl Tryz.underlying3 B114 rfl rfl rr) (wl_v (.bool true) rfl rfl (y_gtr rfl rfl rfl (decide_eq_true d128) rr) (wl_v (.bool true) rfl rfl (y_mov rfl rfl rr) (wl_vw (pt p1 0) 3 true 26 rfl rfl rfl rfl rfl (y_fieldR (n := 1) rfl s123 Tryz.underlying23 rfl (by kernel_rfl) (by decide) rfl rr) (wl_vw (iv W) 3 true 26 rfl rfl rfl rfl rfl (y_ld_stc rfl rfl Tryz.underlying3 B114 rfl rfl rr) (wl_vw (.bool false) 3 true 26 rfl rfl rfl rfl rfl (y_leq rfl rfl rfl (decide_eq_false d129) rr) (wl_v (.bool false) rfl rfl (y_pickT rfl rfl rfl rr) (wl_v (.bool false) rfl rfl (y_mov rfl rfl rr) (wl_vw (pt p1 1) 8 false 31 rfl rfl rfl rfl rfl (y_fieldR (n := 1) rfl s123 Tryz.underlying23 rfl (by kernel_rfl) (by decide) rfl rr) (wl_vw (iv H) 8 false 31 rfl rfl rfl rfl rfl (y_ld_stc rfl rfl Tryz.underlying3 B114 rfl rfl rr) ?_)))))))))))
         refine wl_vw (.bool true) 8 false 31 rfl rfl rfl rfl rfl (y_gtr rfl rfl rfl (decide_eq_true d140) rr) (wl_vw (.bool true) 8 false 31 rfl rfl rfl rfl rfl (y_mov rfl rfl rr) (wl_vw (pt p1 1) 12 true 35 rfl rfl rfl rfl rfl (y_fieldR (n := 1) rfl s123 Tryz.underlying23 rfl (by kernel_rfl) (by decide) rfl rr) (wl_vw (iv H) 12 true 35 rfl rfl rfl rfl rfl (y_ld_stc rfl rfl Tryz.underlying3 B114 rfl rfl rr) (wl_vw (.bool false) 12 true 35 rfl rfl rfl rfl rfl (y_leq rfl rfl rfl (decide_eq_false d141) rr) (wl_vw (.bool false) 8 false 31 rfl rfl rfl rfl rfl (y_pickT rfl rfl rfl rr) (wl_v (.bool false) rfl rfl (y_pickF rfl rfl rfl rr) (wl_v (.bool false) rfl rfl (y_mov rfl rfl rr) (wl_vw v 18 false 41 rfl rfl rfl rfl rfl (y_mov rfl s121 rr) (wl_vw (iv ((l.length : Nat) : Int)) 18 false 41 rfl rfl rfl rfl rfl (y_lenV rfl rfl rfl B107 rr) (wl_vw (.bool false) 18 false 41 rfl rfl rfl rfl rfl (y_gtr rfl rfl rfl (decide_eq_false d152) rr) (wl_v (.bool false) rfl rfl (y_pickF rfl rfl rfl rr) ?_)))))))))))
         refine wl_v (.bool false) rfl rfl (y_mov rfl rfl rr) (wl_vw (.agg #[iv (g.W), iv (g.H), g0, g1, g2]) 23 false 46 rfl rfl rfl rfl rfl (y_load_stc stcT_frame rfl s125 B116 rr) (wl_callw (R := fun v_ w_ => v_ = .bool true ∧ Kept (fun _ => False) w105 w_) 23 false 46 rfl rfl rfl rfl rfl (y_cs rfl rfl rfl (fun _ _ => by kernel_rfl) (ev_func _) (vsC rfl vsN) (flaw_few g g0 g1 g2 T_g0 T_g1 T_g2 _  B108 B109 B110 ) (fun e_ w_ h_ => ⟨_, h_.1, (congrArg Value.bool d163), h_.2⟩)) ?_))
         rintro _ w203 ⟨rfl, k204⟩
         have B205 := B107.all k204 Apart.none
         have B206 := B108.all k204 Apart.none
         have B207 := B109.all k204 Apart.none
         have B208 := B110.all k204 Apart.none
         have B209 := B111.all k204 Apart.none
         have B210 := B112.all k204 Apart.none
         have B211 := B113.all k204 Apart.none
         have B212 := B114.all k204 id
         have B213 := B115.all k204 id
         have B214 := B116.all k204 id
         have B215 := B117.all k204 id
         have K216 := K118.tr k204
         refine wl_vw (.bool false) 23 false 46 rfl rfl rfl rfl rfl (y_not rfl rfl rfl rr) (wl_v (.bool false) rfl rfl (y_pickF rfl rfl rfl rr) (wl_v (.bool false) rfl rfl (y_mov rfl rfl rr) (wl_vw (.agg #[iv (h.W), iv (h.H), h0, h1, h2]) 28 false 51 rfl rfl rfl rfl rfl (y_load_stc stcT_frame rfl s126 B215 rr) (wl_callw (R := fun v_ w_ => v_ = .bool false ∧ Kept (fun _ => False) w203 w_) 28 false 51 rfl rfl rfl rfl rfl (y_cs rfl rfl rfl (fun _ _ => by kernel_rfl) (ev_func _) (vsC rfl vsN) (flaw_few h h0 h1 h2 T_h0 T_h1 T_h2 _  B209 B210 B211 ) (fun e_ w_ h_ => ⟨_, h_.1, (congrArg Value.bool d164), h_.2⟩)) ?_))))
         rintro _ w217 ⟨rfl, k218⟩
         have B219 := B205.all k218 Apart.none
         have B220 := B206.all k218 Apart.none
         have B221 := B207.all k218 Apart.none
         have B222 := B208.all k218 Apart.none
         have B223 := B209.all k218 Apart.none
         have B224 := B210.all k218 Apart.none
         have B225 := B211.all k218 Apart.none
         have B226 := B212.all k218 id
         have B227 := B213.all k218 id
         have B228 := B214.all k218 id
         have B229 := B215.all k218 id
         have K230 := K216.tr k218
         refine wl_vw (.bool true) 28 false 51 rfl rfl rfl rfl rfl (y_not rfl rfl rfl rr) (wl_v (.bool true) rfl rfl (y_pickF rfl rfl rfl rr) (wl_nil fun F231 hF232 => ?_))
         obtain ⟨s233, s234, s235, s236, s237, s238, s239⟩ := t7 hF232 2 s121 121 s122 5 s123 6 s124 8 s125 9 s126 11 s127
         have s240 : F231 55 = .bool true := (hF232 55).trans rfl
         clear hF232
         exact ⟨s240.trans (congrArg Value.bool (show true = decide (bigP W H ∨ 1000 < l.length ∨ fewF g = false ∨ fewF h = false) from (by rw [Bool.eq_iff_iff, decide_eq_true_iff]; unfold bigP; first | (simp [*]; done) | (simp [*]; omega) | (simp_all; done) | (simp_all; omega)))), s233, s235, s236, s237, s238, s239, s234, K230, B219, B220, B221, B222, B223, B224, B225, B226, B227, B228, B229⟩
       ·skip
        refine wq_region (wl_v (pt p1 0) rfl rfl (y_fieldR (n := 1) rfl s123 Tryz.underlying23 rfl (by kernel_rfl) (by decide) rfl rr) (wl_v (iv W) rfl rfl (y_ld_stc rfl rfl Tryz.underlying3 B114 rfl rfl rr) (wl_v (.bool true) rfl rfl (y_gtr rfl rfl rfl (decide_eq_true d128) rr) (wl_v (.bool true) rfl rfl (y_mov rfl rfl rr) (wl_vw (pt p1 0) 3 true 26 rfl rfl rfl rfl rfl (y_fieldR (n := 1) rfl s123 Tryz.underlying23 rfl (by kernel_rfl) (by decide) rfl rr) (wl_vw (iv W) 3 true 26 rfl rfl rfl rfl rfl (y_ld_stc rfl rfl Tryz.underlying3 B114 rfl rfl rr) (wl_vw (.bool false) 3 true 26 rfl rfl rfl rfl rfl (y_leq rfl rfl rfl (decide_eq_false d129) rr) (wl_v (.bool false) rfl rfl (y_pickT rfl rfl rfl rr) (wl_v (.bool false) rfl rfl (y_mov rfl rfl rr) (wl_vw (pt p1 1) 8 false 31 rfl rfl rfl rfl rfl (y_fieldR (n := 1) rfl s123 Tryz.underlying23 rfl (by kernel_rfl) (by decide) rfl rr) (wl_vw (iv H) 8 false 31 rfl rfl rfl rfl rfl (y_ld_stc rfl rfl Tryz.underlying3 B114 rfl rfl rr) ?_)))))))))))
        refine wl_vw (.bool true) 8 false 31 rfl rfl rfl rfl rfl (y_gtr rfl rfl rfl (decide_eq_true d140) rr) (wl_vw (.bool true) 8 false 31 rfl rfl rfl rfl rfl (y_mov rfl rfl rr) (wl_vw (pt p1 1) 12 true 35 rfl rfl rfl rfl rfl (y_fieldR (n := 1) rfl s123 Tryz.underlying23 rfl (by kernel_rfl) (by decide) rfl rr) (wl_vw (iv H) 12 true 35 rfl rfl rfl rfl rfl (y_ld_stc rfl rfl Tryz.underlying3 B114 rfl rfl rr) (wl_vw (.bool false) 12 true 35 rfl rfl rfl rfl rfl (y_leq rfl rfl rfl (decide_eq_false d141) rr) (wl_vw (.bool false) 8 false 31 rfl rfl rfl rfl rfl (y_pickT rfl rfl rfl rr) (wl_v (.bool false) rfl rfl (y_pickF rfl rfl rfl rr) (wl_v (.bool false) rfl rfl (y_mov rfl rfl rr) (wl_vw v 18 false 41 rfl rfl rfl rfl rfl (y_mov rfl s121 rr) (wl_vw (iv ((l.length : Nat) : Int)) 18 false 41 rfl rfl rfl rfl rfl (y_lenV rfl rfl rfl B107 rr) (wl_vw (.bool false) 18 false 41 rfl rfl rfl rfl rfl (y_gtr rfl rfl rfl (decide_eq_false d152) rr) (wl_v (.bool false) rfl rfl (y_pickF rfl rfl rfl rr) ?_)))))))))))
        refine wl_v (.bool false) rfl rfl (y_mov rfl rfl rr) (wl_vw (.agg #[iv (g.W), iv (g.H), g0, g1, g2]) 23 false 46 rfl rfl rfl rfl rfl (y_load_stc stcT_frame rfl s125 B116 rr) (wl_callw (R := fun v_ w_ => v_ = .bool false ∧ Kept (fun _ => False) w105 w_) 23 false 46 rfl rfl rfl rfl rfl (y_cs rfl rfl rfl (fun _ _ => by kernel_rfl) (ev_func _) (vsC rfl vsN) (flaw_few g g0 g1 g2 T_g0 T_g1 T_g2 _  B108 B109 B110 ) (fun e_ w_ h_ => ⟨_, h_.1, (congrArg Value.bool d163), h_.2⟩)) ?_))
        rintro _ w241 ⟨rfl, k242⟩
        have B243 := B107.all k242 Apart.none
        have B244 := B108.all k242 Apart.none
        have B245 := B109.all k242 Apart.none
        have B246 := B110.all k242 Apart.none
        have B247 := B111.all k242 Apart.none
        have B248 := B112.all k242 Apart.none
        have B249 := B113.all k242 Apart.none
        have B250 := B114.all k242 id
        have B251 := B115.all k242 id
        have B252 := B116.all k242 id
        have B253 := B117.all k242 id
        have K254 := K118.tr k242
        refine wl_vw (.bool true) 23 false 46 rfl rfl rfl rfl rfl (y_not rfl rfl rfl rr) (wl_v (.bool true) rfl rfl (y_pickF rfl rfl rfl rr) (wl_v (.bool true) rfl rfl (y_mov rfl rfl rr) (wl_unless 28 false 51 rfl rfl rfl (Or.inl rfl) rfl (wl_unless 28 false 51 rfl rfl rfl (Or.inl rfl) rfl (wl_unless 28 false 51 rfl rfl rfl (Or.inl rfl) rfl (wl_v (.bool true) rfl rfl (y_pickT rfl rfl rfl rr) (wl_nil fun F255 hF256 => ?_)))))))
        obtain ⟨s257, s258, s259, s260, s261, s262, s263⟩ := t7 hF256 2 s121 121 s122 5 s123 6 s124 8 s125 9 s126 11 s127
        have s264 : F255 55 = .bool true := (hF256 55).trans rfl
        clear hF256
        exact ⟨s264.trans (congrArg Value.bool (show true = decide (bigP W H ∨ 1000 < l.length ∨ fewF g = false ∨ fewF h = false) from (by rw [Bool.eq_iff_iff, decide_eq_true_iff]; unfold bigP; first | (simp [*]; done) | (simp [*]; omega) | (simp_all; done) | (simp_all; omega)))), s257, s259, s260, s261, s262, s263, s258, K254, B243, B244, B245, B246, B247, B248, B249, B250, B251, B252, B253⟩
    ·skip
     by_cases d265 : 1000 < ((l.length : Nat) : Int)
     ·skip
      refine wq_region (wl_v (pt p1 0) rfl rfl (y_fieldR (n := 1) rfl s123 Tryz.underlying23 rfl (by kernel_rfl) (by decide) rfl rr) (wl_v (iv W) rfl rfl (y_ld_stc rfl rfl Tryz.underlying3 B114 rfl rfl rr) (wl_v (.bool true) rfl rfl (y_gtr rfl rfl rfl (decide_eq_true d128) rr) (wl_v (.bool true) rfl rfl (y_mov rfl rfl rr) (wl_vw (pt p1 0) 3 true 26 rfl rfl rfl rfl rfl (y_fieldR (n := 1) rfl s123 Tryz.underlying23 rfl (by kernel_rfl) (by decide) rfl rr) (wl_vw (iv W) 3 true 26 rfl rfl rfl rfl rfl (y_ld_stc rfl rfl Tryz.underlying3 B114 rfl rfl rr) (wl_vw (.bool false) 3 true 26 rfl rfl rfl rfl rfl (y_leq rfl rfl rfl (decide_eq_false d129) rr) (wl_v (.bool false) rfl rfl (y_pickT rfl rfl rfl rr) (wl_v (.bool false) rfl rfl (y_mov rfl rfl rr) (wl_vw (pt p1 1) 8 false 31 rfl rfl rfl rfl rfl (y_fieldR (n := 1) rfl s123 Tryz.underlying23 rfl (by kernel_rfl) (by decide) rfl rr) (wl_vw (iv H) 8 false 31 rfl rfl rfl rfl rfl (y_ld_stc rfl rfl Tryz.underlying3 B114 rfl rfl rr) ?_)))))))))))
      refine wl_vw (.bool false) 8 false 31 rfl rfl rfl rfl rfl (y_gtr rfl rfl rfl (decide_eq_false d140) rr) (wl_vw (.bool false) 8 false 31 rfl rfl rfl rfl rfl (y_mov rfl rfl rr) (wl_unless 12 true 35 rfl rfl rfl (Or.inl rfl) rfl (wl_unless 12 true 35 rfl rfl rfl (Or.inl rfl) rfl (wl_unless 12 true 35 rfl rfl rfl (Or.inl rfl) rfl (wl_vw (.bool false) 8 false 31 rfl rfl rfl rfl rfl (y_pickF rfl rfl rfl rr) (wl_v (.bool false) rfl rfl (y_pickF rfl rfl rfl rr) (wl_v (.bool false) rfl rfl (y_mov rfl rfl rr) (wl_vw v 18 false 41 rfl rfl rfl rfl rfl (y_mov rfl s121 rr) (wl_vw (iv ((l.length : Nat) : Int)) 18 false 41 rfl rfl rfl rfl rfl (y_lenV rfl rfl rfl B107 rr) (wl_vw (.bool true) 18 false 41 rfl rfl rfl rfl rfl (y_gtr rfl rfl rfl (decide_eq_true d265) rr) (wl_v (.bool true) rfl rfl (y_pickF rfl rfl rfl rr) ?_)))))))))))
      refine wl_v (.bool true) rfl rfl (y_mov rfl rfl rr) (wl_unless 23 false 46 rfl rfl rfl (Or.inl rfl) rfl (wl_unless 23 false 46 rfl rfl rfl (Or.inl rfl) rfl (wl_unless 23 false 46 rfl rfl rfl (Or.inl rfl) rfl (wl_v (.bool true) rfl rfl (y_pickT rfl rfl rfl rr) (wl_v (.bool true) rfl rfl (y_mov rfl rfl rr) (wl_unless 28 false 51 rfl rfl rfl (Or.inl rfl) rfl (wl_unless 28 false 51 rfl rfl rfl (Or.inl rfl) rfl (wl_unless 28 false 51 rfl rfl rfl (Or.inl rfl) rfl (wl_v (.bool true) rfl rfl (y_pickT rfl rfl rfl rr) (wl_nil fun F266 hF267 => ?_))))))))))
      obtain ⟨s268, s269, s270, s271, s272, s273, s274⟩ := t7 hF267 2 s121 121 s122 5 s123 6 s124 8 s125 9 s126 11 s127
      have s275 : F266 55 = .bool true := (hF267 55).trans rfl
      clear hF267
      exact ⟨s275.trans (congrArg Value.bool (show true = decide (bigP W H ∨ 1000 < l.length ∨ fewF g = false ∨ fewF h = false) from (by rw [Bool.eq_iff_iff, decide_eq_true_iff]; unfold bigP; first | (simp [*]; done) | (simp [*]; omega) | (simp_all; done) | (simp_all; omega)))), s268, s270, s271, s272, s273, s274, s269, K118, B107, B108, B109, B110, B111, B112, B113, B114, B115, B116, B117⟩
     ·skip
      rcases Bool.eq_false_or_eq_true (fewF g) with d276 | d276
      ·skip
       rcases Bool.eq_false_or_eq_true (fewF h) with d277 | d277
       ·skip
        refine wq_region (wl_v (pt p1 0) rfl rfl (y_fieldR (n := 1) rfl s123 Tryz.underlying23 rfl (by kernel_rfl) (by decide) rfl rr) (wl_v (iv W) rfl rfl (y_ld_stc rfl rfl Tryz.underlying3 B114 rfl rfl rr) (wl_v (.bool true) rfl rfl (y_gtr rfl rfl rfl (decide_eq_true d128) rr) (wl_v (.bool true) rfl rfl (y_mov rfl rfl rr) (wl_vw (pt p1 0) 3 true 26 rfl rfl rfl rfl rfl (y_fieldR (n := 1) rfl s123 Tryz.underlying23 rfl (by kernel_rfl) (by decide) rfl rr) (wl_vw (iv W) 3 true 26 rfl rfl rfl rfl rfl (y_ld_stc rfl rfl Tryz.underlying3 B114 rfl rfl rr) (wl_vw (.bool false) 3 true 26 rfl rfl rfl rfl rfl (y_leq rfl rfl rfl (decide_eq_false d129) rr) (wl_v (.bool false) rfl rfl (y_pickT rfl rfl rfl rr) (wl_v (.bool false) rfl rfl (y_mov rfl rfl rr) (wl_vw (pt p1 1) 8 false 31 rfl rfl rfl rfl rfl (y_fieldR (n := 1) rfl s123 Tryz.underlying23 rfl (by kernel_rfl) (by decide) rfl rr) (wl_vw (iv H) 8 false 31 rfl rfl rfl rfl rfl (y_ld_stc rfl rfl Tryz.underlying3 B114 rfl rfl rr) ?_)))))))))))
        refine wl_vw (.bool false) 8 false 31 rfl rfl rfl rfl rfl (y_gtr rfl rfl rfl (decide_eq_false d140) rr) (wl_vw (.bool false) 8 false 31 rfl rfl rfl rfl rfl (y_mov rfl rfl rr) (wl_unless 12 true 35 rfl rfl rfl (Or.inl rfl) rfl (wl_unless 12 true 35 rfl rfl rfl (Or.inl rfl) rfl (wl_unless 12 true 35 rfl rfl rfl (Or.inl rfl) rfl (wl_vw (.bool false) 8 false 31 rfl rfl rfl rfl rfl (y_pickF rfl rfl rfl rr) (wl_v (.bool false) rfl rfl (y_pickF rfl rfl rfl rr) (wl_v (.bool false) rfl rfl (y_mov rfl rfl rr) (wl_vw v 18 false 41 rfl rfl rfl rfl rfl (y_mov rfl s121 rr) (wl_vw (iv ((l.length : Nat) : Int)) 18 false 41 rfl rfl rfl rfl rfl (y_lenV rfl rfl rfl B107 rr) (wl_vw (.bool false) 18 false 41 rfl rfl rfl rfl rfl (y_gtr rfl rfl rfl (decide_eq_false d265) rr) (wl_v (.bool false) rfl rfl (y_pickF rfl rfl rfl rr) ?_)))))))))))
        refine wl_v (.bool false) rfl rfl (y_mov rfl rfl rr) (wl_vw (.agg #[iv (g.W), iv (g.H), g0, g1, g2]) 23 false 46 rfl rfl rfl rfl rfl (y_load_stc stcT_frame rfl s125 B116 rr) (wl_callw (R := fun v_ w_ => v_ = .bool true ∧ Kept (fun _ => False) w105 w_) 23 false 46 rfl rfl rfl rfl rfl (y_cs rfl rfl rfl (fun _ _ => by kernel_rfl) (ev_func _) (vsC rfl vsN) (flaw_few g g0 g1 g2 T_g0 T_g1 T_g2 _  B108 B109 B110 ) (fun e_ w_ h_ => ⟨_, h_.1, (congrArg Value.bool d276), h_.2⟩)) ?_))
        rintro _ w278 ⟨rfl, k279⟩
        have B280 := B107.all k279 Apart.none
        have B281 := B108.all k279 Apart.none
        have B282 := B109.all k279 Apart.none
        have B283 := B110.all k279 Apart.none
        have B284 := B111.all k279 Apart.none
        have B285 := B112.all k279 Apart.none
        have B286 := B113.all k279 Apart.none
        have B287 := B114.all k279 id
        have B288 := B115.all k279 id
        have B289 := B116.all k279 id
        have B290 := B117.all k279 id
        have K291 := K118.tr k279
        refine wl_vw (.bool false) 23 false 46 rfl rfl rfl rfl rfl (y_not rfl rfl rfl rr) (wl_v (.bool false) rfl rfl (y_pickF rfl rfl rfl rr) (wl_v (.bool false) rfl rfl (y_mov rfl rfl rr) (wl_vw (.agg #[iv (h.W), iv (h.H), h0, h1, h2]) 28 false 51 rfl rfl rfl rfl rfl (y_load_stc stcT_frame rfl s126 B290 rr) (wl_callw (R := fun v_ w_ => v_ = .bool true ∧ Kept (fun _ => False) w278 w_) 28 false 51 rfl rfl rfl rfl rfl (y_cs rfl rfl rfl (fun _ _ => by kernel_rfl) (ev_func _) (vsC rfl vsN) (flaw_few h h0 h1 h2 T_h0 T_h1 T_h2 _  B284 B285 B286 ) (fun e_ w_ h_ => ⟨_, h_.1, (congrArg Value.bool d277), h_.2⟩)) ?_))))
        rintro _ w292 ⟨rfl, k293⟩
        have B294 := B280.all k293 Apart.none
        have B295 := B281.all k293 Apart.none
        have B296 := B282.all k293 Apart.none
        have B297 := B283.all k293 Apart.none
        have B298 := B284.all k293 Apart.none
        have B299 := B285.all k293 Apart.none
        have B300 := B286.all k293 Apart.none
        have B301 := B287.all k293 id
        have B302 := B288.all k293 id
        have B303 := B289.all k293 id
        have B304 := B290.all k293 id
        have K305 := K291.tr k293
        refine wl_vw (.bool false) 28 false 51 rfl rfl rfl rfl rfl (y_not rfl rfl rfl rr) (wl_v (.bool false) rfl rfl (y_pickF rfl rfl rfl rr) (wl_nil fun F306 hF307 => ?_))
        obtain ⟨s308, s309, s310, s311, s312, s313, s314⟩ := t7 hF307 2 s121 121 s122 5 s123 6 s124 8 s125 9 s126 11 s127
        have s315 : F306 55 = .bool false := (hF307 55).trans rfl
        clear hF307
        exact ⟨s315.trans (congrArg Value.bool (show false = decide (bigP W H ∨ 1000 < l.length ∨ fewF g = false ∨ fewF h = false) from (by rw [Bool.eq_iff_iff, decide_eq_true_iff]; unfold bigP; first | (simp [*]; done) | (simp [*]; omega) | (simp_all; done) | (simp_all; omega)))), s308, s310, s311, s312, s313, s314, s309, K305, B294, B295, B296, B297, B298, B299, B300, B301, B302, B303, B304⟩
       ·skip
        refine wq_region (wl_v (pt p1 0) rfl rfl (y_fieldR (n := 1) rfl s123 Tryz.underlying23 rfl (by kernel_rfl) (by decide) rfl rr) (wl_v (iv W) rfl rfl (y_ld_stc rfl rfl Tryz.underlying3 B114 rfl rfl rr) (wl_v (.bool true) rfl rfl (y_gtr rfl rfl rfl (decide_eq_true d128) rr) (wl_v (.bool true) rfl rfl (y_mov rfl rfl rr) (wl_vw (pt p1 0) 3 true 26 rfl rfl rfl rfl rfl (y_fieldR (n := 1) rfl s123 Tryz.underlying23 rfl (by kernel_rfl) (by decide) rfl rr) (wl_vw (iv W) 3 true 26 rfl rfl rfl rfl rfl (y_ld_stc rfl rfl Tryz.underlying3 B114 rfl rfl rr) (wl_vw (.bool false) 3 true 26 rfl rfl rfl rfl rfl (y_leq rfl rfl rfl (decide_eq_false d129) rr) (wl_v (.bool false) rfl rfl (y_pickT rfl rfl rfl rr) (wl_v (.bool false) rfl rfl (y_mov rfl rfl rr) (wl_vw (pt p1 1) 8 false 31 rfl rfl rfl rfl rfl (y_fieldR (n := 1) rfl s123 Tryz.underlying23 rfl (by kernel_rfl) (by decide) rfl rr) (wl_vw (iv H) 8 false 31 rfl rfl rfl rfl rfl (y_ld_stc rfl rfl Tryz.underlying3 B114 rfl rfl rr) ?_)))))))))))
        refine wl_vw (.bool false) 8 false 31 rfl rfl rfl rfl rfl (y_gtr rfl rfl rfl (decide_eq_false d140) rr) (wl_vw (.bool false) 8 false 31 rfl rfl rfl rfl rfl (y_mov rfl rfl rr) (wl_unless 12 true 35 rfl rfl rfl (Or.inl rfl) rfl (wl_unless 12 true 35 rfl rfl rfl (Or.inl rfl) rfl (wl_unless 12 true 35 rfl rfl rfl (Or.inl rfl) rfl (wl_vw (.bool false) 8 false 31 rfl rfl rfl rfl rfl (y_pickF rfl rfl rfl rr) (wl_v (.bool false) rfl rfl (y_pickF rfl rfl rfl rr) (wl_v (.bool false) rfl rfl (y_mov rfl rfl rr) (wl_vw v 18 false 41 rfl rfl rfl rfl rfl (y_mov rfl s121 rr) (wl_vw (iv ((l.length : Nat) : Int)) 18 false 41 rfl rfl rfl rfl rfl (y_lenV rfl rfl rfl B107 rr) (wl_vw (.bool false) 18 false 41 rfl rfl rfl rfl rfl (y_gtr rfl rfl rfl (decide_eq_false d265) rr) (wl_v (.bool false) rfl rfl (y_pickF rfl rfl rfl rr) ?_)))))))))))
        refine wl_v (.bool false) rfl rfl (y_mov rfl rfl rr) (wl_vw (.agg #[iv (g.W), iv (g.H), g0, g1, g2]) 23 false 46 rfl rfl rfl rfl rfl (y_load_stc stcT_frame rfl s125 B116 rr) (wl_callw (R := fun v_ w_ => v_ = .bool true ∧ Kept (fun _ => False) w105 w_) 23 false 46 rfl rfl rfl rfl rfl (y_cs rfl rfl rfl (fun _ _ => by kernel_rfl) (ev_func _) (vsC rfl vsN) (flaw_few g g0 g1 g2 T_g0 T_g1 T_g2 _  B108 B109 B110 ) (fun e_ w_ h_ => ⟨_, h_.1, (congrArg Value.bool d276), h_.2⟩)) ?_))
        rintro _ w316 ⟨rfl, k317⟩
        have B318 := B107.all k317 Apart.none
        have B319 := B108.all k317 Apart.none
        have B320 := B109.all k317 Apart.none
        have B321 := B110.all k317 Apart.none
        have B322 := B111.all k317 Apart.none
        have B323 := B112.all k317 Apart.none
        have B324 := B113.all k317 Apart.none
        have B325 := B114.all k317 id
        have B326 := B115.all k317 id
        have B327 := B116.all k317 id
        have B328 := B117.all k317 id
        have K329 := K118.tr k317
        refine wl_vw (.bool false) 23 false 46 rfl rfl rfl rfl rfl (y_not rfl rfl rfl rr) (wl_v (.bool false) rfl rfl (y_pickF rfl rfl rfl rr) (wl_v (.bool false) rfl rfl (y_mov rfl rfl rr) (wl_vw (.agg #[iv (h.W), iv (h.H), h0, h1, h2]) 28 false 51 rfl rfl rfl rfl rfl (y_load_stc stcT_frame rfl s126 B328 rr) (wl_callw (R := fun v_ w_ => v_ = .bool false ∧ Kept (fun _ => False) w316 w_) 28 false 51 rfl rfl rfl rfl rfl (y_cs rfl rfl rfl (fun _ _ => by kernel_rfl) (ev_func _) (vsC rfl vsN) (flaw_few h h0 h1 h2 T_h0 T_h1 T_h2 _  B322 B323 B324 ) (fun e_ w_ h_ => ⟨_, h_.1, (congrArg Value.bool d277), h_.2⟩)) ?_))))
        rintro _ w330 ⟨rfl, k331⟩
        have B332 := B318.all k331 Apart.none
        have B333 := B319.all k331 Apart.none
        have B334 := B320.all k331 Apart.none
        have B335 := B321.all k331 Apart.none
        have B336 := B322.all k331 Apart.none
        have B337 := B323.all k331 Apart.none
        have B338 := B324.all k331 Apart.none
        have B339 := B325.all k331 id
        have B340 := B326.all k331 id
        have B341 := B327.all k331 id
        have B342 := B328.all k331 id
        have K343 := K329.tr k331
        refine wl_vw (.bool true) 28 false 51 rfl rfl rfl rfl rfl (y_not rfl rfl rfl rr) (wl_v (.bool true) rfl rfl (y_pickF rfl rfl rfl rr) (wl_nil fun F344 hF345 => ?_))
        obtain ⟨s346, s347, s348, s349, s350, s351, s352⟩ := t7 hF345 2 s121 121 s122 5 s123 6 s124 8 s125 9 s126 11 s127
        have s353 : F344 55 = .bool true := (hF345 55).trans rfl
        clear hF345
        exact ⟨s353.trans (congrArg Value.bool (show true = decide (bigP W H ∨ 1000 < l.length ∨ fewF g = false ∨ fewF h = false) from (by rw [Bool.eq_iff_iff, decide_eq_true_iff]; unfold bigP; first | (simp [*]; done) | (simp [*]; omega) | (simp_all; done) | (simp_all; omega)))), s346, s348, s349, s350, s351, s352, s347, K343, B332, B333, B334, B335, B336, B337, B338, B339, B340, B341, B342⟩
      ·skip
       refine wq_region (wl_v (pt p1 0) rfl rfl (y_fieldR (n := 1) rfl s123 Tryz.underlying23 rfl (by kernel_rfl) (by decide) rfl rr) (wl_v (iv W) rfl rfl (y_ld_stc rfl rfl Tryz.underlying3 B114 rfl rfl rr) (wl_v (.bool true) rfl rfl (y_gtr rfl rfl rfl (decide_eq_true d128) rr) (wl_v (.bool true) rfl rfl (y_mov rfl rfl rr) (wl_vw (pt p1 0) 3 true 26 rfl rfl rfl rfl rfl (y_fieldR (n := 1) rfl s123 Tryz.underlying23 rfl (by kernel_rfl) (by decide) rfl rr) (wl_vw (iv W) 3 true 26 rfl rfl rfl rfl rfl (y_ld_stc rfl rfl Tryz.underlying3 B114 rfl rfl rr) (wl_vw (.bool false) 3 true 26 rfl rfl rfl rfl rfl (y_leq rfl rfl rfl (decide_eq_false d129) rr) (wl_v (.bool false) rfl rfl (y_pickT rfl rfl rfl rr) (wl_v (.bool false) rfl rfl (y_mov rfl rfl rr) (wl_vw (pt p1 1) 8 false 31 rfl rfl rfl rfl rfl (y_fieldR (n := 1) rfl s123 Tryz.underlying23 rfl (by kernel_rfl) (by decide) rfl rr) (wl_vw (iv H) 8 false 31 rfl rfl rfl rfl rfl (y_ld_stc rfl rfl Tryz.underlying3 B114 rfl rfl rr) ?_)))))))))))
       refine wl_vw (.bool false) 8 false 31 rfl rfl rfl rfl rfl (y_gtr rfl rfl rfl (decide_eq_false d140) rr) (wl_vw (.bool false) 8 false 31 rfl rfl rfl rfl rfl (y_mov rfl rfl rr) (wl_unless 12 true 35 rfl rfl rfl (Or.inl rfl) rfl (wl_unless 12 true 35 rfl rfl rfl (Or.inl rfl) rfl (wl_unless 12 true 35 rfl rfl rfl (Or.inl rfl) rfl (wl_vw (.bool false) 8 false 31 rfl rfl rfl rfl rfl (y_pickF rfl rfl rfl rr) (wl_v (.bool false) rfl rfl (y_pickF rfl rfl rfl rr) (wl_v (.bool false) rfl rfl (y_mov rfl rfl rr) (wl_vw v 18 false 41 rfl rfl rfl rfl rfl (y_mov rfl s121 rr) (wl_vw (iv ((l.length : Nat) : Int)) 18 false 41 rfl rfl rfl rfl rfl (y_lenV rfl rfl rfl B107 rr) (wl_vw (.bool false) 18 false 41 rfl rfl rfl rfl rfl (y_gtr rfl rfl rfl (decide_eq_false d265) rr) (wl_v (.bool false) rfl rfl (y_pickF rfl rfl rfl rr) ?_)))))))))))
       refine wl_v (.bool false) rfl rfl (y_mov rfl rfl rr) (wl_vw (.agg #[iv (g.W), iv (g.H), g0, g1, g2]) 23 false 46 rfl rfl rfl rfl rfl (y_load_stc stcT_frame rfl s125 B116 rr) (wl_callw (R := fun v_ w_ => v_ = .bool false ∧ Kept (fun _ => False) w105 w_) 23 false 46 rfl rfl rfl rfl rfl (y_cs rfl rfl rfl (fun _ _ => by kernel_rfl) (ev_func _) (vsC rfl vsN) (flaw_few g g0 g1 g2 T_g0 T_g1 T_g2 _  B108 B109 B110 ) (fun e_ w_ h_ => ⟨_, h_.1, (congrArg Value.bool d276), h_.2⟩)) ?_))
       rintro _ w354 ⟨rfl, k355⟩
       have B356 := B107.all k355 Apart.none
       have B357 := B108.all k355 Apart.none
       have B358 := B109.all k355 Apart.none
       have B359 := B110.all k355 Apart.none
       have B360 := B111.all k355 Apart.none
       have B361 := B112.all k355 Apart.none
       have B362 := B113.all k355 Apart.none
       have B363 := B114.all k355 id
       have B364 := B115.all k355 id
       have B365 := B116.all k355 id
       have B366 := B117.all k355 id
       have K367 := K118.tr k355
       refine wl_vw (.bool true) 23 false 46 rfl rfl rfl rfl rfl (y_not rfl rfl rfl rr) (wl_v (.bool true) rfl rfl (y_pickF rfl rfl rfl rr) (wl_v (.bool true) rfl rfl (y_mov rfl rfl rr) (wl_unless 28 false 51 rfl rfl rfl (Or.inl rfl) rfl (wl_unless 28 false 51 rfl rfl rfl (Or.inl rfl) rfl (wl_unless 28 false 51 rfl rfl rfl (Or.inl rfl) rfl (wl_v (.bool true) rfl rfl (y_pickT rfl rfl rfl rr) (wl_nil fun F368 hF369 => ?_)))))))
       obtain ⟨s370, s371, s372, s373, s374, s375, s376⟩ := t7 hF369 2 s121 121 s122 5 s123 6 s124 8 s125 9 s126 11 s127
       have s377 : F368 55 = .bool true := (hF369 55).trans rfl
       clear hF369
       exact ⟨s377.trans (congrArg Value.bool (show true = decide (bigP W H ∨ 1000 < l.length ∨ fewF g = false ∨ fewF h = false) from (by rw [Bool.eq_iff_iff, decide_eq_true_iff]; unfold bigP; first | (simp [*]; done) | (simp [*]; omega) | (simp_all; done) | (simp_all; omega)))), s370, s372, s373, s374, s375, s376, s371, K367, B356, B357, B358, B359, B360, B361, B362, B363, B364, B365, B366⟩
  ·skip
   by_cases d378 : 16 < H
   ·skip
    by_cases d379 : H ≤ 64
    ·skip
     refine wq_region (wl_v (pt p1 0) rfl rfl (y_fieldR (n := 1) rfl s123 Tryz.underlying23 rfl (by kernel_rfl) (by decide) rfl rr) (wl_v (iv W) rfl rfl (y_ld_stc rfl rfl Tryz.underlying3 B114 rfl rfl rr) (wl_v (.bool false) rfl rfl (y_gtr rfl rfl rfl (decide_eq_false d128) rr) (wl_v (.bool false) rfl rfl (y_mov rfl rfl rr) (wl_unless 3 true 26 rfl rfl rfl (Or.inl rfl) rfl (wl_unless 3 true 26 rfl rfl rfl (Or.inl rfl) rfl (wl_unless 3 true 26 rfl rfl rfl (Or.inl rfl) rfl (wl_v (.bool false) rfl rfl (y_pickF rfl rfl rfl rr) (wl_v (.bool false) rfl rfl (y_mov rfl rfl rr) (wl_vw (pt p1 1) 8 false 31 rfl rfl rfl rfl rfl (y_fieldR (n := 1) rfl s123 Tryz.underlying23 rfl (by kernel_rfl) (by decide) rfl rr) (wl_vw (iv H) 8 false 31 rfl rfl rfl rfl rfl (y_ld_stc rfl rfl Tryz.underlying3 B114 rfl rfl rr) ?_)))))))))))
     refine wl_vw (.bool true) 8 false 31 rfl rfl rfl rfl rfl (y_gtr rfl rfl rfl (decide_eq_true d378) rr) (wl_vw (.bool true) 8 false 31 rfl rfl rfl rfl rfl (y_mov rfl rfl rr) (wl_vw (pt p1 1) 12 true 35 rfl rfl rfl rfl rfl (y_fieldR (n := 1) rfl s123 Tryz.underlying23 rfl (by kernel_rfl) (by decide) rfl rr) (wl_vw (iv H) 12 true 35 rfl rfl rfl rfl rfl (y_ld_stc rfl rfl Tryz.underlying3 B114 rfl rfl rr) (wl_vw (.bool true) 12 true 35 rfl rfl rfl rfl rfl (y_leq rfl rfl rfl (decide_eq_true d379) rr) (wl_vw (.bool true) 8 false 31 rfl rfl rfl rfl rfl (y_pickT rfl rfl rfl rr) (wl_v (.bool true) rfl rfl (y_pickF rfl rfl rfl rr) (wl_v (.bool true) rfl rfl (y_mov rfl rfl rr) (wl_unless 18 false 41 rfl rfl rfl (Or.inl rfl) rfl (wl_unless 18 false 41 rfl rfl rfl (Or.inl rfl) rfl (wl_unless 18 false 41 rfl rfl rfl (Or.inl rfl) rfl (wl_v (.bool true) rfl rfl (y_pickT rfl rfl rfl rr) ?_)))))))))))
     refine wl_v (.bool true) rfl rfl (y_mov rfl rfl rr) (wl_unless 23 false 46 rfl rfl rfl (Or.inl rfl) rfl (wl_unless 23 false 46 rfl rfl rfl (Or.inl rfl) rfl (wl_unless 23 false 46 rfl rfl rfl (Or.inl rfl) rfl (wl_v (.bool true) rfl rfl (y_pickT rfl rfl rfl rr) (wl_v (.bool true) rfl rfl (y_mov rfl rfl rr) (wl_unless 28 false 51 rfl rfl rfl (Or.inl rfl) rfl (wl_unless 28 false 51 rfl rfl rfl (Or.inl rfl) rfl (wl_unless 28 false 51 rfl rfl rfl (Or.inl rfl) rfl (wl_v (.bool true) rfl rfl (y_pickT rfl rfl rfl rr) (wl_nil fun F380 hF381 => ?_))))))))))
     obtain ⟨s382, s383, s384, s385, s386, s387, s388⟩ := t7 hF381 2 s121 121 s122 5 s123 6 s124 8 s125 9 s126 11 s127
     have s389 : F380 55 = .bool true := (hF381 55).trans rfl
     clear hF381
     exact ⟨s389.trans (congrArg Value.bool (show true = decide (bigP W H ∨ 1000 < l.length ∨ fewF g = false ∨ fewF h = false) from (by rw [Bool.eq_iff_iff, decide_eq_true_iff]; unfold bigP; first | (simp [*]; done) | (simp [*]; omega) | (simp_all; done) | (simp_all; omega)))), s382, s384, s385, s386, s387, s388, s383, K118, B107, B108, B109, B110, B111, B112, B113, B114, B115, B116, B117⟩
    ·skip
     by_cases d390 : 1000 < ((l.length : Nat) : Int)
     ·skip
      refine wq_region (wl_v (pt p1 0) rfl rfl (y_fieldR (n := 1) rfl s123 Tryz.underlying23 rfl (by kernel_rfl) (by decide) rfl rr) (wl_v (iv W) rfl rfl (y_ld_stc rfl rfl Tryz.underlying3 B114 rfl rfl rr) (wl_v (.bool false) rfl rfl (y_gtr rfl rfl rfl (decide_eq_false d128) rr) (wl_v (.bool false) rfl rfl (y_mov rfl rfl rr) (wl_unless 3 true 26 rfl rfl rfl (Or.inl rfl) rfl (wl_unless 3 true 26 rfl rfl rfl (Or.inl rfl) rfl (wl_unless 3 true 26 rfl rfl rfl (Or.inl rfl) rfl (wl_v (.bool false) rfl rfl (y_pickF rfl rfl rfl rr) (wl_v (.bool false) rfl rfl (y_mov rfl rfl rr) (wl_vw (pt p1 1) 8 false 31 rfl rfl rfl rfl rfl (y_fieldR (n := 1) rfl s123 Tryz.underlying23 rfl (by kernel_rfl) (by decide) rfl rr) (wl_vw (iv H) 8 false 31 rfl rfl rfl rfl rfl (y_ld_stc rfl rfl Tryz.underlying3 B114 rfl rfl rr) ?_)))))))))))
      refine wl_vw (.bool true) 8 false 31 rfl rfl rfl rfl rfl (y_gtr rfl rfl rfl (decide_eq_true d378) rr) (wl_vw (.bool true) 8 false 31 rfl rfl rfl rfl rfl (y_mov rfl rfl rr) (wl_vw (pt p1 1) 12 true 35 rfl rfl rfl rfl rfl (y_fieldR (n := 1) rfl s123 Tryz.underlying23 rfl (by kernel_rfl) (by decide) rfl rr) (wl_vw (iv H) 12 true 35 rfl rfl rfl rfl rfl (y_ld_stc rfl rfl Tryz.underlying3 B114 rfl rfl rr) (wl_vw (.bool false) 12 true 35 rfl rfl rfl rfl rfl (y_leq rfl rfl rfl (decide_eq_false d379) rr) (wl_vw (.bool false) 8 false 31 rfl rfl rfl rfl rfl (y_pickT rfl rfl rfl rr) (wl_v (.bool false) rfl rfl (y_pickF rfl rfl rfl rr) (wl_v (.bool false) rfl rfl (y_mov rfl rfl rr) (wl_vw v 18 false 41 rfl rfl rfl rfl rfl (y_mov rfl s121 rr) (wl_vw (iv ((l.length : Nat) : Int)) 18 false 41 rfl rfl rfl rfl rfl (y_lenV rfl rfl rfl B107 rr) (wl_vw (.bool true) 18 false 41 rfl rfl rfl rfl rfl (y_gtr rfl rfl rfl (decide_eq_true d390) rr) (wl_v (.bool true) rfl rfl (y_pickF rfl rfl rfl rr) ?_)))))))))))
      refine wl_v (.bool true) rfl rfl (y_mov rfl rfl rr) (wl_unless 23 false 46 rfl rfl rfl (Or.inl rfl) rfl (wl_unless 23 false 46 rfl rfl rfl (Or.inl rfl) rfl (wl_unless 23 false 46 rfl rfl rfl (Or.inl rfl) rfl (wl_v (.bool true) rfl rfl (y_pickT rfl rfl rfl rr) (wl_v (.bool true) rfl rfl (y_mov rfl rfl rr) (wl_unless 28 false 51 rfl rfl rfl (Or.inl rfl) rfl (wl_unless 28 false 51 rfl rfl rfl (Or.inl rfl) rfl (wl_unless 28 false 51 rfl rfl rfl (Or.inl rfl) rfl (wl_v (.bool true) rfl rfl (y_pickT rfl rfl rfl rr) (wl_nil fun F391 hF392 => ?_))))))))))
      obtain ⟨s393, s394, s395, s396, s397, s398, s399⟩ := t7 hF392 2 s121 121 s122 5 s123 6 s124 8 s125 9 s126 11 s127
      have s400 : F391 55 = .bool true := (hF392 55).trans rfl
      clear hF392
      exact ⟨s400.trans (congrArg Value.bool (show true = decide (bigP W H ∨ 1000 < l.length ∨ fewF g = false ∨ fewF h = false) from (by rw [Bool.eq_iff_iff, decide_eq_true_iff]; unfold bigP; first | (simp [*]; done) | (simp [*]; omega) | (simp_all; done) | (simp_all; omega)))), s393, s395, s396, s397, s398, s399, s394, K118, B107, B108, B109, B110, B111, B112, B113, B114, B115, B116, B117⟩
     ·skip
      rcases Bool.eq_false_or_eq_true (fewF g) with d401 | d401
      ·skip
       rcases Bool.eq_false_or_eq_true (fewF h) with d402 | d402
       ·skip
        refine wq_region (wl_v (pt p1 0) rfl rfl (y_fieldR (n := 1) rfl s123 Tryz.underlying23 rfl (by kernel_rfl) (by decide) rfl rr) (wl_v (iv W) rfl rfl (y_ld_stc rfl rfl Tryz.underlying3 B114 rfl rfl rr) (wl_v (.bool false) rfl rfl (y_gtr rfl rfl rfl (decide_eq_false d128) rr) (wl_v (.bool false) rfl rfl (y_mov rfl rfl rr) (wl_unless 3 true 26 rfl rfl rfl (Or.inl rfl) rfl (wl_unless 3 true 26 rfl rfl rfl (Or.inl rfl) rfl (wl_unless 3 true 26 rfl rfl rfl (Or.inl rfl) rfl (wl_v (.bool false) rfl rfl (y_pickF rfl rfl rfl rr) (wl_v (.bool false) rfl rfl (y_mov rfl rfl rr) (wl_vw (pt p1 1) 8 false 31 rfl rfl rfl rfl rfl (y_fieldR (n := 1) rfl s123 Tryz.underlying23 rfl (by kernel_rfl) (by decide) rfl rr) (wl_vw (iv H) 8 false 31 rfl rfl rfl rfl rfl (y_ld_stc rfl rfl Tryz.underlying3 B114 rfl rfl rr) ?_)))))))))))
        refine wl_vw (.bool true) 8 false 31 rfl rfl rfl rfl rfl (y_gtr rfl rfl rfl (decide_eq_true d378) rr) (wl_vw (.bool true) 8 false 31 rfl rfl rfl rfl rfl (y_mov rfl rfl rr) (wl_vw (pt p1 1) 12 true 35 rfl rfl rfl rfl rfl (y_fieldR (n := 1) rfl s123 Tryz.underlying23 rfl (by kernel_rfl) (by decide) rfl rr) (wl_vw (iv H) 12 true 35 rfl rfl rfl rfl rfl (y_ld_stc rfl rfl Tryz.underlying3 B114 rfl rfl rr) (wl_vw (.bool false) 12 true 35 rfl rfl rfl rfl rfl (y_leq rfl rfl rfl (decide_eq_false d379) rr) (wl_vw (.bool false) 8 false 31 rfl rfl rfl rfl rfl (y_pickT rfl rfl rfl rr) (wl_v (.bool false) rfl rfl (y_pickF rfl rfl rfl rr) (wl_v (.bool false) rfl rfl (y_mov rfl rfl rr) (wl_vw v 18 false 41 rfl rfl rfl rfl rfl (y_mov rfl s121 rr) (wl_vw (iv ((l.length : Nat) : Int)) 18 false 41 rfl rfl rfl rfl rfl (y_lenV rfl rfl rfl B107 rr) (wl_vw (.bool false) 18 false 41 rfl rfl rfl rfl rfl (y_gtr rfl rfl rfl (decide_eq_false d390) rr) (wl_v (.bool false) rfl rfl (y_pickF rfl rfl rfl rr) ?_)))))))))))
        refine wl_v (.bool false) rfl rfl (y_mov rfl rfl rr) (wl_vw (.agg #[iv (g.W), iv (g.H), g0, g1, g2]) 23 false 46 rfl rfl rfl rfl rfl (y_load_stc stcT_frame rfl s125 B116 rr) (wl_callw (R := fun v_ w_ => v_ = .bool true ∧ Kept (fun _ => False) w105 w_) 23 false 46 rfl rfl rfl rfl rfl (y_cs rfl rfl rfl (fun _ _ => by kernel_rfl) (ev_func _) (vsC rfl vsN) (flaw_few g g0 g1 g2 T_g0 T_g1 T_g2 _  B108 B109 B110 ) (fun e_ w_ h_ => ⟨_, h_.1, (congrArg Value.bool d401), h_.2⟩)) ?_))
        rintro _ w403 ⟨rfl, k404⟩
        have B405 := B107.all k404 Apart.none
        have B406 := B108.all k404 Apart.none
        have B407 := B109.all k404 Apart.none
        have B408 := B110.all k404 Apart.none
        have B409 := B111.all k404 Apart.none
        have B410 := B112.all k404 Apart.none
        have B411 := B113.all k404 Apart.none
        have B412 := B114.all k404 id
        have B413 := B115.all k404 id
        have B414 := B116.all k404 id
        have B415 := B117.all k404 id
        have K416 := K118.tr k404
        refine wl_vw (.bool false) 23 false 46 rfl rfl rfl rfl rfl (y_not rfl rfl rfl rr) (wl_v (.bool false) rfl rfl (y_pickF rfl rfl rfl rr) (wl_v (.bool false) rfl rfl (y_mov rfl rfl rr) (wl_vw (.agg #[iv (h.W), iv (h.H), h0, h1, h2]) 28 false 51 rfl rfl rfl rfl rfl (y_load_stc stcT_frame rfl s126 B415 rr) (wl_callw (R := fun v_ w_ => v_ = .bool true ∧ Kept (fun _ => False) w403 w_) 28 false 51 rfl rfl rfl rfl rfl (y_cs rfl rfl rfl (fun _ _ => by kernel_rfl) (ev_func _) (vsC rfl vsN) (flaw_few h h0 h1 h2 T_h0 T_h1 T_h2 _  B409 B410 B411 ) (fun e_ w_ h_ => ⟨_, h_.1, (congrArg Value.bool d402), h_.2⟩)) ?_))))
        rintro _ w417 ⟨rfl, k418⟩
        have B419 := B405.all k418 Apart.none
        have B420 := B406.all k418 Apart.none
        have B421 := B407.all k418 Apart.none
        have B422 := B408.all k418 Apart.none
        have B423 := B409.all k418 Apart.none
        have B424 := B410.all k418 Apart.none
        have B425 := B411.all k418 Apart.none
        have B426 := B412.all k418 id
        have B427 := B413.all k418 id
        have B428 := B414.all k418 id
        have B429 := B415.all k418 id
        have K430 := K416.tr k418
        refine wl_vw (.bool false) 28 false 51 rfl rfl rfl rfl rfl (y_not rfl rfl rfl rr) (wl_v (.bool false) rfl rfl (y_pickF rfl rfl rfl rr) (wl_nil fun F431 hF432 => ?_))
        obtain ⟨s433, s434, s435, s436, s437, s438, s439⟩ := t7 hF432 2 s121 121 s122 5 s123 6 s124 8 s125 9 s126 11 s127
        have s440 : F431 55 = .bool false := (hF432 55).trans rfl
        clear hF432
        exact ⟨s440.trans (congrArg Value.bool (show false = decide (bigP W H ∨ 1000 < l.length ∨ fewF g = false ∨ fewF h = false) from (by rw [Bool.eq_iff_iff, decide_eq_true_iff]; unfold bigP; first | (simp [*]; done) | (simp [*]; omega) | (simp_all; done) | (simp_all; omega)))), s433, s435, s436, s437, s438, s439, s434, K430, B419, B420, B421, B422, B423, B424, B425, B426, B427, B428, B429⟩
       ·skip
        refine wq_region (wl_v (pt p1 0) rfl rfl (y_fieldR (n := 1) rfl s123 Tryz.underlying23 rfl (by kernel_rfl) (by decide) rfl rr) (wl_v (iv W) rfl rfl (y_ld_stc rfl rfl Tryz.underlying3 B114 rfl rfl rr) (wl_v (.bool false) rfl rfl (y_gtr rfl rfl rfl (decide_eq_false d128) rr) (wl_v (.bool false) rfl rfl (y_mov rfl rfl rr) (wl_unless 3 true 26 rfl rfl rfl (Or.inl rfl) rfl (wl_unless 3 true 26 rfl rfl rfl (Or.inl rfl) rfl (wl_unless 3 true 26 rfl rfl rfl (Or.inl rfl) rfl (wl_v (.bool false) rfl rfl (y_pickF rfl rfl rfl rr) (wl_v (.bool false) rfl rfl (y_mov rfl rfl rr) (wl_vw (pt p1 1) 8 false 31 rfl rfl rfl rfl rfl (y_fieldR (n := 1) rfl s123 Tryz.underlying23 rfl (by kernel_rfl) (by decide) rfl rr) (wl_vw (iv H) 8 false 31 rfl rfl rfl rfl rfl (y_ld_stc rfl rfl Tryz.underlying3 B114 rfl rfl rr) ?_)))))))))))
        refine wl_vw (.bool true) 8 false 31 rfl rfl rfl rfl rfl (y_gtr rfl rfl rfl (decide_eq_true d378) rr) (wl_vw (.bool true) 8 false 31 rfl rfl rfl rfl rfl (y_mov rfl rfl rr) (wl_vw (pt p1 1) 12 true 35 rfl rfl rfl rfl rfl (y_fieldR (n := 1) rfl s123 Tryz.underlying23 rfl (by kernel_rfl) (by decide) rfl rr) (wl_vw (iv H) 12 true 35 rfl rfl rfl rfl rfl (y_ld_stc rfl rfl Tryz.underlying3 B114 rfl rfl rr) (wl_vw (.bool false) 12 true 35 rfl rfl rfl rfl rfl (y_leq rfl rfl rfl (decide_eq_false d379) rr) (wl_vw (.bool false) 8 false 31 rfl rfl rfl rfl rfl (y_pickT rfl rfl rfl rr) (wl_v (.bool false) rfl rfl (y_pickF rfl rfl rfl rr) (wl_v (.bool false) rfl rfl (y_mov rfl rfl rr) (wl_vw v 18 false 41 rfl rfl rfl rfl rfl (y_mov rfl s121 rr) (wl_vw (iv ((l.length : Nat) : Int)) 18 false 41 rfl rfl rfl rfl rfl (y_lenV rfl rfl rfl B107 rr) (wl_vw (.bool false) 18 false 41 rfl rfl rfl rfl rfl (y_gtr rfl rfl rfl (decide_eq_false d390) rr) (wl_v (.bool false) rfl rfl (y_pickF rfl rfl rfl rr) ?_)))))))))))
        refine wl_v (.bool false) rfl rfl (y_mov rfl rfl rr) (wl_vw (.agg #[iv (g.W), iv (g.H), g0, g1, g2]) 23 false 46 rfl rfl rfl rfl rfl (y_load_stc stcT_frame rfl s125 B116 rr) (wl_callw (R := fun v_ w_ => v_ = .bool true ∧ Kept (fun _ => False) w105 w_) 23 false 46 rfl rfl rfl rfl rfl (y_cs rfl rfl rfl (fun _ _ => by kernel_rfl) (ev_func _) (vsC rfl vsN) (flaw_few g g0 g1 g2 T_g0 T_g1 T_g2 _  B108 B109 B110 ) (fun e_ w_ h_ => ⟨_, h_.1, (congrArg Value.bool d401), h_.2⟩)) ?_))
        rintro _ w441 ⟨rfl, k442⟩
        have B443 := B107.all k442 Apart.none
        have B444 := B108.all k442 Apart.none
        have B445 := B109.all k442 Apart.none
        have B446 := B110.all k442 Apart.none
        have B447 := B111.all k442 Apart.none
        have B448 := B112.all k442 Apart.none
        have B449 := B113.all k442 Apart.none
        have B450 := B114.all k442 id
        have B451 := B115.all k442 id
        have B452 := B116.all k442 id
        have B453 := B117.all k442 id
        have K454 := K118.tr k442
        refine wl_vw (.bool false) 23 false 46 rfl rfl rfl rfl rfl (y_not rfl rfl rfl rr) (wl_v (.bool false) rfl rfl (y_pickF rfl rfl rfl rr) (wl_v (.bool false) rfl rfl (y_mov rfl rfl rr) (wl_vw (.agg #[iv (h.W), iv (h.H), h0, h1, h2]) 28 false 51 rfl rfl rfl rfl rfl (y_load_stc stcT_frame rfl s126 B453 rr) (wl_callw (R := fun v_ w_ => v_ = .bool false ∧ Kept (fun _ => False) w441 w_) 28 false 51 rfl rfl rfl rfl rfl (y_cs rfl rfl rfl (fun _ _ => by kernel_rfl) (ev_func _) (vsC rfl vsN) (flaw_few h h0 h1 h2 T_h0 T_h1 T_h2 _  B447 B448 B449 ) (fun e_ w_ h_ => ⟨_, h_.1, (congrArg Value.bool d402), h_.2⟩)) ?_))))
        rintro _ w455 ⟨rfl, k456⟩
        have B457 := B443.all k456 Apart.none
        have B458 := B444.all k456 Apart.none
        have B459 := B445.all k456 Apart.none
        have B460 := B446.all k456 Apart.none
        have B461 := B447.all k456 Apart.none
        have B462 := B448.all k456 Apart.none
        have B463 := B449.all k456 Apart.none
        have B464 := B450.all k456 id
        have B465 := B451.all k456 id
        have B466 := B452.all k456 id
        have B467 := B453.all k456 id
        have K468 := K454.tr k456
        refine wl_vw (.bool true) 28 false 51 rfl rfl rfl rfl rfl (y_not rfl rfl rfl rr) (wl_v (.bool true) rfl rfl (y_pickF rfl rfl rfl rr) (wl_nil fun F469 hF470 => ?_))
        obtain ⟨s471, s472, s473, s474, s475, s476, s477⟩ := t7 hF470 2 s121 121 s122 5 s123 6 s124 8 s125 9 s126 11 s127
        have s478 : F469 55 = .bool true := (hF470 55).trans rfl
        clear hF470
        exact ⟨s478.trans (congrArg Value.bool (show true = decide (bigP W H ∨ 1000 < l.length ∨ fewF g = false ∨ fewF h = false) from (by rw [Bool.eq_iff_iff, decide_eq_true_iff]; unfold bigP; first | (simp [*]; done) | (simp [*]; omega) | (simp_all; done) | (simp_all; omega)))), s471, s473, s474, s475, s476, s477, s472, K468, B457, B458, B459, B460, B461, B462, B463, B464, B465, B466, B467⟩
      ·skip
       refine wq_region (wl_v (pt p1 0) rfl rfl (y_fieldR (n := 1) rfl s123 Tryz.underlying23 rfl (by kernel_rfl) (by decide) rfl rr) (wl_v (iv W) rfl rfl (y_ld_stc rfl rfl Tryz.underlying3 B114 rfl rfl rr) (wl_v (.bool false) rfl rfl (y_gtr rfl rfl rfl (decide_eq_false d128) rr) (wl_v (.bool false) rfl rfl (y_mov rfl rfl rr) (wl_unless 3 true 26 rfl rfl rfl (Or.inl rfl) rfl (wl_unless 3 true 26 rfl rfl rfl (Or.inl rfl) rfl (wl_unless 3 true 26 rfl rfl rfl (Or.inl rfl) rfl (wl_v (.bool false) rfl rfl (y_pickF rfl rfl rfl rr) (wl_v (.bool false) rfl rfl (y_mov rfl rfl rr) (wl_vw (pt p1 1) 8 false 31 rfl rfl rfl rfl rfl (y_fieldR (n := 1) rfl s123 Tryz.underlying23 rfl (by kernel_rfl) (by decide) rfl rr) (wl_vw (iv H) 8 false 31 rfl rfl rfl rfl rfl (y_ld_stc rfl rfl Tryz.underlying3 B114 rfl rfl rr) ?_)))))))))))
       refine wl_vw (.bool true) 8 false 31 rfl rfl rfl rfl rfl (y_gtr rfl rfl rfl (decide_eq_true d378) rr) (wl_vw (.bool true) 8 false 31 rfl rfl rfl rfl rfl (y_mov rfl rfl rr) (wl_vw (pt p1 1) 12 true 35 rfl rfl rfl rfl rfl (y_fieldR (n := 1) rfl s123 Tryz.underlying23 rfl (by kernel_rfl) (by decide) rfl rr) (wl_vw (iv H) 12 true 35 rfl rfl rfl rfl rfl (y_ld_stc rfl rfl Tryz.underlying3 B114 rfl rfl rr) (wl_vw (.bool false) 12 true 35 rfl rfl rfl rfl rfl (y_leq rfl rfl rfl (decide_eq_false d379) rr) (wl_vw (.bool false) 8 false 31 rfl rfl rfl rfl rfl (y_pickT rfl rfl rfl rr) (wl_v (.bool false) rfl rfl (y_pickF rfl rfl rfl rr) (wl_v (.bool false) rfl rfl (y_mov rfl rfl rr) (wl_vw v 18 false 41 rfl rfl rfl rfl rfl (y_mov rfl s121 rr) (wl_vw (iv ((l.length : Nat) : Int)) 18 false 41 rfl rfl rfl rfl rfl (y_lenV rfl rfl rfl B107 rr) (wl_vw (.bool false) 18 false 41 rfl rfl rfl rfl rfl (y_gtr rfl rfl rfl (decide_eq_false d390) rr) (wl_v (.bool false) rfl rfl (y_pickF rfl rfl rfl rr) ?_)))))))))))
       refine wl_v (.bool false) rfl rfl (y_mov rfl rfl rr) (wl_vw (.agg #[iv (g.W), iv (g.H), g0, g1, g2]) 23 false 46 rfl rfl rfl rfl rfl (y_load_stc stcT_frame rfl s125 B116 rr) (wl_callw (R := fun v_ w_ => v_ = .bool false ∧ Kept (fun _ => False) w105 w_) 23 false 46 rfl rfl rfl rfl rfl (y_cs rfl rfl rfl (fun _ _ => by kernel_rfl) (ev_func _) (vsC rfl vsN) (flaw_few g g0 g1 g2 T_g0 T_g1 T_g2 _  B108 B109 B110 ) (fun e_ w_ h_ => ⟨_, h_.1, (congrArg Value.bool d401), h_.2⟩)) ?_))
       rintro _ w479 ⟨rfl, k480⟩
       have B481 := B107.all k480 Apart.none
       have B482 := B108.all k480 Apart.none
       have B483 := B109.all k480 Apart.none
       have B484 := B110.all k480 Apart.none
       have B485 := B111.all k480 Apart.none
       have B486 := B112.all k480 Apart.none
       have B487 := B113.all k480 Apart.none
       have B488 := B114.all k480 id
       have B489 := B115.all k480 id
       have B490 := B116.all k480 id
       have B491 := B117.all k480 id
       have K492 := K118.tr k480
       refine wl_vw (.bool true) 23 false 46 rfl rfl rfl rfl rfl (y_not rfl rfl rfl rr) (wl_v (.bool true) rfl rfl (y_pickF rfl rfl rfl rr) (wl_v (.bool true) rfl rfl (y_mov rfl rfl rr) (wl_unless 28 false 51 rfl rfl rfl (Or.inl rfl) rfl (wl_unless 28 false 51 rfl rfl rfl (Or.inl rfl) rfl (wl_unless 28 false 51 rfl rfl rfl (Or.inl rfl) rfl (wl_v (.bool true) rfl rfl (y_pickT rfl rfl rfl rr) (wl_nil fun F493 hF494 => ?_)))))))
       obtain ⟨s495, s496, s497, s498, s499, s500, s501⟩ := t7 hF494 2 s121 121 s122 5 s123 6 s124 8 s125 9 s126 11 s127
       have s502 : F493 55 = .bool true := (hF494 55).trans rfl
       clear hF494
       exact ⟨s502.trans (congrArg Value.bool (show true = decide (bigP W H ∨ 1000 < l.length ∨ fewF g = false ∨ fewF h = false) from (by rw [Bool.eq_iff_iff, decide_eq_true_iff]; unfold bigP; first | (simp [*]; done) | (simp [*]; omega) | (simp_all; done) | (simp_all; omega)))), s495, s497, s498, s499, s500, s501, s496, K492, B481, B482, B483, B484, B485, B486, B487, B488, B489, B490, B491⟩
   ·skip
    by_cases d503 : 1000 < ((l.length : Nat) : Int)
    ·skip
     refine wq_region (wl_v (pt p1 0) rfl rfl (y_fieldR (n := 1) rfl s123 Tryz.underlying23 rfl (by kernel_rfl) (by decide) rfl rr) (wl_v (iv W) rfl rfl (y_ld_stc rfl rfl Tryz.underlying3 B114 rfl rfl rr) (wl_v (.bool false) rfl rfl (y_gtr rfl rfl rfl (decide_eq_false d128) rr) (wl_v (.bool false) rfl rfl (y_mov rfl rfl rr) (wl_unless 3 true 26 rfl rfl rfl (Or.inl rfl) rfl (wl_unless 3 true 26 rfl rfl rfl (Or.inl rfl) rfl (wl_unless 3 true 26 rfl rfl rfl (Or.inl rfl) rfl (wl_v (.bool false) rfl rfl (y_pickF rfl rfl rfl rr) (wl_v (.bool false) rfl rfl (y_mov rfl rfl rr) (wl_vw (pt p1 1) 8 false 31 rfl rfl rfl rfl rfl (y_fieldR (n := 1) rfl s123 Tryz.underlying23 rfl (by kernel_rfl) (by decide) rfl rr) (wl_vw (iv H) 8 false 31 rfl rfl rfl rfl rfl (y_ld_stc rfl rfl Tryz.underlying3 B114 rfl rfl rr) ?_)))))))))))
     refine wl_vw (.bool false) 8 false 31 rfl rfl rfl rfl rfl (y_gtr rfl rfl rfl (decide_eq_false d378) rr) (wl_vw (.bool false) 8 false 31 rfl rfl rfl rfl rfl (y_mov rfl rfl rr) (wl_unless 12 true 35 rfl rfl rfl (Or.inl rfl) rfl (wl_unless 12 true 35 rfl rfl rfl (Or.inl rfl) rfl (wl_unless 12 true 35 rfl rfl rfl (Or.inl rfl) rfl (wl_vw (.bool false) 8 false 31 rfl rfl rfl rfl rfl (y_pickF rfl rfl rfl rr) (wl_v (.bool false) rfl rfl (y_pickF rfl rfl rfl rr) (wl_v (.bool false) rfl rfl (y_mov rfl rfl rr) (wl_vw v 18 false 41 rfl rfl rfl rfl rfl (y_mov rfl s121 rr) (wl_vw (iv ((l.length : Nat) : Int)) 18 false 41 rfl rfl rfl rfl rfl (y_lenV rfl rfl rfl B107 rr) (wl_vw (.bool true) 18 false 41 rfl rfl rfl rfl rfl (y_gtr rfl rfl rfl (decide_eq_true d503) rr) (wl_v (.bool true) rfl rfl (y_pickF rfl rfl rfl rr) ?_)))))))))))
     refine wl_v (.bool true) rfl rfl (y_mov rfl rfl rr) (wl_unless 23 false 46 rfl rfl rfl (Or.inl rfl) rfl (wl_unless 23 false 46 rfl rfl rfl (Or.inl rfl) rfl (wl_unless 23 false 46 rfl rfl rfl (Or.inl rfl) rfl (wl_v (.bool true) rfl rfl (y_pickT rfl rfl rfl rr) (wl_v (.bool true) rfl rfl (y_mov rfl rfl rr) (wl_unless 28 false 51 rfl rfl rfl (Or.inl rfl) rfl (wl_unless 28 false 51 rfl rfl rfl (Or.inl rfl) rfl (wl_unless 28 false 51 rfl rfl rfl (Or.inl rfl) rfl (wl_v (.bool true) rfl rfl (y_pickT rfl rfl rfl rr) (wl_nil fun F504 hF505 => ?_))))))))))
     obtain ⟨s506, s507, s508, s509, s510, s511, s512⟩ := t7 hF505 2 s121 121 s122 5 s123 6 s124 8 s125 9 s126 11 s127
     have s513 : F504 55 = .bool true := (hF505 55).trans rfl
     clear hF505
     exact ⟨s513.trans (congrArg Value.bool (show true = decide (bigP W H ∨ 1000 < l.length ∨ fewF g = false ∨ fewF h = false) from (by rw [Bool.eq_iff_iff, decide_eq_true_iff]; unfold bigP; first | (simp [*]; done) | (simp [*]; omega) | (simp_all; done) | (simp_all; omega)))), s506, s508, s509, s510, s511, s512, s507, K118, B107, B108, B109, B110, B111, B112, B113, B114, B115, B116, B117⟩
    ·skip
     rcases Bool.eq_false_or_eq_true (fewF g) with d514 | d514
     ·skip
      rcases Bool.eq_false_or_eq_true (fewF h) with d515 | d515
      ·skip
       refine wq_region (wl_v (pt p1 0) rfl rfl (y_fieldR (n := 1) rfl s123 Tryz.underlying23 rfl (by kernel_rfl) (by decide) rfl rr) (wl_v (iv W) rfl rfl (y_ld_stc rfl rfl Tryz.underlying3 B114 rfl rfl rr) (wl_v (.bool false) rfl rfl (y_gtr rfl rfl rfl (decide_eq_false d128) rr) (wl_v (.bool false) rfl rfl (y_mov rfl rfl rr) (wl_unless 3 true 26 rfl rfl rfl (Or.inl rfl) rfl (wl_unless 3 true 26 rfl rfl rfl (Or.inl rfl) rfl (wl_unless 3 true 26 rfl rfl rfl (Or.inl rfl) rfl (wl_v (.bool false) rfl rfl (y_pickF rfl rfl rfl rr) (wl_v (.bool false) rfl rfl (y_mov rfl rfl rr) (wl_vw (pt p1 1) 8 false 31 rfl rfl rfl rfl rfl (y_fieldR (n := 1) rfl s123 Tryz.underlying23 rfl (by kernel_rfl) (by decide) rfl rr) (wl_vw (iv H) 8 false 31 rfl rfl rfl rfl rfl (y_ld_stc rfl rfl Tryz.underlying3 B114 rfl rfl rr) ?_)))))))))))
       refine wl_vw (.bool false) 8 false 31 rfl rfl rfl rfl rfl (y_gtr rfl rfl rfl (decide_eq_false d378) rr) (wl_vw (.bool false) 8 false 31 rfl rfl rfl rfl rfl (y_mov rfl rfl rr) (wl_unless 12 true 35 rfl rfl rfl (Or.inl rfl) rfl (wl_unless 12 true 35 rfl rfl rfl (Or.inl rfl) rfl (wl_unless 12 true 35 rfl rfl rfl (Or.inl rfl) rfl (wl_vw (.bool false) 8 false 31 rfl rfl rfl rfl rfl (y_pickF rfl rfl rfl rr) (wl_v (.bool false) rfl rfl (y_pickF rfl rfl rfl rr) (wl_v (.bool false) rfl rfl (y_mov rfl rfl rr) (wl_vw v 18 false 41 rfl rfl rfl rfl rfl (y_mov rfl s121 rr) (wl_vw (iv ((l.length : Nat) : Int)) 18 false 41 rfl rfl rfl rfl rfl (y_lenV rfl rfl rfl B107 rr) (wl_vw (.bool false) 18 false 41 rfl rfl rfl rfl rfl (y_gtr rfl rfl rfl (decide_eq_false d503) rr) (wl_v (.bool false) rfl rfl (y_pickF rfl rfl rfl rr) ?_)))))))))))
       refine wl_v (.bool false) rfl rfl (y_mov rfl rfl rr) (wl_vw (.agg #[iv (g.W), iv (g.H), g0, g1, g2]) 23 false 46 rfl rfl rfl rfl rfl (y_load_stc stcT_frame rfl s125 B116 rr) (wl_callw (R := fun v_ w_ => v_ = .bool true ∧ Kept (fun _ => False) w105 w_) 23 false 46 rfl rfl rfl rfl rfl (y_cs rfl rfl rfl (fun _ _ => by kernel_rfl) (ev_func _) (vsC rfl vsN) (flaw_few g g0 g1 g2 T_g0 T_g1 T_g2 _  B108 B109 B110 ) (fun e_ w_ h_ => ⟨_, h_.1, (congrArg Value.bool d514), h_.2⟩)) ?_))
       rintro _ w516 ⟨rfl, k517⟩
       have B518 := B107.all k517 Apart.none
       have B519 := B108.all k517 Apart.none
       have B520 := B109.all k517 Apart.none
       have B521 := B110.all k517 Apart.none
       have B522 := B111.all k517 Apart.none
       have B523 := B112.all k517 Apart.none
       have B524 := B113.all k517 Apart.none
       have B525 := B114.all k517 id
       have B526 := B115.all k517 id
       have B527 := B116.all k517 id
       have B528 := B117.all k517 id
       have K529 := K118.tr k517
       refine wl_vw (.bool false) 23 false 46 rfl rfl rfl rfl rfl (y_not rfl rfl rfl rr) (wl_v (.bool false) rfl rfl (y_pickF rfl rfl rfl rr) (wl_v (.bool false) rfl rfl (y_mov rfl rfl rr) (wl_vw (.agg #[iv (h.W), iv (h.H), h0, h1, h2]) 28 false 51 rfl rfl rfl rfl rfl (y_load_stc stcT_frame rfl s126 B528 rr) (wl_callw (R := fun v_ w_ => v_ = .bool true ∧ Kept (fun _ => False) w516 w_) 28 false 51 rfl rfl rfl rfl rfl (y_cs rfl rfl rfl (fun _ _ => by kernel_rfl) (ev_func _) (vsC rfl vsN) (flaw_few h h0 h1 h2 T_h0 T_h1 T_h2 _  B522 B523 B524 ) (fun e_ w_ h_ => ⟨_, h_.1, (congrArg Value.bool d515), h_.2⟩)) ?_))))
       rintro _ w530 ⟨rfl, k531⟩
       have B532 := B518.all k531 Apart.none
       have B533 := B519.all k531 Apart.none
       have B534 := B520.all k531 Apart.none
       have B535 := B521.all k531 Apart.none
       have B536 := B522.all k531 Apart.none
       have B537 := B523.all k531 Apart.none
       have B538 := B524.all k531 Apart.none
       have B539 := B525.all k531 id
       have B540 := B526.all k531 id
       have B541 := B527.all k531 id
       have B542 := B528.all k531 id
       have K543 := K529.tr k531
       refine wl_vw (.bool false) 28 false 51 rfl rfl rfl rfl rfl (y_not rfl rfl rfl rr) (wl_v (.bool false) rfl rfl (y_pickF rfl rfl rfl rr) (wl_nil fun F544 hF545 => ?_))
       obtain ⟨s546, s547, s548, s549, s550, s551, s552⟩ := t7 hF545 2 s121 121 s122 5 s123 6 s124 8 s125 9 s126 11 s127
       have s553 : F544 55 = .bool false := (hF545 55).trans rfl
       clear hF545
       exact ⟨s553.trans (congrArg Value.bool (show false = decide (bigP W H ∨ 1000 < l.length ∨ fewF g = false ∨ fewF h = false) from (by rw [Bool.eq_iff_iff, decide_eq_true_iff]; unfold bigP; first | (simp [*]; done) | (simp [*]; omega) | (simp_all; done) | (simp_all; omega)))), s546, s548, s549, s550, s551, s552, s547, K543, B532, B533, B534, B535, B536, B537, B538, B539, B540, B541, B542⟩
      ·skip
       refine wq_region (wl_v (pt p1 0) rfl rfl (y_fieldR (n := 1) rfl s123 Tryz.underlying23 rfl (by kernel_rfl) (by decide) rfl rr) (wl_v (iv W) rfl rfl (y_ld_stc rfl rfl Tryz.underlying3 B114 rfl rfl rr) (wl_v (.bool false) rfl rfl (y_gtr rfl rfl rfl (decide_eq_false d128) rr) (wl_v (.bool false) rfl rfl (y_mov rfl rfl rr) (wl_unless 3 true 26 rfl rfl rfl (Or.inl rfl) rfl (wl_unless 3 true 26 rfl rfl rfl (Or.inl rfl) rfl (wl_unless 3 true 26 rfl rfl rfl (Or.inl rfl) rfl (wl_v (.bool false) rfl rfl (y_pickF rfl rfl rfl rr) (wl_v (.bool false) rfl rfl (y_mov rfl rfl rr) (wl_vw (pt p1 1) 8 false 31 rfl rfl rfl rfl rfl (y_fieldR (n := 1) rfl s123 Tryz.underlying23 rfl (by kernel_rfl) (by decide) rfl rr) (wl_vw (iv H) 8 false 31 rfl rfl rfl rfl rfl (y_ld_stc rfl rfl Tryz.underlying3 B114 rfl rfl rr) ?_)))))))))))
       refine wl_vw (.bool false) 8 false 31 rfl rfl rfl rfl rfl (y_gtr rfl rfl rfl (decide_eq_false d378) rr) (wl_vw (.bool false) 8 false 31 rfl rfl rfl rfl rfl (y_mov rfl rfl rr) (wl_unless 12 true 35 rfl rfl rfl (Or.inl rfl) rfl (wl_unless 12 true 35 rfl rfl rfl (Or.inl rfl) rfl (wl_unless 12 true 35 rfl rfl rfl (Or.inl rfl) rfl (wl_vw (.bool false) 8 false 31 rfl rfl rfl rfl rfl (y_pickF rfl rfl rfl rr) (wl_v (.bool false) rfl rfl (y_pickF rfl rfl rfl rr) (wl_v (.bool false) rfl rfl (y_mov rfl rfl rr) (wl_vw v 18 false 41 rfl rfl rfl rfl rfl (y_mov rfl s121 rr) (wl_vw (iv ((l.length : Nat) : Int)) 18 false 41 rfl rfl rfl rfl rfl (y_lenV rfl rfl rfl B107 rr) (wl_vw (.bool false) 18 false 41 rfl rfl rfl rfl rfl (y_gtr rfl rfl rfl (decide_eq_false d503) rr) (wl_v (.bool false) rfl rfl (y_pickF rfl rfl rfl rr) ?_)))))))))))
       refine wl_v (.bool false) rfl rfl (y_mov rfl rfl rr) (wl_vw (.agg #[iv (g.W), iv (g.H), g0, g1, g2]) 23 false 46 rfl rfl rfl rfl rfl (y_load_stc stcT_frame rfl s125 B116 rr) (wl_callw (R := fun v_ w_ => v_ = .bool true ∧ Kept (fun _ => False) w105 w_) 23 false 46 rfl rfl rfl rfl rfl (y_cs rfl rfl rfl (fun _ _ => by kernel_rfl) (ev_func _) (vsC rfl vsN) (flaw_few g g0 g1 g2 T_g0 T_g1 T_g2 _  B108 B109 B110 ) (fun e_ w_ h_ => ⟨_, h_.1, (congrArg Value.bool d514), h_.2⟩)) ?_))
       rintro _ w554 ⟨rfl, k555⟩
       have B556 := B107.all k555 Apart.none
       have B557 := B108.all k555 Apart.none
       have B558 := B109.all k555 Apart.none
       have B559 := B110.all k555 Apart.none
       have B560 := B111.all k555 Apart.none
       have B561 := B112.all k555 Apart.none
       have B562 := B113.all k555 Apart.none
       have B563 := B114.all k555 id
       have B564 := B115.all k555 id
       have B565 := B116.all k555 id
       have B566 := B117.all k555 id
       have K567 := K118.tr k555
       refine wl_vw (.bool false) 23 false 46 rfl rfl rfl rfl rfl (y_not rfl rfl rfl rr) (wl_v (.bool false) rfl rfl (y_pickF rfl rfl rfl rr) (wl_v (.bool false) rfl rfl (y_mov rfl rfl rr) (wl_vw (.agg #[iv (h.W), iv (h.H), h0, h1, h2]) 28 false 51 rfl rfl rfl rfl rfl (y_load_stc stcT_frame rfl s126 B566 rr) (wl_callw (R := fun v_ w_ => v_ = .bool false ∧ Kept (fun _ => False) w554 w_) 28 false 51 rfl rfl rfl rfl rfl (y_cs rfl rfl rfl (fun _ _ => by kernel_rfl) (ev_func _) (vsC rfl vsN) (flaw_few h h0 h1 h2 T_h0 T_h1 T_h2 _  B560 B561 B562 ) (fun e_ w_ h_ => ⟨_, h_.1, (congrArg Value.bool d515), h_.2⟩)) ?_))))
       rintro _ w568 ⟨rfl, k569⟩
       have B570 := B556.all k569 Apart.none
       have B571 := B557.all k569 Apart.none
       have B572 := B558.all k569 Apart.none
       have B573 := B559.all k569 Apart.none
       have B574 := B560.all k569 Apart.none
       have B575 := B561.all k569 Apart.none
       have B576 := B562.all k569 Apart.none
       have B577 := B563.all k569 id
       have B578 := B564.all k569 id
       have B579 := B565.all k569 id
       have B580 := B566.all k569 id
       have K581 := K567.tr k569
       refine wl_vw (.bool true) 28 false 51 rfl rfl rfl rfl rfl (y_not rfl rfl rfl rr) (wl_v (.bool true) rfl rfl (y_pickF rfl rfl rfl rr) (wl_nil fun F582 hF583 => ?_))
       obtain ⟨s584, s585, s586, s587, s588, s589, s590⟩ := t7 hF583 2 s121 121 s122 5 s123 6 s124 8 s125 9 s126 11 s127
       have s591 : F582 55 = .bool true := (hF583 55).trans rfl
       clear hF583
       exact ⟨s591.trans (congrArg Value.bool (show true = decide (bigP W H ∨ 1000 < l.length ∨ fewF g = false ∨ fewF h = false) from (by rw [Bool.eq_iff_iff, decide_eq_true_iff]; unfold bigP; first | (simp [*]; done) | (simp [*]; omega) | (simp_all; done) | (simp_all; omega)))), s584, s586, s587, s588, s589, s590, s585, K581, B570, B571, B572, B573, B574, B575, B576, B577, B578, B579, B580⟩
     ·skip
      refine wq_region (wl_v (pt p1 0) rfl rfl (y_fieldR (n := 1) rfl s123 Tryz.underlying23 rfl (by kernel_rfl) (by decide) rfl rr) (wl_v (iv W) rfl rfl (y_ld_stc rfl rfl Tryz.underlying3 B114 rfl rfl rr) (wl_v (.bool false) rfl rfl (y_gtr rfl rfl rfl (decide_eq_false d128) rr) (wl_v (.bool false) rfl rfl (y_mov rfl rfl rr) (wl_unless 3 true 26 rfl rfl rfl (Or.inl rfl) rfl (wl_unless 3 true 26 rfl rfl rfl (Or.inl rfl) rfl (wl_unless 3 true 26 rfl rfl rfl (Or.inl rfl) rfl (wl_v (.bool false) rfl rfl (y_pickF rfl rfl rfl rr) (wl_v (.bool false) rfl rfl (y_mov rfl rfl rr) (wl_vw (pt p1 1) 8 false 31 rfl rfl rfl rfl rfl (y_fieldR (n := 1) rfl s123 Tryz.underlying23 rfl (by kernel_rfl) (by decide) rfl rr) (wl_vw (iv H) 8 false 31 rfl rfl rfl rfl rfl (y_ld_stc rfl rfl Tryz.underlying3 B114 rfl rfl rr) ?_)))))))))))
      refine wl_vw (.bool false) 8 false 31 rfl rfl rfl rfl rfl (y_gtr rfl rfl rfl (decide_eq_false d378) rr) (wl_vw (.bool false) 8 false 31 rfl rfl rfl rfl rfl (y_mov rfl rfl rr) (wl_unless 12 true 35 rfl rfl rfl (Or.inl rfl) rfl (wl_unless 12 true 35 rfl rfl rfl (Or.inl rfl) rfl (wl_unless 12 true 35 rfl rfl rfl (Or.inl rfl) rfl (wl_vw (.bool false) 8 false 31 rfl rfl rfl rfl rfl (y_pickF rfl rfl rfl rr) (wl_v (.bool false) rfl rfl (y_pickF rfl rfl rfl rr) (wl_v (.bool false) rfl rfl (y_mov rfl rfl rr) (wl_vw v 18 false 41 rfl rfl rfl rfl rfl (y_mov rfl s121 rr) (wl_vw (iv ((l.length : Nat) : Int)) 18 false 41 rfl rfl rfl rfl rfl (y_lenV rfl rfl rfl B107 rr) (wl_vw (.bool false) 18 false 41 rfl rfl rfl rfl rfl (y_gtr rfl rfl rfl (decide_eq_false d503) rr) (wl_v (.bool false) rfl rfl (y_pickF rfl rfl rfl rr) ?_)))))))))))
      refine wl_v (.bool false) rfl rfl (y_mov rfl rfl rr) (wl_vw (.agg #[iv (g.W), iv (g.H), g0, g1, g2]) 23 false 46 rfl rfl rfl rfl rfl (y_load_stc stcT_frame rfl s125 B116 rr) (wl_callw (R := fun v_ w_ => v_ = .bool false ∧ Kept (fun _ => False) w105 w_) 23 false 46 rfl rfl rfl rfl rfl (y_cs rfl rfl rfl (fun _ _ => by kernel_rfl) (ev_func _) (vsC rfl vsN) (flaw_few g g0 g1 g2 T_g0 T_g1 T_g2 _  B108 B109 B110 ) (fun e_ w_ h_ => ⟨_, h_.1, (congrArg Value.bool d514), h_.2⟩)) ?_))
      rintro _ w592 ⟨rfl, k593⟩
      have B594 := B107.all k593 Apart.none
      have B595 := B108.all k593 Apart.none
      have B596 := B109.all k593 Apart.none
      have B597 := B110.all k593 Apart.none
      have B598 := B111.all k593 Apart.none
      have B599 := B112.all k593 Apart.none
      have B600 := B113.all k593 Apart.none
      have B601 := B114.all k593 id
      have B602 := B115.all k593 id
      have B603 := B116.all k593 id
      have B604 := B117.all k593 id
      have K605 := K118.tr k593
      refine wl_vw (.bool true) 23 false 46 rfl rfl rfl rfl rfl (y_not rfl rfl rfl rr) (wl_v (.bool true) rfl rfl (y_pickF rfl rfl rfl rr) (wl_v (.bool true) rfl rfl (y_mov rfl rfl rr) (wl_unless 28 false 51 rfl rfl rfl (Or.inl rfl) rfl (wl_unless 28 false 51 rfl rfl rfl (Or.inl rfl) rfl (wl_unless 28 false 51 rfl rfl rfl (Or.inl rfl) rfl (wl_v (.bool true) rfl rfl (y_pickT rfl rfl rfl rr) (wl_nil fun F606 hF607 => ?_)))))))
      obtain ⟨s608, s609, s610, s611, s612, s613, s614⟩ := t7 hF607 2 s121 121 s122 5 s123 6 s124 8 s125 9 s126 11 s127
      have s615 : F606 55 = .bool true := (hF607 55).trans rfl
      clear hF607
      exact ⟨s615.trans (congrArg Value.bool (show true = decide (bigP W H ∨ 1000 < l.length ∨ fewF g = false ∨ fewF h = false) from (by rw [Bool.eq_iff_iff, decide_eq_true_iff]; unfold bigP; first | (simp [*]; done) | (simp [*]; omega) | (simp_all; done) | (simp_all; omega)))), s608, s610, s611, s612, s613, s614, s609, K605, B594, B595, B596, B597, B598, B599, B600, B601, B602, B603, B604⟩
 ·rintro F616 w617 ⟨s619, s620, s621, s622, s623, s624, s625, s626, K618, B627, B628, B629, B630, B631, B632, B633, B634, B635, B636, B637⟩
  refine then_normal ?_
  refine wq_cond s619 (fun c638 => ?_) (fun c638 => ?_)
  ·replace c638 := of_decide_eq_true c638
   refine wq_seq (wq_region (wl_mv rfl rfl rfl s625 (wl_v (.bool true) rfl rfl (y_asg rfl rfl rr) (wl_nil fun F639 hF640 => ?_))))
   have s641 := (hF640 121).trans s626
   have s642 : F639 10 = .bool true := (hF640 10).trans rfl
   clear hF640
   refine then_normal (wq_ret (then_ret ?_))
   exact end_tmp (v := .bool true) s641 rfl rfl s642 ⟨rfl, K618⟩
  ·replace c638 := of_decide_eq_false c638
   refine wq_skip (then_normal (wq_seq (wq_region (wl_v (.agg #[iv W, iv H, iv R, iv B]) rfl rfl (y_load_stc stcT_seq rfl s621 B634 rr) (wl_v (.agg #[iv K, iv Q, iv D, iv F]) rfl rfl (y_load_stc stcT_head rfl s622 B635 rr) (wl_mv rfl rfl rfl s620 (wl_call (R := fun v_ w_ => ∃ (v643 : Value) (T646 : Nat → Prop), .tuple #[v643, iv ((chsE l W H R B K Q D F).2)] = v_ ∧ Kept (fun _ => False) w617 w_ ∧ (RoO rCh w_ T646 v643 ((chsE l W H R B K Q D F).1) ∧ Grew w617 noB T646)) rfl rfl (y_cs rfl rfl rfl (fun _ _ => by kernel_rfl) (ev_func _) (vsC rfl (vsC rfl (vsC rfl vsN))) (pc_choices W H R B K Q D F v l T_b _ (hA.all K618) (hO.all K618) (by first | omega | (simp; omega)) B627 ) (fun e_ w_ h_ => by obtain ⟨v643_, T646_, he_, hr_⟩ := h_; exact ⟨_, he_, v643_, T646_, rfl, hr_⟩)) ?_)))))))
   rintro _ w644 ⟨v643, T646, rfl, k645, ⟨B647, g648⟩⟩
   have B649 := B627.all k645 Apart.none
   have B650 := B628.all k645 Apart.none
   have B651 := B629.all k645 Apart.none
   have B652 := B630.all k645 Apart.none
   have B653 := B631.all k645 Apart.none
   have B654 := B632.all k645 Apart.none
   have B655 := B633.all k645 Apart.none
   have B656 := B634.all k645 id
   have B657 := B635.all k645 id
   have B658 := B636.all k645 id
   have B659 := B637.all k645 id
   have K660 := K618.tr k645
   refine wl_v (.tuple #[v643, iv ((chsE l W H R B K Q D F).2)]) rfl rfl (y_mov rfl rfl rr) (wl_v v643 rfl rfl (y_ext rfl rfl rfl rr) (wl_v (iv ((chsE l W H R B K Q D F).2)) rfl rfl (y_ext rfl rfl rfl rr) (wl_v v643 rfl rfl (y_asg rfl rfl rr) (wl_v (iv ((chsE l W H R B K Q D F).2)) rfl rfl (y_asg rfl rfl rr) (wl_nil fun F673 hF674 => ?_)))))
   obtain ⟨s675, s676, s677, s678, s679, s680, s681⟩ := t7 hF674 2 s620 5 s621 6 s622 8 s623 9 s624 11 s625 121 s626
   have s682 : F673 12 = v643 := (hF674 12).trans rfl
   have s683 : F673 13 = iv ((chsE l W H R B K Q D F).2) := (hF674 13).trans rfl
   clear hF674
   refine then_normal (wq_seq (wq_region (wl_v (.agg #[iv W, iv H, iv R, iv B]) rfl rfl (y_load_stc stcT_seq rfl s676 B656 rr) (wl_v (.agg #[iv K, iv Q, iv D, iv F]) rfl rfl (y_load_stc stcT_head rfl s677 B657 rr) (wl_mv rfl rfl rfl s675 (wl_call (R := fun v_ w_ => ∃ (v684 : Value) (T687 : Nat → Prop), .tuple #[v684, iv ((chsE l W H R B K Q D F).2)] = v_ ∧ Kept (fun _ => False) w644 w_ ∧ (RoO rCh w_ T687 v684 ((chsE l W H R B K Q D F).1) ∧ Grew w644 noB T687)) rfl rfl (y_cs rfl rfl rfl (fun _ _ => by kernel_rfl) (ev_func _) (vsC rfl (vsC rfl (vsC rfl vsN))) (pcref_choices W H R B K Q D F v l T_b _ (by omega) B649 ) (fun e_ w_ h_ => by obtain ⟨v684_, T687_, he_, hr_⟩ := h_; exact ⟨_, he_, v684_, T687_, rfl, hr_⟩)) ?_))))))
   rintro _ w685 ⟨v684, T687, rfl, k686, ⟨B688, g689⟩⟩
   have B690 := B649.all k686 Apart.none
   have B691 := B650.all k686 Apart.none
   have B692 := B651.all k686 Apart.none
   have B693 := B652.all k686 Apart.none
   have B694 := B653.all k686 Apart.none
   have B695 := B654.all k686 Apart.none
   have B696 := B655.all k686 Apart.none
   have B697 := B656.all k686 id
   have B698 := B657.all k686 id
   have B699 := B658.all k686 id
   have B700 := B659.all k686 id
   have B701 := B647.all k686 Apart.none
   have K702 := K660.tr k686
   refine wl_v (.tuple #[v684, iv ((chsE l W H R B K Q D F).2)]) rfl rfl (y_mov rfl rfl rr) (wl_v v684 rfl rfl (y_ext rfl rfl rfl rr) (wl_v (iv ((chsE l W H R B K Q D F).2)) rfl rfl (y_ext rfl rfl rfl rr) (wl_v v684 rfl rfl (y_asg rfl rfl rr) (wl_v (iv ((chsE l W H R B K Q D F).2)) rfl rfl (y_asg rfl rfl rr) (wl_nil fun F716 hF717 => ?_)))))
   obtain ⟨s718, s719, s720, s721, s722, s723, s724, s725, s726⟩ := t9 hF717 2 s675 5 s676 6 s677 8 s678 9 s679 11 s680 121 s681 12 s682 13 s683
   have s727 : F716 14 = v684 := (hF717 14).trans rfl
   have s728 : F716 15 = iv ((chsE l W H R B K Q D F).2) := (hF717 15).trans rfl
   clear hF717
   refine then_normal (wq_seq (wq_region (wl_v (.agg #[iv W, iv H, iv R, iv B]) rfl rfl (y_load_stc stcT_seq rfl s719 B697 rr) (wl_v (.agg #[iv K, iv Q, iv D, iv F]) rfl rfl (y_load_stc stcT_head rfl s720 B698 rr) (wl_mv rfl rfl rfl s718 (wl_v (.agg #[iv (g.W), iv (g.H), g0, g1, g2]) rfl rfl (y_load_stc stcT_frame rfl s721 B699 rr) (wl_v (.agg #[iv (h.W), iv (h.H), h0, h1, h2]) rfl rfl (y_load_stc stcT_frame rfl s722 B700 rr) (wl_call (R := fun v_ w_ => ∃ (v729 : Value) (T734 : Nat → Prop) (v730 : Value) (T735 : Nat → Prop) (v731 : Value) (T736 : Nat → Prop), .tuple #[.agg #[iv ((decF l W H R B K Q D F g h).W), iv ((decF l W H R B K Q D F g h).H), v729, v730, v731], iv (decE l W H R B K Q D F g h)] = v_ ∧ Kept (fun _ => False) w685 w_ ∧ (Owb w_ T734 v729 ((decF l W H R B K Q D F g h).p0) ∧ Grew w685 noB T734) ∧ (Owb w_ T735 v730 ((decF l W H R B K Q D F g h).p1) ∧ Grew w685 noB T735) ∧ (Owb w_ T736 v731 ((decF l W H R B K Q D F g h).p2) ∧ Grew w685 noB T736) ∧ Apart T734 T735 ∧ Apart T734 T736 ∧ Apart T735 T736) rfl rfl (y_cs rfl rfl rfl (fun _ _ => by kernel_rfl) (ev_func _) (vsC rfl (vsC rfl (vsC rfl (vsC rfl (vsC rfl vsN))))) (pc_decode W H R B K Q D F v l g g0 g1 g2 h h0 h1 h2 T_b T_g0 T_g1 T_g2 T_h0 T_h1 T_h2 _ (hA.all K702) (hO.all K702) (hs.all K702) (hw.all K702) (by omega) B690 B691 B692 B693 B694 B695 B696 ) (fun e_ w_ h_ => by obtain ⟨v729_, T734_, v730_, T735_, v731_, T736_, he_, hr_⟩ := h_; exact ⟨_, he_, v729_, T734_, v730_, T735_, v731_, T736_, rfl, hr_⟩)) ?_))))))))
   rintro _ w732 ⟨v729, T734, v730, T735, v731, T736, rfl, k733, ⟨B737, g740⟩, ⟨B738, g741⟩, ⟨B739, g742⟩, ap743, ap744, ap745⟩
   have B746 := B690.all k733 Apart.none
   have B747 := B691.all k733 Apart.none
   have B748 := B692.all k733 Apart.none
   have B749 := B693.all k733 Apart.none
   have B750 := B694.all k733 Apart.none
   have B751 := B695.all k733 Apart.none
   have B752 := B696.all k733 Apart.none
   have B753 := B697.all k733 id
   have B754 := B698.all k733 id
   have B755 := B699.all k733 id
   have B756 := B700.all k733 id
   have B757 := B701.all k733 Apart.none
   have B758 := B688.all k733 Apart.none
   have K759 := K702.tr k733
   refine wl_v (.tuple #[.agg #[iv ((decF l W H R B K Q D F g h).W), iv ((decF l W H R B K Q D F g h).H), v729, v730, v731], iv (decE l W H R B K Q D F g h)]) rfl rfl (y_mov rfl rfl rr) (wl_v (.agg #[iv ((decF l W H R B K Q D F g h).W), iv ((decF l W H R B K Q D F g h).H), v729, v730, v731]) rfl rfl (y_ext rfl rfl rfl rr) (wl_v (iv (decE l W H R B K Q D F g h)) rfl rfl (y_ext rfl rfl rfl rr) (wl_alloc_stc (n := 5) (vs := [iv 0, iv 0, .slice none 0 0, .slice none 0 0, .slice none 0 0]) rfl rfl rfl (by kernel_rfl) fun p802 w803 B805 g806 k804 => ?_)))
   have gr807 : Grew w0 noB (onB p802) := Grew.new K759 g806
   have ap808 : Apart (onB p802) T_b := Apart.new g806 B746.live
   have ap809 : Apart (onB p802) T_g0 := Apart.new g806 B747.live
   have ap810 : Apart (onB p802) T_g1 := Apart.new g806 B748.live
   have ap811 : Apart (onB p802) T_g2 := Apart.new g806 B749.live
   have ap812 : Apart (onB p802) T_h0 := Apart.new g806 B750.live
   have ap813 : Apart (onB p802) T_h1 := Apart.new g806 B751.live
   have ap814 : Apart (onB p802) T_h2 := Apart.new g806 B752.live
   have ap815 : Apart (onB p802) (onB p1) := Apart.new g806 (onB_live B753.lt)
   have ap816 : Apart (onB p802) (onB p22) := Apart.new g806 (onB_live B754.lt)
   have ap817 : Apart (onB p802) (onB p45) := Apart.new g806 (onB_live B755.lt)
   have ap818 : Apart (onB p802) (onB p70) := Apart.new g806 (onB_live B756.lt)
   have ap819 : Apart (onB p802) T646 := Apart.new g806 B757.live
   have ap820 : Apart (onB p802) T687 := Apart.new g806 B758.live
   have ap821 : Apart (onB p802) T734 := Apart.new g806 B737.live
   have ap822 : Apart (onB p802) T735 := Apart.new g806 B738.live
   have ap823 : Apart (onB p802) T736 := Apart.new g806 B739.live
   have B824 := B746.all k804 Apart.none
   have B825 := B747.all k804 Apart.none
   have B826 := B748.all k804 Apart.none
   have B827 := B749.all k804 Apart.none
   have B828 := B750.all k804 Apart.none
   have B829 := B751.all k804 Apart.none
   have B830 := B752.all k804 Apart.none
   have B831 := B753.all k804 id
   have B832 := B754.all k804 id
   have B833 := B755.all k804 id
   have B834 := B756.all k804 id
   have B835 := B757.all k804 Apart.none
   have B836 := B758.all k804 Apart.none
   have B837 := B737.all k804 Apart.none
   have B838 := B738.all k804 Apart.none
   have B839 := B739.all k804 Apart.none
   have K840 := K759.tr k804
   refine wl_store_stc (us := [iv ((decF l W H R B K Q D F g h).W), iv ((decF l W H R B K Q D F g h).H), v729, v730, v731]) stcT_frame rfl rfl rfl rfl rfl B805 rfl (oneI rfl (oneI rfl (oneI B837.one (oneI B838.one (oneI B839.one oneN))))) fun w841 B842 k843 => ?_
   have B844 := B824.all k843 ap808.symm
   have B845 := B825.all k843 ap809.symm
   have B846 := B826.all k843 ap810.symm
   have B847 := B827.all k843 ap811.symm
   have B848 := B828.all k843 ap812.symm
   have B849 := B829.all k843 ap813.symm
   have B850 := B830.all k843 ap814.symm
   have B851 := B831.all k843 (ap815.symm p1 rfl)
   have B852 := B832.all k843 (ap816.symm p22 rfl)
   have B853 := B833.all k843 (ap817.symm p45 rfl)
   have B854 := B834.all k843 (ap818.symm p70 rfl)
   have B855 := B835.all k843 ap819.symm
   have B856 := B836.all k843 ap820.symm
   have B857 := B837.all k843 ap821.symm
   have B858 := B838.all k843 ap822.symm
   have B859 := B839.all k843 ap823.symm
   have K860 := K840.trans k843 (Grew.ok (S := fun _ => False) gr807 noB_le)
   refine wl_v (iv (decE l W H R B K Q D F g h)) rfl rfl (y_asg rfl rfl rr) (wl_nil fun F861 hF862 => ?_)
   obtain ⟨s863, s864, s865, s866, s867, s868, s869, s870, s871, s872, s873⟩ := t11 hF862 2 s718 5 s719 6 s720 8 s721 9 s722 11 s723 121 s724 12 s725 13 s726 14 s727 15 s728
   have s874 : F861 16 = pt p802 0 := (hF862 16).trans rfl
   have s875 : F861 17 = iv (decE l W H R B K Q D F g h) := (hF862 17).trans rfl
   clear hF862
   refine then_normal (wq_seq (wq_region (wl_v (.agg #[iv W, iv H, iv R, iv B]) rfl rfl (y_load_stc stcT_seq rfl s864 B851 rr) (wl_v (.agg #[iv K, iv Q, iv D, iv F]) rfl rfl (y_load_stc stcT_head rfl s865 B852 rr) (wl_mv rfl rfl rfl s863 (wl_v (.agg #[iv (g.W), iv (g.H), g0, g1, g2]) rfl rfl (y_load_stc stcT_frame rfl s866 B853 rr) (wl_v (.agg #[iv (h.W), iv (h.H), h0, h1, h2]) rfl rfl (y_load_stc stcT_frame rfl s867 B854 rr) (wl_call (R := fun v_ w_ => ∃ (v876 : Value) (T881 : Nat → Prop) (v877 : Value) (T882 : Nat → Prop) (v878 : Value) (T883 : Nat → Prop), .tuple #[.agg #[iv ((decF l W H R B K Q D F g h).W), iv ((decF l W H R B K Q D F g h).H), v876, v877, v878], iv (decE l W H R B K Q D F g h)] = v_ ∧ Kept (fun _ => False) w841 w_ ∧ (Owb w_ T881 v876 ((decF l W H R B K Q D F g h).p0) ∧ Grew w841 noB T881) ∧ (Owb w_ T882 v877 ((decF l W H R B K Q D F g h).p1) ∧ Grew w841 noB T882) ∧ (Owb w_ T883 v878 ((decF l W H R B K Q D F g h).p2) ∧ Grew w841 noB T883) ∧ Apart T881 T882 ∧ Apart T881 T883 ∧ Apart T882 T883) rfl rfl (y_cs rfl rfl rfl (fun _ _ => by kernel_rfl) (ev_func _) (vsC rfl (vsC rfl (vsC rfl (vsC rfl (vsC rfl vsN))))) (pcref_decode W H R B K Q D F v l g g0 g1 g2 h h0 h1 h2 T_b T_g0 T_g1 T_g2 T_h0 T_h1 T_h2 _ (by omega) B844 B845 B846 B847 B848 B849 B850 ) (fun e_ w_ h_ => by obtain ⟨v876_, T881_, v877_, T882_, v878_, T883_, he_, hr_⟩ := h_; exact ⟨_, he_, v876_, T881_, v877_, T882_, v878_, T883_, rfl, hr_⟩)) ?_))))))))
   rintro _ w879 ⟨v876, T881, v877, T882, v878, T883, rfl, k880, ⟨B884, g887⟩, ⟨B885, g888⟩, ⟨B886, g889⟩, ap890, ap891, ap892⟩
   have B894 := B845.all k880 Apart.none
   have B895 := B846.all k880 Apart.none
   have B896 := B847.all k880 Apart.none
   have B900 := B851.all k880 id
   have B902 := B853.all k880 id
   have B904 := B855.all k880 Apart.none
   have B905 := B856.all k880 Apart.none
   have B906 := B857.all k880 Apart.none
   have B907 := B858.all k880 Apart.none
   have B908 := B859.all k880 Apart.none
   have B909 := B842.all k880 id
   have K910 := K860.tr k880
   refine wl_v (.tuple #[.agg #[iv ((decF l W H R B K Q D F g h).W), iv ((decF l W H R B K Q D F g h).H), v876, v877, v878], iv (decE l W H R B K Q D F g h)]) rfl rfl (y_mov rfl rfl rr) (wl_v (.agg #[iv ((decF l W H R B K Q D F g h).W), iv ((decF l W H R B K Q D F g h).H), v876, v877, v878]) rfl rfl (y_ext rfl rfl rfl rr) (wl_v (iv (decE l W H R B K Q D F g h)) rfl rfl (y_ext rfl rfl rfl rr) (wl_alloc_stc (n := 5) (vs := [iv 0, iv 0, .slice none 0 0, .slice none 0 0, .slice none 0 0]) rfl rfl rfl (by kernel_rfl) fun p965 w966 B968 g969 k967 => ?_)))
   have gr970 : Grew w0 noB (onB p965) := Grew.new K910 g969
   have ap972 : Apart (onB p965) T_g0 := Apart.new g969 B894.live
   have ap973 : Apart (onB p965) T_g1 := Apart.new g969 B895.live
   have ap974 : Apart (onB p965) T_g2 := Apart.new g969 B896.live
   have ap978 : Apart (onB p965) (onB p1) := Apart.new g969 (onB_live B900.lt)
   have ap980 : Apart (onB p965) (onB p45) := Apart.new g969 (onB_live B902.lt)
   have ap982 : Apart (onB p965) T646 := Apart.new g969 B904.live
   have ap983 : Apart (onB p965) T687 := Apart.new g969 B905.live
   have ap984 : Apart (onB p965) T734 := Apart.new g969 B906.live
   have ap985 : Apart (onB p965) T735 := Apart.new g969 B907.live
   have ap986 : Apart (onB p965) T736 := Apart.new g969 B908.live
   have ap987 : Apart (onB p965) (onB p802) := Apart.new g969 (onB_live B909.lt)
   have ap988 : Apart (onB p965) T881 := Apart.new g969 B884.live
   have ap989 : Apart (onB p965) T882 := Apart.new g969 B885.live
   have ap990 : Apart (onB p965) T883 := Apart.new g969 B886.live
   have B992 := B894.all k967 Apart.none
   have B993 := B895.all k967 Apart.none
   have B994 := B896.all k967 Apart.none
   have B998 := B900.all k967 id
   have B1000 := B902.all k967 id
   have B1002 := B904.all k967 Apart.none
   have B1003 := B905.all k967 Apart.none
   have B1004 := B906.all k967 Apart.none
   have B1005 := B907.all k967 Apart.none
   have B1006 := B908.all k967 Apart.none
   have B1007 := B909.all k967 id
   have B1008 := B884.all k967 Apart.none
   have B1009 := B885.all k967 Apart.none
   have B1010 := B886.all k967 Apart.none
   have K1011 := K910.tr k967
   refine wl_store_stc (us := [iv ((decF l W H R B K Q D F g h).W), iv ((decF l W H R B K Q D F g h).H), v876, v877, v878]) stcT_frame rfl rfl rfl rfl rfl B968 rfl (oneI rfl (oneI rfl (oneI B1008.one (oneI B1009.one (oneI B1010.one oneN))))) fun w1012 B1013 k1014 => ?_
   have B1016 := B992.all k1014 ap972.symm
   have B1017 := B993.all k1014 ap973.symm
   have B1018 := B994.all k1014 ap974.symm
   have B1022 := B998.all k1014 (ap978.symm p1 rfl)
   have B1024 := B1000.all k1014 (ap980.symm p45 rfl)
   have B1026 := B1002.all k1014 ap982.symm
   have B1027 := B1003.all k1014 ap983.symm
   have B1028 := B1004.all k1014 ap984.symm
   have B1029 := B1005.all k1014 ap985.symm
   have B1030 := B1006.all k1014 ap986.symm
   have B1031 := B1007.all k1014 (ap987.symm p802 rfl)
   have B1032 := B1008.all k1014 ap988.symm
   have B1033 := B1009.all k1014 ap989.symm
   have B1034 := B1010.all k1014 ap990.symm
   have K1035 := K1011.trans k1014 (Grew.ok (S := fun _ => False) gr970 noB_le)
   refine wl_v (iv (decE l W H R B K Q D F g h)) rfl rfl (y_asg rfl rfl rr) (wl_nil fun F1036 hF1037 => ?_)
   obtain ⟨s1038, s1039, s1040, s1041, s1042, s1043, s1044, s1045, s1046, s1047⟩ := t10 hF1037 5 s864 8 s866 11 s868 121 s869 12 s870 13 s871 14 s872 15 s873 16 s874 17 s875
   have s1048 : F1036 18 = pt p965 0 := (hF1037 18).trans rfl
   have s1049 : F1036 19 = iv (decE l W H R B K Q D F g h) := (hF1037 19).trans rfl
   clear hF1037
   refine then_normal (wq_seq (wq_region (wl_mv rfl rfl rfl s1042 (wl_mv rfl rfl rfl s1044 (wl_call (R := fun v_ w_ => v_ = .bool true ∧ Kept (fun _ => False) w1012 w_) rfl rfl (y_cs rfl rfl rfl (fun _ _ => by kernel_rfl) (ev_func _) (vsC rfl (vsC rfl vsN)) (pcref_same v643 ((chsE l W H R B K Q D F).1) v684 ((chsE l W H R B K Q D F).1) T646 T687 _  B1026.roa B1027.roa ) (fun e_ w_ h_ => ⟨_, h_.1, congrArg Value.bool (sameChs_self _), h_.2⟩)) ?_)))))
   rintro _ w1050 ⟨rfl, k1051⟩
   have B1053 := B1016.all k1051 Apart.none
   have B1054 := B1017.all k1051 Apart.none
   have B1055 := B1018.all k1051 Apart.none
   have B1059 := B1022.all k1051 id
   have B1061 := B1024.all k1051 id
   have B1065 := B1028.all k1051 Apart.none
   have B1066 := B1029.all k1051 Apart.none
   have B1067 := B1030.all k1051 Apart.none
   have B1068 := B1031.all k1051 id
   have B1069 := B1032.all k1051 Apart.none
   have B1070 := B1033.all k1051 Apart.none
   have B1071 := B1034.all k1051 Apart.none
   have B1072 := B1013.all k1051 id
   have K1073 := K1035.tr k1051
   refine wl_v (.bool true) rfl rfl (y_asg rfl rfl rr) (wl_nil fun F1074 hF1075 => ?_)
   obtain ⟨s1076, s1077, s1078, s1079, s1080, s1081, s1082, s1083, s1084, s1085⟩ := t10 hF1075 5 s1038 8 s1039 11 s1040 121 s1041 13 s1043 15 s1045 16 s1046 17 s1047 18 s1048 19 s1049
   have s1086 : F1074 20 = .bool true := (hF1075 20).trans rfl
   clear hF1075
   refine then_normal (wq_seq (wq_region (wl_v (.agg #[iv ((decF l W H R B K Q D F g h).W), iv ((decF l W H R B K Q D F g h).H), v729, v730, v731]) rfl rfl (y_load_stc stcT_frame rfl s1082 B1068 rr) (wl_v (.agg #[iv ((decF l W H R B K Q D F g h).W), iv ((decF l W H R B K Q D F g h).H), v876, v877, v878]) rfl rfl (y_load_stc stcT_frame rfl s1084 B1072 rr) (wl_call (R := fun v_ w_ => v_ = .bool true ∧ Kept (fun _ => False) w1050 w_) rfl rfl (y_cs rfl rfl rfl (fun _ _ => by kernel_rfl) (ev_func _) (vsC rfl (vsC rfl vsN)) (fref_same (decF l W H R B K Q D F g h) v729 v730 v731 (decF l W H R B K Q D F g h) v876 v877 v878 T734 T735 T736 T881 T882 T883 _  B1065.byt B1066.byt B1067.byt B1069.byt B1070.byt B1071.byt ) (fun e_ w_ h_ => ⟨_, h_.1, congrArg Value.bool (sameF_me _), h_.2⟩)) ?_)))))
   rintro _ w1087 ⟨rfl, k1088⟩
   have B1090 := B1053.all k1088 Apart.none
   have B1091 := B1054.all k1088 Apart.none
   have B1092 := B1055.all k1088 Apart.none
   have B1096 := B1059.all k1088 id
   have B1098 := B1061.all k1088 id
   have K1110 := K1073.tr k1088
   refine wl_v (.bool true) rfl rfl (y_asg rfl rfl rr) (wl_nil fun F1111 hF1112 => ?_)
   obtain ⟨s1113, s1114, s1115, s1116, s1117, s1118, s1119, s1120, s1121⟩ := t9 hF1112 5 s1076 8 s1077 11 s1078 121 s1079 13 s1080 15 s1081 17 s1083 19 s1085 20 s1086
   have s1122 : F1111 21 = .bool true := (hF1112 21).trans rfl
   clear hF1112
   refine then_normal (wq_seq ?_)
   refine wq_said [some 95, some 96, some 97, some 98, some 99, some 100, some 101, some 102, some 103, some 104, some 105, some 106, some 107, some 108, some 109, some 110, some 111, some 112, some 113, some 114, some 115, some 116, some 117, some 118, some 119, some 120, some 10] [Pd.eq (.bool true), Pd.eq (.bool true), Pd.eq (.bool true), Pd.eq (.bool true), Pd.eq (.bool true), Pd.eq (iv ((chsE l W H R B K Q D F).2)), Pd.eq (iv ((chsE l W H R B K Q D F).2)), Pd.eq (.bool true), Pd.eq (.bool true), Pd.eq (.bool true), Pd.eq (.bool true), Pd.eq (.bool true), Pd.eq (.bool true), Pd.eq (iv (decE l W H R B K Q D F g h)), Pd.eq (iv (decE l W H R B K Q D F g h)), Pd.eq (.bool true), Pd.eq (.bool true), Pd.eq (.bool true), Pd.eq (.agg #[iv W, iv H, iv R, iv B]), Pd.eq (.agg #[iv (g.W), iv (g.H), g0, g1, g2]), Pd.eq (.bool (decide (fitsP W H R B g))), Pd.eq (.agg #[iv W, iv H, iv R, iv B]), Pd.eq (.agg #[iv (g.W), iv (g.H), g0, g1, g2]), Pd.eq (.bool (decide (fitsP W H R B g))), Pd.eq (.bool true), Pd.eq (.bool true), Pd.eq (.bool true)] (by kernel_rfl) (by kernel_rfl) ?_ ?_
   ·refine stepsF_cons ?_ ?_
    ·refine StepF.one rfl fun F_ w_ hR hout hD => ?_
     exact (y_mov rfl ((hout 11 rfl (by decide)).trans s1115) ⟨rfl, Kept.refl _ _⟩)
    refine stepsF_cons ?_ ?_
    ·refine StepF.one rfl fun F_ w_ hR hout hD => ?_
     have g95 : F_ 95 = .bool true := (hD.get 0 rfl rfl rfl)
     exact (y_mov rfl g95 ⟨rfl, Kept.refl _ _⟩)
    refine stepsF_cons ?_ ?_
    ·refine StepF.when 1 true 96 rfl rfl fun F_ w_ hR hout hD => ?_
     have g96 : F_ 96 = .bool true := (hD.get 0 rfl rfl rfl)
     exact ⟨g96, (y_mov rfl ((hout 20 rfl (by decide)).trans s1121) ⟨rfl, Kept.refl _ _⟩)⟩
    refine stepsF_cons ?_ ?_
    ·refine StepF.one rfl fun F_ w_ hR hout hD => ?_
     have g96 : F_ 96 = .bool true := (hD.get 0 rfl rfl rfl)
     have g97 : F_ 97 = .bool true := (hD.get 1 rfl rfl rfl)
     exact (y_pickT rfl g96 g97 ⟨rfl, Kept.refl _ _⟩)
    refine stepsF_cons ?_ ?_
    ·refine StepF.one rfl fun F_ w_ hR hout hD => ?_
     have g98 : F_ 98 = .bool true := (hD.get 0 rfl rfl rfl)
     exact (y_mov rfl g98 ⟨rfl, Kept.refl _ _⟩)
    refine stepsF_cons ?_ ?_
    ·refine StepF.when 4 true 99 rfl rfl fun F_ w_ hR hout hD => ?_
     have g99 : F_ 99 = .bool true := (hD.get 0 rfl rfl rfl)
     exact ⟨g99, (y_mov rfl ((hout 13 rfl (by decide)).trans s1117) ⟨rfl, Kept.refl _ _⟩)⟩
    refine stepsF_cons ?_ ?_
    ·refine StepF.when 4 true 99 rfl rfl fun F_ w_ hR hout hD => ?_
     have g99 : F_ 99 = .bool true := (hD.get 0 rfl rfl rfl)
     exact ⟨g99, (y_mov rfl ((hout 15 rfl (by decide)).trans s1118) ⟨rfl, Kept.refl _ _⟩)⟩
    refine stepsF_cons ?_ ?_
    ·refine StepF.when 4 true 99 rfl rfl fun F_ w_ hR hout hD => ?_
     have g99 : F_ 99 = .bool true := (hD.get 2 rfl rfl rfl)
     have g100 : F_ 100 = iv ((chsE l W H R B K Q D F).2) := (hD.get 0 rfl rfl rfl)
     have g101 : F_ 101 = iv ((chsE l W H R B K Q D F).2) := (hD.get 1 rfl rfl rfl)
     exact ⟨g99, (y_eqlI rfl g100 g101 (decide_eq_true rfl) ⟨rfl, Kept.refl _ _⟩)⟩
    refine stepsF_cons ?_ ?_
    ·refine StepF.one rfl fun F_ w_ hR hout hD => ?_
     have g99 : F_ 99 = .bool true := (hD.get 0 rfl rfl rfl)
     have g102 : F_ 102 = .bool true := (hD.get 1 rfl rfl rfl)
     exact (y_pickT rfl g99 g102 ⟨rfl, Kept.refl _ _⟩)
    refine stepsF_cons ?_ ?_
    ·refine StepF.one rfl fun F_ w_ hR hout hD => ?_
     have g103 : F_ 103 = .bool true := (hD.get 0 rfl rfl rfl)
     exact (y_mov rfl g103 ⟨rfl, Kept.refl _ _⟩)
    refine stepsF_cons ?_ ?_
    ·refine StepF.when 9 true 104 rfl rfl fun F_ w_ hR hout hD => ?_
     have g104 : F_ 104 = .bool true := (hD.get 0 rfl rfl rfl)
     exact ⟨g104, (y_mov rfl ((hout 21 rfl (by decide)).trans s1122) ⟨rfl, Kept.refl _ _⟩)⟩
    refine stepsF_cons ?_ ?_
    ·refine StepF.one rfl fun F_ w_ hR hout hD => ?_
     have g104 : F_ 104 = .bool true := (hD.get 0 rfl rfl rfl)
     have g105 : F_ 105 = .bool true := (hD.get 1 rfl rfl rfl)
     exact (y_pickT rfl g104 g105 ⟨rfl, Kept.refl _ _⟩)
    refine stepsF_cons ?_ ?_
    ·refine StepF.one rfl fun F_ w_ hR hout hD => ?_
     have g106 : F_ 106 = .bool true := (hD.get 0 rfl rfl rfl)
     exact (y_mov rfl g106 ⟨rfl, Kept.refl _ _⟩)
    refine stepsF_cons ?_ ?_
    ·refine StepF.when 12 true 107 rfl rfl fun F_ w_ hR hout hD => ?_
     have g107 : F_ 107 = .bool true := (hD.get 0 rfl rfl rfl)
     exact ⟨g107, (y_mov rfl ((hout 17 rfl (by decide)).trans s1119) ⟨rfl, Kept.refl _ _⟩)⟩
    refine stepsF_cons ?_ ?_
    ·refine StepF.when 12 true 107 rfl rfl fun F_ w_ hR hout hD => ?_
     have g107 : F_ 107 = .bool true := (hD.get 0 rfl rfl rfl)
     exact ⟨g107, (y_mov rfl ((hout 19 rfl (by decide)).trans s1120) ⟨rfl, Kept.refl _ _⟩)⟩
    refine stepsF_cons ?_ ?_
    ·refine StepF.when 12 true 107 rfl rfl fun F_ w_ hR hout hD => ?_
     have g107 : F_ 107 = .bool true := (hD.get 2 rfl rfl rfl)
     have g108 : F_ 108 = iv (decE l W H R B K Q D F g h) := (hD.get 0 rfl rfl rfl)
     have g109 : F_ 109 = iv (decE l W H R B K Q D F g h) := (hD.get 1 rfl rfl rfl)
     exact ⟨g107, (y_eqlI rfl g108 g109 (decide_eq_true rfl) ⟨rfl, Kept.refl _ _⟩)⟩
    refine stepsF_cons ?_ ?_
    ·refine StepF.one rfl fun F_ w_ hR hout hD => ?_
     have g107 : F_ 107 = .bool true := (hD.get 0 rfl rfl rfl)
     have g110 : F_ 110 = .bool true := (hD.get 1 rfl rfl rfl)
     exact (y_pickT rfl g107 g110 ⟨rfl, Kept.refl _ _⟩)
    refine stepsF_cons ?_ ?_
    ·refine StepF.one rfl fun F_ w_ hR hout hD => ?_
     have g111 : F_ 111 = .bool true := (hD.get 0 rfl rfl rfl)
     exact (y_mov rfl g111 ⟨rfl, Kept.refl _ _⟩)
    refine stepsF_cons ?_ ?_
    ·refine StepF.when 17 true 112 rfl rfl fun F_ w_ hR hout hD => ?_
     have g112 : F_ 112 = .bool true := (hD.get 0 rfl rfl rfl)
     exact ⟨g112, (y_load_stc stcT_seq rfl ((hout 5 rfl (by decide)).trans s1113) (B1096.all hR id) ⟨rfl, Kept.refl _ _⟩)⟩
    refine stepsF_cons ?_ ?_
    ·refine StepF.when 17 true 112 rfl rfl fun F_ w_ hR hout hD => ?_
     have g112 : F_ 112 = .bool true := (hD.get 0 rfl rfl rfl)
     exact ⟨g112, (y_load_stc stcT_frame rfl ((hout 8 rfl (by decide)).trans s1114) (B1098.all hR id) ⟨rfl, Kept.refl _ _⟩)⟩
    refine stepsF_cons ?_ ?_
    ·refine StepF.when 17 true 112 rfl rfl fun F_ w_ hR hout hD => ?_
     have g112 : F_ 112 = .bool true := (hD.get 2 rfl rfl rfl)
     have g113 : F_ 113 = .agg #[iv W, iv H, iv R, iv B] := (hD.get 0 rfl rfl rfl)
     have g114 : F_ 114 = .agg #[iv (g.W), iv (g.H), g0, g1, g2] := (hD.get 1 rfl rfl rfl)
     exact ⟨g112, (y_cs rfl rfl rfl (fun _ _ => by kernel_rfl) (ev_func _) (vsC g113 (vsC g114 vsN)) (pc_fits W H R B g g0 g1 g2 T_g0 T_g1 T_g2 _  (B1090.all hR Apart.none) (B1091.all hR Apart.none) (B1092.all hR Apart.none) ) (fun e_ w_ h_ => ⟨_, h_.1, rfl, h_.2⟩))⟩
    refine stepsF_cons ?_ ?_
    ·refine StepF.when 17 true 112 rfl rfl fun F_ w_ hR hout hD => ?_
     have g112 : F_ 112 = .bool true := (hD.get 0 rfl rfl rfl)
     exact ⟨g112, (y_load_stc stcT_seq rfl ((hout 5 rfl (by decide)).trans s1113) (B1096.all hR id) ⟨rfl, Kept.refl _ _⟩)⟩
    refine stepsF_cons ?_ ?_
    ·refine StepF.when 17 true 112 rfl rfl fun F_ w_ hR hout hD => ?_
     have g112 : F_ 112 = .bool true := (hD.get 0 rfl rfl rfl)
     exact ⟨g112, (y_load_stc stcT_frame rfl ((hout 8 rfl (by decide)).trans s1114) (B1098.all hR id) ⟨rfl, Kept.refl _ _⟩)⟩
    refine stepsF_cons ?_ ?_
    ·refine StepF.when 17 true 112 rfl rfl fun F_ w_ hR hout hD => ?_
     have g112 : F_ 112 = .bool true := (hD.get 3 rfl rfl rfl)
     have g116 : F_ 116 = .agg #[iv W, iv H, iv R, iv B] := (hD.get 0 rfl rfl rfl)
     have g117 : F_ 117 = .agg #[iv (g.W), iv (g.H), g0, g1, g2] := (hD.get 1 rfl rfl rfl)
     exact ⟨g112, (y_cs rfl rfl rfl (fun _ _ => by kernel_rfl) (ev_func _) (vsC g116 (vsC g117 vsN)) (pcref_fits W H R B g g0 g1 g2 T_g0 T_g1 T_g2 _  (B1090.all hR Apart.none) (B1091.all hR Apart.none) (B1092.all hR Apart.none) ) (fun e_ w_ h_ => ⟨_, h_.1, rfl, h_.2⟩))⟩
    refine stepsF_cons ?_ ?_
    ·refine StepF.when 17 true 112 rfl rfl fun F_ w_ hR hout hD => ?_
     have g112 : F_ 112 = .bool true := (hD.get 2 rfl rfl rfl)
     have g115 : F_ 115 = .bool (decide (fitsP W H R B g)) := (hD.get 0 rfl rfl rfl)
     have g118 : F_ 118 = .bool (decide (fitsP W H R B g)) := (hD.get 1 rfl rfl rfl)
     exact ⟨g112, (y_eqlB rfl g115 g118 Tryz.underlying4 (beq_self_eq_true _) ⟨rfl, Kept.refl _ _⟩)⟩
    refine stepsF_cons ?_ ?_
    ·refine StepF.one rfl fun F_ w_ hR hout hD => ?_
     have g112 : F_ 112 = .bool true := (hD.get 0 rfl rfl rfl)
     have g119 : F_ 119 = .bool true := (hD.get 1 rfl rfl rfl)
     exact (y_pickT rfl g112 g119 ⟨rfl, Kept.refl _ _⟩)
    refine stepsF_cons ?_ ?_
    ·refine StepF.one rfl fun F_ w_ hR hout hD => ?_
     have g120 : F_ 120 = .bool true := (hD.get 0 rfl rfl rfl)
     exact (y_asg rfl g120 ⟨rfl, Kept.refl _ _⟩)
    exact stepsF_nil
   intro v1123 F1124 w1125 k1126 G1127 hF1128
   have K1151 := K1110.tr k1126
   have s1152 := (hF1128 121).trans s1116
   have s1153 : F1124 10 = .bool true := (hF1128 10).trans (G1127 26 (by decide))
   clear G1127 hF1128
   refine then_normal (wq_ret ?_)
   exact end_tmp (v := .bool true) s1152 rfl rfl s1153 ⟨rfl, K1151⟩
end Go.Proofs.YtknjpdcpmpfklaaGreatDoor
set_option maxRecDepth 100000
namespace Go.Proofs.YtknjpdcpmpfklaaGreatDoor
open Go.ChangeShapes Go.WideShapes Go.ChangeAt Go.RowKit
section
variable {H : Type} {enc : TypeId × Value → H} {w : World} {base : Nat} {spare : Nat → Bool} {held : Bool}
theorem BytesArg.of_row {a : Option Addr} {len cap : Nat} {zs : List Int}
    (h : (a = none ∧ len = 0 ∧ cap = 0 ∧ zs = []) ∨ ∃ x, a = some x ∧ len ≤ cap ∧ cap ≤ maxLen ∧ len ≤ zs.length ∧ (∀ i, i < zs.length → w.cell? (x.add i) = some (.int .u8 (zs.getD i 0))) ∧ ∀ n ∈ zs, (Lit.int .u8 n).wf = true) :
    ∃ l : List Nat, BytesArg w (.slice a len cap) l := by
  rcases h with ⟨rfl, rfl, rfl, rfl⟩ | ⟨x, rfl, hlc, hcm, hz, hcell, hwf⟩
  · exact ⟨[], BytesArg.nil w⟩
  · have hlen : ((zs.take len).map Int.toNat).length = len := by simp; omega
    refine ⟨(zs.take len).map Int.toNat, some x, cap, by rw [hlen], by rw [hlen]; exact hlc, hcm, by simp, ?_, ?_⟩
    · intro y hy
      obtain ⟨z, hz1, rfl⟩ := List.mem_map.1 hy
      have := bounds_u8 (hwf z (List.mem_of_mem_take hz1))
      omega
    · intro hpos
      rw [hlen] at hpos
      have hpos' : 0 < zs.length := by omega
      obtain ⟨b, off, rfl, hc⟩ := ints_at hcell hpos'
      refine ⟨b, off, rfl, World.block_lt_of_cell? w _ (hc 0 hpos'), fun i hi => ?_⟩
      rw [hlen] at hi
      have hi' : i < zs.length := by omega
      rw [hc i hi']
      have hwi := bounds_u8 (hwf zs[i] (List.getElem_mem hi'))
      simp [List.getD, hi', hi]
      omega
theorem bytes_open {fuel : Nat} {v : Value} {x : DataW H × List MemPlace}
    (h : DataW.trod enc Tryz.prog w base spare held fuel 26 [v] = some x) : ∃ l : List Nat, BytesArg w v l := by
  rcases open_ints Tryz.underlying26 Tryz.underlying5 (by kernel_rfl) h with ⟨hcs, _⟩ | ⟨a, len, cap, zs, hcs, _, hl, hm, hz, _, hcell, hwz⟩
  · simp at hcs
    subst hcs
    exact ⟨[], BytesArg.nil w⟩
  · simp at hcs
    subst hcs
    exact BytesArg.of_row (.inr ⟨a, rfl, hl, hm, by have := hz; split at this <;> omega, hcell, hwz⟩)
end
end Go.Proofs.YtknjpdcpmpfklaaGreatDoor
set_option maxRecDepth 100000
namespace Go.Proofs.YtknjpdcpmpfklaaGreatDoor
open Go.ChangeShapes Go.WideShapes Go.ChangeAt Go.RowKit Go.Deep Go.Joins
section
variable {H : Type} {enc : TypeId × Value → H} {w : World} {base : Nat} {spare : Nat → Bool} {held : Bool}
theorem Tryz.cellsI : Tryz.prog.cellsOf 3 = 1 := by kernel_rfl
theorem Tryz.cells_sequence : Tryz.prog.cellsOf 23 = 4 := by kernel_rfl
theorem sequence_open {r : Reach} {b0 : Nat} {v : Value} {d : DataW H} {ps : List MemPlace} (hval : Value.okWide Tryz.prog w r b0 23 v) (h : DataW.Trod enc Tryz.prog w base spare held 23 v d ps) :
    ∃ a b c e : Int, v = .agg #[.int .i64 a, .int .i64 b, .int .i64 c, .int .i64 e] := by
  obtain ⟨cs, rfl, hsz⟩ := okWide_struct Tryz.underlying23 hval
  rw [Tryz.cells_sequence] at hsz
  obtain ⟨cs⟩ := cs
  obtain ⟨fuel, hf⟩ := h
  match cs, hsz with
  | [c0, c1, c2, c3], _ =>
    obtain ⟨y0, y1, y2, y3, n, _, _, h0, h1, h2, h3⟩ := trod_struct4 (cs := [c0, c1, c2, c3]) Tryz.underlying23 hf
    simp only [Tryz.cellsI, List.drop_zero, List.drop_succ_cons, List.take_succ_cons, List.take_zero] at h0 h1 h2 h3
    obtain ⟨a, ha, _, _⟩ := DataW.trod_int Tryz.underlying3 h0
    obtain ⟨b, hb, _, _⟩ := DataW.trod_int Tryz.underlying3 h1
    obtain ⟨c, hc, _, _⟩ := DataW.trod_int Tryz.underlying3 h2
    obtain ⟨e, he, _, _⟩ := DataW.trod_int Tryz.underlying3 h3
    simp only [List.cons.injEq, and_true] at ha hb hc he
    subst ha; subst hb; subst hc; subst he
    exact ⟨a, b, c, e, rfl⟩
theorem Tryz.cells_head : Tryz.prog.cellsOf 25 = 4 := by kernel_rfl
theorem head_open {r : Reach} {b0 : Nat} {v : Value} {d : DataW H} {ps : List MemPlace} (hval : Value.okWide Tryz.prog w r b0 25 v) (h : DataW.Trod enc Tryz.prog w base spare held 25 v d ps) :
    ∃ a b c e : Int, v = .agg #[.int .i64 a, .int .i64 b, .int .i64 c, .int .i64 e] := by
  obtain ⟨cs, rfl, hsz⟩ := okWide_struct Tryz.underlying25 hval
  rw [Tryz.cells_head] at hsz
  obtain ⟨cs⟩ := cs
  obtain ⟨fuel, hf⟩ := h
  match cs, hsz with
  | [c0, c1, c2, c3], _ =>
    obtain ⟨y0, y1, y2, y3, n, _, _, h0, h1, h2, h3⟩ := trod_struct4 (cs := [c0, c1, c2, c3]) Tryz.underlying25 hf
    simp only [Tryz.cellsI, List.drop_zero, List.drop_succ_cons, List.take_succ_cons, List.take_zero] at h0 h1 h2 h3
    obtain ⟨a, ha, _, _⟩ := DataW.trod_int Tryz.underlying3 h0
    obtain ⟨b, hb, _, _⟩ := DataW.trod_int Tryz.underlying3 h1
    obtain ⟨c, hc, _, _⟩ := DataW.trod_int Tryz.underlying3 h2
    obtain ⟨e, he, _, _⟩ := DataW.trod_int Tryz.underlying3 h3
    simp only [List.cons.injEq, and_true] at ha hb hc he
    subst ha; subst hb; subst hc; subst he
    exact ⟨a, b, c, e, rfl⟩
end
end Go.Proofs.YtknjpdcpmpfklaaGreatDoor
set_option maxRecDepth 100000
namespace Go.Proofs.YtknjpdcpmpfklaaGreatDoor
open Go.ChangeShapes Go.WideShapes Go.ChangeAt Go.RowKit Go.Deep
section
variable {H : Type} {enc : TypeId × Value → H} {w : World} {base : Nat} {spare : Nat → Bool} {held : Bool}
theorem Tryz.cellsF : Tryz.prog.cellsOf 29 = 5 := by kernel_rfl
theorem Tryz.cellsP : Tryz.prog.cellsOf 27 = 3 := by kernel_rfl
theorem Tryz.cellsS : Tryz.prog.cellsOf 26 = 1 := by kernel_rfl
theorem frame_open {r : Reach} {b0 : Nat} {v : Value} {d : DataW H} {ps : List MemPlace} (hval : Value.okWide Tryz.prog w r b0 29 v) (h : DataW.Trod enc Tryz.prog w base spare held 29 v d ps) :
    ∃ (f : FD) (a b c : Value), v = .agg #[.int .i64 f.W, .int .i64 f.H, a, b, c] ∧ BytesArg w a f.p0 ∧ BytesArg w b f.p1 ∧ BytesArg w c f.p2 := by
  obtain ⟨cs, rfl, hsz⟩ := okWide_struct Tryz.underlying29 hval
  rw [Tryz.cellsF] at hsz
  obtain ⟨cs⟩ := cs
  obtain ⟨fuel, hf⟩ := h
  match cs, hsz with
  | [c0, c1, c2, c3, c4], _ =>
    obtain ⟨y0, y1, y2, n, _, _, h0, h1, h2⟩ := trod_struct3 (cs := [c0, c1, c2, c3, c4]) Tryz.underlying29 hf
    simp only [Tryz.cellsI, Tryz.cellsP, List.drop_zero, List.drop_succ_cons, List.take_succ_cons, List.take_zero] at h0 h1 h2
    obtain ⟨W, hW, _, _⟩ := DataW.trod_int Tryz.underlying3 h0
    obtain ⟨Hh, hH, _, _⟩ := DataW.trod_int Tryz.underlying3 h1
    obtain ⟨xs, m, _, _, _, hn, hel⟩ := DataW.trod_array Tryz.underlying27 h2
    have e0 := hel 0 (by omega)
    have e1 := hel 1 (by omega)
    have e2 := hel 2 (by omega)
    simp only [Tryz.cellsS, Nat.mul_one, List.drop_zero, List.drop_succ_cons, List.take_succ_cons, List.take_zero] at e0 e1 e2
    rw [List.getElem?_eq_getElem (by omega)] at e0 e1 e2
    obtain ⟨l0, b0⟩ := bytes_open e0
    obtain ⟨l1, b1⟩ := bytes_open e1
    obtain ⟨l2, b2⟩ := bytes_open e2
    simp only [List.cons.injEq, and_true] at hW hH
    subst hW; subst hH
    exact ⟨⟨W, Hh, l0, l1, l2⟩, c2, c3, c4, rfl, b0, b1, b2⟩
end
end Go.Proofs.YtknjpdcpmpfklaaGreatDoor
