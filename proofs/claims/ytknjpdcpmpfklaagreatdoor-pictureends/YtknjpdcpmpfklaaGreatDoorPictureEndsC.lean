/- What PictureEnds reaches of my texts, part 3. -/
import Derived.Test.YtknjpdcpmpfklaaGreatDoorPictureEndsB
set_option maxRecDepth 100000
set_option maxHeartbeats 4000000
set_option maxRecDepth 100000
namespace Go.Proofs.YtknjpdcpmpfklaaGreatDoor
open Go.RowKit
theorem u8_byte (n : Int) : IntKind.u8.wrap (min (max n 0) 255) = ((byteI n : Nat) : Int) := by
  unfold byteI IntKind.wrap; simp [IntKind.signed, IntKind.bits]; omega
theorem fref_same (a : FD) (a0 a1 a2 : Value) (b : FD) (b0 b1 b2 : Value) (T_a0 : Nat → Prop) (T_a1 : Nat → Prop) (T_a2 : Nat → Prop) (T_b0 : Nat → Prop) (T_b1 : Nat → Prop) (T_b2 : Nat → Prop) (w0 : World) (h_a0 : Byt w0 T_a0 a0 ((a).p0)) (h_a1 : Byt w0 T_a1 a1 ((a).p1)) (h_a2 : Byt w0 T_a2 a2 ((a).p2)) (h_b0 : Byt w0 T_b0 b0 ((b).p0)) (h_b1 : Byt w0 T_b1 b1 ((b).p1)) (h_b2 : Byt w0 T_b2 b2 ((b).p2)) :
  Calls Tryz.prog 15 #[.agg #[.int .i64 ((a).W), .int .i64 ((a).H), a0, a1, a2], .agg #[.int .i64 ((b).W), .int .i64 ((b).H), b0, b1, b2]] w0 fun e w' => e = .returned (.bool (sameF a b)) ∧ Kept (fun _ => False) w0 w' := by
 refine calls_wq (args := [.agg #[iv (a.W), iv (a.H), a0, a1, a2], .agg #[iv (b.W), iv (b.H), b0, b1, b2]]) 52 Tryz.func15 rfl rfl (Nat.le_of_ble_eq_true rfl) ?_
 have K0 := Kept.refl (fun _ => False) w0
 have g_a0 := Grew.refl w0 T_a0
 have g_a1 := Grew.refl w0 T_a1
 have g_a2 := Grew.refl w0 T_a2
 have g_b0 := Grew.refl w0 T_b0
 have g_b1 := Grew.refl w0 T_b1
 have g_b2 := Grew.refl w0 T_b2
 refine wq_seq (wq_region (wl_box_stc (vs := [iv (a.W), iv (a.H), a0, a1, a2]) rfl rfl rfl rfl fun p1 w2 B4 g5 k3 => ?_))
 have B13 := h_a0.all k3 Apart.none
 have B14 := h_a1.all k3 Apart.none
 have B15 := h_a2.all k3 Apart.none
 have B16 := h_b0.all k3 Apart.none
 have B17 := h_b1.all k3 Apart.none
 have B18 := h_b2.all k3 Apart.none
 have K19 := K0.tr k3
 refine wl_box_stc (vs := [iv (b.W), iv (b.H), b0, b1, b2]) rfl rfl rfl rfl fun p20 w21 B23 g24 k22 => ?_
 have B33 := B13.all k22 Apart.none
 have B34 := B14.all k22 Apart.none
 have B35 := B15.all k22 Apart.none
 have B36 := B16.all k22 Apart.none
 have B37 := B17.all k22 Apart.none
 have B38 := B18.all k22 Apart.none
 have B39 := B4.all k22 id
 have K40 := K19.tr k22
 refine wl_v (.bool false) rfl rfl (y_asg rfl rfl rr) (wl_nil fun F41 hF42 => ?_)
 have s43 : F41 52 = undef := (hF42 52).trans rfl
 have s44 : F41 2 = pt p1 0 := (hF42 2).trans rfl
 have s45 : F41 3 = pt p20 0 := (hF42 3).trans rfl
 clear hF42
 refine then_normal (wq_seq ?_)
 rcases Bool.eq_false_or_eq_true ((textOf (a.p0)).toList == (textOf (b.p0)).toList) with d46 | d46
 ·skip
  rcases Bool.eq_false_or_eq_true ((textOf (a.p1)).toList == (textOf (b.p1)).toList) with d47 | d47
  ·skip
   refine wq_region (wl_v (pt p1 2) rfl rfl (y_fieldR (n := 3) rfl s44 Tryz.underlying29 rfl (by kernel_rfl) (by decide) rfl rr) (wl_v (pt p1 2) rfl rfl (y_atR 0 (s := 1) rfl rfl rfl (by omega) Tryz.underlying27 (by omega) (by kernel_rfl) (by omega) rr) (wl_v a0 rfl rfl (y_ld_stc rfl rfl Tryz.underlying26 B39 rfl rfl rr) (wl_v (.string (textOf (a.p0))) rfl rfl (y_text rfl (bytes_at rfl B33) rr) (wl_v (pt p20 2) rfl rfl (y_fieldR (n := 3) rfl s45 Tryz.underlying29 rfl (by kernel_rfl) (by decide) rfl rr) (wl_v (pt p20 2) rfl rfl (y_atR 0 (s := 1) rfl rfl rfl (by omega) Tryz.underlying27 (by omega) (by kernel_rfl) (by omega) rr) (wl_v b0 rfl rfl (y_ld_stc rfl rfl Tryz.underlying26 B23 rfl rfl rr) (wl_v (.string (textOf (b.p0))) rfl rfl (y_text rfl (bytes_at rfl B36) rr) (wl_v (.bool true) rfl rfl (y_eqlS rfl rfl rfl d46 rr) (wl_v (.bool true) rfl rfl (y_mov rfl rfl rr) (wl_vw (pt p1 2) 9 true 15 rfl rfl rfl rfl rfl (y_fieldR (n := 3) rfl s44 Tryz.underlying29 rfl (by kernel_rfl) (by decide) rfl rr) ?_)))))))))))
   refine wl_vw (pt p1 3) 9 true 15 rfl rfl rfl rfl rfl (y_atR 1 (s := 1) rfl rfl rfl (by omega) Tryz.underlying27 (by omega) (by kernel_rfl) (by omega) rr) (wl_vw a1 9 true 15 rfl rfl rfl rfl rfl (y_ld_stc rfl rfl Tryz.underlying26 B39 rfl rfl rr) (wl_vw (.string (textOf (a.p1))) 9 true 15 rfl rfl rfl rfl rfl (y_text rfl (bytes_at rfl B34) rr) (wl_vw (pt p20 2) 9 true 15 rfl rfl rfl rfl rfl (y_fieldR (n := 3) rfl s45 Tryz.underlying29 rfl (by kernel_rfl) (by decide) rfl rr) (wl_vw (pt p20 3) 9 true 15 rfl rfl rfl rfl rfl (y_atR 1 (s := 1) rfl rfl rfl (by omega) Tryz.underlying27 (by omega) (by kernel_rfl) (by omega) rr) (wl_vw b1 9 true 15 rfl rfl rfl rfl rfl (y_ld_stc rfl rfl Tryz.underlying26 B23 rfl rfl rr) (wl_vw (.string (textOf (b.p1))) 9 true 15 rfl rfl rfl rfl rfl (y_text rfl (bytes_at rfl B37) rr) (wl_vw (.bool true) 9 true 15 rfl rfl rfl rfl rfl (y_eqlS rfl rfl rfl d47 rr) (wl_v (.bool true) rfl rfl (y_pickT rfl rfl rfl rr) (wl_v (.bool true) rfl rfl (y_mov rfl rfl rr) (wl_vw (pt p1 2) 20 true 26 rfl rfl rfl rfl rfl (y_fieldR (n := 3) rfl s44 Tryz.underlying29 rfl (by kernel_rfl) (by decide) rfl rr) (wl_vw (pt p1 4) 20 true 26 rfl rfl rfl rfl rfl (y_atR 2 (s := 1) rfl rfl rfl (by omega) Tryz.underlying27 (by omega) (by kernel_rfl) (by omega) rr) ?_)))))))))))
   refine wl_vw a2 20 true 26 rfl rfl rfl rfl rfl (y_ld_stc rfl rfl Tryz.underlying26 B39 rfl rfl rr) (wl_vw (.string (textOf (a.p2))) 20 true 26 rfl rfl rfl rfl rfl (y_text rfl (bytes_at rfl B35) rr) (wl_vw (pt p20 2) 20 true 26 rfl rfl rfl rfl rfl (y_fieldR (n := 3) rfl s45 Tryz.underlying29 rfl (by kernel_rfl) (by decide) rfl rr) (wl_vw (pt p20 4) 20 true 26 rfl rfl rfl rfl rfl (y_atR 2 (s := 1) rfl rfl rfl (by omega) Tryz.underlying27 (by omega) (by kernel_rfl) (by omega) rr) (wl_vw b2 20 true 26 rfl rfl rfl rfl rfl (y_ld_stc rfl rfl Tryz.underlying26 B23 rfl rfl rr) (wl_vw (.string (textOf (b.p2))) 20 true 26 rfl rfl rfl rfl rfl (y_text rfl (bytes_at rfl B38) rr) (wl_vw (.bool ((textOf (a.p2)).toList == (textOf (b.p2)).toList)) 20 true 26 rfl rfl rfl rfl rfl (y_eqlS rfl rfl rfl rfl rr) (wl_v (.bool ((textOf (a.p2)).toList == (textOf (b.p2)).toList)) rfl rfl (y_pickT rfl rfl rfl rr) (wl_v (.bool ((textOf (a.p2)).toList == (textOf (b.p2)).toList)) rfl rfl (y_asg rfl rfl rr) (wl_nil fun F48 hF49 => ?_)))))))))
   obtain ⟨s50, s51, s52⟩ := t3 hF49 52 s43 2 s44 3 s45
   have s53 : F48 5 = .bool ((textOf (a.p2)).toList == (textOf (b.p2)).toList) := (hF49 5).trans rfl
   clear hF49
   refine then_normal (wq_seq ?_)
   by_cases d54 : (a.W) = (b.W)
   ·skip
    by_cases d55 : (a.H) = (b.H)
    ·skip
     refine wq_region (wl_v (pt p1 0) rfl rfl (y_fieldR (n := 1) rfl s51 Tryz.underlying29 rfl (by kernel_rfl) (by decide) rfl rr) (wl_v (iv (a.W)) rfl rfl (y_ld_stc rfl rfl Tryz.underlying3 B39 rfl rfl rr) (wl_v (pt p20 0) rfl rfl (y_fieldR (n := 1) rfl s52 Tryz.underlying29 rfl (by kernel_rfl) (by decide) rfl rr) (wl_v (iv (b.W)) rfl rfl (y_ld_stc rfl rfl Tryz.underlying3 B23 rfl rfl rr) (wl_v (.bool true) rfl rfl (y_eqlI rfl rfl rfl (decide_eq_true d54) rr) (wl_v (.bool true) rfl rfl (y_mov rfl rfl rr) (wl_vw (pt p1 1) 5 true 42 rfl rfl rfl rfl rfl (y_fieldR (n := 1) rfl s51 Tryz.underlying29 rfl (by kernel_rfl) (by decide) rfl rr) (wl_vw (iv (a.H)) 5 true 42 rfl rfl rfl rfl rfl (y_ld_stc rfl rfl Tryz.underlying3 B39 rfl rfl rr) (wl_vw (pt p20 1) 5 true 42 rfl rfl rfl rfl rfl (y_fieldR (n := 1) rfl s52 Tryz.underlying29 rfl (by kernel_rfl) (by decide) rfl rr) (wl_vw (iv (b.H)) 5 true 42 rfl rfl rfl rfl rfl (y_ld_stc rfl rfl Tryz.underlying3 B23 rfl rfl rr) (wl_vw (.bool true) 5 true 42 rfl rfl rfl rfl rfl (y_eqlI rfl rfl rfl (decide_eq_true d55) rr) ?_)))))))))))
     refine wl_v (.bool true) rfl rfl (y_pickT rfl rfl rfl rr) (wl_v (.bool true) rfl rfl (y_mov rfl rfl rr) (wl_vw (.bool ((textOf (a.p2)).toList == (textOf (b.p2)).toList)) 12 true 49 rfl rfl rfl rfl rfl (y_mov rfl s53 rr) (wl_v (.bool ((textOf (a.p2)).toList == (textOf (b.p2)).toList)) rfl rfl (y_pickT rfl rfl rfl rr) (wl_v (.bool ((textOf (a.p2)).toList == (textOf (b.p2)).toList)) rfl rfl (y_asg rfl rfl rr) (wl_nil fun F56 hF57 => ?_)))))
     have s58 := (hF57 52).trans s50
     have s59 : F56 4 = .bool ((textOf (a.p2)).toList == (textOf (b.p2)).toList) := (hF57 4).trans rfl
     clear hF57
     refine then_normal (wq_ret ?_)
     exact end_tmp (v := .bool ((textOf (a.p2)).toList == (textOf (b.p2)).toList)) s58 rfl rfl s59 ⟨(by first | rw [sameF_0 (by assumption)] | rw [sameF_1 (by assumption)] | rw [sameF_W (by assumption)] | rw [sameF_H (by assumption)] | rw [sameF_2 (by assumption) (by assumption) (by assumption) (by assumption)]), K40⟩
    ·skip
     refine wq_region (wl_v (pt p1 0) rfl rfl (y_fieldR (n := 1) rfl s51 Tryz.underlying29 rfl (by kernel_rfl) (by decide) rfl rr) (wl_v (iv (a.W)) rfl rfl (y_ld_stc rfl rfl Tryz.underlying3 B39 rfl rfl rr) (wl_v (pt p20 0) rfl rfl (y_fieldR (n := 1) rfl s52 Tryz.underlying29 rfl (by kernel_rfl) (by decide) rfl rr) (wl_v (iv (b.W)) rfl rfl (y_ld_stc rfl rfl Tryz.underlying3 B23 rfl rfl rr) (wl_v (.bool true) rfl rfl (y_eqlI rfl rfl rfl (decide_eq_true d54) rr) (wl_v (.bool true) rfl rfl (y_mov rfl rfl rr) (wl_vw (pt p1 1) 5 true 42 rfl rfl rfl rfl rfl (y_fieldR (n := 1) rfl s51 Tryz.underlying29 rfl (by kernel_rfl) (by decide) rfl rr) (wl_vw (iv (a.H)) 5 true 42 rfl rfl rfl rfl rfl (y_ld_stc rfl rfl Tryz.underlying3 B39 rfl rfl rr) (wl_vw (pt p20 1) 5 true 42 rfl rfl rfl rfl rfl (y_fieldR (n := 1) rfl s52 Tryz.underlying29 rfl (by kernel_rfl) (by decide) rfl rr) (wl_vw (iv (b.H)) 5 true 42 rfl rfl rfl rfl rfl (y_ld_stc rfl rfl Tryz.underlying3 B23 rfl rfl rr) (wl_vw (.bool false) 5 true 42 rfl rfl rfl rfl rfl (y_eqlI rfl rfl rfl (decide_eq_false d55) rr) ?_)))))))))))
     refine wl_v (.bool false) rfl rfl (y_pickT rfl rfl rfl rr) (wl_v (.bool false) rfl rfl (y_mov rfl rfl rr) (wl_unless 12 true 49 rfl rfl rfl (Or.inl rfl) rfl (wl_v (.bool false) rfl rfl (y_pickF rfl rfl rfl rr) (wl_v (.bool false) rfl rfl (y_asg rfl rfl rr) (wl_nil fun F60 hF61 => ?_)))))
     have s62 := (hF61 52).trans s50
     have s63 : F60 4 = .bool false := (hF61 4).trans rfl
     clear hF61
     refine then_normal (wq_ret ?_)
     exact end_tmp (v := .bool false) s62 rfl rfl s63 ⟨(by first | rw [sameF_0 (by assumption)] | rw [sameF_1 (by assumption)] | rw [sameF_W (by assumption)] | rw [sameF_H (by assumption)] | rw [sameF_2 (by assumption) (by assumption) (by assumption) (by assumption)]), K40⟩
   ·skip
    refine wq_region (wl_v (pt p1 0) rfl rfl (y_fieldR (n := 1) rfl s51 Tryz.underlying29 rfl (by kernel_rfl) (by decide) rfl rr) (wl_v (iv (a.W)) rfl rfl (y_ld_stc rfl rfl Tryz.underlying3 B39 rfl rfl rr) (wl_v (pt p20 0) rfl rfl (y_fieldR (n := 1) rfl s52 Tryz.underlying29 rfl (by kernel_rfl) (by decide) rfl rr) (wl_v (iv (b.W)) rfl rfl (y_ld_stc rfl rfl Tryz.underlying3 B23 rfl rfl rr) (wl_v (.bool false) rfl rfl (y_eqlI rfl rfl rfl (decide_eq_false d54) rr) (wl_v (.bool false) rfl rfl (y_mov rfl rfl rr) (wl_unless 5 true 42 rfl rfl rfl (Or.inl rfl) rfl (wl_unless 5 true 42 rfl rfl rfl (Or.inl rfl) rfl (wl_unless 5 true 42 rfl rfl rfl (Or.inl rfl) rfl (wl_unless 5 true 42 rfl rfl rfl (Or.inl rfl) rfl (wl_unless 5 true 42 rfl rfl rfl (Or.inl rfl) rfl ?_)))))))))))
    refine wl_v (.bool false) rfl rfl (y_pickF rfl rfl rfl rr) (wl_v (.bool false) rfl rfl (y_mov rfl rfl rr) (wl_unless 12 true 49 rfl rfl rfl (Or.inl rfl) rfl (wl_v (.bool false) rfl rfl (y_pickF rfl rfl rfl rr) (wl_v (.bool false) rfl rfl (y_asg rfl rfl rr) (wl_nil fun F64 hF65 => ?_)))))
    have s66 := (hF65 52).trans s50
    have s67 : F64 4 = .bool false := (hF65 4).trans rfl
    clear hF65
    refine then_normal (wq_ret ?_)
    exact end_tmp (v := .bool false) s66 rfl rfl s67 ⟨(by first | rw [sameF_0 (by assumption)] | rw [sameF_1 (by assumption)] | rw [sameF_W (by assumption)] | rw [sameF_H (by assumption)] | rw [sameF_2 (by assumption) (by assumption) (by assumption) (by assumption)]), K40⟩
  ·skip
   refine wq_region (wl_v (pt p1 2) rfl rfl (y_fieldR (n := 3) rfl s44 Tryz.underlying29 rfl (by kernel_rfl) (by decide) rfl rr) (wl_v (pt p1 2) rfl rfl (y_atR 0 (s := 1) rfl rfl rfl (by omega) Tryz.underlying27 (by omega) (by kernel_rfl) (by omega) rr) (wl_v a0 rfl rfl (y_ld_stc rfl rfl Tryz.underlying26 B39 rfl rfl rr) (wl_v (.string (textOf (a.p0))) rfl rfl (y_text rfl (bytes_at rfl B33) rr) (wl_v (pt p20 2) rfl rfl (y_fieldR (n := 3) rfl s45 Tryz.underlying29 rfl (by kernel_rfl) (by decide) rfl rr) (wl_v (pt p20 2) rfl rfl (y_atR 0 (s := 1) rfl rfl rfl (by omega) Tryz.underlying27 (by omega) (by kernel_rfl) (by omega) rr) (wl_v b0 rfl rfl (y_ld_stc rfl rfl Tryz.underlying26 B23 rfl rfl rr) (wl_v (.string (textOf (b.p0))) rfl rfl (y_text rfl (bytes_at rfl B36) rr) (wl_v (.bool true) rfl rfl (y_eqlS rfl rfl rfl d46 rr) (wl_v (.bool true) rfl rfl (y_mov rfl rfl rr) (wl_vw (pt p1 2) 9 true 15 rfl rfl rfl rfl rfl (y_fieldR (n := 3) rfl s44 Tryz.underlying29 rfl (by kernel_rfl) (by decide) rfl rr) ?_)))))))))))
   refine wl_vw (pt p1 3) 9 true 15 rfl rfl rfl rfl rfl (y_atR 1 (s := 1) rfl rfl rfl (by omega) Tryz.underlying27 (by omega) (by kernel_rfl) (by omega) rr) (wl_vw a1 9 true 15 rfl rfl rfl rfl rfl (y_ld_stc rfl rfl Tryz.underlying26 B39 rfl rfl rr) (wl_vw (.string (textOf (a.p1))) 9 true 15 rfl rfl rfl rfl rfl (y_text rfl (bytes_at rfl B34) rr) (wl_vw (pt p20 2) 9 true 15 rfl rfl rfl rfl rfl (y_fieldR (n := 3) rfl s45 Tryz.underlying29 rfl (by kernel_rfl) (by decide) rfl rr) (wl_vw (pt p20 3) 9 true 15 rfl rfl rfl rfl rfl (y_atR 1 (s := 1) rfl rfl rfl (by omega) Tryz.underlying27 (by omega) (by kernel_rfl) (by omega) rr) (wl_vw b1 9 true 15 rfl rfl rfl rfl rfl (y_ld_stc rfl rfl Tryz.underlying26 B23 rfl rfl rr) (wl_vw (.string (textOf (b.p1))) 9 true 15 rfl rfl rfl rfl rfl (y_text rfl (bytes_at rfl B37) rr) (wl_vw (.bool false) 9 true 15 rfl rfl rfl rfl rfl (y_eqlS rfl rfl rfl d47 rr) (wl_v (.bool false) rfl rfl (y_pickT rfl rfl rfl rr) (wl_v (.bool false) rfl rfl (y_mov rfl rfl rr) (wl_unless 20 true 26 rfl rfl rfl (Or.inl rfl) rfl (wl_unless 20 true 26 rfl rfl rfl (Or.inl rfl) rfl ?_)))))))))))
   refine wl_unless 20 true 26 rfl rfl rfl (Or.inl rfl) rfl (wl_unless 20 true 26 rfl rfl rfl (Or.inl rfl) rfl (wl_unless 20 true 26 rfl rfl rfl (Or.inl rfl) rfl (wl_unless 20 true 26 rfl rfl rfl (Or.inl rfl) rfl (wl_unless 20 true 26 rfl rfl rfl (Or.inl rfl) rfl (wl_unless 20 true 26 rfl rfl rfl (Or.inl rfl) rfl (wl_unless 20 true 26 rfl rfl rfl (Or.inl rfl) rfl (wl_v (.bool false) rfl rfl (y_pickF rfl rfl rfl rr) (wl_v (.bool false) rfl rfl (y_asg rfl rfl rr) (wl_nil fun F68 hF69 => ?_)))))))))
   obtain ⟨s70, s71, s72⟩ := t3 hF69 52 s43 2 s44 3 s45
   have s73 : F68 5 = .bool false := (hF69 5).trans rfl
   clear hF69
   refine then_normal (wq_seq ?_)
   by_cases d74 : (a.W) = (b.W)
   ·skip
    by_cases d75 : (a.H) = (b.H)
    ·skip
     refine wq_region (wl_v (pt p1 0) rfl rfl (y_fieldR (n := 1) rfl s71 Tryz.underlying29 rfl (by kernel_rfl) (by decide) rfl rr) (wl_v (iv (a.W)) rfl rfl (y_ld_stc rfl rfl Tryz.underlying3 B39 rfl rfl rr) (wl_v (pt p20 0) rfl rfl (y_fieldR (n := 1) rfl s72 Tryz.underlying29 rfl (by kernel_rfl) (by decide) rfl rr) (wl_v (iv (b.W)) rfl rfl (y_ld_stc rfl rfl Tryz.underlying3 B23 rfl rfl rr) (wl_v (.bool true) rfl rfl (y_eqlI rfl rfl rfl (decide_eq_true d74) rr) (wl_v (.bool true) rfl rfl (y_mov rfl rfl rr) (wl_vw (pt p1 1) 5 true 42 rfl rfl rfl rfl rfl (y_fieldR (n := 1) rfl s71 Tryz.underlying29 rfl (by kernel_rfl) (by decide) rfl rr) (wl_vw (iv (a.H)) 5 true 42 rfl rfl rfl rfl rfl (y_ld_stc rfl rfl Tryz.underlying3 B39 rfl rfl rr) (wl_vw (pt p20 1) 5 true 42 rfl rfl rfl rfl rfl (y_fieldR (n := 1) rfl s72 Tryz.underlying29 rfl (by kernel_rfl) (by decide) rfl rr) (wl_vw (iv (b.H)) 5 true 42 rfl rfl rfl rfl rfl (y_ld_stc rfl rfl Tryz.underlying3 B23 rfl rfl rr) (wl_vw (.bool true) 5 true 42 rfl rfl rfl rfl rfl (y_eqlI rfl rfl rfl (decide_eq_true d75) rr) ?_)))))))))))
     refine wl_v (.bool true) rfl rfl (y_pickT rfl rfl rfl rr) (wl_v (.bool true) rfl rfl (y_mov rfl rfl rr) (wl_vw (.bool false) 12 true 49 rfl rfl rfl rfl rfl (y_mov rfl s73 rr) (wl_v (.bool false) rfl rfl (y_pickT rfl rfl rfl rr) (wl_v (.bool false) rfl rfl (y_asg rfl rfl rr) (wl_nil fun F76 hF77 => ?_)))))
     have s78 := (hF77 52).trans s70
     have s79 : F76 4 = .bool false := (hF77 4).trans rfl
     clear hF77
     refine then_normal (wq_ret ?_)
     exact end_tmp (v := .bool false) s78 rfl rfl s79 ⟨(by first | rw [sameF_0 (by assumption)] | rw [sameF_1 (by assumption)] | rw [sameF_W (by assumption)] | rw [sameF_H (by assumption)] | rw [sameF_2 (by assumption) (by assumption) (by assumption) (by assumption)]), K40⟩
    ·skip
     refine wq_region (wl_v (pt p1 0) rfl rfl (y_fieldR (n := 1) rfl s71 Tryz.underlying29 rfl (by kernel_rfl) (by decide) rfl rr) (wl_v (iv (a.W)) rfl rfl (y_ld_stc rfl rfl Tryz.underlying3 B39 rfl rfl rr) (wl_v (pt p20 0) rfl rfl (y_fieldR (n := 1) rfl s72 Tryz.underlying29 rfl (by kernel_rfl) (by decide) rfl rr) (wl_v (iv (b.W)) rfl rfl (y_ld_stc rfl rfl Tryz.underlying3 B23 rfl rfl rr) (wl_v (.bool true) rfl rfl (y_eqlI rfl rfl rfl (decide_eq_true d74) rr) (wl_v (.bool true) rfl rfl (y_mov rfl rfl rr) (wl_vw (pt p1 1) 5 true 42 rfl rfl rfl rfl rfl (y_fieldR (n := 1) rfl s71 Tryz.underlying29 rfl (by kernel_rfl) (by decide) rfl rr) (wl_vw (iv (a.H)) 5 true 42 rfl rfl rfl rfl rfl (y_ld_stc rfl rfl Tryz.underlying3 B39 rfl rfl rr) (wl_vw (pt p20 1) 5 true 42 rfl rfl rfl rfl rfl (y_fieldR (n := 1) rfl s72 Tryz.underlying29 rfl (by kernel_rfl) (by decide) rfl rr) (wl_vw (iv (b.H)) 5 true 42 rfl rfl rfl rfl rfl (y_ld_stc rfl rfl Tryz.underlying3 B23 rfl rfl rr) (wl_vw (.bool false) 5 true 42 rfl rfl rfl rfl rfl (y_eqlI rfl rfl rfl (decide_eq_false d75) rr) ?_)))))))))))
     refine wl_v (.bool false) rfl rfl (y_pickT rfl rfl rfl rr) (wl_v (.bool false) rfl rfl (y_mov rfl rfl rr) (wl_unless 12 true 49 rfl rfl rfl (Or.inl rfl) rfl (wl_v (.bool false) rfl rfl (y_pickF rfl rfl rfl rr) (wl_v (.bool false) rfl rfl (y_asg rfl rfl rr) (wl_nil fun F80 hF81 => ?_)))))
     have s82 := (hF81 52).trans s70
     have s83 : F80 4 = .bool false := (hF81 4).trans rfl
     clear hF81
     refine then_normal (wq_ret ?_)
     exact end_tmp (v := .bool false) s82 rfl rfl s83 ⟨(by first | rw [sameF_0 (by assumption)] | rw [sameF_1 (by assumption)] | rw [sameF_W (by assumption)] | rw [sameF_H (by assumption)] | rw [sameF_2 (by assumption) (by assumption) (by assumption) (by assumption)]), K40⟩
   ·skip
    refine wq_region (wl_v (pt p1 0) rfl rfl (y_fieldR (n := 1) rfl s71 Tryz.underlying29 rfl (by kernel_rfl) (by decide) rfl rr) (wl_v (iv (a.W)) rfl rfl (y_ld_stc rfl rfl Tryz.underlying3 B39 rfl rfl rr) (wl_v (pt p20 0) rfl rfl (y_fieldR (n := 1) rfl s72 Tryz.underlying29 rfl (by kernel_rfl) (by decide) rfl rr) (wl_v (iv (b.W)) rfl rfl (y_ld_stc rfl rfl Tryz.underlying3 B23 rfl rfl rr) (wl_v (.bool false) rfl rfl (y_eqlI rfl rfl rfl (decide_eq_false d74) rr) (wl_v (.bool false) rfl rfl (y_mov rfl rfl rr) (wl_unless 5 true 42 rfl rfl rfl (Or.inl rfl) rfl (wl_unless 5 true 42 rfl rfl rfl (Or.inl rfl) rfl (wl_unless 5 true 42 rfl rfl rfl (Or.inl rfl) rfl (wl_unless 5 true 42 rfl rfl rfl (Or.inl rfl) rfl (wl_unless 5 true 42 rfl rfl rfl (Or.inl rfl) rfl ?_)))))))))))
    refine wl_v (.bool false) rfl rfl (y_pickF rfl rfl rfl rr) (wl_v (.bool false) rfl rfl (y_mov rfl rfl rr) (wl_unless 12 true 49 rfl rfl rfl (Or.inl rfl) rfl (wl_v (.bool false) rfl rfl (y_pickF rfl rfl rfl rr) (wl_v (.bool false) rfl rfl (y_asg rfl rfl rr) (wl_nil fun F84 hF85 => ?_)))))
    have s86 := (hF85 52).trans s70
    have s87 : F84 4 = .bool false := (hF85 4).trans rfl
    clear hF85
    refine then_normal (wq_ret ?_)
    exact end_tmp (v := .bool false) s86 rfl rfl s87 ⟨(by first | rw [sameF_0 (by assumption)] | rw [sameF_1 (by assumption)] | rw [sameF_W (by assumption)] | rw [sameF_H (by assumption)] | rw [sameF_2 (by assumption) (by assumption) (by assumption) (by assumption)]), K40⟩
 ·skip
  refine wq_region (wl_v (pt p1 2) rfl rfl (y_fieldR (n := 3) rfl s44 Tryz.underlying29 rfl (by kernel_rfl) (by decide) rfl rr) (wl_v (pt p1 2) rfl rfl (y_atR 0 (s := 1) rfl rfl rfl (by omega) Tryz.underlying27 (by omega) (by kernel_rfl) (by omega) rr) (wl_v a0 rfl rfl (y_ld_stc rfl rfl Tryz.underlying26 B39 rfl rfl rr) (wl_v (.string (textOf (a.p0))) rfl rfl (y_text rfl (bytes_at rfl B33) rr) (wl_v (pt p20 2) rfl rfl (y_fieldR (n := 3) rfl s45 Tryz.underlying29 rfl (by kernel_rfl) (by decide) rfl rr) (wl_v (pt p20 2) rfl rfl (y_atR 0 (s := 1) rfl rfl rfl (by omega) Tryz.underlying27 (by omega) (by kernel_rfl) (by omega) rr) (wl_v b0 rfl rfl (y_ld_stc rfl rfl Tryz.underlying26 B23 rfl rfl rr) (wl_v (.string (textOf (b.p0))) rfl rfl (y_text rfl (bytes_at rfl B36) rr) (wl_v (.bool false) rfl rfl (y_eqlS rfl rfl rfl d46 rr) (wl_v (.bool false) rfl rfl (y_mov rfl rfl rr) (wl_unless 9 true 15 rfl rfl rfl (Or.inl rfl) rfl ?_)))))))))))
  refine wl_unless 9 true 15 rfl rfl rfl (Or.inl rfl) rfl (wl_unless 9 true 15 rfl rfl rfl (Or.inl rfl) rfl (wl_unless 9 true 15 rfl rfl rfl (Or.inl rfl) rfl (wl_unless 9 true 15 rfl rfl rfl (Or.inl rfl) rfl (wl_unless 9 true 15 rfl rfl rfl (Or.inl rfl) rfl (wl_unless 9 true 15 rfl rfl rfl (Or.inl rfl) rfl (wl_unless 9 true 15 rfl rfl rfl (Or.inl rfl) rfl (wl_unless 9 true 15 rfl rfl rfl (Or.inl rfl) rfl (wl_v (.bool false) rfl rfl (y_pickF rfl rfl rfl rr) (wl_v (.bool false) rfl rfl (y_mov rfl rfl rr) (wl_unless 20 true 26 rfl rfl rfl (Or.inl rfl) rfl (wl_unless 20 true 26 rfl rfl rfl (Or.inl rfl) rfl ?_)))))))))))
  refine wl_unless 20 true 26 rfl rfl rfl (Or.inl rfl) rfl (wl_unless 20 true 26 rfl rfl rfl (Or.inl rfl) rfl (wl_unless 20 true 26 rfl rfl rfl (Or.inl rfl) rfl (wl_unless 20 true 26 rfl rfl rfl (Or.inl rfl) rfl (wl_unless 20 true 26 rfl rfl rfl (Or.inl rfl) rfl (wl_unless 20 true 26 rfl rfl rfl (Or.inl rfl) rfl (wl_unless 20 true 26 rfl rfl rfl (Or.inl rfl) rfl (wl_v (.bool false) rfl rfl (y_pickF rfl rfl rfl rr) (wl_v (.bool false) rfl rfl (y_asg rfl rfl rr) (wl_nil fun F88 hF89 => ?_)))))))))
  obtain ⟨s90, s91, s92⟩ := t3 hF89 52 s43 2 s44 3 s45
  have s93 : F88 5 = .bool false := (hF89 5).trans rfl
  clear hF89
  refine then_normal (wq_seq ?_)
  by_cases d94 : (a.W) = (b.W)
  ·skip
   by_cases d95 : (a.H) = (b.H)
   ·skip
    refine wq_region (wl_v (pt p1 0) rfl rfl (y_fieldR (n := 1) rfl s91 Tryz.underlying29 rfl (by kernel_rfl) (by decide) rfl rr) (wl_v (iv (a.W)) rfl rfl (y_ld_stc rfl rfl Tryz.underlying3 B39 rfl rfl rr) (wl_v (pt p20 0) rfl rfl (y_fieldR (n := 1) rfl s92 Tryz.underlying29 rfl (by kernel_rfl) (by decide) rfl rr) (wl_v (iv (b.W)) rfl rfl (y_ld_stc rfl rfl Tryz.underlying3 B23 rfl rfl rr) (wl_v (.bool true) rfl rfl (y_eqlI rfl rfl rfl (decide_eq_true d94) rr) (wl_v (.bool true) rfl rfl (y_mov rfl rfl rr) (wl_vw (pt p1 1) 5 true 42 rfl rfl rfl rfl rfl (y_fieldR (n := 1) rfl s91 Tryz.underlying29 rfl (by kernel_rfl) (by decide) rfl rr) (wl_vw (iv (a.H)) 5 true 42 rfl rfl rfl rfl rfl (y_ld_stc rfl rfl Tryz.underlying3 B39 rfl rfl rr) (wl_vw (pt p20 1) 5 true 42 rfl rfl rfl rfl rfl (y_fieldR (n := 1) rfl s92 Tryz.underlying29 rfl (by kernel_rfl) (by decide) rfl rr) (wl_vw (iv (b.H)) 5 true 42 rfl rfl rfl rfl rfl (y_ld_stc rfl rfl Tryz.underlying3 B23 rfl rfl rr) (wl_vw (.bool true) 5 true 42 rfl rfl rfl rfl rfl (y_eqlI rfl rfl rfl (decide_eq_true d95) rr) ?_)))))))))))
    refine wl_v (.bool true) rfl rfl (y_pickT rfl rfl rfl rr) (wl_v (.bool true) rfl rfl (y_mov rfl rfl rr) (wl_vw (.bool false) 12 true 49 rfl rfl rfl rfl rfl (y_mov rfl s93 rr) (wl_v (.bool false) rfl rfl (y_pickT rfl rfl rfl rr) (wl_v (.bool false) rfl rfl (y_asg rfl rfl rr) (wl_nil fun F96 hF97 => ?_)))))
    have s98 := (hF97 52).trans s90
    have s99 : F96 4 = .bool false := (hF97 4).trans rfl
    clear hF97
    refine then_normal (wq_ret ?_)
    exact end_tmp (v := .bool false) s98 rfl rfl s99 ⟨(by first | rw [sameF_0 (by assumption)] | rw [sameF_1 (by assumption)] | rw [sameF_W (by assumption)] | rw [sameF_H (by assumption)] | rw [sameF_2 (by assumption) (by assumption) (by assumption) (by assumption)]), K40⟩
   ·skip
    refine wq_region (wl_v (pt p1 0) rfl rfl (y_fieldR (n := 1) rfl s91 Tryz.underlying29 rfl (by kernel_rfl) (by decide) rfl rr) (wl_v (iv (a.W)) rfl rfl (y_ld_stc rfl rfl Tryz.underlying3 B39 rfl rfl rr) (wl_v (pt p20 0) rfl rfl (y_fieldR (n := 1) rfl s92 Tryz.underlying29 rfl (by kernel_rfl) (by decide) rfl rr) (wl_v (iv (b.W)) rfl rfl (y_ld_stc rfl rfl Tryz.underlying3 B23 rfl rfl rr) (wl_v (.bool true) rfl rfl (y_eqlI rfl rfl rfl (decide_eq_true d94) rr) (wl_v (.bool true) rfl rfl (y_mov rfl rfl rr) (wl_vw (pt p1 1) 5 true 42 rfl rfl rfl rfl rfl (y_fieldR (n := 1) rfl s91 Tryz.underlying29 rfl (by kernel_rfl) (by decide) rfl rr) (wl_vw (iv (a.H)) 5 true 42 rfl rfl rfl rfl rfl (y_ld_stc rfl rfl Tryz.underlying3 B39 rfl rfl rr) (wl_vw (pt p20 1) 5 true 42 rfl rfl rfl rfl rfl (y_fieldR (n := 1) rfl s92 Tryz.underlying29 rfl (by kernel_rfl) (by decide) rfl rr) (wl_vw (iv (b.H)) 5 true 42 rfl rfl rfl rfl rfl (y_ld_stc rfl rfl Tryz.underlying3 B23 rfl rfl rr) (wl_vw (.bool false) 5 true 42 rfl rfl rfl rfl rfl (y_eqlI rfl rfl rfl (decide_eq_false d95) rr) ?_)))))))))))
    refine wl_v (.bool false) rfl rfl (y_pickT rfl rfl rfl rr) (wl_v (.bool false) rfl rfl (y_mov rfl rfl rr) (wl_unless 12 true 49 rfl rfl rfl (Or.inl rfl) rfl (wl_v (.bool false) rfl rfl (y_pickF rfl rfl rfl rr) (wl_v (.bool false) rfl rfl (y_asg rfl rfl rr) (wl_nil fun F100 hF101 => ?_)))))
    have s102 := (hF101 52).trans s90
    have s103 : F100 4 = .bool false := (hF101 4).trans rfl
    clear hF101
    refine then_normal (wq_ret ?_)
    exact end_tmp (v := .bool false) s102 rfl rfl s103 ⟨(by first | rw [sameF_0 (by assumption)] | rw [sameF_1 (by assumption)] | rw [sameF_W (by assumption)] | rw [sameF_H (by assumption)] | rw [sameF_2 (by assumption) (by assumption) (by assumption) (by assumption)]), K40⟩
  ·skip
   refine wq_region (wl_v (pt p1 0) rfl rfl (y_fieldR (n := 1) rfl s91 Tryz.underlying29 rfl (by kernel_rfl) (by decide) rfl rr) (wl_v (iv (a.W)) rfl rfl (y_ld_stc rfl rfl Tryz.underlying3 B39 rfl rfl rr) (wl_v (pt p20 0) rfl rfl (y_fieldR (n := 1) rfl s92 Tryz.underlying29 rfl (by kernel_rfl) (by decide) rfl rr) (wl_v (iv (b.W)) rfl rfl (y_ld_stc rfl rfl Tryz.underlying3 B23 rfl rfl rr) (wl_v (.bool false) rfl rfl (y_eqlI rfl rfl rfl (decide_eq_false d94) rr) (wl_v (.bool false) rfl rfl (y_mov rfl rfl rr) (wl_unless 5 true 42 rfl rfl rfl (Or.inl rfl) rfl (wl_unless 5 true 42 rfl rfl rfl (Or.inl rfl) rfl (wl_unless 5 true 42 rfl rfl rfl (Or.inl rfl) rfl (wl_unless 5 true 42 rfl rfl rfl (Or.inl rfl) rfl (wl_unless 5 true 42 rfl rfl rfl (Or.inl rfl) rfl ?_)))))))))))
   refine wl_v (.bool false) rfl rfl (y_pickF rfl rfl rfl rr) (wl_v (.bool false) rfl rfl (y_mov rfl rfl rr) (wl_unless 12 true 49 rfl rfl rfl (Or.inl rfl) rfl (wl_v (.bool false) rfl rfl (y_pickF rfl rfl rfl rr) (wl_v (.bool false) rfl rfl (y_asg rfl rfl rr) (wl_nil fun F104 hF105 => ?_)))))
   have s106 := (hF105 52).trans s90
   have s107 : F104 4 = .bool false := (hF105 4).trans rfl
   clear hF105
   refine then_normal (wq_ret ?_)
   exact end_tmp (v := .bool false) s106 rfl rfl s107 ⟨(by first | rw [sameF_0 (by assumption)] | rw [sameF_1 (by assumption)] | rw [sameF_W (by assumption)] | rw [sameF_H (by assumption)] | rw [sameF_2 (by assumption) (by assumption) (by assumption) (by assumption)]), K40⟩
end Go.Proofs.YtknjpdcpmpfklaaGreatDoor
set_option maxRecDepth 100000
namespace Go.Proofs.YtknjpdcpmpfklaaGreatDoor
open Go.RowKit
def FrmV (w : World) (v : Value) (f : FD) : Prop := ∃ (a b c : Value) (Ta Tb Tc : Nat → Prop), v = .agg #[.int .i64 f.W, .int .i64 f.H, a, b, c] ∧ Owb w Ta a f.p0 ∧ Owb w Tb b f.p1 ∧ Owb w Tc c f.p2
theorem FrmV.all {w w' : World} {v : Value} {f : FD} (h : FrmV w v f) (k : Kept (fun _ => False) w w') : FrmV w' v f := by
  obtain ⟨a, b, c, Ta, Tb, Tc, e, h1, h2, h3⟩ := h
  exact ⟨a, b, c, Ta, Tb, Tc, e, h1.all k Apart.none, h2.all k Apart.none, h3.all k Apart.none⟩
theorem Stc.apart {w : World} {p : Nat} {t : TypeId} {vs : List Value} {T : Nat → Prop} {v : Value} {l : List Nat} (h : Stc w p t vs) (ho : Owb w T v l) (ht : t ≠ 5) : Apart (onB p) T := fun i hi hT => by
  cases hi
  have hv := (ho.2 _).1 hT
  rcases ho.1.1.2 with ⟨rfl, _⟩ | ⟨g, cap, cur, rfl, _, hg, _⟩
  · cases hv
  · cases hv
    have h' := h
    unfold Stc at h'
    rw [h'] at hg
    cases hg; exact ht rfl
theorem y_alloc_stc {P : Program} {ρ : Operand → Value} {o : Oper} {w : World} {R : Value → World → Prop} {t : TypeId} {n : Nat} {vs : List Value} (ho : o.op = .alloc t) (hi : (P.info? t).map (fun i => (i.zero, i.size)) = some (some (.agg vs.toArray), n)) (h : R (.pointer (some ⟨w.heap.size, 0, none⟩)) (w.alloc (.cells vs.toArray t))) : Yields P ρ o w R :=
  y_of (v := .pointer (some ⟨w.heap.size, 0, none⟩)) (w' := w.alloc (.cells vs.toArray t)) (by simp [execOp, ho, (zero_of_info hi).1, go_sem]) h
end Go.Proofs.YtknjpdcpmpfklaaGreatDoor
set_option maxRecDepth 100000
namespace Go.Proofs.YtknjpdcpmpfklaaGreatDoor
open Go.RowKit
def subV (v : Value) (l h m : Nat) : Value := match v with
  | .slice a _ _ => .slice (if m = l then a else a.map (·.add l)) (h - l) (m - l)
  | _ => undef
def capV : Value → Nat
  | .slice _ _ c => c
  | _ => 0
theorem Byt.cap {w : World} {T : Nat → Prop} {v : Value} {l : List Nat} (h : Byt w T v l) : l.length ≤ capV v ∧ capV v ≤ maxLen := by
  obtain ⟨⟨a, cap, rfl, h1, h2, _⟩, _⟩ := h; exact ⟨h1, h2⟩
theorem Byt.sub {w : World} {T : Nat → Prop} {v : Value} {l : List Nat} (hb : Byt w T v l) {i j m : Nat} (h1 : i ≤ j) (h2 : j ≤ m) (h3 : j ≤ l.length) (h4 : m ≤ capV v) : Byt w T (subV v i j m) ((l.drop i).take (j - i)) := by
  have hc := hb.cap
  obtain ⟨hB, hL, hT⟩ := hb
  obtain ⟨a, cap, rfl, k1, k2, k3, k4, k5⟩ := hB
  have hB : BytesArg w (.slice a l.length cap) l := ⟨a, cap, rfl, k1, k2, k3, k4, k5⟩
  have hm : m ≤ cap := h4
  refine ⟨hB.cut i j (m - i) h1 h3 (by omega) (by omega) (if m = i then a else a.map (fun z : Addr => z.add i)) (fun hp => by rw [if_neg (by omega)]) (fun h0 => ?_), hL, fun hp a' n c e => ?_⟩
  · split at h0
    · omega
    · have : a = none := by cases a <;> simp_all
      have := k3 this; omega
  · have hlen : 0 < j - i := by
      have : ((l.drop i).take (j - i)).length = j - i := by simp; omega
      omega
    simp only [subV] at e
    rw [if_neg (by omega)] at e
    cases a with
    | none => simp at e
    | some a0 =>
      simp at e
      obtain ⟨e1, _, _⟩ := e
      have hblk : a'.block = a0.block := by rw [← e1]; unfold Addr.add; split <;> rfl
      rw [hblk]
      exact hT (by omega) a0 _ _ rfl
theorem sub_addr {w : World} {T : Nat → Prop} {v : Value} {l : List Nat} (hb : Byt w T v l) {i j m : Nat} (t : Nat) (h2 : j ≤ m) (h3 : j ≤ l.length) (ht : t < j - i) : bytAddr (subV v i j m) t = bytAddr v (i + t) := by
  obtain ⟨⟨a, cap, rfl, _, _, _, _, k5⟩, _⟩ := hb
  obtain ⟨b, off, rfl, _, _⟩ := k5 (by omega)
  simp only [subV, bytAddr]
  rw [if_neg (by omega)]
  simp [Addr.add_lit, Nat.add_assoc]
section
variable {ρ : Operand → Value} {o : Oper} {w : World} {R : Value → World → Prop}
theorem y_cut3 {x lo hi mx : Operand} {T : Nat → Prop} {v : Value} {l : List Nat} {kl kh km : IntKind} (i j m : Nat) {il ih im : Int} (ho : o.op = .slice 26 x (some lo) (some hi) (some mx)) (hx : ρ x = v) (hl : ρ lo = .int kl il) (hh : ρ hi = .int kh ih) (hm : ρ mx = .int km im) (e1 : il = (i : Int)) (e2 : ih = (j : Int)) (e3 : im = (m : Int)) (hb : Byt w T v l) (h1 : i ≤ j) (h2 : j ≤ m) (h3 : m ≤ l.length) (h : R (subV v i j m) w) : Yields Tryz.prog ρ o w R := by
  subst e1; subst e2; subst e3
  have hc := hb.cap
  obtain ⟨⟨a, cap, rfl, k1, _⟩, _⟩ := hb
  obtain ⟨i0, hi0, hz0, hz1, hz2⟩ := info_parts Tryz.info_u8
  have hmc : m ≤ cap := by omega
  refine y_val (v := subV (.slice a l.length cap) i j m) (w' := w) ?_ h
  have b1 : (Instr.sliceBounds true l.length cap (some (.int kl (i : Int))) (some (.int kh (j : Int))) (some (.int km (m : Int)))).run Tryz.prog w = .ok (i, j, m) w := by
    simp [Instr.sliceBounds, Instr.sliceBound, asIntOf, hmc, h1, h2]
  simp [execOp, ho, hx, hl, hh, hm, Instr.sliceAt, Instr.slice, run_underlying Tryz.underlying26, b1, sizeOf, typeInfo, hi0, hz1, subV]
theorem y_cutH {x hi : Operand} {T : Nat → Prop} {v : Value} {l : List Nat} {kh : IntKind} (j : Nat) {ih : Int} (ho : o.op = .slice 26 x none (some hi) none) (hx : ρ x = v) (hh : ρ hi = .int kh ih) (e2 : ih = (j : Int)) (hb : Byt w T v l) (h2 : j ≤ l.length) (h : R (subV v 0 j (capV v)) w) : Yields Tryz.prog ρ o w R := by
  subst e2
  obtain ⟨⟨a, cap, rfl, k1, _⟩, _⟩ := hb
  obtain ⟨i0, hi0, hz0, hz1, hz2⟩ := info_parts Tryz.info_u8
  have hmc : j ≤ cap := by omega
  refine y_val (v := subV (.slice a l.length cap) 0 j (capV (.slice a l.length cap))) (w' := w) ?_ h
  have b1 : (Instr.sliceBounds true l.length cap none (some (.int kh (j : Int))) none).run Tryz.prog w = .ok (0, j, cap) w := by
    simp [Instr.sliceBounds, Instr.sliceBound, asIntOf, hmc]
  simp [execOp, ho, hx, hh, Instr.sliceAt, Instr.slice, run_underlying Tryz.underlying26, b1, sizeOf, typeInfo, hi0, hz1, subV, capV]
  rfl
theorem y_atS {x ix : Operand} {T : Nat → Prop} {v : Value} {l : List Nat} {k : IntKind} {i j m : Nat} (t : Nat) {it : Int} (ho : o.op = .indexAddr 26 x ix) (hx : ρ x = subV v i j m) (hi : ρ ix = .int k it) (hij : it = (t : Int)) (hb : Byt w T v l) (h1 : i ≤ j) (h2 : j ≤ m) (h3 : j ≤ l.length) (h4 : m ≤ capV v) (ht : t < j - i) (h : R (bytAddr v (i + t)) w) : Yields Tryz.prog ρ o w R := by
  have hl : ((l.drop i).take (j - i)).length = j - i := by simp; omega
  refine y_atB t ho hx hi hij (hb.sub h1 h2 h3 h4) (by rw [hl]; exact ht) ?_
  rw [sub_addr hb t h2 h3 ht]; exact h
theorem sub_len {w : World} {T : Nat → Prop} {v : Value} {l : List Nat} (hb : Byt w T v l) (i j m : Nat) : ∃ a, subV v i j m = .slice a (j - i) (m - i) := by
  obtain ⟨⟨a, cap, rfl, _⟩, _⟩ := hb
  exact ⟨_, rfl⟩
theorem y_lenS {c : Call} {x : Operand} {T : Nat → Prop} {v : Value} {l : List Nat} {i j m : Nat} (ho : o.op = .call c) (hc : c = { callee := .builtin .len, args := #[x], argTypes := #[26] }) (hx : ρ x = subV v i j m) (hb : Byt w T v l) (h : R (.int .i64 ((j - i : Nat) : Int)) w) : Yields Tryz.prog ρ o w R := by
  subst hc
  obtain ⟨a, e⟩ := sub_len hb i j m
  rw [e] at hx
  exact y_len ho rfl rfl rfl Tryz.underlying26 hx h
end
end Go.Proofs.YtknjpdcpmpfklaaGreatDoor
set_option maxRecDepth 100000
namespace Go.Proofs.YtknjpdcpmpfklaaGreatDoor
open Go.RowKit
section
variable {ρ : Operand → Value} {o : Oper} {w : World} {R : Value → World → Prop}
theorem y_ldPl {t : TypeId} {x : Operand} {p k : Nat} {vs : List Value} {a b c : Value} (ho : o.op = .load 27 x) (hx : ρ x = .pointer (some ⟨p, k, none⟩)) (hB : Stc w p t vs) (h0 : vs[k]? = some a) (h1 : vs[k + 1]? = some b) (h2 : vs[k + 2]? = some c) (h : R (.agg #[a, b, c]) w) : Yields Tryz.prog ρ o w R := by
  have hr : w.rangeAt p k [a, b, c] := by
    intro j v hj
    match j, hj with
    | 0, hj => obtain rfl : a = v := by simpa using hj
               exact hB.cell h0
    | 1, hj => obtain rfl : b = v := by simpa using hj
               exact hB.cell h1
    | 2, hj => obtain rfl : c = v := by simpa using hj
               exact hB.cell h2
    | n + 3, hj => simp at hj
  refine y_val (v := .agg #[a, b, c]) (w' := w) ?_ h
  simp only [execOp, ho, hx, Sem.run_bind, run_loadAt_mid w p k 27 [a, b, c] _ hr Tryz.underlying27 rfl (by kernel_rfl), Result.andThen_ok, Sem.run_pure]
theorem y_ixPl {x y : Operand} {k : IntKind} {cs : Array Value} {v : Value} (j : Nat) (ho : o.op = .index 27 x y) (hx : ρ x = .agg cs) (hy : ρ y = .int k (j : Int)) (hj : j < 3) (hv : cs[j]? = some v) (h : R v w) : Yields Tryz.prog ρ o w R := by
  have hs : (Tryz.prog.info? 26).map (·.size) = some 1 := by kernel_rfl
  cases hq : Tryz.prog.info? 26 with
  | none => simp [hq] at hs
  | some i =>
    have hs' : i.size = 1 := by simpa [hq] using hs
    have hp : (part 26 cs j).run Tryz.prog w = .ok v w := by simp [part, isAgg, run_underlying Tryz.underlying26, hv]
    have h1 : (0 : Int) ≤ (j : Int) := by omega
    have h2 : (j : Int) < 3 := by omega
    exact y_val (v := v) (w' := w) (by simp [execOp, ho, hx, hy, Instr.index, run_underlying Tryz.underlying27, asIntOf, sizeOf, typeInfo, hq, hs', hj, hp]) h
theorem y_cut2L {x lo : Operand} {T : Nat → Prop} {v : Value} {l : List Nat} {kl : IntKind} {i j m : Nat} (k : Nat) {il : Int} (ho : o.op = .slice 26 x (some lo) none none) (hx : ρ x = subV v i j m) (hl : ρ lo = .int kl il) (e1 : il = (k : Int)) (hb : Byt w T v l) (h1 : k ≤ j - i) (h : R (subV (subV v i j m) k (j - i) (m - i)) w) : Yields Tryz.prog ρ o w R := by
  subst e1
  obtain ⟨a, e⟩ := sub_len hb i j m
  obtain ⟨i0, hi0, hz0, hz1, hz2⟩ := info_parts Tryz.info_u8
  refine y_val (v := subV (subV v i j m) k (j - i) (m - i)) (w' := w) ?_ h
  rw [e] at hx ⊢
  have b1 : (Instr.sliceBounds true (j - i) (m - i) (some (.int kl (k : Int))) none none).run Tryz.prog w = .ok (k, j - i, m - i) w := by
    simp [Instr.sliceBounds, Instr.sliceBound, asIntOf, h1]
  simp [execOp, ho, hx, hl, Instr.sliceAt, Instr.slice, run_underlying Tryz.underlying26, b1, sizeOf, typeInfo, hi0, hz1, subV]
theorem y_cut2H {x hi : Operand} {T : Nat → Prop} {v : Value} {l : List Nat} {kl : IntKind} {i j m : Nat} (k : Nat) {il : Int} (ho : o.op = .slice 26 x none (some hi) none) (hx : ρ x = subV v i j m) (hl : ρ hi = .int kl il) (e1 : il = (k : Int)) (hb : Byt w T v l) (h1 : k ≤ m - i) (h : R (subV (subV v i j m) 0 k (m - i)) w) : Yields Tryz.prog ρ o w R := by
  subst e1
  obtain ⟨a, e⟩ := sub_len hb i j m
  obtain ⟨i0, hi0, hz0, hz1, hz2⟩ := info_parts Tryz.info_u8
  refine y_val (v := subV (subV v i j m) 0 k (m - i)) (w' := w) ?_ h
  rw [e] at hx ⊢
  have b1 : (Instr.sliceBounds true (j - i) (m - i) none (some (.int kl (k : Int))) none).run Tryz.prog w = .ok (0, k, m - i) w := by
    simp [Instr.sliceBounds, Instr.sliceBound, asIntOf, h1]
  simp [execOp, ho, hx, hl, Instr.sliceAt, Instr.slice, run_underlying Tryz.underlying26, b1, sizeOf, typeInfo, hi0, hz1, subV]
theorem y_cut3T {x hi mx : Operand} {T : Nat → Prop} {v : Value} {l : List Nat} {kh km : IntKind} (j m : Nat) {ih im : Int} (ho : o.op = .slice 26 x none (some hi) (some mx)) (hx : ρ x = v) (hh : ρ hi = .int kh ih) (hm : ρ mx = .int km im) (e2 : ih = (j : Int)) (e3 : im = (m : Int)) (hb : Byt w T v l) (h2 : j ≤ m) (h4 : m ≤ l.length) (h : R (subV v 0 j m) w) : Yields Tryz.prog ρ o w R := by
  subst e2; subst e3
  obtain ⟨⟨a, cap, rfl, k1, _⟩, _⟩ := hb
  obtain ⟨i0, hi0, hz0, hz1, hz2⟩ := info_parts Tryz.info_u8
  have hmc : m ≤ cap := by omega
  refine y_val (v := subV (.slice a l.length cap) 0 j m) (w' := w) ?_ h
  have b1 : (Instr.sliceBounds true l.length cap none (some (.int kh (j : Int))) (some (.int km (m : Int)))).run Tryz.prog w = .ok (0, j, m) w := by
    simp [Instr.sliceBounds, Instr.sliceBound, asIntOf, hmc, h2]
  simp [execOp, ho, hx, hh, hm, Instr.sliceAt, Instr.slice, run_underlying Tryz.underlying26, b1, sizeOf, typeInfo, hi0, hz1, subV]
end
def PartAt (x v : Value) (off n : Nat) : Prop := ∃ d cp, x = .slice d n cp ∧ (0 < n → ∀ g nn cc, v = .slice (some ⟨g, 0, none⟩) nn cc → d = some ⟨g, off, none⟩)
theorem part_sub {w : World} {T : Nat → Prop} {v : Value} {l : List Nat} (hb : Byt w T v l) {i j m : Nat} (h2 : j ≤ m) : PartAt (subV v i j m) v i (j - i) := by
  obtain ⟨⟨a, cap, rfl, k1, k2, k3, k4, k5⟩, k6⟩ := hb
  clear k3 k4 k5 k6
  refine ⟨_, _, rfl, fun hp g nn cc e => ?_⟩
  cases e
  rw [if_neg (by omega)]
  simp [Addr.add_lit]
theorem part_sub2 {w : World} {T : Nat → Prop} {v : Value} {l : List Nat} (hb : Byt w T v l) {i j m k q r : Nat} (h2 : j ≤ m) (h3 : q ≤ j - i) (hr : r = i + k) : PartAt (subV (subV v i j m) k q (m - i)) v r (q - k) := by
  subst hr
  obtain ⟨⟨a, cap, rfl, k1, k2, k3, k4, k5⟩, k6⟩ := hb
  clear k3 k4 k5 k6
  refine ⟨_, _, rfl, fun hp g nn cc e => ?_⟩
  cases e
  rw [if_neg (by omega), if_neg (by omega)]
  simp [Addr.add_lit]
section
variable {ro : Option Nat} {N : Nat} {Q : (Exit → (Nat → Value) → World → Prop)} {F : Nat → Value} {w : World} {o : Oper}
theorem run_copyM {ρ : Operand → Value} {c : Call} {x y : Operand} {T U : Nat → Prop} {v u : Value} {l m : List Nat} {off n : Nat} (ho : o.op = .call c) (hc : c = { callee := .builtin .copy, args := #[x, y], argTypes := #[26, 26] }) (hx : PartAt (ρ x) v off n) (hy : ρ y = u) (hv : Owb w T v l) (hu : Byt w U u m) (hoff : off + n ≤ l.length) :
    ∃ w', (execOp ρ o).run Tryz.prog w = .ok (.value (.int .i64 ((min n m.length : Nat) : Int))) w' ∧ Owb w' T v (l.take off ++ (m.take n ++ l.drop (off + min n m.length))) ∧ Kept T w w' := by
  subst hc
  have hsz : (Tryz.prog.info? 5).map (·.size) = some 1 := by
    obtain ⟨i0, hi0, hz0, hz1, hz2⟩ := info_parts Tryz.info_u8
    rw [hi0]; simp [hz1]
  have hlen : (l.take off ++ (m.take n ++ l.drop (off + min n m.length))).length = l.length := by simp; omega
  have hml : (m.take n).length = min n m.length := by simp
  have hall : ∀ y ∈ l.take off ++ (m.take n ++ l.drop (off + min n m.length)), y < 256 := by
    intro y hy
    rcases List.mem_append.1 hy with h' | h'
    · exact hv.lt256 y (List.mem_of_mem_take h')
    · rcases List.mem_append.1 h' with h' | h'
      · exact hu.lt256 y (List.mem_of_mem_take h')
      · exact hv.lt256 y (List.mem_of_mem_drop h')
  obtain ⟨d, cp, hxx, hd⟩ := hx
  by_cases h0 : min n m.length = 0
  · have h0' : min m.length n = 0 := by omega
    obtain ⟨⟨a, cap, rfl, k1, k2, k3, h256, hcu⟩, _⟩ := hu
    clear hcu hd
    have hm : m.take n = [] := List.eq_nil_of_length_eq_zero (by omega)
    have hrun := run_copy_none (P := Tryz.prog) w 26 26 o.type 5 d a n cp m.length cap Tryz.underlying26 hsz h0'
    refine ⟨w, by rw [h0]; simp [execOp, ho, resolve, invoke, builtin, hxx, hy, hrun, Result.andThen]; rfl, ?_, Kept.refl _ _⟩
    rw [h0, hm, List.nil_append, Nat.add_zero, List.take_append_drop]; exact hv
  · have hm0 : 0 < m.length := by omega
    have hn0 : 0 < n := by omega
    obtain ⟨⟨a, cap, rfl, k1, k2, k3, h256, hcu⟩, hu2⟩ := hu
    clear k3 hu2
    obtain ⟨b, o1, rfl, hb1, hcell⟩ := hcu hm0
    clear hcu
    replace hd := hd hn0
    rcases hv.1.1.2 with ⟨rfl, hz⟩ | ⟨g, cp2, cur, rfl, hb, hgg, hnc, hcm, hcs, htake⟩
    · omega
    · obtain rfl := hd g _ _ rfl
      have hbl : (byteVals (m.take n)).length = min n m.length := by rw [byteVals_length, hml]
      have hrun := run_copy_row (P := Tryz.prog) w 26 26 o.type 5 g off n cp ⟨b, o1, none⟩ m.length cap cur 5 (byteVals (m.take n)) Tryz.underlying26 hsz hgg (by rw [hbl]; show min n m.length = min m.length n; omega) (fun t u ht => by
        have hjl : t < (m.take n).length := by
          have := (List.getElem?_eq_some_iff.1 ht).1
          rwa [byteVals_length] at this
        rw [Addr.add_lit, hcell t (by omega), ← ht, byteVals_at (m.take n) t hjl]
        rw [show (m.take n).getD t 0 = m.getD t 0 by simp [List.getD, show t < n by omega]]) (by rw [hbl]; omega) (byteVals_one _)
      refine ⟨w.setRow g (cur.toList.take off ++ byteVals (m.take n) ++ cur.toList.drop (off + (byteVals (m.take n)).length)).toArray, by simp [execOp, ho, resolve, invoke, builtin, hxx, hy, hrun, Result.andThen, hbl]; rfl, ⟨⟨⟨?_, .inr ⟨g, cp2, _, ?_, hb, setRow_heap w g cur _ _ _ hgg, ?_, hcm, ?_, ?_⟩⟩, hall⟩, hv.2⟩, (Kept.refl T w).setRow g (fun _ => (hv.2 g).2 rfl) _⟩
      · rw [byteVals_length]; omega
      · rw [hlen]
      · omega
      · simp [byteVals_length]; omega
      · have htk : cur.toList.take l.length = byteVals l := by simpa using htake
        have hcl : cur.toList = byteVals l ++ cur.toList.drop l.length := by rw [← htk, List.take_append_drop]
        rw [hcl]
        generalize cur.toList.drop l.length = rest2
        have hli : off ≤ (byteVals l).length := by rw [byteVals_length]; omega
        have hlj : off + (byteVals (m.take n)).length ≤ (byteVals l).length := by rw [hbl, byteVals_length]; omega
        rw [List.take_append_of_le_length hli, List.drop_append_of_le_length hlj, hlen, Nat.mul_one]
        have e2 : byteVals (l.take off ++ (m.take n ++ l.drop (off + min n m.length))) = (byteVals l).take off ++ (byteVals (m.take n) ++ (byteVals l).drop (off + (byteVals (m.take n)).length)) := by
          rw [hbl]
          simp [byteVals, List.map_take, List.map_drop]
        rw [e2]
        have e3 : ((byteVals l).take off ++ byteVals (m.take n) ++ ((byteVals l).drop (off + (byteVals (m.take n)).length) ++ rest2)) = ((byteVals l).take off ++ (byteVals (m.take n) ++ (byteVals l).drop (off + (byteVals (m.take n)).length))) ++ rest2 := by simp
        rw [e3, List.take_append_of_le_length (by simp [byteVals_length]; omega)]
        rw [List.take_of_length_le (by simp [byteVals_length]; omega)]
theorem wl_copyM {ops : Array Oper} {rest : List Oper} {c : Call} {x y : Operand} {T U : Nat → Prop} {v u : Value} {l m : List Nat} {off n : Nat} {X : Value} (hg : o.guard = none) (hd : fits N o.dst = true) (ho : o.op = .call c) (hc : c = { callee := .builtin .copy, args := #[x, y], argTypes := #[26, 26] }) (hxX : ev (cutF N F) x = X) (hp : PartAt X v off n) (hy : ev (cutF N F) y = u) (hv : Owb w T v l) (hu : Byt w U u m) (hoff : off + n ≤ l.length)
    (h : ∀ w', Owb w' T v (l.take off ++ (m.take n ++ l.drop (off + min n m.length))) → Kept T w w' → wl ro Tryz.prog N ops Q rest (putF F o.dst (.int .i64 ((min n m.length : Nat) : Int))) w') : wl ro Tryz.prog N ops Q (o :: rest) F w := by
  obtain ⟨w', hr, h1, h2⟩ := run_copyM ho hc (by rw [hxX]; exact hp) hy hv hu hoff
  exact wl_op hg hd (y_val hr (h w' h1 h2))
end
theorem stcT_by4 : StcT Tryz.prog 123 4 := ⟨_, Tryz.underlying123, rfl, by kernel_rfl⟩
def arrV (p k : Nat) : Value := .slice (some (if 4 = k then ⟨p, 0, none⟩ else ⟨p, k, none⟩)) (4 - k) (4 - k)
theorem Stc.bytes {w : World} {p t : Nat} {a b c d : Nat} (h : Stc w p t [.int .u8 (a : Int), .int .u8 (b : Int), .int .u8 (c : Int), .int .u8 (d : Int)]) (ha : a < 256) (hb : b < 256) (hc : c < 256) (hd : d < 256) {k : Nat} (hk : k ≤ 4) : Byt w (onB p) (arrV p k) ([a, b, c, d].drop k) := by
  have hl : ([a, b, c, d].drop k).length = 4 - k := by simp
  refine ⟨⟨some (if 4 = k then ⟨p, 0, none⟩ else ⟨p, k, none⟩), 4 - k, by rw [hl]; rfl, by omega, Nat.le_trans (Nat.sub_le 4 k) (by decide), (fun e => by cases e), ?_, fun hp => ⟨p, k, by rw [if_neg (by omega)], h.lt, fun i hi => ?_⟩⟩, onB_live h.lt, fun _ a' n c' e => ?_⟩
  · intro x hx
    have := List.mem_of_mem_drop hx
    simp at this
    omega
  · rw [hl] at hi
    have hc := h.cell (i := k + i) (v := .int .u8 (([a, b, c, d].drop k).getD i 0 : Nat)) (by
      have : k = 0 ∨ k = 1 ∨ k = 2 ∨ k = 3 := by omega
      have hi4 : i = 0 ∨ i = 1 ∨ i = 2 ∨ i = 3 := by omega
      rcases this with rfl | rfl | rfl | rfl <;> rcases hi4 with rfl | rfl | rfl | rfl <;> first | rfl | omega)
    exact hc
  · unfold arrV at e
    simp only [Value.slice.injEq, Option.some.injEq] at e
    rw [← e.1]
    split <;> rfl
section
variable {ρ : Operand → Value} {o : Oper} {w : World} {R : Value → World → Prop}
theorem y_cutA {x lo : Operand} {p : Nat} {kl : IntKind} (k : Nat) {il : Int} (ho : o.op = .slice 123 x (some lo) none none) (hx : ρ x = .pointer (some ⟨p, 0, none⟩)) (hl : ρ lo = .int kl il) (e1 : il = (k : Int)) (hk : k ≤ 4) (h : R (arrV p k) w) : Yields Tryz.prog ρ o w R := by
  subst e1
  obtain ⟨i0, hi0, hz0, hz1, hz2⟩ := info_parts Tryz.info_u8
  refine y_val (v := arrV p k) (w' := w) ?_ h
  have b1 : (Instr.sliceBounds false 4 4 (some (.int kl (k : Int))) none none).run Tryz.prog w = .ok (k, 4, 4) w := by
    simp [Instr.sliceBounds, Instr.sliceBound, asIntOf, hk]
  simp [execOp, ho, hx, hl, Instr.sliceAt, Instr.sureAddr, run_underlying Tryz.underlying123, b1, sizeOf, typeInfo, hi0, hz1, arrV, Addr.add_lit]
end
theorem digits_bytes : ∀ (n t : Nat) (acc : List Nat), (∀ x ∈ acc, x < 256) → ∃ l : List Nat, Extern.BytealgMakeNoZero.digits n t (byteVals acc).toArray = (byteVals l).toArray ∧ (∀ x ∈ l, x < 256) ∧ l.length = acc.length + n
  | 0, _, acc, h => ⟨acc, rfl, h, rfl⟩
  | n + 1, t, acc, h => by
    obtain ⟨l, h1, h2, h3⟩ := digits_bytes n (t / 256) (acc ++ [t % 256]) (by
      intro x hx
      rcases List.mem_append.1 hx with hx | hx
      · exact h x hx
      · simp at hx; omega)
    refine ⟨l, ?_, h2, by simp at h3; omega⟩
    rw [Extern.BytealgMakeNoZero.digits, ← h1]
    congr 1
    simp [byteVals]
theorem run_makeNoZero_bytes (w : World) (n : Nat) (hn : n < 1099511627776) :
    ∃ cs : Array Value, (Extern.BytealgMakeNoZero.makeNoZero #[3] #[26] #[.int .i64 n]).run Tryz.prog w = .ok (.slice (some ⟨w.heap.size, 0, none⟩) n cs.size) (w.drew.drew.alloc (.cells cs 5)) ∧ n ≤ cs.size ∧ cs.size ≤ maxLen ∧ ∃ l : List Nat, cs = (byteVals l).toArray ∧ (∀ x ∈ l, x < 256) ∧ l.length = cs.size := by
  obtain ⟨cs, hr, h1, h2⟩ := Lib.run_makeNoZero (P := Tryz.prog) w #[3] 26 5 Tryz.underlying26 n (by omega)
  refine ⟨cs, hr, h1, h2 (Nat.le_trans (Nat.le_of_lt hn) (by decide)), ?_⟩
  have h0 : ¬ (n : Int) < 0 := by omega
  have h3 : ¬ (281474976710656 : Int) < (n : Int) := by omega
  have hd : Extern.BytealgMakeNoZero.makeNoZero #[3] #[26] #[.int .i64 n] = underlying 26 >>= _ := rfl
  have hr2 := hr
  rw [hd] at hr2
  simp [run_underlying Tryz.underlying26, h0, h3, Question.forced, newRow] at hr2
  have e := congrArg (fun W : World => W.heap[w.drew.drew.heap.size]?) hr2.2
  simp only [heap_alloc_new] at e
  have e2 := (Obj.cells.inj (Option.some.inj e)).1
  rw [hr2.1] at e2
  obtain ⟨T, hT⟩ : ∃ T, Extern.BytealgMakeNoZero.digits cs.size T #[] = cs := ⟨_, e2⟩
  obtain ⟨l, k1, k2, k3⟩ := digits_bytes cs.size T [] (by simp)
  exact ⟨l, hT.symm.trans k1, k2, by simpa using k3⟩
theorem wl_mnz {ro : Option Nat} {N : Nat} {Q : (Exit → (Nat → Value) → World → Prop)} {F : Nat → Value} {w : World} {o : Oper} {ops : Array Oper} {rest : List Oper} {c : Call} {x : Operand} {f : FuncId} {fn : Func} {n : Nat} {i : Int} (hg : o.guard = none) (hd : fits N o.dst = true) (ho : o.op = .call c) (hc : c = { callee := .value (.func f), args := #[x], argTypes := #[3] }) (hx : ev (cutF N F) x = .int .i64 i) (hi : i = (n : Int)) (hn : n < 1099511627776)
    (hf : Tryz.prog.funcs[f]? = some fn) (hname : (fn.name == "runtime.NumGoroutine") = false) (hb : fn.body.isNone = true) (hnx : Extern.findNext fn = none) (he : Extern.find fn = some (Extern.BytealgMakeNoZero.makeNoZero #[3] #[26]))
    (h : ∀ v w' T (l : List Nat), Owb w' T v l → l.length = n → Grew w noB T → Kept (fun _ => False) w w' → wl ro Tryz.prog N ops Q rest (putF F o.dst v) w') : wl ro Tryz.prog N ops Q (o :: rest) F w := by
  subst hc; subst hi
  obtain ⟨cs, hrun, hle, hmx, hcap⟩ := run_makeNoZero_bytes w n hn
  obtain ⟨J, hJ, hJ2, hJ3⟩ := hcap
  have hcall : (callFunc f #[.int .i64 (n : Int)]).run Tryz.prog w = .ok (.value (.slice (some ⟨w.heap.size, 0, none⟩) n cs.size)) (w.drew.drew.alloc (.cells cs 5)) := by
    rw [run_callFunc_extern hf hname hb hnx he, hrun]; rfl
  have hsz : cs.size = J.length := by rw [hJ]; simp [byteVals_length]
  refine wl_op hg hd (y_val (v := .slice (some ⟨w.heap.size, 0, none⟩) n cs.size) (w' := w.drew.drew.alloc (.cells cs 5)) (by simp [execOp, ho, resolve, ev_func, Deferred.ofValue, invoke, hx, hcall]) (h _ _ _ (J.take n) (Owb.of ⟨⟨by rw [byteVals_length]; omega, .inr ⟨w.heap.size, cs.size, cs, by rw [List.length_take, Nat.min_eq_left (by omega)], Nat.zero_le _, ?_, by rw [List.length_take]; omega, hmx, by omega, ?_⟩⟩, fun y hy => hJ2 y (List.mem_of_mem_take hy)⟩) (by rw [List.length_take]; omega) (fun i hi => .inr ?_) (((Kept.refl _ w).drew.drew).alloc _)))
  · exact heap_alloc_new w.drew.drew _
  · rw [hJ, List.length_take, Nat.min_eq_left (by omega), Nat.mul_one]
    simp [byteVals, List.map_take]
  · cases hi; exact Nat.le_refl _
end Go.Proofs.YtknjpdcpmpfklaaGreatDoor
set_option maxRecDepth 100000
namespace Go.Proofs.YtknjpdcpmpfklaaGreatDoor
open Go.RowKit
theorem ps_clamped (n a b : Int) (w0 : World) :
  Calls Tryz.prog 116 #[.int .i64 (n), .int .i64 (a), .int .i64 (b)] w0 fun e w' => e = .returned (.int .i64 (max a (min n b))) ∧ Kept (fun _ => False) w0 w' := by
 refine calls_wq (args := [iv n, iv a, iv b]) 12 Tryz.func116 rfl rfl (Nat.le_of_ble_eq_true rfl) ?_
 have K0 := Kept.refl (fun _ => False) w0
 refine wq_seq (wq_region (wl_v (iv 0) rfl rfl (y_asg rfl rfl rr) (wl_nil fun F1 hF2 => ?_)))
 have s3 : F1 0 = iv n := (hF2 0).trans rfl
 have s4 : F1 1 = iv a := (hF2 1).trans rfl
 have s5 : F1 2 = iv b := (hF2 2).trans rfl
 have s6 : F1 12 = undef := (hF2 12).trans rfl
 clear hF2
 refine then_normal (wq_seq (wq_region (wl_mv rfl rfl rfl s4 (wl_mv rfl rfl rfl s3 (wl_mv rfl rfl rfl s5 (wl_v (iv (min n b)) rfl rfl (y_minR rfl rfl rfl rfl rr) (wl_v (iv (max a (min n b))) rfl rfl (y_maxR rfl rfl rfl rfl rr) (wl_v (iv (max a (min n b))) rfl rfl (y_asg rfl rfl rr) (wl_nil fun F7 hF8 => ?_)))))))))
 have s9 := (hF8 12).trans s6
 have s10 : F7 6 = iv (max a (min n b)) := (hF8 6).trans rfl
 clear hF8
 refine then_normal (wq_ret ?_)
 exact end_tmp (v := iv (max a (min n b))) s9 rfl rfl s10 ⟨rfl, K0⟩
theorem ps_side (n : Int) (w0 : World) :
  Calls Tryz.prog 51 #[.int .i64 (n)] w0 fun e w' => e = .returned (.bool (sideB n)) ∧ Kept (fun _ => False) w0 w' := by
 refine calls_wq (args := [iv n]) 14 Tryz.func51 rfl rfl (Nat.le_of_ble_eq_true rfl) ?_
 have K0 := Kept.refl (fun _ => False) w0
 refine wq_seq (wq_region (wl_v (.bool false) rfl rfl (y_asg rfl rfl rr) (wl_nil fun F1 hF2 => ?_)))
 have s3 : F1 0 = iv n := (hF2 0).trans rfl
 have s4 : F1 14 = undef := (hF2 14).trans rfl
 clear hF2
 refine then_normal (wq_seq ?_)
 by_cases d5 : 8 ≤ n
 ·skip
  by_cases d6 : n ≤ 64
  ·skip
   refine wq_region (wl_mv rfl rfl rfl s3 (wl_v (.bool true) rfl rfl (y_geq rfl rfl rfl (decide_eq_true d5) rr) (wl_v (.bool true) rfl rfl (y_mov rfl rfl rr) (wl_vw (iv n) 2 true 5 rfl rfl rfl rfl rfl (y_mov rfl s3 rr) (wl_vw (.bool true) 2 true 5 rfl rfl rfl rfl rfl (y_leq rfl rfl rfl (decide_eq_true d6) rr) (wl_v (.bool true) rfl rfl (y_pickT rfl rfl rfl rr) (wl_v (.bool true) rfl rfl (y_mov rfl rfl rr) (wl_vw (iv n) 6 true 9 rfl rfl rfl rfl rfl (y_mov rfl s3 rr) (wl_vw (iv (Int.tmod n 8)) 6 true 9 rfl rfl rfl rfl rfl (y_rem rfl rfl rfl (by first | decide | omega) rfl rr) (wl_vw (.bool (decide ((Int.tmod n 8) = 0))) 6 true 9 rfl rfl rfl rfl rfl (y_eqlI rfl rfl rfl rfl rr) (wl_v (.bool (decide ((Int.tmod n 8) = 0))) rfl rfl (y_pickT rfl rfl rfl rr) ?_)))))))))))
   refine wl_v (.bool (decide ((Int.tmod n 8) = 0))) rfl rfl (y_asg rfl rfl rr) (wl_nil fun F7 hF8 => ?_)
   have s9 := (hF8 14).trans s4
   have s10 : F7 2 = .bool (decide ((Int.tmod n 8) = 0)) := (hF8 2).trans rfl
   clear hF8
   refine then_normal (wq_ret ?_)
   exact end_tmp (v := .bool (decide ((Int.tmod n 8) = 0))) s9 rfl rfl s10 ⟨(by first | rw [sideB_low (by omega)] | rw [sideB_high (by omega)] | rw [sideB_mid (by omega) (by omega)]), K0⟩
  ·skip
   refine wq_region (wl_mv rfl rfl rfl s3 (wl_v (.bool true) rfl rfl (y_geq rfl rfl rfl (decide_eq_true d5) rr) (wl_v (.bool true) rfl rfl (y_mov rfl rfl rr) (wl_vw (iv n) 2 true 5 rfl rfl rfl rfl rfl (y_mov rfl s3 rr) (wl_vw (.bool false) 2 true 5 rfl rfl rfl rfl rfl (y_leq rfl rfl rfl (decide_eq_false d6) rr) (wl_v (.bool false) rfl rfl (y_pickT rfl rfl rfl rr) (wl_v (.bool false) rfl rfl (y_mov rfl rfl rr) (wl_unless 6 true 9 rfl rfl rfl (Or.inl rfl) rfl (wl_unless 6 true 9 rfl rfl rfl (Or.inl rfl) rfl (wl_unless 6 true 9 rfl rfl rfl (Or.inl rfl) rfl (wl_v (.bool false) rfl rfl (y_pickF rfl rfl rfl rr) ?_)))))))))))
   refine wl_v (.bool false) rfl rfl (y_asg rfl rfl rr) (wl_nil fun F11 hF12 => ?_)
   have s13 := (hF12 14).trans s4
   have s14 : F11 2 = .bool false := (hF12 2).trans rfl
   clear hF12
   refine then_normal (wq_ret ?_)
   exact end_tmp (v := .bool false) s13 rfl rfl s14 ⟨(by first | rw [sideB_low (by omega)] | rw [sideB_high (by omega)] | rw [sideB_mid (by omega) (by omega)]), K0⟩
 ·skip
  refine wq_region (wl_mv rfl rfl rfl s3 (wl_v (.bool false) rfl rfl (y_geq rfl rfl rfl (decide_eq_false d5) rr) (wl_v (.bool false) rfl rfl (y_mov rfl rfl rr) (wl_unless 2 true 5 rfl rfl rfl (Or.inl rfl) rfl (wl_unless 2 true 5 rfl rfl rfl (Or.inl rfl) rfl (wl_v (.bool false) rfl rfl (y_pickF rfl rfl rfl rr) (wl_v (.bool false) rfl rfl (y_mov rfl rfl rr) (wl_unless 6 true 9 rfl rfl rfl (Or.inl rfl) rfl (wl_unless 6 true 9 rfl rfl rfl (Or.inl rfl) rfl (wl_unless 6 true 9 rfl rfl rfl (Or.inl rfl) rfl (wl_v (.bool false) rfl rfl (y_pickF rfl rfl rfl rr) ?_)))))))))))
  refine wl_v (.bool false) rfl rfl (y_asg rfl rfl rr) (wl_nil fun F15 hF16 => ?_)
  have s17 := (hF16 14).trans s4
  have s18 : F15 2 = .bool false := (hF16 2).trans rfl
  clear hF16
  refine then_normal (wq_ret ?_)
  exact end_tmp (v := .bool false) s17 rfl rfl s18 ⟨(by first | rw [sideB_low (by omega)] | rw [sideB_high (by omega)] | rw [sideB_mid (by omega) (by omega)]), K0⟩
def sidesF (f : FD) (p : Int) : Int × Int := if p = 0 then (f.W, f.H) else (Int.tdiv f.W 2, Int.tdiv f.H 2)
theorem ps_sides (p : Int) (f : FD) (f0 f1 f2 : Value) (T_f0 : Nat → Prop) (T_f1 : Nat → Prop) (T_f2 : Nat → Prop) (w0 : World) (hw : 0 ≤ f.W ∧ f.W ≤ 64) (hh : 0 ≤ f.H ∧ f.H ≤ 64) (_h_f0 : Byt w0 T_f0 f0 ((f).p0)) (_h_f1 : Byt w0 T_f1 f1 ((f).p1)) (_h_f2 : Byt w0 T_f2 f2 ((f).p2)) :
  Calls Tryz.prog 52 #[.agg #[.int .i64 ((f).W), .int .i64 ((f).H), f0, f1, f2], .int .i64 (p)] w0 fun e w' => e = .returned (.tuple #[.int .i64 ((sidesF f p).1), .int .i64 ((sidesF f p).2)]) ∧ Kept (fun _ => False) w0 w' := by
 refine calls_wq (args := [.agg #[iv (f.W), iv (f.H), f0, f1, f2], iv p]) 18 Tryz.func52 rfl rfl (Nat.le_of_ble_eq_true rfl) ?_
 have K0 := Kept.refl (fun _ => False) w0
 have g_f0 := Grew.refl w0 T_f0
 have g_f1 := Grew.refl w0 T_f1
 have g_f2 := Grew.refl w0 T_f2
 refine wq_seq (wq_region (wl_box_stc (vs := [iv (f.W), iv (f.H), f0, f1, f2]) rfl rfl rfl rfl fun p1 w2 B4 g5 k3 => ?_))
 have K13 := K0.tr k3
 refine wl_v (iv 0) rfl rfl (y_asg rfl rfl rr) (wl_v (iv 0) rfl rfl (y_asg rfl rfl rr) (wl_nil fun F14 hF15 => ?_))
 have s16 : F14 1 = iv p := (hF15 1).trans rfl
 have s17 : F14 18 = undef := (hF15 18).trans rfl
 have s18 : F14 2 = pt p1 0 := (hF15 2).trans rfl
 clear hF15
 refine then_normal (wq_seq (wq_seq (wq_region (wl_mv rfl rfl rfl s16 (wl_v (.bool (decide (p = 0))) rfl rfl (y_eqlI rfl rfl rfl rfl rr) (wl_nil fun F19 hF20 => ?_))))))
 obtain ⟨s21, s22⟩ := t2 hF20 18 s17 2 s18
 have s23 : F19 7 = .bool (decide (p = 0)) := (hF20 7).trans rfl
 clear hF20
 refine then_normal ?_
 refine wq_cond s23 (fun c24 => ?_) (fun c24 => ?_)
 ·replace c24 := of_decide_eq_true c24
  refine wq_seq ?_
  refine wq_said [some 8, some 9, some 10, some 11, some 4, some 5] [Pd.eq (pt p1 0), Pd.eq (iv (f.W)), Pd.eq (pt p1 1), Pd.eq (iv (f.H)), Pd.eq (iv (f.W)), Pd.eq (iv (f.H))] (by kernel_rfl) (by kernel_rfl) ?_ ?_
  ·refine stepsF_cons ?_ ?_
   ·refine StepF.one rfl fun F_ w_ hR hout hD => ?_
    exact (y_fieldR (n := 1) rfl ((hout 2 rfl (by decide)).trans s22) Tryz.underlying29 rfl (by kernel_rfl) (by decide) rfl ⟨rfl, Kept.refl _ _⟩)
   refine stepsF_cons ?_ ?_
   ·refine StepF.one rfl fun F_ w_ hR hout hD => ?_
    have g8 : F_ 8 = pt p1 0 := (hD.get 0 rfl rfl rfl)
    exact (y_ld_stc rfl g8 Tryz.underlying3 (B4.all hR id) rfl rfl ⟨rfl, Kept.refl _ _⟩)
   refine stepsF_cons ?_ ?_
   ·refine StepF.one rfl fun F_ w_ hR hout hD => ?_
    exact (y_fieldR (n := 1) rfl ((hout 2 rfl (by decide)).trans s22) Tryz.underlying29 rfl (by kernel_rfl) (by decide) rfl ⟨rfl, Kept.refl _ _⟩)
   refine stepsF_cons ?_ ?_
   ·refine StepF.one rfl fun F_ w_ hR hout hD => ?_
    have g10 : F_ 10 = pt p1 1 := (hD.get 0 rfl rfl rfl)
    exact (y_ld_stc rfl g10 Tryz.underlying3 (B4.all hR id) rfl rfl ⟨rfl, Kept.refl _ _⟩)
   refine stepsF_cons ?_ ?_
   ·refine StepF.one rfl fun F_ w_ hR hout hD => ?_
    have g9 : F_ 9 = iv (f.W) := (hD.get 0 rfl rfl rfl)
    exact (y_asg rfl g9 ⟨rfl, Kept.refl _ _⟩)
   refine stepsF_cons ?_ ?_
   ·refine StepF.one rfl fun F_ w_ hR hout hD => ?_
    have g11 : F_ 11 = iv (f.H) := (hD.get 0 rfl rfl rfl)
    exact (y_asg rfl g11 ⟨rfl, Kept.refl _ _⟩)
   exact stepsF_nil
  intro v25 F26 w27 k28 G29 hF30
  have K36 := K13.tr k28
  have s37 := (hF30 18).trans s21
  have s38 : F26 4 = iv (f.W) := (hF30 4).trans (G29 4 (by decide))
  have s39 : F26 5 = iv (f.H) := (hF30 5).trans (G29 5 (by decide))
  clear G29 hF30
  refine then_normal (wq_ret (then_ret ?_))
  exact end_2 s37 rfl (res_tmp (v := iv (f.W)) rfl s38) (res_tmp (v := iv (f.H)) rfl s39) ⟨(by unfold sidesF; first | rw [if_pos (by assumption)] | rw [if_neg (by assumption)]), K36⟩
 ·replace c24 := of_decide_eq_false c24
  refine wq_skip (then_normal (wq_seq ?_))
  refine wq_said [some 12, some 13, some 14, some 15, some 16, some 17, some 4, some 5] [Pd.eq (pt p1 0), Pd.eq (iv (f.W)), Pd.eq (iv (Int.tdiv f.W 2)), Pd.eq (pt p1 1), Pd.eq (iv (f.H)), Pd.eq (iv (Int.tdiv f.H 2)), Pd.eq (iv (Int.tdiv f.W 2)), Pd.eq (iv (Int.tdiv f.H 2))] (by kernel_rfl) (by kernel_rfl) ?_ ?_
  ·refine stepsF_cons ?_ ?_
   ·refine StepF.one rfl fun F_ w_ hR hout hD => ?_
    exact (y_fieldR (n := 1) rfl ((hout 2 rfl (by decide)).trans s22) Tryz.underlying29 rfl (by kernel_rfl) (by decide) rfl ⟨rfl, Kept.refl _ _⟩)
   refine stepsF_cons ?_ ?_
   ·refine StepF.one rfl fun F_ w_ hR hout hD => ?_
    have g12 : F_ 12 = pt p1 0 := (hD.get 0 rfl rfl rfl)
    exact (y_ld_stc rfl g12 Tryz.underlying3 (B4.all hR id) rfl rfl ⟨rfl, Kept.refl _ _⟩)
   refine stepsF_cons ?_ ?_
   ·refine StepF.one rfl fun F_ w_ hR hout hD => ?_
    have g13 : F_ 13 = iv (f.W) := (hD.get 0 rfl rfl rfl)
    exact (y_quo rfl g13 rfl (by first | decide | omega) (i64_i rfl (by rw [tdiv2 (by omega)]; omega)) ⟨rfl, Kept.refl _ _⟩)
   refine stepsF_cons ?_ ?_
   ·refine StepF.one rfl fun F_ w_ hR hout hD => ?_
    exact (y_fieldR (n := 1) rfl ((hout 2 rfl (by decide)).trans s22) Tryz.underlying29 rfl (by kernel_rfl) (by decide) rfl ⟨rfl, Kept.refl _ _⟩)
   refine stepsF_cons ?_ ?_
   ·refine StepF.one rfl fun F_ w_ hR hout hD => ?_
    have g15 : F_ 15 = pt p1 1 := (hD.get 0 rfl rfl rfl)
    exact (y_ld_stc rfl g15 Tryz.underlying3 (B4.all hR id) rfl rfl ⟨rfl, Kept.refl _ _⟩)
   refine stepsF_cons ?_ ?_
   ·refine StepF.one rfl fun F_ w_ hR hout hD => ?_
    have g16 : F_ 16 = iv (f.H) := (hD.get 0 rfl rfl rfl)
    exact (y_quo rfl g16 rfl (by first | decide | omega) (i64_i rfl (by rw [tdiv2 (by omega)]; omega)) ⟨rfl, Kept.refl _ _⟩)
   refine stepsF_cons ?_ ?_
   ·refine StepF.one rfl fun F_ w_ hR hout hD => ?_
    have g14 : F_ 14 = iv (Int.tdiv f.W 2) := (hD.get 0 rfl rfl rfl)
    exact (y_asg rfl g14 ⟨rfl, Kept.refl _ _⟩)
   refine stepsF_cons ?_ ?_
   ·refine StepF.one rfl fun F_ w_ hR hout hD => ?_
    have g17 : F_ 17 = iv (Int.tdiv f.H 2) := (hD.get 0 rfl rfl rfl)
    exact (y_asg rfl g17 ⟨rfl, Kept.refl _ _⟩)
   exact stepsF_nil
  intro v40 F41 w42 k43 G44 hF45
  have K51 := K13.tr k43
  have s52 := (hF45 18).trans s21
  have s53 : F41 4 = iv (Int.tdiv f.W 2) := (hF45 4).trans (G44 6 (by decide))
  have s54 : F41 5 = iv (Int.tdiv f.H 2) := (hF45 5).trans (G44 7 (by decide))
  clear G44 hF45
  refine then_normal (wq_ret ?_)
  exact end_2 s52 rfl (res_tmp (v := iv (Int.tdiv f.W 2)) rfl s53) (res_tmp (v := iv (Int.tdiv f.H 2)) rfl s54) ⟨(by unfold sidesF; first | rw [if_pos (by assumption)] | rw [if_neg (by assumption)]), K51⟩
theorem quarter {w h : Int} (h1 : w % 8 = 0) (h2 : h % 8 = 0) (hw : 0 ≤ w) (hh : 0 ≤ h) : Int.tdiv w 2 * Int.tdiv h 2 = w * h / 4 := by
  rw [tdiv2 hw, tdiv2 hh]
  obtain ⟨a, rfl⟩ : ∃ a, w = 2 * a := ⟨w / 2, by omega⟩
  obtain ⟨b, rfl⟩ : ∃ b, h = 2 * b := ⟨h / 2, by omega⟩
  rw [show 2 * a / 2 = a by omega, show 2 * b / 2 = b by omega, show 2 * a * (2 * b) = 4 * (a * b) by rw [Int.mul_assoc, Int.mul_left_comm a 2 b, ← Int.mul_assoc]; rfl]
  omega
theorem sides_area {f : FD} (hw : sideB f.W = true) (hh : sideB f.H = true) (p : Int) : 0 ≤ (sidesF f p).1 * (sidesF f p).2 ∧ (sidesF f p).1 * (sidesF f p).2 ≤ 4096 ∧ (sidesF f p).1 * (sidesF f p).2 = (if p = 0 then f.W * f.H else f.W * f.H / 4) := by
  have h := area_bounds hw hh
  have h1 := (sideB_iff _).1 hw
  have h2 := (sideB_iff _).1 hh
  unfold sidesF
  by_cases hp : p = 0
  · rw [if_pos hp, if_pos hp]; refine ⟨?_, ?_, rfl⟩ <;> (dsimp only; omega)
  · rw [if_neg hp, if_neg hp]
    have q := quarter h1.2.2 h2.2.2 (by omega) (by omega)
    dsimp only
    rw [q]; refine ⟨?_, ?_, rfl⟩ <;> omega
theorem check_parts {f : FD} (hw : sideB f.W = true) (hh : sideB f.H = true) : okF f ↔ (f.p0.length : Int) = (sidesF f ((0 : Nat) : Int)).1 * (sidesF f ((0 : Nat) : Int)).2 ∧ (f.p1.length : Int) = (sidesF f ((1 : Nat) : Int)).1 * (sidesF f ((1 : Nat) : Int)).2 ∧ (f.p2.length : Int) = (sidesF f ((2 : Nat) : Int)).1 * (sidesF f ((2 : Nat) : Int)).2 := by
  have har := area_bounds hw hh
  rw [(sides_area hw hh _).2.2, (sides_area hw hh _).2.2, (sides_area hw hh _).2.2, if_pos (show ((0 : Nat) : Int) = 0 from rfl), if_neg (by decide), if_neg (by decide)]
  unfold okF
  rw [tdiv4 (by omega)]
  exact ⟨fun h => h.2.2, fun h => ⟨hw, hh, h⟩⟩
theorem check_yes {f : FD} (hw : sideB f.W = true) (hh : sideB f.H = true) (h0 : (f.p0.length : Int) = (sidesF f ((0 : Nat) : Int)).1 * (sidesF f ((0 : Nat) : Int)).2) (h1 : (f.p1.length : Int) = (sidesF f ((1 : Nat) : Int)).1 * (sidesF f ((1 : Nat) : Int)).2) (h2 : (f.p2.length : Int) = (sidesF f ((2 : Nat) : Int)).1 * (sidesF f ((2 : Nat) : Int)).2) : checkE f = 0 := checkE_ok ((check_parts hw hh).2 ⟨h0, h1, h2⟩)
theorem check_no0 {f : FD} (hw : sideB f.W = true) (hh : sideB f.H = true) (h : (f.p0.length : Int) ≠ (sidesF f ((0 : Nat) : Int)).1 * (sidesF f ((0 : Nat) : Int)).2) : checkE f = 70 := checkE_no fun k => h ((check_parts hw hh).1 k).1
theorem check_no1 {f : FD} (hw : sideB f.W = true) (hh : sideB f.H = true) (h : (f.p1.length : Int) ≠ (sidesF f ((1 : Nat) : Int)).1 * (sidesF f ((1 : Nat) : Int)).2) : checkE f = 70 := checkE_no fun k => h ((check_parts hw hh).1 k).2.1
theorem check_no2 {f : FD} (hw : sideB f.W = true) (hh : sideB f.H = true) (h : (f.p2.length : Int) ≠ (sidesF f ((2 : Nat) : Int)).1 * (sidesF f ((2 : Nat) : Int)).2) : checkE f = 70 := checkE_no fun k => h ((check_parts hw hh).1 k).2.2
theorem pl_check (f : FD) (f0 f1 f2 : Value) (T_f0 : Nat → Prop) (T_f1 : Nat → Prop) (T_f2 : Nat → Prop) (w0 : World) (h_f0 : Byt w0 T_f0 f0 ((f).p0)) (h_f1 : Byt w0 T_f1 f1 ((f).p1)) (h_f2 : Byt w0 T_f2 f2 ((f).p2)) :
  Calls Tryz.prog 19 #[.agg #[.int .i64 ((f).W), .int .i64 ((f).H), f0, f1, f2]] w0 fun e w' => e = .returned (.int .i64 (checkE f)) ∧ Kept (fun _ => False) w0 w' := by
 refine calls_wq (args := [.agg #[iv (f.W), iv (f.H), f0, f1, f2]]) 36 Tryz.func19 rfl rfl (Nat.le_of_ble_eq_true rfl) ?_
 have K0 := Kept.refl (fun _ => False) w0
 have g_f0 := Grew.refl w0 T_f0
 have g_f1 := Grew.refl w0 T_f1
 have g_f2 := Grew.refl w0 T_f2
 refine wq_seq (wq_region (wl_box_stc (vs := [iv (f.W), iv (f.H), f0, f1, f2]) rfl rfl rfl rfl fun p1 w2 B4 g5 k3 => ?_))
 have B10 := h_f0.all k3 Apart.none
 have B11 := h_f1.all k3 Apart.none
 have B12 := h_f2.all k3 Apart.none
 have K13 := K0.tr k3
 refine wl_v (iv 0) rfl rfl (y_asg rfl rfl rr) (wl_nil fun F14 hF15 => ?_)
 have s16 : F14 36 = undef := (hF15 36).trans rfl
 have s17 : F14 1 = pt p1 0 := (hF15 1).trans rfl
 clear hF15
 refine then_normal (wq_seq (wq_seq ?_))
 rcases Bool.eq_false_or_eq_true (sideB (f.W)) with d18 | d18
 ·skip
  rcases Bool.eq_false_or_eq_true (sideB (f.H)) with d19 | d19
  ·skip
   refine wq_region (wl_v (pt p1 0) rfl rfl (y_fieldR (n := 1) rfl s17 Tryz.underlying29 rfl (by kernel_rfl) (by decide) rfl rr) (wl_v (iv (f.W)) rfl rfl (y_ld_stc rfl rfl Tryz.underlying3 B4 rfl rfl rr) (wl_call (R := fun v_ w_ => v_ = .bool true ∧ Kept (fun _ => False) w2 w_) rfl rfl (y_cs rfl rfl rfl (fun _ _ => by kernel_rfl) (ev_func _) (vsC rfl vsN) (ps_side (f.W)  _   ) (fun e_ w_ h_ => ⟨_, h_.1, (congrArg Value.bool d18), h_.2⟩)) ?_)))
   rintro _ w20 ⟨rfl, k21⟩
   have B22 := B10.all k21 Apart.none
   have B23 := B11.all k21 Apart.none
   have B24 := B12.all k21 Apart.none
   have B25 := B4.all k21 id
   have K26 := K13.tr k21
   refine wl_v (.bool false) rfl rfl (y_not rfl rfl rfl rr) (wl_v (.bool false) rfl rfl (y_mov rfl rfl rr) (wl_vw (pt p1 1) 4 false 11 rfl rfl rfl rfl rfl (y_fieldR (n := 1) rfl s17 Tryz.underlying29 rfl (by kernel_rfl) (by decide) rfl rr) (wl_vw (iv (f.H)) 4 false 11 rfl rfl rfl rfl rfl (y_ld_stc rfl rfl Tryz.underlying3 B25 rfl rfl rr) (wl_callw (R := fun v_ w_ => v_ = .bool true ∧ Kept (fun _ => False) w20 w_) 4 false 11 rfl rfl rfl rfl rfl (y_cs rfl rfl rfl (fun _ _ => by kernel_rfl) (ev_func _) (vsC rfl vsN) (ps_side (f.H)  _   ) (fun e_ w_ h_ => ⟨_, h_.1, (congrArg Value.bool d19), h_.2⟩)) ?_))))
   rintro _ w27 ⟨rfl, k28⟩
   have B29 := B22.all k28 Apart.none
   have B30 := B23.all k28 Apart.none
   have B31 := B24.all k28 Apart.none
   have B32 := B25.all k28 id
   have K33 := K26.tr k28
   refine wl_vw (.bool false) 4 false 11 rfl rfl rfl rfl rfl (y_not rfl rfl rfl rr) (wl_v (.bool false) rfl rfl (y_pickF rfl rfl rfl rr) (wl_nil fun F34 hF35 => ?_))
   obtain ⟨s36, s37⟩ := t2 hF35 36 s16 1 s17
   have s38 : F34 16 = .bool false := (hF35 16).trans rfl
   clear hF35
   refine then_normal ?_
   refine wq_cond (t := false) s38 (fun e => by cases e) (fun _ => ?_)
   refine wq_skip (then_normal (wq_seq (wq_seq ?_)))
   have hsw : sideB f.W = true := by assumption
   have hsh : sideB f.H = true := by assumption
   have hws := (sideB_iff _).1 hsw
   have hhs := (sideB_iff _).1 hsh
   have hA := sides_area hsw hsh
   have har := area_bounds hsw hsh
   refine wq_region (wl_v (pt p1 2) rfl rfl (y_fieldR (n := 3) rfl s37 Tryz.underlying29 rfl (by kernel_rfl) (by decide) rfl rr) (wl_v (.agg #[f0, f1, f2]) rfl rfl (y_ldPl rfl rfl B32 rfl rfl rfl rr) (wl_v (iv 0) rfl rfl (y_mov rfl rfl rr) (wl_nil fun F39 hF40 => ?_))))
   obtain ⟨s41, s42⟩ := t2 hF40 36 s36 1 s37
   have s43 : F39 18 = .agg #[f0, f1, f2] := (hF40 18).trans rfl
   have s44 : F39 19 = iv 0 := (hF40 19).trans rfl
   clear hF40
   refine then_normal (wq_block (wq_rounds 4 (wqr_step (wq_seq (wq_region (wl_v (.bool true) rfl rfl (y_lss rfl s44 rfl rfl rr) (wl_nil fun F45 hF46 => ?_)))))))
   obtain ⟨s47, s48, s49, s50⟩ := t4 hF46 36 s41 1 s42 18 s43 19 s44
   have s51 : F45 20 = .bool true := (hF46 20).trans rfl
   clear hF46
   refine then_normal (wq_seq ?_)
   refine wq_cond (t := true) s51 (fun _ => ?_) (fun e => by cases e)
   refine wq_skip (then_normal (wq_seq (wq_block (wq_seq (wq_region (wl_mv rfl rfl rfl s50 (wl_v f0 rfl rfl (y_ixPl 0 rfl s49 s50 (by decide) rfl rr) (wl_v (iv 0) rfl rfl (y_asg rfl rfl rr) (wl_v f0 rfl rfl (y_asg rfl rfl rr) (wl_nil fun F52 hF53 => ?_))))))))))
   obtain ⟨s54, s55, s56, s57⟩ := t4 hF53 36 s47 1 s48 18 s49 19 s50
   have s58 : F52 3 = iv 0 := (hF53 3).trans rfl
   have s59 : F52 4 = f0 := (hF53 4).trans rfl
   clear hF53
   refine then_normal (wq_seq (wq_region (wl_v (.agg #[iv (f.W), iv (f.H), f0, f1, f2]) rfl rfl (y_load_stc stcT_frame rfl s55 B32 rr) (wl_mv rfl rfl rfl s58 (wl_cs rfl rfl rfl rfl rfl (fun _ _ => by kernel_rfl) (vsC rfl (vsC rfl vsN)) (ps_sides 0 f f0 f1 f2 T_f0 T_f1 T_f2 _ (by omega) (by omega) B29 B30 B31 ) fun w60 k61 => ?_)))))
   have B62 := B29.all k61 Apart.none
   have B63 := B30.all k61 Apart.none
   have B64 := B31.all k61 Apart.none
   have B65 := B32.all k61 id
   have K66 := K33.tr k61
   refine wl_v (.tuple #[iv ((sidesF f 0).1), iv ((sidesF f 0).2)]) rfl rfl (y_mov rfl rfl rr) (wl_v (iv ((sidesF f 0).1)) rfl rfl (y_ext rfl rfl rfl rr) (wl_v (iv ((sidesF f 0).2)) rfl rfl (y_ext rfl rfl rfl rr) (wl_v (iv ((sidesF f 0).1)) rfl rfl (y_asg rfl rfl rr) (wl_v (iv ((sidesF f 0).2)) rfl rfl (y_asg rfl rfl rr) (wl_nil fun F67 hF68 => ?_)))))
   obtain ⟨s69, s70, s71, s72, s73⟩ := t5 hF68 36 s54 1 s55 18 s56 19 s57 4 s59
   have s74 : F67 5 = iv ((sidesF f 0).1) := (hF68 5).trans rfl
   have s75 : F67 6 = iv ((sidesF f 0).2) := (hF68 6).trans rfl
   clear hF68
   refine then_normal (wq_seq (wq_region (wl_mv rfl rfl rfl s73 (wl_v (iv (((f.p0).length : Nat) : Int)) rfl rfl (y_lenV rfl rfl rfl B62 rr) (wl_mv rfl rfl rfl s74 (wl_mv rfl rfl rfl s75 (wl_v (iv ((sidesF f ((0 : Nat) : Int)).1 * (sidesF f ((0 : Nat) : Int)).2)) rfl rfl (y_mul rfl rfl rfl (i64_i rfl ⟨Int.le_trans (by decide) (hA _).1, Int.le_trans (hA _).2.1 (by decide)⟩) rr) (wl_v (.bool (decide ((((f.p0).length : Nat) : Int) ≠ ((sidesF f ((0 : Nat) : Int)).1 * (sidesF f ((0 : Nat) : Int)).2)))) rfl rfl (y_neqI rfl rfl rfl rfl rr) (wl_nil fun F76 hF77 => ?_)))))))))
   obtain ⟨s78, s79, s80, s81⟩ := t4 hF77 36 s69 1 s70 18 s71 19 s72
   have s82 : F76 34 = .bool (decide ((((f.p0).length : Nat) : Int) ≠ ((sidesF f ((0 : Nat) : Int)).1 * (sidesF f ((0 : Nat) : Int)).2))) := (hF77 34).trans rfl
   clear hF77
   refine then_normal ?_
   refine wq_cond s82 (fun c83 => ?_) (fun c83 => ?_)
   ·replace c83 := of_decide_eq_true c83
    refine wq_seq (wq_region (wl_v (iv 70) rfl rfl (y_asg rfl rfl rr) (wl_nil fun F84 hF85 => ?_)))
    have s86 := (hF85 36).trans s78
    have s87 : F84 2 = iv 70 := (hF85 2).trans rfl
    clear hF85
    refine then_normal (wq_ret (in_ret (then_ret (then_ret (in_ret (then_ret ?_))))))
    exact end_tmp (v := iv 70) s86 rfl rfl s87 ⟨(by first | rw [check_yes hsw hsh (by first | assumption | (apply Decidable.byContradiction; assumption)) (by first | assumption | (apply Decidable.byContradiction; assumption)) (by first | assumption | (apply Decidable.byContradiction; assumption))] | rw [check_no0 hsw hsh (by assumption)] | rw [check_no1 hsw hsh (by assumption)] | rw [check_no2 hsw hsh (by assumption)] | rw [checkE_no (by rintro ⟨h1, h2, h3, h4, h5⟩; simp_all; done)]), K66⟩
   ·replace c83 := of_decide_eq_false c83
    refine wq_skip (in_normal (then_normal (wq_region (wl_v (iv ((1 : Nat) : Int)) rfl rfl (y_add rfl s81 rfl (i64_n (by omega) (by omega)) rr) (wl_v (iv ((1 : Nat) : Int)) rfl rfl (y_mov rfl rfl rr) (wl_nil fun F88 hF89 => ?_))))))
    obtain ⟨s90, s91, s92⟩ := t3 hF89 36 s78 1 s79 18 s80
    have s93 : F88 19 = iv ((1 : Nat) : Int) := (hF89 19).trans rfl
    clear hF89
    refine then_normal (wqr_step (wq_seq (wq_region (wl_v (.bool true) rfl rfl (y_lss rfl s93 rfl rfl rr) (wl_nil fun F94 hF95 => ?_)))))
    obtain ⟨s96, s97, s98, s99⟩ := t4 hF95 36 s90 1 s91 18 s92 19 s93
    have s100 : F94 20 = .bool true := (hF95 20).trans rfl
    clear hF95
    refine then_normal (wq_seq ?_)
    refine wq_cond (t := true) s100 (fun _ => ?_) (fun e => by cases e)
    refine wq_skip (then_normal (wq_seq (wq_block (wq_seq (wq_region (wl_mv rfl rfl rfl s99 (wl_v f1 rfl rfl (y_ixPl 1 rfl s98 s99 (by decide) rfl rr) (wl_v (iv ((1 : Nat) : Int)) rfl rfl (y_asg rfl rfl rr) (wl_v f1 rfl rfl (y_asg rfl rfl rr) (wl_nil fun F101 hF102 => ?_))))))))))
    obtain ⟨s103, s104, s105, s106⟩ := t4 hF102 36 s96 1 s97 18 s98 19 s99
    have s107 : F101 3 = iv ((1 : Nat) : Int) := (hF102 3).trans rfl
    have s108 : F101 4 = f1 := (hF102 4).trans rfl
    clear hF102
    refine then_normal (wq_seq (wq_region (wl_v (.agg #[iv (f.W), iv (f.H), f0, f1, f2]) rfl rfl (y_load_stc stcT_frame rfl s104 B65 rr) (wl_mv rfl rfl rfl s107 (wl_cs rfl rfl rfl rfl rfl (fun _ _ => by kernel_rfl) (vsC rfl (vsC rfl vsN)) (ps_sides ((1 : Nat) : Int) f f0 f1 f2 T_f0 T_f1 T_f2 _ (by omega) (by omega) B62 B63 B64 ) fun w109 k110 => ?_)))))
    have B111 := B62.all k110 Apart.none
    have B112 := B63.all k110 Apart.none
    have B113 := B64.all k110 Apart.none
    have B114 := B65.all k110 id
    have K115 := K66.tr k110
    refine wl_v (.tuple #[iv ((sidesF f ((1 : Nat) : Int)).1), iv ((sidesF f ((1 : Nat) : Int)).2)]) rfl rfl (y_mov rfl rfl rr) (wl_v (iv ((sidesF f ((1 : Nat) : Int)).1)) rfl rfl (y_ext rfl rfl rfl rr) (wl_v (iv ((sidesF f ((1 : Nat) : Int)).2)) rfl rfl (y_ext rfl rfl rfl rr) (wl_v (iv ((sidesF f ((1 : Nat) : Int)).1)) rfl rfl (y_asg rfl rfl rr) (wl_v (iv ((sidesF f ((1 : Nat) : Int)).2)) rfl rfl (y_asg rfl rfl rr) (wl_nil fun F116 hF117 => ?_)))))
    obtain ⟨s118, s119, s120, s121, s122⟩ := t5 hF117 36 s103 1 s104 18 s105 19 s106 4 s108
    have s123 : F116 5 = iv ((sidesF f ((1 : Nat) : Int)).1) := (hF117 5).trans rfl
    have s124 : F116 6 = iv ((sidesF f ((1 : Nat) : Int)).2) := (hF117 6).trans rfl
    clear hF117
    refine then_normal (wq_seq (wq_region (wl_mv rfl rfl rfl s122 (wl_v (iv (((f.p1).length : Nat) : Int)) rfl rfl (y_lenV rfl rfl rfl B112 rr) (wl_mv rfl rfl rfl s123 (wl_mv rfl rfl rfl s124 (wl_v (iv ((sidesF f ((1 : Nat) : Int)).1 * (sidesF f ((1 : Nat) : Int)).2)) rfl rfl (y_mul rfl rfl rfl (i64_i rfl ⟨Int.le_trans (by decide) (hA _).1, Int.le_trans (hA _).2.1 (by decide)⟩) rr) (wl_v (.bool (decide ((((f.p1).length : Nat) : Int) ≠ ((sidesF f ((1 : Nat) : Int)).1 * (sidesF f ((1 : Nat) : Int)).2)))) rfl rfl (y_neqI rfl rfl rfl rfl rr) (wl_nil fun F125 hF126 => ?_)))))))))
    obtain ⟨s127, s128, s129, s130⟩ := t4 hF126 36 s118 1 s119 18 s120 19 s121
    have s131 : F125 34 = .bool (decide ((((f.p1).length : Nat) : Int) ≠ ((sidesF f ((1 : Nat) : Int)).1 * (sidesF f ((1 : Nat) : Int)).2))) := (hF126 34).trans rfl
    clear hF126
    refine then_normal ?_
    refine wq_cond s131 (fun c132 => ?_) (fun c132 => ?_)
    ·replace c132 := of_decide_eq_true c132
     refine wq_seq (wq_region (wl_v (iv 70) rfl rfl (y_asg rfl rfl rr) (wl_nil fun F133 hF134 => ?_)))
     have s135 := (hF134 36).trans s127
     have s136 : F133 2 = iv 70 := (hF134 2).trans rfl
     clear hF134
     refine then_normal (wq_ret (in_ret (then_ret (then_ret (in_ret (then_ret ?_))))))
     exact end_tmp (v := iv 70) s135 rfl rfl s136 ⟨(by first | rw [check_yes hsw hsh (by first | assumption | (apply Decidable.byContradiction; assumption)) (by first | assumption | (apply Decidable.byContradiction; assumption)) (by first | assumption | (apply Decidable.byContradiction; assumption))] | rw [check_no0 hsw hsh (by assumption)] | rw [check_no1 hsw hsh (by assumption)] | rw [check_no2 hsw hsh (by assumption)] | rw [checkE_no (by rintro ⟨h1, h2, h3, h4, h5⟩; simp_all; done)]), K115⟩
    ·replace c132 := of_decide_eq_false c132
     refine wq_skip (in_normal (then_normal (wq_region (wl_v (iv ((2 : Nat) : Int)) rfl rfl (y_add rfl s130 rfl (i64_n (by omega) (by omega)) rr) (wl_v (iv ((2 : Nat) : Int)) rfl rfl (y_mov rfl rfl rr) (wl_nil fun F137 hF138 => ?_))))))
     obtain ⟨s139, s140, s141⟩ := t3 hF138 36 s127 1 s128 18 s129
     have s142 : F137 19 = iv ((2 : Nat) : Int) := (hF138 19).trans rfl
     clear hF138
     refine then_normal (wqr_step (wq_seq (wq_region (wl_v (.bool true) rfl rfl (y_lss rfl s142 rfl rfl rr) (wl_nil fun F143 hF144 => ?_)))))
     obtain ⟨s145, s146, s147, s148⟩ := t4 hF144 36 s139 1 s140 18 s141 19 s142
     have s149 : F143 20 = .bool true := (hF144 20).trans rfl
     clear hF144
     refine then_normal (wq_seq ?_)
     refine wq_cond (t := true) s149 (fun _ => ?_) (fun e => by cases e)
     refine wq_skip (then_normal (wq_seq (wq_block (wq_seq (wq_region (wl_mv rfl rfl rfl s148 (wl_v f2 rfl rfl (y_ixPl 2 rfl s147 s148 (by decide) rfl rr) (wl_v (iv ((2 : Nat) : Int)) rfl rfl (y_asg rfl rfl rr) (wl_v f2 rfl rfl (y_asg rfl rfl rr) (wl_nil fun F150 hF151 => ?_))))))))))
     obtain ⟨s152, s153, s155⟩ := t3 hF151 36 s145 1 s146 19 s148
     have s156 : F150 3 = iv ((2 : Nat) : Int) := (hF151 3).trans rfl
     have s157 : F150 4 = f2 := (hF151 4).trans rfl
     clear hF151
     refine then_normal (wq_seq (wq_region (wl_v (.agg #[iv (f.W), iv (f.H), f0, f1, f2]) rfl rfl (y_load_stc stcT_frame rfl s153 B114 rr) (wl_mv rfl rfl rfl s156 (wl_cs rfl rfl rfl rfl rfl (fun _ _ => by kernel_rfl) (vsC rfl (vsC rfl vsN)) (ps_sides ((2 : Nat) : Int) f f0 f1 f2 T_f0 T_f1 T_f2 _ (by omega) (by omega) B111 B112 B113 ) fun w158 k159 => ?_)))))
     have B162 := B113.all k159 Apart.none
     have K164 := K115.tr k159
     refine wl_v (.tuple #[iv ((sidesF f ((2 : Nat) : Int)).1), iv ((sidesF f ((2 : Nat) : Int)).2)]) rfl rfl (y_mov rfl rfl rr) (wl_v (iv ((sidesF f ((2 : Nat) : Int)).1)) rfl rfl (y_ext rfl rfl rfl rr) (wl_v (iv ((sidesF f ((2 : Nat) : Int)).2)) rfl rfl (y_ext rfl rfl rfl rr) (wl_v (iv ((sidesF f ((2 : Nat) : Int)).1)) rfl rfl (y_asg rfl rfl rr) (wl_v (iv ((sidesF f ((2 : Nat) : Int)).2)) rfl rfl (y_asg rfl rfl rr) (wl_nil fun F165 hF166 => ?_)))))
     obtain ⟨s167, s170, s171⟩ := t3 hF166 36 s152 19 s155 4 s157
     have s172 : F165 5 = iv ((sidesF f ((2 : Nat) : Int)).1) := (hF166 5).trans rfl
     have s173 : F165 6 = iv ((sidesF f ((2 : Nat) : Int)).2) := (hF166 6).trans rfl
     clear hF166
     refine then_normal (wq_seq (wq_region (wl_mv rfl rfl rfl s171 (wl_v (iv (((f.p2).length : Nat) : Int)) rfl rfl (y_lenV rfl rfl rfl B162 rr) (wl_mv rfl rfl rfl s172 (wl_mv rfl rfl rfl s173 (wl_v (iv ((sidesF f ((2 : Nat) : Int)).1 * (sidesF f ((2 : Nat) : Int)).2)) rfl rfl (y_mul rfl rfl rfl (i64_i rfl ⟨Int.le_trans (by decide) (hA _).1, Int.le_trans (hA _).2.1 (by decide)⟩) rr) (wl_v (.bool (decide ((((f.p2).length : Nat) : Int) ≠ ((sidesF f ((2 : Nat) : Int)).1 * (sidesF f ((2 : Nat) : Int)).2)))) rfl rfl (y_neqI rfl rfl rfl rfl rr) (wl_nil fun F174 hF175 => ?_)))))))))
     obtain ⟨s176, s179⟩ := t2 hF175 36 s167 19 s170
     have s180 : F174 34 = .bool (decide ((((f.p2).length : Nat) : Int) ≠ ((sidesF f ((2 : Nat) : Int)).1 * (sidesF f ((2 : Nat) : Int)).2))) := (hF175 34).trans rfl
     clear hF175
     refine then_normal ?_
     refine wq_cond s180 (fun c181 => ?_) (fun c181 => ?_)
     ·replace c181 := of_decide_eq_true c181
      refine wq_seq (wq_region (wl_v (iv 70) rfl rfl (y_asg rfl rfl rr) (wl_nil fun F182 hF183 => ?_)))
      have s184 := (hF183 36).trans s176
      have s185 : F182 2 = iv 70 := (hF183 2).trans rfl
      clear hF183
      refine then_normal (wq_ret (in_ret (then_ret (then_ret (in_ret (then_ret ?_))))))
      exact end_tmp (v := iv 70) s184 rfl rfl s185 ⟨(by first | rw [check_yes hsw hsh (by first | assumption | (apply Decidable.byContradiction; assumption)) (by first | assumption | (apply Decidable.byContradiction; assumption)) (by first | assumption | (apply Decidable.byContradiction; assumption))] | rw [check_no0 hsw hsh (by assumption)] | rw [check_no1 hsw hsh (by assumption)] | rw [check_no2 hsw hsh (by assumption)] | rw [checkE_no (by rintro ⟨h1, h2, h3, h4, h5⟩; simp_all; done)]), K164⟩
     ·replace c181 := of_decide_eq_false c181
      refine wq_skip (in_normal (then_normal (wq_region (wl_v (iv ((3 : Nat) : Int)) rfl rfl (y_add rfl s179 rfl (i64_n (by omega) (by omega)) rr) (wl_v (iv ((3 : Nat) : Int)) rfl rfl (y_mov rfl rfl rr) (wl_nil fun F186 hF187 => ?_))))))
      have s188 := (hF187 36).trans s176
      have s191 : F186 19 = iv ((3 : Nat) : Int) := (hF187 19).trans rfl
      clear hF187
      refine then_normal (wqr_step (wq_seq (wq_region (wl_v (.bool false) rfl rfl (y_lss rfl s191 rfl rfl rr) (wl_nil fun F192 hF193 => ?_)))))
      have s194 := (hF193 36).trans s188
      have s198 : F192 20 = .bool false := (hF193 20).trans rfl
      clear hF193
      refine then_normal (wq_seq ?_)
      refine wq_cond (t := false) s198 (fun e => by cases e) (fun _ => ?_)
      refine wq_exit (then_exit (then_exit (in_here (then_normal (wq_seq (wq_region (wl_v (iv 0) rfl rfl (y_asg rfl rfl rr) (wl_nil fun F199 hF200 => ?_))))))))
      have s201 := (hF200 36).trans s194
      have s202 : F199 2 = iv 0 := (hF200 2).trans rfl
      clear hF200
      refine then_normal (wq_ret ?_)
      exact end_tmp (v := iv 0) s201 rfl rfl s202 ⟨(by first | rw [check_yes hsw hsh (by first | assumption | (apply Decidable.byContradiction; assumption)) (by first | assumption | (apply Decidable.byContradiction; assumption)) (by first | assumption | (apply Decidable.byContradiction; assumption))] | rw [check_no0 hsw hsh (by assumption)] | rw [check_no1 hsw hsh (by assumption)] | rw [check_no2 hsw hsh (by assumption)] | rw [checkE_no (by rintro ⟨h1, h2, h3, h4, h5⟩; simp_all; done)]), K164⟩
  ·skip
   refine wq_region (wl_v (pt p1 0) rfl rfl (y_fieldR (n := 1) rfl s17 Tryz.underlying29 rfl (by kernel_rfl) (by decide) rfl rr) (wl_v (iv (f.W)) rfl rfl (y_ld_stc rfl rfl Tryz.underlying3 B4 rfl rfl rr) (wl_call (R := fun v_ w_ => v_ = .bool true ∧ Kept (fun _ => False) w2 w_) rfl rfl (y_cs rfl rfl rfl (fun _ _ => by kernel_rfl) (ev_func _) (vsC rfl vsN) (ps_side (f.W)  _   ) (fun e_ w_ h_ => ⟨_, h_.1, (congrArg Value.bool d18), h_.2⟩)) ?_)))
   rintro _ w203 ⟨rfl, k204⟩
   have B208 := B4.all k204 id
   have K209 := K13.tr k204
   refine wl_v (.bool false) rfl rfl (y_not rfl rfl rfl rr) (wl_v (.bool false) rfl rfl (y_mov rfl rfl rr) (wl_vw (pt p1 1) 4 false 11 rfl rfl rfl rfl rfl (y_fieldR (n := 1) rfl s17 Tryz.underlying29 rfl (by kernel_rfl) (by decide) rfl rr) (wl_vw (iv (f.H)) 4 false 11 rfl rfl rfl rfl rfl (y_ld_stc rfl rfl Tryz.underlying3 B208 rfl rfl rr) (wl_callw (R := fun v_ w_ => v_ = .bool false ∧ Kept (fun _ => False) w203 w_) 4 false 11 rfl rfl rfl rfl rfl (y_cs rfl rfl rfl (fun _ _ => by kernel_rfl) (ev_func _) (vsC rfl vsN) (ps_side (f.H)  _   ) (fun e_ w_ h_ => ⟨_, h_.1, (congrArg Value.bool d19), h_.2⟩)) ?_))))
   rintro _ w210 ⟨rfl, k211⟩
   have K216 := K209.tr k211
   refine wl_vw (.bool true) 4 false 11 rfl rfl rfl rfl rfl (y_not rfl rfl rfl rr) (wl_v (.bool true) rfl rfl (y_pickF rfl rfl rfl rr) (wl_nil fun F217 hF218 => ?_))
   have s219 := (hF218 36).trans s16
   have s221 : F217 16 = .bool true := (hF218 16).trans rfl
   clear hF218
   refine then_normal ?_
   refine wq_cond (t := true) s221 (fun _ => ?_) (fun e => by cases e)
   refine wq_seq (wq_region (wl_v (iv 70) rfl rfl (y_asg rfl rfl rr) (wl_nil fun F222 hF223 => ?_)))
   have s224 := (hF223 36).trans s219
   have s225 : F222 2 = iv 70 := (hF223 2).trans rfl
   clear hF223
   refine then_normal (wq_ret (then_ret ?_))
   exact end_tmp (v := iv 70) s224 rfl rfl s225 ⟨(by first | rw [check_yes hsw hsh (by first | assumption | (apply Decidable.byContradiction; assumption)) (by first | assumption | (apply Decidable.byContradiction; assumption)) (by first | assumption | (apply Decidable.byContradiction; assumption))] | rw [check_no0 hsw hsh (by assumption)] | rw [check_no1 hsw hsh (by assumption)] | rw [check_no2 hsw hsh (by assumption)] | rw [checkE_no (by rintro ⟨h1, h2, h3, h4, h5⟩; simp_all; done)]), K216⟩
 ·skip
  refine wq_region (wl_v (pt p1 0) rfl rfl (y_fieldR (n := 1) rfl s17 Tryz.underlying29 rfl (by kernel_rfl) (by decide) rfl rr) (wl_v (iv (f.W)) rfl rfl (y_ld_stc rfl rfl Tryz.underlying3 B4 rfl rfl rr) (wl_call (R := fun v_ w_ => v_ = .bool false ∧ Kept (fun _ => False) w2 w_) rfl rfl (y_cs rfl rfl rfl (fun _ _ => by kernel_rfl) (ev_func _) (vsC rfl vsN) (ps_side (f.W)  _   ) (fun e_ w_ h_ => ⟨_, h_.1, (congrArg Value.bool d18), h_.2⟩)) ?_)))
  rintro _ w226 ⟨rfl, k227⟩
  have K232 := K13.tr k227
  refine wl_v (.bool true) rfl rfl (y_not rfl rfl rfl rr) (wl_v (.bool true) rfl rfl (y_mov rfl rfl rr) (wl_unless 4 false 11 rfl rfl rfl (Or.inl rfl) rfl (wl_unless 4 false 11 rfl rfl rfl (Or.inl rfl) rfl (wl_unless 4 false 11 rfl rfl rfl (Or.inl rfl) rfl (wl_unless 4 false 11 rfl rfl rfl (Or.inl rfl) rfl (wl_v (.bool true) rfl rfl (y_pickT rfl rfl rfl rr) (wl_nil fun F233 hF234 => ?_)))))))
  have s235 := (hF234 36).trans s16
  have s237 : F233 16 = .bool true := (hF234 16).trans rfl
  clear hF234
  refine then_normal ?_
  refine wq_cond (t := true) s237 (fun _ => ?_) (fun e => by cases e)
  refine wq_seq (wq_region (wl_v (iv 70) rfl rfl (y_asg rfl rfl rr) (wl_nil fun F238 hF239 => ?_)))
  have s240 := (hF239 36).trans s235
  have s241 : F238 2 = iv 70 := (hF239 2).trans rfl
  clear hF239
  refine then_normal (wq_ret (then_ret ?_))
  exact end_tmp (v := iv 70) s240 rfl rfl s241 ⟨(by first | rw [check_yes hsw hsh (by first | assumption | (apply Decidable.byContradiction; assumption)) (by first | assumption | (apply Decidable.byContradiction; assumption)) (by first | assumption | (apply Decidable.byContradiction; assumption))] | rw [check_no0 hsw hsh (by assumption)] | rw [check_no1 hsw hsh (by assumption)] | rw [check_no2 hsw hsh (by assumption)] | rw [checkE_no (by rintro ⟨h1, h2, h3, h4, h5⟩; simp_all; done)]), K232⟩
theorem ps_row (v : Value) (l : List Nat) (w y : Int) (T_s : Nat → Prop) (w0 : World) (hw : 0 ≤ w ∧ w ≤ 64) (hy : 0 ≤ y ∧ y ≤ 64) (hl : y * w + w ≤ (l.length : Int)) (hyw : 0 ≤ y * w ∧ y * w ≤ 4096) (h_s : Byt w0 T_s v (l)) :
  Calls Tryz.prog 56 #[v, .int .i64 (w), .int .i64 (y)] w0 fun e w' => e = .returned (subV (v) ((y * w).toNat) ((y * w + w).toNat) ((y * w + w).toNat)) ∧ Kept (fun _ => False) w0 w' := by
 refine calls_wq (args := [v, iv w, iv y]) 20 Tryz.func56 rfl rfl (Nat.le_of_ble_eq_true rfl) ?_
 have K0 := Kept.refl (fun _ => False) w0
 have g_s := Grew.refl w0 T_s
 refine wq_seq (wq_region (wl_v (.slice none 0 0) rfl rfl (y_asg rfl rfl rr) (wl_nil fun F1 hF2 => ?_)))
 have s3 : F1 0 = v := (hF2 0).trans rfl
 have s4 : F1 1 = iv w := (hF2 1).trans rfl
 have s5 : F1 2 = iv y := (hF2 2).trans rfl
 have s6 : F1 20 = undef := (hF2 20).trans rfl
 clear hF2
 refine then_normal (wq_seq (wq_region (wl_mv rfl rfl rfl s3 (wl_mv rfl rfl rfl s5 (wl_mv rfl rfl rfl s4 (wl_v (iv (y * w)) rfl rfl (y_mul rfl rfl rfl (i64_i rfl (by omega)) rr) (wl_mv rfl rfl rfl s5 (wl_v (iv (y + 1)) rfl rfl (y_add rfl rfl rfl (i64_i rfl (by omega)) rr) (wl_mv rfl rfl rfl s4 (wl_v (iv (y * w + w)) rfl rfl (y_mul rfl rfl rfl (i64_i (by rw [Int.add_mul, Int.one_mul]) (by omega)) rr) (wl_mv rfl rfl rfl s5 ?_)))))))))))
 refine wl_v (iv (y + 1)) rfl rfl (y_add rfl rfl rfl (i64_i rfl (by omega)) rr) (wl_mv rfl rfl rfl s4 (wl_v (iv (y * w + w)) rfl rfl (y_mul rfl rfl rfl (i64_i (by rw [Int.add_mul, Int.one_mul]) (by omega)) rr) (wl_v (subV v ((y * w).toNat) ((y * w + w).toNat) ((y * w + w).toNat)) rfl rfl (y_cut3 ((y * w).toNat) ((y * w + w).toNat) ((y * w + w).toNat) rfl rfl rfl rfl rfl (by omega) (by omega) (by omega) h_s (by omega) (by omega) (by omega) rr) (wl_v (subV v ((y * w).toNat) ((y * w + w).toNat) ((y * w + w).toNat)) rfl rfl (y_asg rfl rfl rr) (wl_nil fun F7 hF8 => ?_)))))
 have s9 := (hF8 20).trans s6
 have s10 : F7 6 = subV v ((y * w).toNat) ((y * w + w).toNat) ((y * w + w).toNat) := (hF8 6).trans rfl
 clear hF8
 refine then_normal (wq_ret ?_)
 exact end_tmp (v := subV v ((y * w).toNat) ((y * w + w).toNat) ((y * w + w).toNat)) s9 rfl rfl s10 ⟨rfl, K0⟩
def nearS (l : List Nat) (w h x y : Int) : Int := ((l.getD ((max 0 (min y (h - 1)) * w).toNat + (max 0 (min x (w - 1))).toNat) 0 : Nat) : Int)
theorem ps_nearest (v : Value) (l : List Nat) (w h x y : Int) (T_s : Nat → Prop) (w0 : World) (hw : 0 < w ∧ w ≤ 64) (hh : 0 < h ∧ h ≤ 64) (hl : max 0 (min y (h - 1)) * w + w ≤ (l.length : Int)) (hyw : 0 ≤ max 0 (min y (h - 1)) * w ∧ max 0 (min y (h - 1)) * w ≤ 4096) (h_s : Byt w0 T_s v (l)) :
  Calls Tryz.prog 169 #[v, .int .i64 (w), .int .i64 (h), .int .i64 (x), .int .i64 (y)] w0 fun e w' => e = .returned (.int .i64 (nearS l w h x y)) ∧ Kept (fun _ => False) w0 w' := by
 refine calls_wq (args := [v, iv w, iv h, iv x, iv y]) 25 Tryz.func169 rfl rfl (Nat.le_of_ble_eq_true rfl) ?_
 have K0 := Kept.refl (fun _ => False) w0
 have g_s := Grew.refl w0 T_s
 refine wq_seq (wq_region (wl_v (iv 0) rfl rfl (y_asg rfl rfl rr) (wl_nil fun F1 hF2 => ?_)))
 have s3 : F1 0 = v := (hF2 0).trans rfl
 have s4 : F1 1 = iv w := (hF2 1).trans rfl
 have s5 : F1 2 = iv h := (hF2 2).trans rfl
 have s6 : F1 3 = iv x := (hF2 3).trans rfl
 have s7 : F1 4 = iv y := (hF2 4).trans rfl
 have s8 : F1 25 = undef := (hF2 25).trans rfl
 clear hF2
 refine then_normal (wq_seq (wq_region (wl_mv rfl rfl rfl s3 (wl_mv rfl rfl rfl s4 (wl_mv rfl rfl rfl s7 (wl_mv rfl rfl rfl s5 (wl_v (iv (h - 1)) rfl rfl (y_sub rfl rfl rfl (i64_i rfl (by omega)) rr) (wl_cs rfl rfl rfl rfl rfl (fun _ _ => by kernel_rfl) (vsC rfl (vsC rfl (vsC rfl vsN))) (ps_clamped y 0 (h - 1)  _   ) fun w9 k10 => ?_))))))))
 have B11 := h_s.all k10 Apart.none
 have K12 := K0.tr k10
 refine wl_cs rfl rfl rfl rfl rfl (fun _ _ => by kernel_rfl) (vsC rfl (vsC rfl (vsC rfl vsN))) (ps_row v l w (max 0 (min y (h - 1))) T_s _ (by omega) (by omega) (by exact hl) (by exact hyw) B11 ) fun w13 k14 => ?_
 have B15 := B11.all k14 Apart.none
 have K16 := K12.tr k14
 refine wl_mv rfl rfl rfl s6 (wl_mv rfl rfl rfl s4 (wl_v (iv (w - 1)) rfl rfl (y_sub rfl rfl rfl (i64_i rfl (by omega)) rr) (wl_call (R := fun v_ w_ => v_ = iv (((max 0 (min x (w - 1))).toNat : Nat) : Int) ∧ Kept (fun _ => False) w13 w_) rfl rfl (y_cs rfl rfl rfl (fun _ _ => by kernel_rfl) (ev_func _) (vsC rfl (vsC rfl (vsC rfl vsN))) (ps_clamped x 0 (w - 1)  _   ) (fun e_ w_ h_ => ⟨_, h_.1, congrArg (Value.int .i64) (by omega), h_.2⟩)) ?_)))
 rintro _ w17 ⟨rfl, k18⟩
 have B19 := B15.all k18 Apart.none
 have K20 := K16.tr k18
 refine wl_v (bytAddr v (((max 0 (min y (h - 1))) * w).toNat + (max 0 (min x (w - 1))).toNat)) rfl rfl (y_atS ((max 0 (min x (w - 1))).toNat) rfl rfl rfl (by omega) B19 (by omega) (by have hc_ := B19.cap; omega) (by omega) (by have hc_ := B19.cap; omega) (by omega) rr) ?_
 have u21 := getD_lt B19.lt256 (((max 0 (min y (h - 1))) * w).toNat + (max 0 (min x (w - 1))).toNat)
 refine wl_v (.int .u8 ((l.getD (((max 0 (min y (h - 1))) * w).toNat + (max 0 (min x (w - 1))).toNat) 0 : Nat) : Int)) rfl rfl (y_ldB rfl rfl B19 (by omega) rr) (wl_v (iv ((l.getD (((max 0 (min y (h - 1))) * w).toNat + (max 0 (min x (w - 1))).toNat) 0 : Nat) : Int)) rfl rfl (y_convR rfl rfl Tryz.underlying5 Tryz.underlying3 (i64_i rfl (by omega)) rr) (wl_v (iv ((l.getD (((max 0 (min y (h - 1))) * w).toNat + (max 0 (min x (w - 1))).toNat) 0 : Nat) : Int)) rfl rfl (y_asg rfl rfl rr) (wl_nil fun F22 hF23 => ?_)))
 have s24 := (hF23 25).trans s8
 have s25 : F22 10 = iv ((l.getD (((max 0 (min y (h - 1))) * w).toNat + (max 0 (min x (w - 1))).toNat) 0 : Nat) : Int) := (hF23 10).trans rfl
 clear hF23
 refine then_normal (wq_ret ?_)
 exact end_tmp (v := iv ((l.getD (((max 0 (min y (h - 1))) * w).toNat + (max 0 (min x (w - 1))).toNat) 0 : Nat) : Int)) s24 rfl rfl s25 ⟨rfl, K20⟩
theorem ps_near (n : Int) (w0 : World) :
  Calls Tryz.prog 77 #[.int .i64 (n)] w0 fun e w' => e = .returned (.int .i64 (nearI n)) ∧ Kept (fun _ => False) w0 w' := by
 refine calls_wq (args := [iv n]) 5 Tryz.func77 rfl rfl (Nat.le_of_ble_eq_true rfl) ?_
 have K0 := Kept.refl (fun _ => False) w0
 refine wq_seq (wq_region (wl_v (iv 0) rfl rfl (y_asg rfl rfl rr) (wl_nil fun F1 hF2 => ?_)))
 have s3 : F1 0 = iv n := (hF2 0).trans rfl
 have s4 : F1 5 = undef := (hF2 5).trans rfl
 clear hF2
 refine then_normal (wq_seq (wq_region (wl_mv rfl rfl rfl s3 (wl_call (R := fun v_ w_ => v_ = iv (nearI n) ∧ Kept (fun _ => False) w0 w_) rfl rfl (y_cs rfl rfl rfl (fun _ _ => by kernel_rfl) (ev_func _) (vsC rfl (vsC rfl (vsC rfl vsN))) (ps_clamped n (-64) 128  _   ) (fun e_ w_ h_ => ⟨_, h_.1, congrArg (Value.int .i64) (by unfold nearI; omega), h_.2⟩)) ?_))))
 rintro _ w5 ⟨rfl, k6⟩
 have K7 := K0.tr k6
 refine wl_v (iv (nearI n)) rfl rfl (y_asg rfl rfl rr) (wl_nil fun F8 hF9 => ?_)
 have s10 := (hF9 5).trans s4
 have s11 : F8 2 = iv (nearI n) := (hF9 2).trans rfl
 clear hF9
 refine then_normal (wq_ret ?_)
 exact end_tmp (v := iv (nearI n)) s10 rfl rfl s11 ⟨rfl, K7⟩
theorem row_in {f : FD} {p : Int} (y : Int) (h : (sizeF f p).1 ≠ 0) : max 0 (min y ((sizeF f p).2 - 1)) * (sizeF f p).1 + (sizeF f p).1 ≤ ((f.pl p).length : Int) ∧ 0 ≤ max 0 (min y ((sizeF f p).2 - 1)) * (sizeF f p).1 ∧ max 0 (min y ((sizeF f p).2 - 1)) * (sizeF f p).1 ≤ 4096 := by
  have h2 := cell_bounds (sizeF f p).1 y h
  have hb := size_bounds f p
  have hs := size_pos (size_some h)
  rw [show max 0 (min y ((sizeF f p).2 - 1)) = min (max y 0) ((sizeF f p).2 - 1) by omega]
  unfold cellF at h2
  omega
theorem near_at {f : FD} {p : Int} (x y : Int) (h : (sizeF f p).1 ≠ 0) : nearS (f.pl p) (sizeF f p).1 (sizeF f p).2 x y = atF f p x y := by
  have hc := cell_bounds x y h
  have hb := size_bounds f p
  have hs := size_pos (size_some h)
  rw [atF_some x y h]
  unfold nearS
  have e : (cellF f p x y).toNat = (max 0 (min y ((sizeF f p).2 - 1)) * (sizeF f p).1).toNat + (max 0 (min x ((sizeF f p).1 - 1))).toNat := by
    rw [show max 0 (min y ((sizeF f p).2 - 1)) = min (max y 0) ((sizeF f p).2 - 1) by omega, show max 0 (min x ((sizeF f p).1 - 1)) = min (max x 0) ((sizeF f p).1 - 1) by omega]
    unfold cellF at *
    rw [Int.toNat_add (by omega) (by omega)]
  rw [e]
theorem pl_size (p : Int) (f : FD) (f0 f1 f2 : Value) (T_f0 : Nat → Prop) (T_f1 : Nat → Prop) (T_f2 : Nat → Prop) (w0 : World) (h_f0 : Byt w0 T_f0 f0 ((f).p0)) (h_f1 : Byt w0 T_f1 f1 ((f).p1)) (h_f2 : Byt w0 T_f2 f2 ((f).p2)) :
  Calls Tryz.prog 55 #[.agg #[.int .i64 ((f).W), .int .i64 ((f).H), f0, f1, f2], .int .i64 (p)] w0 fun e w' => e = .returned (.tuple #[.int .i64 ((sizeF f p).1), .int .i64 ((sizeF f p).2)]) ∧ Kept (fun _ => False) w0 w' := by
 refine calls_wq (args := [.agg #[iv (f.W), iv (f.H), f0, f1, f2], iv p]) 22 Tryz.func55 rfl rfl (Nat.le_of_ble_eq_true rfl) ?_
 have K0 := Kept.refl (fun _ => False) w0
 have g_f0 := Grew.refl w0 T_f0
 have g_f1 := Grew.refl w0 T_f1
 have g_f2 := Grew.refl w0 T_f2
 refine wq_seq (wq_region (wl_box_stc (vs := [iv (f.W), iv (f.H), f0, f1, f2]) rfl rfl rfl rfl fun p1 w2 B4 g5 k3 => ?_))
 have B10 := h_f0.all k3 Apart.none
 have B11 := h_f1.all k3 Apart.none
 have B12 := h_f2.all k3 Apart.none
 have K13 := K0.tr k3
 refine wl_v (iv 0) rfl rfl (y_asg rfl rfl rr) (wl_v (iv 0) rfl rfl (y_asg rfl rfl rr) (wl_nil fun F14 hF15 => ?_))
 have s16 : F14 1 = iv p := (hF15 1).trans rfl
 have s17 : F14 22 = undef := (hF15 22).trans rfl
 have s18 : F14 2 = pt p1 0 := (hF15 2).trans rfl
 clear hF15
 refine then_normal (wq_seq (wq_seq ?_))
 by_cases d19 : p < 0
 ·skip
  refine wq_region (wl_mv rfl rfl rfl s16 (wl_v (.bool true) rfl rfl (y_lss rfl rfl rfl (decide_eq_true d19) rr) (wl_v (.bool true) rfl rfl (y_mov rfl rfl rr) (wl_unless 2 false 8 rfl rfl rfl (Or.inl rfl) rfl (wl_unless 2 false 8 rfl rfl rfl (Or.inl rfl) rfl (wl_v (.bool true) rfl rfl (y_pickT rfl rfl rfl rr) (wl_v (.bool true) rfl rfl (y_mov rfl rfl rr) (wl_unless 6 false 12 rfl rfl rfl (Or.inl rfl) rfl (wl_unless 6 false 12 rfl rfl rfl (Or.inl rfl) rfl (wl_unless 6 false 12 rfl rfl rfl (Or.inl rfl) rfl (wl_v (.bool true) rfl rfl (y_pickT rfl rfl rfl rr) ?_)))))))))))
  refine wl_nil fun F20 hF21 => ?_
  have s23 := (hF21 22).trans s17
  have s25 : F20 16 = .bool true := (hF21 16).trans rfl
  clear hF21
  refine then_normal ?_
  refine wq_cond (t := true) s25 (fun _ => ?_) (fun e => by cases e)
  refine wq_seq (wq_region (wl_v (iv 0) rfl rfl (y_asg rfl rfl rr) (wl_v (iv 0) rfl rfl (y_asg rfl rfl rr) (wl_nil fun F26 hF27 => ?_))))
  have s28 := (hF27 22).trans s23
  have s29 : F26 4 = iv 0 := (hF27 4).trans rfl
  have s30 : F26 5 = iv 0 := (hF27 5).trans rfl
  clear hF27
  refine then_normal (wq_ret (then_ret ?_))
  exact end_2 s28 rfl (res_tmp (v := iv 0) rfl s29) (res_tmp (v := iv 0) rfl s30) ⟨(by first | rw [he] | rw [sizeF_no (by rintro ⟨h1, h2, h3⟩; first | exact absurd ((checkE_iff f).2 h1) (by assumption) | omega)]), K13⟩
 ·skip
  by_cases d31 : 3 ≤ p
  ·skip
   refine wq_region (wl_mv rfl rfl rfl s16 (wl_v (.bool false) rfl rfl (y_lss rfl rfl rfl (decide_eq_false d19) rr) (wl_v (.bool false) rfl rfl (y_mov rfl rfl rr) (wl_vw (iv p) 2 false 8 rfl rfl rfl rfl rfl (y_mov rfl s16 rr) (wl_vw (.bool true) 2 false 8 rfl rfl rfl rfl rfl (y_geq rfl rfl rfl (decide_eq_true d31) rr) (wl_v (.bool true) rfl rfl (y_pickF rfl rfl rfl rr) (wl_v (.bool true) rfl rfl (y_mov rfl rfl rr) (wl_unless 6 false 12 rfl rfl rfl (Or.inl rfl) rfl (wl_unless 6 false 12 rfl rfl rfl (Or.inl rfl) rfl (wl_unless 6 false 12 rfl rfl rfl (Or.inl rfl) rfl (wl_v (.bool true) rfl rfl (y_pickT rfl rfl rfl rr) ?_)))))))))))
   refine wl_nil fun F32 hF33 => ?_
   have s35 := (hF33 22).trans s17
   have s37 : F32 16 = .bool true := (hF33 16).trans rfl
   clear hF33
   refine then_normal ?_
   refine wq_cond (t := true) s37 (fun _ => ?_) (fun e => by cases e)
   refine wq_seq (wq_region (wl_v (iv 0) rfl rfl (y_asg rfl rfl rr) (wl_v (iv 0) rfl rfl (y_asg rfl rfl rr) (wl_nil fun F38 hF39 => ?_))))
   have s40 := (hF39 22).trans s35
   have s41 : F38 4 = iv 0 := (hF39 4).trans rfl
   have s42 : F38 5 = iv 0 := (hF39 5).trans rfl
   clear hF39
   refine then_normal (wq_ret (then_ret ?_))
   exact end_2 s40 rfl (res_tmp (v := iv 0) rfl s41) (res_tmp (v := iv 0) rfl s42) ⟨(by first | rw [he] | rw [sizeF_no (by rintro ⟨h1, h2, h3⟩; first | exact absurd ((checkE_iff f).2 h1) (by assumption) | omega)]), K13⟩
  ·skip
   refine wq_region (wl_mv rfl rfl rfl s16 (wl_v (.bool false) rfl rfl (y_lss rfl rfl rfl (decide_eq_false d19) rr) (wl_v (.bool false) rfl rfl (y_mov rfl rfl rr) (wl_vw (iv p) 2 false 8 rfl rfl rfl rfl rfl (y_mov rfl s16 rr) (wl_vw (.bool false) 2 false 8 rfl rfl rfl rfl rfl (y_geq rfl rfl rfl (decide_eq_false d31) rr) (wl_v (.bool false) rfl rfl (y_pickF rfl rfl rfl rr) (wl_v (.bool false) rfl rfl (y_mov rfl rfl rr) (wl_vw (.agg #[iv (f.W), iv (f.H), f0, f1, f2]) 6 false 12 rfl rfl rfl rfl rfl (y_load_stc stcT_frame rfl s18 B4 rr) (wl_callw (R := fun v_ w_ => v_ = iv (checkE f) ∧ Kept (fun _ => False) w2 w_) 6 false 12 rfl rfl rfl rfl rfl (y_cs rfl rfl rfl (fun _ _ => by kernel_rfl) (ev_func _) (vsC rfl vsN) (pl_check f f0 f1 f2 T_f0 T_f1 T_f2 _  B10 B11 B12 ) (fun e_ w_ h_ => ⟨_, h_.1, rfl, h_.2⟩)) ?_)))))))))
   rintro _ w43 ⟨rfl, k44⟩
   have B45 := B10.all k44 Apart.none
   have B46 := B11.all k44 Apart.none
   have B47 := B12.all k44 Apart.none
   have B48 := B4.all k44 id
   have K49 := K13.tr k44
   refine wl_vw (.bool (decide ((checkE f) ≠ 0))) 6 false 12 rfl rfl rfl rfl rfl (y_neqI rfl rfl rfl rfl rr) (wl_v (.bool (decide ((checkE f) ≠ 0))) rfl rfl (y_pickF rfl rfl rfl rr) (wl_nil fun F50 hF51 => ?_))
   obtain ⟨s52, s53, s54⟩ := t3 hF51 1 s16 22 s17 2 s18
   have s55 : F50 16 = .bool (decide ((checkE f) ≠ 0)) := (hF51 16).trans rfl
   clear hF51
   refine then_normal ?_
   refine wq_cond s55 (fun c56 => ?_) (fun c56 => ?_)
   ·replace c56 := of_decide_eq_true c56
    refine wq_seq (wq_region (wl_v (iv 0) rfl rfl (y_asg rfl rfl rr) (wl_v (iv 0) rfl rfl (y_asg rfl rfl rr) (wl_nil fun F57 hF58 => ?_))))
    have s59 := (hF58 22).trans s53
    have s60 : F57 4 = iv 0 := (hF58 4).trans rfl
    have s61 : F57 5 = iv 0 := (hF58 5).trans rfl
    clear hF58
    refine then_normal (wq_ret (then_ret ?_))
    exact end_2 s59 rfl (res_tmp (v := iv 0) rfl s60) (res_tmp (v := iv 0) rfl s61) ⟨(by first | rw [he] | rw [sizeF_no (by rintro ⟨h1, h2, h3⟩; first | exact absurd ((checkE_iff f).2 h1) (by assumption) | omega)]), K49⟩
   ·replace c56 := of_decide_eq_false c56
    refine wq_skip (then_normal (wq_seq ?_))
    have hok := (checkE_iff f).1 (by first | assumption | (apply Decidable.byContradiction; assumption))
    have hws := (sideB_iff _).1 hok.1
    have hhs := (sideB_iff _).1 hok.2.1
    have he : sizeF f p = sidesF f p := by unfold sizeF sidesF; rw [if_pos ⟨hok, by omega, by omega⟩]
    refine wq_region (wl_v (.agg #[iv (f.W), iv (f.H), f0, f1, f2]) rfl rfl (y_load_stc stcT_frame rfl s54 B48 rr) (wl_mv rfl rfl rfl s52 (wl_cs rfl rfl rfl rfl rfl (fun _ _ => by kernel_rfl) (vsC rfl (vsC rfl vsN)) (ps_sides p f f0 f1 f2 T_f0 T_f1 T_f2 _ (by omega) (by omega) B45 B46 B47 ) fun w62 k63 => ?_)))
    have K68 := K49.tr k63
    refine wl_v (iv ((sidesF f p).1)) rfl rfl (y_ext rfl rfl rfl rr) (wl_v (iv ((sidesF f p).2)) rfl rfl (y_ext rfl rfl rfl rr) (wl_v (iv ((sidesF f p).1)) rfl rfl (y_asg rfl rfl rr) (wl_v (iv ((sidesF f p).2)) rfl rfl (y_asg rfl rfl rr) (wl_nil fun F69 hF70 => ?_))))
    have s71 := (hF70 22).trans s53
    have s72 : F69 4 = iv ((sidesF f p).1) := (hF70 4).trans rfl
    have s73 : F69 5 = iv ((sidesF f p).2) := (hF70 5).trans rfl
    clear hF70
    refine then_normal (wq_ret ?_)
    exact end_2 s71 rfl (res_tmp (v := iv ((sidesF f p).1)) rfl s72) (res_tmp (v := iv ((sidesF f p).2)) rfl s73) ⟨(by first | rw [he] | rw [sizeF_no (by rintro ⟨h1, h2, h3⟩; first | exact absurd ((checkE_iff f).2 h1) (by assumption) | omega)]), K68⟩
theorem pl_at (p x y : Int) (f : FD) (f0 f1 f2 : Value) (T_f0 : Nat → Prop) (T_f1 : Nat → Prop) (T_f2 : Nat → Prop) (w0 : World) (h_f0 : Byt w0 T_f0 f0 ((f).p0)) (h_f1 : Byt w0 T_f1 f1 ((f).p1)) (h_f2 : Byt w0 T_f2 f2 ((f).p2)) :
  Calls Tryz.prog 157 #[.agg #[.int .i64 ((f).W), .int .i64 ((f).H), f0, f1, f2], .int .i64 (p), .int .i64 (x), .int .i64 (y)] w0 fun e w' => e = .returned (.int .i64 (atF f p x y)) ∧ Kept (fun _ => False) w0 w' := by
 refine calls_wq (args := [.agg #[iv (f.W), iv (f.H), f0, f1, f2], iv p, iv x, iv y]) 28 Tryz.func157 rfl rfl (Nat.le_of_ble_eq_true rfl) ?_
 have K0 := Kept.refl (fun _ => False) w0
 have g_f0 := Grew.refl w0 T_f0
 have g_f1 := Grew.refl w0 T_f1
 have g_f2 := Grew.refl w0 T_f2
 refine wq_seq (wq_region (wl_box_stc (vs := [iv (f.W), iv (f.H), f0, f1, f2]) rfl rfl rfl rfl fun p1 w2 B4 g5 k3 => ?_))
 have B10 := h_f0.all k3 Apart.none
 have B11 := h_f1.all k3 Apart.none
 have B12 := h_f2.all k3 Apart.none
 have K13 := K0.tr k3
 refine wl_v (iv 0) rfl rfl (y_asg rfl rfl rr) (wl_nil fun F14 hF15 => ?_)
 have s16 : F14 1 = iv p := (hF15 1).trans rfl
 have s17 : F14 2 = iv x := (hF15 2).trans rfl
 have s18 : F14 3 = iv y := (hF15 3).trans rfl
 have s19 : F14 28 = undef := (hF15 28).trans rfl
 have s20 : F14 4 = pt p1 0 := (hF15 4).trans rfl
 clear hF15
 refine then_normal (wq_seq (wq_region (wl_v (.agg #[iv (f.W), iv (f.H), f0, f1, f2]) rfl rfl (y_load_stc stcT_frame rfl s20 B4 rr) (wl_mv rfl rfl rfl s16 (wl_cs rfl rfl rfl rfl rfl (fun _ _ => by kernel_rfl) (vsC rfl (vsC rfl vsN)) (pl_size p f f0 f1 f2 T_f0 T_f1 T_f2 _  B10 B11 B12 ) fun w21 k22 => ?_)))))
 have B23 := B10.all k22 Apart.none
 have B24 := B11.all k22 Apart.none
 have B25 := B12.all k22 Apart.none
 have B26 := B4.all k22 id
 have K27 := K13.tr k22
 refine wl_v (.tuple #[iv ((sizeF f p).1), iv ((sizeF f p).2)]) rfl rfl (y_mov rfl rfl rr) (wl_v (iv ((sizeF f p).1)) rfl rfl (y_ext rfl rfl rfl rr) (wl_v (iv ((sizeF f p).2)) rfl rfl (y_ext rfl rfl rfl rr) (wl_v (iv ((sizeF f p).1)) rfl rfl (y_asg rfl rfl rr) (wl_v (iv ((sizeF f p).2)) rfl rfl (y_asg rfl rfl rr) (wl_nil fun F28 hF29 => ?_)))))
 obtain ⟨s30, s31, s32, s33, s34⟩ := t5 hF29 1 s16 2 s17 3 s18 28 s19 4 s20
 have s35 : F28 9 = iv ((sizeF f p).1) := (hF29 9).trans rfl
 have s36 : F28 10 = iv ((sizeF f p).2) := (hF29 10).trans rfl
 clear hF29
 refine then_normal (wq_seq (wq_seq (wq_region (wl_mv rfl rfl rfl s35 (wl_v (.bool (decide (((sizeF f p).1) = 0))) rfl rfl (y_eqlI rfl rfl rfl rfl rr) (wl_nil fun F37 hF38 => ?_))))))
 obtain ⟨s39, s40, s41, s42, s43, s44, s45⟩ := t7 hF38 1 s30 2 s31 3 s32 28 s33 4 s34 9 s35 10 s36
 have s46 : F37 18 = .bool (decide (((sizeF f p).1) = 0)) := (hF38 18).trans rfl
 clear hF38
 refine then_normal ?_
 refine wq_cond s46 (fun c47 => ?_) (fun c47 => ?_)
 ·replace c47 := of_decide_eq_true c47
  refine wq_seq (wq_region (wl_v (iv 0) rfl rfl (y_asg rfl rfl rr) (wl_nil fun F48 hF49 => ?_)))
  have s50 := (hF49 28).trans s42
  have s51 : F48 8 = iv 0 := (hF49 8).trans rfl
  clear hF49
  refine then_normal (wq_ret (then_ret ?_))
  exact end_tmp (v := iv 0) s50 rfl rfl s51 ⟨(by first | rw [atF_none x y (by assumption)] | (rw [← near_at x y hsz]; rfl)), K27⟩
 ·replace c47 := of_decide_eq_false c47
  refine wq_skip (then_normal (wq_seq ?_))
  rcases (show p = 0 ∨ p = 1 ∨ p = 2 from size_cases (f := f) (by assumption)) with rfl | rfl | rfl
  ·skip
   have hsz : (sizeF f 0).1 ≠ 0 := by assumption
   have hb := size_bounds f 0
   have hsp := size_pos (size_some hsz)
   have hr := row_in y hsz
   refine wq_region (wl_mv rfl rfl rfl s39 (wl_v (pt p1 2) rfl rfl (y_fieldR (n := 3) rfl s43 Tryz.underlying29 rfl (by kernel_rfl) (by decide) rfl rr) (wl_v (pt p1 2) rfl rfl (y_atR 0 (s := 1) rfl rfl rfl (by omega) Tryz.underlying27 (by omega) (by kernel_rfl) (by omega) rr) (wl_v f0 rfl rfl (y_ld_stc rfl rfl Tryz.underlying26 B26 rfl rfl rr) (wl_mv rfl rfl rfl s44 (wl_mv rfl rfl rfl s45 (wl_mv rfl rfl rfl s40 (wl_mv rfl rfl rfl s41 (wl_cs rfl rfl rfl rfl rfl (fun _ _ => by kernel_rfl) (vsC rfl (vsC rfl (vsC rfl (vsC rfl (vsC rfl vsN))))) (ps_nearest f0 (f.p0) ((sizeF f 0).1) ((sizeF f 0).2) x y T_f0 _ (by omega) (by omega) (by exact hr.1) (by exact hr.2) B23 ) fun w52 k53 => ?_)))))))))
   have K58 := K27.tr k53
   refine wl_v (iv (nearS (f.p0) ((sizeF f 0).1) ((sizeF f 0).2) x y)) rfl rfl (y_asg rfl rfl rr) (wl_nil fun F59 hF60 => ?_)
   have s61 := (hF60 28).trans s42
   have s62 : F59 8 = iv (nearS (f.p0) ((sizeF f 0).1) ((sizeF f 0).2) x y) := (hF60 8).trans rfl
   clear hF60
   refine then_normal (wq_ret ?_)
   exact end_tmp (v := iv (nearS (f.p0) ((sizeF f 0).1) ((sizeF f 0).2) x y)) s61 rfl rfl s62 ⟨(by first | rw [atF_none x y (by assumption)] | (rw [← near_at x y hsz]; rfl)), K58⟩
  ·skip
   have hsz : (sizeF f 1).1 ≠ 0 := by assumption
   have hb := size_bounds f 1
   have hsp := size_pos (size_some hsz)
   have hr := row_in y hsz
   refine wq_region (wl_mv rfl rfl rfl s39 (wl_v (pt p1 2) rfl rfl (y_fieldR (n := 3) rfl s43 Tryz.underlying29 rfl (by kernel_rfl) (by decide) rfl rr) (wl_v (pt p1 3) rfl rfl (y_atR 1 (s := 1) rfl rfl rfl (by omega) Tryz.underlying27 (by omega) (by kernel_rfl) (by omega) rr) (wl_v f1 rfl rfl (y_ld_stc rfl rfl Tryz.underlying26 B26 rfl rfl rr) (wl_mv rfl rfl rfl s44 (wl_mv rfl rfl rfl s45 (wl_mv rfl rfl rfl s40 (wl_mv rfl rfl rfl s41 (wl_cs rfl rfl rfl rfl rfl (fun _ _ => by kernel_rfl) (vsC rfl (vsC rfl (vsC rfl (vsC rfl (vsC rfl vsN))))) (ps_nearest f1 (f.p1) ((sizeF f 1).1) ((sizeF f 1).2) x y T_f1 _ (by omega) (by omega) (by exact hr.1) (by exact hr.2) B24 ) fun w63 k64 => ?_)))))))))
   have K69 := K27.tr k64
   refine wl_v (iv (nearS (f.p1) ((sizeF f 1).1) ((sizeF f 1).2) x y)) rfl rfl (y_asg rfl rfl rr) (wl_nil fun F70 hF71 => ?_)
   have s72 := (hF71 28).trans s42
   have s73 : F70 8 = iv (nearS (f.p1) ((sizeF f 1).1) ((sizeF f 1).2) x y) := (hF71 8).trans rfl
   clear hF71
   refine then_normal (wq_ret ?_)
   exact end_tmp (v := iv (nearS (f.p1) ((sizeF f 1).1) ((sizeF f 1).2) x y)) s72 rfl rfl s73 ⟨(by first | rw [atF_none x y (by assumption)] | (rw [← near_at x y hsz]; rfl)), K69⟩
  ·skip
   have hsz : (sizeF f 2).1 ≠ 0 := by assumption
   have hb := size_bounds f 2
   have hsp := size_pos (size_some hsz)
   have hr := row_in y hsz
   refine wq_region (wl_mv rfl rfl rfl s39 (wl_v (pt p1 2) rfl rfl (y_fieldR (n := 3) rfl s43 Tryz.underlying29 rfl (by kernel_rfl) (by decide) rfl rr) (wl_v (pt p1 4) rfl rfl (y_atR 2 (s := 1) rfl rfl rfl (by omega) Tryz.underlying27 (by omega) (by kernel_rfl) (by omega) rr) (wl_v f2 rfl rfl (y_ld_stc rfl rfl Tryz.underlying26 B26 rfl rfl rr) (wl_mv rfl rfl rfl s44 (wl_mv rfl rfl rfl s45 (wl_mv rfl rfl rfl s40 (wl_mv rfl rfl rfl s41 (wl_cs rfl rfl rfl rfl rfl (fun _ _ => by kernel_rfl) (vsC rfl (vsC rfl (vsC rfl (vsC rfl (vsC rfl vsN))))) (ps_nearest f2 (f.p2) ((sizeF f 2).1) ((sizeF f 2).2) x y T_f2 _ (by omega) (by omega) (by exact hr.1) (by exact hr.2) B25 ) fun w74 k75 => ?_)))))))))
   have K80 := K27.tr k75
   refine wl_v (iv (nearS (f.p2) ((sizeF f 2).1) ((sizeF f 2).2) x y)) rfl rfl (y_asg rfl rfl rr) (wl_nil fun F81 hF82 => ?_)
   have s83 := (hF82 28).trans s42
   have s84 : F81 8 = iv (nearS (f.p2) ((sizeF f 2).1) ((sizeF f 2).2) x y) := (hF82 8).trans rfl
   clear hF82
   refine then_normal (wq_ret ?_)
   exact end_tmp (v := iv (nearS (f.p2) ((sizeF f 2).1) ((sizeF f 2).2) x y)) s83 rfl rfl s84 ⟨(by first | rw [atF_none x y (by assumption)] | (rw [← near_at x y hsz]; rfl)), K80⟩
def pn2 (a b : Nat) : Nat → Nat
  | 0 => a
  | _ => b
theorem pn2_le (a b k : Nat) : pn2 a b k = a ∨ pn2 a b k = b := by cases k <;> simp [pn2]
theorem new_side {w h : Int} (s : Nat) (hw : sideB w = true) (hh : sideB h = true) : (newF w h s).W = w ∧ (newF w h s).H = h := by rw [newF_yes s hw hh]; exact ⟨rfl, rfl⟩
theorem blank_lens {f : FD} (h : okF f) : (newF f.W f.H 0).p0.length = f.p0.length ∧ (newF f.W f.H 0).p1.length = f.p1.length ∧ (newF f.W f.H 0).p2.length = f.p2.length := by
  have h3 := h.2.2
  have hw := new_ok 0 h.1 h.2.1
  have h4 := hw.2.2
  have e := new_side 0 h.1 h.2.1
  rw [e.1, e.2] at h4
  omega
theorem ps_blank (w h : Int) (w0 : World) (hsw : sideB w = true) (hsh : sideB h = true) :
  Calls Tryz.prog 50 #[.int .i64 (w), .int .i64 (h)] w0 fun e w' => ∃ (v1 : Value) (T1 : Nat → Prop) (v2 : Value) (T2 : Nat → Prop) (v3 : Value) (T3 : Nat → Prop), e = .returned (.agg #[.int .i64 ((newF w h 0).W), .int .i64 ((newF w h 0).H), v1, v2, v3]) ∧ Kept (fun _ => False) w0 w' ∧ (Owb w' T1 v1 ((newF w h 0).p0) ∧ Grew w0 noB T1) ∧ (Owb w' T2 v2 ((newF w h 0).p1) ∧ Grew w0 noB T2) ∧ (Owb w' T3 v3 ((newF w h 0).p2) ∧ Grew w0 noB T3) ∧ Apart T1 T2 ∧ Apart T1 T3 ∧ Apart T2 T3 := by
 refine calls_wq (args := [iv w, iv h]) 30 Tryz.func50 rfl rfl (Nat.le_of_ble_eq_true rfl) ?_
 have K0 := Kept.refl (fun _ => False) w0
 have hws := (sideB_iff _).1 hsw
 have hhs := (sideB_iff _).1 hsh
 have har := area_bounds hsw hsh
 obtain ⟨n0, hn0⟩ : ∃ n : Nat, (n : Int) = w * h := ⟨(w * h).toNat, by omega⟩
 obtain ⟨n1, hn1⟩ : ∃ n : Nat, (n : Int) = Int.tdiv w 2 * Int.tdiv h 2 := ⟨(Int.tdiv w 2 * Int.tdiv h 2).toNat, Int.toNat_of_nonneg (Int.mul_nonneg (by rw [tdiv2 (by omega)]; omega) (by rw [tdiv2 (by omega)]; omega))⟩
 have hq : (n1 : Int) = w * h / 4 := by rw [hn1]; exact quarter hws.2.2 hhs.2.2 (by omega) (by omega)
 have hF : newF w h 0 = ⟨w, h, List.replicate n0 0, List.replicate n1 0, List.replicate n1 0⟩ := by rw [newF_yes 0 hsw hsh, ← hq, ← hn0, Int.toNat_natCast, Int.toNat_natCast]
 refine wq_seq (wq_region (wl_alloc_stc (n := 5) (vs := [iv 0, iv 0, .slice none 0 0, .slice none 0 0, .slice none 0 0]) rfl rfl rfl (by kernel_rfl) fun p1 w2 B4 g5 k3 => ?_))
 have gr6 : Grew w0 noB (onB p1) := Grew.new K0 g5
 have K7 := K0.tr k3
 refine wl_nil fun F8 hF9 => ?_
 have s10 : F8 0 = iv w := (hF9 0).trans rfl
 have s11 : F8 1 = iv h := (hF9 1).trans rfl
 have s12 : F8 30 = undef := (hF9 30).trans rfl
 have s13 : F8 4 = pt p1 0 := (hF9 4).trans rfl
 clear hF9
 refine then_normal (wq_seq (wq_region (wl_mv rfl rfl rfl s10 (wl_mv rfl rfl rfl s11 (wl_v (.agg #[iv w, iv h, .slice none 0 0, .slice none 0 0, .slice none 0 0]) rfl rfl (y_buildL (l' := [(0, iv w), (1, iv h)]) (cells := #[iv w, iv h, .slice none 0 0, .slice none 0 0, .slice none 0 0]) rfl (bpC rfl (bpC rfl bpN)) (by kernel_rfl) rfl rr) (wl_alloc_stc (n := 5) (vs := [iv 0, iv 0, .slice none 0 0, .slice none 0 0, .slice none 0 0]) rfl rfl rfl (by kernel_rfl) fun p14 w15 B17 g18 k16 => ?_))))))
 have gr19 : Grew w0 noB (onB p14) := Grew.new K7 g18
 have ap20 : Apart (onB p14) (onB p1) := Apart.new g18 (onB_live B4.lt)
 have B21 := B4.all k16 id
 have K22 := K7.tr k16
 refine wl_store_stc (us := [iv w, iv h, .slice none 0 0, .slice none 0 0, .slice none 0 0]) stcT_frame rfl rfl rfl rfl rfl B17 rfl (oneI rfl (oneI rfl (oneI rfl (oneI rfl (oneI rfl oneN))))) fun w23 B24 k25 => ?_
 have B26 := B21.all k25 (ap20.symm p1 rfl)
 have K27 := K22.trans k25 (Grew.ok (S := fun _ => False) gr19 noB_le)
 refine wl_nil fun F28 hF29 => ?_
 obtain ⟨s30, s31⟩ := t2 hF29 30 s12 4 s13
 have s32 : F28 5 = pt p14 0 := (hF29 5).trans rfl
 clear hF29
 refine then_normal (wq_seq (wq_seq (wq_region (wl_v (iv 0) rfl rfl (y_mov rfl rfl rr) (wl_nil fun F33 hF34 => ?_)))))
 obtain ⟨s35, s36, s37⟩ := t3 hF34 30 s30 4 s31 5 s32
 have s38 : F33 12 = iv 0 := (hF34 12).trans rfl
 clear hF34
 refine then_normal (wq_block (wq_rounds 4 (wqr_step (wq_seq (wq_region (wl_v (.bool true) rfl rfl (y_lss rfl s38 rfl rfl rr) (wl_nil fun F39 hF40 => ?_)))))))
 obtain ⟨s41, s42, s43, s44⟩ := t4 hF40 30 s35 4 s36 5 s37 12 s38
 have s45 : F39 13 = .bool true := (hF40 13).trans rfl
 clear hF40
 refine then_normal (wq_seq ?_)
 refine wq_cond (t := true) s45 (fun _ => ?_) (fun e => by cases e)
 refine wq_skip (then_normal (wq_seq (wq_block (wq_seq (wq_region (wl_mv rfl rfl rfl s44 (wl_v (iv 0) rfl rfl (y_asg rfl rfl rr) (wl_nil fun F46 hF47 => ?_))))))))
 obtain ⟨s48, s49, s50, s51⟩ := t4 hF47 30 s41 4 s42 5 s43 12 s44
 have s52 : F46 6 = iv 0 := (hF47 6).trans rfl
 clear hF47
 refine then_normal (wq_seq (wq_region (wl_v (.agg #[iv w, iv h, .slice none 0 0, .slice none 0 0, .slice none 0 0]) rfl rfl (y_load_stc stcT_frame rfl s50 B24 rr) (wl_mv rfl rfl rfl s52 (wl_cs rfl rfl rfl rfl rfl (fun _ _ => by kernel_rfl) (vsC rfl (vsC rfl vsN)) (ps_sides 0 (FD.mk w h ([]) ([]) ([])) (.slice none 0 0) (.slice none 0 0) (.slice none 0 0) noB noB noB _ (by dsimp only; omega) (by dsimp only; omega) (Byt.nil _) (Byt.nil _) (Byt.nil _) ) fun w53 k54 => ?_)))))
 have B55 := B26.all k54 id
 have B56 := B24.all k54 id
 have K57 := K27.tr k54
 refine wl_v (.tuple #[iv ((sidesF (FD.mk w h ([]) ([]) ([])) 0).1), iv ((sidesF (FD.mk w h ([]) ([]) ([])) 0).2)]) rfl rfl (y_mov rfl rfl rr) (wl_v (iv ((sidesF (FD.mk w h ([]) ([]) ([])) 0).1)) rfl rfl (y_ext rfl rfl rfl rr) (wl_v (iv ((sidesF (FD.mk w h ([]) ([]) ([])) 0).2)) rfl rfl (y_ext rfl rfl rfl rr) (wl_v (iv ((sidesF (FD.mk w h ([]) ([]) ([])) 0).1)) rfl rfl (y_asg rfl rfl rr) (wl_v (iv ((sidesF (FD.mk w h ([]) ([]) ([])) 0).2)) rfl rfl (y_asg rfl rfl rr) (wl_nil fun F58 hF59 => ?_)))))
 obtain ⟨s60, s61, s62, s63, s64⟩ := t5 hF59 30 s48 4 s49 5 s50 12 s51 6 s52
 have s65 : F58 7 = iv ((sidesF (FD.mk w h ([]) ([]) ([])) 0).1) := (hF59 7).trans rfl
 have s66 : F58 8 = iv ((sidesF (FD.mk w h ([]) ([]) ([])) 0).2) := (hF59 8).trans rfl
 clear hF59
 refine then_normal ?_
 have hpq := pn2_le n0 n1 0
 refine wq_region (wl_mv rfl rfl rfl s64 (wl_mv rfl rfl rfl s65 (wl_mv rfl rfl rfl s66 (wl_v (iv (((pn2 n0 n1 0) : Nat) : Int)) rfl rfl (y_mul rfl rfl rfl (by first | exact (i64_i rfl (by show _ ≤ w * h ∧ w * h ≤ _; omega)).trans (hn0.symm) | exact (i64_i rfl (by show _ ≤ Int.tdiv w 2 * Int.tdiv h 2 ∧ Int.tdiv w 2 * Int.tdiv h 2 ≤ _; omega)).trans hn1.symm) rr) (wl_makeB (n := (pn2 n0 n1 0)) rfl rfl rfl rfl rfl (by omega) (by omega) (by omega) fun v67 w68 T72 B70 g71 k69 => ?_)))))
 have gr73 : Grew w0 noB T72 := Grew.new K57 g71
 have ap74 : Apart T72 (onB p1) := Apart.new g71 (onB_live B55.lt)
 have ap75 : Apart T72 (onB p14) := Apart.new g71 (onB_live B56.lt)
 have B76 := B55.all k69 id
 have B77 := B56.all k69 id
 have K78 := K57.tr k69
 refine wl_v (pt p14 2) rfl rfl (y_fieldR (n := 3) rfl s62 Tryz.underlying29 rfl (by kernel_rfl) (by decide) rfl rr) (wl_v (pt p14 2) rfl rfl (y_atR 0 (s := 1) rfl rfl rfl (by omega) Tryz.underlying27 (by omega) (by kernel_rfl) (by omega) rr) (wl_set_stc rfl rfl rfl rfl rfl B77 rfl B70.oneC (by kernel_rfl) fun w79 B80 k81 => ?_))
 replace B80 : Stc w79 p14 29 [iv w, iv h, v67, .slice none 0 0, .slice none 0 0] := B80
 have B82 := B76.all k81 (ap20.symm p1 rfl)
 have B83 := B70.all k81 ap75
 have K84 := K78.trans k81 (Grew.ok (S := fun _ => False) gr19 noB_le)
 refine wl_nil fun F85 hF86 => ?_
 obtain ⟨s87, s88, s89, s90⟩ := t4 hF86 30 s60 4 s61 5 s62 12 s63
 clear hF86
 refine in_normal (then_normal (wq_region (wl_v (iv ((1 : Nat) : Int)) rfl rfl (y_add rfl s90 rfl (i64_n (by omega) (by omega)) rr) (wl_v (iv ((1 : Nat) : Int)) rfl rfl (y_mov rfl rfl rr) (wl_nil fun F91 hF92 => ?_)))))
 obtain ⟨s93, s94, s95⟩ := t3 hF92 30 s87 4 s88 5 s89
 have s96 : F91 12 = iv ((1 : Nat) : Int) := (hF92 12).trans rfl
 clear hF92
 refine then_normal (wqr_step (wq_seq (wq_region (wl_v (.bool true) rfl rfl (y_lss rfl s96 rfl rfl rr) (wl_nil fun F97 hF98 => ?_)))))
 obtain ⟨s99, s100, s101, s102⟩ := t4 hF98 30 s93 4 s94 5 s95 12 s96
 have s103 : F97 13 = .bool true := (hF98 13).trans rfl
 clear hF98
 refine then_normal (wq_seq ?_)
 refine wq_cond (t := true) s103 (fun _ => ?_) (fun e => by cases e)
 refine wq_skip (then_normal (wq_seq (wq_block (wq_seq (wq_region (wl_mv rfl rfl rfl s102 (wl_v (iv ((1 : Nat) : Int)) rfl rfl (y_asg rfl rfl rr) (wl_nil fun F104 hF105 => ?_))))))))
 obtain ⟨s106, s107, s108, s109⟩ := t4 hF105 30 s99 4 s100 5 s101 12 s102
 have s110 : F104 6 = iv ((1 : Nat) : Int) := (hF105 6).trans rfl
 clear hF105
 refine then_normal (wq_seq (wq_region (wl_v (.agg #[iv w, iv h, v67, .slice none 0 0, .slice none 0 0]) rfl rfl (y_load_stc stcT_frame rfl s108 B80 rr) (wl_mv rfl rfl rfl s110 (wl_cs rfl rfl rfl rfl rfl (fun _ _ => by kernel_rfl) (vsC rfl (vsC rfl vsN)) (ps_sides ((1 : Nat) : Int) (FD.mk w h (List.replicate (pn2 n0 n1 0) 0) ([]) ([])) v67 (.slice none 0 0) (.slice none 0 0) T72 noB noB _ (by dsimp only; omega) (by dsimp only; omega) B83.byt (Byt.nil _) (Byt.nil _) ) fun w111 k112 => ?_)))))
 have B113 := B82.all k112 id
 have B114 := B80.all k112 id
 have B115 := B83.all k112 Apart.none
 have K116 := K84.tr k112
 refine wl_v (.tuple #[iv ((sidesF (FD.mk w h (List.replicate (pn2 n0 n1 0) 0) ([]) ([])) ((1 : Nat) : Int)).1), iv ((sidesF (FD.mk w h (List.replicate (pn2 n0 n1 0) 0) ([]) ([])) ((1 : Nat) : Int)).2)]) rfl rfl (y_mov rfl rfl rr) (wl_v (iv ((sidesF (FD.mk w h (List.replicate (pn2 n0 n1 0) 0) ([]) ([])) ((1 : Nat) : Int)).1)) rfl rfl (y_ext rfl rfl rfl rr) (wl_v (iv ((sidesF (FD.mk w h (List.replicate (pn2 n0 n1 0) 0) ([]) ([])) ((1 : Nat) : Int)).2)) rfl rfl (y_ext rfl rfl rfl rr) (wl_v (iv ((sidesF (FD.mk w h (List.replicate (pn2 n0 n1 0) 0) ([]) ([])) ((1 : Nat) : Int)).1)) rfl rfl (y_asg rfl rfl rr) (wl_v (iv ((sidesF (FD.mk w h (List.replicate (pn2 n0 n1 0) 0) ([]) ([])) ((1 : Nat) : Int)).2)) rfl rfl (y_asg rfl rfl rr) (wl_nil fun F117 hF118 => ?_)))))
 obtain ⟨s119, s120, s121, s122, s123⟩ := t5 hF118 30 s106 4 s107 5 s108 12 s109 6 s110
 have s124 : F117 7 = iv ((sidesF (FD.mk w h (List.replicate (pn2 n0 n1 0) 0) ([]) ([])) ((1 : Nat) : Int)).1) := (hF118 7).trans rfl
 have s125 : F117 8 = iv ((sidesF (FD.mk w h (List.replicate (pn2 n0 n1 0) 0) ([]) ([])) ((1 : Nat) : Int)).2) := (hF118 8).trans rfl
 clear hF118
 refine then_normal ?_
 have hpq := pn2_le n0 n1 1
 refine wq_region (wl_mv rfl rfl rfl s123 (wl_mv rfl rfl rfl s124 (wl_mv rfl rfl rfl s125 (wl_v (iv (((pn2 n0 n1 1) : Nat) : Int)) rfl rfl (y_mul rfl rfl rfl (by first | exact (i64_i rfl (by show _ ≤ w * h ∧ w * h ≤ _; omega)).trans (hn0.symm) | exact (i64_i rfl (by show _ ≤ Int.tdiv w 2 * Int.tdiv h 2 ∧ Int.tdiv w 2 * Int.tdiv h 2 ≤ _; omega)).trans hn1.symm) rr) (wl_makeB (n := (pn2 n0 n1 1)) rfl rfl rfl rfl rfl (by omega) (by omega) (by omega) fun v126 w127 T131 B129 g130 k128 => ?_)))))
 have gr132 : Grew w0 noB T131 := Grew.new K116 g130
 have ap133 : Apart T131 (onB p1) := Apart.new g130 (onB_live B113.lt)
 have ap134 : Apart T131 (onB p14) := Apart.new g130 (onB_live B114.lt)
 have ap135 : Apart T131 T72 := Apart.new g130 B115.live
 have B136 := B113.all k128 id
 have B137 := B114.all k128 id
 have B138 := B115.all k128 Apart.none
 have K139 := K116.tr k128
 refine wl_v (pt p14 2) rfl rfl (y_fieldR (n := 3) rfl s121 Tryz.underlying29 rfl (by kernel_rfl) (by decide) rfl rr) (wl_v (pt p14 3) rfl rfl (y_atR 1 (s := 1) rfl rfl rfl (by omega) Tryz.underlying27 (by omega) (by kernel_rfl) (by omega) rr) (wl_set_stc rfl rfl rfl rfl rfl B137 rfl B129.oneC (by kernel_rfl) fun w140 B141 k142 => ?_))
 replace B141 : Stc w140 p14 29 [iv w, iv h, v67, v126, .slice none 0 0] := B141
 have B143 := B136.all k142 (ap20.symm p1 rfl)
 have B144 := B138.all k142 ap75
 have B145 := B129.all k142 ap134
 have K146 := K139.trans k142 (Grew.ok (S := fun _ => False) gr19 noB_le)
 refine wl_nil fun F147 hF148 => ?_
 obtain ⟨s149, s150, s151, s152⟩ := t4 hF148 30 s119 4 s120 5 s121 12 s122
 clear hF148
 refine in_normal (then_normal (wq_region (wl_v (iv ((2 : Nat) : Int)) rfl rfl (y_add rfl s152 rfl (i64_n (by omega) (by omega)) rr) (wl_v (iv ((2 : Nat) : Int)) rfl rfl (y_mov rfl rfl rr) (wl_nil fun F153 hF154 => ?_)))))
 obtain ⟨s155, s156, s157⟩ := t3 hF154 30 s149 4 s150 5 s151
 have s158 : F153 12 = iv ((2 : Nat) : Int) := (hF154 12).trans rfl
 clear hF154
 refine then_normal (wqr_step (wq_seq (wq_region (wl_v (.bool true) rfl rfl (y_lss rfl s158 rfl rfl rr) (wl_nil fun F159 hF160 => ?_)))))
 obtain ⟨s161, s162, s163, s164⟩ := t4 hF160 30 s155 4 s156 5 s157 12 s158
 have s165 : F159 13 = .bool true := (hF160 13).trans rfl
 clear hF160
 refine then_normal (wq_seq ?_)
 refine wq_cond (t := true) s165 (fun _ => ?_) (fun e => by cases e)
 refine wq_skip (then_normal (wq_seq (wq_block (wq_seq (wq_region (wl_mv rfl rfl rfl s164 (wl_v (iv ((2 : Nat) : Int)) rfl rfl (y_asg rfl rfl rr) (wl_nil fun F166 hF167 => ?_))))))))
 obtain ⟨s168, s169, s170, s171⟩ := t4 hF167 30 s161 4 s162 5 s163 12 s164
 have s172 : F166 6 = iv ((2 : Nat) : Int) := (hF167 6).trans rfl
 clear hF167
 refine then_normal (wq_seq (wq_region (wl_v (.agg #[iv w, iv h, v67, v126, .slice none 0 0]) rfl rfl (y_load_stc stcT_frame rfl s170 B141 rr) (wl_mv rfl rfl rfl s172 (wl_cs rfl rfl rfl rfl rfl (fun _ _ => by kernel_rfl) (vsC rfl (vsC rfl vsN)) (ps_sides ((2 : Nat) : Int) (FD.mk w h (List.replicate (pn2 n0 n1 0) 0) (List.replicate (pn2 n0 n1 1) 0) ([])) v67 v126 (.slice none 0 0) T72 T131 noB _ (by dsimp only; omega) (by dsimp only; omega) B144.byt B145.byt (Byt.nil _) ) fun w173 k174 => ?_)))))
 have B175 := B143.all k174 id
 have B176 := B141.all k174 id
 have B177 := B144.all k174 Apart.none
 have B178 := B145.all k174 Apart.none
 have K179 := K146.tr k174
 refine wl_v (.tuple #[iv ((sidesF (FD.mk w h (List.replicate (pn2 n0 n1 0) 0) (List.replicate (pn2 n0 n1 1) 0) ([])) ((2 : Nat) : Int)).1), iv ((sidesF (FD.mk w h (List.replicate (pn2 n0 n1 0) 0) (List.replicate (pn2 n0 n1 1) 0) ([])) ((2 : Nat) : Int)).2)]) rfl rfl (y_mov rfl rfl rr) (wl_v (iv ((sidesF (FD.mk w h (List.replicate (pn2 n0 n1 0) 0) (List.replicate (pn2 n0 n1 1) 0) ([])) ((2 : Nat) : Int)).1)) rfl rfl (y_ext rfl rfl rfl rr) (wl_v (iv ((sidesF (FD.mk w h (List.replicate (pn2 n0 n1 0) 0) (List.replicate (pn2 n0 n1 1) 0) ([])) ((2 : Nat) : Int)).2)) rfl rfl (y_ext rfl rfl rfl rr) (wl_v (iv ((sidesF (FD.mk w h (List.replicate (pn2 n0 n1 0) 0) (List.replicate (pn2 n0 n1 1) 0) ([])) ((2 : Nat) : Int)).1)) rfl rfl (y_asg rfl rfl rr) (wl_v (iv ((sidesF (FD.mk w h (List.replicate (pn2 n0 n1 0) 0) (List.replicate (pn2 n0 n1 1) 0) ([])) ((2 : Nat) : Int)).2)) rfl rfl (y_asg rfl rfl rr) (wl_nil fun F180 hF181 => ?_)))))
 obtain ⟨s182, s183, s184, s185, s186⟩ := t5 hF181 30 s168 4 s169 5 s170 12 s171 6 s172
 have s187 : F180 7 = iv ((sidesF (FD.mk w h (List.replicate (pn2 n0 n1 0) 0) (List.replicate (pn2 n0 n1 1) 0) ([])) ((2 : Nat) : Int)).1) := (hF181 7).trans rfl
 have s188 : F180 8 = iv ((sidesF (FD.mk w h (List.replicate (pn2 n0 n1 0) 0) (List.replicate (pn2 n0 n1 1) 0) ([])) ((2 : Nat) : Int)).2) := (hF181 8).trans rfl
 clear hF181
 refine then_normal ?_
 have hpq := pn2_le n0 n1 2
 refine wq_region (wl_mv rfl rfl rfl s186 (wl_mv rfl rfl rfl s187 (wl_mv rfl rfl rfl s188 (wl_v (iv (((pn2 n0 n1 2) : Nat) : Int)) rfl rfl (y_mul rfl rfl rfl (by first | exact (i64_i rfl (by show _ ≤ w * h ∧ w * h ≤ _; omega)).trans (hn0.symm) | exact (i64_i rfl (by show _ ≤ Int.tdiv w 2 * Int.tdiv h 2 ∧ Int.tdiv w 2 * Int.tdiv h 2 ≤ _; omega)).trans hn1.symm) rr) (wl_makeB (n := (pn2 n0 n1 2)) rfl rfl rfl rfl rfl (by omega) (by omega) (by omega) fun v189 w190 T194 B192 g193 k191 => ?_)))))
 have gr195 : Grew w0 noB T194 := Grew.new K179 g193
 have ap196 : Apart T194 (onB p1) := Apart.new g193 (onB_live B175.lt)
 have ap197 : Apart T194 (onB p14) := Apart.new g193 (onB_live B176.lt)
 have ap198 : Apart T194 T72 := Apart.new g193 B177.live
 have ap199 : Apart T194 T131 := Apart.new g193 B178.live
 have B200 := B175.all k191 id
 have B201 := B176.all k191 id
 have B202 := B177.all k191 Apart.none
 have B203 := B178.all k191 Apart.none
 have K204 := K179.tr k191
 refine wl_v (pt p14 2) rfl rfl (y_fieldR (n := 3) rfl s184 Tryz.underlying29 rfl (by kernel_rfl) (by decide) rfl rr) (wl_v (pt p14 4) rfl rfl (y_atR 2 (s := 1) rfl rfl rfl (by omega) Tryz.underlying27 (by omega) (by kernel_rfl) (by omega) rr) (wl_set_stc rfl rfl rfl rfl rfl B201 rfl B192.oneC (by kernel_rfl) fun w205 B206 k207 => ?_))
 replace B206 : Stc w205 p14 29 [iv w, iv h, v67, v126, v189] := B206
 have B208 := B200.all k207 (ap20.symm p1 rfl)
 have B209 := B202.all k207 ap75
 have B210 := B203.all k207 ap134
 have B211 := B192.all k207 ap197
 have K212 := K204.trans k207 (Grew.ok (S := fun _ => False) gr19 noB_le)
 refine wl_nil fun F213 hF214 => ?_
 obtain ⟨s215, s216, s217, s218⟩ := t4 hF214 30 s182 4 s183 5 s184 12 s185
 clear hF214
 refine in_normal (then_normal (wq_region (wl_v (iv ((3 : Nat) : Int)) rfl rfl (y_add rfl s218 rfl (i64_n (by omega) (by omega)) rr) (wl_v (iv ((3 : Nat) : Int)) rfl rfl (y_mov rfl rfl rr) (wl_nil fun F219 hF220 => ?_)))))
 obtain ⟨s221, s222, s223⟩ := t3 hF220 30 s215 4 s216 5 s217
 have s224 : F219 12 = iv ((3 : Nat) : Int) := (hF220 12).trans rfl
 clear hF220
 refine then_normal (wqr_step (wq_seq (wq_region (wl_v (.bool false) rfl rfl (y_lss rfl s224 rfl rfl rr) (wl_nil fun F225 hF226 => ?_)))))
 obtain ⟨s227, s228, s229⟩ := t3 hF226 30 s221 4 s222 5 s223
 have s231 : F225 13 = .bool false := (hF226 13).trans rfl
 clear hF226
 refine then_normal (wq_seq ?_)
 refine wq_cond (t := false) s231 (fun e => by cases e) (fun _ => ?_)
 refine wq_exit (then_exit (then_exit (in_here (then_normal (wq_seq (wq_region (wl_v (.agg #[iv w, iv h, v67, v126, v189]) rfl rfl (y_load_stc stcT_frame rfl s229 B206 rr) (wl_store_stc (us := [iv w, iv h, v67, v126, v189]) stcT_frame rfl rfl rfl s228 rfl B208 rfl (oneI rfl (oneI rfl (oneI B209.one (oneI B210.one (oneI B211.one oneN))))) fun w232 B233 k234 => ?_))))))))
 have B236 := B209.all k234 ap74
 have B237 := B210.all k234 ap133
 have B238 := B211.all k234 ap196
 have K239 := K212.trans k234 (Grew.ok (S := fun _ => False) gr6 noB_le)
 refine wl_nil fun F240 hF241 => ?_
 obtain ⟨s242, s243⟩ := t2 hF241 30 s227 4 s228
 clear hF241
 refine then_normal (wq_ret ?_)
 exact end_stc (vs := [iv w, iv h, v67, v126, v189]) stcT_frame s242 rfl rfl s243 B233 ⟨v67, T72, v126, T131, v189, T194, (by rw [hF]), K239, ⟨(by rw [hF]; exact B236), gr73⟩, ⟨(by rw [hF]; exact B237), gr132⟩, ⟨(by rw [hF]; exact B238), gr195⟩, ap135.symm, ap198.symm, ap199.symm⟩
theorem pl_copy (f : FD) (f0 f1 f2 : Value) (T_f0 : Nat → Prop) (T_f1 : Nat → Prop) (T_f2 : Nat → Prop) (w0 : World) (h_f0 : Byt w0 T_f0 f0 ((f).p0)) (h_f1 : Byt w0 T_f1 f1 ((f).p1)) (h_f2 : Byt w0 T_f2 f2 ((f).p2)) :
  Calls Tryz.prog 18 #[.agg #[.int .i64 ((f).W), .int .i64 ((f).H), f0, f1, f2]] w0 fun e w' => ∃ (v1 : Value) (T1 : Nat → Prop) (v2 : Value) (T2 : Nat → Prop) (v3 : Value) (T3 : Nat → Prop), e = .returned (.agg #[.int .i64 ((copyF f).W), .int .i64 ((copyF f).H), v1, v2, v3]) ∧ Kept (fun _ => False) w0 w' ∧ (Owb w' T1 v1 ((copyF f).p0) ∧ Grew w0 noB T1) ∧ (Owb w' T2 v2 ((copyF f).p1) ∧ Grew w0 noB T2) ∧ (Owb w' T3 v3 ((copyF f).p2) ∧ Grew w0 noB T3) ∧ Apart T1 T2 ∧ Apart T1 T3 ∧ Apart T2 T3 := by
 refine calls_wq (args := [.agg #[iv (f.W), iv (f.H), f0, f1, f2]]) 28 Tryz.func18 rfl rfl (Nat.le_of_ble_eq_true rfl) ?_
 have K0 := Kept.refl (fun _ => False) w0
 have g_f0 := Grew.refl w0 T_f0
 have g_f1 := Grew.refl w0 T_f1
 have g_f2 := Grew.refl w0 T_f2
 refine wq_seq (wq_region (wl_box_stc (vs := [iv (f.W), iv (f.H), f0, f1, f2]) rfl rfl rfl rfl fun p1 w2 B4 g5 k3 => ?_))
 have B10 := h_f0.all k3 Apart.none
 have B11 := h_f1.all k3 Apart.none
 have B12 := h_f2.all k3 Apart.none
 have K13 := K0.tr k3
 refine wl_alloc_stc (n := 5) (vs := [iv 0, iv 0, .slice none 0 0, .slice none 0 0, .slice none 0 0]) rfl rfl rfl (by kernel_rfl) fun p14 w15 B17 g18 k16 => ?_
 have gr19 : Grew w0 noB (onB p14) := Grew.new K13 g18
 have B24 := B10.all k16 Apart.none
 have B25 := B11.all k16 Apart.none
 have B26 := B12.all k16 Apart.none
 have B27 := B4.all k16 id
 have K28 := K13.tr k16
 refine wl_nil fun F29 hF30 => ?_
 have s31 : F29 28 = undef := (hF30 28).trans rfl
 have s32 : F29 1 = pt p1 0 := (hF30 1).trans rfl
 have s33 : F29 2 = pt p14 0 := (hF30 2).trans rfl
 clear hF30
 refine then_normal (wq_seq (wq_seq (wq_region (wl_v (.agg #[iv (f.W), iv (f.H), f0, f1, f2]) rfl rfl (y_load_stc stcT_frame rfl s32 B27 rr) (wl_cs rfl rfl rfl rfl rfl (fun _ _ => by kernel_rfl) (vsC rfl vsN) (pl_check f f0 f1 f2 T_f0 T_f1 T_f2 _  B24 B25 B26 ) fun w34 k35 => ?_)))))
 have B36 := B24.all k35 Apart.none
 have B37 := B25.all k35 Apart.none
 have B38 := B26.all k35 Apart.none
 have B39 := B27.all k35 id
 have B40 := B17.all k35 id
 have K41 := K28.tr k35
 refine wl_v (.bool (decide ((checkE f) ≠ 0))) rfl rfl (y_neqI rfl rfl rfl rfl rr) (wl_nil fun F42 hF43 => ?_)
 obtain ⟨s44, s45, s46⟩ := t3 hF43 28 s31 1 s32 2 s33
 have s47 : F42 7 = .bool (decide ((checkE f) ≠ 0)) := (hF43 7).trans rfl
 clear hF43
 refine then_normal ?_
 refine wq_cond s47 (fun c48 => ?_) (fun c48 => ?_)
 ·replace c48 := of_decide_eq_true c48
  refine wq_seq ?_
  have hno : ¬ okF f := fun h => absurd ((checkE_iff f).2 h) (by assumption)
  refine wq_region (wl_v (.agg #[iv 0, iv 0, .slice none 0 0, .slice none 0 0, .slice none 0 0]) rfl rfl (y_buildL (l' := []) (cells := #[iv 0, iv 0, .slice none 0 0, .slice none 0 0, .slice none 0 0]) rfl bpN (by kernel_rfl) rfl rr) (wl_store_stc (us := [iv 0, iv 0, .slice none 0 0, .slice none 0 0, .slice none 0 0]) stcT_frame rfl rfl rfl s46 rfl B40 rfl (oneI rfl (oneI rfl (oneI rfl (oneI rfl (oneI rfl oneN))))) fun w49 B50 k51 => ?_))
  have K56 := K41.trans k51 (Grew.ok (S := fun _ => False) gr19 noB_le)
  refine wl_nil fun F57 hF58 => ?_
  obtain ⟨s59, s60⟩ := t2 hF58 28 s44 2 s46
  clear hF58
  refine then_normal (wq_ret (then_ret ?_))
  exact end_stc (vs := [iv 0, iv 0, .slice none 0 0, .slice none 0 0, .slice none 0 0]) stcT_frame s59 rfl rfl s60 B50 ⟨(.slice none 0 0), noB, (.slice none 0 0), noB, (.slice none 0 0), noB, (by first | rw [copyF_yes hok, (new_side 0 hok.1 hok.2.1).1, (new_side 0 hok.1 hok.2.1).2] | rw [copyF_no hno]; rfl), K56, ⟨(by first | (rw [copyF_yes hok]; exact (Owb.nil _)) | (rw [copyF_no hno]; exact (Owb.nil _))), (Grew.refl _ _)⟩, ⟨(by first | (rw [copyF_yes hok]; exact (Owb.nil _)) | (rw [copyF_no hno]; exact (Owb.nil _))), (Grew.refl _ _)⟩, ⟨(by first | (rw [copyF_yes hok]; exact (Owb.nil _)) | (rw [copyF_no hno]; exact (Owb.nil _))), (Grew.refl _ _)⟩, Apart.none, Apart.none, Apart.none⟩
 ·replace c48 := of_decide_eq_false c48
  refine wq_skip (then_normal (wq_seq ?_))
  have hok := (checkE_iff f).1 (by first | assumption | (apply Decidable.byContradiction; assumption))
  have hmost := ok_lens hok
  have hnl := blank_lens hok
  refine wq_region (wl_v (pt p1 0) rfl rfl (y_fieldR (n := 1) rfl s45 Tryz.underlying29 rfl (by kernel_rfl) (by decide) rfl rr) (wl_v (iv (f.W)) rfl rfl (y_ld_stc rfl rfl Tryz.underlying3 B39 rfl rfl rr) (wl_v (pt p1 1) rfl rfl (y_fieldR (n := 1) rfl s45 Tryz.underlying29 rfl (by kernel_rfl) (by decide) rfl rr) (wl_v (iv (f.H)) rfl rfl (y_ld_stc rfl rfl Tryz.underlying3 B39 rfl rfl rr) (wl_call (R := fun v_ w_ => ∃ (v61 : Value) (T66 : Nat → Prop) (v62 : Value) (T67 : Nat → Prop) (v63 : Value) (T68 : Nat → Prop), .agg #[iv ((newF (f.W) (f.H) 0).W), iv ((newF (f.W) (f.H) 0).H), v61, v62, v63] = v_ ∧ Kept (fun _ => False) w34 w_ ∧ (Owb w_ T66 v61 ((newF (f.W) (f.H) 0).p0) ∧ Grew w34 noB T66) ∧ (Owb w_ T67 v62 ((newF (f.W) (f.H) 0).p1) ∧ Grew w34 noB T67) ∧ (Owb w_ T68 v63 ((newF (f.W) (f.H) 0).p2) ∧ Grew w34 noB T68) ∧ Apart T66 T67 ∧ Apart T66 T68 ∧ Apart T67 T68) rfl rfl (y_cs rfl rfl rfl (fun _ _ => by kernel_rfl) (ev_func _) (vsC rfl (vsC rfl vsN)) (ps_blank (f.W) (f.H)  _ hok.1 hok.2.1  ) (fun e_ w_ h_ => by obtain ⟨v61_, T66_, v62_, T67_, v63_, T68_, he_, hr_⟩ := h_; exact ⟨_, he_, v61_, T66_, v62_, T67_, v63_, T68_, rfl, hr_⟩)) ?_)))))
  rintro _ w64 ⟨v61, T66, v62, T67, v63, T68, rfl, k65, ⟨B69, g72⟩, ⟨B70, g73⟩, ⟨B71, g74⟩, ap75, ap76, ap77⟩
  have B78 := B36.all k65 Apart.none
  have B79 := B37.all k65 Apart.none
  have B80 := B38.all k65 Apart.none
  have B81 := B39.all k65 id
  have B82 := B40.all k65 id
  have K83 := K41.tr k65
  have gr84 : Grew w0 noB T66 := Grew.new K41 g72
  have ap86 : Apart T66 T_f1 := Apart.new g72 B37.live
  have ap87 : Apart T66 T_f2 := Apart.new g72 B38.live
  have ap88 : Apart T66 (onB p1) := Apart.new g72 (onB_live B39.lt)
  have ap89 : Apart T66 (onB p14) := Apart.new g72 (onB_live B40.lt)
  have gr90 : Grew w0 noB T67 := Grew.new K41 g73
  have ap93 : Apart T67 T_f2 := Apart.new g73 B38.live
  have ap94 : Apart T67 (onB p1) := Apart.new g73 (onB_live B39.lt)
  have ap95 : Apart T67 (onB p14) := Apart.new g73 (onB_live B40.lt)
  have gr96 : Grew w0 noB T68 := Grew.new K41 g74
  have ap101 : Apart T68 (onB p14) := Apart.new g74 (onB_live B40.lt)
  refine wl_alloc_stc (n := 5) (vs := [iv 0, iv 0, .slice none 0 0, .slice none 0 0, .slice none 0 0]) rfl rfl rfl (by kernel_rfl) fun p102 w103 B105 g106 k104 => ?_
  have gr107 : Grew w0 noB (onB p102) := Grew.new K83 g106
  have ap108 : Apart (onB p102) T_f0 := Apart.new g106 B78.live
  have ap109 : Apart (onB p102) T_f1 := Apart.new g106 B79.live
  have ap110 : Apart (onB p102) T_f2 := Apart.new g106 B80.live
  have ap111 : Apart (onB p102) (onB p1) := Apart.new g106 (onB_live B81.lt)
  have ap112 : Apart (onB p102) (onB p14) := Apart.new g106 (onB_live B82.lt)
  have ap113 : Apart (onB p102) T66 := Apart.new g106 B69.live
  have ap114 : Apart (onB p102) T67 := Apart.new g106 B70.live
  have ap115 : Apart (onB p102) T68 := Apart.new g106 B71.live
  have B116 := B78.all k104 Apart.none
  have B117 := B79.all k104 Apart.none
  have B118 := B80.all k104 Apart.none
  have B119 := B81.all k104 id
  have B120 := B82.all k104 id
  have B121 := B69.all k104 Apart.none
  have B122 := B70.all k104 Apart.none
  have B123 := B71.all k104 Apart.none
  have K124 := K83.tr k104
  refine wl_store_stc (us := [iv ((newF (f.W) (f.H) 0).W), iv ((newF (f.W) (f.H) 0).H), v61, v62, v63]) stcT_frame rfl rfl rfl rfl rfl B105 rfl (oneI rfl (oneI rfl (oneI B121.one (oneI B122.one (oneI B123.one oneN))))) fun w125 B126 k127 => ?_
  have B128 := B116.all k127 ap108.symm
  have B129 := B117.all k127 ap109.symm
  have B130 := B118.all k127 ap110.symm
  have B131 := B119.all k127 (ap111.symm p1 rfl)
  have B132 := B120.all k127 (ap112.symm p14 rfl)
  have B133 := B121.all k127 ap113.symm
  have B134 := B122.all k127 ap114.symm
  have B135 := B123.all k127 ap115.symm
  have K136 := K124.trans k127 (Grew.ok (S := fun _ => False) gr107 noB_le)
  refine wl_nil fun F137 hF138 => ?_
  obtain ⟨s139, s140, s141⟩ := t3 hF138 28 s44 1 s45 2 s46
  have s142 : F137 3 = pt p102 0 := (hF138 3).trans rfl
  clear hF138
  refine then_normal (wq_seq (wq_seq (wq_region (wl_v (iv 0) rfl rfl (y_mov rfl rfl rr) (wl_nil fun F143 hF144 => ?_)))))
  obtain ⟨s145, s146, s147, s148⟩ := t4 hF144 28 s139 1 s140 2 s141 3 s142
  have s149 : F143 14 = iv 0 := (hF144 14).trans rfl
  clear hF144
  refine then_normal (wq_block (wq_rounds 4 (wqr_step (wq_seq (wq_region (wl_v (.bool true) rfl rfl (y_lss rfl s149 rfl rfl rr) (wl_nil fun F150 hF151 => ?_)))))))
  obtain ⟨s152, s153, s154, s155, s156⟩ := t5 hF151 28 s145 1 s146 2 s147 3 s148 14 s149
  have s157 : F150 15 = .bool true := (hF151 15).trans rfl
  clear hF151
  refine then_normal (wq_seq ?_)
  refine wq_cond (t := true) s157 (fun _ => ?_) (fun e => by cases e)
  refine wq_skip (then_normal (wq_seq (wq_block (wq_seq (wq_region (wl_mv rfl rfl rfl s156 (wl_v (iv 0) rfl rfl (y_asg rfl rfl rr) (wl_nil fun F158 hF159 => ?_))))))))
  obtain ⟨s160, s161, s162, s163, s164⟩ := t5 hF159 28 s152 1 s153 2 s154 3 s155 14 s156
  have s165 : F158 4 = iv 0 := (hF159 4).trans rfl
  clear hF159
  refine then_normal ?_
  refine wq_tail 8 [some 17, some 18, some 19, some 20, some 21, some 22, some 23, some 24] [Pd.eq (iv 0), Pd.eq (pt p102 2), Pd.eq (pt p102 2), Pd.eq v61, Pd.eq (iv 0), Pd.eq (pt p1 2), Pd.eq (pt p1 2), Pd.eq f0] (by kernel_rfl) (by kernel_rfl) (by kernel_rfl) ?_ ?_
  ·refine stepsF_cons ?_ ?_
   ·refine StepF.one rfl fun F_ w_ hR hout hD => ?_
    exact (y_mov rfl ((hout 4 rfl (by decide)).trans s165) ⟨rfl, Kept.refl _ _⟩)
   refine stepsF_cons ?_ ?_
   ·refine StepF.one rfl fun F_ w_ hR hout hD => ?_
    exact (y_fieldR (n := 3) rfl ((hout 3 rfl (by decide)).trans s163) Tryz.underlying29 rfl (by kernel_rfl) (by decide) rfl ⟨rfl, Kept.refl _ _⟩)
   refine stepsF_cons ?_ ?_
   ·refine StepF.one rfl fun F_ w_ hR hout hD => ?_
    have g18 : F_ 18 = pt p102 2 := (hD.get 0 rfl rfl rfl)
    have g17 : F_ 17 = iv 0 := (hD.get 1 rfl rfl rfl)
    exact (y_atR 0 (s := 1) rfl g18 g17 (by omega) Tryz.underlying27 (by omega) (by kernel_rfl) (by omega) ⟨rfl, Kept.refl _ _⟩)
   refine stepsF_cons ?_ ?_
   ·refine StepF.one rfl fun F_ w_ hR hout hD => ?_
    have g19 : F_ 19 = pt p102 2 := (hD.get 0 rfl rfl rfl)
    exact (y_ld_stc rfl g19 Tryz.underlying26 (B126.all hR id) rfl rfl ⟨rfl, Kept.refl _ _⟩)
   refine stepsF_cons ?_ ?_
   ·refine StepF.one rfl fun F_ w_ hR hout hD => ?_
    exact (y_mov rfl ((hout 4 rfl (by decide)).trans s165) ⟨rfl, Kept.refl _ _⟩)
   refine stepsF_cons ?_ ?_
   ·refine StepF.one rfl fun F_ w_ hR hout hD => ?_
    exact (y_fieldR (n := 3) rfl ((hout 1 rfl (by decide)).trans s161) Tryz.underlying29 rfl (by kernel_rfl) (by decide) rfl ⟨rfl, Kept.refl _ _⟩)
   refine stepsF_cons ?_ ?_
   ·refine StepF.one rfl fun F_ w_ hR hout hD => ?_
    have g22 : F_ 22 = pt p1 2 := (hD.get 0 rfl rfl rfl)
    have g21 : F_ 21 = iv 0 := (hD.get 1 rfl rfl rfl)
    exact (y_atR 0 (s := 1) rfl g22 g21 (by omega) Tryz.underlying27 (by omega) (by kernel_rfl) (by omega) ⟨rfl, Kept.refl _ _⟩)
   refine stepsF_cons ?_ ?_
   ·refine StepF.one rfl fun F_ w_ hR hout hD => ?_
    have g23 : F_ 23 = pt p1 2 := (hD.get 0 rfl rfl rfl)
    exact (y_ld_stc rfl g23 Tryz.underlying26 (B131.all hR id) rfl rfl ⟨rfl, Kept.refl _ _⟩)
   exact stepsF_nil
  intro v166 F167 w168 k169 G170 hF171
  have B173 := B128.all k169 Apart.none
  have B174 := B129.all k169 Apart.none
  have B175 := B130.all k169 Apart.none
  have B176 := B131.all k169 id
  have B177 := B132.all k169 id
  have B178 := B133.all k169 Apart.none
  have B179 := B134.all k169 Apart.none
  have B180 := B135.all k169 Apart.none
  have B181 := B126.all k169 id
  have K182 := K136.tr k169
  obtain ⟨s183, s184, s185, s186, s187⟩ := t5 hF171 28 s160 1 s161 2 s162 3 s163 14 s164
  have s188 : F167 20 = v61 := (hF171 20).trans (G170 3 (by decide))
  have s189 : F167 24 = f0 := (hF171 24).trans (G170 7 (by decide))
  clear G170 hF171
  refine wl_copyB rfl rfl rfl rfl s188 s189 B178 B173 (by first | exact hnl.1 | exact hnl.2.1 | exact hnl.2.2) fun w191 B193 k192 => ?_
  have B197 := B174.all k192 ap86.symm
  have B198 := B175.all k192 ap87.symm
  have B199 := B176.all k192 (ap88.symm p1 rfl)
  have B200 := B177.all k192 (ap89.symm p14 rfl)
  have B201 := B179.all k192 ap75.symm
  have B202 := B180.all k192 ap76.symm
  have B203 := B181.all k192 (ap113 p102 rfl)
  have K204 := K182.trans k192 (Grew.ok (S := fun _ => False) gr84 noB_le)
  refine wl_nil fun F205 hF206 => ?_
  obtain ⟨s207, s208, s209, s210, s211⟩ := t5 hF206 28 s183 1 s184 2 s185 3 s186 14 s187
  clear hF206
  refine in_normal (then_normal (wq_region (wl_v (iv ((1 : Nat) : Int)) rfl rfl (y_add rfl s211 rfl (i64_n (by omega) (by omega)) rr) (wl_v (iv ((1 : Nat) : Int)) rfl rfl (y_mov rfl rfl rr) (wl_nil fun F212 hF213 => ?_)))))
  obtain ⟨s214, s215, s216, s217⟩ := t4 hF213 28 s207 1 s208 2 s209 3 s210
  have s218 : F212 14 = iv ((1 : Nat) : Int) := (hF213 14).trans rfl
  clear hF213
  refine then_normal (wqr_step (wq_seq (wq_region (wl_v (.bool true) rfl rfl (y_lss rfl s218 rfl rfl rr) (wl_nil fun F219 hF220 => ?_)))))
  obtain ⟨s221, s222, s223, s224, s225⟩ := t5 hF220 28 s214 1 s215 2 s216 3 s217 14 s218
  have s226 : F219 15 = .bool true := (hF220 15).trans rfl
  clear hF220
  refine then_normal (wq_seq ?_)
  refine wq_cond (t := true) s226 (fun _ => ?_) (fun e => by cases e)
  refine wq_skip (then_normal (wq_seq (wq_block (wq_seq (wq_region (wl_mv rfl rfl rfl s225 (wl_v (iv ((1 : Nat) : Int)) rfl rfl (y_asg rfl rfl rr) (wl_nil fun F227 hF228 => ?_))))))))
  obtain ⟨s229, s230, s231, s232, s233⟩ := t5 hF228 28 s221 1 s222 2 s223 3 s224 14 s225
  have s234 : F227 4 = iv ((1 : Nat) : Int) := (hF228 4).trans rfl
  clear hF228
  refine then_normal ?_
  refine wq_tail 8 [some 17, some 18, some 19, some 20, some 21, some 22, some 23, some 24] [Pd.eq (iv ((1 : Nat) : Int)), Pd.eq (pt p102 2), Pd.eq (pt p102 3), Pd.eq v62, Pd.eq (iv ((1 : Nat) : Int)), Pd.eq (pt p1 2), Pd.eq (pt p1 3), Pd.eq f1] (by kernel_rfl) (by kernel_rfl) (by kernel_rfl) ?_ ?_
  ·refine stepsF_cons ?_ ?_
   ·refine StepF.one rfl fun F_ w_ hR hout hD => ?_
    exact (y_mov rfl ((hout 4 rfl (by decide)).trans s234) ⟨rfl, Kept.refl _ _⟩)
   refine stepsF_cons ?_ ?_
   ·refine StepF.one rfl fun F_ w_ hR hout hD => ?_
    exact (y_fieldR (n := 3) rfl ((hout 3 rfl (by decide)).trans s232) Tryz.underlying29 rfl (by kernel_rfl) (by decide) rfl ⟨rfl, Kept.refl _ _⟩)
   refine stepsF_cons ?_ ?_
   ·refine StepF.one rfl fun F_ w_ hR hout hD => ?_
    have g18 : F_ 18 = pt p102 2 := (hD.get 0 rfl rfl rfl)
    have g17 : F_ 17 = iv ((1 : Nat) : Int) := (hD.get 1 rfl rfl rfl)
    exact (y_atR 1 (s := 1) rfl g18 g17 (by omega) Tryz.underlying27 (by omega) (by kernel_rfl) (by omega) ⟨rfl, Kept.refl _ _⟩)
   refine stepsF_cons ?_ ?_
   ·refine StepF.one rfl fun F_ w_ hR hout hD => ?_
    have g19 : F_ 19 = pt p102 3 := (hD.get 0 rfl rfl rfl)
    exact (y_ld_stc rfl g19 Tryz.underlying26 (B203.all hR id) rfl rfl ⟨rfl, Kept.refl _ _⟩)
   refine stepsF_cons ?_ ?_
   ·refine StepF.one rfl fun F_ w_ hR hout hD => ?_
    exact (y_mov rfl ((hout 4 rfl (by decide)).trans s234) ⟨rfl, Kept.refl _ _⟩)
   refine stepsF_cons ?_ ?_
   ·refine StepF.one rfl fun F_ w_ hR hout hD => ?_
    exact (y_fieldR (n := 3) rfl ((hout 1 rfl (by decide)).trans s230) Tryz.underlying29 rfl (by kernel_rfl) (by decide) rfl ⟨rfl, Kept.refl _ _⟩)
   refine stepsF_cons ?_ ?_
   ·refine StepF.one rfl fun F_ w_ hR hout hD => ?_
    have g22 : F_ 22 = pt p1 2 := (hD.get 0 rfl rfl rfl)
    have g21 : F_ 21 = iv ((1 : Nat) : Int) := (hD.get 1 rfl rfl rfl)
    exact (y_atR 1 (s := 1) rfl g22 g21 (by omega) Tryz.underlying27 (by omega) (by kernel_rfl) (by omega) ⟨rfl, Kept.refl _ _⟩)
   refine stepsF_cons ?_ ?_
   ·refine StepF.one rfl fun F_ w_ hR hout hD => ?_
    have g23 : F_ 23 = pt p1 3 := (hD.get 0 rfl rfl rfl)
    exact (y_ld_stc rfl g23 Tryz.underlying26 (B199.all hR id) rfl rfl ⟨rfl, Kept.refl _ _⟩)
   exact stepsF_nil
  intro v235 F236 w237 k238 G239 hF240
  have B243 := B197.all k238 Apart.none
  have B244 := B198.all k238 Apart.none
  have B245 := B199.all k238 id
  have B246 := B200.all k238 id
  have B247 := B193.all k238 Apart.none
  have B248 := B201.all k238 Apart.none
  have B249 := B202.all k238 Apart.none
  have B250 := B203.all k238 id
  have K251 := K204.tr k238
  obtain ⟨s252, s253, s254, s255, s256⟩ := t5 hF240 28 s229 1 s230 2 s231 3 s232 14 s233
  have s257 : F236 20 = v62 := (hF240 20).trans (G239 3 (by decide))
  have s258 : F236 24 = f1 := (hF240 24).trans (G239 7 (by decide))
  clear G239 hF240
  refine wl_copyB rfl rfl rfl rfl s257 s258 B248 B243 (by first | exact hnl.1 | exact hnl.2.1 | exact hnl.2.2) fun w260 B262 k261 => ?_
  have B267 := B244.all k261 ap93.symm
  have B268 := B245.all k261 (ap94.symm p1 rfl)
  have B269 := B246.all k261 (ap95.symm p14 rfl)
  have B270 := B247.all k261 ap75
  have B271 := B249.all k261 ap77.symm
  have B272 := B250.all k261 (ap114 p102 rfl)
  have K273 := K251.trans k261 (Grew.ok (S := fun _ => False) gr90 noB_le)
  refine wl_nil fun F274 hF275 => ?_
  obtain ⟨s276, s277, s278, s279, s280⟩ := t5 hF275 28 s252 1 s253 2 s254 3 s255 14 s256
  clear hF275
  refine in_normal (then_normal (wq_region (wl_v (iv ((2 : Nat) : Int)) rfl rfl (y_add rfl s280 rfl (i64_n (by omega) (by omega)) rr) (wl_v (iv ((2 : Nat) : Int)) rfl rfl (y_mov rfl rfl rr) (wl_nil fun F281 hF282 => ?_)))))
  obtain ⟨s283, s284, s285, s286⟩ := t4 hF282 28 s276 1 s277 2 s278 3 s279
  have s287 : F281 14 = iv ((2 : Nat) : Int) := (hF282 14).trans rfl
  clear hF282
  refine then_normal (wqr_step (wq_seq (wq_region (wl_v (.bool true) rfl rfl (y_lss rfl s287 rfl rfl rr) (wl_nil fun F288 hF289 => ?_)))))
  obtain ⟨s290, s291, s292, s293, s294⟩ := t5 hF289 28 s283 1 s284 2 s285 3 s286 14 s287
  have s295 : F288 15 = .bool true := (hF289 15).trans rfl
  clear hF289
  refine then_normal (wq_seq ?_)
  refine wq_cond (t := true) s295 (fun _ => ?_) (fun e => by cases e)
  refine wq_skip (then_normal (wq_seq (wq_block (wq_seq (wq_region (wl_mv rfl rfl rfl s294 (wl_v (iv ((2 : Nat) : Int)) rfl rfl (y_asg rfl rfl rr) (wl_nil fun F296 hF297 => ?_))))))))
  obtain ⟨s298, s299, s300, s301, s302⟩ := t5 hF297 28 s290 1 s291 2 s292 3 s293 14 s294
  have s303 : F296 4 = iv ((2 : Nat) : Int) := (hF297 4).trans rfl
  clear hF297
  refine then_normal ?_
  refine wq_tail 8 [some 17, some 18, some 19, some 20, some 21, some 22, some 23, some 24] [Pd.eq (iv ((2 : Nat) : Int)), Pd.eq (pt p102 2), Pd.eq (pt p102 4), Pd.eq v63, Pd.eq (iv ((2 : Nat) : Int)), Pd.eq (pt p1 2), Pd.eq (pt p1 4), Pd.eq f2] (by kernel_rfl) (by kernel_rfl) (by kernel_rfl) ?_ ?_
  ·refine stepsF_cons ?_ ?_
   ·refine StepF.one rfl fun F_ w_ hR hout hD => ?_
    exact (y_mov rfl ((hout 4 rfl (by decide)).trans s303) ⟨rfl, Kept.refl _ _⟩)
   refine stepsF_cons ?_ ?_
   ·refine StepF.one rfl fun F_ w_ hR hout hD => ?_
    exact (y_fieldR (n := 3) rfl ((hout 3 rfl (by decide)).trans s301) Tryz.underlying29 rfl (by kernel_rfl) (by decide) rfl ⟨rfl, Kept.refl _ _⟩)
   refine stepsF_cons ?_ ?_
   ·refine StepF.one rfl fun F_ w_ hR hout hD => ?_
    have g18 : F_ 18 = pt p102 2 := (hD.get 0 rfl rfl rfl)
    have g17 : F_ 17 = iv ((2 : Nat) : Int) := (hD.get 1 rfl rfl rfl)
    exact (y_atR 2 (s := 1) rfl g18 g17 (by omega) Tryz.underlying27 (by omega) (by kernel_rfl) (by omega) ⟨rfl, Kept.refl _ _⟩)
   refine stepsF_cons ?_ ?_
   ·refine StepF.one rfl fun F_ w_ hR hout hD => ?_
    have g19 : F_ 19 = pt p102 4 := (hD.get 0 rfl rfl rfl)
    exact (y_ld_stc rfl g19 Tryz.underlying26 (B272.all hR id) rfl rfl ⟨rfl, Kept.refl _ _⟩)
   refine stepsF_cons ?_ ?_
   ·refine StepF.one rfl fun F_ w_ hR hout hD => ?_
    exact (y_mov rfl ((hout 4 rfl (by decide)).trans s303) ⟨rfl, Kept.refl _ _⟩)
   refine stepsF_cons ?_ ?_
   ·refine StepF.one rfl fun F_ w_ hR hout hD => ?_
    exact (y_fieldR (n := 3) rfl ((hout 1 rfl (by decide)).trans s299) Tryz.underlying29 rfl (by kernel_rfl) (by decide) rfl ⟨rfl, Kept.refl _ _⟩)
   refine stepsF_cons ?_ ?_
   ·refine StepF.one rfl fun F_ w_ hR hout hD => ?_
    have g22 : F_ 22 = pt p1 2 := (hD.get 0 rfl rfl rfl)
    have g21 : F_ 21 = iv ((2 : Nat) : Int) := (hD.get 1 rfl rfl rfl)
    exact (y_atR 2 (s := 1) rfl g22 g21 (by omega) Tryz.underlying27 (by omega) (by kernel_rfl) (by omega) ⟨rfl, Kept.refl _ _⟩)
   refine stepsF_cons ?_ ?_
   ·refine StepF.one rfl fun F_ w_ hR hout hD => ?_
    have g23 : F_ 23 = pt p1 4 := (hD.get 0 rfl rfl rfl)
    exact (y_ld_stc rfl g23 Tryz.underlying26 (B268.all hR id) rfl rfl ⟨rfl, Kept.refl _ _⟩)
   exact stepsF_nil
  intro v304 F305 w306 k307 G308 hF309
  have B313 := B267.all k307 Apart.none
  have B315 := B269.all k307 id
  have B316 := B270.all k307 Apart.none
  have B317 := B262.all k307 Apart.none
  have B318 := B271.all k307 Apart.none
  have B319 := B272.all k307 id
  have K320 := K273.tr k307
  obtain ⟨s321, s323, s324, s325⟩ := t4 hF309 28 s298 2 s300 3 s301 14 s302
  have s326 : F305 20 = v63 := (hF309 20).trans (G308 3 (by decide))
  have s327 : F305 24 = f2 := (hF309 24).trans (G308 7 (by decide))
  clear G308 hF309
  refine wl_copyB rfl rfl rfl rfl s326 s327 B318 B313 (by first | exact hnl.1 | exact hnl.2.1 | exact hnl.2.2) fun w329 B331 k330 => ?_
  have B338 := B315.all k330 (ap101.symm p14 rfl)
  have B339 := B316.all k330 ap76
  have B340 := B317.all k330 ap77
  have B341 := B319.all k330 (ap115 p102 rfl)
  have K342 := K320.trans k330 (Grew.ok (S := fun _ => False) gr96 noB_le)
  refine wl_nil fun F343 hF344 => ?_
  obtain ⟨s345, s347, s348, s349⟩ := t4 hF344 28 s321 2 s323 3 s324 14 s325
  clear hF344
  refine in_normal (then_normal (wq_region (wl_v (iv ((3 : Nat) : Int)) rfl rfl (y_add rfl s349 rfl (i64_n (by omega) (by omega)) rr) (wl_v (iv ((3 : Nat) : Int)) rfl rfl (y_mov rfl rfl rr) (wl_nil fun F350 hF351 => ?_)))))
  obtain ⟨s352, s354, s355⟩ := t3 hF351 28 s345 2 s347 3 s348
  have s356 : F350 14 = iv ((3 : Nat) : Int) := (hF351 14).trans rfl
  clear hF351
  refine then_normal (wqr_step (wq_seq (wq_region (wl_v (.bool false) rfl rfl (y_lss rfl s356 rfl rfl rr) (wl_nil fun F357 hF358 => ?_)))))
  obtain ⟨s359, s361, s362⟩ := t3 hF358 28 s352 2 s354 3 s355
  have s364 : F357 15 = .bool false := (hF358 15).trans rfl
  clear hF358
  refine then_normal (wq_seq ?_)
  refine wq_cond (t := false) s364 (fun e => by cases e) (fun _ => ?_)
  refine wq_exit (then_exit (then_exit (in_here (then_normal (wq_seq (wq_region (wl_v (.agg #[iv ((newF (f.W) (f.H) 0).W), iv ((newF (f.W) (f.H) 0).H), v61, v62, v63]) rfl rfl (y_load_stc stcT_frame rfl s362 B341 rr) (wl_store_stc (us := [iv ((newF (f.W) (f.H) 0).W), iv ((newF (f.W) (f.H) 0).H), v61, v62, v63]) stcT_frame rfl rfl rfl s361 rfl B338 rfl (oneI rfl (oneI rfl (oneI B339.one (oneI B340.one (oneI B331.one oneN))))) fun w365 B366 k367 => ?_))))))))
  have B372 := B339.all k367 ap89
  have B373 := B340.all k367 ap95
  have B374 := B331.all k367 ap101
  have K376 := K342.trans k367 (Grew.ok (S := fun _ => False) gr19 noB_le)
  refine wl_nil fun F377 hF378 => ?_
  obtain ⟨s379, s380⟩ := t2 hF378 28 s359 2 s361
  clear hF378
  refine then_normal (wq_ret ?_)
  exact end_stc (vs := [iv ((newF (f.W) (f.H) 0).W), iv ((newF (f.W) (f.H) 0).H), v61, v62, v63]) stcT_frame s379 rfl rfl s380 B366 ⟨v61, T66, v62, T67, v63, T68, (by first | rw [copyF_yes hok, (new_side 0 hok.1 hok.2.1).1, (new_side 0 hok.1 hok.2.1).2] | rw [copyF_no hno]; rfl), K376, ⟨(by first | (rw [copyF_yes hok]; exact B372) | (rw [copyF_no hno]; exact B372)), gr84⟩, ⟨(by first | (rw [copyF_yes hok]; exact B373) | (rw [copyF_no hno]; exact B373)), gr90⟩, ⟨(by first | (rw [copyF_yes hok]; exact B374) | (rw [copyF_no hno]; exact B374)), gr96⟩, ap75, ap76, ap77⟩
end Go.Proofs.YtknjpdcpmpfklaaGreatDoor
set_option maxRecDepth 100000
namespace Go.Proofs.YtknjpdcpmpfklaaGreatDoor
open Go.RowKit
theorem retB {a b : Bool} (h : a = b) : Ending.returned (.bool a) = .returned (.bool b) := by rw [h]
def Ask1 (w : World) (n : Nat) (v : Value) (g : Nat → Int) : Prop :=
  ∃ (f : FuncId) (cs : List Value), v = .func (.func f) #[] cs.toArray ∧ (∀ args w, (callFunc f args).run Tryz.prog w = .ok (.enter f args) w) ∧
    ∀ w', Kept (fun _ => False) w w' → ∀ k : Nat, k < n → Calls Tryz.prog f (.int .i64 (k : Int) :: cs).toArray w' fun e w'' => e = .returned (.int .i64 (g k)) ∧ Kept (fun _ => False) w' w''
theorem Ask1.all {w w' : World} {n : Nat} {v : Value} {g : Nat → Int} (h : Ask1 w n v g) (k : Kept (fun _ => False) w w') : Ask1 w' n v g := by
  obtain ⟨f, cs, e, hf, h⟩ := h
  exact ⟨f, cs, e, hf, fun w2 k2 => h w2 (k.trans k2 (fun _ _ x => x))⟩
def Ask2 (w : World) (n : Nat) (v : Value) (g : Nat → Nat → Int) : Prop :=
  ∃ (f : FuncId) (cs : List Value), v = .func (.func f) #[] cs.toArray ∧ (∀ args w, (callFunc f args).run Tryz.prog w = .ok (.enter f args) w) ∧
    ∀ w', Kept (fun _ => False) w w' → ∀ i k : Nat, i < n → k < n → Calls Tryz.prog f (.int .i64 (i : Int) :: .int .i64 (k : Int) :: cs).toArray w' fun e w'' => e = .returned (.int .i64 (g i k)) ∧ Kept (fun _ => False) w' w''
theorem Ask2.all {w w' : World} {n : Nat} {v : Value} {g : Nat → Nat → Int} (h : Ask2 w n v g) (k : Kept (fun _ => False) w w') : Ask2 w' n v g := by
  obtain ⟨f, cs, e, hf, h⟩ := h
  exact ⟨f, cs, e, hf, fun w2 k2 => h w2 (k.trans k2 (fun _ _ x => x))⟩
def Pd.ask2 (n : Nat) (g : Nat → Nat → Int) : Pd := ⟨fun v w => Ask2 w n v g, fun _ _ _ h k => h.all k⟩
section
variable {ρ : Operand → Value} {o : Oper} {w : World} {R : Value → World → Prop}
theorem y_fnc {P : Program} {f : FuncId} {xs : List Operand} {vs : List Value} (ho : o.op = .makeFunc (.func f) #[] xs.toArray) (hx : xs.map ρ = vs) (h : R (.func (.func f) #[] vs.toArray) w) : Yields P ρ o w R := by
  subst hx
  exact y_of (v := .func (.func f) #[] (xs.map ρ).toArray) (w' := w) (by simp [execOp, ho, show ∀ cap, (Instr.makeFunc (.func f) #[] cap).run P w = .ok (.func (.func f) #[] cap) w from fun _ => rfl]) h
theorem y_ask1 {c : Call} {cx x : Operand} {v : Value} {n k : Nat} {g : Nat → Int} (ho : o.op = .call c) (hc : c.callee = .value cx) (hcx : ρ cx = v) (hx : c.args = #[x]) (hv : ρ x = .int .i64 (k : Int)) (ha : Ask1 w n v g) (hk : k < n)
    (hS : ∀ (e : Ending) w', (e = .returned (.int .i64 (g k)) ∧ Kept (fun _ => False) w w') → ∃ v, e = .returned v ∧ R v w') : Yields Tryz.prog ρ o w R := by
  obtain ⟨f, cs, rfl, hf, h⟩ := ha
  obtain ⟨cl, ag, ts⟩ := c
  simp only at hc hx
  subst hc; subst hx
  unfold Yields
  have e : (execOp ρ o).run Tryz.prog w = .ok (.enter f (.int .i64 (k : Int) :: cs).toArray) w := by simp [execOp, ho, resolve, hcx, hv, Deferred.ofValue, invoke, hf]
  rw [e]
  exact (h w (Kept.refl _ _) k hk).mono hS
theorem y_ask2 {c : Call} {cx x y : Operand} {v : Value} {n i k : Nat} {g : Nat → Nat → Int} (ho : o.op = .call c) (hc : c.callee = .value cx) (hcx : ρ cx = v) (hx : c.args = #[x, y]) (hv : ρ x = .int .i64 (i : Int)) (hv2 : ρ y = .int .i64 (k : Int)) (ha : Ask2 w n v g) (hi : i < n) (hk : k < n)
    (hS : ∀ (e : Ending) w', (e = .returned (.int .i64 (g i k)) ∧ Kept (fun _ => False) w w') → ∃ v, e = .returned v ∧ R v w') : Yields Tryz.prog ρ o w R := by
  obtain ⟨f, cs, rfl, hf, h⟩ := ha
  obtain ⟨cl, ag, ts⟩ := c
  simp only at hc hx
  subst hc; subst hx
  unfold Yields
  have e : (execOp ρ o).run Tryz.prog w = .ok (.enter f (.int .i64 (i : Int) :: .int .i64 (k : Int) :: cs).toArray) w := by simp [execOp, ho, resolve, hcx, hv, hv2, Deferred.ofValue, invoke, hf]
  rw [e]
  exact (h w (Kept.refl _ _) i k hi hk).mono hS
theorem y_lookA {t : TypeId} {x y : Operand} {k : IntKind} {n : Nat} (j : Nat) {a : Nat → Int} {r : Int} (ht : ArrT t n) (ho : o.op = .index t x y) (hx : ρ x = .agg (arrL n a).toArray) (hy : ρ y = .int k (j : Int)) (hj : j < n) (hr : a j = r) (h : R (.int .i64 r) w) : Yields Tryz.prog ρ o w R := by
  subst hr
  have h1 : (arrL n a).toArray[j]? = some (.int .i64 (a j)) := by rw [List.getElem?_toArray]; exact arrL_at hj
  cases hq : Tryz.prog.info? 3 with
  | none => have := Tryz.size_int; simp [hq] at this
  | some i =>
    have hs' : i.size = 1 := by have := Tryz.size_int; simpa [hq] using this
    have hp : (part 3 (arrL n a).toArray j).run Tryz.prog w = .ok (.int .i64 (a j)) w := by simp [part, isAgg, run_underlying Tryz.underlying3, h1]
    have h2 : (j : Int) < (n : Int) := by omega
    exact y_of (v := .int .i64 (a j)) (w' := w) (by simp [execOp, ho, hx, hy, Instr.index, run_underlying ht.1, asIntOf, sizeOf, typeInfo, hq, hs', hj, hp]) h
theorem end_arr {N n : Nat} {F : Nat → Value} {fn : Func} {p : Tmp} {ty t : TypeId} {q : Nat} {b : Nat → Int} {R : Ending → World → Prop} (hT : ArrT ty n) (hm : F N = undef) (ht : Nat.blt p N = true) (h : fn.results = #[.cell p ty]) (hp : F p = .pointer (some ⟨q, 0, none⟩)) (hB : Arr w q t n b) (hR : R (.returned (.agg (arrL n b).toArray)) w) : endP Tryz.prog fn N R .ret F w :=
  ⟨hm, fun a ha => ⟨_, results_cell h _ _ q (by rw [ha.at' p ht]; exact hp) _ t (0, 0) _ hB hT.1 rfl (hT.size b), hR⟩⟩
def Pd.cel (n : Nat) (t : TypeId) (v : Value) : Pd := ⟨fun u w => ∃ p, u = .pointer (some ⟨p, 0, none⟩) ∧ n ≤ p ∧ Cel w p t v, fun _ _ _ ⟨p, e, hn, h⟩ k => ⟨p, e, hn, h.all k id⟩⟩
theorem y_alloc_cel {P : Program} {t : TypeId} {v : Value} (ho : o.op = .alloc t) (hi : (P.info? t).map (fun i => (i.zero, i.size)) = some (some v, 1)) (hv : oneC v = true) (h : R (.pointer (some ⟨w.heap.size, 0, none⟩)) (w.alloc (.cells #[v] t))) : Yields P ρ o w R :=
  y_of (v := .pointer (some ⟨w.heap.size, 0, none⟩)) (w' := w.alloc (.cells #[v] t)) (by simp [execOp, ho, (zero_of_info hi).1, go_sem]; cases v <;> first | rfl | (simp [oneC] at hv; done)) h
end
end Go.Proofs.YtknjpdcpmpfklaaGreatDoor
