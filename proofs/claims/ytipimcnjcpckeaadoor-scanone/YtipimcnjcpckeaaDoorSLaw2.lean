/- The walks of the laws of layer 6: readings, and a block of one level. -/
import Derived.Test.YtipimcnjcpckeaaDoorSLaws
namespace Go.Proofs.YtipimcnjcpckeaaDoor
open Go.RowKit
theorem mod_nat6 (q n : Nat) : Int.tmod (q : Int) (n : Int) = ((q % n : Nat) : Int) := by rw [Int.tmod_eq_emod_of_nonneg (by omega)]; rfl
theorem diff_same (a : Nat → Int) : (!sameB a a) = false := by rw [sameB_self]; rfl

set_option maxHeartbeats 4000000 in
set_option maxRecDepth 100000 in
theorem sreads_walk (v : Value) (l : List Nat) (n : Nat) (T_b : Nat → Prop) (w0 : World) (hO : ScanIn w0) (hn : n < 256) (h_b : Byt w0 T_b v (l)) :
    Calls Tryd.prog 4 #[v, .int .u8 (((n : Nat) : Int))] w0 fun e w' => e = .returned (.bool true) ∧ Kept (fun _ => False) w0 w' := by
  refine calls_wq (args := [v, .int .u8 (((n : Nat) : Int))]) 60 Tryd.func4 rfl rfl (Nat.le_of_ble_eq_true rfl) ?_
  have K0 := Kept.refl (fun _ => False) w0
  have g_b := Grew.refl w0 T_b
  refine wq_seq ?_
  refine wq_region ?_
  refine wl_v (.bool false) rfl rfl (y_asg rfl rfl ⟨rfl, rfl⟩) ?_
  refine wl_nil fun F1 hF2 => ?_
  have s3 : F1 0 = v := (hF2 0).trans rfl
  have s4 : F1 1 = .int .u8 (((n : Nat) : Int)) := (hF2 1).trans rfl
  have s5 : F1 60 = undef := (hF2 60).trans rfl
  clear hF2
  refine then_normal ?_
  refine wq_seq ?_
  refine wq_region ?_
  refine wl_call (R := fun v_ w_ => v_ = .bool true ∧ Kept (fun _ => False) w0 w_) rfl rfl (y_cs rfl rfl rfl (fun _ _ => by kernel_rfl) (ev_func _) vsN (sawake_any   _ (hO.all K0)  ) (fun e_ w_ h_ => ⟨_, h_.1, rfl, h_.2⟩)) ?_
  rintro _ w6 ⟨rfl, k7⟩
  have B8 := h_b.all k7 Apart.none
  have K9 := K0.trans k7 (fun _ _ x => x.elim)
  refine wl_v (.bool true) rfl rfl (y_asg rfl rfl ⟨rfl, rfl⟩) ?_
  refine wl_nil fun F10 hF11 => ?_
  have s12 : F10 0 = v := (hF11 0).trans s3
  have s13 : F10 1 = .int .u8 (((n : Nat) : Int)) := (hF11 1).trans s4
  have s14 : F10 60 = undef := (hF11 60).trans s5
  have s15 : F10 5 = .bool true := (hF11 5).trans rfl
  clear hF11
  refine then_normal ?_
  refine wq_seq ?_
  refine wq_seq ?_
  refine wq_region ?_
  refine wl_v (v) rfl rfl (y_mov rfl s12 ⟨rfl, rfl⟩) ?_
  refine wl_v (.int .i64 ((((l).length : Nat) : Int))) rfl rfl (y_lenV rfl rfl rfl B8 ⟨rfl, rfl⟩) ?_
  refine wl_v (.bool (decide ((300) < ((((l).length : Nat) : Int))))) rfl rfl (y_gtr rfl rfl rfl rfl ⟨rfl, rfl⟩) ?_
  refine wl_nil fun F16 hF17 => ?_
  have s18 : F16 0 = v := (hF17 0).trans s12
  have s19 : F16 1 = .int .u8 (((n : Nat) : Int)) := (hF17 1).trans s13
  have s20 : F16 60 = undef := (hF17 60).trans s14
  have s21 : F16 5 = .bool true := (hF17 5).trans s15
  have s22 : F16 16 = .bool (decide ((300) < ((((l).length : Nat) : Int)))) := (hF17 16).trans rfl
  clear hF17
  refine then_normal ?_
  refine wq_cond s22 (fun c23 => ?_) (fun c23 => ?_)
  · replace c23 := of_decide_eq_true c23
    refine wq_seq ?_
    refine wq_region ?_
    refine wl_v (.bool true) rfl rfl (y_mov rfl s21 ⟨rfl, rfl⟩) ?_
    refine wl_v (.bool true) rfl rfl (y_asg rfl rfl ⟨rfl, rfl⟩) ?_
    refine wl_nil fun F24 hF25 => ?_
    have s26 : F24 60 = undef := (hF25 60).trans s20
    have s27 : F24 4 = .bool true := (hF25 4).trans rfl
    clear hF25
    refine then_normal ?_
    refine wq_ret ?_
    refine then_ret ?_
    exact end_tmp (v := .bool true) s26 rfl rfl s27 ⟨rfl, K9⟩
  · replace c23 := of_decide_eq_false c23
    refine wq_skip ?_
    refine then_normal ?_
    refine wq_seq ?_
    refine wq_region ?_
    refine wl_v (v) rfl rfl (y_mov rfl s18 ⟨rfl, rfl⟩) ?_
    refine wl_call (R := fun v_ w_ => ∃ (v28 : Nat) (T31 : Nat → Prop), .pointer (some ⟨v28, 0, none⟩) = v_ ∧ Kept (fun _ => False) w6 w_ ∧ (Rdi w_ T31 v28 ((l)) (some 0) ∧ Grew w6 noB T31)) rfl rfl (y_cs rfl rfl rfl (fun _ _ => by kernel_rfl) (ev_func _) (vsC rfl vsN) (t_new (v) (l) (T_b) _ (by omega) B8 ) (fun e_ w_ h_ => by obtain ⟨v28_, T31_, he_, hr_⟩ := h_; exact ⟨_, he_, v28_, T31_, rfl, hr_⟩)) ?_
    rintro _ w29 ⟨v28, T31, rfl, k30, ⟨B32, g33⟩⟩
    have B34 := B8.all k30 Apart.none
    have K35 := K9.trans k30 (fun _ _ x => x.elim)
    have gr36 : Grew w0 noB (T31) := Grew.new K9 g33
    have ap37 : Apart (T31) (T_b) := Apart.new g33 (B8).live
    refine wl_v (.pointer (some ⟨v28, 0, none⟩)) rfl rfl (y_asg rfl rfl ⟨rfl, rfl⟩) ?_
    refine wl_nil fun F38 hF39 => ?_
    have s40 : F38 0 = v := (hF39 0).trans s18
    have s41 : F38 1 = .int .u8 (((n : Nat) : Int)) := (hF39 1).trans s19
    have s42 : F38 60 = undef := (hF39 60).trans s20
    have s43 : F38 5 = .bool true := (hF39 5).trans s21
    have s44 : F38 6 = .pointer (some ⟨v28, 0, none⟩) := (hF39 6).trans rfl
    clear hF39
    refine then_normal ?_
    refine wq_seq ?_
    refine wq_region ?_
    refine wl_v (v) rfl rfl (y_mov rfl s40 ⟨rfl, rfl⟩) ?_
    refine wl_call (R := fun v_ w_ => v_ = .string (strOf (bitsOf (l))) ∧ Kept (fun _ => False) w29 w_) rfl rfl (y_cs rfl rfl rfl (fun _ _ => by kernel_rfl) (ev_func _) (vsC rfl vsN) (t_refbits (v) (l) (T_b) _ (by omega) B34 ) (fun e_ w_ h_ => ⟨_, h_.1, rfl, h_.2⟩)) ?_
    rintro _ w45 ⟨rfl, k46⟩
    have B47 := B34.all k46 Apart.none
    have B48 := B32.all k46 Apart.none
    have K49 := K35.trans k46 (fun _ _ x => x.elim)
    refine wl_v (.agg #[.string (strOf (bitsOf (l))), .int .i64 0, .bool false]) rfl rfl (y_buildL (l' := [(0, .string (strOf (bitsOf (l))))]) (cells := #[.string (strOf (bitsOf (l))), .int .i64 0, .bool false]) rfl (bpC rfl bpN) (by kernel_rfl) rfl ⟨rfl, rfl⟩) ?_
    refine wl_box_rfi (l := l) rfl rfl rfl rfl (h_b.1.fair (by omega)) (by omega) fun p50 w51 T55 B54 g56 k52 => ?_
    have gr57 : Grew w0 noB (T55) := Grew.new K49 g56
    have ap58 : Apart (T55) (T_b) := Apart.new g56 (B47).live
    have ap59 : Apart (T55) (T31) := Apart.new g56 (B48).live
    have B60 := B47.all k52 Apart.none
    have B61 := B48.all k52 Apart.none
    have K62 := K49.trans k52 (fun _ _ x => x.elim)
    refine wl_v (.pointer (some ⟨p50, 0, none⟩)) rfl rfl (y_asg rfl rfl ⟨rfl, rfl⟩) ?_
    refine wl_nil fun F63 hF64 => ?_
    have s65 : F63 1 = .int .u8 (((n : Nat) : Int)) := (hF64 1).trans s41
    have s66 : F63 60 = undef := (hF64 60).trans s42
    have s67 : F63 5 = .bool true := (hF64 5).trans s43
    have s68 : F63 6 = .pointer (some ⟨v28, 0, none⟩) := (hF64 6).trans s44
    have s69 : F63 7 = .pointer (some ⟨p50, 0, none⟩) := (hF64 7).trans rfl
    clear hF64
    refine then_normal ?_
    refine wq_seq ?_
    refine wq_seq ?_
    refine wq_region ?_
    refine wl_v (.int .i64 (0)) rfl rfl (y_asg rfl rfl ⟨rfl, rfl⟩) ?_
    refine wl_nil fun F70 hF71 => ?_
    have s72 : F70 1 = .int .u8 (((n : Nat) : Int)) := (hF71 1).trans s65
    have s73 : F70 60 = undef := (hF71 60).trans s66
    have s74 : F70 5 = .bool true := (hF71 5).trans s67
    have s75 : F70 6 = .pointer (some ⟨v28, 0, none⟩) := (hF71 6).trans s68
    have s76 : F70 7 = .pointer (some ⟨p50, 0, none⟩) := (hF71 7).trans s69
    have s77 : F70 8 = .int .i64 (0) := (hF71 8).trans rfl
    clear hF71
    refine then_normal ?_
    refine wq_block ?_
    refine wq_loop (fun nn FF ww => ∃ (i : Nat), ∃ (s : Option Nat), ∃ (T78 : Nat → Prop), ∃ (T79 : Nat → Prop), i ≤ (n % 11) ∧ nn = (n % 11) - i ∧ FF 1 = .int .u8 (((n : Nat) : Int)) ∧ FF 5 = .bool true ∧ FF 6 = .pointer (some ⟨v28, 0, none⟩) ∧ FF 7 = .pointer (some ⟨p50, 0, none⟩) ∧ FF 60 = undef ∧ FF 8 = .int .i64 (((i : Nat) : Int)) ∧ Kept (fun _ => False) w0 ww ∧ Byt ww (T_b) v (l) ∧ Rdi ww (T78) v28 (l) (s) ∧ Rfi ww (T79) p50 (l) (s) ∧ Grew w0 (noB) T78 ∧ Grew w0 (noB) T79 ∧ Apart (T78) (T_b) ∧ Apart (T78) (T79) ∧ Apart (T79) (T_b)) ((n % 11) - (0)) ⟨0, some 0, T31, T55, by omega, rfl, s72, s74, s75, s76, s73, s77, K62, B60, B61, B54, gr36, gr57, ap37, (ap59).symm, ap58⟩ ?_
    rintro n83 F80 w81 ⟨i, s, T78, T79, i84, hn83, s85, s86, s87, s88, s89, s90, K82, B91, B92, B93, gr94, gr95, ap96, ap97, ap98⟩
    refine wq_seq ?_
    refine wq_seq ?_
    refine wq_region ?_
    refine wl_v (.int .i64 (((i : Nat) : Int))) rfl rfl (y_mov rfl s90 ⟨rfl, rfl⟩) ?_
    refine wl_v (.int .u8 (((n : Nat) : Int))) rfl rfl (y_mov rfl s85 ⟨rfl, rfl⟩) ?_
    refine wl_v (.int .i64 (((n : Nat) : Int))) rfl rfl (y_convR rfl rfl Tryd.underlying5 Tryd.underlying3 (i64_i rfl (by omega)) ⟨rfl, rfl⟩) ?_
    refine wl_v (.int .i64 ((((n % 11) : Nat) : Int))) rfl rfl (y_rem rfl rfl rfl (by first | decide | omega) (mod_nat6 n 11) ⟨rfl, rfl⟩) ?_
    refine wl_v (.bool (decide ((((i : Nat) : Int)) < ((((n % 11) : Nat) : Int))))) rfl rfl (y_lss rfl rfl rfl rfl ⟨rfl, rfl⟩) ?_
    refine wl_nil fun F99 hF100 => ?_
    have s101 : F99 1 = .int .u8 (((n : Nat) : Int)) := (hF100 1).trans s85
    have s102 : F99 5 = .bool true := (hF100 5).trans s86
    have s103 : F99 6 = .pointer (some ⟨v28, 0, none⟩) := (hF100 6).trans s87
    have s104 : F99 7 = .pointer (some ⟨p50, 0, none⟩) := (hF100 7).trans s88
    have s105 : F99 60 = undef := (hF100 60).trans s89
    have s106 : F99 8 = .int .i64 (((i : Nat) : Int)) := (hF100 8).trans s90
    have s107 : F99 28 = .bool (decide ((((i : Nat) : Int)) < ((((n % 11) : Nat) : Int)))) := (hF100 28).trans rfl
    clear hF100
    refine then_normal ?_
    refine wq_cond s107 (fun c108 => ?_) (fun c108 => ?_)
    · replace c108 := of_decide_eq_true c108
      refine wq_skip ?_
      refine then_normal ?_
      refine wq_seq ?_
      refine wq_block ?_
      refine wq_seq ?_
      refine wq_region ?_
      refine wl_v (.pointer (some ⟨v28, 0, none⟩)) rfl rfl (y_mov rfl s103 ⟨rfl, rfl⟩) ?_
      refine wl_call (R := fun v_ w_ => ∃ (T111 : Nat → Prop), .tuple #[blkV ((scanRd (l) (s)).1), .int .i64 ((scanRd (l) (s)).2.1)] = v_ ∧ Kept (T78) w81 w_ ∧ (Rdi w_ T111 v28 ((l)) (rdSt (l) (s)) ∧ Grew w81 (T78) T111)) rfl rfl (y_cs rfl rfl rfl (fun _ _ => by kernel_rfl) (ev_func _) (vsC rfl vsN) (scan_read (v28) (l) (s) (T78) _ (hO.all K82) (above gr94 hO) B92 ) (fun e_ w_ h_ => by obtain ⟨T111_, he_, hr_⟩ := h_; exact ⟨_, he_, T111_, rfl, hr_⟩)) ?_
      rintro _ w109 ⟨T111, rfl, k110, ⟨B112, g113⟩⟩
      have B114 := B91.all k110 (fun i h x => (((ap96).symm) i h x))
      have B115 := B93.all k110 (fun i h x => (((ap97).symm) i h x))
      have K116 := K82.trans k110 (fun i hi x => ((Grew.ok (S := fun _ => False) gr94 noB_le) i hi x))
      have gr117 := gr94.trans K82 g113
      have ap118 : Apart T111 (T_b) := (ap96).grew g113 (B91).live
      have ap119 : Apart T111 (T79) := (ap97).grew g113 (B93).live
      refine wl_v (.tuple #[blkV ((scanRd (l) (s)).1), .int .i64 ((scanRd (l) (s)).2.1)]) rfl rfl (y_mov rfl rfl ⟨rfl, rfl⟩) ?_
      refine wl_v (blkV ((scanRd (l) (s)).1)) rfl rfl (y_ext rfl rfl rfl ⟨rfl, rfl⟩) ?_
      refine wl_v (.int .i64 ((scanRd (l) (s)).2.1)) rfl rfl (y_ext rfl rfl rfl ⟨rfl, rfl⟩) ?_
      refine wl_alloc_blk rfl rfl rfl blkT_block.2.2 fun p120 w121 e124 B122 k123 => ?_
      have g125 := onB_new (Nat.le_of_eq e124.symm)
      have gr126 : Grew w0 noB (onB p120) := Grew.new K116 g125
      have ap127 : Apart (onB p120) (T_b) := Apart.new g125 (B114).live
      have ap128 : Apart (onB p120) (T111) := Apart.new g125 (B112).live
      have ap129 : Apart (onB p120) (T79) := Apart.new g125 (B115).live
      clear e124 g125
      have B130 := B114.all k123 Apart.none
      have B131 := B112.all k123 Apart.none
      have B132 := B115.all k123 Apart.none
      have K133 := K116.trans k123 (fun _ _ x => x.elim)
      refine wl_store_blk blkT_block rfl rfl rfl rfl rfl B122 fun w134 B135 k136 => ?_
      have B137 := B130.all k136 (fun i h x => (((ap127).symm) i h x))
      have B138 := B131.all k136 (fun i h x => (((ap128).symm) i h x))
      have B139 := B132.all k136 (fun i h x => (((ap129).symm) i h x))
      have K140 := K133.trans k136 (Grew.ok (S := fun _ => False) gr126 noB_le)
      refine wl_v (.int .i64 ((scanRd (l) (s)).2.1)) rfl rfl (y_asg rfl rfl ⟨rfl, rfl⟩) ?_
      refine wl_nil fun F141 hF142 => ?_
      have s143 : F141 1 = .int .u8 (((n : Nat) : Int)) := (hF142 1).trans s101
      have s144 : F141 5 = .bool true := (hF142 5).trans s102
      have s145 : F141 6 = .pointer (some ⟨v28, 0, none⟩) := (hF142 6).trans s103
      have s146 : F141 7 = .pointer (some ⟨p50, 0, none⟩) := (hF142 7).trans s104
      have s147 : F141 60 = undef := (hF142 60).trans s105
      have s148 : F141 8 = .int .i64 (((i : Nat) : Int)) := (hF142 8).trans s106
      have s149 : F141 9 = .pointer (some ⟨p120, 0, none⟩) := (hF142 9).trans rfl
      have s150 : F141 10 = .int .i64 ((scanRd (l) (s)).2.1) := (hF142 10).trans rfl
      clear hF142
      refine then_normal ?_
      refine wq_seq ?_
      refine wq_region ?_
      refine wl_v (.pointer (some ⟨p50, 0, none⟩)) rfl rfl (y_mov rfl s146 ⟨rfl, rfl⟩) ?_
      refine wl_call (R := fun v_ w_ => ∃ (T153 : Nat → Prop), .tuple #[blkV ((scanRd (l) (s)).1), .int .i64 ((scanRd (l) (s)).2.1)] = v_ ∧ Kept (T79) w134 w_ ∧ (Rfi w_ T153 p50 ((l)) ((scanRd (l) (s)).2.2) ∧ Grew w134 (T79) T153)) rfl rfl (y_cs rfl rfl rfl (fun _ _ => by kernel_rfl) (ev_func _) (vsC rfl vsN) (sref_read (p50) (l) (s) (T79) _  B139 ) (fun e_ w_ h_ => by obtain ⟨T153_, he_, hr_⟩ := h_; exact ⟨_, he_, T153_, rfl, hr_⟩)) ?_
      rintro _ w151 ⟨T153, rfl, k152, ⟨B154, g155⟩⟩
      have B156 := B137.all k152 (fun i h x => (((ap98).symm) i h x))
      have B157 := B138.all k152 (fun i h x => ((ap119) i h x))
      have B158 := B135.all k152 (fun x => ((ap129) p120 rfl x))
      have K159 := K140.trans k152 (fun i hi x => ((Grew.ok (S := fun _ => False) gr95 noB_le) i hi x))
      have gr160 := gr95.trans K140 g155
      have ap161 : Apart T153 (T_b) := (ap98).grew g155 (B137).live
      have ap162 : Apart T153 (T111) := ((ap119).symm).grew g155 (B138).live
      have ap163 : Apart T153 (onB p120) := ((ap129).symm).grew g155 (onB_live (B135).lt)
      refine wl_v (.tuple #[blkV ((scanRd (l) (s)).1), .int .i64 ((scanRd (l) (s)).2.1)]) rfl rfl (y_mov rfl rfl ⟨rfl, rfl⟩) ?_
      refine wl_v (blkV ((scanRd (l) (s)).1)) rfl rfl (y_ext rfl rfl rfl ⟨rfl, rfl⟩) ?_
      refine wl_v (.int .i64 ((scanRd (l) (s)).2.1)) rfl rfl (y_ext rfl rfl rfl ⟨rfl, rfl⟩) ?_
      refine wl_alloc_blk rfl rfl rfl blkT_arr.2.2 fun p164 w165 e168 B166 k167 => ?_
      have g169 := onB_new (Nat.le_of_eq e168.symm)
      have gr170 : Grew w0 noB (onB p164) := Grew.new K159 g169
      have ap171 : Apart (onB p164) (T_b) := Apart.new g169 (B156).live
      have ap172 : Apart (onB p164) (T111) := Apart.new g169 (B157).live
      have ap173 : Apart (onB p164) (T153) := Apart.new g169 (B154).live
      have ap174 : Apart (onB p164) (onB p120) := Apart.new g169 (onB_live (B158).lt)
      clear e168 g169
      have B175 := B156.all k167 Apart.none
      have B176 := B157.all k167 Apart.none
      have B177 := B154.all k167 Apart.none
      have B178 := B158.all k167 id
      have K179 := K159.trans k167 (fun _ _ x => x.elim)
      refine wl_store_blk blkT_arr rfl rfl rfl rfl rfl B166 fun w180 B181 k182 => ?_
      have B183 := B175.all k182 (fun i h x => (((ap171).symm) i h x))
      have B184 := B176.all k182 (fun i h x => (((ap172).symm) i h x))
      have B185 := B177.all k182 (fun i h x => (((ap173).symm) i h x))
      have B186 := B178.all k182 (fun x => (((ap174).symm) p120 rfl x))
      have K187 := K179.trans k182 (Grew.ok (S := fun _ => False) gr170 noB_le)
      refine wl_v (.int .i64 ((scanRd (l) (s)).2.1)) rfl rfl (y_asg rfl rfl ⟨rfl, rfl⟩) ?_
      refine wl_nil fun F188 hF189 => ?_
      have s190 : F188 1 = .int .u8 (((n : Nat) : Int)) := (hF189 1).trans s143
      have s191 : F188 5 = .bool true := (hF189 5).trans s144
      have s192 : F188 6 = .pointer (some ⟨v28, 0, none⟩) := (hF189 6).trans s145
      have s193 : F188 7 = .pointer (some ⟨p50, 0, none⟩) := (hF189 7).trans s146
      have s194 : F188 60 = undef := (hF189 60).trans s147
      have s195 : F188 8 = .int .i64 (((i : Nat) : Int)) := (hF189 8).trans s148
      have s196 : F188 9 = .pointer (some ⟨p120, 0, none⟩) := (hF189 9).trans s149
      have s197 : F188 10 = .int .i64 ((scanRd (l) (s)).2.1) := (hF189 10).trans s150
      have s198 : F188 11 = .pointer (some ⟨p164, 0, none⟩) := (hF189 11).trans rfl
      have s199 : F188 12 = .int .i64 ((scanRd (l) (s)).2.1) := (hF189 12).trans rfl
      clear hF189
      refine then_normal ?_
      refine wq_seq ?_
      refine wq_seq ?_
      refine wq_region ?_
      refine wl_v (blkV ((scanRd (l) (s)).1)) rfl rfl (y_load_blk blkT_block rfl s196 B186 ⟨rfl, rfl⟩) ?_
      refine wl_v (blkV ((scanRd (l) (s)).1)) rfl rfl (y_load_blk blkT_arr rfl s198 B181 ⟨rfl, rfl⟩) ?_
      refine wl_v (.bool false) rfl rfl (y_diffR rfl rfl rfl (diff_same _) ⟨rfl, rfl⟩) ?_
      refine wl_v (.bool false) rfl rfl (y_mov rfl rfl ⟨rfl, rfl⟩) ?_
      refine wl_vw (.int .i64 ((scanRd (l) (s)).2.1)) 3 false 44 rfl rfl rfl rfl rfl (y_mov rfl s197 ⟨rfl, rfl⟩) ?_
      refine wl_vw (.int .i64 ((scanRd (l) (s)).2.1)) 3 false 44 rfl rfl rfl rfl rfl (y_mov rfl s199 ⟨rfl, rfl⟩) ?_
      refine wl_vw (.bool false) 3 false 44 rfl rfl rfl rfl rfl (y_neqI rfl rfl rfl (decide_eq_false (fun h => h rfl)) ⟨rfl, rfl⟩) ?_
      refine wl_v (.bool false) rfl rfl (y_pickF rfl rfl rfl ⟨rfl, rfl⟩) ?_
      refine wl_nil fun F200 hF201 => ?_
      have s202 : F200 1 = .int .u8 (((n : Nat) : Int)) := (hF201 1).trans s190
      have s203 : F200 5 = .bool true := (hF201 5).trans s191
      have s204 : F200 6 = .pointer (some ⟨v28, 0, none⟩) := (hF201 6).trans s192
      have s205 : F200 7 = .pointer (some ⟨p50, 0, none⟩) := (hF201 7).trans s193
      have s206 : F200 60 = undef := (hF201 60).trans s194
      have s207 : F200 8 = .int .i64 (((i : Nat) : Int)) := (hF201 8).trans s195
      have s208 : F200 10 = .int .i64 ((scanRd (l) (s)).2.1) := (hF201 10).trans s197
      have s209 : F200 48 = .bool false := (hF201 48).trans rfl
      clear hF201
      refine then_normal ?_
      refine wq_cond (t := false) s209 (fun e => by cases e) (fun _ => ?_)
      refine wq_skip ?_
      refine then_normal ?_
      refine wq_seq ?_
      refine wq_region ?_
      refine wl_v (.int .i64 ((scanRd (l) (s)).2.1)) rfl rfl (y_mov rfl s208 ⟨rfl, rfl⟩) ?_
      refine wl_v (.bool (decide (((scanRd (l) (s)).2.1) ≠ (0)))) rfl rfl (y_neqI rfl rfl rfl rfl ⟨rfl, rfl⟩) ?_
      refine wl_nil fun F210 hF211 => ?_
      have s212 : F210 1 = .int .u8 (((n : Nat) : Int)) := (hF211 1).trans s202
      have s213 : F210 5 = .bool true := (hF211 5).trans s203
      have s214 : F210 6 = .pointer (some ⟨v28, 0, none⟩) := (hF211 6).trans s204
      have s215 : F210 7 = .pointer (some ⟨p50, 0, none⟩) := (hF211 7).trans s205
      have s216 : F210 60 = undef := (hF211 60).trans s206
      have s217 : F210 8 = .int .i64 (((i : Nat) : Int)) := (hF211 8).trans s207
      have s218 : F210 50 = .bool (decide (((scanRd (l) (s)).2.1) ≠ (0))) := (hF211 50).trans rfl
      clear hF211
      refine then_normal ?_
      refine wq_cond s218 (fun c219 => ?_) (fun c219 => ?_)
      · replace c219 := of_decide_eq_true c219
        refine wq_seq ?_
        refine wq_region ?_
        refine wl_v (.bool true) rfl rfl (y_mov rfl s213 ⟨rfl, rfl⟩) ?_
        refine wl_v (.bool true) rfl rfl (y_asg rfl rfl ⟨rfl, rfl⟩) ?_
        refine wl_nil fun F220 hF221 => ?_
        have s222 : F220 60 = undef := (hF221 60).trans s216
        have s223 : F220 4 = .bool true := (hF221 4).trans rfl
        clear hF221
        refine then_normal ?_
        refine wq_ret ?_
        refine in_ret ?_
        refine then_ret ?_
        refine then_ret ?_
        refine in_ret ?_
        refine then_ret ?_
        exact end_tmp (v := .bool true) s222 rfl rfl s223 ⟨rfl, K187⟩
      · replace c219 := of_decide_eq_false c219
        refine wq_skip ?_
        refine in_normal ?_
        refine then_normal ?_
        refine wq_region ?_
        refine wl_v (.int .i64 (((i : Nat) : Int))) rfl rfl (y_mov rfl s217 ⟨rfl, rfl⟩) ?_
        refine wl_v (.int .i64 (((i + 1 : Nat) : Int))) rfl rfl (y_add rfl rfl rfl (i64_n (by omega) (by omega)) ⟨rfl, rfl⟩) ?_
        refine wl_v (.int .i64 (((i + 1 : Nat) : Int))) rfl rfl (y_asg rfl rfl ⟨rfl, rfl⟩) ?_
        refine wl_nil fun F224 hF225 => ?_
        have s226 : F224 1 = .int .u8 (((n : Nat) : Int)) := (hF225 1).trans s212
        have s227 : F224 5 = .bool true := (hF225 5).trans s213
        have s228 : F224 6 = .pointer (some ⟨v28, 0, none⟩) := (hF225 6).trans s214
        have s229 : F224 7 = .pointer (some ⟨p50, 0, none⟩) := (hF225 7).trans s215
        have s230 : F224 60 = undef := (hF225 60).trans s216
        have s231 : F224 8 = .int .i64 (((i + 1 : Nat) : Int)) := (hF225 8).trans rfl
        clear hF225
        exact then_normal ⟨((n % 11) - (i + 1)), by omega, i + 1, (scanRd l s).2.2, T111, T153, by omega, rfl, s226, s227, s228, s229, s230, s231, K187, B183, (by rw [← rdSt_ok (show (scanRd l s).2.1 = 0 by first | assumption | (apply Decidable.byContradiction; assumption))]; exact B184), B185, gr117, gr160, ap118, (ap162).symm, ap161⟩
    · replace c108 := of_decide_eq_false c108
      refine wq_exit ?_
      refine then_exit ?_
      refine then_exit ?_
      have l232 : (n % 11) = i := by omega
      subst l232
      refine in_here ?_
      refine then_normal ?_
      refine wq_seq ?_
      refine wq_region ?_
      refine wl_v (.bool true) rfl rfl (y_mov rfl s102 ⟨rfl, rfl⟩) ?_
      refine wl_v (.bool true) rfl rfl (y_mov rfl rfl ⟨rfl, rfl⟩) ?_
      refine wl_vw (.pointer (some ⟨v28, 0, none⟩)) 1 true 53 rfl rfl rfl rfl rfl (y_mov rfl s103 ⟨rfl, rfl⟩) ?_
      refine wl_callw (R := fun v_ w_ => v_ = .int .i64 (doneOf (l) (s)) ∧ Kept (fun _ => False) w81 w_) 1 true 53 rfl rfl rfl rfl rfl (y_cs rfl rfl rfl (fun _ _ => by kernel_rfl) (ev_func _) (vsC rfl vsN) (t_done (v28) (l) (s) (T78) _  B92 ) (fun e_ w_ h_ => ⟨_, h_.1, rfl, h_.2⟩)) ?_
      rintro _ w233 ⟨rfl, k234⟩
      have B235 := B91.all k234 Apart.none
      have B236 := B92.all k234 Apart.none
      have B237 := B93.all k234 Apart.none
      have K238 := K82.trans k234 (fun _ _ x => x.elim)
      refine wl_vw (.pointer (some ⟨p50, 0, none⟩)) 1 true 53 rfl rfl rfl rfl rfl (y_mov rfl s104 ⟨rfl, rfl⟩) ?_
      refine wl_callw (R := fun v_ w_ => v_ = .int .i64 (doneOf (l) (s)) ∧ Kept (fun _ => False) w233 w_) 1 true 53 rfl rfl rfl rfl rfl (y_cs rfl rfl rfl (fun _ _ => by kernel_rfl) (ev_func _) (vsC rfl vsN) (t_fdone (p50) (l) (s) (T79) _  B237 ) (fun e_ w_ h_ => ⟨_, h_.1, rfl, h_.2⟩)) ?_
      rintro _ w239 ⟨rfl, k240⟩
      have B241 := B235.all k240 Apart.none
      have B242 := B236.all k240 Apart.none
      have B243 := B237.all k240 Apart.none
      have K244 := K238.trans k240 (fun _ _ x => x.elim)
      refine wl_vw (.bool true) 1 true 53 rfl rfl rfl rfl rfl (y_eqlI rfl rfl rfl (decide_eq_true rfl) ⟨rfl, rfl⟩) ?_
      refine wl_v (.bool true) rfl rfl (y_pickT rfl rfl rfl ⟨rfl, rfl⟩) ?_
      refine wl_v (.bool true) rfl rfl (y_asg rfl rfl ⟨rfl, rfl⟩) ?_
      refine wl_nil fun F245 hF246 => ?_
      have s247 : F245 60 = undef := (hF246 60).trans s105
      have s248 : F245 4 = .bool true := (hF246 4).trans rfl
      clear hF246
      refine then_normal ?_
      refine wq_ret ?_
      exact end_tmp (v := .bool true) s247 rfl rfl s248 ⟨rfl, K244⟩
end Go.Proofs.YtipimcnjcpckeaaDoor
