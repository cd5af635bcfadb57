/- What BlockPredicts reaches of my texts, part 8. -/
import Derived.Test.YtdcbabgcbkdlhaaGreatDoorBlockPredictsG
set_option maxRecDepth 100000
set_option maxHeartbeats 4000000
set_option maxRecDepth 100000
namespace Go.Proofs.YtdcbabgcbkdlhaaGreatDoor
open Go.RowKit
def qk (c : Nat → Int) (u v i : Nat) : Nat → Int
  | 0 => 0
  | k + 1 => qk c u v i k + c (4 * i + k) * wv u i * wv v k
def qs (c : Nat → Int) (u v : Nat) : Nat → Int
  | 0 => 0
  | i + 1 => qs c u v i + qk c u v i 4
theorem q_term (c : Nat → Int) (M : Int) (h : ∀ i, i < 16 → -M ≤ c i ∧ c i ≤ M) (u v i k : Nat) (hi : i < 4) (hk : k < 4) : -M ≤ c (4 * i + k) * wv u i * wv v k ∧ c (4 * i + k) * wv u i * wv v k ≤ M := by
  have h1 := h (4 * i + k) (by omega)
  have h2 := wv_mul _ M u i h1.1 h1.2
  exact wv_mul _ M v k h2.1 h2.2
theorem qk_le (c : Nat → Int) (M : Int) (h : ∀ i, i < 16 → -M ≤ c i ∧ c i ≤ M) (u v i k : Nat) (hi : i < 4) (hk : k ≤ 4) : -(k * M) ≤ qk c u v i k ∧ qk c u v i k ≤ k * M := by
  induction k with
  | zero => simp [qk]
  | succ k ih =>
    have h1 := ih (by omega)
    have h2 := q_term c M h u v i k hi (by omega)
    have e : ((k + 1 : Nat) : Int) * M = (k : Int) * M + M := by rw [Int.natCast_add, Int.add_mul]; simp
    rw [e]; unfold qk; omega
theorem qs_le (c : Nat → Int) (M : Int) (h : ∀ i, i < 16 → -M ≤ c i ∧ c i ≤ M) (u v i : Nat) (hi : i ≤ 4) : -(i * (4 * M)) ≤ qs c u v i ∧ qs c u v i ≤ i * (4 * M) := by
  induction i with
  | zero => simp [qs]
  | succ i ih =>
    have h1 := ih (by omega)
    have h2 := qk_le c M h u v i 4 (by omega) (by omega)
    have e : ((i + 1 : Nat) : Int) * (4 * M) = (i : Int) * (4 * M) + 4 * M := by rw [Int.natCast_add, Int.add_mul]; simp
    rw [e]; unfold qs; simp at h2; omega
theorem qs_fwd (c : Nat → Int) (u v : Nat) (hv : v < 4) : qs c u v 4 = fwd c (4 * u + v) := by
  have e1 : (4 * u + v) % 4 = v := by omega
  have e2 : (4 * u + v) / 4 = u := by omega
  have f0 : (4 * v) % 4 = 0 := by omega
  have f1 : (4 * v + 1) % 4 = 1 := by omega
  have f2 : (4 * v + 2) % 4 = 2 := by omega
  have f3 : (4 * v + 3) % 4 = 3 := by omega
  have g0 : (4 * v) / 4 = v := by omega
  have g1 : (4 * v + 1) / 4 = v := by omega
  have g2 : (4 * v + 2) / 4 = v := by omega
  have g3 : (4 * v + 3) / 4 = v := by omega
  simp only [qs, qk, fwd, turn, e1, e2, f0, f1, f2, f3, g0, g1, g2, g3, Nat.add_zero, Int.add_mul, Int.zero_add, Nat.mul_zero, Nat.zero_add, Nat.reduceMul, Nat.reduceAdd]
  simp only [Int.mul_assoc, Int.mul_comm (wv u _) (wv v _)]
def fwdP (c : Nat → Int) (n : Nat) : Nat → Int := upto n (fun _ => 0) (fwd c)
theorem ref_clamp (n : Int) (w0 : World) :
  Calls Tryz.prog 61 #[.int .i64 (n)] w0 fun e w' => e = .returned (.int .i64 (cl 1048576 n)) ∧ Kept (fun _ => False) w0 w' := by
 refine calls_wq (args := [iv n]) 6 Tryz.func61 rfl rfl (Nat.le_of_ble_eq_true rfl) ?_
 have K0 := Kept.refl (fun _ => False) w0
 refine wq_seq (wq_region (wl_v (iv 0) rfl rfl (y_asg rfl rfl rr) (wl_nil fun F1 hF2 => ?_)))
 have s3 : F1 0 = iv n := (hF2 0).trans rfl
 have s4 : F1 6 = undef := (hF2 6).trans rfl
 clear hF2
 refine then_normal (wq_seq (wq_region (wl_mv rfl rfl rfl s3 (wl_v (iv (max n (-1048576))) rfl rfl (y_maxR rfl rfl rfl rfl rr) (wl_v (iv (cl 1048576 n)) rfl rfl (y_minR rfl rfl rfl (by unfold cl; omega) rr) (wl_v (iv (cl 1048576 n)) rfl rfl (y_asg rfl rfl rr) (wl_nil fun F5 hF6 => ?_)))))))
 have s7 := (hF6 6).trans s4
 have s8 : F5 2 = iv (cl 1048576 n) := (hF6 2).trans rfl
 clear hF6
 refine then_normal (wq_ret ?_)
 exact end_tmp (v := iv (cl 1048576 n)) s7 rfl rfl s8 ⟨rfl, K0⟩
theorem ref_sign (u i : Nat) (w0 : World) (hu : u < 4) (hi : i < 4) :
  Calls Tryz.prog 93 #[.int .i64 (((u : Nat) : Int)), .int .i64 (((i : Nat) : Int))] w0 fun e w' => e = .returned (.int .i64 (wv u i)) ∧ Kept (fun _ => False) w0 w' := by
 refine calls_wq (args := [iv ((u : Nat) : Int), iv ((i : Nat) : Int)]) 13 Tryz.func93 rfl rfl (Nat.le_of_ble_eq_true rfl) ?_
 have K0 := Kept.refl (fun _ => False) w0
 refine wq_seq (wq_region (wl_v (iv 0) rfl rfl (y_asg rfl rfl rr) (wl_nil fun F1 hF2 => ?_)))
 have s3 : F1 0 = iv ((u : Nat) : Int) := (hF2 0).trans rfl
 have s4 : F1 1 = iv ((i : Nat) : Int) := (hF2 1).trans rfl
 have s5 : F1 13 = undef := (hF2 13).trans rfl
 clear hF2
 refine then_normal (wq_seq (wq_region (wl_v (blkV (blL [1, 1, 1, 1, 1, 1, -1, -1, 1, -1, -1, 1, 1, -1, 1, -1])) rfl rfl (y_buildR (cells := (arrL 16 (blL [1, 1, 1, 1, 1, 1, -1, -1, 1, -1, -1, 1, 1, -1, 1, -1])).toArray) rfl (by kernel_rfl) rfl rr) (wl_alloc_blk rfl rfl rfl blkT_arr.2.2 fun p6 w7 e10 B8 k9 => ?_))))
 have g11 := onB_new (Nat.le_of_eq e10.symm)
 have gr12 : Grew w0 noB (onB p6) := Grew.new K0 g11
 clear e10 g11
 have K13 := K0.tr k9
 refine wl_store_blk blkT_arr rfl rfl rfl rfl rfl B8 fun w14 B15 k16 => ?_
 have K17 := K13.trans k16 (Grew.ok (S := fun _ => False) gr12 noB_le)
 refine wl_nil fun F18 hF19 => ?_
 obtain ⟨s20, s21, s22⟩ := t3 hF19 0 s3 1 s4 13 s5
 have s23 : F18 5 = pt p6 0 := (hF19 5).trans rfl
 clear hF19
 refine then_normal (wq_seq (wq_region (wl_mv rfl rfl rfl s20 (wl_v (iv ((4 * u : Nat) : Int)) rfl rfl (y_mul rfl rfl rfl (i64_n (by omega) (by omega)) rr) (wl_mv rfl rfl rfl s21 (wl_v (iv (((4 * u) + i : Nat) : Int)) rfl rfl (y_add rfl rfl rfl (i64_n (by omega) (by omega)) rr) (wl_v (.pointer (some ⟨p6, (4 * u) + i, none⟩)) rfl rfl (y_atR ((4 * u) + i) (s := 1) rfl s23 rfl (by omega) Tryz.underlying28 (by omega) (by kernel_rfl) (by omega) rr) (wl_v (iv (wv u i)) rfl rfl (y_ldR rfl rfl Tryz.underlying3 ((B15.cell (by omega)).trans rfl) rr) (wl_v (iv (wv u i)) rfl rfl (y_asg rfl rfl rr) (wl_nil fun F24 hF25 => ?_))))))))))
 have s26 := (hF25 13).trans s22
 have s27 : F24 4 = iv (wv u i) := (hF25 4).trans rfl
 clear hF25
 refine then_normal (wq_ret ?_)
 exact end_tmp (v := iv (wv u i)) s26 rfl rfl s27 ⟨rfl, K17⟩
theorem ref_forward (b : Nat → Int) (w0 : World) :
  Calls Tryz.prog 62 #[blkV (b)] w0 fun e w' => e = .returned (blkV (fwd (clB 1048576 b))) ∧ Kept (fun _ => False) w0 w' := by
 refine calls_wq (args := [blkV b]) 50 Tryz.func62 rfl rfl (Nat.le_of_ble_eq_true rfl) ?_
 have K0 := Kept.refl (fun _ => False) w0
 refine wq_seq (wq_region (wl_box_blk rfl rfl rfl rfl fun p1 w2 e5 B3 k4 => ?_))
 have g6 := onB_new (Nat.le_of_eq e5.symm)
 clear e5 g6
 have K8 := K0.tr k4
 refine wl_alloc_blk rfl rfl rfl blkT_arr.2.2 fun p9 w10 e13 B11 k12 => ?_
 have g14 := onB_new (Nat.le_of_eq e13.symm)
 have gr15 : Grew w0 noB (onB p9) := Grew.new K8 g14
 clear e13 g14
 have B17 := B3.all k12 id
 have K18 := K8.tr k12
 refine wl_nil fun F19 hF20 => ?_
 have s21 : F19 50 = undef := (hF20 50).trans rfl
 have s22 : F19 1 = pt p1 0 := (hF20 1).trans rfl
 have s23 : F19 2 = pt p9 0 := (hF20 2).trans rfl
 clear hF20
 refine then_normal (wq_seq (wq_region (wl_v (blkV (fun _ => 0)) rfl rfl (y_buildR (cells := (arrL 16 (fun _ => 0)).toArray) rfl (by kernel_rfl) rfl rr) (wl_alloc_blk rfl rfl rfl blkT_arr.2.2 fun p24 w25 e28 B26 k27 => ?_))))
 have g29 := onB_new (Nat.le_of_eq e28.symm)
 have gr30 : Grew w0 noB (onB p24) := Grew.new K18 g29
 have ap31 : Apart (onB p24) (onB p1) := Apart.new g29 (onB_live B17.lt)
 have ap32 : Apart (onB p24) (onB p9) := Apart.new g29 (onB_live B11.lt)
 clear e28 g29
 have B33 := B17.all k27 id
 have B34 := B11.all k27 id
 have K35 := K18.tr k27
 refine wl_store_blk blkT_arr rfl rfl rfl rfl rfl B26 fun w36 B37 k38 => ?_
 have B39 := B33.all k38 (ap31.symm p1 rfl)
 have B40 := B34.all k38 (ap32.symm p9 rfl)
 have K41 := K35.trans k38 (Grew.ok (S := fun _ => False) gr30 noB_le)
 refine wl_nil fun F42 hF43 => ?_
 obtain ⟨s44, s45, s46⟩ := t3 hF43 50 s21 1 s22 2 s23
 have s47 : F42 3 = pt p24 0 := (hF43 3).trans rfl
 clear hF43
 refine then_normal (wq_seq (wq_seq (wq_region (wl_v (iv 0) rfl rfl (y_asg rfl rfl rr) (wl_nil fun F48 hF49 => ?_)))))
 obtain ⟨s50, s51, s52, s53⟩ := t4 hF49 50 s44 1 s45 2 s46 3 s47
 have s54 : F48 4 = iv 0 := (hF49 4).trans rfl
 clear hF49
 refine then_normal (wq_block (wq_loop (fun nn FF ww => ∃ (u : Nat), (u ≤ 4) ∧ nn = 4 - u ∧ FF 1 = pt p1 0 ∧ FF 2 = pt p9 0 ∧ FF 3 = pt p24 0 ∧ FF 50 = undef ∧ FF 4 = iv ((u : Nat) : Int) ∧ Kept (fun _ => False) w0 ww ∧ Blk ww p1 28 b ∧ Blk ww p9 28 (fun _ => 0) ∧ Blk ww p24 28 (fwdP (clB 1048576 b) (4 * u))) (4 - 0) ⟨0, by omega, rfl, s51, s52, s53, s50, s54, K41, B39, B40, B37.first⟩ ?_))
 rintro n58 F55 w56 ⟨u, i59, hn58, s60, s61, s62, s63, s64, K57, B65, B66, B67⟩
 refine wq_seq (wq_seq (wq_region (wl_mv rfl rfl rfl s64 (wl_v (.bool (decide (((u : Nat) : Int) < 4))) rfl rfl (y_lss rfl rfl rfl rfl rr) (wl_nil fun F68 hF69 => ?_)))))
 obtain ⟨s70, s71, s72, s73, s74⟩ := t5 hF69 1 s60 2 s61 3 s62 50 s63 4 s64
 have s75 : F68 11 = .bool (decide (((u : Nat) : Int) < 4)) := (hF69 11).trans rfl
 clear hF69
 refine then_normal ?_
 refine wq_cond s75 (fun c76 => ?_) (fun c76 => ?_)
 ·replace c76 := of_decide_eq_true c76
  refine wq_skip (then_normal (wq_seq (wq_block (wq_seq (wq_region (wl_v (iv 0) rfl rfl (y_asg rfl rfl rr) (wl_nil fun F77 hF78 => ?_)))))))
  obtain ⟨s79, s80, s81, s82, s83⟩ := t5 hF78 1 s70 2 s71 3 s72 50 s73 4 s74
  have s84 : F77 5 = iv 0 := (hF78 5).trans rfl
  clear hF78
  refine then_normal (wq_block (wq_loop (fun nn FF ww => ∃ (v : Nat), (v ≤ 4) ∧ nn = 4 - v ∧ FF 1 = pt p1 0 ∧ FF 2 = pt p9 0 ∧ FF 3 = pt p24 0 ∧ FF 4 = iv ((u : Nat) : Int) ∧ FF 50 = undef ∧ FF 5 = iv ((v : Nat) : Int) ∧ Kept (fun _ => False) w0 ww ∧ Blk ww p1 28 b ∧ Blk ww p9 28 (fun _ => 0) ∧ Blk ww p24 28 (fwdP (clB 1048576 b) (4 * u + v))) (4 - 0) ⟨0, by omega, rfl, s79, s80, s81, s83, s82, s84, K57, B65, B66, B67⟩ ?_))
  rintro n88 F85 w86 ⟨v, i89, hn88, s90, s91, s92, s93, s94, s95, K87, B96, B97, B98⟩
  refine wq_seq (wq_seq (wq_region (wl_mv rfl rfl rfl s95 (wl_v (.bool (decide (((v : Nat) : Int) < 4))) rfl rfl (y_lss rfl rfl rfl rfl rr) (wl_nil fun F99 hF100 => ?_)))))
  obtain ⟨s101, s102, s103, s104, s105, s106⟩ := t6 hF100 1 s90 2 s91 3 s92 4 s93 50 s94 5 s95
  have s107 : F99 15 = .bool (decide (((v : Nat) : Int) < 4)) := (hF100 15).trans rfl
  clear hF100
  refine then_normal ?_
  refine wq_cond s107 (fun c108 => ?_) (fun c108 => ?_)
  ·replace c108 := of_decide_eq_true c108
   refine wq_skip (then_normal (wq_seq (wq_block (wq_seq (wq_region (wl_v (iv 0) rfl rfl (y_asg rfl rfl rr) (wl_nil fun F109 hF110 => ?_)))))))
   obtain ⟨s111, s112, s113, s114, s115, s116⟩ := t6 hF110 1 s101 2 s102 3 s103 4 s104 50 s105 5 s106
   have s117 : F109 6 = iv 0 := (hF110 6).trans rfl
   clear hF110
   refine then_normal (wq_seq (wq_seq (wq_region (wl_v (iv 0) rfl rfl (y_asg rfl rfl rr) (wl_nil fun F118 hF119 => ?_)))))
   obtain ⟨s120, s121, s122, s123, s124, s125, s126⟩ := t7 hF119 1 s111 2 s112 3 s113 4 s114 50 s115 5 s116 6 s117
   have s127 : F118 7 = iv 0 := (hF119 7).trans rfl
   clear hF119
   refine then_normal (wq_block (wq_loop (fun nn FF ww => ∃ (i : Nat), (i ≤ 4) ∧ nn = 4 - i ∧ FF 1 = pt p1 0 ∧ FF 2 = pt p9 0 ∧ FF 3 = pt p24 0 ∧ FF 4 = iv ((u : Nat) : Int) ∧ FF 5 = iv ((v : Nat) : Int) ∧ FF 50 = undef ∧ FF 6 = iv (qs (clB 1048576 b) u v i) ∧ FF 7 = iv ((i : Nat) : Int) ∧ Kept (fun _ => False) w0 ww ∧ Blk ww p1 28 b ∧ Blk ww p9 28 (fun _ => 0) ∧ Blk ww p24 28 (fwdP (clB 1048576 b) (4 * u + v))) (4 - 0) ⟨0, by omega, rfl, s120, s121, s122, s123, s125, s124, s126, s127, K87, B96, B97, B98⟩ ?_))
   rintro n131 F128 w129 ⟨i, i132, hn131, s133, s134, s135, s136, s137, s138, s139, s140, K130, B141, B142, B143⟩
   refine wq_seq (wq_seq (wq_region (wl_mv rfl rfl rfl s140 (wl_v (.bool (decide (((i : Nat) : Int) < 4))) rfl rfl (y_lss rfl rfl rfl rfl rr) (wl_nil fun F144 hF145 => ?_)))))
   obtain ⟨s146, s147, s148, s149, s150, s151, s152, s153⟩ := t8 hF145 1 s133 2 s134 3 s135 4 s136 5 s137 50 s138 6 s139 7 s140
   have s154 : F144 19 = .bool (decide (((i : Nat) : Int) < 4)) := (hF145 19).trans rfl
   clear hF145
   refine then_normal ?_
   refine wq_cond s154 (fun c155 => ?_) (fun c155 => ?_)
   ·replace c155 := of_decide_eq_true c155
    refine wq_skip (then_normal (wq_seq (wq_block (wq_seq (wq_region (wl_v (iv 0) rfl rfl (y_asg rfl rfl rr) (wl_nil fun F156 hF157 => ?_)))))))
    obtain ⟨s158, s159, s160, s161, s162, s163, s164, s165⟩ := t8 hF157 1 s146 2 s147 3 s148 4 s149 5 s150 50 s151 6 s152 7 s153
    have s166 : F156 8 = iv 0 := (hF157 8).trans rfl
    clear hF157
    refine then_normal (wq_block (wq_loop (fun nn FF ww => ∃ (k : Nat), (k ≤ 4) ∧ nn = 4 - k ∧ FF 1 = pt p1 0 ∧ FF 2 = pt p9 0 ∧ FF 3 = pt p24 0 ∧ FF 4 = iv ((u : Nat) : Int) ∧ FF 5 = iv ((v : Nat) : Int) ∧ FF 7 = iv ((i : Nat) : Int) ∧ FF 50 = undef ∧ FF 6 = iv (qs (clB 1048576 b) u v i + qk (clB 1048576 b) u v i k) ∧ FF 8 = iv ((k : Nat) : Int) ∧ Kept (fun _ => False) w0 ww ∧ Blk ww p1 28 b ∧ Blk ww p9 28 (fun _ => 0) ∧ Blk ww p24 28 (fwdP (clB 1048576 b) (4 * u + v))) (4 - 0) ⟨0, by omega, rfl, s158, s159, s160, s161, s162, s165, s163, (by rw [show qs (clB 1048576 b) u v i + qk (clB 1048576 b) u v i 0 = qs (clB 1048576 b) u v i from Int.add_zero _]; exact s164), s166, K130, B141, B142, B143⟩ ?_))
    rintro n170 F167 w168 ⟨k, i171, hn170, s172, s173, s174, s175, s176, s177, s178, s179, s180, K169, B181, B182, B183⟩
    refine wq_seq (wq_seq (wq_region (wl_mv rfl rfl rfl s180 (wl_v (.bool (decide (((k : Nat) : Int) < 4))) rfl rfl (y_lss rfl rfl rfl rfl rr) (wl_nil fun F184 hF185 => ?_)))))
    obtain ⟨s186, s187, s188, s189, s190, s191, s192, s193, s194⟩ := t9 hF185 1 s172 2 s173 3 s174 4 s175 5 s176 7 s177 50 s178 6 s179 8 s180
    have s195 : F184 23 = .bool (decide (((k : Nat) : Int) < 4)) := (hF185 23).trans rfl
    clear hF185
    refine then_normal ?_
    refine wq_cond s195 (fun c196 => ?_) (fun c196 => ?_)
    ·replace c196 := of_decide_eq_true c196
     refine wq_skip (then_normal (wq_seq (wq_block ?_)))
     have h1 := qs_le (clB 1048576 b) 1048576 (fun i _ => clB_le b i) u v i (by omega)
     have h2 := qk_le (clB 1048576 b) 1048576 (fun i _ => clB_le b i) u v i k (by omega) (by omega)
     have h3 := q_term (clB 1048576 b) 1048576 (fun i _ => clB_le b i) u v i k (by omega) (by omega)
     have h5 := wv_mul _ 1048576 u i (clB_le b (4 * i + k)).1 (clB_le b (4 * i + k)).2
     refine wq_region (wl_mv rfl rfl rfl s193 (wl_mv rfl rfl rfl s191 (wl_v (iv ((4 * i : Nat) : Int)) rfl rfl (y_mul rfl rfl rfl (i64_n (by omega) (by omega)) rr) (wl_mv rfl rfl rfl s194 (wl_v (iv (((4 * i) + k : Nat) : Int)) rfl rfl (y_add rfl rfl rfl (i64_n (by omega) (by omega)) rr) (wl_v (.pointer (some ⟨p1, (4 * i) + k, none⟩)) rfl rfl (y_atR ((4 * i) + k) (s := 1) rfl s186 rfl (by omega) Tryz.underlying28 (by omega) (by kernel_rfl) (by omega) rr) (wl_v (iv (b ((4 * i) + k))) rfl rfl (y_ldR rfl rfl Tryz.underlying3 (B181.cell (by omega)) rr) (wl_call (R := fun v_ w_ => v_ = iv (clB 1048576 b (4 * i + k)) ∧ Kept (fun _ => False) w168 w_) rfl rfl (y_cs rfl rfl rfl (fun _ _ => by kernel_rfl) (ev_func _) (vsC rfl vsN) (ref_clamp (b ((4 * i) + k))  _   ) (fun e_ w_ h_ => ⟨_, h_.1, rfl, h_.2⟩)) ?_))))))))
     rintro _ w197 ⟨rfl, k198⟩
     have B199 := B181.all k198 id
     have B200 := B182.all k198 id
     have B201 := B183.all k198 id
     have K202 := K169.tr k198
     refine wl_mv rfl rfl rfl s189 (wl_mv rfl rfl rfl s191 (wl_cs rfl rfl rfl rfl rfl (fun _ _ => by kernel_rfl) (vsC rfl (vsC rfl vsN)) (ref_sign u i  _ (by omega) (by omega)  ) fun w203 k204 => ?_))
     have B205 := B199.all k204 id
     have B206 := B200.all k204 id
     have B207 := B201.all k204 id
     have K208 := K202.tr k204
     refine wl_v (iv ((clB 1048576 b (4 * i + k)) * (wv u i))) rfl rfl (y_mul rfl rfl rfl (i64_i rfl (by omega)) rr) (wl_mv rfl rfl rfl s190 (wl_mv rfl rfl rfl s194 (wl_cs rfl rfl rfl rfl rfl (fun _ _ => by kernel_rfl) (vsC rfl (vsC rfl vsN)) (ref_sign v k  _ (by omega) (by omega)  ) fun w209 k210 => ?_)))
     have B211 := B205.all k210 id
     have B212 := B206.all k210 id
     have B213 := B207.all k210 id
     have K214 := K208.tr k210
     refine wl_v (iv (((clB 1048576 b (4 * i + k)) * (wv u i)) * (wv v k))) rfl rfl (y_mul rfl rfl rfl (i64_i rfl (by omega)) rr) (wl_v (iv (qs (clB 1048576 b) u v i + qk (clB 1048576 b) u v i (k + 1))) rfl rfl (y_add rfl rfl rfl (i64_i (Int.add_assoc _ _ _) (by have e : qk (clB 1048576 b) u v i (k + 1) = qk (clB 1048576 b) u v i k + clB 1048576 b (4 * i + k) * wv u i * wv v k := rfl; omega)) rr) (wl_v (iv (qs (clB 1048576 b) u v i + qk (clB 1048576 b) u v i (k + 1))) rfl rfl (y_asg rfl rfl rr) (wl_nil fun F215 hF216 => ?_)))
     obtain ⟨s217, s218, s219, s220, s221, s222, s223, s224⟩ := t8 hF216 1 s186 2 s187 3 s188 4 s189 5 s190 7 s191 50 s192 8 s194
     have s225 : F215 6 = iv (qs (clB 1048576 b) u v i + qk (clB 1048576 b) u v i (k + 1)) := (hF216 6).trans rfl
     clear hF216
     refine in_normal (then_normal (wq_region (wl_mv rfl rfl rfl s224 (wl_v (iv ((k + 1 : Nat) : Int)) rfl rfl (y_add rfl rfl rfl (i64_n (by omega) (by omega)) rr) (wl_v (iv ((k + 1 : Nat) : Int)) rfl rfl (y_asg rfl rfl rr) (wl_nil fun F226 hF227 => ?_))))))
     obtain ⟨s228, s229, s230, s231, s232, s233, s234, s235⟩ := t8 hF227 1 s217 2 s218 3 s219 4 s220 5 s221 7 s222 50 s223 6 s225
     have s236 : F226 8 = iv ((k + 1 : Nat) : Int) := (hF227 8).trans rfl
     clear hF227
     exact then_normal ⟨(4 - (k + 1)), by omega, k + 1, by omega, rfl, s228, s229, s230, s231, s232, s233, s234, s235, s236, K214, B211, B212, B213⟩
    ·replace c196 := of_decide_eq_false c196
     refine wq_exit (then_exit (then_exit ?_))
     have l237 : 4 = k := by omega
     subst l237
     refine in_here (in_normal (then_normal (wq_region (wl_mv rfl rfl rfl s191 (wl_v (iv ((i + 1 : Nat) : Int)) rfl rfl (y_add rfl rfl rfl (i64_n (by omega) (by omega)) rr) (wl_v (iv ((i + 1 : Nat) : Int)) rfl rfl (y_asg rfl rfl rr) (wl_nil fun F238 hF239 => ?_)))))))
     obtain ⟨s240, s241, s242, s243, s244, s245, s246⟩ := t7 hF239 1 s186 2 s187 3 s188 4 s189 5 s190 50 s192 6 s193
     have s247 : F238 7 = iv ((i + 1 : Nat) : Int) := (hF239 7).trans rfl
     clear hF239
     exact then_normal ⟨(4 - (i + 1)), by omega, i + 1, by omega, rfl, s240, s241, s242, s243, s244, s245, s246, s247, K169, B181, B182, B183⟩
   ·replace c155 := of_decide_eq_false c155
    refine wq_exit (then_exit (then_exit ?_))
    have l248 : 4 = i := by omega
    subst l248
    refine in_here (then_normal (wq_region (wl_mv rfl rfl rfl s149 (wl_v (iv ((4 * u : Nat) : Int)) rfl rfl (y_mul rfl rfl rfl (i64_n (by omega) (by omega)) rr) (wl_mv rfl rfl rfl s150 (wl_v (iv (((4 * u) + v : Nat) : Int)) rfl rfl (y_add rfl rfl rfl (i64_n (by omega) (by omega)) rr) (wl_mv rfl rfl rfl s152 (wl_v (.pointer (some ⟨p24, (4 * u) + v, none⟩)) rfl rfl (y_atR ((4 * u) + v) (s := 1) rfl s148 rfl (by omega) Tryz.underlying28 (by omega) (by kernel_rfl) (by omega) rr) (wl_set_blk rfl rfl rfl rfl rfl B143 (by omega) (by kernel_rfl) fun w249 B250 k251 => ?_)))))))))
    have B252 := B141.all k251 (ap31.symm p1 rfl)
    have B253 := B142.all k251 (ap32.symm p9 rfl)
    have K254 := K130.trans k251 (Grew.ok (S := fun _ => False) gr30 noB_le)
    refine wl_nil fun F255 hF256 => ?_
    obtain ⟨s257, s258, s259, s260, s261, s262⟩ := t6 hF256 1 s146 2 s147 3 s148 4 s149 5 s150 50 s151
    clear hF256
    refine in_normal (then_normal (wq_region (wl_mv rfl rfl rfl s261 (wl_v (iv ((v + 1 : Nat) : Int)) rfl rfl (y_add rfl rfl rfl (i64_n (by omega) (by omega)) rr) (wl_v (iv ((v + 1 : Nat) : Int)) rfl rfl (y_asg rfl rfl rr) (wl_nil fun F263 hF264 => ?_))))))
    obtain ⟨s265, s266, s267, s268, s269⟩ := t5 hF264 1 s257 2 s258 3 s259 4 s260 50 s262
    have s270 : F263 5 = iv ((v + 1 : Nat) : Int) := (hF264 5).trans rfl
    clear hF264
    exact then_normal ⟨(4 - (v + 1)), by omega, v + 1, by omega, rfl, s265, s266, s267, s268, s269, s270, K254, B252, B253, (B250.next (qs_fwd _ u v (by omega)))⟩
  ·replace c108 := of_decide_eq_false c108
   refine wq_exit (then_exit (then_exit ?_))
   have l271 : 4 = v := by omega
   subst l271
   refine in_here (in_normal (then_normal (wq_region (wl_mv rfl rfl rfl s104 (wl_v (iv ((u + 1 : Nat) : Int)) rfl rfl (y_add rfl rfl rfl (i64_n (by omega) (by omega)) rr) (wl_v (iv ((u + 1 : Nat) : Int)) rfl rfl (y_asg rfl rfl rr) (wl_nil fun F272 hF273 => ?_)))))))
   obtain ⟨s274, s275, s276, s277⟩ := t4 hF273 1 s101 2 s102 3 s103 50 s105
   have s278 : F272 4 = iv ((u + 1 : Nat) : Int) := (hF273 4).trans rfl
   clear hF273
   exact then_normal ⟨(4 - (u + 1)), by omega, u + 1, by omega, rfl, s274, s275, s276, s277, s278, K87, B96, B97, B98⟩
 ·replace c76 := of_decide_eq_false c76
  refine wq_exit (then_exit (then_exit ?_))
  have l279 : 4 = u := by omega
  subst l279
  have B280 : Blk w56 p24 28 (fwd (clB 1048576 b)) := (B67.last)
  refine in_here (then_normal (wq_seq (wq_region (wl_v (blkV (fwd (clB 1048576 b))) rfl rfl (y_load_blk blkT_arr rfl s72 B280 rr) (wl_store_blk blkT_arr rfl rfl rfl s71 rfl B66 fun w281 B282 k283 => ?_)))))
  have K286 := K57.trans k283 (Grew.ok (S := fun _ => False) gr15 noB_le)
  refine wl_nil fun F287 hF288 => ?_
  obtain ⟨s289, s290⟩ := t2 hF288 2 s71 50 s73
  clear hF288
  refine then_normal (wq_ret ?_)
  exact end_blk blkT_arr s290 rfl rfl s289 B282 ⟨rfl, K286⟩
theorem tdiv_rnd (n : Int) : (n < Int.tdiv n 16 * 16 → Int.tdiv n 16 - 1 = n / 16) ∧ (¬ n < Int.tdiv n 16 * 16 → Int.tdiv n 16 = n / 16) := by
  rcases Int.le_total 0 n with h | h
  · have e := Int.tdiv_eq_ediv_of_nonneg (b := 16) h
    rw [e]; omega
  · have e : Int.tdiv n 16 = -((-n) / 16) := by
      have e1 := Int.neg_tdiv (a := -n) (b := 16)
      rw [Int.neg_neg] at e1
      rw [e1, Int.tdiv_eq_ediv_of_nonneg (by omega)]
    rw [e]; omega
theorem ref_back (b : Nat → Int) (w0 : World) :
  Calls Tryz.prog 28 #[blkV (b)] w0 fun e w' => e = .returned (blkV (backB b)) ∧ Kept (fun _ => False) w0 w' := by
 refine calls_wq (args := [blkV b]) 29 Tryz.func28 rfl rfl (Nat.le_of_ble_eq_true rfl) ?_
 have K0 := Kept.refl (fun _ => False) w0
 refine wq_seq (wq_region (wl_box_blk rfl rfl rfl rfl fun p1 w2 e5 B3 k4 => ?_))
 have g6 := onB_new (Nat.le_of_eq e5.symm)
 clear e5 g6
 have K8 := K0.tr k4
 refine wl_alloc_blk rfl rfl rfl blkT_arr.2.2 fun p9 w10 e13 B11 k12 => ?_
 have g14 := onB_new (Nat.le_of_eq e13.symm)
 have gr15 : Grew w0 noB (onB p9) := Grew.new K8 g14
 clear e13 g14
 have B17 := B3.all k12 id
 have K18 := K8.tr k12
 refine wl_nil fun F19 hF20 => ?_
 have s21 : F19 29 = undef := (hF20 29).trans rfl
 have s22 : F19 1 = pt p1 0 := (hF20 1).trans rfl
 have s23 : F19 2 = pt p9 0 := (hF20 2).trans rfl
 clear hF20
 refine then_normal (wq_seq (wq_region (wl_v (blkV b) rfl rfl (y_load_blk blkT_arr rfl s22 B17 rr) (wl_cs rfl rfl rfl rfl rfl (fun _ _ => by kernel_rfl) (vsC rfl vsN) (ref_forward b  _   ) fun w24 k25 => ?_))))
 have B26 := B17.all k25 id
 have B27 := B11.all k25 id
 have K28 := K18.tr k25
 refine wl_alloc_blk rfl rfl rfl blkT_arr.2.2 fun p29 w30 e33 B31 k32 => ?_
 have g34 := onB_new (Nat.le_of_eq e33.symm)
 have gr35 : Grew w0 noB (onB p29) := Grew.new K28 g34
 have ap36 : Apart (onB p29) (onB p1) := Apart.new g34 (onB_live B26.lt)
 have ap37 : Apart (onB p29) (onB p9) := Apart.new g34 (onB_live B27.lt)
 clear e33 g34
 have B38 := B26.all k32 id
 have B39 := B27.all k32 id
 have K40 := K28.tr k32
 refine wl_store_blk blkT_arr rfl rfl rfl rfl rfl B31 fun w41 B42 k43 => ?_
 have B44 := B38.all k43 (ap36.symm p1 rfl)
 have B45 := B39.all k43 (ap37.symm p9 rfl)
 have K46 := K40.trans k43 (Grew.ok (S := fun _ => False) gr35 noB_le)
 refine wl_nil fun F47 hF48 => ?_
 obtain ⟨s49, s50⟩ := t2 hF48 29 s21 2 s23
 have s51 : F47 3 = pt p29 0 := (hF48 3).trans rfl
 clear hF48
 refine then_normal (wq_seq (wq_seq (wq_region (wl_v (iv 0) rfl rfl (y_asg rfl rfl rr) (wl_nil fun F52 hF53 => ?_)))))
 obtain ⟨s54, s55, s56⟩ := t3 hF53 29 s49 2 s50 3 s51
 have s57 : F52 4 = iv 0 := (hF53 4).trans rfl
 clear hF53
 refine then_normal (wq_block (wq_loop (fun nn FF ww => ∃ (k : Nat), (k ≤ 16) ∧ nn = 16 - k ∧ FF 2 = pt p9 0 ∧ FF 3 = pt p29 0 ∧ FF 29 = undef ∧ FF 4 = iv ((k : Nat) : Int) ∧ Kept (fun _ => False) w0 ww ∧ Blk ww p1 28 b ∧ Blk ww p9 28 (fun _ => 0) ∧ Blk ww p29 28 (upto k (fwd (clB 1048576 b)) (backB b))) (16 - 0) ⟨0, by omega, rfl, s55, s56, s54, s57, K46, B44, B45, B42.first⟩ ?_))
 rintro n61 F58 w59 ⟨k, i62, hn61, s63, s64, s65, s66, K60, B67, B68, B69⟩
 refine wq_seq (wq_seq (wq_region (wl_mv rfl rfl rfl s66 (wl_v (.bool (decide (((k : Nat) : Int) < 16))) rfl rfl (y_lss rfl rfl rfl rfl rr) (wl_nil fun F70 hF71 => ?_)))))
 obtain ⟨s72, s73, s74, s75⟩ := t4 hF71 2 s63 3 s64 29 s65 4 s66
 have s76 : F70 10 = .bool (decide (((k : Nat) : Int) < 16)) := (hF71 10).trans rfl
 clear hF71
 refine then_normal ?_
 refine wq_cond s76 (fun c77 => ?_) (fun c77 => ?_)
 ·replace c77 := of_decide_eq_true c77
  refine wq_skip (then_normal (wq_seq (wq_block (wq_seq ?_))))
  have hf := fwd_le (clB 1048576 b) 1048576 (fun i _ => clB_le b i) k
  have ht := tdiv_rnd (fwd (clB 1048576 b) k + 8)
  have hr : rnd (fwd (clB 1048576 b) k) = (fwd (clB 1048576 b) k + 8) / 16 := rfl
  refine wq_region (wl_mv rfl rfl rfl s75 (wl_v (.pointer (some ⟨p29, k, none⟩)) rfl rfl (y_atR k (s := 1) rfl s73 rfl (by omega) Tryz.underlying28 (by omega) (by kernel_rfl) (by omega) rr) (wl_v (iv (fwd (clB 1048576 b) k)) rfl rfl (y_ldR rfl rfl Tryz.underlying3 ((B69.cell (by omega)).trans (some_int (upto_at k _ _))) rr) (wl_v (iv ((fwd (clB 1048576 b) k) + 8)) rfl rfl (y_add rfl rfl rfl (i64_i rfl (by omega)) rr) (wl_v (iv ((fwd (clB 1048576 b) k) + 8)) rfl rfl (y_asg rfl rfl rr) (wl_nil fun F78 hF79 => ?_))))))
  obtain ⟨s80, s81, s82, s83⟩ := t4 hF79 2 s72 3 s73 29 s74 4 s75
  have s84 : F78 5 = iv ((fwd (clB 1048576 b) k) + 8) := (hF79 5).trans rfl
  clear hF79
  refine then_normal (wq_seq ?_)
  have ht3 : -16777224 ≤ Int.tdiv (fwd (clB 1048576 b) k + 8) 16 ∧ Int.tdiv (fwd (clB 1048576 b) k + 8) 16 ≤ 16777224 := by rcases Int.lt_or_le (fwd (clB 1048576 b) k + 8) (Int.tdiv (fwd (clB 1048576 b) k + 8) 16 * 16) with h | h; have := ht.1 h; omega; have := ht.2 (by omega); omega
  refine wq_region (wl_mv rfl rfl rfl s84 (wl_v (iv (Int.tdiv ((fwd (clB 1048576 b) k) + 8) 16)) rfl rfl (y_quo rfl rfl rfl (by first | decide | omega) (i64_i rfl (by omega)) rr) (wl_v (iv (Int.tdiv ((fwd (clB 1048576 b) k) + 8) 16)) rfl rfl (y_asg rfl rfl rr) (wl_nil fun F85 hF86 => ?_))))
  obtain ⟨s87, s88, s89, s90, s91⟩ := t5 hF86 2 s80 3 s81 29 s82 4 s83 5 s84
  have s92 : F85 6 = iv (Int.tdiv ((fwd (clB 1048576 b) k) + 8) 16) := (hF86 6).trans rfl
  clear hF86
  refine then_normal (wq_seq (wq_seq (wq_region (wl_mv rfl rfl rfl s92 (wl_v (iv ((Int.tdiv ((fwd (clB 1048576 b) k) + 8) 16) * 16)) rfl rfl (y_mul rfl rfl rfl (i64_i rfl (by omega)) rr) (wl_mv rfl rfl rfl s91 (wl_v (.bool (decide (((fwd (clB 1048576 b) k) + 8) < ((Int.tdiv ((fwd (clB 1048576 b) k) + 8) 16) * 16)))) rfl rfl (y_gtr rfl rfl rfl rfl rr) (wl_nil fun F93 hF94 => ?_))))))))
  obtain ⟨s95, s96, s97, s98, s99⟩ := t5 hF94 2 s87 3 s88 29 s89 4 s90 6 s92
  have s100 : F93 22 = .bool (decide (((fwd (clB 1048576 b) k) + 8) < ((Int.tdiv ((fwd (clB 1048576 b) k) + 8) 16) * 16))) := (hF94 22).trans rfl
  clear hF94
  refine then_normal ?_
  refine wq_cond s100 (fun c101 => ?_) (fun c101 => ?_)
  ·replace c101 := of_decide_eq_true c101
   refine wq_region (wl_mv rfl rfl rfl s99 (wl_v (iv (rnd (fwd (clB 1048576 b) k))) rfl rfl (y_sub rfl rfl rfl (i64_i (by rw [ht.1 (by omega)]; rfl) (by omega)) rr) (wl_v (iv (rnd (fwd (clB 1048576 b) k))) rfl rfl (y_asg rfl rfl rr) (wl_nil fun F102 hF103 => ?_))))
   obtain ⟨s104, s105, s106, s107⟩ := t4 hF103 2 s95 3 s96 29 s97 4 s98
   have s108 : F102 6 = iv (rnd (fwd (clB 1048576 b) k)) := (hF103 6).trans rfl
   clear hF103
   refine then_normal (wq_region (wl_mv rfl rfl rfl s107 (wl_mv rfl rfl rfl s108 (wl_v (.pointer (some ⟨p29, k, none⟩)) rfl rfl (y_atR k (s := 1) rfl s105 rfl (by omega) Tryz.underlying28 (by omega) (by kernel_rfl) (by omega) rr) (wl_set_blk rfl rfl rfl rfl rfl B69 (by omega) (by kernel_rfl) fun w109 B110 k111 => ?_)))))
   have B112 := B67.all k111 (ap36.symm p1 rfl)
   have B113 := B68.all k111 (ap37.symm p9 rfl)
   have K114 := K60.trans k111 (Grew.ok (S := fun _ => False) gr35 noB_le)
   refine wl_nil fun F115 hF116 => ?_
   obtain ⟨s117, s118, s119, s120⟩ := t4 hF116 2 s104 3 s105 29 s106 4 s107
   clear hF116
   refine in_normal (then_normal (wq_region (wl_mv rfl rfl rfl s120 (wl_v (iv ((k + 1 : Nat) : Int)) rfl rfl (y_add rfl rfl rfl (i64_n (by omega) (by omega)) rr) (wl_v (iv ((k + 1 : Nat) : Int)) rfl rfl (y_asg rfl rfl rr) (wl_nil fun F121 hF122 => ?_))))))
   obtain ⟨s123, s124, s125⟩ := t3 hF122 2 s117 3 s118 29 s119
   have s126 : F121 4 = iv ((k + 1 : Nat) : Int) := (hF122 4).trans rfl
   clear hF122
   exact then_normal ⟨(16 - (k + 1)), by omega, k + 1, by omega, rfl, s123, s124, s125, s126, K114, B112, B113, (B110.next rfl)⟩
  ·replace c101 := of_decide_eq_false c101
   refine wq_skip (then_normal ?_)
   have s127 : F93 6 = iv (rnd (fwd (clB 1048576 b) k)) := s99.trans (congrArg (Value.int .i64) (ht.2 (by omega)))
   refine wq_region (wl_mv rfl rfl rfl s98 (wl_mv rfl rfl rfl s127 (wl_v (.pointer (some ⟨p29, k, none⟩)) rfl rfl (y_atR k (s := 1) rfl s96 rfl (by omega) Tryz.underlying28 (by omega) (by kernel_rfl) (by omega) rr) (wl_set_blk rfl rfl rfl rfl rfl B69 (by omega) (by kernel_rfl) fun w128 B129 k130 => ?_))))
   have B131 := B67.all k130 (ap36.symm p1 rfl)
   have B132 := B68.all k130 (ap37.symm p9 rfl)
   have K133 := K60.trans k130 (Grew.ok (S := fun _ => False) gr35 noB_le)
   refine wl_nil fun F134 hF135 => ?_
   obtain ⟨s136, s137, s138, s139⟩ := t4 hF135 2 s95 3 s96 29 s97 4 s98
   clear hF135
   refine in_normal (then_normal (wq_region (wl_mv rfl rfl rfl s139 (wl_v (iv ((k + 1 : Nat) : Int)) rfl rfl (y_add rfl rfl rfl (i64_n (by omega) (by omega)) rr) (wl_v (iv ((k + 1 : Nat) : Int)) rfl rfl (y_asg rfl rfl rr) (wl_nil fun F140 hF141 => ?_))))))
   obtain ⟨s142, s143, s144⟩ := t3 hF141 2 s136 3 s137 29 s138
   have s145 : F140 4 = iv ((k + 1 : Nat) : Int) := (hF141 4).trans rfl
   clear hF141
   exact then_normal ⟨(16 - (k + 1)), by omega, k + 1, by omega, rfl, s142, s143, s144, s145, K133, B131, B132, (B129.next rfl)⟩
 ·replace c77 := of_decide_eq_false c77
  refine wq_exit (then_exit (then_exit ?_))
  have l146 : 16 = k := by omega
  subst l146
  have B147 : Blk w59 p29 28 (backB b) := (B69.last)
  refine in_here (then_normal (wq_seq (wq_region (wl_v (blkV (backB b)) rfl rfl (y_load_blk blkT_arr rfl s73 B147 rr) (wl_store_blk blkT_arr rfl rfl rfl s72 rfl B68 fun w148 B149 k150 => ?_)))))
  have K153 := K60.trans k150 (Grew.ok (S := fun _ => False) gr15 noB_le)
  refine wl_nil fun F154 hF155 => ?_
  obtain ⟨s156, s157⟩ := t2 hF155 2 s72 29 s74
  clear hF155
  refine then_normal (wq_ret ?_)
  exact end_blk blkT_arr s157 rfl rfl s156 B149 ⟨rfl, K153⟩
theorem ref_more (a b : Nat → Int) (w0 : World) :
  Calls Tryz.prog 27 #[blkV (a), blkV (b)] w0 fun e w' => e = .returned (blkV (moreB a b)) ∧ Kept (fun _ => False) w0 w' := by
 refine calls_wq (args := [blkV a, blkV b]) 24 Tryz.func27 rfl rfl (Nat.le_of_ble_eq_true rfl) ?_
 have K0 := Kept.refl (fun _ => False) w0
 refine wq_seq (wq_region (wl_box_blk rfl rfl rfl rfl fun p1 w2 e5 B3 k4 => ?_))
 have g6 := onB_new (Nat.le_of_eq e5.symm)
 clear e5 g6
 have K8 := K0.tr k4
 refine wl_box_blk rfl rfl rfl rfl fun p9 w10 e13 B11 k12 => ?_
 have g14 := onB_new (Nat.le_of_eq e13.symm)
 clear e13 g14
 have B17 := B3.all k12 id
 have K18 := K8.tr k12
 refine wl_alloc_blk rfl rfl rfl blkT_arr.2.2 fun p19 w20 e23 B21 k22 => ?_
 have g24 := onB_new (Nat.le_of_eq e23.symm)
 have gr25 : Grew w0 noB (onB p19) := Grew.new K18 g24
 clear e23 g24
 have B28 := B17.all k22 id
 have B29 := B11.all k22 id
 have K30 := K18.tr k22
 refine wl_nil fun F31 hF32 => ?_
 have s33 : F31 24 = undef := (hF32 24).trans rfl
 have s34 : F31 2 = pt p1 0 := (hF32 2).trans rfl
 have s35 : F31 3 = pt p9 0 := (hF32 3).trans rfl
 have s36 : F31 4 = pt p19 0 := (hF32 4).trans rfl
 clear hF32
 refine then_normal (wq_seq (wq_region (wl_v (blkV (fun _ => 0)) rfl rfl (y_buildR (cells := (arrL 16 (fun _ => 0)).toArray) rfl (by kernel_rfl) rfl rr) (wl_alloc_blk rfl rfl rfl blkT_arr.2.2 fun p37 w38 e41 B39 k40 => ?_))))
 have g42 := onB_new (Nat.le_of_eq e41.symm)
 have gr43 : Grew w0 noB (onB p37) := Grew.new K30 g42
 have ap44 : Apart (onB p37) (onB p1) := Apart.new g42 (onB_live B28.lt)
 have ap45 : Apart (onB p37) (onB p9) := Apart.new g42 (onB_live B29.lt)
 have ap46 : Apart (onB p37) (onB p19) := Apart.new g42 (onB_live B21.lt)
 clear e41 g42
 have B47 := B28.all k40 id
 have B48 := B29.all k40 id
 have B49 := B21.all k40 id
 have K50 := K30.tr k40
 refine wl_store_blk blkT_arr rfl rfl rfl rfl rfl B39 fun w51 B52 k53 => ?_
 have B54 := B47.all k53 (ap44.symm p1 rfl)
 have B55 := B48.all k53 (ap45.symm p9 rfl)
 have B56 := B49.all k53 (ap46.symm p19 rfl)
 have K57 := K50.trans k53 (Grew.ok (S := fun _ => False) gr43 noB_le)
 refine wl_nil fun F58 hF59 => ?_
 obtain ⟨s60, s61, s62, s63⟩ := t4 hF59 24 s33 2 s34 3 s35 4 s36
 have s64 : F58 5 = pt p37 0 := (hF59 5).trans rfl
 clear hF59
 refine then_normal (wq_seq (wq_seq (wq_region (wl_v (iv 0) rfl rfl (y_asg rfl rfl rr) (wl_nil fun F65 hF66 => ?_)))))
 obtain ⟨s67, s68, s69, s70, s71⟩ := t5 hF66 24 s60 2 s61 3 s62 4 s63 5 s64
 have s72 : F65 6 = iv 0 := (hF66 6).trans rfl
 clear hF66
 refine then_normal (wq_block (wq_loop (fun nn FF ww => ∃ (k : Nat), (k ≤ 16) ∧ nn = 16 - k ∧ FF 2 = pt p1 0 ∧ FF 3 = pt p9 0 ∧ FF 4 = pt p19 0 ∧ FF 5 = pt p37 0 ∧ FF 24 = undef ∧ FF 6 = iv ((k : Nat) : Int) ∧ Kept (fun _ => False) w0 ww ∧ Blk ww p1 28 a ∧ Blk ww p9 28 b ∧ Blk ww p19 28 (fun _ => 0) ∧ Blk ww p37 28 (upto k (fun _ => 0) (moreB a b))) (16 - 0) ⟨0, by omega, rfl, s68, s69, s70, s71, s67, s72, K57, B54, B55, B56, B52.first⟩ ?_))
 rintro n76 F73 w74 ⟨k, i77, hn76, s78, s79, s80, s81, s82, s83, K75, B84, B85, B86, B87⟩
 refine wq_seq (wq_seq (wq_region (wl_mv rfl rfl rfl s83 (wl_v (.bool (decide (((k : Nat) : Int) < 16))) rfl rfl (y_lss rfl rfl rfl rfl rr) (wl_nil fun F88 hF89 => ?_)))))
 obtain ⟨s90, s91, s92, s93, s94, s95⟩ := t6 hF89 2 s78 3 s79 4 s80 5 s81 24 s82 6 s83
 have s96 : F88 9 = .bool (decide (((k : Nat) : Int) < 16)) := (hF89 9).trans rfl
 clear hF89
 refine then_normal ?_
 refine wq_cond s96 (fun c97 => ?_) (fun c97 => ?_)
 ·replace c97 := of_decide_eq_true c97
  refine wq_skip (then_normal (wq_seq (wq_block ?_)))
  have h1 : -1048576 ≤ cl 1048576 (a k) ∧ cl 1048576 (a k) ≤ 1048576 := clB_le a k
  have h2 : -1048576 ≤ cl 1048576 (b k) ∧ cl 1048576 (b k) ≤ 1048576 := clB_le b k
  refine wq_tail 11 [some 12, some 13, some 14, some 15, some 16, some 17, some 18, some 19, some 20, some 21, some 22] [Pd.eq (iv ((k : Nat) : Int)), Pd.eq (iv ((k : Nat) : Int)), Pd.eq (.pointer (some ⟨p1, k, none⟩)), Pd.eq (iv (a k)), Pd.eq (iv (cl 1048576 (a k))), Pd.eq (iv ((k : Nat) : Int)), Pd.eq (.pointer (some ⟨p9, k, none⟩)), Pd.eq (iv (b k)), Pd.eq (iv (cl 1048576 (b k))), Pd.eq (iv ((cl 1048576 (a k)) + (cl 1048576 (b k)))), Pd.eq (.pointer (some ⟨p37, k, none⟩))] (by kernel_rfl) (by kernel_rfl) (by kernel_rfl) ?_ ?_
  ·refine stepsF_cons ?_ ?_
   ·refine StepF.one rfl fun F_ w_ hR hout hD => ?_
    exact (y_mov rfl ((hout 6 rfl (by decide)).trans s95) ⟨rfl, Kept.refl _ _⟩)
   refine stepsF_cons ?_ ?_
   ·refine StepF.one rfl fun F_ w_ hR hout hD => ?_
    exact (y_mov rfl ((hout 6 rfl (by decide)).trans s95) ⟨rfl, Kept.refl _ _⟩)
   refine stepsF_cons ?_ ?_
   ·refine StepF.one rfl fun F_ w_ hR hout hD => ?_
    have g13 : F_ 13 = iv ((k : Nat) : Int) := (hD.get 0 rfl rfl rfl)
    exact (y_atR k (s := 1) rfl ((hout 2 rfl (by decide)).trans s90) g13 (by omega) Tryz.underlying28 (by omega) (by kernel_rfl) (by omega) ⟨rfl, Kept.refl _ _⟩)
   refine stepsF_cons ?_ ?_
   ·refine StepF.one rfl fun F_ w_ hR hout hD => ?_
    have g14 : F_ 14 = .pointer (some ⟨p1, k, none⟩) := (hD.get 0 rfl rfl rfl)
    exact (y_ldR rfl g14 Tryz.underlying3 ((B84.all hR id).cell (by omega)) ⟨rfl, Kept.refl _ _⟩)
   refine stepsF_cons ?_ ?_
   ·refine StepF.one rfl fun F_ w_ hR hout hD => ?_
    have g15 : F_ 15 = iv (a k) := (hD.get 0 rfl rfl rfl)
    exact (y_cs rfl rfl rfl (fun _ _ => by kernel_rfl) (ev_func _) (vsC g15 vsN) (ref_clamp (a k)  _   ) (fun e_ w_ h_ => ⟨_, h_.1, rfl, h_.2⟩))
   refine stepsF_cons ?_ ?_
   ·refine StepF.one rfl fun F_ w_ hR hout hD => ?_
    exact (y_mov rfl ((hout 6 rfl (by decide)).trans s95) ⟨rfl, Kept.refl _ _⟩)
   refine stepsF_cons ?_ ?_
   ·refine StepF.one rfl fun F_ w_ hR hout hD => ?_
    have g17 : F_ 17 = iv ((k : Nat) : Int) := (hD.get 0 rfl rfl rfl)
    exact (y_atR k (s := 1) rfl ((hout 3 rfl (by decide)).trans s91) g17 (by omega) Tryz.underlying28 (by omega) (by kernel_rfl) (by omega) ⟨rfl, Kept.refl _ _⟩)
   refine stepsF_cons ?_ ?_
   ·refine StepF.one rfl fun F_ w_ hR hout hD => ?_
    have g18 : F_ 18 = .pointer (some ⟨p9, k, none⟩) := (hD.get 0 rfl rfl rfl)
    exact (y_ldR rfl g18 Tryz.underlying3 ((B85.all hR id).cell (by omega)) ⟨rfl, Kept.refl _ _⟩)
   refine stepsF_cons ?_ ?_
   ·refine StepF.one rfl fun F_ w_ hR hout hD => ?_
    have g19 : F_ 19 = iv (b k) := (hD.get 0 rfl rfl rfl)
    exact (y_cs rfl rfl rfl (fun _ _ => by kernel_rfl) (ev_func _) (vsC g19 vsN) (ref_clamp (b k)  _   ) (fun e_ w_ h_ => ⟨_, h_.1, rfl, h_.2⟩))
   refine stepsF_cons ?_ ?_
   ·refine StepF.one rfl fun F_ w_ hR hout hD => ?_
    have g16 : F_ 16 = iv (cl 1048576 (a k)) := (hD.get 0 rfl rfl rfl)
    have g20 : F_ 20 = iv (cl 1048576 (b k)) := (hD.get 1 rfl rfl rfl)
    exact (y_add rfl g16 g20 (i64_i rfl (by omega)) ⟨rfl, Kept.refl _ _⟩)
   refine stepsF_cons ?_ ?_
   ·refine StepF.one rfl fun F_ w_ hR hout hD => ?_
    have g12 : F_ 12 = iv ((k : Nat) : Int) := (hD.get 0 rfl rfl rfl)
    exact (y_atR k (s := 1) rfl ((hout 5 rfl (by decide)).trans s93) g12 (by omega) Tryz.underlying28 (by omega) (by kernel_rfl) (by omega) ⟨rfl, Kept.refl _ _⟩)
   exact stepsF_nil
  intro v98 F99 w100 k101 G102 hF103
  have B105 := B84.all k101 id
  have B106 := B85.all k101 id
  have B107 := B86.all k101 id
  have B108 := B87.all k101 id
  have K109 := K75.tr k101
  obtain ⟨s110, s111, s112, s113, s114, s115⟩ := t6 hF103 2 s90 3 s91 4 s92 5 s93 24 s94 6 s95
  have s116 : F99 21 = iv ((cl 1048576 (a k)) + (cl 1048576 (b k))) := (hF103 21).trans (G102 9 (by decide))
  have s117 : F99 22 = .pointer (some ⟨p37, k, none⟩) := (hF103 22).trans (G102 10 (by decide))
  clear G102 hF103
  refine wl_set_blk rfl rfl rfl s117 s116 B108 (by omega) (by kernel_rfl) fun w118 B119 k120 => ?_
  have B121 := B105.all k120 (ap44.symm p1 rfl)
  have B122 := B106.all k120 (ap45.symm p9 rfl)
  have B123 := B107.all k120 (ap46.symm p19 rfl)
  have K124 := K109.trans k120 (Grew.ok (S := fun _ => False) gr43 noB_le)
  refine wl_nil fun F125 hF126 => ?_
  obtain ⟨s127, s128, s129, s130, s131, s132⟩ := t6 hF126 2 s110 3 s111 4 s112 5 s113 24 s114 6 s115
  clear hF126
  refine in_normal (then_normal (wq_region (wl_mv rfl rfl rfl s132 (wl_v (iv ((k + 1 : Nat) : Int)) rfl rfl (y_add rfl rfl rfl (i64_n (by omega) (by omega)) rr) (wl_v (iv ((k + 1 : Nat) : Int)) rfl rfl (y_asg rfl rfl rr) (wl_nil fun F133 hF134 => ?_))))))
  obtain ⟨s135, s136, s137, s138, s139⟩ := t5 hF134 2 s127 3 s128 4 s129 5 s130 24 s131
  have s140 : F133 6 = iv ((k + 1 : Nat) : Int) := (hF134 6).trans rfl
  clear hF134
  exact then_normal ⟨(16 - (k + 1)), by omega, k + 1, by omega, rfl, s135, s136, s137, s138, s139, s140, K124, B121, B122, B123, (B119.next rfl)⟩
 ·replace c97 := of_decide_eq_false c97
  refine wq_exit (then_exit (then_exit ?_))
  have l141 : 16 = k := by omega
  subst l141
  have B142 : Blk w74 p37 28 (moreB a b) := (B87.last)
  refine in_here (then_normal (wq_seq (wq_region (wl_v (blkV (moreB a b)) rfl rfl (y_load_blk blkT_arr rfl s93 B142 rr) (wl_store_blk blkT_arr rfl rfl rfl s92 rfl B86 fun w143 B144 k145 => ?_)))))
  have K149 := K75.trans k145 (Grew.ok (S := fun _ => False) gr25 noB_le)
  refine wl_nil fun F150 hF151 => ?_
  obtain ⟨s152, s153⟩ := t2 hF151 4 s92 24 s94
  clear hF151
  refine then_normal (wq_ret ?_)
  exact end_blk blkT_arr s153 rfl rfl s152 B144 ⟨rfl, K149⟩
end Go.Proofs.YtdcbabgcbkdlhaaGreatDoor
set_option maxRecDepth 100000
namespace Go.Proofs.YtdcbabgcbkdlhaaGreatDoor
open Go.RowKit
def Pd.blk (n : Nat) (t : TypeId) (b : Nat → Int) : Pd := ⟨fun v w => ∃ p, v = .pointer (some ⟨p, 0, none⟩) ∧ n ≤ p ∧ Blk w p t b, fun _ _ _ ⟨p, e, hn, h⟩ k => ⟨p, e, hn, h.all k id⟩⟩
section
variable {P : Program} {ρ : Operand → Value} {o : Oper} {w : World} {R : Value → World → Prop}
theorem y_alloc_blkP {t : TypeId} (ho : o.op = .alloc t) (hz : ∀ w, (zeroValue t).run P w = .ok (.agg (arrL 16 (fun _ => 0)).toArray) w) (h : R (.pointer (some ⟨w.heap.size, 0, none⟩)) (w.alloc (.cells (arrL 16 (fun _ => 0)).toArray t))) : Yields P ρ o w R :=
  y_of (v := .pointer (some ⟨w.heap.size, 0, none⟩)) (w' := w.alloc (.cells (arrL 16 (fun _ => 0)).toArray t)) (by simp [execOp, ho, hz, go_sem]) h
end
end Go.Proofs.YtdcbabgcbkdlhaaGreatDoor
set_option maxRecDepth 100000
namespace Go.Proofs.YtdcbabgcbkdlhaaGreatDoor
open Go.RowKit
theorem bref_predict (k x y : Int) (c : Ch) (f : FD) (f0 f1 f2 : Value) (g : FD) (g0 g1 g2 : Value) (h : FD) (h0 h1 h2 : Value) (T_f0 : Nat → Prop) (T_f1 : Nat → Prop) (T_f2 : Nat → Prop) (T_g0 : Nat → Prop) (T_g1 : Nat → Prop) (T_g2 : Nat → Prop) (T_h0 : Nat → Prop) (T_h1 : Nat → Prop) (T_h2 : Nat → Prop) (w0 : World) (h_f0 : Byt w0 T_f0 f0 ((f).p0)) (h_f1 : Byt w0 T_f1 f1 ((f).p1)) (h_f2 : Byt w0 T_f2 f2 ((f).p2)) (h_g0 : Byt w0 T_g0 g0 ((g).p0)) (h_g1 : Byt w0 T_g1 g1 ((g).p1)) (h_g2 : Byt w0 T_g2 g2 ((g).p2)) (h_h0 : Byt w0 T_h0 h0 ((h).p0)) (h_h1 : Byt w0 T_h1 h1 ((h).p1)) (h_h2 : Byt w0 T_h2 h2 ((h).p2)) :
  Calls Tryz.prog 7 #[.agg #[.int .i64 ((f).W), .int .i64 ((f).H), f0, f1, f2], .agg #[.int .i64 ((g).W), .int .i64 ((g).H), g0, g1, g2], .agg #[.int .i64 ((h).W), .int .i64 ((h).H), h0, h1, h2], .int .i64 (k), .int .i64 (x), .int .i64 (y), .agg (chW (c)).toArray] w0 fun e w' => e = .returned (.tuple #[blkV (cpB f g h k x y c), .int .i64 (cpE f g h k x y c)]) ∧ Kept (fun _ => False) w0 w' := by
 refine calls_wq (args := [.agg #[iv (f.W), iv (f.H), f0, f1, f2], .agg #[iv (g.W), iv (g.H), g0, g1, g2], .agg #[iv (h.W), iv (h.H), h0, h1, h2], iv k, iv x, iv y, .agg (chW c).toArray]) 85 Tryz.func7 rfl rfl (Nat.le_of_ble_eq_true rfl) ?_
 have K0 := Kept.refl (fun _ => False) w0
 have g_f0 := Grew.refl w0 T_f0
 have g_f1 := Grew.refl w0 T_f1
 have g_f2 := Grew.refl w0 T_f2
 have g_g0 := Grew.refl w0 T_g0
 have g_g1 := Grew.refl w0 T_g1
 have g_g2 := Grew.refl w0 T_g2
 have g_h0 := Grew.refl w0 T_h0
 have g_h1 := Grew.refl w0 T_h1
 have g_h2 := Grew.refl w0 T_h2
 refine wq_seq (wq_region (wl_box_stc (vs := [iv (f.W), iv (f.H), f0, f1, f2]) rfl rfl rfl rfl fun p1 w2 B4 g5 k3 => ?_))
 have B16 := h_f0.all k3 Apart.none
 have B17 := h_f1.all k3 Apart.none
 have B18 := h_f2.all k3 Apart.none
 have B19 := h_g0.all k3 Apart.none
 have B20 := h_g1.all k3 Apart.none
 have B21 := h_g2.all k3 Apart.none
 have B22 := h_h0.all k3 Apart.none
 have B23 := h_h1.all k3 Apart.none
 have B24 := h_h2.all k3 Apart.none
 have K25 := K0.tr k3
 refine wl_box_stc (vs := [iv (g.W), iv (g.H), g0, g1, g2]) rfl rfl rfl rfl fun p26 w27 B29 g30 k28 => ?_
 have B42 := B16.all k28 Apart.none
 have B43 := B17.all k28 Apart.none
 have B44 := B18.all k28 Apart.none
 have B45 := B19.all k28 Apart.none
 have B46 := B20.all k28 Apart.none
 have B47 := B21.all k28 Apart.none
 have B48 := B22.all k28 Apart.none
 have B49 := B23.all k28 Apart.none
 have B50 := B24.all k28 Apart.none
 have B51 := B4.all k28 id
 have K52 := K25.tr k28
 refine wl_box_stc (vs := [iv (h.W), iv (h.H), h0, h1, h2]) rfl rfl rfl rfl fun p53 w54 B56 g57 k55 => ?_
 have B70 := B42.all k55 Apart.none
 have B71 := B43.all k55 Apart.none
 have B72 := B44.all k55 Apart.none
 have B73 := B45.all k55 Apart.none
 have B74 := B46.all k55 Apart.none
 have B75 := B47.all k55 Apart.none
 have B76 := B48.all k55 Apart.none
 have B77 := B49.all k55 Apart.none
 have B78 := B50.all k55 Apart.none
 have B79 := B51.all k55 id
 have B80 := B29.all k55 id
 have K81 := K52.tr k55
 refine wl_box_stc (vs := (chW c)) rfl rfl rfl rfl fun p82 w83 B85 g86 k84 => ?_
 have B100 := B70.all k84 Apart.none
 have B101 := B71.all k84 Apart.none
 have B102 := B72.all k84 Apart.none
 have B103 := B73.all k84 Apart.none
 have B104 := B74.all k84 Apart.none
 have B105 := B75.all k84 Apart.none
 have B106 := B76.all k84 Apart.none
 have B107 := B77.all k84 Apart.none
 have B108 := B78.all k84 Apart.none
 have B109 := B79.all k84 id
 have B110 := B80.all k84 id
 have B111 := B56.all k84 id
 have K112 := K81.tr k84
 refine wl_alloc_blk rfl rfl rfl blkT_arr.2.2 fun p113 w114 e117 B115 k116 => ?_
 have g118 := onB_new (Nat.le_of_eq e117.symm)
 have gr119 : Grew w0 noB (onB p113) := Grew.new K112 g118
 clear e117 g118
 have B133 := B100.all k116 Apart.none
 have B134 := B101.all k116 Apart.none
 have B135 := B102.all k116 Apart.none
 have B136 := B103.all k116 Apart.none
 have B137 := B104.all k116 Apart.none
 have B138 := B105.all k116 Apart.none
 have B139 := B106.all k116 Apart.none
 have B140 := B107.all k116 Apart.none
 have B141 := B108.all k116 Apart.none
 have B142 := B109.all k116 id
 have B143 := B110.all k116 id
 have B144 := B111.all k116 id
 have B145 := B85.all k116 id
 have K146 := K112.tr k116
 refine wl_v (iv 0) rfl rfl (y_asg rfl rfl rr) (wl_nil fun F147 hF148 => ?_)
 have s149 : F147 3 = iv k := (hF148 3).trans rfl
 have s150 : F147 4 = iv x := (hF148 4).trans rfl
 have s151 : F147 5 = iv y := (hF148 5).trans rfl
 have s152 : F147 85 = undef := (hF148 85).trans rfl
 have s153 : F147 7 = pt p1 0 := (hF148 7).trans rfl
 have s154 : F147 8 = pt p26 0 := (hF148 8).trans rfl
 have s155 : F147 9 = pt p53 0 := (hF148 9).trans rfl
 have s156 : F147 13 = pt p82 0 := (hF148 13).trans rfl
 have s157 : F147 14 = pt p113 0 := (hF148 14).trans rfl
 clear hF148
 refine then_normal (wq_seq (wq_seq ?_))
 by_cases d158 : (c.m) < 0
 ·skip
  refine wq_region (wl_v (pt p82 0) rfl rfl (y_fieldR (n := 1) rfl s156 Tryz.underlying31 rfl (by kernel_rfl) (by decide) rfl rr) (wl_v (iv (c.m)) rfl rfl (y_ld_stc rfl rfl Tryz.underlying3 B145 rfl rfl rr) (wl_v (.bool true) rfl rfl (y_lss rfl rfl rfl (decide_eq_true d158) rr) (wl_v (.bool true) rfl rfl (y_mov rfl rfl rr) (wl_unless 3 false 23 rfl rfl rfl (Or.inl rfl) rfl (wl_unless 3 false 23 rfl rfl rfl (Or.inl rfl) rfl (wl_unless 3 false 23 rfl rfl rfl (Or.inl rfl) rfl (wl_v (.bool true) rfl rfl (y_pickT rfl rfl rfl rr) (wl_nil fun F159 hF160 => ?_)))))))))
  obtain ⟨s164, s169⟩ := t2 hF160 85 s152 14 s157
  have s170 : F159 27 = .bool true := (hF160 27).trans rfl
  clear hF160
  refine then_normal ?_
  refine wq_cond (t := true) s170 (fun _ => ?_) (fun e => by cases e)
  refine wq_seq ?_
  have hR := cp_bad (f := f) (p := g) (n := h) (k := k) (x := x) (y := y) (c := c) (by omega)
  refine wq_region (wl_v (blkV (fun _ => 0)) rfl rfl (y_buildR (cells := (arrL 16 (fun _ => 0)).toArray) rfl (by kernel_rfl) rfl rr) (wl_store_blk blkT_arr rfl rfl rfl s169 rfl B115 fun w171 B172 k173 => ?_))
  have K187 := K146.trans k173 (Grew.ok (S := fun _ => False) gr119 noB_le)
  refine wl_v (iv 120) rfl rfl (y_asg rfl rfl rr) (wl_nil fun F188 hF189 => ?_)
  obtain ⟨s190, s191⟩ := t2 hF189 85 s164 14 s169
  have s192 : F188 15 = iv 120 := (hF189 15).trans rfl
  clear hF189
  refine then_normal (wq_ret (then_ret ?_))
  exact end_2 s190 rfl (res_blk blkT_arr rfl s191 B172) (res_tmp (v := iv 120) rfl s192) ⟨(by first | (rw [hR.1, hR.2, hME (by assumption)]; done) | (rw [hR.1, hR.2]; done)), K187⟩
 ·skip
  refine wq_region (wl_v (pt p82 0) rfl rfl (y_fieldR (n := 1) rfl s156 Tryz.underlying31 rfl (by kernel_rfl) (by decide) rfl rr) (wl_v (iv (c.m)) rfl rfl (y_ld_stc rfl rfl Tryz.underlying3 B145 rfl rfl rr) (wl_v (.bool false) rfl rfl (y_lss rfl rfl rfl (decide_eq_false d158) rr) (wl_v (.bool false) rfl rfl (y_mov rfl rfl rr) (wl_vw (pt p82 0) 3 false 23 rfl rfl rfl rfl rfl (y_fieldR (n := 1) rfl s156 Tryz.underlying31 rfl (by kernel_rfl) (by decide) rfl rr) (wl_vw (iv (c.m)) 3 false 23 rfl rfl rfl rfl rfl (y_ld_stc rfl rfl Tryz.underlying3 B145 rfl rfl rr) (wl_vw (.bool (decide (6 < (c.m)))) 3 false 23 rfl rfl rfl rfl rfl (y_gtr rfl rfl rfl rfl rr) (wl_v (.bool (decide (6 < (c.m)))) rfl rfl (y_pickF rfl rfl rfl rr) (wl_nil fun F193 hF194 => ?_)))))))))
  obtain ⟨s195, s196, s197, s198, s199, s200, s201, s202, s203⟩ := t9 hF194 3 s149 4 s150 5 s151 85 s152 7 s153 8 s154 9 s155 13 s156 14 s157
  have s204 : F193 27 = .bool (decide (6 < (c.m))) := (hF194 27).trans rfl
  clear hF194
  refine then_normal ?_
  refine wq_cond s204 (fun c205 => ?_) (fun c205 => ?_)
  ·replace c205 := of_decide_eq_true c205
   refine wq_seq ?_
   have hR := cp_bad (f := f) (p := g) (n := h) (k := k) (x := x) (y := y) (c := c) (by omega)
   refine wq_region (wl_v (blkV (fun _ => 0)) rfl rfl (y_buildR (cells := (arrL 16 (fun _ => 0)).toArray) rfl (by kernel_rfl) rfl rr) (wl_store_blk blkT_arr rfl rfl rfl s203 rfl B115 fun w206 B207 k208 => ?_))
   have K222 := K146.trans k208 (Grew.ok (S := fun _ => False) gr119 noB_le)
   refine wl_v (iv 120) rfl rfl (y_asg rfl rfl rr) (wl_nil fun F223 hF224 => ?_)
   obtain ⟨s225, s226⟩ := t2 hF224 85 s198 14 s203
   have s227 : F223 15 = iv 120 := (hF224 15).trans rfl
   clear hF224
   refine then_normal (wq_ret (then_ret ?_))
   exact end_2 s225 rfl (res_blk blkT_arr rfl s226 B207) (res_tmp (v := iv 120) rfl s227) ⟨(by first | (rw [hR.1, hR.2, hME (by assumption)]; done) | (rw [hR.1, hR.2]; done)), K222⟩
  ·replace c205 := of_decide_eq_false c205
   refine wq_skip (then_normal (wq_seq (wq_seq (wq_region (wl_v (pt p82 0) rfl rfl (y_fieldR (n := 1) rfl s202 Tryz.underlying31 rfl (by kernel_rfl) (by decide) rfl rr) (wl_v (iv (c.m)) rfl rfl (y_ld_stc rfl rfl Tryz.underlying3 B145 rfl rfl rr) (wl_v (.bool (decide ((c.m) < 4))) rfl rfl (y_lss rfl rfl rfl rfl rr) (wl_nil fun F228 hF229 => ?_))))))))
   obtain ⟨s230, s231, s232, s233, s234, s235, s236, s237, s238⟩ := t9 hF229 3 s195 4 s196 5 s197 85 s198 7 s199 8 s200 9 s201 13 s202 14 s203
   have s239 : F228 31 = .bool (decide ((c.m) < 4)) := (hF229 31).trans rfl
   clear hF229
   refine then_normal ?_
   refine wq_cond s239 (fun c240 => ?_) (fun c240 => ?_)
   ·replace c240 := of_decide_eq_true c240
    refine wq_seq ?_
    have hR := cp_own (f := f) (p := g) (n := h) (k := k) (x := x) (y := y) (c := c) (by omega)
    refine wq_region (wl_v (.agg #[iv (f.W), iv (f.H), f0, f1, f2]) rfl rfl (y_load_stc stcT_frame rfl s234 B142 rr) (wl_mv rfl rfl rfl s230 (wl_mv rfl rfl rfl s231 (wl_mv rfl rfl rfl s232 (wl_v (pt p82 0) rfl rfl (y_fieldR (n := 1) rfl s237 Tryz.underlying31 rfl (by kernel_rfl) (by decide) rfl rr) (wl_v (iv (c.m)) rfl rfl (y_ld_stc rfl rfl Tryz.underlying3 B145 rfl rfl rr) (wl_cs rfl rfl rfl rfl rfl (fun _ _ => by kernel_rfl) (vsC rfl (vsC rfl (vsC rfl (vsC rfl (vsC rfl vsN))))) (iref_predict k x y (c.m) f f0 f1 f2 T_f0 T_f1 T_f2 _  B133 B134 B135 ) fun w241 k242 => ?_)))))))
    have B256 := B115.all k242 id
    have K257 := K146.tr k242
    refine wl_v (blkV (predB f k x y (c.m))) rfl rfl (y_ext rfl rfl rfl rr) (wl_v (iv (predE f k x y (c.m))) rfl rfl (y_ext rfl rfl rfl rr) (wl_store_blk blkT_arr rfl rfl rfl s238 rfl B256 fun w258 B259 k260 => ?_))
    have K274 := K257.trans k260 (Grew.ok (S := fun _ => False) gr119 noB_le)
    refine wl_v (iv (predE f k x y (c.m))) rfl rfl (y_asg rfl rfl rr) (wl_nil fun F275 hF276 => ?_)
    obtain ⟨s277, s278⟩ := t2 hF276 85 s233 14 s238
    have s279 : F275 15 = iv (predE f k x y (c.m)) := (hF276 15).trans rfl
    clear hF276
    refine then_normal (wq_ret (then_ret ?_))
    exact end_2 s277 rfl (res_blk blkT_arr rfl s278 B259) (res_tmp (v := iv (predE f k x y (c.m))) rfl s279) ⟨(by first | (rw [hR.1, hR.2, hME (by assumption)]; done) | (rw [hR.1, hR.2]; done)), K274⟩
   ·replace c240 := of_decide_eq_false c240
    refine wq_skip (then_normal (wq_seq (wq_region (wl_v (.agg #[iv (g.W), iv (g.H), g0, g1, g2]) rfl rfl (y_load_stc stcT_frame rfl s235 B143 rr) (wl_mv rfl rfl rfl s230 (wl_mv rfl rfl rfl s231 (wl_mv rfl rfl rfl s232 (wl_v (pt p82 1) rfl rfl (y_fieldR (n := 2) rfl s237 Tryz.underlying31 rfl (by kernel_rfl) (by decide) rfl rr) (wl_v (.agg #[iv (c.px), iv (c.py)]) rfl rfl (y_ldPart (n := 2) stcT_vector rfl rfl B145 (Nat.le_of_ble_eq_true rfl) rfl rr) (wl_cs rfl rfl rfl rfl rfl (fun _ _ => by kernel_rfl) (vsC rfl (vsC rfl (vsC rfl (vsC rfl (vsC rfl vsN))))) (mref_predict k x y (c.px) (c.py) g g0 g1 g2 T_g0 T_g1 T_g2 _  B136 B137 B138 ) fun w280 k281 => ?_))))))))))
    have B288 := B139.all k281 Apart.none
    have B289 := B140.all k281 Apart.none
    have B290 := B141.all k281 Apart.none
    have B293 := B144.all k281 id
    have B294 := B145.all k281 id
    have B295 := B115.all k281 id
    have K296 := K146.tr k281
    refine wl_v (.tuple #[blkV (mvB g k x y (c.px) (c.py)), iv (mvE g k x y (c.px) (c.py))]) rfl rfl (y_mov rfl rfl rr) (wl_v (blkV (mvB g k x y (c.px) (c.py))) rfl rfl (y_ext rfl rfl rfl rr) (wl_v (iv (mvE g k x y (c.px) (c.py))) rfl rfl (y_ext rfl rfl rfl rr) (wl_alloc_blk rfl rfl rfl blkT_arr.2.2 fun p297 w298 e301 B299 k300 => ?_)))
    have g302 := onB_new (Nat.le_of_eq e301.symm)
    have gr303 : Grew w0 noB (onB p297) := Grew.new K296 g302
    have ap310 : Apart (onB p297) T_h0 := Apart.new g302 B288.live
    have ap311 : Apart (onB p297) T_h1 := Apart.new g302 B289.live
    have ap312 : Apart (onB p297) T_h2 := Apart.new g302 B290.live
    have ap315 : Apart (onB p297) (onB p53) := Apart.new g302 (onB_live B293.lt)
    have ap316 : Apart (onB p297) (onB p82) := Apart.new g302 (onB_live B294.lt)
    have ap317 : Apart (onB p297) (onB p113) := Apart.new g302 (onB_live B295.lt)
    clear e301 g302
    have B324 := B288.all k300 Apart.none
    have B325 := B289.all k300 Apart.none
    have B326 := B290.all k300 Apart.none
    have B329 := B293.all k300 id
    have B330 := B294.all k300 id
    have B331 := B295.all k300 id
    have K332 := K296.tr k300
    refine wl_store_blk blkT_arr rfl rfl rfl rfl rfl B299 fun w333 B334 k335 => ?_
    have B342 := B324.all k335 ap310.symm
    have B343 := B325.all k335 ap311.symm
    have B344 := B326.all k335 ap312.symm
    have B347 := B329.all k335 (ap315.symm p53 rfl)
    have B348 := B330.all k335 (ap316.symm p82 rfl)
    have B349 := B331.all k335 (ap317.symm p113 rfl)
    have K350 := K332.trans k335 (Grew.ok (S := fun _ => False) gr303 noB_le)
    refine wl_v (iv (mvE g k x y (c.px) (c.py))) rfl rfl (y_asg rfl rfl rr) (wl_nil fun F351 hF352 => ?_)
    obtain ⟨s353, s354, s355, s356, s357, s358, s359⟩ := t7 hF352 3 s230 4 s231 5 s232 85 s233 9 s236 13 s237 14 s238
    have s360 : F351 16 = pt p297 0 := (hF352 16).trans rfl
    have s361 : F351 17 = iv (mvE g k x y (c.px) (c.py)) := (hF352 17).trans rfl
    clear hF352
    refine then_normal (wq_seq (wq_region (wl_v (.agg #[iv (h.W), iv (h.H), h0, h1, h2]) rfl rfl (y_load_stc stcT_frame rfl s357 B347 rr) (wl_mv rfl rfl rfl s353 (wl_mv rfl rfl rfl s354 (wl_mv rfl rfl rfl s355 (wl_v (pt p82 3) rfl rfl (y_fieldR (n := 2) rfl s358 Tryz.underlying31 rfl (by kernel_rfl) (by decide) rfl rr) (wl_v (.agg #[iv (c.nx), iv (c.ny)]) rfl rfl (y_ldPart (n := 2) stcT_vector rfl rfl B348 (Nat.le_of_ble_eq_true rfl) rfl rr) (wl_cs rfl rfl rfl rfl rfl (fun _ _ => by kernel_rfl) (vsC rfl (vsC rfl (vsC rfl (vsC rfl (vsC rfl vsN))))) (mref_predict k x y (c.nx) (c.ny) h h0 h1 h2 T_h0 T_h1 T_h2 _  B342 B343 B344 ) fun w362 k363 => ?_)))))))))
    have B376 := B348.all k363 id
    have B377 := B349.all k363 id
    have B378 := B334.all k363 id
    have K379 := K350.tr k363
    refine wl_v (.tuple #[blkV (mvB h k x y (c.nx) (c.ny)), iv (mvE h k x y (c.nx) (c.ny))]) rfl rfl (y_mov rfl rfl rr) (wl_v (blkV (mvB h k x y (c.nx) (c.ny))) rfl rfl (y_ext rfl rfl rfl rr) (wl_v (iv (mvE h k x y (c.nx) (c.ny))) rfl rfl (y_ext rfl rfl rfl rr) (wl_alloc_blk rfl rfl rfl blkT_arr.2.2 fun p380 w381 e384 B382 k383 => ?_)))
    have g385 := onB_new (Nat.le_of_eq e384.symm)
    have gr386 : Grew w0 noB (onB p380) := Grew.new K379 g385
    have ap399 : Apart (onB p380) (onB p82) := Apart.new g385 (onB_live B376.lt)
    have ap400 : Apart (onB p380) (onB p113) := Apart.new g385 (onB_live B377.lt)
    have ap401 : Apart (onB p380) (onB p297) := Apart.new g385 (onB_live B378.lt)
    clear e384 g385
    have B414 := B376.all k383 id
    have B415 := B377.all k383 id
    have B416 := B378.all k383 id
    have K417 := K379.tr k383
    refine wl_store_blk blkT_arr rfl rfl rfl rfl rfl B382 fun w418 B419 k420 => ?_
    have B433 := B414.all k420 (ap399.symm p82 rfl)
    have B434 := B415.all k420 (ap400.symm p113 rfl)
    have B435 := B416.all k420 (ap401.symm p297 rfl)
    have K436 := K417.trans k420 (Grew.ok (S := fun _ => False) gr386 noB_le)
    refine wl_v (iv (mvE h k x y (c.nx) (c.ny))) rfl rfl (y_asg rfl rfl rr) (wl_nil fun F437 hF438 => ?_)
    obtain ⟨s439, s440, s441, s442, s443⟩ := t5 hF438 85 s356 13 s358 14 s359 16 s360 17 s361
    have s444 : F437 18 = pt p380 0 := (hF438 18).trans rfl
    have s445 : F437 19 = iv (mvE h k x y (c.nx) (c.ny)) := (hF438 19).trans rfl
    clear hF438
    refine then_normal (wq_seq (wq_block (wq_seq (wq_region (wl_v (pt p82 0) rfl rfl (y_fieldR (n := 1) rfl s440 Tryz.underlying31 rfl (by kernel_rfl) (by decide) rfl rr) (wl_v (iv (c.m)) rfl rfl (y_ld_stc rfl rfl Tryz.underlying3 B433 rfl rfl rr) (wl_v (.bool (decide ((c.m) = 5))) rfl rfl (y_eqlI rfl rfl rfl rfl rr) (wl_v (.bool (decide ((c.m) = 5))) rfl rfl (y_asg rfl rfl rr) (wl_nil fun F446 hF447 => ?_)))))))))
    obtain ⟨s448, s449, s450, s451, s452, s453, s454⟩ := t7 hF447 85 s439 13 s440 14 s441 16 s442 17 s443 18 s444 19 s445
    have s455 : F446 61 = .bool (decide ((c.m) = 5)) := (hF447 61).trans rfl
    clear hF447
    refine then_normal ?_
    refine wq_cond s455 (fun c456 => ?_) (fun c456 => ?_)
    ·replace c456 := of_decide_eq_true c456
     refine wq_seq ?_
     have hR := cp_next (f := f) (p := g) (n := h) (k := k) (x := x) (y := y) (c := c) (by omega)
     refine wq_region (wl_v (blkV (mvB h k x y (c.nx) (c.ny))) rfl rfl (y_load_blk blkT_arr rfl s453 B419 rr) (wl_mv rfl rfl rfl s454 (wl_store_blk blkT_arr rfl rfl rfl s450 rfl B434 fun w457 B458 k459 => ?_)))
     have K475 := K436.trans k459 (Grew.ok (S := fun _ => False) gr119 noB_le)
     refine wl_v (iv (mvE h k x y (c.nx) (c.ny))) rfl rfl (y_asg rfl rfl rr) (wl_nil fun F476 hF477 => ?_)
     obtain ⟨s478, s479⟩ := t2 hF477 85 s448 14 s450
     have s480 : F476 15 = iv (mvE h k x y (c.nx) (c.ny)) := (hF477 15).trans rfl
     clear hF477
     refine then_normal (wq_ret (in_ret (then_ret ?_)))
     exact end_2 s478 rfl (res_blk blkT_arr rfl s479 B458) (res_tmp (v := iv (mvE h k x y (c.nx) (c.ny))) rfl s480) ⟨(by first | (rw [hR.1, hR.2, hME (by assumption)]; done) | (rw [hR.1, hR.2]; done)), K475⟩
    ·replace c456 := of_decide_eq_false c456
     refine wq_seq ?_
     by_cases d481 : (mvE g k x y (c.px) (c.py)) ≠ 0
     ·skip
      refine wq_region (wl_mv rfl rfl rfl s452 (wl_v (.bool true) rfl rfl (y_neqI rfl rfl rfl (decide_eq_true d481) rr) (wl_v (.bool true) rfl rfl (y_mov rfl rfl rr) (wl_unless 2 false 70 rfl rfl rfl (Or.inl rfl) rfl (wl_unless 2 false 70 rfl rfl rfl (Or.inl rfl) rfl (wl_unless 2 false 70 rfl rfl rfl (Or.inl rfl) rfl (wl_v (.bool true) rfl rfl (y_pickT rfl rfl rfl rr) (wl_v (.bool true) rfl rfl (y_asg rfl rfl rr) (wl_nil fun F482 hF483 => ?_)))))))))
      obtain ⟨s484, s485, s486, s487⟩ := t4 hF483 85 s448 14 s450 16 s451 17 s452
      have s490 : F482 67 = .bool true := (hF483 67).trans rfl
      clear hF483
      refine then_normal ?_
      refine wq_cond (t := true) s490 (fun _ => ?_) (fun e => by cases e)
      refine wq_seq ?_
      first | have hR := cp_past (f := f) (p := g) (n := h) (k := k) (x := x) (y := y) (c := c) (by omega) | have hR := cp_pastE (f := f) (p := g) (n := h) (k := k) (x := x) (y := y) (c := c) (by omega) (by assumption)
      have hME : mvE g k x y c.px c.py ≠ 0 → mvB g k x y c.px c.py = fun _ => 0 := fun z => mv_err z
      refine wq_region (wl_v (blkV (mvB g k x y (c.px) (c.py))) rfl rfl (y_load_blk blkT_arr rfl s486 B435 rr) (wl_mv rfl rfl rfl s487 (wl_store_blk blkT_arr rfl rfl rfl s485 rfl B434 fun w491 B492 k493 => ?_)))
      have K509 := K436.trans k493 (Grew.ok (S := fun _ => False) gr119 noB_le)
      refine wl_v (iv (mvE g k x y (c.px) (c.py))) rfl rfl (y_asg rfl rfl rr) (wl_nil fun F510 hF511 => ?_)
      obtain ⟨s512, s513⟩ := t2 hF511 85 s484 14 s485
      have s514 : F510 15 = iv (mvE g k x y (c.px) (c.py)) := (hF511 15).trans rfl
      clear hF511
      refine then_normal (wq_ret (in_ret (then_ret ?_)))
      exact end_2 s512 rfl (res_blk blkT_arr rfl s513 B492) (res_tmp (v := iv (mvE g k x y (c.px) (c.py))) rfl s514) ⟨(by first | (rw [hR.1, hR.2, hME (by assumption)]; done) | (rw [hR.1, hR.2]; done)), K509⟩
     ·skip
      refine wq_region (wl_mv rfl rfl rfl s452 (wl_v (.bool false) rfl rfl (y_neqI rfl rfl rfl (decide_eq_false d481) rr) (wl_v (.bool false) rfl rfl (y_mov rfl rfl rr) (wl_vw (pt p82 0) 2 false 70 rfl rfl rfl rfl rfl (y_fieldR (n := 1) rfl s449 Tryz.underlying31 rfl (by kernel_rfl) (by decide) rfl rr) (wl_vw (iv (c.m)) 2 false 70 rfl rfl rfl rfl rfl (y_ld_stc rfl rfl Tryz.underlying3 B433 rfl rfl rr) (wl_vw (.bool (decide ((c.m) = 4))) 2 false 70 rfl rfl rfl rfl rfl (y_eqlI rfl rfl rfl rfl rr) (wl_v (.bool (decide ((c.m) = 4))) rfl rfl (y_pickF rfl rfl rfl rr) (wl_v (.bool (decide ((c.m) = 4))) rfl rfl (y_asg rfl rfl rr) (wl_nil fun F515 hF516 => ?_)))))))))
      obtain ⟨s517, s518, s519, s520, s521, s522⟩ := t6 hF516 85 s448 14 s450 16 s451 17 s452 18 s453 19 s454
      have s523 : F515 67 = .bool (decide ((c.m) = 4)) := (hF516 67).trans rfl
      clear hF516
      refine then_normal ?_
      refine wq_cond s523 (fun c524 => ?_) (fun c524 => ?_)
      ·replace c524 := of_decide_eq_true c524
       refine wq_seq ?_
       first | have hR := cp_past (f := f) (p := g) (n := h) (k := k) (x := x) (y := y) (c := c) (by omega) | have hR := cp_pastE (f := f) (p := g) (n := h) (k := k) (x := x) (y := y) (c := c) (by omega) (by assumption)
       have hME : mvE g k x y c.px c.py ≠ 0 → mvB g k x y c.px c.py = fun _ => 0 := fun z => mv_err z
       refine wq_region (wl_v (blkV (mvB g k x y (c.px) (c.py))) rfl rfl (y_load_blk blkT_arr rfl s519 B435 rr) (wl_mv rfl rfl rfl s520 (wl_store_blk blkT_arr rfl rfl rfl s518 rfl B434 fun w525 B526 k527 => ?_)))
       have K543 := K436.trans k527 (Grew.ok (S := fun _ => False) gr119 noB_le)
       refine wl_v (iv (mvE g k x y (c.px) (c.py))) rfl rfl (y_asg rfl rfl rr) (wl_nil fun F544 hF545 => ?_)
       obtain ⟨s546, s547⟩ := t2 hF545 85 s517 14 s518
       have s548 : F544 15 = iv (mvE g k x y (c.px) (c.py)) := (hF545 15).trans rfl
       clear hF545
       refine then_normal (wq_ret (in_ret (then_ret ?_)))
       exact end_2 s546 rfl (res_blk blkT_arr rfl s547 B526) (res_tmp (v := iv (mvE g k x y (c.px) (c.py))) rfl s548) ⟨(by first | (rw [hR.1, hR.2, hME (by assumption)]; done) | (rw [hR.1, hR.2]; done)), K543⟩
      ·replace c524 := of_decide_eq_false c524
       refine wq_seq (wq_region (wl_mv rfl rfl rfl s522 (wl_v (.bool (decide ((mvE h k x y (c.nx) (c.ny)) ≠ 0))) rfl rfl (y_neqI rfl rfl rfl rfl rr) (wl_v (.bool (decide ((mvE h k x y (c.nx) (c.ny)) ≠ 0))) rfl rfl (y_asg rfl rfl rr) (wl_nil fun F549 hF550 => ?_)))))
       obtain ⟨s551, s552, s553, s554, s555⟩ := t5 hF550 85 s517 14 s518 16 s519 18 s521 19 s522
       have s556 : F549 77 = .bool (decide ((mvE h k x y (c.nx) (c.ny)) ≠ 0)) := (hF550 77).trans rfl
       clear hF550
       refine then_normal ?_
       refine wq_cond s556 (fun c557 => ?_) (fun c557 => ?_)
       ·replace c557 := of_decide_eq_true c557
        refine wq_seq ?_
        have hR := cp_both2 (f := f) (p := g) (n := h) (k := k) (x := x) (y := y) (c := c) (by omega) (by first | assumption | (apply Decidable.byContradiction; assumption)) (by assumption)
        refine wq_region (wl_v (blkV (fun _ => 0)) rfl rfl (y_buildR (cells := (arrL 16 (fun _ => 0)).toArray) rfl (by kernel_rfl) rfl rr) (wl_mv rfl rfl rfl s555 (wl_store_blk blkT_arr rfl rfl rfl s552 rfl B434 fun w558 B559 k560 => ?_)))
        have K576 := K436.trans k560 (Grew.ok (S := fun _ => False) gr119 noB_le)
        refine wl_v (iv (mvE h k x y (c.nx) (c.ny))) rfl rfl (y_asg rfl rfl rr) (wl_nil fun F577 hF578 => ?_)
        obtain ⟨s579, s580⟩ := t2 hF578 85 s551 14 s552
        have s581 : F577 15 = iv (mvE h k x y (c.nx) (c.ny)) := (hF578 15).trans rfl
        clear hF578
        refine then_normal (wq_ret (in_ret (then_ret ?_)))
        exact end_2 s579 rfl (res_blk blkT_arr rfl s580 B559) (res_tmp (v := iv (mvE h k x y (c.nx) (c.ny))) rfl s581) ⟨(by first | (rw [hR.1, hR.2, hME (by assumption)]; done) | (rw [hR.1, hR.2]; done)), K576⟩
       ·replace c557 := of_decide_eq_false c557
        refine wq_skip (in_normal (then_normal (wq_seq ?_)))
        have hR := cp_both (f := f) (p := g) (n := h) (k := k) (x := x) (y := y) (c := c) (by omega) (by first | assumption | (apply Decidable.byContradiction; assumption)) (by first | assumption | (apply Decidable.byContradiction; assumption))
        refine wq_region (wl_v (blkV (mvB g k x y (c.px) (c.py))) rfl rfl (y_load_blk blkT_arr rfl s553 B435 rr) (wl_v (blkV (mvB h k x y (c.nx) (c.ny))) rfl rfl (y_load_blk blkT_arr rfl s554 B419 rr) (wl_cs rfl rfl rfl rfl rfl (fun _ _ => by kernel_rfl) (vsC rfl (vsC rfl vsN)) (mref_both (mvB g k x y (c.px) (c.py)) (mvB h k x y (c.nx) (c.ny))  _   ) fun w582 k583 => ?_)))
        have B597 := B434.all k583 id
        have K600 := K436.tr k583
        refine wl_store_blk blkT_arr rfl rfl rfl s552 rfl B597 fun w601 B602 k603 => ?_
        have K619 := K600.trans k603 (Grew.ok (S := fun _ => False) gr119 noB_le)
        refine wl_v (iv 0) rfl rfl (y_asg rfl rfl rr) (wl_nil fun F620 hF621 => ?_)
        obtain ⟨s622, s623⟩ := t2 hF621 85 s551 14 s552
        have s624 : F620 15 = iv 0 := (hF621 15).trans rfl
        clear hF621
        refine then_normal (wq_ret ?_)
        exact end_2 s622 rfl (res_blk blkT_arr rfl s623 B602) (res_tmp (v := iv 0) rfl s624) ⟨(by first | (rw [hR.1, hR.2, hME (by assumption)]; done) | (rw [hR.1, hR.2]; done)), K619⟩
theorem bref_build (b : Nat → Int) (c : Ch) (q : Int) (w0 : World) :
  Calls Tryz.prog 9 #[blkV (b), .agg (chW (c)).toArray, .int .i64 (q)] w0 fun e w' => e = .returned (.tuple #[blkV (buB b c.b q), .int .i64 (ern q)]) ∧ Kept (fun _ => False) w0 w' := by
 refine calls_wq (args := [blkV b, .agg (chW c).toArray, iv q]) 39 Tryz.func9 rfl rfl (Nat.le_of_ble_eq_true rfl) ?_
 have K0 := Kept.refl (fun _ => False) w0
 refine wq_seq (wq_region (wl_box_blk rfl rfl rfl rfl fun p1 w2 e5 B3 k4 => ?_))
 have g6 := onB_new (Nat.le_of_eq e5.symm)
 clear e5 g6
 have K8 := K0.tr k4
 refine wl_box_stc (vs := (chW c)) rfl rfl rfl rfl fun p9 w10 B12 g13 k11 => ?_
 have B16 := B3.all k11 id
 have K17 := K8.tr k11
 refine wl_alloc_blk rfl rfl rfl blkT_arr.2.2 fun p18 w19 e22 B20 k21 => ?_
 have g23 := onB_new (Nat.le_of_eq e22.symm)
 have gr24 : Grew w0 noB (onB p18) := Grew.new K17 g23
 clear e22 g23
 have B27 := B16.all k21 id
 have B28 := B12.all k21 id
 have K29 := K17.tr k21
 refine wl_v (iv 0) rfl rfl (y_asg rfl rfl rr) (wl_nil fun F30 hF31 => ?_)
 have s32 : F30 2 = iv q := (hF31 2).trans rfl
 have s33 : F30 39 = undef := (hF31 39).trans rfl
 have s34 : F30 3 = pt p1 0 := (hF31 3).trans rfl
 have s35 : F30 4 = pt p9 0 := (hF31 4).trans rfl
 have s36 : F30 6 = pt p18 0 := (hF31 6).trans rfl
 clear hF31
 refine then_normal (wq_seq (wq_region (wl_v (pt p9 5) rfl rfl (y_fieldR (n := 16) rfl s35 Tryz.underlying31 rfl (by kernel_rfl) (by decide) rfl rr) (wl_v (blkV (c.b)) rfl rfl (y_ldPart (n := 16) (us := arrL 16 (c.b)) stcT_block rfl rfl B28 (Nat.le_of_ble_eq_true rfl) rfl rr) (wl_mv rfl rfl rfl s32 (wl_cs rfl rfl rfl rfl rfl (fun _ _ => by kernel_rfl) (vsC rfl (vsC rfl vsN)) (qref_up (c.b) q  _   ) fun w37 k38 => ?_))))))
 have B39 := B27.all k38 id
 have B40 := B28.all k38 id
 have B41 := B20.all k38 id
 have K42 := K29.tr k38
 refine wl_v (.tuple #[blkV (upB (c.b) q), iv (ern q)]) rfl rfl (y_mov rfl rfl rr) (wl_v (blkV (upB (c.b) q)) rfl rfl (y_ext rfl rfl rfl rr) (wl_v (iv (ern q)) rfl rfl (y_ext rfl rfl rfl rr) (wl_alloc_blk rfl rfl rfl blkT_arr.2.2 fun p43 w44 e47 B45 k46 => ?_)))
 have g48 := onB_new (Nat.le_of_eq e47.symm)
 have gr49 : Grew w0 noB (onB p43) := Grew.new K42 g48
 have ap50 : Apart (onB p43) (onB p1) := Apart.new g48 (onB_live B39.lt)
 have ap51 : Apart (onB p43) (onB p9) := Apart.new g48 (onB_live B40.lt)
 have ap52 : Apart (onB p43) (onB p18) := Apart.new g48 (onB_live B41.lt)
 clear e47 g48
 have B53 := B39.all k46 id
 have B54 := B40.all k46 id
 have B55 := B41.all k46 id
 have K56 := K42.tr k46
 refine wl_store_blk blkT_arr rfl rfl rfl rfl rfl B45 fun w57 B58 k59 => ?_
 have B60 := B53.all k59 (ap50.symm p1 rfl)
 have B61 := B54.all k59 (ap51.symm p9 rfl)
 have B62 := B55.all k59 (ap52.symm p18 rfl)
 have K63 := K56.trans k59 (Grew.ok (S := fun _ => False) gr49 noB_le)
 refine wl_v (iv (ern q)) rfl rfl (y_asg rfl rfl rr) (wl_nil fun F64 hF65 => ?_)
 obtain ⟨s66, s67, s68⟩ := t3 hF65 39 s33 3 s34 6 s36
 have s69 : F64 8 = pt p43 0 := (hF65 8).trans rfl
 have s70 : F64 9 = iv (ern q) := (hF65 9).trans rfl
 clear hF65
 refine then_normal (wq_seq (wq_seq (wq_region (wl_mv rfl rfl rfl s70 (wl_v (.bool (decide ((ern q) ≠ 0))) rfl rfl (y_neqI rfl rfl rfl rfl rr) (wl_nil fun F71 hF72 => ?_))))))
 obtain ⟨s73, s74, s75, s76, s77⟩ := t5 hF72 39 s66 3 s67 6 s68 8 s69 9 s70
 have s78 : F71 20 = .bool (decide ((ern q) ≠ 0)) := (hF72 20).trans rfl
 clear hF72
 refine then_normal ?_
 refine wq_cond s78 (fun c79 => ?_) (fun c79 => ?_)
 ·replace c79 := of_decide_eq_true c79
  refine wq_seq ?_
  have hR := bu_no (b := b) (l := c.b) (q := q) (by assumption)
  refine wq_region (wl_v (blkV (fun _ => 0)) rfl rfl (y_buildR (cells := (arrL 16 (fun _ => 0)).toArray) rfl (by kernel_rfl) rfl rr) (wl_mv rfl rfl rfl s77 (wl_store_blk blkT_arr rfl rfl rfl s75 rfl B62 fun w80 B81 k82 => ?_)))
  have K86 := K63.trans k82 (Grew.ok (S := fun _ => False) gr24 noB_le)
  refine wl_v (iv (ern q)) rfl rfl (y_asg rfl rfl rr) (wl_nil fun F87 hF88 => ?_)
  obtain ⟨s89, s90⟩ := t2 hF88 39 s73 6 s75
  have s91 : F87 7 = iv (ern q) := (hF88 7).trans rfl
  clear hF88
  refine then_normal (wq_ret (then_ret ?_))
  exact end_2 s89 rfl (res_blk blkT_arr rfl s90 B81) (res_tmp (v := iv (ern q)) rfl s91) ⟨(by first | rw [hR, hq0] | rw [hR]), K86⟩
 ·replace c79 := of_decide_eq_false c79
  refine wq_skip (then_normal (wq_seq ?_))
  have hq0 : ern q = 0 := by first | assumption | (apply Decidable.byContradiction; assumption)
  have hR := bu_yes (b := b) (l := c.b) hq0
  refine wq_tail 5 [some 23, some 24, some 25, some 26, some 10] [Pd.eq (blkV b), Pd.eq (blkV (upB (c.b) q)), Pd.eq (blkV (backB (upB (c.b) q))), Pd.eq (blkV (moreB b (backB (upB (c.b) q)))), Pd.blk w57.heap.size 28 (fun _ => 0)] (by kernel_rfl) (by kernel_rfl) (by kernel_rfl) ?_ ?_
  ·refine stepsF_cons ?_ ?_
   ·refine StepF.one rfl fun F_ w_ hR hout hD => ?_
    exact (y_load_blk blkT_arr rfl ((hout 3 rfl (by decide)).trans s74) (B60.all hR id) ⟨rfl, Kept.refl _ _⟩)
   refine stepsF_cons ?_ ?_
   ·refine StepF.one rfl fun F_ w_ hR hout hD => ?_
    exact (y_load_blk blkT_arr rfl ((hout 8 rfl (by decide)).trans s76) (B58.all hR id) ⟨rfl, Kept.refl _ _⟩)
   refine stepsF_cons ?_ ?_
   ·refine StepF.one rfl fun F_ w_ hR hout hD => ?_
    have g24 : F_ 24 = blkV (upB (c.b) q) := (hD.get 0 rfl rfl rfl)
    exact (y_cs rfl rfl rfl (fun _ _ => by kernel_rfl) (ev_func _) (vsC g24 vsN) (ref_back (upB (c.b) q)  _   ) (fun e_ w_ h_ => ⟨_, h_.1, rfl, h_.2⟩))
   refine stepsF_cons ?_ ?_
   ·refine StepF.one rfl fun F_ w_ hR hout hD => ?_
    have g23 : F_ 23 = blkV b := (hD.get 0 rfl rfl rfl)
    have g25 : F_ 25 = blkV (backB (upB (c.b) q)) := (hD.get 1 rfl rfl rfl)
    exact (y_cs rfl rfl rfl (fun _ _ => by kernel_rfl) (ev_func _) (vsC g23 (vsC g25 vsN)) (ref_more b (backB (upB (c.b) q))  _   ) (fun e_ w_ h_ => ⟨_, h_.1, rfl, h_.2⟩))
   refine stepsF_cons ?_ ?_
   ·refine StepF.one rfl fun F_ w_ hR hout hD => ?_
    exact y_alloc_blkP rfl blkT_arr.2.2 ⟨⟨_, rfl, hR.size, Blk.new _ _ _⟩, (Kept.refl _ _).alloc _⟩
   exact stepsF_nil
  intro v92 F93 w94 k95 G96 hF97
  have B99 := B60.all k95 id
  have B100 := B61.all k95 id
  have B101 := B62.all k95 id
  have B102 := B58.all k95 id
  have K103 := K63.tr k95
  obtain ⟨s104, s105⟩ := t2 hF97 39 s73 6 s75
  obtain ⟨p108, e107, e109, B110⟩ := G96 4 (by decide)
  replace B110 : Blk w94 p108 28 (fun _ => 0) := B110
  have gr111 : Grew w0 noB (onB p108) := Grew.new K63 (onB_new e109)
  have ap112 : Apart (onB p108) (onB p1) := Apart.new (onB_new e109) (onB_live B60.lt)
  have ap113 : Apart (onB p108) (onB p9) := Apart.new (onB_new e109) (onB_live B61.lt)
  have ap114 : Apart (onB p108) (onB p18) := Apart.new (onB_new e109) (onB_live B62.lt)
  have ap115 : Apart (onB p108) (onB p43) := Apart.new (onB_new e109) (onB_live B58.lt)
  have s106 : F93 10 = pt p108 0 := (hF97 10).trans e107
  have s116 : F93 26 = blkV (moreB b (backB (upB (c.b) q))) := (hF97 26).trans (G96 3 (by decide))
  clear G96 hF97
  refine wl_store_blk blkT_arr rfl rfl rfl s106 s116 B110 fun w117 B118 k119 => ?_
  have B120 := B99.all k119 (ap112.symm p1 rfl)
  have B121 := B100.all k119 (ap113.symm p9 rfl)
  have B122 := B101.all k119 (ap114.symm p18 rfl)
  have B123 := B102.all k119 (ap115.symm p43 rfl)
  have K124 := K103.trans k119 (Grew.ok (S := fun _ => False) gr111 noB_le)
  refine wl_nil fun F125 hF126 => ?_
  obtain ⟨s127, s128, s129⟩ := t3 hF126 39 s104 6 s105 10 s106
  clear hF126
  refine then_normal (wq_seq (wq_seq (wq_region (wl_v (iv 0) rfl rfl (y_asg rfl rfl rr) (wl_nil fun F130 hF131 => ?_)))))
  obtain ⟨s132, s133, s134⟩ := t3 hF131 39 s127 6 s128 10 s129
  have s135 : F130 11 = iv 0 := (hF131 11).trans rfl
  clear hF131
  refine then_normal (wq_block (wq_loop (fun nn FF ww => ∃ (i : Nat), (i ≤ 16) ∧ nn = 16 - i ∧ FF 6 = pt p18 0 ∧ FF 10 = pt p108 0 ∧ FF 39 = undef ∧ FF 11 = iv ((i : Nat) : Int) ∧ Kept (fun _ => False) w0 ww ∧ Blk ww p1 28 b ∧ Stc ww p9 31 (chW c) ∧ Blk ww p18 28 (fun _ => 0) ∧ Blk ww p43 28 (upB (c.b) q) ∧ Blk ww p108 28 (upto i (moreB b (backB (upB c.b q))) (c8M (moreB b (backB (upB c.b q)))))) (16 - 0) ⟨0, by omega, rfl, s133, s134, s132, s135, K124, B120, B121, B122, B123, B118.first⟩ ?_))
  rintro n139 F136 w137 ⟨i, i140, hn139, s141, s142, s143, s144, K138, B145, B146, B147, B148, B149⟩
  refine wq_seq (wq_seq (wq_region (wl_mv rfl rfl rfl s144 (wl_v (.bool (decide (((i : Nat) : Int) < 16))) rfl rfl (y_lss rfl rfl rfl rfl rr) (wl_nil fun F150 hF151 => ?_)))))
  obtain ⟨s152, s153, s154, s155⟩ := t4 hF151 6 s141 10 s142 39 s143 11 s144
  have s156 : F150 28 = .bool (decide (((i : Nat) : Int) < 16)) := (hF151 28).trans rfl
  clear hF151
  refine then_normal ?_
  refine wq_cond s156 (fun c157 => ?_) (fun c157 => ?_)
  ·replace c157 := of_decide_eq_true c157
   refine wq_skip (then_normal (wq_seq (wq_block (wq_region (wl_mv rfl rfl rfl s155 (wl_mv rfl rfl rfl s155 (wl_v (.pointer (some ⟨p108, i, none⟩)) rfl rfl (y_atR i (s := 1) rfl s153 rfl (by omega) Tryz.underlying28 (by omega) (by kernel_rfl) (by omega) rr) (wl_v (iv (moreB b (backB (upB c.b q)) i)) rfl rfl (y_ldR rfl rfl Tryz.underlying3 ((B149.cell (by omega)).trans (some_int (upto_at i _ _))) rr) (wl_v (iv (max (moreB b (backB (upB c.b q)) i) 0)) rfl rfl (y_maxR rfl rfl rfl rfl rr) (wl_v (iv (c8M (moreB b (backB (upB c.b q))) i)) rfl rfl (y_minR rfl rfl rfl (by unfold c8M; omega) rr) (wl_v (.pointer (some ⟨p108, i, none⟩)) rfl rfl (y_atR i (s := 1) rfl s153 rfl (by omega) Tryz.underlying28 (by omega) (by kernel_rfl) (by omega) rr) ?_)))))))))))
   refine wl_set_blk rfl rfl rfl rfl rfl B149 (by omega) (by kernel_rfl) fun w158 B159 k160 => ?_
   have B161 := B145.all k160 (ap112.symm p1 rfl)
   have B162 := B146.all k160 (ap113.symm p9 rfl)
   have B163 := B147.all k160 (ap114.symm p18 rfl)
   have B164 := B148.all k160 (ap115.symm p43 rfl)
   have K165 := K138.trans k160 (Grew.ok (S := fun _ => False) gr111 noB_le)
   refine wl_nil fun F166 hF167 => ?_
   obtain ⟨s168, s169, s170, s171⟩ := t4 hF167 6 s152 10 s153 39 s154 11 s155
   clear hF167
   refine in_normal (then_normal (wq_region (wl_mv rfl rfl rfl s171 (wl_v (iv ((i + 1 : Nat) : Int)) rfl rfl (y_add rfl rfl rfl (i64_n (by omega) (by omega)) rr) (wl_v (iv ((i + 1 : Nat) : Int)) rfl rfl (y_asg rfl rfl rr) (wl_nil fun F172 hF173 => ?_))))))
   obtain ⟨s174, s175, s176⟩ := t3 hF173 6 s168 10 s169 39 s170
   have s177 : F172 11 = iv ((i + 1 : Nat) : Int) := (hF173 11).trans rfl
   clear hF173
   exact then_normal ⟨(16 - (i + 1)), by omega, i + 1, by omega, rfl, s174, s175, s176, s177, K165, B161, B162, B163, B164, (B159.next rfl)⟩
  ·replace c157 := of_decide_eq_false c157
   refine wq_exit (then_exit (then_exit ?_))
   have l178 : 16 = i := by omega
   subst l178
   have B179 : Blk w137 p108 28 (c8M (moreB b (backB (upB c.b q)))) := (B149.last)
   refine in_here (then_normal (wq_seq (wq_region (wl_v (blkV (c8M (moreB b (backB (upB c.b q))))) rfl rfl (y_load_blk blkT_arr rfl s153 B179 rr) (wl_store_blk blkT_arr rfl rfl rfl s152 rfl B147 fun w180 B181 k182 => ?_)))))
   have K187 := K138.trans k182 (Grew.ok (S := fun _ => False) gr24 noB_le)
   refine wl_v (iv 0) rfl rfl (y_asg rfl rfl rr) (wl_nil fun F188 hF189 => ?_)
   obtain ⟨s190, s191⟩ := t2 hF189 6 s152 39 s154
   have s192 : F188 7 = iv 0 := (hF189 7).trans rfl
   clear hF189
   refine then_normal (wq_ret ?_)
   exact end_2 s191 rfl (res_blk blkT_arr rfl s190 B181) (res_tmp (v := iv 0) rfl s192) ⟨(by first | rw [hR, hq0] | rw [hR]), K187⟩
end Go.Proofs.YtdcbabgcbkdlhaaGreatDoor
set_option maxRecDepth 100000
namespace Go.Proofs.YtdcbabgcbkdlhaaGreatDoor
open Go.RowKit
section
variable {N : Nat} {Q : (Exit → (Nat → Value) → World → Prop)} {F : Nat → Value} {w : World} {P : Program}
def StepR (N : Nat) (P : Program) (R : World → World → Prop) (D : List (Option Tmp)) (G : Nat → Value → World → Prop) (F0 : Nat → Value) (w0 : World) (i : Nat) (o : Oper) : Prop :=
  ∀ (F : Nat → Value) (w : World), R w0 w → (∀ t, Nat.blt t N = true → some t ∉ D → F t = F0 t) → DepsF D G F w o.after.toList → o.guard = none ∧ Yields P (ev F) o w (fun v w' => G i v w' ∧ R w w')
def StepsR (N : Nat) (P : Program) (R : World → World → Prop) (D : List (Option Tmp)) (G : Nat → Value → World → Prop) (F0 : Nat → Value) (w0 : World) : Nat → List Oper → Prop
  | _, [] => True
  | i, o :: r => StepR N P R D G F0 w0 i o ∧ StepsR N P R D G F0 w0 (i + 1) r
theorem StepR.step {R : World → World → Prop} {D : List (Option Tmp)} {G : Nat → Value → World → Prop} {w0 : World} {i : Nat} {o : Oper} {a0 : Act} (ha : Fr N F a0) (h : StepR N P R D G F w0 i o) : Step P R D G a0 w0 i o := by
  intro a w hR hout hD
  have h1 := h (fun t => a.tmps.getD t undef) w hR (fun t hb ht => by rw [← ha.at' t hb]; exact hout t ht) hD.toF
  rw [← eval_ev a] at h1
  unfold goes
  rw [h1.1]
  exact ⟨fun _ => h1.2, fun e => by cases e⟩
theorem StepsR.steps {R : World → World → Prop} {D : List (Option Tmp)} {G : Nat → Value → World → Prop} {w0 : World} {a0 : Act} (ha : Fr N F a0) : ∀ {os : List Oper} {i : Nat}, StepsR N P R D G F w0 i os → Steps P R D G a0 w0 i os := by
  intro os
  induction os with
  | nil => intro i _; exact trivial
  | cons o r ih => intro i h; exact ⟨h.1.step ha, ih h.2⟩
end
def RepR (T : Nat → Prop) (v : Value) (L L' : List Nat) (a b : World) : Prop := Kept T a b ∧ (Owb a T v L' → Owb b T v L') ∧ (Owb a T v L → Owb b T v L ∨ Owb b T v L')
theorem RepR.refl {T : Nat → Prop} {v : Value} {L L' : List Nat} (a : World) : RepR T v L L' a a := ⟨Kept.refl _ _, id, .inl⟩
theorem RepR.trans {T : Nat → Prop} {v : Value} {L L' : List Nat} {a b c : World} (h : RepR T v L L' a b) (k : RepR T v L L' b c) : RepR T v L L' a c :=
  ⟨h.1.trans k.1 (fun _ _ x => x), fun x => k.2.1 (h.2.1 x), fun x => (h.2.2 x).elim k.2.2 (fun y => .inr (k.2.1 y))⟩
theorem RepR.drew {T : Nat → Prop} {v : Value} {L L' : List Nat} (a : World) : RepR T v L L' a a.drew :=
  ⟨(Kept.refl _ _).drew, fun h => h.all (S := fun _ => False) (Kept.refl _ _).drew Apart.none, fun h => .inl (h.all (S := fun _ => False) (Kept.refl _ _).drew Apart.none)⟩
def RepG (T : Nat → Prop) (v : Value) (L' : List Nat) (vs : List Value) (i : Nat) (x : Value) (w : World) : Prop := x = vs.getD i undef ∧ (i = 7 → Owb w T v L')
theorem RepG.stays {T : Nat → Prop} {v : Value} {L L' : List Nat} {vs : List Value} (i : Nat) (x : Value) (w w' : World) (h : RepG T v L' vs i x w) (k : RepR T v L L' w w') : RepG T v L' vs i x w' := ⟨h.1, fun e => k.2.1 (h.2 e)⟩
theorem Owb.len {w : World} {T : Nat → Prop} {v : Value} {L : List Nat} (h : Owb w T v L) : Byt w T v L := h.byt
end Go.Proofs.YtdcbabgcbkdlhaaGreatDoor
set_option maxRecDepth 100000
namespace Go.Proofs.YtdcbabgcbkdlhaaGreatDoor
open Go.RowKit
def g9 : FD := putFr (newF 8 8 20) 0 (-3) 0 (blL [0, 0, 0, 10, 0, 0, 0, 20, 0, 0, 0, 20, 0, 0, 0, 20])
end Go.Proofs.YtdcbabgcbkdlhaaGreatDoor
set_option maxRecDepth 100000
namespace Go.Proofs.YtdcbabgcbkdlhaaGreatDoor
open Go.RowKit
def c12 : Ch := ⟨4, 2, 0, 0, 0, blL [3]⟩
set_option maxRecDepth 100000 in
theorem awake12 : chE 1 c12 = 0 ∧ chE 0 ⟨4, 0, 0, 0, 0, fun _ => 0⟩ = 120 ∧ chE 1 ⟨4, 0, 0, 0, 0, fun _ => 0⟩ = 0 ∧ buB (blL [100]) (blL [16]) 0 0 = 101 ∧ buB (blL [100]) (blL [16]) 0 5 = 1 ∧ ern 0 = 0 := by
  refine ⟨?_, ?_, ?_, ?_, ?_, ?_⟩ <;> decide +kernel
theorem awake12b : ∃ d, rdCh (pack (wrCh 1 c12 0 0 0 0)) 1 0 0 0 0 (some 0) = (d, 0, some (wrCh 1 c12 0 0 0 0).length) ∧ sameCh d c12 = true := by
  have h := awake12.1
  have e : wrCh 1 c12 0 0 0 0 = chBits c12 0 0 0 0 := if_pos h
  rw [e]
  have := ch_back (l := pack (chBits c12 0 0 0 0)) (a := 0) h (bitsAt_pack _)
  rwa [Nat.zero_add] at this
theorem bawake_any (w0 : World) (hA : ActsIn w0) (hO : ScanIn w0) (hs : StepsAt w0) (hw : Waves w0) :
  Calls Tryz.prog 4 #[] w0 fun e w' => e = .returned (.bool true) ∧ Kept (fun _ => False) w0 w' := by
 refine calls_wq (args := []) 98 Tryz.func4 rfl rfl (Nat.le_of_ble_eq_true rfl) ?_
 have K0 := Kept.refl (fun _ => False) w0
 have hf := Lib.hid awake12
 have hlen := wrCh_short 1 c12 0 0 0 0
 obtain ⟨d0, hd⟩ := awake12b
 obtain ⟨b0, hb0⟩ : ∃ b0, b0 = wrCh 1 c12 0 0 0 0 := ⟨_, rfl⟩
 rw [← hb0] at hd hlen
 have hd0 := Lib.hid hd
 clear hd
 refine wq_seq (wq_region (wl_v (.bool false) rfl rfl (y_asg rfl rfl rr) (wl_nil fun F1 hF2 => ?_)))
 have s3 : F1 98 = undef := (hF2 98).trans rfl
 clear hF2
 refine then_normal (wq_seq (wq_region (wl_cs rfl rfl rfl rfl rfl (fun _ _ => by kernel_rfl) (vsC rfl vsN) (bl_vectors 4  _ (hA.all K0)  ) fun w4 k5 => ?_)))
 have K6 := K0.tr k5
 refine wl_v (.tuple #[.bool (pastB 4), .bool (nextB 4)]) rfl rfl (y_mov rfl rfl rr) (wl_v (.bool (pastB 4)) rfl rfl (y_ext rfl rfl rfl rr) (wl_v (.bool (nextB 4)) rfl rfl (y_ext rfl rfl rfl rr) (wl_v (.bool (pastB 4)) rfl rfl (y_asg rfl rfl rr) (wl_v (.bool (nextB 4)) rfl rfl (y_asg rfl rfl rr) (wl_nil fun F7 hF8 => ?_)))))
 have s9 := (hF8 98).trans s3
 have s10 : F7 1 = .bool (pastB 4) := (hF8 1).trans rfl
 have s11 : F7 2 = .bool (nextB 4) := (hF8 2).trans rfl
 clear hF8
 refine then_normal (wq_seq (wq_region (wl_cs rfl rfl rfl rfl rfl (fun _ _ => by kernel_rfl) (vsC rfl vsN) (bl_vectors 6  _ (hA.all K6)  ) fun w12 k13 => ?_)))
 have K14 := K6.tr k13
 refine wl_v (.tuple #[.bool (pastB 6), .bool (nextB 6)]) rfl rfl (y_mov rfl rfl rr) (wl_v (.bool (pastB 6)) rfl rfl (y_ext rfl rfl rfl rr) (wl_v (.bool (nextB 6)) rfl rfl (y_ext rfl rfl rfl rr) (wl_v (.bool (pastB 6)) rfl rfl (y_asg rfl rfl rr) (wl_v (.bool (nextB 6)) rfl rfl (y_asg rfl rfl rr) (wl_nil fun F15 hF16 => ?_)))))
 obtain ⟨s17, s18, s19⟩ := t3 hF16 98 s9 1 s10 2 s11
 have s20 : F15 3 = .bool (pastB 6) := (hF16 3).trans rfl
 have s21 : F15 4 = .bool (nextB 6) := (hF16 4).trans rfl
 clear hF16
 refine then_normal (wq_seq (wq_region (wl_v (.agg #[.slice none 0 0, iv 0]) rfl rfl (y_buildR (cells := #[.slice none 0 0, iv 0]) rfl (by kernel_rfl) rfl rr) (wl_box_wri rfl rfl rfl rfl fun p22 w23 T27 B26 g28 k24 => ?_))))
 have gr29 : Grew w0 noB T27 := Grew.new K14 g28
 have K30 := K14.tr k24
 refine wl_v (pt p22 0) rfl rfl (y_asg rfl rfl rr) (wl_nil fun F31 hF32 => ?_)
 obtain ⟨s33, s34, s35, s36, s37⟩ := t5 hF32 98 s17 1 s18 2 s19 3 s20 4 s21
 have s38 : F31 5 = pt p22 0 := (hF32 5).trans rfl
 clear hF32
 refine then_normal (wq_seq (wq_region (wl_v (.agg #[iv 2, iv 0]) rfl rfl (y_buildL (l' := [(0, iv 2)]) (cells := #[iv 2, iv 0]) rfl (bpC rfl bpN) (by kernel_rfl) rfl rr) (wl_v (blkV (blL [3])) rfl rfl (y_buildR (cells := (arrL 16 (blL [3])).toArray) rfl (by kernel_rfl) rfl rr) (wl_v (.agg (chL 4 2 0 0 0 (blL [3])).toArray) rfl rfl (y_buildL (l' := [(0, iv 4), (1, .agg #[iv 2, iv 0]), (3, blkV (blL [3]))]) (cells := (chL 4 2 0 0 0 (blL [3])).toArray) rfl (bpC rfl (bpC rfl (bpC rfl bpN))) (by kernel_rfl) rfl rr) (wl_alloc_stc (n := 21) (vs := (chL 0 0 0 0 0 (fun _ => (0 : Int)))) rfl rfl rfl (by kernel_rfl) fun p39 w40 B42 g43 k41 => ?_))))))
 have gr44 : Grew w0 noB (onB p39) := Grew.new K30 g43
 have ap45 : Apart (onB p39) T27 := Apart.new g43 B26.live
 have B46 := B26.all k41 Apart.none
 have K47 := K30.tr k41
 refine wl_store_stc (us := (chL 4 2 0 0 0 (blL [3]))) stcT_choice rfl rfl rfl rfl rfl B42 rfl (oneI rfl (oneI rfl (oneI rfl (oneI rfl (oneI rfl (oneI rfl (oneI rfl (oneI rfl (oneI rfl (oneI rfl (oneI rfl (oneI rfl (oneI rfl (oneI rfl (oneI rfl (oneI rfl (oneI rfl (oneI rfl (oneI rfl (oneI rfl (oneI rfl oneN))))))))))))))))))))) fun w48 B49 k50 => ?_
 have B51 := B46.all k50 ap45.symm
 have K52 := K47.trans k50 (Grew.ok (S := fun _ => False) gr44 noB_le)
 refine wl_nil fun F53 hF54 => ?_
 obtain ⟨s55, s56, s57, s58, s59, s60⟩ := t6 hF54 98 s33 1 s34 2 s35 3 s36 4 s37 5 s38
 have s61 : F53 6 = pt p39 0 := (hF54 6).trans rfl
 clear hF54
 refine then_normal (wq_seq (wq_region (wl_mv rfl rfl rfl s60 (wl_v (.agg (chL 4 2 0 0 0 (blL [3])).toArray) rfl rfl (y_load_stc stcT_choice rfl s61 B49 rr) (wl_v (.agg #[iv 0, iv 0]) rfl rfl (y_buildL (l' := []) (cells := #[iv 0, iv 0]) rfl bpN (by kernel_rfl) rfl rr) (wl_v (.agg #[iv 0, iv 0]) rfl rfl (y_buildL (l' := []) (cells := #[iv 0, iv 0]) rfl bpN (by kernel_rfl) rfl rr) (wl_call (R := fun v_ w_ => ∃ (T64 : Nat → Prop), iv (chE 1 (Ch.mk 4 2 0 0 0 (blL [3]))) = v_ ∧ Kept T27 w48 w_ ∧ (Wri w_ T64 p22 (([] : List Bool) ++ wrCh 1 (Ch.mk 4 2 0 0 0 (blL [3])) 0 0 0 0) ∧ Grew w48 T27 T64)) rfl rfl (y_cs rfl rfl rfl (fun _ _ => by kernel_rfl) (ev_func _) (vsC rfl (vsC rfl (vsC rfl (vsC rfl (vsC rfl vsN))))) (bl_write p22 ([] : List Bool) 1 (Ch.mk 4 2 0 0 0 (blL [3])) 0 0 0 0 T27 _ (hA.all K52) (hO.all K52) (aboveN gr29 hA) (by first | decide | (simp; omega) | simp) B51 ) (fun e_ w_ h_ => by obtain ⟨T64_, he_, hr_⟩ := h_; exact ⟨_, he_, T64_, rfl, hr_⟩)) ?_)))))))
 rintro _ w62 ⟨T64, rfl, k63, ⟨B65, g66⟩⟩
 have B67 := B49.all k63 (ap45 p39 rfl)
 have K68 := K52.trans k63 (fun i hi x => ((Grew.ok (S := fun _ => False) gr29 noB_le) i hi x))
 refine wl_v (iv (chE 1 (Ch.mk 4 2 0 0 0 (blL [3])))) rfl rfl (y_asg rfl rfl rr) (wl_nil fun F71 hF72 => ?_)
 obtain ⟨s73, s74, s75, s76, s77, s78, s79⟩ := t7 hF72 98 s55 1 s56 2 s57 3 s58 4 s59 5 s60 6 s61
 have s80 : F71 7 = iv (chE 1 (Ch.mk 4 2 0 0 0 (blL [3]))) := (hF72 7).trans rfl
 clear hF72
 refine then_normal (wq_seq ?_)
 have B81 : Wri w62 T64 p22 b0 := (by rw [hb0]; exact B65)
 refine wq_region (wl_mv rfl rfl rfl s78 (wl_call (R := fun v_ w_ => ∃ (v82 : Value) (T85 : Nat → Prop), v82 = v_ ∧ Kept (fun _ => False) w62 w_ ∧ (Byt w_ T85 v82 (pack b0) ∧ Grew w62 noB T85)) rfl rfl (y_cs rfl rfl rfl (fun _ _ => by kernel_rfl) (ev_func _) (vsC rfl vsN) (t_bytes p22 b0 T64 _ (by omega) B81 ) (fun e_ w_ h_ => by obtain ⟨v82_, T85_, he_, hr_⟩ := h_; exact ⟨_, he_, v82_, T85_, rfl, hr_⟩)) ?_))
 rintro _ w83 ⟨v82, T85, rfl, k84, ⟨B86, g87⟩⟩
 have B89 := B67.all k84 id
 have K90 := K68.tr k84
 refine wl_call (R := fun v_ w_ => ∃ (v94 : Nat) (T97 : Nat → Prop), pt v94 0 = v_ ∧ Kept (fun _ => False) w83 w_ ∧ (Rdi w_ T97 v94 (pack b0) (some 0) ∧ Grew w83 noB T97)) rfl rfl (y_cs rfl rfl rfl (fun _ _ => by kernel_rfl) (ev_func _) (vsC rfl vsN) (t_new v82 (pack b0) T85 _ (by rw [pack_length]; unfold nbytes; omega) B86 ) (fun e_ w_ h_ => by obtain ⟨v94_, T97_, he_, hr_⟩ := h_; exact ⟨_, he_, v94_, T97_, rfl, hr_⟩)) ?_
 rintro _ w95 ⟨v94, T97, rfl, k96, ⟨B98, g99⟩⟩
 have B101 := B89.all k96 id
 have K103 := K90.tr k96
 have gr104 : Grew w0 noB T97 := Grew.new K90 g99
 have ap106 : Apart T97 (onB p39) := Apart.new g99 (onB_live B89.lt)
 refine wl_v (.agg #[iv 0, iv 0]) rfl rfl (y_buildL (l' := []) (cells := #[iv 0, iv 0]) rfl bpN (by kernel_rfl) rfl rr) (wl_v (.agg #[iv 0, iv 0]) rfl rfl (y_buildL (l' := []) (cells := #[iv 0, iv 0]) rfl bpN (by kernel_rfl) rfl rr) (wl_call (R := fun v_ w_ => ∃ (T110 : Nat → Prop), .tuple #[.agg (chW ((rdCh (pack b0) 1 0 0 0 0 (some 0)).1)).toArray, iv ((rdCh (pack b0) 1 0 0 0 0 (some 0)).2.1)] = v_ ∧ Kept T97 w95 w_ ∧ (Rdi w_ T110 v94 (pack b0) (rdChT (pack b0) 1 0 0 0 0 (some 0)) ∧ Grew w95 T97 T110)) rfl rfl (y_cs rfl rfl rfl (fun _ _ => by kernel_rfl) (ev_func _) (vsC rfl (vsC rfl (vsC rfl (vsC rfl vsN)))) (bl_read v94 (pack b0) (some 0) 1 0 0 0 0 T97 _ (hA.all K103) (hO.all K103) (aboveN gr104 hA) B98 ) (fun e_ w_ h_ => by obtain ⟨T110_, he_, hr_⟩ := h_; exact ⟨_, he_, T110_, rfl, hr_⟩)) ?_))
 rintro _ w108 ⟨T110, rfl, k109, ⟨B111, g112⟩⟩
 have B114 := B101.all k109 (ap106.symm p39 rfl)
 have K116 := K103.trans k109 (fun i hi x => ((Grew.ok (S := fun _ => False) gr104 noB_le) i hi x))
 refine wl_v (.tuple #[.agg (chW ((rdCh (pack b0) 1 0 0 0 0 (some 0)).1)).toArray, iv ((rdCh (pack b0) 1 0 0 0 0 (some 0)).2.1)]) rfl rfl (y_mov rfl rfl rr) (wl_v (.agg (chW ((rdCh (pack b0) 1 0 0 0 0 (some 0)).1)).toArray) rfl rfl (y_ext rfl rfl rfl rr) (wl_v (iv ((rdCh (pack b0) 1 0 0 0 0 (some 0)).2.1)) rfl rfl (y_ext rfl rfl rfl rr) (wl_alloc_stc (n := 21) (vs := (chL 0 0 0 0 0 (fun _ => (0 : Int)))) rfl rfl rfl (by kernel_rfl) fun p121 w122 B124 g125 k123 => ?_)))
 have gr126 : Grew w0 noB (onB p121) := Grew.new K116 g125
 have ap128 : Apart (onB p121) (onB p39) := Apart.new g125 (onB_live B114.lt)
 have B132 := B114.all k123 id
 have K135 := K116.tr k123
 refine wl_store_stc (us := (chW ((rdCh (pack b0) 1 0 0 0 0 (some 0)).1))) stcT_choice rfl rfl rfl rfl rfl B124 rfl (oneI rfl (oneI rfl (oneI rfl (oneI rfl (oneI rfl (oneI rfl (oneI rfl (oneI rfl (oneI rfl (oneI rfl (oneI rfl (oneI rfl (oneI rfl (oneI rfl (oneI rfl (oneI rfl (oneI rfl (oneI rfl (oneI rfl (oneI rfl (oneI rfl oneN))))))))))))))))))))) fun w136 B137 k138 => ?_
 have B140 := B132.all k138 (ap128.symm p39 rfl)
 have K143 := K135.trans k138 (Grew.ok (S := fun _ => False) gr126 noB_le)
 refine wl_v (iv ((rdCh (pack b0) 1 0 0 0 0 (some 0)).2.1)) rfl rfl (y_asg rfl rfl rr) (wl_nil fun F144 hF145 => ?_)
 obtain ⟨s146, s147, s148, s149, s150, s151, s152⟩ := t7 hF145 98 s73 1 s74 2 s75 3 s76 4 s77 6 s79 7 s80
 have s153 : F144 8 = pt p121 0 := (hF145 8).trans rfl
 have s154 : F144 9 = iv ((rdCh (pack b0) 1 0 0 0 0 (some 0)).2.1) := (hF145 9).trans rfl
 clear hF145
 refine then_normal (wq_seq (wq_region (wl_v (blkV (blL [100])) rfl rfl (y_buildR (cells := (arrL 16 (blL [100])).toArray) rfl (by kernel_rfl) rfl rr) (wl_v (blkV (blL [16])) rfl rfl (y_buildR (cells := (arrL 16 (blL [16])).toArray) rfl (by kernel_rfl) rfl rr) (wl_v (.agg (chL 0 0 0 0 0 (blL [16])).toArray) rfl rfl (y_buildL (l' := [(3, blkV (blL [16]))]) (cells := (chL 0 0 0 0 0 (blL [16])).toArray) rfl (bpC rfl bpN) (by kernel_rfl) rfl rr) (wl_cs rfl rfl rfl rfl rfl (fun _ _ => by kernel_rfl) (vsC rfl (vsC rfl (vsC rfl vsN))) (bl_build (blL [100]) (Ch.mk 0 0 0 0 0 (blL [16])) 0  _ (hs.all K143) (hw.all K143)  ) fun w155 k156 => ?_))))))
 have B158 := B140.all k156 id
 have B161 := B137.all k156 id
 have K162 := K143.tr k156
 refine wl_v (.tuple #[blkV (buB (blL [100]) (Ch.mk 0 0 0 0 0 (blL [16])).b 0), iv (ern 0)]) rfl rfl (y_mov rfl rfl rr) (wl_v (blkV (buB (blL [100]) (Ch.mk 0 0 0 0 0 (blL [16])).b 0)) rfl rfl (y_ext rfl rfl rfl rr) (wl_v (iv (ern 0)) rfl rfl (y_ext rfl rfl rfl rr) (wl_alloc_blk rfl rfl rfl blkT_block.2.2 fun p163 w164 e167 B165 k166 => ?_)))
 have g168 := onB_new (Nat.le_of_eq e167.symm)
 have gr169 : Grew w0 noB (onB p163) := Grew.new K162 g168
 have ap171 : Apart (onB p163) (onB p39) := Apart.new g168 (onB_live B158.lt)
 have ap174 : Apart (onB p163) (onB p121) := Apart.new g168 (onB_live B161.lt)
 clear e167 g168
 have B176 := B158.all k166 id
 have B179 := B161.all k166 id
 have K180 := K162.tr k166
 refine wl_store_blk blkT_block rfl rfl rfl rfl rfl B165 fun w181 B182 k183 => ?_
 have B185 := B176.all k183 (ap171.symm p39 rfl)
 have B188 := B179.all k183 (ap174.symm p121 rfl)
 have K189 := K180.trans k183 (Grew.ok (S := fun _ => False) gr169 noB_le)
 refine wl_v (iv (ern 0)) rfl rfl (y_asg rfl rfl rr) (wl_nil fun F190 hF191 => ?_)
 obtain ⟨s192, s193, s194, s195, s196, s197, s198, s199, s200⟩ := t9 hF191 98 s146 1 s147 2 s148 3 s149 4 s150 6 s151 7 s152 8 s153 9 s154
 have s201 : F190 10 = pt p163 0 := (hF191 10).trans rfl
 have s202 : F190 11 = iv (ern 0) := (hF191 11).trans rfl
 clear hF191
 refine then_normal (wq_seq ?_)
 have s203 : F190 1 = .bool true := s193.trans (congrArg Value.bool (by decide))
 have s204 : F190 2 = .bool false := s194.trans (congrArg Value.bool (by decide))
 have s205 : F190 3 = .bool true := s195.trans (congrArg Value.bool (by decide))
 have s206 : F190 4 = .bool true := s196.trans (congrArg Value.bool (by decide))
 refine wq_region (wl_mv rfl rfl rfl s203 (wl_v (.bool true) rfl rfl (y_mov rfl rfl rr) (wl_vw (.bool false) 1 true 47 rfl rfl rfl rfl rfl (y_mov rfl s204 rr) (wl_vw (.bool true) 1 true 47 rfl rfl rfl rfl rfl (y_not rfl rfl rfl rr) (wl_v (.bool true) rfl rfl (y_pickT rfl rfl rfl rr) (wl_v (.bool true) rfl rfl (y_mov rfl rfl rr) (wl_vw (.bool true) 5 true 51 rfl rfl rfl rfl rfl (y_mov rfl s205 rr) (wl_v (.bool true) rfl rfl (y_pickT rfl rfl rfl rr) (wl_v (.bool true) rfl rfl (y_mov rfl rfl rr) (wl_vw (.bool true) 8 true 54 rfl rfl rfl rfl rfl (y_mov rfl s206 rr) (wl_v (.bool true) rfl rfl (y_pickT rfl rfl rfl rr) ?_)))))))))))
 refine wl_v (.bool true) rfl rfl (y_mov rfl rfl rr) (wl_vw (.agg (chL 4 0 0 0 0 (fun _ => (0 : Int))).toArray) 11 true 57 rfl rfl rfl rfl rfl (y_buildL (l' := [(0, iv 4)]) (cells := (chL 4 0 0 0 0 (fun _ => (0 : Int))).toArray) rfl (bpC rfl bpN) (by kernel_rfl) rfl rr) (wl_callw (R := fun v_ w_ => v_ = iv (chE 0 (Ch.mk 4 0 0 0 0 (fun _ => (0 : Int)))) ∧ Kept (fun _ => False) w181 w_) 11 true 57 rfl rfl rfl rfl rfl (y_cs rfl rfl rfl (fun _ _ => by kernel_rfl) (ev_func _) (vsC rfl (vsC rfl vsN)) (bl_check 0 (Ch.mk 4 0 0 0 0 (fun _ => (0 : Int)))  _ (hA.all K189)  ) (fun e_ w_ h_ => ⟨_, h_.1, rfl, h_.2⟩)) ?_))
 rintro _ w207 ⟨rfl, k208⟩
 have B210 := B185.all k208 id
 have B213 := B188.all k208 id
 have B214 := B182.all k208 id
 have K215 := K189.tr k208
 refine wl_vw (.bool true) 11 true 57 rfl rfl rfl rfl rfl (y_eqlI rfl rfl rfl (decide_eq_true hf.out.2.1) rr) (wl_v (.bool true) rfl rfl (y_pickT rfl rfl rfl rr) (wl_v (.bool true) rfl rfl (y_mov rfl rfl rr) (wl_vw (.agg (chL 4 0 0 0 0 (fun _ => (0 : Int))).toArray) 16 true 62 rfl rfl rfl rfl rfl (y_buildL (l' := [(0, iv 4)]) (cells := (chL 4 0 0 0 0 (fun _ => (0 : Int))).toArray) rfl (bpC rfl bpN) (by kernel_rfl) rfl rr) (wl_callw (R := fun v_ w_ => v_ = iv (chE 1 (Ch.mk 4 0 0 0 0 (fun _ => (0 : Int)))) ∧ Kept (fun _ => False) w207 w_) 16 true 62 rfl rfl rfl rfl rfl (y_cs rfl rfl rfl (fun _ _ => by kernel_rfl) (ev_func _) (vsC rfl (vsC rfl vsN)) (bl_check 1 (Ch.mk 4 0 0 0 0 (fun _ => (0 : Int)))  _ (hA.all K215)  ) (fun e_ w_ h_ => ⟨_, h_.1, rfl, h_.2⟩)) ?_))))
 rintro _ w216 ⟨rfl, k217⟩
 have B219 := B210.all k217 id
 have B222 := B213.all k217 id
 have B223 := B214.all k217 id
 have K224 := K215.tr k217
 refine wl_vw (.bool true) 16 true 62 rfl rfl rfl rfl rfl (y_eqlI rfl rfl rfl (decide_eq_true hf.out.2.2.1) rr) (wl_v (.bool true) rfl rfl (y_pickT rfl rfl rfl rr) (wl_v (.bool true) rfl rfl (y_mov rfl rfl rr) (wl_vw (iv (chE 1 (Ch.mk 4 2 0 0 0 (blL [3])))) 21 true 67 rfl rfl rfl rfl rfl (y_mov rfl s198 rr) (wl_vw (.bool true) 21 true 67 rfl rfl rfl rfl rfl (y_eqlI rfl rfl rfl (decide_eq_true hf.out.1) rr) (wl_v (.bool true) rfl rfl (y_pickT rfl rfl rfl rr) (wl_v (.bool true) rfl rfl (y_mov rfl rfl rr) (wl_vw (.agg (chW ((rdCh (pack b0) 1 0 0 0 0 (some 0)).1)).toArray) 25 true 71 rfl rfl rfl rfl rfl (y_load_stc stcT_choice rfl s199 B222 rr) (wl_vw (.agg (chL 4 2 0 0 0 (blL [3])).toArray) 25 true 71 rfl rfl rfl rfl rfl (y_load_stc stcT_choice rfl s197 B219 rr) (wl_vw (.bool true) 25 true 71 rfl rfl rfl rfl rfl (y_eqlCh (c := (rdCh (pack b0) 1 0 0 0 0 (some 0)).1) (d := Ch.mk 4 2 0 0 0 (blL [3])) rfl rfl rfl (by rw [hd0.out.1]; exact hd0.out.2) rr) (wl_v (.bool true) rfl rfl (y_pickT rfl rfl rfl rr) (wl_v (.bool true) rfl rfl (y_mov rfl rfl rr) ?_)))))))))))
 refine wl_vw (iv ((rdCh (pack b0) 1 0 0 0 0 (some 0)).2.1)) 30 true 76 rfl rfl rfl rfl rfl (y_mov rfl s200 rr) (wl_vw (.bool true) 30 true 76 rfl rfl rfl rfl rfl (y_eqlI rfl rfl rfl (decide_eq_true (by rw [hd0.out.1])) rr) (wl_v (.bool true) rfl rfl (y_pickT rfl rfl rfl rr) (wl_v (.bool true) rfl rfl (y_mov rfl rfl rr) (wl_vw (pt p163 0) 34 true 80 rfl rfl rfl rfl rfl (y_atR 0 (s := 1) rfl s201 rfl (by omega) Tryz.underlying29 (by omega) (by kernel_rfl) (by omega) rr) (wl_vw (iv ((buB (blL [100]) (Ch.mk 0 0 0 0 0 (blL [16])).b 0) 0)) 34 true 80 rfl rfl rfl rfl rfl (y_ldR rfl rfl Tryz.underlying3 (B223.cell (by omega)) rr) (wl_vw (.bool true) 34 true 80 rfl rfl rfl rfl rfl (y_eqlI rfl rfl rfl (decide_eq_true hf.out.2.2.2.1) rr) (wl_v (.bool true) rfl rfl (y_pickT rfl rfl rfl rr) (wl_v (.bool true) rfl rfl (y_mov rfl rfl rr) (wl_vw (pt p163 5) 39 true 85 rfl rfl rfl rfl rfl (y_atR 5 (s := 1) rfl s201 rfl (by omega) Tryz.underlying29 (by omega) (by kernel_rfl) (by omega) rr) (wl_vw (iv ((buB (blL [100]) (Ch.mk 0 0 0 0 0 (blL [16])).b 0) 5)) 39 true 85 rfl rfl rfl rfl rfl (y_ldR rfl rfl Tryz.underlying3 (B223.cell (by omega)) rr) (wl_vw (.bool true) 39 true 85 rfl rfl rfl rfl rfl (y_eqlI rfl rfl rfl (decide_eq_true hf.out.2.2.2.2.1) rr) ?_)))))))))))
 refine wl_v (.bool true) rfl rfl (y_pickT rfl rfl rfl rr) (wl_v (.bool true) rfl rfl (y_mov rfl rfl rr) (wl_vw (iv (ern 0)) 44 true 90 rfl rfl rfl rfl rfl (y_mov rfl s202 rr) (wl_vw (.bool true) 44 true 90 rfl rfl rfl rfl rfl (y_eqlI rfl rfl rfl (decide_eq_true hf.out.2.2.2.2.2) rr) (wl_v (.bool true) rfl rfl (y_pickT rfl rfl rfl rr) (wl_v (.bool true) rfl rfl (y_mov rfl rfl rr) (wl_v (.bool true) rfl rfl (y_pickT rfl rfl rfl rr) (wl_v (.bool true) rfl rfl (y_mov rfl rfl rr) (wl_v (.bool true) rfl rfl (y_pickT rfl rfl rfl rr) (wl_v (.bool true) rfl rfl (y_asg rfl rfl rr) (wl_nil fun F225 hF226 => ?_))))))))))
 have s227 := (hF226 98).trans s192
 have s228 : F225 0 = .bool true := (hF226 0).trans rfl
 clear hF226
 refine then_normal (wq_ret ?_)
 exact end_tmp (v := .bool true) s227 rfl rfl s228 ⟨rfl, K224⟩
end Go.Proofs.YtdcbabgcbkdlhaaGreatDoor
set_option maxRecDepth 100000
namespace Go.Proofs.YtdcbabgcbkdlhaaGreatDoor
open Go.RowKit
theorem bpredicts_walk (k x y : Int) (c : Ch) (b : Nat → Int) (q : Int) (f : FD) (f0 f1 f2 : Value) (g : FD) (g0 g1 g2 : Value) (h : FD) (h0 h1 h2 : Value) (T_f0 : Nat → Prop) (T_f1 : Nat → Prop) (T_f2 : Nat → Prop) (T_g0 : Nat → Prop) (T_g1 : Nat → Prop) (T_g2 : Nat → Prop) (T_h0 : Nat → Prop) (T_h1 : Nat → Prop) (T_h2 : Nat → Prop) (w0 : World) (hA : ActsIn w0) (hO : ScanIn w0) (hs : StepsAt w0) (hw : Waves w0) (h_f0 : Byt w0 T_f0 f0 ((f).p0)) (h_f1 : Byt w0 T_f1 f1 ((f).p1)) (h_f2 : Byt w0 T_f2 f2 ((f).p2)) (h_g0 : Byt w0 T_g0 g0 ((g).p0)) (h_g1 : Byt w0 T_g1 g1 ((g).p1)) (h_g2 : Byt w0 T_g2 g2 ((g).p2)) (h_h0 : Byt w0 T_h0 h0 ((h).p0)) (h_h1 : Byt w0 T_h1 h1 ((h).p1)) (h_h2 : Byt w0 T_h2 h2 ((h).p2)) :
  Calls Tryz.prog 3 #[.agg #[.int .i64 ((f).W), .int .i64 ((f).H), f0, f1, f2], .agg #[.int .i64 ((g).W), .int .i64 ((g).H), g0, g1, g2], .agg #[.int .i64 ((h).W), .int .i64 ((h).H), h0, h1, h2], .int .i64 (k), .int .i64 (x), .int .i64 (y), .agg (chW (c)).toArray, blkV (b), .int .i64 (q)] w0 fun e w' => e = .returned (.bool true) ∧ Kept (fun _ => False) w0 w' := by
 refine calls_wq (args := [.agg #[iv (f.W), iv (f.H), f0, f1, f2], .agg #[iv (g.W), iv (g.H), g0, g1, g2], .agg #[iv (h.W), iv (h.H), h0, h1, h2], iv k, iv x, iv y, .agg (chW c).toArray, blkV b, iv q]) 100 Tryz.func3 rfl rfl (Nat.le_of_ble_eq_true rfl) ?_
 have K0 := Kept.refl (fun _ => False) w0
 have g_f0 := Grew.refl w0 T_f0
 have g_f1 := Grew.refl w0 T_f1
 have g_f2 := Grew.refl w0 T_f2
 have g_g0 := Grew.refl w0 T_g0
 have g_g1 := Grew.refl w0 T_g1
 have g_g2 := Grew.refl w0 T_g2
 have g_h0 := Grew.refl w0 T_h0
 have g_h1 := Grew.refl w0 T_h1
 have g_h2 := Grew.refl w0 T_h2
 refine wq_seq (wq_region (wl_box_stc (vs := [iv (f.W), iv (f.H), f0, f1, f2]) rfl rfl rfl rfl fun p1 w2 B4 g5 k3 => ?_))
 have B16 := h_f0.all k3 Apart.none
 have B17 := h_f1.all k3 Apart.none
 have B18 := h_f2.all k3 Apart.none
 have B19 := h_g0.all k3 Apart.none
 have B20 := h_g1.all k3 Apart.none
 have B21 := h_g2.all k3 Apart.none
 have B22 := h_h0.all k3 Apart.none
 have B23 := h_h1.all k3 Apart.none
 have B24 := h_h2.all k3 Apart.none
 have K25 := K0.tr k3
 refine wl_box_stc (vs := [iv (g.W), iv (g.H), g0, g1, g2]) rfl rfl rfl rfl fun p26 w27 B29 g30 k28 => ?_
 have B42 := B16.all k28 Apart.none
 have B43 := B17.all k28 Apart.none
 have B44 := B18.all k28 Apart.none
 have B45 := B19.all k28 Apart.none
 have B46 := B20.all k28 Apart.none
 have B47 := B21.all k28 Apart.none
 have B48 := B22.all k28 Apart.none
 have B49 := B23.all k28 Apart.none
 have B50 := B24.all k28 Apart.none
 have B51 := B4.all k28 id
 have K52 := K25.tr k28
 refine wl_box_stc (vs := [iv (h.W), iv (h.H), h0, h1, h2]) rfl rfl rfl rfl fun p53 w54 B56 g57 k55 => ?_
 have B70 := B42.all k55 Apart.none
 have B71 := B43.all k55 Apart.none
 have B72 := B44.all k55 Apart.none
 have B73 := B45.all k55 Apart.none
 have B74 := B46.all k55 Apart.none
 have B75 := B47.all k55 Apart.none
 have B76 := B48.all k55 Apart.none
 have B77 := B49.all k55 Apart.none
 have B78 := B50.all k55 Apart.none
 have B79 := B51.all k55 id
 have B80 := B29.all k55 id
 have K81 := K52.tr k55
 refine wl_box_stc (vs := (chW c)) rfl rfl rfl rfl fun p82 w83 B85 g86 k84 => ?_
 have B100 := B70.all k84 Apart.none
 have B101 := B71.all k84 Apart.none
 have B102 := B72.all k84 Apart.none
 have B103 := B73.all k84 Apart.none
 have B104 := B74.all k84 Apart.none
 have B105 := B75.all k84 Apart.none
 have B106 := B76.all k84 Apart.none
 have B107 := B77.all k84 Apart.none
 have B108 := B78.all k84 Apart.none
 have B109 := B79.all k84 id
 have B110 := B80.all k84 id
 have B111 := B56.all k84 id
 have K112 := K81.tr k84
 refine wl_box_blk rfl rfl rfl rfl fun p113 w114 e117 B115 k116 => ?_
 have g118 := onB_new (Nat.le_of_eq e117.symm)
 clear e117 g118
 have B133 := B100.all k116 Apart.none
 have B134 := B101.all k116 Apart.none
 have B135 := B102.all k116 Apart.none
 have B136 := B103.all k116 Apart.none
 have B137 := B104.all k116 Apart.none
 have B138 := B105.all k116 Apart.none
 have B139 := B106.all k116 Apart.none
 have B140 := B107.all k116 Apart.none
 have B141 := B108.all k116 Apart.none
 have B142 := B109.all k116 id
 have B143 := B110.all k116 id
 have B144 := B111.all k116 id
 have B145 := B85.all k116 id
 have K146 := K112.tr k116
 refine wl_v (.bool false) rfl rfl (y_asg rfl rfl rr) (wl_nil fun F147 hF148 => ?_)
 have s149 : F147 3 = iv k := (hF148 3).trans rfl
 have s150 : F147 4 = iv x := (hF148 4).trans rfl
 have s151 : F147 5 = iv y := (hF148 5).trans rfl
 have s152 : F147 8 = iv q := (hF148 8).trans rfl
 have s153 : F147 100 = undef := (hF148 100).trans rfl
 have s154 : F147 9 = pt p1 0 := (hF148 9).trans rfl
 have s155 : F147 10 = pt p26 0 := (hF148 10).trans rfl
 have s156 : F147 11 = pt p53 0 := (hF148 11).trans rfl
 have s157 : F147 15 = pt p82 0 := (hF148 15).trans rfl
 have s158 : F147 16 = pt p113 0 := (hF148 16).trans rfl
 clear hF148
 refine then_normal (wq_seq (wq_region (wl_cs rfl rfl rfl rfl rfl (fun _ _ => by kernel_rfl) vsN (bawake_any   _ (hA.all K146) (hO.all K146) (hs.all K146) (hw.all K146)  ) fun w159 k160 => ?_)))
 have B161 := B133.all k160 Apart.none
 have B162 := B134.all k160 Apart.none
 have B163 := B135.all k160 Apart.none
 have B164 := B136.all k160 Apart.none
 have B165 := B137.all k160 Apart.none
 have B166 := B138.all k160 Apart.none
 have B167 := B139.all k160 Apart.none
 have B168 := B140.all k160 Apart.none
 have B169 := B141.all k160 Apart.none
 have B170 := B142.all k160 id
 have B171 := B143.all k160 id
 have B172 := B144.all k160 id
 have B173 := B145.all k160 id
 have B174 := B115.all k160 id
 have K175 := K146.tr k160
 refine wl_v (.bool true) rfl rfl (y_asg rfl rfl rr) (wl_nil fun F176 hF177 => ?_)
 obtain ⟨s178, s179, s180, s181, s182, s183, s184, s185, s186, s187⟩ := t10 hF177 3 s149 4 s150 5 s151 8 s152 100 s153 9 s154 10 s155 11 s156 15 s157 16 s158
 have s188 : F176 19 = .bool true := (hF177 19).trans rfl
 clear hF177
 refine then_normal (wq_seq (wq_seq ?_))
 rcases Bool.eq_false_or_eq_true (fewF f) with d189 | d189
 ·skip
  rcases Bool.eq_false_or_eq_true (fewF g) with d190 | d190
  ·skip
   rcases Bool.eq_false_or_eq_true (fewF h) with d191 | d191
   ·skip
    refine wq_region (wl_v (.agg #[iv (f.W), iv (f.H), f0, f1, f2]) rfl rfl (y_load_stc stcT_frame rfl s183 B170 rr) (wl_call (R := fun v_ w_ => v_ = .bool true ∧ Kept (fun _ => False) w159 w_) rfl rfl (y_cs rfl rfl rfl (fun _ _ => by kernel_rfl) (ev_func _) (vsC rfl vsN) (flaw_few f f0 f1 f2 T_f0 T_f1 T_f2 _  B161 B162 B163 ) (fun e_ w_ h_ => ⟨_, h_.1, (congrArg Value.bool d189), h_.2⟩)) ?_))
    rintro _ w192 ⟨rfl, k193⟩
    have B194 := B161.all k193 Apart.none
    have B195 := B162.all k193 Apart.none
    have B196 := B163.all k193 Apart.none
    have B197 := B164.all k193 Apart.none
    have B198 := B165.all k193 Apart.none
    have B199 := B166.all k193 Apart.none
    have B200 := B167.all k193 Apart.none
    have B201 := B168.all k193 Apart.none
    have B202 := B169.all k193 Apart.none
    have B203 := B170.all k193 id
    have B204 := B171.all k193 id
    have B205 := B172.all k193 id
    have B206 := B173.all k193 id
    have B207 := B174.all k193 id
    have K208 := K175.tr k193
    refine wl_v (.bool false) rfl rfl (y_not rfl rfl rfl rr) (wl_v (.bool false) rfl rfl (y_mov rfl rfl rr) (wl_vw (.agg #[iv (g.W), iv (g.H), g0, g1, g2]) 3 false 32 rfl rfl rfl rfl rfl (y_load_stc stcT_frame rfl s184 B204 rr) (wl_callw (R := fun v_ w_ => v_ = .bool true ∧ Kept (fun _ => False) w192 w_) 3 false 32 rfl rfl rfl rfl rfl (y_cs rfl rfl rfl (fun _ _ => by kernel_rfl) (ev_func _) (vsC rfl vsN) (flaw_few g g0 g1 g2 T_g0 T_g1 T_g2 _  B197 B198 B199 ) (fun e_ w_ h_ => ⟨_, h_.1, (congrArg Value.bool d190), h_.2⟩)) ?_)))
    rintro _ w209 ⟨rfl, k210⟩
    have B211 := B194.all k210 Apart.none
    have B212 := B195.all k210 Apart.none
    have B213 := B196.all k210 Apart.none
    have B214 := B197.all k210 Apart.none
    have B215 := B198.all k210 Apart.none
    have B216 := B199.all k210 Apart.none
    have B217 := B200.all k210 Apart.none
    have B218 := B201.all k210 Apart.none
    have B219 := B202.all k210 Apart.none
    have B220 := B203.all k210 id
    have B221 := B204.all k210 id
    have B222 := B205.all k210 id
    have B223 := B206.all k210 id
    have B224 := B207.all k210 id
    have K225 := K208.tr k210
    refine wl_vw (.bool false) 3 false 32 rfl rfl rfl rfl rfl (y_not rfl rfl rfl rr) (wl_v (.bool false) rfl rfl (y_pickF rfl rfl rfl rr) (wl_v (.bool false) rfl rfl (y_mov rfl rfl rr) (wl_vw (.agg #[iv (h.W), iv (h.H), h0, h1, h2]) 8 false 37 rfl rfl rfl rfl rfl (y_load_stc stcT_frame rfl s185 B222 rr) (wl_callw (R := fun v_ w_ => v_ = .bool true ∧ Kept (fun _ => False) w209 w_) 8 false 37 rfl rfl rfl rfl rfl (y_cs rfl rfl rfl (fun _ _ => by kernel_rfl) (ev_func _) (vsC rfl vsN) (flaw_few h h0 h1 h2 T_h0 T_h1 T_h2 _  B217 B218 B219 ) (fun e_ w_ h_ => ⟨_, h_.1, (congrArg Value.bool d191), h_.2⟩)) ?_))))
    rintro _ w226 ⟨rfl, k227⟩
    have B228 := B211.all k227 Apart.none
    have B229 := B212.all k227 Apart.none
    have B230 := B213.all k227 Apart.none
    have B231 := B214.all k227 Apart.none
    have B232 := B215.all k227 Apart.none
    have B233 := B216.all k227 Apart.none
    have B234 := B217.all k227 Apart.none
    have B235 := B218.all k227 Apart.none
    have B236 := B219.all k227 Apart.none
    have B237 := B220.all k227 id
    have B238 := B221.all k227 id
    have B239 := B222.all k227 id
    have B240 := B223.all k227 id
    have B241 := B224.all k227 id
    have K242 := K225.tr k227
    refine wl_vw (.bool false) 8 false 37 rfl rfl rfl rfl rfl (y_not rfl rfl rfl rr) (wl_v (.bool false) rfl rfl (y_pickF rfl rfl rfl rr) (wl_nil fun F243 hF244 => ?_))
    obtain ⟨s245, s246, s247, s248, s249, s250, s251, s252, s253, s254, s255⟩ := t11 hF244 3 s178 4 s179 5 s180 8 s181 100 s182 9 s183 10 s184 11 s185 15 s186 16 s187 19 s188
    have s256 : F243 41 = .bool false := (hF244 41).trans rfl
    clear hF244
    refine then_normal ?_
    refine wq_cond (t := false) s256 (fun e => by cases e) (fun _ => ?_)
    refine wq_skip (then_normal (wq_seq (wq_region (wl_v (.agg #[iv (f.W), iv (f.H), f0, f1, f2]) rfl rfl (y_load_stc stcT_frame rfl s250 B237 rr) (wl_v (.agg #[iv (g.W), iv (g.H), g0, g1, g2]) rfl rfl (y_load_stc stcT_frame rfl s251 B238 rr) (wl_v (.agg #[iv (h.W), iv (h.H), h0, h1, h2]) rfl rfl (y_load_stc stcT_frame rfl s252 B239 rr) (wl_mv rfl rfl rfl s245 (wl_mv rfl rfl rfl s246 (wl_mv rfl rfl rfl s247 (wl_v (.agg (chW c).toArray) rfl rfl (y_load_stc stcT_choice rfl s253 B240 rr) (wl_cs rfl rfl rfl rfl rfl (fun _ _ => by kernel_rfl) (vsC rfl (vsC rfl (vsC rfl (vsC rfl (vsC rfl (vsC rfl (vsC rfl vsN))))))) (bl_predict k x y c f f0 f1 f2 g g0 g1 g2 h h0 h1 h2 T_f0 T_f1 T_f2 T_g0 T_g1 T_g2 T_h0 T_h1 T_h2 _ (hA.all K242) B228 B229 B230 B231 B232 B233 B234 B235 B236 ) fun w257 k258 => ?_)))))))))))
    have B259 := B228.all k258 Apart.none
    have B260 := B229.all k258 Apart.none
    have B261 := B230.all k258 Apart.none
    have B262 := B231.all k258 Apart.none
    have B263 := B232.all k258 Apart.none
    have B264 := B233.all k258 Apart.none
    have B265 := B234.all k258 Apart.none
    have B266 := B235.all k258 Apart.none
    have B267 := B236.all k258 Apart.none
    have B268 := B237.all k258 id
    have B269 := B238.all k258 id
    have B270 := B239.all k258 id
    have B271 := B240.all k258 id
    have B272 := B241.all k258 id
    have K273 := K242.tr k258
    refine wl_v (.tuple #[blkV (cpB f g h k x y c), iv (cpE f g h k x y c)]) rfl rfl (y_mov rfl rfl rr) (wl_v (blkV (cpB f g h k x y c)) rfl rfl (y_ext rfl rfl rfl rr) (wl_v (iv (cpE f g h k x y c)) rfl rfl (y_ext rfl rfl rfl rr) (wl_alloc_blk rfl rfl rfl blkT_block.2.2 fun p274 w275 e278 B276 k277 => ?_)))
    have g279 := onB_new (Nat.le_of_eq e278.symm)
    have gr280 : Grew w0 noB (onB p274) := Grew.new K273 g279
    have ap281 : Apart (onB p274) T_f0 := Apart.new g279 B259.live
    have ap282 : Apart (onB p274) T_f1 := Apart.new g279 B260.live
    have ap283 : Apart (onB p274) T_f2 := Apart.new g279 B261.live
    have ap284 : Apart (onB p274) T_g0 := Apart.new g279 B262.live
    have ap285 : Apart (onB p274) T_g1 := Apart.new g279 B263.live
    have ap286 : Apart (onB p274) T_g2 := Apart.new g279 B264.live
    have ap287 : Apart (onB p274) T_h0 := Apart.new g279 B265.live
    have ap288 : Apart (onB p274) T_h1 := Apart.new g279 B266.live
    have ap289 : Apart (onB p274) T_h2 := Apart.new g279 B267.live
    have ap290 : Apart (onB p274) (onB p1) := Apart.new g279 (onB_live B268.lt)
    have ap291 : Apart (onB p274) (onB p26) := Apart.new g279 (onB_live B269.lt)
    have ap292 : Apart (onB p274) (onB p53) := Apart.new g279 (onB_live B270.lt)
    have ap293 : Apart (onB p274) (onB p82) := Apart.new g279 (onB_live B271.lt)
    have ap294 : Apart (onB p274) (onB p113) := Apart.new g279 (onB_live B272.lt)
    clear e278 g279
    have B295 := B259.all k277 Apart.none
    have B296 := B260.all k277 Apart.none
    have B297 := B261.all k277 Apart.none
    have B298 := B262.all k277 Apart.none
    have B299 := B263.all k277 Apart.none
    have B300 := B264.all k277 Apart.none
    have B301 := B265.all k277 Apart.none
    have B302 := B266.all k277 Apart.none
    have B303 := B267.all k277 Apart.none
    have B304 := B268.all k277 id
    have B305 := B269.all k277 id
    have B306 := B270.all k277 id
    have B307 := B271.all k277 id
    have B308 := B272.all k277 id
    have K309 := K273.tr k277
    refine wl_store_blk blkT_block rfl rfl rfl rfl rfl B276 fun w310 B311 k312 => ?_
    have B313 := B295.all k312 ap281.symm
    have B314 := B296.all k312 ap282.symm
    have B315 := B297.all k312 ap283.symm
    have B316 := B298.all k312 ap284.symm
    have B317 := B299.all k312 ap285.symm
    have B318 := B300.all k312 ap286.symm
    have B319 := B301.all k312 ap287.symm
    have B320 := B302.all k312 ap288.symm
    have B321 := B303.all k312 ap289.symm
    have B322 := B304.all k312 (ap290.symm p1 rfl)
    have B323 := B305.all k312 (ap291.symm p26 rfl)
    have B324 := B306.all k312 (ap292.symm p53 rfl)
    have B325 := B307.all k312 (ap293.symm p82 rfl)
    have B326 := B308.all k312 (ap294.symm p113 rfl)
    have K327 := K309.trans k312 (Grew.ok (S := fun _ => False) gr280 noB_le)
    refine wl_v (iv (cpE f g h k x y c)) rfl rfl (y_asg rfl rfl rr) (wl_nil fun F328 hF329 => ?_)
    obtain ⟨s330, s331, s332, s333, s334, s335, s336, s337, s338, s339, s340⟩ := t11 hF329 3 s245 4 s246 5 s247 8 s248 100 s249 9 s250 10 s251 11 s252 15 s253 16 s254 19 s255
    have s341 : F328 20 = pt p274 0 := (hF329 20).trans rfl
    have s342 : F328 21 = iv (cpE f g h k x y c) := (hF329 21).trans rfl
    clear hF329
    refine then_normal (wq_seq (wq_region (wl_v (.agg #[iv (f.W), iv (f.H), f0, f1, f2]) rfl rfl (y_load_stc stcT_frame rfl s335 B322 rr) (wl_v (.agg #[iv (g.W), iv (g.H), g0, g1, g2]) rfl rfl (y_load_stc stcT_frame rfl s336 B323 rr) (wl_v (.agg #[iv (h.W), iv (h.H), h0, h1, h2]) rfl rfl (y_load_stc stcT_frame rfl s337 B324 rr) (wl_mv rfl rfl rfl s330 (wl_mv rfl rfl rfl s331 (wl_mv rfl rfl rfl s332 (wl_v (.agg (chW c).toArray) rfl rfl (y_load_stc stcT_choice rfl s338 B325 rr) (wl_cs rfl rfl rfl rfl rfl (fun _ _ => by kernel_rfl) (vsC rfl (vsC rfl (vsC rfl (vsC rfl (vsC rfl (vsC rfl (vsC rfl vsN))))))) (bref_predict k x y c f f0 f1 f2 g g0 g1 g2 h h0 h1 h2 T_f0 T_f1 T_f2 T_g0 T_g1 T_g2 T_h0 T_h1 T_h2 _  B313 B314 B315 B316 B317 B318 B319 B320 B321 ) fun w343 k344 => ?_))))))))))
    have B357 := B325.all k344 id
    have B358 := B326.all k344 id
    have B359 := B311.all k344 id
    have K360 := K327.tr k344
    refine wl_v (.tuple #[blkV (cpB f g h k x y c), iv (cpE f g h k x y c)]) rfl rfl (y_mov rfl rfl rr) (wl_v (blkV (cpB f g h k x y c)) rfl rfl (y_ext rfl rfl rfl rr) (wl_v (iv (cpE f g h k x y c)) rfl rfl (y_ext rfl rfl rfl rr) (wl_alloc_blk rfl rfl rfl blkT_arr.2.2 fun p361 w362 e365 B363 k364 => ?_)))
    have g366 := onB_new (Nat.le_of_eq e365.symm)
    have gr367 : Grew w0 noB (onB p361) := Grew.new K360 g366
    have ap380 : Apart (onB p361) (onB p82) := Apart.new g366 (onB_live B357.lt)
    have ap381 : Apart (onB p361) (onB p113) := Apart.new g366 (onB_live B358.lt)
    have ap382 : Apart (onB p361) (onB p274) := Apart.new g366 (onB_live B359.lt)
    clear e365 g366
    have B395 := B357.all k364 id
    have B396 := B358.all k364 id
    have B397 := B359.all k364 id
    have K398 := K360.tr k364
    refine wl_store_blk blkT_arr rfl rfl rfl rfl rfl B363 fun w399 B400 k401 => ?_
    have B414 := B395.all k401 (ap380.symm p82 rfl)
    have B415 := B396.all k401 (ap381.symm p113 rfl)
    have B416 := B397.all k401 (ap382.symm p274 rfl)
    have K417 := K398.trans k401 (Grew.ok (S := fun _ => False) gr367 noB_le)
    refine wl_v (iv (cpE f g h k x y c)) rfl rfl (y_asg rfl rfl rr) (wl_nil fun F418 hF419 => ?_)
    obtain ⟨s420, s421, s422, s423, s424, s425, s426⟩ := t7 hF419 8 s333 100 s334 15 s338 16 s339 19 s340 20 s341 21 s342
    have s427 : F418 22 = pt p361 0 := (hF419 22).trans rfl
    have s428 : F418 23 = iv (cpE f g h k x y c) := (hF419 23).trans rfl
    clear hF419
    refine then_normal (wq_seq (wq_region (wl_v (blkV b) rfl rfl (y_load_blk blkT_arr rfl s423 B415 rr) (wl_v (.agg (chW c).toArray) rfl rfl (y_load_stc stcT_choice rfl s422 B414 rr) (wl_mv rfl rfl rfl s420 (wl_cs rfl rfl rfl rfl rfl (fun _ _ => by kernel_rfl) (vsC rfl (vsC rfl (vsC rfl vsN))) (bl_build b c q  _ (hs.all K417) (hw.all K417)  ) fun w429 k430 => ?_))))))
    have B443 := B414.all k430 id
    have B444 := B415.all k430 id
    have B445 := B416.all k430 id
    have B446 := B400.all k430 id
    have K447 := K417.tr k430
    refine wl_v (.tuple #[blkV (buB b c.b q), iv (ern q)]) rfl rfl (y_mov rfl rfl rr) (wl_v (blkV (buB b c.b q)) rfl rfl (y_ext rfl rfl rfl rr) (wl_v (iv (ern q)) rfl rfl (y_ext rfl rfl rfl rr) (wl_alloc_blk rfl rfl rfl blkT_block.2.2 fun p448 w449 e452 B450 k451 => ?_)))
    have g453 := onB_new (Nat.le_of_eq e452.symm)
    have gr454 : Grew w0 noB (onB p448) := Grew.new K447 g453
    have ap467 : Apart (onB p448) (onB p82) := Apart.new g453 (onB_live B443.lt)
    have ap468 : Apart (onB p448) (onB p113) := Apart.new g453 (onB_live B444.lt)
    have ap469 : Apart (onB p448) (onB p274) := Apart.new g453 (onB_live B445.lt)
    have ap470 : Apart (onB p448) (onB p361) := Apart.new g453 (onB_live B446.lt)
    clear e452 g453
    have B483 := B443.all k451 id
    have B484 := B444.all k451 id
    have B485 := B445.all k451 id
    have B486 := B446.all k451 id
    have K487 := K447.tr k451
    refine wl_store_blk blkT_block rfl rfl rfl rfl rfl B450 fun w488 B489 k490 => ?_
    have B503 := B483.all k490 (ap467.symm p82 rfl)
    have B504 := B484.all k490 (ap468.symm p113 rfl)
    have B505 := B485.all k490 (ap469.symm p274 rfl)
    have B506 := B486.all k490 (ap470.symm p361 rfl)
    have K507 := K487.trans k490 (Grew.ok (S := fun _ => False) gr454 noB_le)
    refine wl_v (iv (ern q)) rfl rfl (y_asg rfl rfl rr) (wl_nil fun F508 hF509 => ?_)
    obtain ⟨s510, s511, s512, s513, s514, s515, s516, s517, s518⟩ := t9 hF509 8 s420 100 s421 15 s422 16 s423 19 s424 20 s425 21 s426 22 s427 23 s428
    have s519 : F508 24 = pt p448 0 := (hF509 24).trans rfl
    have s520 : F508 25 = iv (ern q) := (hF509 25).trans rfl
    clear hF509
    refine then_normal (wq_seq (wq_region (wl_v (blkV b) rfl rfl (y_load_blk blkT_arr rfl s513 B504 rr) (wl_v (.agg (chW c).toArray) rfl rfl (y_load_stc stcT_choice rfl s512 B503 rr) (wl_mv rfl rfl rfl s510 (wl_cs rfl rfl rfl rfl rfl (fun _ _ => by kernel_rfl) (vsC rfl (vsC rfl (vsC rfl vsN))) (bref_build b c q  _   ) fun w521 k522 => ?_))))))
    have B537 := B505.all k522 id
    have B538 := B506.all k522 id
    have B539 := B489.all k522 id
    have K540 := K507.tr k522
    refine wl_v (.tuple #[blkV (buB b c.b q), iv (ern q)]) rfl rfl (y_mov rfl rfl rr) (wl_v (blkV (buB b c.b q)) rfl rfl (y_ext rfl rfl rfl rr) (wl_v (iv (ern q)) rfl rfl (y_ext rfl rfl rfl rr) (wl_alloc_blk rfl rfl rfl blkT_arr.2.2 fun p541 w542 e545 B543 k544 => ?_)))
    have g546 := onB_new (Nat.le_of_eq e545.symm)
    have gr547 : Grew w0 noB (onB p541) := Grew.new K540 g546
    have ap562 : Apart (onB p541) (onB p274) := Apart.new g546 (onB_live B537.lt)
    have ap563 : Apart (onB p541) (onB p361) := Apart.new g546 (onB_live B538.lt)
    have ap564 : Apart (onB p541) (onB p448) := Apart.new g546 (onB_live B539.lt)
    clear e545 g546
    have B579 := B537.all k544 id
    have B580 := B538.all k544 id
    have B581 := B539.all k544 id
    have K582 := K540.tr k544
    refine wl_store_blk blkT_arr rfl rfl rfl rfl rfl B543 fun w583 B584 k585 => ?_
    have B600 := B579.all k585 (ap562.symm p274 rfl)
    have B601 := B580.all k585 (ap563.symm p361 rfl)
    have B602 := B581.all k585 (ap564.symm p448 rfl)
    have K603 := K582.trans k585 (Grew.ok (S := fun _ => False) gr547 noB_le)
    refine wl_v (iv (ern q)) rfl rfl (y_asg rfl rfl rr) (wl_nil fun F604 hF605 => ?_)
    obtain ⟨s606, s607, s608, s609, s610, s611, s612, s613⟩ := t8 hF605 100 s511 19 s514 20 s515 21 s516 22 s517 23 s518 24 s519 25 s520
    have s614 : F604 26 = pt p541 0 := (hF605 26).trans rfl
    have s615 : F604 27 = iv (ern q) := (hF605 27).trans rfl
    clear hF605
    refine then_normal (wq_seq (wq_region (wl_mv rfl rfl rfl s607 (wl_v (.bool true) rfl rfl (y_mov rfl rfl rr) (wl_vw (blkV (cpB f g h k x y c)) 1 true 80 rfl rfl rfl rfl rfl (y_load_blk blkT_block rfl s608 B600 rr) (wl_vw (blkV (cpB f g h k x y c)) 1 true 80 rfl rfl rfl rfl rfl (y_load_blk blkT_arr rfl s610 B601 rr) (wl_vw (.bool true) 1 true 80 rfl rfl rfl rfl rfl (y_sameR rfl rfl rfl (sameB_self _) rr) (wl_v (.bool true) rfl rfl (y_pickT rfl rfl rfl rr) (wl_v (.bool true) rfl rfl (y_mov rfl rfl rr) (wl_vw (iv (cpE f g h k x y c)) 6 true 85 rfl rfl rfl rfl rfl (y_mov rfl s609 rr) (wl_vw (iv (cpE f g h k x y c)) 6 true 85 rfl rfl rfl rfl rfl (y_mov rfl s611 rr) ?_)))))))))))
    refine wl_vw (.bool true) 6 true 85 rfl rfl rfl rfl rfl (y_eqlI rfl rfl rfl (decide_eq_true rfl) rr) (wl_v (.bool true) rfl rfl (y_pickT rfl rfl rfl rr) (wl_v (.bool true) rfl rfl (y_mov rfl rfl rr) (wl_vw (blkV (buB b c.b q)) 11 true 90 rfl rfl rfl rfl rfl (y_load_blk blkT_block rfl s612 B602 rr) (wl_vw (blkV (buB b c.b q)) 11 true 90 rfl rfl rfl rfl rfl (y_load_blk blkT_arr rfl s614 B584 rr) (wl_vw (.bool true) 11 true 90 rfl rfl rfl rfl rfl (y_sameR rfl rfl rfl (sameB_self _) rr) (wl_v (.bool true) rfl rfl (y_pickT rfl rfl rfl rr) (wl_v (.bool true) rfl rfl (y_mov rfl rfl rr) (wl_vw (iv (ern q)) 16 true 95 rfl rfl rfl rfl rfl (y_mov rfl s613 rr) (wl_vw (iv (ern q)) 16 true 95 rfl rfl rfl rfl rfl (y_mov rfl s615 rr) (wl_vw (.bool true) 16 true 95 rfl rfl rfl rfl rfl (y_eqlI rfl rfl rfl (decide_eq_true rfl) rr) (wl_v (.bool true) rfl rfl (y_pickT rfl rfl rfl rr) ?_)))))))))))
    refine wl_v (.bool true) rfl rfl (y_asg rfl rfl rr) (wl_nil fun F616 hF617 => ?_)
    have s618 := (hF617 100).trans s606
    have s619 : F616 18 = .bool true := (hF617 18).trans rfl
    clear hF617
    refine then_normal (wq_ret ?_)
    exact end_tmp (v := .bool true) s618 rfl rfl s619 ⟨rfl, K603⟩
   ·skip
    refine wq_region (wl_v (.agg #[iv (f.W), iv (f.H), f0, f1, f2]) rfl rfl (y_load_stc stcT_frame rfl s183 B170 rr) (wl_call (R := fun v_ w_ => v_ = .bool true ∧ Kept (fun _ => False) w159 w_) rfl rfl (y_cs rfl rfl rfl (fun _ _ => by kernel_rfl) (ev_func _) (vsC rfl vsN) (flaw_few f f0 f1 f2 T_f0 T_f1 T_f2 _  B161 B162 B163 ) (fun e_ w_ h_ => ⟨_, h_.1, (congrArg Value.bool d189), h_.2⟩)) ?_))
    rintro _ w620 ⟨rfl, k621⟩
    have B625 := B164.all k621 Apart.none
    have B626 := B165.all k621 Apart.none
    have B627 := B166.all k621 Apart.none
    have B628 := B167.all k621 Apart.none
    have B629 := B168.all k621 Apart.none
    have B630 := B169.all k621 Apart.none
    have B632 := B171.all k621 id
    have B633 := B172.all k621 id
    have K636 := K175.tr k621
    refine wl_v (.bool false) rfl rfl (y_not rfl rfl rfl rr) (wl_v (.bool false) rfl rfl (y_mov rfl rfl rr) (wl_vw (.agg #[iv (g.W), iv (g.H), g0, g1, g2]) 3 false 32 rfl rfl rfl rfl rfl (y_load_stc stcT_frame rfl s184 B632 rr) (wl_callw (R := fun v_ w_ => v_ = .bool true ∧ Kept (fun _ => False) w620 w_) 3 false 32 rfl rfl rfl rfl rfl (y_cs rfl rfl rfl (fun _ _ => by kernel_rfl) (ev_func _) (vsC rfl vsN) (flaw_few g g0 g1 g2 T_g0 T_g1 T_g2 _  B625 B626 B627 ) (fun e_ w_ h_ => ⟨_, h_.1, (congrArg Value.bool d190), h_.2⟩)) ?_)))
    rintro _ w637 ⟨rfl, k638⟩
    have B645 := B628.all k638 Apart.none
    have B646 := B629.all k638 Apart.none
    have B647 := B630.all k638 Apart.none
    have B650 := B633.all k638 id
    have K653 := K636.tr k638
    refine wl_vw (.bool false) 3 false 32 rfl rfl rfl rfl rfl (y_not rfl rfl rfl rr) (wl_v (.bool false) rfl rfl (y_pickF rfl rfl rfl rr) (wl_v (.bool false) rfl rfl (y_mov rfl rfl rr) (wl_vw (.agg #[iv (h.W), iv (h.H), h0, h1, h2]) 8 false 37 rfl rfl rfl rfl rfl (y_load_stc stcT_frame rfl s185 B650 rr) (wl_callw (R := fun v_ w_ => v_ = .bool false ∧ Kept (fun _ => False) w637 w_) 8 false 37 rfl rfl rfl rfl rfl (y_cs rfl rfl rfl (fun _ _ => by kernel_rfl) (ev_func _) (vsC rfl vsN) (flaw_few h h0 h1 h2 T_h0 T_h1 T_h2 _  B645 B646 B647 ) (fun e_ w_ h_ => ⟨_, h_.1, (congrArg Value.bool d191), h_.2⟩)) ?_))))
    rintro _ w654 ⟨rfl, k655⟩
    have K670 := K653.tr k655
    refine wl_vw (.bool true) 8 false 37 rfl rfl rfl rfl rfl (y_not rfl rfl rfl rr) (wl_v (.bool true) rfl rfl (y_pickF rfl rfl rfl rr) (wl_nil fun F671 hF672 => ?_))
    obtain ⟨s677, s683⟩ := t2 hF672 100 s182 19 s188
    have s684 : F671 41 = .bool true := (hF672 41).trans rfl
    clear hF672
    refine then_normal ?_
    refine wq_cond (t := true) s684 (fun _ => ?_) (fun e => by cases e)
    refine wq_seq (wq_region (wl_mv rfl rfl rfl s683 (wl_v (.bool true) rfl rfl (y_asg rfl rfl rr) (wl_nil fun F685 hF686 => ?_))))
    have s687 := (hF686 100).trans s677
    have s688 : F685 18 = .bool true := (hF686 18).trans rfl
    clear hF686
    refine then_normal (wq_ret (then_ret ?_))
    exact end_tmp (v := .bool true) s687 rfl rfl s688 ⟨rfl, K670⟩
  ·skip
   refine wq_region (wl_v (.agg #[iv (f.W), iv (f.H), f0, f1, f2]) rfl rfl (y_load_stc stcT_frame rfl s183 B170 rr) (wl_call (R := fun v_ w_ => v_ = .bool true ∧ Kept (fun _ => False) w159 w_) rfl rfl (y_cs rfl rfl rfl (fun _ _ => by kernel_rfl) (ev_func _) (vsC rfl vsN) (flaw_few f f0 f1 f2 T_f0 T_f1 T_f2 _  B161 B162 B163 ) (fun e_ w_ h_ => ⟨_, h_.1, (congrArg Value.bool d189), h_.2⟩)) ?_))
   rintro _ w689 ⟨rfl, k690⟩
   have B694 := B164.all k690 Apart.none
   have B695 := B165.all k690 Apart.none
   have B696 := B166.all k690 Apart.none
   have B701 := B171.all k690 id
   have K705 := K175.tr k690
   refine wl_v (.bool false) rfl rfl (y_not rfl rfl rfl rr) (wl_v (.bool false) rfl rfl (y_mov rfl rfl rr) (wl_vw (.agg #[iv (g.W), iv (g.H), g0, g1, g2]) 3 false 32 rfl rfl rfl rfl rfl (y_load_stc stcT_frame rfl s184 B701 rr) (wl_callw (R := fun v_ w_ => v_ = .bool false ∧ Kept (fun _ => False) w689 w_) 3 false 32 rfl rfl rfl rfl rfl (y_cs rfl rfl rfl (fun _ _ => by kernel_rfl) (ev_func _) (vsC rfl vsN) (flaw_few g g0 g1 g2 T_g0 T_g1 T_g2 _  B694 B695 B696 ) (fun e_ w_ h_ => ⟨_, h_.1, (congrArg Value.bool d190), h_.2⟩)) ?_)))
   rintro _ w706 ⟨rfl, k707⟩
   have K722 := K705.tr k707
   refine wl_vw (.bool true) 3 false 32 rfl rfl rfl rfl rfl (y_not rfl rfl rfl rr) (wl_v (.bool true) rfl rfl (y_pickF rfl rfl rfl rr) (wl_v (.bool true) rfl rfl (y_mov rfl rfl rr) (wl_unless 8 false 37 rfl rfl rfl (Or.inl rfl) rfl (wl_unless 8 false 37 rfl rfl rfl (Or.inl rfl) rfl (wl_unless 8 false 37 rfl rfl rfl (Or.inl rfl) rfl (wl_v (.bool true) rfl rfl (y_pickT rfl rfl rfl rr) (wl_nil fun F723 hF724 => ?_)))))))
   obtain ⟨s729, s735⟩ := t2 hF724 100 s182 19 s188
   have s736 : F723 41 = .bool true := (hF724 41).trans rfl
   clear hF724
   refine then_normal ?_
   refine wq_cond (t := true) s736 (fun _ => ?_) (fun e => by cases e)
   refine wq_seq (wq_region (wl_mv rfl rfl rfl s735 (wl_v (.bool true) rfl rfl (y_asg rfl rfl rr) (wl_nil fun F737 hF738 => ?_))))
   have s739 := (hF738 100).trans s729
   have s740 : F737 18 = .bool true := (hF738 18).trans rfl
   clear hF738
   refine then_normal (wq_ret (then_ret ?_))
   exact end_tmp (v := .bool true) s739 rfl rfl s740 ⟨rfl, K722⟩
 ·skip
  refine wq_region (wl_v (.agg #[iv (f.W), iv (f.H), f0, f1, f2]) rfl rfl (y_load_stc stcT_frame rfl s183 B170 rr) (wl_call (R := fun v_ w_ => v_ = .bool false ∧ Kept (fun _ => False) w159 w_) rfl rfl (y_cs rfl rfl rfl (fun _ _ => by kernel_rfl) (ev_func _) (vsC rfl vsN) (flaw_few f f0 f1 f2 T_f0 T_f1 T_f2 _  B161 B162 B163 ) (fun e_ w_ h_ => ⟨_, h_.1, (congrArg Value.bool d189), h_.2⟩)) ?_))
  rintro _ w741 ⟨rfl, k742⟩
  have K757 := K175.tr k742
  refine wl_v (.bool true) rfl rfl (y_not rfl rfl rfl rr) (wl_v (.bool true) rfl rfl (y_mov rfl rfl rr) (wl_unless 3 false 32 rfl rfl rfl (Or.inl rfl) rfl (wl_unless 3 false 32 rfl rfl rfl (Or.inl rfl) rfl (wl_unless 3 false 32 rfl rfl rfl (Or.inl rfl) rfl (wl_v (.bool true) rfl rfl (y_pickT rfl rfl rfl rr) (wl_v (.bool true) rfl rfl (y_mov rfl rfl rr) (wl_unless 8 false 37 rfl rfl rfl (Or.inl rfl) rfl (wl_unless 8 false 37 rfl rfl rfl (Or.inl rfl) rfl (wl_unless 8 false 37 rfl rfl rfl (Or.inl rfl) rfl (wl_v (.bool true) rfl rfl (y_pickT rfl rfl rfl rr) (wl_nil fun F758 hF759 => ?_)))))))))))
  obtain ⟨s764, s770⟩ := t2 hF759 100 s182 19 s188
  have s771 : F758 41 = .bool true := (hF759 41).trans rfl
  clear hF759
  refine then_normal ?_
  refine wq_cond (t := true) s771 (fun _ => ?_) (fun e => by cases e)
  refine wq_seq (wq_region (wl_mv rfl rfl rfl s770 (wl_v (.bool true) rfl rfl (y_asg rfl rfl rr) (wl_nil fun F772 hF773 => ?_))))
  have s774 := (hF773 100).trans s764
  have s775 : F772 18 = .bool true := (hF773 18).trans rfl
  clear hF773
  refine then_normal (wq_ret (then_ret ?_))
  exact end_tmp (v := .bool true) s774 rfl rfl s775 ⟨rfl, K757⟩
end Go.Proofs.YtdcbabgcbkdlhaaGreatDoor
set_option maxRecDepth 100000
namespace Go.Proofs.YtdcbabgcbkdlhaaGreatDoor
open Go.ChangeShapes Go.WideShapes Go.ChangeAt Go.RowKit Go.Deep
section
variable {H : Type} {enc : TypeId × Value → H} {w : World} {base : Nat} {spare : Nat → Bool} {held : Bool}
theorem Tryz.cellsVec : Tryz.prog.cellsOf 27 = 2 := by kernel_rfl
theorem Tryz.cellsVecI : Tryz.prog.cellsOf 3 = 1 := by kernel_rfl
end
end Go.Proofs.YtdcbabgcbkdlhaaGreatDoor
set_option maxRecDepth 100000
namespace Go.Proofs.YtdcbabgcbkdlhaaGreatDoor
open Go.ChangeShapes Go.WideShapes Go.ChangeAt Go.RowKit Go.Deep Go.Joins
section
variable {H : Type} {enc : TypeId × Value → H} {w : World} {base : Nat} {spare : Nat → Bool} {held : Bool}
theorem Tryz.cellsChB : Tryz.prog.cellsOf 29 = 16 := by kernel_rfl
theorem Tryz.cellsCh : Tryz.prog.cellsOf 31 = 21 := by kernel_rfl
theorem vec_cells2 {fuel : Nat} {cs : List Value} {y : DataW H × List MemPlace} (h : DataW.trod enc Tryz.prog w base spare held fuel 27 cs = some y) :
    ∃ X Y : Int, cs = [.int .i64 X, .int .i64 Y] := by
  obtain ⟨y0, y1, n, _, hsz, h0, h1⟩ := trod_struct2 Tryz.underlying27 h
  rw [Tryz.cellsVec] at hsz
  match cs, hsz with
  | [c0, c1], _ =>
    simp only [Tryz.cellsVecI, List.drop_zero, List.drop_succ_cons, List.take_succ_cons, List.take_zero] at h0 h1
    obtain ⟨X, hX, _, _⟩ := DataW.trod_int Tryz.underlying3 h0
    obtain ⟨Y, hY, _, _⟩ := DataW.trod_int Tryz.underlying3 h1
    simp only [List.cons.injEq, and_true] at hX hY
    subst hX; subst hY
    exact ⟨X, Y, rfl⟩
def intOf : Option Value → Int
  | some (.int _ z) => z
  | _ => 0
theorem ints_cells {fuel n : Nat} {t : TypeId} {cs : List Value} {y : DataW H × List MemPlace} (hu : Tryz.prog.underlying t = some (.array n 3)) (hc : Tryz.prog.cellsOf t = n) (h : DataW.trod enc Tryz.prog w base spare held fuel t cs = some y) :
    ∃ b : Nat → Int, cs = arrL n b := by
  obtain ⟨xs, m, rfl, hx, hl, hn, hel⟩ := DataW.trod_array hu h
  rw [hc] at hl
  have key : ∀ i, i < n → ∃ z : Int, cs[i]? = some (.int .i64 z) := by
    intro i hi
    have h2 := hel i hi
    rw [Tryz.cellsVecI, Nat.mul_one, List.getElem?_eq_getElem (by omega)] at h2
    obtain ⟨z, hz, _, _⟩ := DataW.trod_int Tryz.underlying3 h2
    have h3 : cs[i]? = some (.int .i64 z) := by
      have := congrArg (·[0]?) hz
      simpa [List.getElem?_take, List.getElem?_drop] using this
    exact ⟨z, h3⟩
  refine ⟨fun i => intOf cs[i]?, ?_⟩
  apply List.ext_getElem?
  intro i
  by_cases hi : i < n
  · obtain ⟨z, hz⟩ := key i hi
    rw [hz, arrL_at hi]
    show some (Value.int .i64 z) = some (Value.int .i64 (intOf cs[i]?))
    rw [hz]; rfl
  · rw [List.getElem?_eq_none (by omega), List.getElem?_eq_none (by rw [arrL_length]; omega)]
theorem choice_cells {fuel : Nat} {cs : List Value} {y : DataW H × List MemPlace} (h : DataW.trod enc Tryz.prog w base spare held fuel 31 cs = some y) : ∃ c : Ch, cs = chV c := by
  obtain ⟨y0, y1, y2, y3, n, _, hsz, h0, h1, h2, h3⟩ := trod_struct4 Tryz.underlying31 h
  rw [Tryz.cellsCh] at hsz
  simp only [Tryz.cellsVecI, Tryz.cellsVec, Tryz.cellsChB] at h0 h1 h2 h3
  obtain ⟨m, hm, _, _⟩ := DataW.trod_int Tryz.underlying3 h0
  obtain ⟨px, py, hp⟩ := vec_cells2 h1
  obtain ⟨nx, ny, hn⟩ := vec_cells2 h2
  obtain ⟨b, hb⟩ := ints_cells Tryz.underlying29 Tryz.cellsChB h3
  refine ⟨⟨m, px, py, nx, ny, b⟩, ?_⟩
  have e1 : cs = cs.take 1 ++ cs.drop 1 := (List.take_append_drop 1 cs).symm
  have e2 : cs.drop 1 = (cs.drop 1).take 2 ++ cs.drop 3 := by rw [show cs.drop 3 = (cs.drop 1).drop 2 by rw [List.drop_drop]]; exact (List.take_append_drop 2 _).symm
  have e3 : cs.drop 3 = (cs.drop 3).take 2 ++ cs.drop 5 := by rw [show cs.drop 5 = (cs.drop 3).drop 2 by rw [List.drop_drop]]; exact (List.take_append_drop 2 _).symm
  have e4 : cs.drop 5 = (cs.drop 5).take 16 := (List.take_of_length_le (by rw [List.length_drop]; omega)).symm
  simp only [List.drop_zero] at hm
  rw [e1, e2, e3, e4, hm, hp, hn, hb]
  rfl
theorem choice_open {r : Reach} {b0 : Nat} {v : Value} {d : DataW H} {ps : List MemPlace} (hval : Value.okWide Tryz.prog w r b0 31 v) (h : DataW.Trod enc Tryz.prog w base spare held 31 v d ps) :
    ∃ c : Ch, v = .agg (chV c).toArray := by
  obtain ⟨cs, rfl, hsz⟩ := okWide_struct Tryz.underlying31 hval
  obtain ⟨cs⟩ := cs
  obtain ⟨fuel, hf⟩ := h
  obtain ⟨c, hc⟩ := choice_cells (cs := cs) hf
  exact ⟨c, by rw [hc]⟩
end
end Go.Proofs.YtdcbabgcbkdlhaaGreatDoor
set_option maxRecDepth 100000
namespace Go.Proofs.YtdcbabgcbkdlhaaGreatDoor
open Go.ChangeShapes Go.WideShapes Go.ChangeAt Go.RowKit
section
variable {H : Type} {enc : TypeId × Value → H} {w : World} {base : Nat} {spare : Nat → Bool} {held : Bool}
theorem BytesArg.of_row {a : Option Addr} {len cap : Nat} {zs : List Int}
    (h : (a = none ∧ len = 0 ∧ cap = 0 ∧ zs = []) ∨ ∃ x, a = some x ∧ len ≤ cap ∧ cap ≤ maxLen ∧ len ≤ zs.length ∧ (∀ i, i < zs.length → w.cell? (x.add i) = some (.int .u8 (zs.getD i 0))) ∧ ∀ n ∈ zs, (Lit.int .u8 n).wf = true) :
    ∃ l : List Nat, BytesArg w (.slice a len cap) l := by
  rcases h with ⟨rfl, rfl, rfl, rfl⟩ | ⟨x, rfl, hlc, hcm, hz, hcell, hwf⟩
  · exact ⟨[], BytesArg.nil w⟩
  · have hlen : ((zs.take len).map Int.toNat).length = len := by simp; omega
    refine ⟨(zs.take len).map Int.toNat, some x, cap, by rw [hlen], by rw [hlen]; exact hlc, hcm, by simp, ?_, ?_⟩
    · intro y hy
      obtain ⟨z, hz1, rfl⟩ := List.mem_map.1 hy
      have := bounds_u8 (hwf z (List.mem_of_mem_take hz1))
      omega
    · intro hpos
      rw [hlen] at hpos
      have hpos' : 0 < zs.length := by omega
      obtain ⟨b, off, rfl, hc⟩ := ints_at hcell hpos'
      refine ⟨b, off, rfl, World.block_lt_of_cell? w _ (hc 0 hpos'), fun i hi => ?_⟩
      rw [hlen] at hi
      have hi' : i < zs.length := by omega
      rw [hc i hi']
      have hwi := bounds_u8 (hwf zs[i] (List.getElem_mem hi'))
      simp [List.getD, hi', hi]
      omega
theorem bytes_open {fuel : Nat} {v : Value} {x : DataW H × List MemPlace}
    (h : DataW.trod enc Tryz.prog w base spare held fuel 22 [v] = some x) : ∃ l : List Nat, BytesArg w v l := by
  rcases open_ints Tryz.underlying22 Tryz.underlying5 (by kernel_rfl) h with ⟨hcs, _⟩ | ⟨a, len, cap, zs, hcs, _, hl, hm, hz, _, hcell, hwz⟩
  · simp at hcs
    subst hcs
    exact ⟨[], BytesArg.nil w⟩
  · simp at hcs
    subst hcs
    exact BytesArg.of_row (.inr ⟨a, rfl, hl, hm, by have := hz; split at this <;> omega, hcell, hwz⟩)
end
end Go.Proofs.YtdcbabgcbkdlhaaGreatDoor
set_option maxRecDepth 100000
namespace Go.Proofs.YtdcbabgcbkdlhaaGreatDoor
open Go.ChangeShapes Go.WideShapes Go.ChangeAt Go.RowKit Go.Deep
section
variable {H : Type} {enc : TypeId × Value → H} {w : World} {base : Nat} {spare : Nat → Bool} {held : Bool}
theorem Tryz.cellsF : Tryz.prog.cellsOf 25 = 5 := by kernel_rfl
theorem Tryz.cellsI : Tryz.prog.cellsOf 3 = 1 := by kernel_rfl
theorem Tryz.cellsP : Tryz.prog.cellsOf 23 = 3 := by kernel_rfl
theorem Tryz.cellsS : Tryz.prog.cellsOf 22 = 1 := by kernel_rfl
theorem frame_open {r : Reach} {b0 : Nat} {v : Value} {d : DataW H} {ps : List MemPlace} (hval : Value.okWide Tryz.prog w r b0 25 v) (h : DataW.Trod enc Tryz.prog w base spare held 25 v d ps) :
    ∃ (f : FD) (a b c : Value), v = .agg #[.int .i64 f.W, .int .i64 f.H, a, b, c] ∧ BytesArg w a f.p0 ∧ BytesArg w b f.p1 ∧ BytesArg w c f.p2 := by
  obtain ⟨cs, rfl, hsz⟩ := okWide_struct Tryz.underlying25 hval
  rw [Tryz.cellsF] at hsz
  obtain ⟨cs⟩ := cs
  obtain ⟨fuel, hf⟩ := h
  match cs, hsz with
  | [c0, c1, c2, c3, c4], _ =>
    obtain ⟨y0, y1, y2, n, _, _, h0, h1, h2⟩ := trod_struct3 (cs := [c0, c1, c2, c3, c4]) Tryz.underlying25 hf
    simp only [Tryz.cellsI, Tryz.cellsP, List.drop_zero, List.drop_succ_cons, List.take_succ_cons, List.take_zero] at h0 h1 h2
    obtain ⟨W, hW, _, _⟩ := DataW.trod_int Tryz.underlying3 h0
    obtain ⟨Hh, hH, _, _⟩ := DataW.trod_int Tryz.underlying3 h1
    obtain ⟨xs, m, _, _, _, hn, hel⟩ := DataW.trod_array Tryz.underlying23 h2
    have e0 := hel 0 (by omega)
    have e1 := hel 1 (by omega)
    have e2 := hel 2 (by omega)
    simp only [Tryz.cellsS, Nat.mul_one, List.drop_zero, List.drop_succ_cons, List.take_succ_cons, List.take_zero] at e0 e1 e2
    rw [List.getElem?_eq_getElem (by omega)] at e0 e1 e2
    obtain ⟨l0, b0⟩ := bytes_open e0
    obtain ⟨l1, b1⟩ := bytes_open e1
    obtain ⟨l2, b2⟩ := bytes_open e2
    simp only [List.cons.injEq, and_true] at hW hH
    subst hW; subst hH
    exact ⟨⟨W, Hh, l0, l1, l2⟩, c2, c3, c4, rfl, b0, b1, b2⟩
end
end Go.Proofs.YtdcbabgcbkdlhaaGreatDoor
