/- What PlaneTells reaches of my texts, part 3. -/
import Derived.Test.YtomkodoclnbaoaaPlaneTellsB
namespace Go.Proofs.Ytomkodoclnbaoaa
open Go.RowKit
section
variable {P : Program} {ρ : Operand → Value} {o : Oper} {w : World} {R : Value → World → Prop}
theorem y_max3 {ts : Array TypeId} {k : IntKind} {x y z : Operand} {m n q r : Int} (ho : o.op = .call { callee := .builtin .max, args := #[x, y, z], argTypes := ts }) (hx : ρ x = .int k m) (hy : ρ y = .int k n) (hz : ρ z = .int k q) (he : max (max m n) q = r) (h : R (.int k r) w) : Yields P ρ o w R := by
  have e : (if q > (if n > m then n else m) then q else (if n > m then n else m)) = max (max m n) q := by split <;> split at * <;> omega
  have hr := run_max_int3 (P := P) (w := w) ts o.type k k k m n q
  rw [e, he] at hr
  exact y_of (v := .int k r) (w' := w) (by simp only [execOp, ho, resolve, invoke, builtin, Sem.run_bind, Sem.run_pure, Result.andThen_ok, List.map_toArray, List.map_cons, List.map_nil, hx, hy, hz, hr]) h
end

theorem u8_byte (n : Int) : IntKind.u8.wrap (min (max n 0) 255) = ((byteI n : Nat) : Int) := by
  unfold byteI IntKind.wrap; simp [IntKind.signed, IntKind.bits]; omega
set_option maxHeartbeats 4000000 in
set_option maxRecDepth 100000 in
theorem flaw_few (f : FD) (f0 f1 f2 : Value) (T_f0 : Nat → Prop) (T_f1 : Nat → Prop) (T_f2 : Nat → Prop) (w0 : World) (h_f0 : Byt w0 T_f0 f0 ((f).p0)) (h_f1 : Byt w0 T_f1 f1 ((f).p1)) (h_f2 : Byt w0 T_f2 f2 ((f).p2)) :
    Calls Try.prog 10 #[.agg #[.int .i64 ((f).W), .int .i64 ((f).H), f0, f1, f2]] w0 fun e w' => e = .returned (.bool (fewF f)) ∧ Kept (fun _ => False) w0 w' := by
  refine calls_wq (args := [.agg #[.int .i64 ((f).W), .int .i64 ((f).H), f0, f1, f2]]) 22 Try.func10 rfl rfl (Nat.le_of_ble_eq_true rfl) ?_
  have K0 := Kept.refl (fun _ => False) w0
  have g_f0 := Grew.refl w0 T_f0
  have g_f1 := Grew.refl w0 T_f1
  have g_f2 := Grew.refl w0 T_f2
  refine wq_seq ?_
  refine wq_region ?_
  refine wl_box_stc (vs := [.int .i64 ((f).W), .int .i64 ((f).H), f0, f1, f2]) rfl rfl rfl rfl fun p1 w2 B4 g5 k3 => ?_
  have gr6 : Grew w0 noB (onB p1) := Grew.new K0 g5
  have ap7 : Apart (onB p1) (T_f0) := Apart.new g5 (h_f0).live
  have ap8 : Apart (onB p1) (T_f1) := Apart.new g5 (h_f1).live
  have ap9 : Apart (onB p1) (T_f2) := Apart.new g5 (h_f2).live
  have B10 := h_f0.all k3 Apart.none
  have B11 := h_f1.all k3 Apart.none
  have B12 := h_f2.all k3 Apart.none
  have K13 := K0.trans k3 (fun _ _ x => x.elim)
  refine wl_v (.bool false) rfl rfl (y_asg rfl rfl ⟨rfl, rfl⟩) ?_
  refine wl_nil fun F14 hF15 => ?_
  have s16 : F14 22 = undef := (hF15 22).trans rfl
  have s17 : F14 1 = .pointer (some ⟨p1, 0, none⟩) := (hF15 1).trans rfl
  clear hF15
  refine then_normal ?_
  refine wq_seq ?_
  by_cases d18 : (((((f).p0).length : Nat) : Int)) ≤ (10000)
  · skip
    by_cases d19 : (((((f).p1).length : Nat) : Int)) ≤ (10000)
    · skip
      refine wq_region ?_
      refine wl_v (.pointer (some ⟨p1, 2, none⟩)) rfl rfl (y_fieldR (n := 3) rfl s17 Try.underlying25 rfl (by kernel_rfl) (by decide) rfl ⟨rfl, rfl⟩) ?_
      refine wl_v (.pointer (some ⟨p1, 2, none⟩)) rfl rfl (y_atR (0) (s := 1) rfl rfl rfl (by omega) Try.underlying23 (by omega) (by kernel_rfl) (by omega) ⟨rfl, rfl⟩) ?_
      refine wl_v (f0) rfl rfl (y_ld_stc rfl rfl Try.underlying22 B4 rfl rfl ⟨rfl, rfl⟩) ?_
      refine wl_v (.int .i64 (((((f).p0).length : Nat) : Int))) rfl rfl (y_lenV rfl rfl rfl B10 ⟨rfl, rfl⟩) ?_
      refine wl_v (.bool true) rfl rfl (y_leq rfl rfl rfl (decide_eq_true d18) ⟨rfl, rfl⟩) ?_
      refine wl_v (.bool true) rfl rfl (y_mov rfl rfl ⟨rfl, rfl⟩) ?_
      refine wl_vw (.pointer (some ⟨p1, 2, none⟩)) 5 true 8 rfl rfl rfl rfl rfl (y_fieldR (n := 3) rfl s17 Try.underlying25 rfl (by kernel_rfl) (by decide) rfl ⟨rfl, rfl⟩) ?_
      refine wl_vw (.pointer (some ⟨p1, 3, none⟩)) 5 true 8 rfl rfl rfl rfl rfl (y_atR (1) (s := 1) rfl rfl rfl (by omega) Try.underlying23 (by omega) (by kernel_rfl) (by omega) ⟨rfl, rfl⟩) ?_
      refine wl_vw (f1) 5 true 8 rfl rfl rfl rfl rfl (y_ld_stc rfl rfl Try.underlying22 B4 rfl rfl ⟨rfl, rfl⟩) ?_
      refine wl_vw (.int .i64 (((((f).p1).length : Nat) : Int))) 5 true 8 rfl rfl rfl rfl rfl (y_lenV rfl rfl rfl B11 ⟨rfl, rfl⟩) ?_
      refine wl_vw (.bool true) 5 true 8 rfl rfl rfl rfl rfl (y_leq rfl rfl rfl (decide_eq_true d19) ⟨rfl, rfl⟩) ?_
      refine wl_v (.bool true) rfl rfl (y_pickT rfl rfl rfl ⟨rfl, rfl⟩) ?_
      refine wl_v (.bool true) rfl rfl (y_mov rfl rfl ⟨rfl, rfl⟩) ?_
      refine wl_vw (.pointer (some ⟨p1, 2, none⟩)) 12 true 15 rfl rfl rfl rfl rfl (y_fieldR (n := 3) rfl s17 Try.underlying25 rfl (by kernel_rfl) (by decide) rfl ⟨rfl, rfl⟩) ?_
      refine wl_vw (.pointer (some ⟨p1, 4, none⟩)) 12 true 15 rfl rfl rfl rfl rfl (y_atR (2) (s := 1) rfl rfl rfl (by omega) Try.underlying23 (by omega) (by kernel_rfl) (by omega) ⟨rfl, rfl⟩) ?_
      refine wl_vw (f2) 12 true 15 rfl rfl rfl rfl rfl (y_ld_stc rfl rfl Try.underlying22 B4 rfl rfl ⟨rfl, rfl⟩) ?_
      refine wl_vw (.int .i64 (((((f).p2).length : Nat) : Int))) 12 true 15 rfl rfl rfl rfl rfl (y_lenV rfl rfl rfl B12 ⟨rfl, rfl⟩) ?_
      refine wl_vw (.bool (decide ((((((f).p2).length : Nat) : Int)) ≤ (10000)))) 12 true 15 rfl rfl rfl rfl rfl (y_leq rfl rfl rfl rfl ⟨rfl, rfl⟩) ?_
      refine wl_v (.bool (decide ((((((f).p2).length : Nat) : Int)) ≤ (10000)))) rfl rfl (y_pickT rfl rfl rfl ⟨rfl, rfl⟩) ?_
      refine wl_v (.bool (decide ((((((f).p2).length : Nat) : Int)) ≤ (10000)))) rfl rfl (y_asg rfl rfl ⟨rfl, rfl⟩) ?_
      refine wl_nil fun F20 hF21 => ?_
      have s22 : F20 22 = undef := (hF21 22).trans s16
      have s23 : F20 2 = .bool (decide ((((((f).p2).length : Nat) : Int)) ≤ (10000))) := (hF21 2).trans rfl
      clear hF21
      refine then_normal ?_
      refine wq_ret ?_
      exact end_tmp (v := .bool (decide ((((((f).p2).length : Nat) : Int)) ≤ (10000)))) s22 rfl rfl s23 ⟨(by first | rw [fewF_0 (by assumption)] | rw [fewF_1 (by assumption)] | rw [fewF_2 (by assumption) (by assumption)]), K13⟩
    · skip
      refine wq_region ?_
      refine wl_v (.pointer (some ⟨p1, 2, none⟩)) rfl rfl (y_fieldR (n := 3) rfl s17 Try.underlying25 rfl (by kernel_rfl) (by decide) rfl ⟨rfl, rfl⟩) ?_
      refine wl_v (.pointer (some ⟨p1, 2, none⟩)) rfl rfl (y_atR (0) (s := 1) rfl rfl rfl (by omega) Try.underlying23 (by omega) (by kernel_rfl) (by omega) ⟨rfl, rfl⟩) ?_
      refine wl_v (f0) rfl rfl (y_ld_stc rfl rfl Try.underlying22 B4 rfl rfl ⟨rfl, rfl⟩) ?_
      refine wl_v (.int .i64 (((((f).p0).length : Nat) : Int))) rfl rfl (y_lenV rfl rfl rfl B10 ⟨rfl, rfl⟩) ?_
      refine wl_v (.bool true) rfl rfl (y_leq rfl rfl rfl (decide_eq_true d18) ⟨rfl, rfl⟩) ?_
      refine wl_v (.bool true) rfl rfl (y_mov rfl rfl ⟨rfl, rfl⟩) ?_
      refine wl_vw (.pointer (some ⟨p1, 2, none⟩)) 5 true 8 rfl rfl rfl rfl rfl (y_fieldR (n := 3) rfl s17 Try.underlying25 rfl (by kernel_rfl) (by decide) rfl ⟨rfl, rfl⟩) ?_
      refine wl_vw (.pointer (some ⟨p1, 3, none⟩)) 5 true 8 rfl rfl rfl rfl rfl (y_atR (1) (s := 1) rfl rfl rfl (by omega) Try.underlying23 (by omega) (by kernel_rfl) (by omega) ⟨rfl, rfl⟩) ?_
      refine wl_vw (f1) 5 true 8 rfl rfl rfl rfl rfl (y_ld_stc rfl rfl Try.underlying22 B4 rfl rfl ⟨rfl, rfl⟩) ?_
      refine wl_vw (.int .i64 (((((f).p1).length : Nat) : Int))) 5 true 8 rfl rfl rfl rfl rfl (y_lenV rfl rfl rfl B11 ⟨rfl, rfl⟩) ?_
      refine wl_vw (.bool false) 5 true 8 rfl rfl rfl rfl rfl (y_leq rfl rfl rfl (decide_eq_false d19) ⟨rfl, rfl⟩) ?_
      refine wl_v (.bool false) rfl rfl (y_pickT rfl rfl rfl ⟨rfl, rfl⟩) ?_
      refine wl_v (.bool false) rfl rfl (y_mov rfl rfl ⟨rfl, rfl⟩) ?_
      refine wl_unless 12 true 15 rfl rfl rfl (Or.inl rfl) rfl ?_
      refine wl_unless 12 true 15 rfl rfl rfl (Or.inl rfl) rfl ?_
      refine wl_unless 12 true 15 rfl rfl rfl (Or.inl rfl) rfl ?_
      refine wl_unless 12 true 15 rfl rfl rfl (Or.inl rfl) rfl ?_
      refine wl_unless 12 true 15 rfl rfl rfl (Or.inl rfl) rfl ?_
      refine wl_v (.bool false) rfl rfl (y_pickF rfl rfl rfl ⟨rfl, rfl⟩) ?_
      refine wl_v (.bool false) rfl rfl (y_asg rfl rfl ⟨rfl, rfl⟩) ?_
      refine wl_nil fun F24 hF25 => ?_
      have s26 : F24 22 = undef := (hF25 22).trans s16
      have s27 : F24 2 = .bool false := (hF25 2).trans rfl
      clear hF25
      refine then_normal ?_
      refine wq_ret ?_
      exact end_tmp (v := .bool false) s26 rfl rfl s27 ⟨(by first | rw [fewF_0 (by assumption)] | rw [fewF_1 (by assumption)] | rw [fewF_2 (by assumption) (by assumption)]), K13⟩
  · skip
    refine wq_region ?_
    refine wl_v (.pointer (some ⟨p1, 2, none⟩)) rfl rfl (y_fieldR (n := 3) rfl s17 Try.underlying25 rfl (by kernel_rfl) (by decide) rfl ⟨rfl, rfl⟩) ?_
    refine wl_v (.pointer (some ⟨p1, 2, none⟩)) rfl rfl (y_atR (0) (s := 1) rfl rfl rfl (by omega) Try.underlying23 (by omega) (by kernel_rfl) (by omega) ⟨rfl, rfl⟩) ?_
    refine wl_v (f0) rfl rfl (y_ld_stc rfl rfl Try.underlying22 B4 rfl rfl ⟨rfl, rfl⟩) ?_
    refine wl_v (.int .i64 (((((f).p0).length : Nat) : Int))) rfl rfl (y_lenV rfl rfl rfl B10 ⟨rfl, rfl⟩) ?_
    refine wl_v (.bool false) rfl rfl (y_leq rfl rfl rfl (decide_eq_false d18) ⟨rfl, rfl⟩) ?_
    refine wl_v (.bool false) rfl rfl (y_mov rfl rfl ⟨rfl, rfl⟩) ?_
    refine wl_unless 5 true 8 rfl rfl rfl (Or.inl rfl) rfl ?_
    refine wl_unless 5 true 8 rfl rfl rfl (Or.inl rfl) rfl ?_
    refine wl_unless 5 true 8 rfl rfl rfl (Or.inl rfl) rfl ?_
    refine wl_unless 5 true 8 rfl rfl rfl (Or.inl rfl) rfl ?_
    refine wl_unless 5 true 8 rfl rfl rfl (Or.inl rfl) rfl ?_
    refine wl_v (.bool false) rfl rfl (y_pickF rfl rfl rfl ⟨rfl, rfl⟩) ?_
    refine wl_v (.bool false) rfl rfl (y_mov rfl rfl ⟨rfl, rfl⟩) ?_
    refine wl_unless 12 true 15 rfl rfl rfl (Or.inl rfl) rfl ?_
    refine wl_unless 12 true 15 rfl rfl rfl (Or.inl rfl) rfl ?_
    refine wl_unless 12 true 15 rfl rfl rfl (Or.inl rfl) rfl ?_
    refine wl_unless 12 true 15 rfl rfl rfl (Or.inl rfl) rfl ?_
    refine wl_unless 12 true 15 rfl rfl rfl (Or.inl rfl) rfl ?_
    refine wl_v (.bool false) rfl rfl (y_pickF rfl rfl rfl ⟨rfl, rfl⟩) ?_
    refine wl_v (.bool false) rfl rfl (y_asg rfl rfl ⟨rfl, rfl⟩) ?_
    refine wl_nil fun F28 hF29 => ?_
    have s30 : F28 22 = undef := (hF29 22).trans s16
    have s31 : F28 2 = .bool false := (hF29 2).trans rfl
    clear hF29
    refine then_normal ?_
    refine wq_ret ?_
    exact end_tmp (v := .bool false) s30 rfl rfl s31 ⟨(by first | rw [fewF_0 (by assumption)] | rw [fewF_1 (by assumption)] | rw [fewF_2 (by assumption) (by assumption)]), K13⟩

set_option maxHeartbeats 4000000 in
set_option maxRecDepth 100000 in
theorem fref_same (a : FD) (a0 a1 a2 : Value) (b : FD) (b0 b1 b2 : Value) (T_a0 : Nat → Prop) (T_a1 : Nat → Prop) (T_a2 : Nat → Prop) (T_b0 : Nat → Prop) (T_b1 : Nat → Prop) (T_b2 : Nat → Prop) (w0 : World) (h_a0 : Byt w0 T_a0 a0 ((a).p0)) (h_a1 : Byt w0 T_a1 a1 ((a).p1)) (h_a2 : Byt w0 T_a2 a2 ((a).p2)) (h_b0 : Byt w0 T_b0 b0 ((b).p0)) (h_b1 : Byt w0 T_b1 b1 ((b).p1)) (h_b2 : Byt w0 T_b2 b2 ((b).p2)) :
    Calls Try.prog 13 #[.agg #[.int .i64 ((a).W), .int .i64 ((a).H), a0, a1, a2], .agg #[.int .i64 ((b).W), .int .i64 ((b).H), b0, b1, b2]] w0 fun e w' => e = .returned (.bool (sameF a b)) ∧ Kept (fun _ => False) w0 w' := by
  refine calls_wq (args := [.agg #[.int .i64 ((a).W), .int .i64 ((a).H), a0, a1, a2], .agg #[.int .i64 ((b).W), .int .i64 ((b).H), b0, b1, b2]]) 52 Try.func13 rfl rfl (Nat.le_of_ble_eq_true rfl) ?_
  have K0 := Kept.refl (fun _ => False) w0
  have g_a0 := Grew.refl w0 T_a0
  have g_a1 := Grew.refl w0 T_a1
  have g_a2 := Grew.refl w0 T_a2
  have g_b0 := Grew.refl w0 T_b0
  have g_b1 := Grew.refl w0 T_b1
  have g_b2 := Grew.refl w0 T_b2
  refine wq_seq ?_
  refine wq_region ?_
  refine wl_box_stc (vs := [.int .i64 ((a).W), .int .i64 ((a).H), a0, a1, a2]) rfl rfl rfl rfl fun p1 w2 B4 g5 k3 => ?_
  have gr6 : Grew w0 noB (onB p1) := Grew.new K0 g5
  have ap7 : Apart (onB p1) (T_a0) := Apart.new g5 (h_a0).live
  have ap8 : Apart (onB p1) (T_a1) := Apart.new g5 (h_a1).live
  have ap9 : Apart (onB p1) (T_a2) := Apart.new g5 (h_a2).live
  have ap10 : Apart (onB p1) (T_b0) := Apart.new g5 (h_b0).live
  have ap11 : Apart (onB p1) (T_b1) := Apart.new g5 (h_b1).live
  have ap12 : Apart (onB p1) (T_b2) := Apart.new g5 (h_b2).live
  have B13 := h_a0.all k3 Apart.none
  have B14 := h_a1.all k3 Apart.none
  have B15 := h_a2.all k3 Apart.none
  have B16 := h_b0.all k3 Apart.none
  have B17 := h_b1.all k3 Apart.none
  have B18 := h_b2.all k3 Apart.none
  have K19 := K0.trans k3 (fun _ _ x => x.elim)
  refine wl_box_stc (vs := [.int .i64 ((b).W), .int .i64 ((b).H), b0, b1, b2]) rfl rfl rfl rfl fun p20 w21 B23 g24 k22 => ?_
  have gr25 : Grew w0 noB (onB p20) := Grew.new K19 g24
  have ap26 : Apart (onB p20) (T_a0) := Apart.new g24 (B13).live
  have ap27 : Apart (onB p20) (T_a1) := Apart.new g24 (B14).live
  have ap28 : Apart (onB p20) (T_a2) := Apart.new g24 (B15).live
  have ap29 : Apart (onB p20) (T_b0) := Apart.new g24 (B16).live
  have ap30 : Apart (onB p20) (T_b1) := Apart.new g24 (B17).live
  have ap31 : Apart (onB p20) (T_b2) := Apart.new g24 (B18).live
  have ap32 : Apart (onB p20) (onB p1) := Apart.new g24 (onB_live (B4).lt)
  have B33 := B13.all k22 Apart.none
  have B34 := B14.all k22 Apart.none
  have B35 := B15.all k22 Apart.none
  have B36 := B16.all k22 Apart.none
  have B37 := B17.all k22 Apart.none
  have B38 := B18.all k22 Apart.none
  have B39 := B4.all k22 id
  have K40 := K19.trans k22 (fun _ _ x => x.elim)
  refine wl_v (.bool false) rfl rfl (y_asg rfl rfl ⟨rfl, rfl⟩) ?_
  refine wl_nil fun F41 hF42 => ?_
  have s43 : F41 52 = undef := (hF42 52).trans rfl
  have s44 : F41 2 = .pointer (some ⟨p1, 0, none⟩) := (hF42 2).trans rfl
  have s45 : F41 3 = .pointer (some ⟨p20, 0, none⟩) := (hF42 3).trans rfl
  clear hF42
  refine then_normal ?_
  refine wq_seq ?_
  rcases Bool.eq_false_or_eq_true ((textOf ((a).p0)).toList == (textOf ((b).p0)).toList) with d46 | d46
  · skip
    rcases Bool.eq_false_or_eq_true ((textOf ((a).p1)).toList == (textOf ((b).p1)).toList) with d47 | d47
    · skip
      refine wq_region ?_
      refine wl_v (.pointer (some ⟨p1, 2, none⟩)) rfl rfl (y_fieldR (n := 3) rfl s44 Try.underlying25 rfl (by kernel_rfl) (by decide) rfl ⟨rfl, rfl⟩) ?_
      refine wl_v (.pointer (some ⟨p1, 2, none⟩)) rfl rfl (y_atR (0) (s := 1) rfl rfl rfl (by omega) Try.underlying23 (by omega) (by kernel_rfl) (by omega) ⟨rfl, rfl⟩) ?_
      refine wl_v (a0) rfl rfl (y_ld_stc rfl rfl Try.underlying22 B39 rfl rfl ⟨rfl, rfl⟩) ?_
      refine wl_v (.string (textOf ((a).p0))) rfl rfl (y_text rfl (bytes_at rfl B33) ⟨rfl, rfl⟩) ?_
      refine wl_v (.pointer (some ⟨p20, 2, none⟩)) rfl rfl (y_fieldR (n := 3) rfl s45 Try.underlying25 rfl (by kernel_rfl) (by decide) rfl ⟨rfl, rfl⟩) ?_
      refine wl_v (.pointer (some ⟨p20, 2, none⟩)) rfl rfl (y_atR (0) (s := 1) rfl rfl rfl (by omega) Try.underlying23 (by omega) (by kernel_rfl) (by omega) ⟨rfl, rfl⟩) ?_
      refine wl_v (b0) rfl rfl (y_ld_stc rfl rfl Try.underlying22 B23 rfl rfl ⟨rfl, rfl⟩) ?_
      refine wl_v (.string (textOf ((b).p0))) rfl rfl (y_text rfl (bytes_at rfl B36) ⟨rfl, rfl⟩) ?_
      refine wl_v (.bool true) rfl rfl (y_eqlS rfl rfl rfl d46 ⟨rfl, rfl⟩) ?_
      refine wl_v (.bool true) rfl rfl (y_mov rfl rfl ⟨rfl, rfl⟩) ?_
      refine wl_vw (.pointer (some ⟨p1, 2, none⟩)) 9 true 15 rfl rfl rfl rfl rfl (y_fieldR (n := 3) rfl s44 Try.underlying25 rfl (by kernel_rfl) (by decide) rfl ⟨rfl, rfl⟩) ?_
      refine wl_vw (.pointer (some ⟨p1, 3, none⟩)) 9 true 15 rfl rfl rfl rfl rfl (y_atR (1) (s := 1) rfl rfl rfl (by omega) Try.underlying23 (by omega) (by kernel_rfl) (by omega) ⟨rfl, rfl⟩) ?_
      refine wl_vw (a1) 9 true 15 rfl rfl rfl rfl rfl (y_ld_stc rfl rfl Try.underlying22 B39 rfl rfl ⟨rfl, rfl⟩) ?_
      refine wl_vw (.string (textOf ((a).p1))) 9 true 15 rfl rfl rfl rfl rfl (y_text rfl (bytes_at rfl B34) ⟨rfl, rfl⟩) ?_
      refine wl_vw (.pointer (some ⟨p20, 2, none⟩)) 9 true 15 rfl rfl rfl rfl rfl (y_fieldR (n := 3) rfl s45 Try.underlying25 rfl (by kernel_rfl) (by decide) rfl ⟨rfl, rfl⟩) ?_
      refine wl_vw (.pointer (some ⟨p20, 3, none⟩)) 9 true 15 rfl rfl rfl rfl rfl (y_atR (1) (s := 1) rfl rfl rfl (by omega) Try.underlying23 (by omega) (by kernel_rfl) (by omega) ⟨rfl, rfl⟩) ?_
      refine wl_vw (b1) 9 true 15 rfl rfl rfl rfl rfl (y_ld_stc rfl rfl Try.underlying22 B23 rfl rfl ⟨rfl, rfl⟩) ?_
      refine wl_vw (.string (textOf ((b).p1))) 9 true 15 rfl rfl rfl rfl rfl (y_text rfl (bytes_at rfl B37) ⟨rfl, rfl⟩) ?_
      refine wl_vw (.bool true) 9 true 15 rfl rfl rfl rfl rfl (y_eqlS rfl rfl rfl d47 ⟨rfl, rfl⟩) ?_
      refine wl_v (.bool true) rfl rfl (y_pickT rfl rfl rfl ⟨rfl, rfl⟩) ?_
      refine wl_v (.bool true) rfl rfl (y_mov rfl rfl ⟨rfl, rfl⟩) ?_
      refine wl_vw (.pointer (some ⟨p1, 2, none⟩)) 20 true 26 rfl rfl rfl rfl rfl (y_fieldR (n := 3) rfl s44 Try.underlying25 rfl (by kernel_rfl) (by decide) rfl ⟨rfl, rfl⟩) ?_
      refine wl_vw (.pointer (some ⟨p1, 4, none⟩)) 20 true 26 rfl rfl rfl rfl rfl (y_atR (2) (s := 1) rfl rfl rfl (by omega) Try.underlying23 (by omega) (by kernel_rfl) (by omega) ⟨rfl, rfl⟩) ?_
      refine wl_vw (a2) 20 true 26 rfl rfl rfl rfl rfl (y_ld_stc rfl rfl Try.underlying22 B39 rfl rfl ⟨rfl, rfl⟩) ?_
      refine wl_vw (.string (textOf ((a).p2))) 20 true 26 rfl rfl rfl rfl rfl (y_text rfl (bytes_at rfl B35) ⟨rfl, rfl⟩) ?_
      refine wl_vw (.pointer (some ⟨p20, 2, none⟩)) 20 true 26 rfl rfl rfl rfl rfl (y_fieldR (n := 3) rfl s45 Try.underlying25 rfl (by kernel_rfl) (by decide) rfl ⟨rfl, rfl⟩) ?_
      refine wl_vw (.pointer (some ⟨p20, 4, none⟩)) 20 true 26 rfl rfl rfl rfl rfl (y_atR (2) (s := 1) rfl rfl rfl (by omega) Try.underlying23 (by omega) (by kernel_rfl) (by omega) ⟨rfl, rfl⟩) ?_
      refine wl_vw (b2) 20 true 26 rfl rfl rfl rfl rfl (y_ld_stc rfl rfl Try.underlying22 B23 rfl rfl ⟨rfl, rfl⟩) ?_
      refine wl_vw (.string (textOf ((b).p2))) 20 true 26 rfl rfl rfl rfl rfl (y_text rfl (bytes_at rfl B38) ⟨rfl, rfl⟩) ?_
      refine wl_vw (.bool ((textOf ((a).p2)).toList == (textOf ((b).p2)).toList)) 20 true 26 rfl rfl rfl rfl rfl (y_eqlS rfl rfl rfl rfl ⟨rfl, rfl⟩) ?_
      refine wl_v (.bool ((textOf ((a).p2)).toList == (textOf ((b).p2)).toList)) rfl rfl (y_pickT rfl rfl rfl ⟨rfl, rfl⟩) ?_
      refine wl_v (.bool ((textOf ((a).p2)).toList == (textOf ((b).p2)).toList)) rfl rfl (y_asg rfl rfl ⟨rfl, rfl⟩) ?_
      refine wl_nil fun F48 hF49 => ?_
      have s50 : F48 52 = undef := (hF49 52).trans s43
      have s51 : F48 2 = .pointer (some ⟨p1, 0, none⟩) := (hF49 2).trans s44
      have s52 : F48 3 = .pointer (some ⟨p20, 0, none⟩) := (hF49 3).trans s45
      have s53 : F48 5 = .bool ((textOf ((a).p2)).toList == (textOf ((b).p2)).toList) := (hF49 5).trans rfl
      clear hF49
      refine then_normal ?_
      refine wq_seq ?_
      by_cases d54 : ((a).W) = ((b).W)
      · skip
        by_cases d55 : ((a).H) = ((b).H)
        · skip
          refine wq_region ?_
          refine wl_v (.pointer (some ⟨p1, 0, none⟩)) rfl rfl (y_fieldR (n := 1) rfl s51 Try.underlying25 rfl (by kernel_rfl) (by decide) rfl ⟨rfl, rfl⟩) ?_
          refine wl_v (.int .i64 ((a).W)) rfl rfl (y_ld_stc rfl rfl Try.underlying3 B39 rfl rfl ⟨rfl, rfl⟩) ?_
          refine wl_v (.pointer (some ⟨p20, 0, none⟩)) rfl rfl (y_fieldR (n := 1) rfl s52 Try.underlying25 rfl (by kernel_rfl) (by decide) rfl ⟨rfl, rfl⟩) ?_
          refine wl_v (.int .i64 ((b).W)) rfl rfl (y_ld_stc rfl rfl Try.underlying3 B23 rfl rfl ⟨rfl, rfl⟩) ?_
          refine wl_v (.bool true) rfl rfl (y_eqlI rfl rfl rfl (decide_eq_true d54) ⟨rfl, rfl⟩) ?_
          refine wl_v (.bool true) rfl rfl (y_mov rfl rfl ⟨rfl, rfl⟩) ?_
          refine wl_vw (.pointer (some ⟨p1, 1, none⟩)) 5 true 42 rfl rfl rfl rfl rfl (y_fieldR (n := 1) rfl s51 Try.underlying25 rfl (by kernel_rfl) (by decide) rfl ⟨rfl, rfl⟩) ?_
          refine wl_vw (.int .i64 ((a).H)) 5 true 42 rfl rfl rfl rfl rfl (y_ld_stc rfl rfl Try.underlying3 B39 rfl rfl ⟨rfl, rfl⟩) ?_
          refine wl_vw (.pointer (some ⟨p20, 1, none⟩)) 5 true 42 rfl rfl rfl rfl rfl (y_fieldR (n := 1) rfl s52 Try.underlying25 rfl (by kernel_rfl) (by decide) rfl ⟨rfl, rfl⟩) ?_
          refine wl_vw (.int .i64 ((b).H)) 5 true 42 rfl rfl rfl rfl rfl (y_ld_stc rfl rfl Try.underlying3 B23 rfl rfl ⟨rfl, rfl⟩) ?_
          refine wl_vw (.bool true) 5 true 42 rfl rfl rfl rfl rfl (y_eqlI rfl rfl rfl (decide_eq_true d55) ⟨rfl, rfl⟩) ?_
          refine wl_v (.bool true) rfl rfl (y_pickT rfl rfl rfl ⟨rfl, rfl⟩) ?_
          refine wl_v (.bool true) rfl rfl (y_mov rfl rfl ⟨rfl, rfl⟩) ?_
          refine wl_vw (.bool ((textOf ((a).p2)).toList == (textOf ((b).p2)).toList)) 12 true 49 rfl rfl rfl rfl rfl (y_mov rfl s53 ⟨rfl, rfl⟩) ?_
          refine wl_v (.bool ((textOf ((a).p2)).toList == (textOf ((b).p2)).toList)) rfl rfl (y_pickT rfl rfl rfl ⟨rfl, rfl⟩) ?_
          refine wl_v (.bool ((textOf ((a).p2)).toList == (textOf ((b).p2)).toList)) rfl rfl (y_asg rfl rfl ⟨rfl, rfl⟩) ?_
          refine wl_nil fun F56 hF57 => ?_
          have s58 : F56 52 = undef := (hF57 52).trans s50
          have s59 : F56 4 = .bool ((textOf ((a).p2)).toList == (textOf ((b).p2)).toList) := (hF57 4).trans rfl
          clear hF57
          refine then_normal ?_
          refine wq_ret ?_
          exact end_tmp (v := .bool ((textOf ((a).p2)).toList == (textOf ((b).p2)).toList)) s58 rfl rfl s59 ⟨(by first | rw [sameF_0 (by assumption)] | rw [sameF_1 (by assumption)] | rw [sameF_W (by assumption)] | rw [sameF_H (by assumption)] | rw [sameF_2 (by assumption) (by assumption) (by assumption) (by assumption)]), K40⟩
        · skip
          refine wq_region ?_
          refine wl_v (.pointer (some ⟨p1, 0, none⟩)) rfl rfl (y_fieldR (n := 1) rfl s51 Try.underlying25 rfl (by kernel_rfl) (by decide) rfl ⟨rfl, rfl⟩) ?_
          refine wl_v (.int .i64 ((a).W)) rfl rfl (y_ld_stc rfl rfl Try.underlying3 B39 rfl rfl ⟨rfl, rfl⟩) ?_
          refine wl_v (.pointer (some ⟨p20, 0, none⟩)) rfl rfl (y_fieldR (n := 1) rfl s52 Try.underlying25 rfl (by kernel_rfl) (by decide) rfl ⟨rfl, rfl⟩) ?_
          refine wl_v (.int .i64 ((b).W)) rfl rfl (y_ld_stc rfl rfl Try.underlying3 B23 rfl rfl ⟨rfl, rfl⟩) ?_
          refine wl_v (.bool true) rfl rfl (y_eqlI rfl rfl rfl (decide_eq_true d54) ⟨rfl, rfl⟩) ?_
          refine wl_v (.bool true) rfl rfl (y_mov rfl rfl ⟨rfl, rfl⟩) ?_
          refine wl_vw (.pointer (some ⟨p1, 1, none⟩)) 5 true 42 rfl rfl rfl rfl rfl (y_fieldR (n := 1) rfl s51 Try.underlying25 rfl (by kernel_rfl) (by decide) rfl ⟨rfl, rfl⟩) ?_
          refine wl_vw (.int .i64 ((a).H)) 5 true 42 rfl rfl rfl rfl rfl (y_ld_stc rfl rfl Try.underlying3 B39 rfl rfl ⟨rfl, rfl⟩) ?_
          refine wl_vw (.pointer (some ⟨p20, 1, none⟩)) 5 true 42 rfl rfl rfl rfl rfl (y_fieldR (n := 1) rfl s52 Try.underlying25 rfl (by kernel_rfl) (by decide) rfl ⟨rfl, rfl⟩) ?_
          refine wl_vw (.int .i64 ((b).H)) 5 true 42 rfl rfl rfl rfl rfl (y_ld_stc rfl rfl Try.underlying3 B23 rfl rfl ⟨rfl, rfl⟩) ?_
          refine wl_vw (.bool false) 5 true 42 rfl rfl rfl rfl rfl (y_eqlI rfl rfl rfl (decide_eq_false d55) ⟨rfl, rfl⟩) ?_
          refine wl_v (.bool false) rfl rfl (y_pickT rfl rfl rfl ⟨rfl, rfl⟩) ?_
          refine wl_v (.bool false) rfl rfl (y_mov rfl rfl ⟨rfl, rfl⟩) ?_
          refine wl_unless 12 true 49 rfl rfl rfl (Or.inl rfl) rfl ?_
          refine wl_v (.bool false) rfl rfl (y_pickF rfl rfl rfl ⟨rfl, rfl⟩) ?_
          refine wl_v (.bool false) rfl rfl (y_asg rfl rfl ⟨rfl, rfl⟩) ?_
          refine wl_nil fun F60 hF61 => ?_
          have s62 : F60 52 = undef := (hF61 52).trans s50
          have s63 : F60 4 = .bool false := (hF61 4).trans rfl
          clear hF61
          refine then_normal ?_
          refine wq_ret ?_
          exact end_tmp (v := .bool false) s62 rfl rfl s63 ⟨(by first | rw [sameF_0 (by assumption)] | rw [sameF_1 (by assumption)] | rw [sameF_W (by assumption)] | rw [sameF_H (by assumption)] | rw [sameF_2 (by assumption) (by assumption) (by assumption) (by assumption)]), K40⟩
      · skip
        refine wq_region ?_
        refine wl_v (.pointer (some ⟨p1, 0, none⟩)) rfl rfl (y_fieldR (n := 1) rfl s51 Try.underlying25 rfl (by kernel_rfl) (by decide) rfl ⟨rfl, rfl⟩) ?_
        refine wl_v (.int .i64 ((a).W)) rfl rfl (y_ld_stc rfl rfl Try.underlying3 B39 rfl rfl ⟨rfl, rfl⟩) ?_
        refine wl_v (.pointer (some ⟨p20, 0, none⟩)) rfl rfl (y_fieldR (n := 1) rfl s52 Try.underlying25 rfl (by kernel_rfl) (by decide) rfl ⟨rfl, rfl⟩) ?_
        refine wl_v (.int .i64 ((b).W)) rfl rfl (y_ld_stc rfl rfl Try.underlying3 B23 rfl rfl ⟨rfl, rfl⟩) ?_
        refine wl_v (.bool false) rfl rfl (y_eqlI rfl rfl rfl (decide_eq_false d54) ⟨rfl, rfl⟩) ?_
        refine wl_v (.bool false) rfl rfl (y_mov rfl rfl ⟨rfl, rfl⟩) ?_
        refine wl_unless 5 true 42 rfl rfl rfl (Or.inl rfl) rfl ?_
        refine wl_unless 5 true 42 rfl rfl rfl (Or.inl rfl) rfl ?_
        refine wl_unless 5 true 42 rfl rfl rfl (Or.inl rfl) rfl ?_
        refine wl_unless 5 true 42 rfl rfl rfl (Or.inl rfl) rfl ?_
        refine wl_unless 5 true 42 rfl rfl rfl (Or.inl rfl) rfl ?_
        refine wl_v (.bool false) rfl rfl (y_pickF rfl rfl rfl ⟨rfl, rfl⟩) ?_
        refine wl_v (.bool false) rfl rfl (y_mov rfl rfl ⟨rfl, rfl⟩) ?_
        refine wl_unless 12 true 49 rfl rfl rfl (Or.inl rfl) rfl ?_
        refine wl_v (.bool false) rfl rfl (y_pickF rfl rfl rfl ⟨rfl, rfl⟩) ?_
        refine wl_v (.bool false) rfl rfl (y_asg rfl rfl ⟨rfl, rfl⟩) ?_
        refine wl_nil fun F64 hF65 => ?_
        have s66 : F64 52 = undef := (hF65 52).trans s50
        have s67 : F64 4 = .bool false := (hF65 4).trans rfl
        clear hF65
        refine then_normal ?_
        refine wq_ret ?_
        exact end_tmp (v := .bool false) s66 rfl rfl s67 ⟨(by first | rw [sameF_0 (by assumption)] | rw [sameF_1 (by assumption)] | rw [sameF_W (by assumption)] | rw [sameF_H (by assumption)] | rw [sameF_2 (by assumption) (by assumption) (by assumption) (by assumption)]), K40⟩
    · skip
      refine wq_region ?_
      refine wl_v (.pointer (some ⟨p1, 2, none⟩)) rfl rfl (y_fieldR (n := 3) rfl s44 Try.underlying25 rfl (by kernel_rfl) (by decide) rfl ⟨rfl, rfl⟩) ?_
      refine wl_v (.pointer (some ⟨p1, 2, none⟩)) rfl rfl (y_atR (0) (s := 1) rfl rfl rfl (by omega) Try.underlying23 (by omega) (by kernel_rfl) (by omega) ⟨rfl, rfl⟩) ?_
      refine wl_v (a0) rfl rfl (y_ld_stc rfl rfl Try.underlying22 B39 rfl rfl ⟨rfl, rfl⟩) ?_
      refine wl_v (.string (textOf ((a).p0))) rfl rfl (y_text rfl (bytes_at rfl B33) ⟨rfl, rfl⟩) ?_
      refine wl_v (.pointer (some ⟨p20, 2, none⟩)) rfl rfl (y_fieldR (n := 3) rfl s45 Try.underlying25 rfl (by kernel_rfl) (by decide) rfl ⟨rfl, rfl⟩) ?_
      refine wl_v (.pointer (some ⟨p20, 2, none⟩)) rfl rfl (y_atR (0) (s := 1) rfl rfl rfl (by omega) Try.underlying23 (by omega) (by kernel_rfl) (by omega) ⟨rfl, rfl⟩) ?_
      refine wl_v (b0) rfl rfl (y_ld_stc rfl rfl Try.underlying22 B23 rfl rfl ⟨rfl, rfl⟩) ?_
      refine wl_v (.string (textOf ((b).p0))) rfl rfl (y_text rfl (bytes_at rfl B36) ⟨rfl, rfl⟩) ?_
      refine wl_v (.bool true) rfl rfl (y_eqlS rfl rfl rfl d46 ⟨rfl, rfl⟩) ?_
      refine wl_v (.bool true) rfl rfl (y_mov rfl rfl ⟨rfl, rfl⟩) ?_
      refine wl_vw (.pointer (some ⟨p1, 2, none⟩)) 9 true 15 rfl rfl rfl rfl rfl (y_fieldR (n := 3) rfl s44 Try.underlying25 rfl (by kernel_rfl) (by decide) rfl ⟨rfl, rfl⟩) ?_
      refine wl_vw (.pointer (some ⟨p1, 3, none⟩)) 9 true 15 rfl rfl rfl rfl rfl (y_atR (1) (s := 1) rfl rfl rfl (by omega) Try.underlying23 (by omega) (by kernel_rfl) (by omega) ⟨rfl, rfl⟩) ?_
      refine wl_vw (a1) 9 true 15 rfl rfl rfl rfl rfl (y_ld_stc rfl rfl Try.underlying22 B39 rfl rfl ⟨rfl, rfl⟩) ?_
      refine wl_vw (.string (textOf ((a).p1))) 9 true 15 rfl rfl rfl rfl rfl (y_text rfl (bytes_at rfl B34) ⟨rfl, rfl⟩) ?_
      refine wl_vw (.pointer (some ⟨p20, 2, none⟩)) 9 true 15 rfl rfl rfl rfl rfl (y_fieldR (n := 3) rfl s45 Try.underlying25 rfl (by kernel_rfl) (by decide) rfl ⟨rfl, rfl⟩) ?_
      refine wl_vw (.pointer (some ⟨p20, 3, none⟩)) 9 true 15 rfl rfl rfl rfl rfl (y_atR (1) (s := 1) rfl rfl rfl (by omega) Try.underlying23 (by omega) (by kernel_rfl) (by omega) ⟨rfl, rfl⟩) ?_
      refine wl_vw (b1) 9 true 15 rfl rfl rfl rfl rfl (y_ld_stc rfl rfl Try.underlying22 B23 rfl rfl ⟨rfl, rfl⟩) ?_
      refine wl_vw (.string (textOf ((b).p1))) 9 true 15 rfl rfl rfl rfl rfl (y_text rfl (bytes_at rfl B37) ⟨rfl, rfl⟩) ?_
      refine wl_vw (.bool false) 9 true 15 rfl rfl rfl rfl rfl (y_eqlS rfl rfl rfl d47 ⟨rfl, rfl⟩) ?_
      refine wl_v (.bool false) rfl rfl (y_pickT rfl rfl rfl ⟨rfl, rfl⟩) ?_
      refine wl_v (.bool false) rfl rfl (y_mov rfl rfl ⟨rfl, rfl⟩) ?_
      refine wl_unless 20 true 26 rfl rfl rfl (Or.inl rfl) rfl ?_
      refine wl_unless 20 true 26 rfl rfl rfl (Or.inl rfl) rfl ?_
      refine wl_unless 20 true 26 rfl rfl rfl (Or.inl rfl) rfl ?_
      refine wl_unless 20 true 26 rfl rfl rfl (Or.inl rfl) rfl ?_
      refine wl_unless 20 true 26 rfl rfl rfl (Or.inl rfl) rfl ?_
      refine wl_unless 20 true 26 rfl rfl rfl (Or.inl rfl) rfl ?_
      refine wl_unless 20 true 26 rfl rfl rfl (Or.inl rfl) rfl ?_
      refine wl_unless 20 true 26 rfl rfl rfl (Or.inl rfl) rfl ?_
      refine wl_unless 20 true 26 rfl rfl rfl (Or.inl rfl) rfl ?_
      refine wl_v (.bool false) rfl rfl (y_pickF rfl rfl rfl ⟨rfl, rfl⟩) ?_
      refine wl_v (.bool false) rfl rfl (y_asg rfl rfl ⟨rfl, rfl⟩) ?_
      refine wl_nil fun F68 hF69 => ?_
      have s70 : F68 52 = undef := (hF69 52).trans s43
      have s71 : F68 2 = .pointer (some ⟨p1, 0, none⟩) := (hF69 2).trans s44
      have s72 : F68 3 = .pointer (some ⟨p20, 0, none⟩) := (hF69 3).trans s45
      have s73 : F68 5 = .bool false := (hF69 5).trans rfl
      clear hF69
      refine then_normal ?_
      refine wq_seq ?_
      by_cases d74 : ((a).W) = ((b).W)
      · skip
        by_cases d75 : ((a).H) = ((b).H)
        · skip
          refine wq_region ?_
          refine wl_v (.pointer (some ⟨p1, 0, none⟩)) rfl rfl (y_fieldR (n := 1) rfl s71 Try.underlying25 rfl (by kernel_rfl) (by decide) rfl ⟨rfl, rfl⟩) ?_
          refine wl_v (.int .i64 ((a).W)) rfl rfl (y_ld_stc rfl rfl Try.underlying3 B39 rfl rfl ⟨rfl, rfl⟩) ?_
          refine wl_v (.pointer (some ⟨p20, 0, none⟩)) rfl rfl (y_fieldR (n := 1) rfl s72 Try.underlying25 rfl (by kernel_rfl) (by decide) rfl ⟨rfl, rfl⟩) ?_
          refine wl_v (.int .i64 ((b).W)) rfl rfl (y_ld_stc rfl rfl Try.underlying3 B23 rfl rfl ⟨rfl, rfl⟩) ?_
          refine wl_v (.bool true) rfl rfl (y_eqlI rfl rfl rfl (decide_eq_true d74) ⟨rfl, rfl⟩) ?_
          refine wl_v (.bool true) rfl rfl (y_mov rfl rfl ⟨rfl, rfl⟩) ?_
          refine wl_vw (.pointer (some ⟨p1, 1, none⟩)) 5 true 42 rfl rfl rfl rfl rfl (y_fieldR (n := 1) rfl s71 Try.underlying25 rfl (by kernel_rfl) (by decide) rfl ⟨rfl, rfl⟩) ?_
          refine wl_vw (.int .i64 ((a).H)) 5 true 42 rfl rfl rfl rfl rfl (y_ld_stc rfl rfl Try.underlying3 B39 rfl rfl ⟨rfl, rfl⟩) ?_
          refine wl_vw (.pointer (some ⟨p20, 1, none⟩)) 5 true 42 rfl rfl rfl rfl rfl (y_fieldR (n := 1) rfl s72 Try.underlying25 rfl (by kernel_rfl) (by decide) rfl ⟨rfl, rfl⟩) ?_
          refine wl_vw (.int .i64 ((b).H)) 5 true 42 rfl rfl rfl rfl rfl (y_ld_stc rfl rfl Try.underlying3 B23 rfl rfl ⟨rfl, rfl⟩) ?_
          refine wl_vw (.bool true) 5 true 42 rfl rfl rfl rfl rfl (y_eqlI rfl rfl rfl (decide_eq_true d75) ⟨rfl, rfl⟩) ?_
          refine wl_v (.bool true) rfl rfl (y_pickT rfl rfl rfl ⟨rfl, rfl⟩) ?_
          refine wl_v (.bool true) rfl rfl (y_mov rfl rfl ⟨rfl, rfl⟩) ?_
          refine wl_vw (.bool false) 12 true 49 rfl rfl rfl rfl rfl (y_mov rfl s73 ⟨rfl, rfl⟩) ?_
          refine wl_v (.bool false) rfl rfl (y_pickT rfl rfl rfl ⟨rfl, rfl⟩) ?_
          refine wl_v (.bool false) rfl rfl (y_asg rfl rfl ⟨rfl, rfl⟩) ?_
          refine wl_nil fun F76 hF77 => ?_
          have s78 : F76 52 = undef := (hF77 52).trans s70
          have s79 : F76 4 = .bool false := (hF77 4).trans rfl
          clear hF77
          refine then_normal ?_
          refine wq_ret ?_
          exact end_tmp (v := .bool false) s78 rfl rfl s79 ⟨(by first | rw [sameF_0 (by assumption)] | rw [sameF_1 (by assumption)] | rw [sameF_W (by assumption)] | rw [sameF_H (by assumption)] | rw [sameF_2 (by assumption) (by assumption) (by assumption) (by assumption)]), K40⟩
        · skip
          refine wq_region ?_
          refine wl_v (.pointer (some ⟨p1, 0, none⟩)) rfl rfl (y_fieldR (n := 1) rfl s71 Try.underlying25 rfl (by kernel_rfl) (by decide) rfl ⟨rfl, rfl⟩) ?_
          refine wl_v (.int .i64 ((a).W)) rfl rfl (y_ld_stc rfl rfl Try.underlying3 B39 rfl rfl ⟨rfl, rfl⟩) ?_
          refine wl_v (.pointer (some ⟨p20, 0, none⟩)) rfl rfl (y_fieldR (n := 1) rfl s72 Try.underlying25 rfl (by kernel_rfl) (by decide) rfl ⟨rfl, rfl⟩) ?_
          refine wl_v (.int .i64 ((b).W)) rfl rfl (y_ld_stc rfl rfl Try.underlying3 B23 rfl rfl ⟨rfl, rfl⟩) ?_
          refine wl_v (.bool true) rfl rfl (y_eqlI rfl rfl rfl (decide_eq_true d74) ⟨rfl, rfl⟩) ?_
          refine wl_v (.bool true) rfl rfl (y_mov rfl rfl ⟨rfl, rfl⟩) ?_
          refine wl_vw (.pointer (some ⟨p1, 1, none⟩)) 5 true 42 rfl rfl rfl rfl rfl (y_fieldR (n := 1) rfl s71 Try.underlying25 rfl (by kernel_rfl) (by decide) rfl ⟨rfl, rfl⟩) ?_
          refine wl_vw (.int .i64 ((a).H)) 5 true 42 rfl rfl rfl rfl rfl (y_ld_stc rfl rfl Try.underlying3 B39 rfl rfl ⟨rfl, rfl⟩) ?_
          refine wl_vw (.pointer (some ⟨p20, 1, none⟩)) 5 true 42 rfl rfl rfl rfl rfl (y_fieldR (n := 1) rfl s72 Try.underlying25 rfl (by kernel_rfl) (by decide) rfl ⟨rfl, rfl⟩) ?_
          refine wl_vw (.int .i64 ((b).H)) 5 true 42 rfl rfl rfl rfl rfl (y_ld_stc rfl rfl Try.underlying3 B23 rfl rfl ⟨rfl, rfl⟩) ?_
          refine wl_vw (.bool false) 5 true 42 rfl rfl rfl rfl rfl (y_eqlI rfl rfl rfl (decide_eq_false d75) ⟨rfl, rfl⟩) ?_
          refine wl_v (.bool false) rfl rfl (y_pickT rfl rfl rfl ⟨rfl, rfl⟩) ?_
          refine wl_v (.bool false) rfl rfl (y_mov rfl rfl ⟨rfl, rfl⟩) ?_
          refine wl_unless 12 true 49 rfl rfl rfl (Or.inl rfl) rfl ?_
          refine wl_v (.bool false) rfl rfl (y_pickF rfl rfl rfl ⟨rfl, rfl⟩) ?_
          refine wl_v (.bool false) rfl rfl (y_asg rfl rfl ⟨rfl, rfl⟩) ?_
          refine wl_nil fun F80 hF81 => ?_
          have s82 : F80 52 = undef := (hF81 52).trans s70
          have s83 : F80 4 = .bool false := (hF81 4).trans rfl
          clear hF81
          refine then_normal ?_
          refine wq_ret ?_
          exact end_tmp (v := .bool false) s82 rfl rfl s83 ⟨(by first | rw [sameF_0 (by assumption)] | rw [sameF_1 (by assumption)] | rw [sameF_W (by assumption)] | rw [sameF_H (by assumption)] | rw [sameF_2 (by assumption) (by assumption) (by assumption) (by assumption)]), K40⟩
      · skip
        refine wq_region ?_
        refine wl_v (.pointer (some ⟨p1, 0, none⟩)) rfl rfl (y_fieldR (n := 1) rfl s71 Try.underlying25 rfl (by kernel_rfl) (by decide) rfl ⟨rfl, rfl⟩) ?_
        refine wl_v (.int .i64 ((a).W)) rfl rfl (y_ld_stc rfl rfl Try.underlying3 B39 rfl rfl ⟨rfl, rfl⟩) ?_
        refine wl_v (.pointer (some ⟨p20, 0, none⟩)) rfl rfl (y_fieldR (n := 1) rfl s72 Try.underlying25 rfl (by kernel_rfl) (by decide) rfl ⟨rfl, rfl⟩) ?_
        refine wl_v (.int .i64 ((b).W)) rfl rfl (y_ld_stc rfl rfl Try.underlying3 B23 rfl rfl ⟨rfl, rfl⟩) ?_
        refine wl_v (.bool false) rfl rfl (y_eqlI rfl rfl rfl (decide_eq_false d74) ⟨rfl, rfl⟩) ?_
        refine wl_v (.bool false) rfl rfl (y_mov rfl rfl ⟨rfl, rfl⟩) ?_
        refine wl_unless 5 true 42 rfl rfl rfl (Or.inl rfl) rfl ?_
        refine wl_unless 5 true 42 rfl rfl rfl (Or.inl rfl) rfl ?_
        refine wl_unless 5 true 42 rfl rfl rfl (Or.inl rfl) rfl ?_
        refine wl_unless 5 true 42 rfl rfl rfl (Or.inl rfl) rfl ?_
        refine wl_unless 5 true 42 rfl rfl rfl (Or.inl rfl) rfl ?_
        refine wl_v (.bool false) rfl rfl (y_pickF rfl rfl rfl ⟨rfl, rfl⟩) ?_
        refine wl_v (.bool false) rfl rfl (y_mov rfl rfl ⟨rfl, rfl⟩) ?_
        refine wl_unless 12 true 49 rfl rfl rfl (Or.inl rfl) rfl ?_
        refine wl_v (.bool false) rfl rfl (y_pickF rfl rfl rfl ⟨rfl, rfl⟩) ?_
        refine wl_v (.bool false) rfl rfl (y_asg rfl rfl ⟨rfl, rfl⟩) ?_
        refine wl_nil fun F84 hF85 => ?_
        have s86 : F84 52 = undef := (hF85 52).trans s70
        have s87 : F84 4 = .bool false := (hF85 4).trans rfl
        clear hF85
        refine then_normal ?_
        refine wq_ret ?_
        exact end_tmp (v := .bool false) s86 rfl rfl s87 ⟨(by first | rw [sameF_0 (by assumption)] | rw [sameF_1 (by assumption)] | rw [sameF_W (by assumption)] | rw [sameF_H (by assumption)] | rw [sameF_2 (by assumption) (by assumption) (by assumption) (by assumption)]), K40⟩
  · skip
    refine wq_region ?_
    refine wl_v (.pointer (some ⟨p1, 2, none⟩)) rfl rfl (y_fieldR (n := 3) rfl s44 Try.underlying25 rfl (by kernel_rfl) (by decide) rfl ⟨rfl, rfl⟩) ?_
    refine wl_v (.pointer (some ⟨p1, 2, none⟩)) rfl rfl (y_atR (0) (s := 1) rfl rfl rfl (by omega) Try.underlying23 (by omega) (by kernel_rfl) (by omega) ⟨rfl, rfl⟩) ?_
    refine wl_v (a0) rfl rfl (y_ld_stc rfl rfl Try.underlying22 B39 rfl rfl ⟨rfl, rfl⟩) ?_
    refine wl_v (.string (textOf ((a).p0))) rfl rfl (y_text rfl (bytes_at rfl B33) ⟨rfl, rfl⟩) ?_
    refine wl_v (.pointer (some ⟨p20, 2, none⟩)) rfl rfl (y_fieldR (n := 3) rfl s45 Try.underlying25 rfl (by kernel_rfl) (by decide) rfl ⟨rfl, rfl⟩) ?_
    refine wl_v (.pointer (some ⟨p20, 2, none⟩)) rfl rfl (y_atR (0) (s := 1) rfl rfl rfl (by omega) Try.underlying23 (by omega) (by kernel_rfl) (by omega) ⟨rfl, rfl⟩) ?_
    refine wl_v (b0) rfl rfl (y_ld_stc rfl rfl Try.underlying22 B23 rfl rfl ⟨rfl, rfl⟩) ?_
    refine wl_v (.string (textOf ((b).p0))) rfl rfl (y_text rfl (bytes_at rfl B36) ⟨rfl, rfl⟩) ?_
    refine wl_v (.bool false) rfl rfl (y_eqlS rfl rfl rfl d46 ⟨rfl, rfl⟩) ?_
    refine wl_v (.bool false) rfl rfl (y_mov rfl rfl ⟨rfl, rfl⟩) ?_
    refine wl_unless 9 true 15 rfl rfl rfl (Or.inl rfl) rfl ?_
    refine wl_unless 9 true 15 rfl rfl rfl (Or.inl rfl) rfl ?_
    refine wl_unless 9 true 15 rfl rfl rfl (Or.inl rfl) rfl ?_
    refine wl_unless 9 true 15 rfl rfl rfl (Or.inl rfl) rfl ?_
    refine wl_unless 9 true 15 rfl rfl rfl (Or.inl rfl) rfl ?_
    refine wl_unless 9 true 15 rfl rfl rfl (Or.inl rfl) rfl ?_
    refine wl_unless 9 true 15 rfl rfl rfl (Or.inl rfl) rfl ?_
    refine wl_unless 9 true 15 rfl rfl rfl (Or.inl rfl) rfl ?_
    refine wl_unless 9 true 15 rfl rfl rfl (Or.inl rfl) rfl ?_
    refine wl_v (.bool false) rfl rfl (y_pickF rfl rfl rfl ⟨rfl, rfl⟩) ?_
    refine wl_v (.bool false) rfl rfl (y_mov rfl rfl ⟨rfl, rfl⟩) ?_
    refine wl_unless 20 true 26 rfl rfl rfl (Or.inl rfl) rfl ?_
    refine wl_unless 20 true 26 rfl rfl rfl (Or.inl rfl) rfl ?_
    refine wl_unless 20 true 26 rfl rfl rfl (Or.inl rfl) rfl ?_
    refine wl_unless 20 true 26 rfl rfl rfl (Or.inl rfl) rfl ?_
    refine wl_unless 20 true 26 rfl rfl rfl (Or.inl rfl) rfl ?_
    refine wl_unless 20 true 26 rfl rfl rfl (Or.inl rfl) rfl ?_
    refine wl_unless 20 true 26 rfl rfl rfl (Or.inl rfl) rfl ?_
    refine wl_unless 20 true 26 rfl rfl rfl (Or.inl rfl) rfl ?_
    refine wl_unless 20 true 26 rfl rfl rfl (Or.inl rfl) rfl ?_
    refine wl_v (.bool false) rfl rfl (y_pickF rfl rfl rfl ⟨rfl, rfl⟩) ?_
    refine wl_v (.bool false) rfl rfl (y_asg rfl rfl ⟨rfl, rfl⟩) ?_
    refine wl_nil fun F88 hF89 => ?_
    have s90 : F88 52 = undef := (hF89 52).trans s43
    have s91 : F88 2 = .pointer (some ⟨p1, 0, none⟩) := (hF89 2).trans s44
    have s92 : F88 3 = .pointer (some ⟨p20, 0, none⟩) := (hF89 3).trans s45
    have s93 : F88 5 = .bool false := (hF89 5).trans rfl
    clear hF89
    refine then_normal ?_
    refine wq_seq ?_
    by_cases d94 : ((a).W) = ((b).W)
    · skip
      by_cases d95 : ((a).H) = ((b).H)
      · skip
        refine wq_region ?_
        refine wl_v (.pointer (some ⟨p1, 0, none⟩)) rfl rfl (y_fieldR (n := 1) rfl s91 Try.underlying25 rfl (by kernel_rfl) (by decide) rfl ⟨rfl, rfl⟩) ?_
        refine wl_v (.int .i64 ((a).W)) rfl rfl (y_ld_stc rfl rfl Try.underlying3 B39 rfl rfl ⟨rfl, rfl⟩) ?_
        refine wl_v (.pointer (some ⟨p20, 0, none⟩)) rfl rfl (y_fieldR (n := 1) rfl s92 Try.underlying25 rfl (by kernel_rfl) (by decide) rfl ⟨rfl, rfl⟩) ?_
        refine wl_v (.int .i64 ((b).W)) rfl rfl (y_ld_stc rfl rfl Try.underlying3 B23 rfl rfl ⟨rfl, rfl⟩) ?_
        refine wl_v (.bool true) rfl rfl (y_eqlI rfl rfl rfl (decide_eq_true d94) ⟨rfl, rfl⟩) ?_
        refine wl_v (.bool true) rfl rfl (y_mov rfl rfl ⟨rfl, rfl⟩) ?_
        refine wl_vw (.pointer (some ⟨p1, 1, none⟩)) 5 true 42 rfl rfl rfl rfl rfl (y_fieldR (n := 1) rfl s91 Try.underlying25 rfl (by kernel_rfl) (by decide) rfl ⟨rfl, rfl⟩) ?_
        refine wl_vw (.int .i64 ((a).H)) 5 true 42 rfl rfl rfl rfl rfl (y_ld_stc rfl rfl Try.underlying3 B39 rfl rfl ⟨rfl, rfl⟩) ?_
        refine wl_vw (.pointer (some ⟨p20, 1, none⟩)) 5 true 42 rfl rfl rfl rfl rfl (y_fieldR (n := 1) rfl s92 Try.underlying25 rfl (by kernel_rfl) (by decide) rfl ⟨rfl, rfl⟩) ?_
        refine wl_vw (.int .i64 ((b).H)) 5 true 42 rfl rfl rfl rfl rfl (y_ld_stc rfl rfl Try.underlying3 B23 rfl rfl ⟨rfl, rfl⟩) ?_
        refine wl_vw (.bool true) 5 true 42 rfl rfl rfl rfl rfl (y_eqlI rfl rfl rfl (decide_eq_true d95) ⟨rfl, rfl⟩) ?_
        refine wl_v (.bool true) rfl rfl (y_pickT rfl rfl rfl ⟨rfl, rfl⟩) ?_
        refine wl_v (.bool true) rfl rfl (y_mov rfl rfl ⟨rfl, rfl⟩) ?_
        refine wl_vw (.bool false) 12 true 49 rfl rfl rfl rfl rfl (y_mov rfl s93 ⟨rfl, rfl⟩) ?_
        refine wl_v (.bool false) rfl rfl (y_pickT rfl rfl rfl ⟨rfl, rfl⟩) ?_
        refine wl_v (.bool false) rfl rfl (y_asg rfl rfl ⟨rfl, rfl⟩) ?_
        refine wl_nil fun F96 hF97 => ?_
        have s98 : F96 52 = undef := (hF97 52).trans s90
        have s99 : F96 4 = .bool false := (hF97 4).trans rfl
        clear hF97
        refine then_normal ?_
        refine wq_ret ?_
        exact end_tmp (v := .bool false) s98 rfl rfl s99 ⟨(by first | rw [sameF_0 (by assumption)] | rw [sameF_1 (by assumption)] | rw [sameF_W (by assumption)] | rw [sameF_H (by assumption)] | rw [sameF_2 (by assumption) (by assumption) (by assumption) (by assumption)]), K40⟩
      · skip
        refine wq_region ?_
        refine wl_v (.pointer (some ⟨p1, 0, none⟩)) rfl rfl (y_fieldR (n := 1) rfl s91 Try.underlying25 rfl (by kernel_rfl) (by decide) rfl ⟨rfl, rfl⟩) ?_
        refine wl_v (.int .i64 ((a).W)) rfl rfl (y_ld_stc rfl rfl Try.underlying3 B39 rfl rfl ⟨rfl, rfl⟩) ?_
        refine wl_v (.pointer (some ⟨p20, 0, none⟩)) rfl rfl (y_fieldR (n := 1) rfl s92 Try.underlying25 rfl (by kernel_rfl) (by decide) rfl ⟨rfl, rfl⟩) ?_
        refine wl_v (.int .i64 ((b).W)) rfl rfl (y_ld_stc rfl rfl Try.underlying3 B23 rfl rfl ⟨rfl, rfl⟩) ?_
        refine wl_v (.bool true) rfl rfl (y_eqlI rfl rfl rfl (decide_eq_true d94) ⟨rfl, rfl⟩) ?_
        refine wl_v (.bool true) rfl rfl (y_mov rfl rfl ⟨rfl, rfl⟩) ?_
        refine wl_vw (.pointer (some ⟨p1, 1, none⟩)) 5 true 42 rfl rfl rfl rfl rfl (y_fieldR (n := 1) rfl s91 Try.underlying25 rfl (by kernel_rfl) (by decide) rfl ⟨rfl, rfl⟩) ?_
        refine wl_vw (.int .i64 ((a).H)) 5 true 42 rfl rfl rfl rfl rfl (y_ld_stc rfl rfl Try.underlying3 B39 rfl rfl ⟨rfl, rfl⟩) ?_
        refine wl_vw (.pointer (some ⟨p20, 1, none⟩)) 5 true 42 rfl rfl rfl rfl rfl (y_fieldR (n := 1) rfl s92 Try.underlying25 rfl (by kernel_rfl) (by decide) rfl ⟨rfl, rfl⟩) ?_
        refine wl_vw (.int .i64 ((b).H)) 5 true 42 rfl rfl rfl rfl rfl (y_ld_stc rfl rfl Try.underlying3 B23 rfl rfl ⟨rfl, rfl⟩) ?_
        refine wl_vw (.bool false) 5 true 42 rfl rfl rfl rfl rfl (y_eqlI rfl rfl rfl (decide_eq_false d95) ⟨rfl, rfl⟩) ?_
        refine wl_v (.bool false) rfl rfl (y_pickT rfl rfl rfl ⟨rfl, rfl⟩) ?_
        refine wl_v (.bool false) rfl rfl (y_mov rfl rfl ⟨rfl, rfl⟩) ?_
        refine wl_unless 12 true 49 rfl rfl rfl (Or.inl rfl) rfl ?_
        refine wl_v (.bool false) rfl rfl (y_pickF rfl rfl rfl ⟨rfl, rfl⟩) ?_
        refine wl_v (.bool false) rfl rfl (y_asg rfl rfl ⟨rfl, rfl⟩) ?_
        refine wl_nil fun F100 hF101 => ?_
        have s102 : F100 52 = undef := (hF101 52).trans s90
        have s103 : F100 4 = .bool false := (hF101 4).trans rfl
        clear hF101
        refine then_normal ?_
        refine wq_ret ?_
        exact end_tmp (v := .bool false) s102 rfl rfl s103 ⟨(by first | rw [sameF_0 (by assumption)] | rw [sameF_1 (by assumption)] | rw [sameF_W (by assumption)] | rw [sameF_H (by assumption)] | rw [sameF_2 (by assumption) (by assumption) (by assumption) (by assumption)]), K40⟩
    · skip
      refine wq_region ?_
      refine wl_v (.pointer (some ⟨p1, 0, none⟩)) rfl rfl (y_fieldR (n := 1) rfl s91 Try.underlying25 rfl (by kernel_rfl) (by decide) rfl ⟨rfl, rfl⟩) ?_
      refine wl_v (.int .i64 ((a).W)) rfl rfl (y_ld_stc rfl rfl Try.underlying3 B39 rfl rfl ⟨rfl, rfl⟩) ?_
      refine wl_v (.pointer (some ⟨p20, 0, none⟩)) rfl rfl (y_fieldR (n := 1) rfl s92 Try.underlying25 rfl (by kernel_rfl) (by decide) rfl ⟨rfl, rfl⟩) ?_
      refine wl_v (.int .i64 ((b).W)) rfl rfl (y_ld_stc rfl rfl Try.underlying3 B23 rfl rfl ⟨rfl, rfl⟩) ?_
      refine wl_v (.bool false) rfl rfl (y_eqlI rfl rfl rfl (decide_eq_false d94) ⟨rfl, rfl⟩) ?_
      refine wl_v (.bool false) rfl rfl (y_mov rfl rfl ⟨rfl, rfl⟩) ?_
      refine wl_unless 5 true 42 rfl rfl rfl (Or.inl rfl) rfl ?_
      refine wl_unless 5 true 42 rfl rfl rfl (Or.inl rfl) rfl ?_
      refine wl_unless 5 true 42 rfl rfl rfl (Or.inl rfl) rfl ?_
      refine wl_unless 5 true 42 rfl rfl rfl (Or.inl rfl) rfl ?_
      refine wl_unless 5 true 42 rfl rfl rfl (Or.inl rfl) rfl ?_
      refine wl_v (.bool false) rfl rfl (y_pickF rfl rfl rfl ⟨rfl, rfl⟩) ?_
      refine wl_v (.bool false) rfl rfl (y_mov rfl rfl ⟨rfl, rfl⟩) ?_
      refine wl_unless 12 true 49 rfl rfl rfl (Or.inl rfl) rfl ?_
      refine wl_v (.bool false) rfl rfl (y_pickF rfl rfl rfl ⟨rfl, rfl⟩) ?_
      refine wl_v (.bool false) rfl rfl (y_asg rfl rfl ⟨rfl, rfl⟩) ?_
      refine wl_nil fun F104 hF105 => ?_
      have s106 : F104 52 = undef := (hF105 52).trans s90
      have s107 : F104 4 = .bool false := (hF105 4).trans rfl
      clear hF105
      refine then_normal ?_
      refine wq_ret ?_
      exact end_tmp (v := .bool false) s106 rfl rfl s107 ⟨(by first | rw [sameF_0 (by assumption)] | rw [sameF_1 (by assumption)] | rw [sameF_W (by assumption)] | rw [sameF_H (by assumption)] | rw [sameF_2 (by assumption) (by assumption) (by assumption) (by assumption)]), K40⟩

set_option maxHeartbeats 4000000 in
set_option maxRecDepth 100000 in
theorem fref_far (a : FD) (a0 a1 a2 : Value) (b : FD) (b0 b1 b2 : Value) (T_a0 : Nat → Prop) (T_a1 : Nat → Prop) (T_a2 : Nat → Prop) (T_b0 : Nat → Prop) (T_b1 : Nat → Prop) (T_b2 : Nat → Prop) (w0 : World) (h_a0 : Byt w0 T_a0 a0 ((a).p0)) (h_a1 : Byt w0 T_a1 a1 ((a).p1)) (h_a2 : Byt w0 T_a2 a2 ((a).p2)) (h_b0 : Byt w0 T_b0 b0 ((b).p0)) (h_b1 : Byt w0 T_b1 b1 ((b).p1)) (h_b2 : Byt w0 T_b2 b2 ((b).p2)) :
    Calls Try.prog 23 #[.agg #[.int .i64 ((a).W), .int .i64 ((a).H), a0, a1, a2], .agg #[.int .i64 ((b).W), .int .i64 ((b).H), b0, b1, b2]] w0 fun e w' => e = .returned (.int .i64 (farF a b)) ∧ Kept (fun _ => False) w0 w' := by
  refine calls_wq (args := [.agg #[.int .i64 ((a).W), .int .i64 ((a).H), a0, a1, a2], .agg #[.int .i64 ((b).W), .int .i64 ((b).H), b0, b1, b2]]) 67 Try.func23 rfl rfl (Nat.le_of_ble_eq_true rfl) ?_
  have K0 := Kept.refl (fun _ => False) w0
  have g_a0 := Grew.refl w0 T_a0
  have g_a1 := Grew.refl w0 T_a1
  have g_a2 := Grew.refl w0 T_a2
  have g_b0 := Grew.refl w0 T_b0
  have g_b1 := Grew.refl w0 T_b1
  have g_b2 := Grew.refl w0 T_b2
  refine wq_seq ?_
  refine wq_region ?_
  refine wl_box_stc (vs := [.int .i64 ((a).W), .int .i64 ((a).H), a0, a1, a2]) rfl rfl rfl rfl fun p1 w2 B4 g5 k3 => ?_
  have gr6 : Grew w0 noB (onB p1) := Grew.new K0 g5
  have ap7 : Apart (onB p1) (T_a0) := Apart.new g5 (h_a0).live
  have ap8 : Apart (onB p1) (T_a1) := Apart.new g5 (h_a1).live
  have ap9 : Apart (onB p1) (T_a2) := Apart.new g5 (h_a2).live
  have ap10 : Apart (onB p1) (T_b0) := Apart.new g5 (h_b0).live
  have ap11 : Apart (onB p1) (T_b1) := Apart.new g5 (h_b1).live
  have ap12 : Apart (onB p1) (T_b2) := Apart.new g5 (h_b2).live
  have B13 := h_a0.all k3 Apart.none
  have B14 := h_a1.all k3 Apart.none
  have B15 := h_a2.all k3 Apart.none
  have B16 := h_b0.all k3 Apart.none
  have B17 := h_b1.all k3 Apart.none
  have B18 := h_b2.all k3 Apart.none
  have K19 := K0.trans k3 (fun _ _ x => x.elim)
  refine wl_box_stc (vs := [.int .i64 ((b).W), .int .i64 ((b).H), b0, b1, b2]) rfl rfl rfl rfl fun p20 w21 B23 g24 k22 => ?_
  have gr25 : Grew w0 noB (onB p20) := Grew.new K19 g24
  have ap26 : Apart (onB p20) (T_a0) := Apart.new g24 (B13).live
  have ap27 : Apart (onB p20) (T_a1) := Apart.new g24 (B14).live
  have ap28 : Apart (onB p20) (T_a2) := Apart.new g24 (B15).live
  have ap29 : Apart (onB p20) (T_b0) := Apart.new g24 (B16).live
  have ap30 : Apart (onB p20) (T_b1) := Apart.new g24 (B17).live
  have ap31 : Apart (onB p20) (T_b2) := Apart.new g24 (B18).live
  have ap32 : Apart (onB p20) (onB p1) := Apart.new g24 (onB_live (B4).lt)
  have B33 := B13.all k22 Apart.none
  have B34 := B14.all k22 Apart.none
  have B35 := B15.all k22 Apart.none
  have B36 := B16.all k22 Apart.none
  have B37 := B17.all k22 Apart.none
  have B38 := B18.all k22 Apart.none
  have B39 := B4.all k22 id
  have K40 := K19.trans k22 (fun _ _ x => x.elim)
  refine wl_v (.int .i64 (0)) rfl rfl (y_asg rfl rfl ⟨rfl, rfl⟩) ?_
  refine wl_nil fun F41 hF42 => ?_
  have s43 : F41 67 = undef := (hF42 67).trans rfl
  have s44 : F41 2 = .pointer (some ⟨p1, 0, none⟩) := (hF42 2).trans rfl
  have s45 : F41 3 = .pointer (some ⟨p20, 0, none⟩) := (hF42 3).trans rfl
  clear hF42
  refine then_normal ?_
  refine wq_seq ?_
  refine wq_seq ?_
  by_cases d46 : (checkE (a)) ≠ (0)
  · skip
    refine wq_region ?_
    refine wl_v (.agg #[.int .i64 ((a).W), .int .i64 ((a).H), a0, a1, a2]) rfl rfl (y_load_stc stcT_frame rfl s44 B39 ⟨rfl, rfl⟩) ?_
    refine wl_call (R := fun v_ w_ => v_ = .int .i64 (checkE (a)) ∧ Kept (fun _ => False) w21 w_) rfl rfl (y_cs rfl rfl rfl (fun _ _ => by kernel_rfl) (ev_func _) (vsC rfl vsN) (fref_check (a) (a0) (a1) (a2) (T_a0) (T_a1) (T_a2) _  B33 B34 B35 ) (fun e_ w_ h_ => ⟨_, h_.1, rfl, h_.2⟩)) ?_
    rintro _ w47 ⟨rfl, k48⟩
    have B49 := B33.all k48 Apart.none
    have B50 := B34.all k48 Apart.none
    have B51 := B35.all k48 Apart.none
    have B52 := B36.all k48 Apart.none
    have B53 := B37.all k48 Apart.none
    have B54 := B38.all k48 Apart.none
    have B55 := B39.all k48 id
    have B56 := B23.all k48 id
    have K57 := K40.trans k48 (fun _ _ x => x.elim)
    refine wl_v (.bool true) rfl rfl (y_neqI rfl rfl rfl (decide_eq_true d46) ⟨rfl, rfl⟩) ?_
    refine wl_v (.bool true) rfl rfl (y_mov rfl rfl ⟨rfl, rfl⟩) ?_
    refine wl_unless 3 false 12 rfl rfl rfl (Or.inl rfl) rfl ?_
    refine wl_unless 3 false 12 rfl rfl rfl (Or.inl rfl) rfl ?_
    refine wl_unless 3 false 12 rfl rfl rfl (Or.inl rfl) rfl ?_
    refine wl_v (.bool true) rfl rfl (y_pickT rfl rfl rfl ⟨rfl, rfl⟩) ?_
    refine wl_v (.bool true) rfl rfl (y_mov rfl rfl ⟨rfl, rfl⟩) ?_
    refine wl_unless 8 false 17 rfl rfl rfl (Or.inl rfl) rfl ?_
    refine wl_unless 8 false 17 rfl rfl rfl (Or.inl rfl) rfl ?_
    refine wl_unless 8 false 17 rfl rfl rfl (Or.inl rfl) rfl ?_
    refine wl_unless 8 false 17 rfl rfl rfl (Or.inl rfl) rfl ?_
    refine wl_unless 8 false 17 rfl rfl rfl (Or.inl rfl) rfl ?_
    refine wl_v (.bool true) rfl rfl (y_pickT rfl rfl rfl ⟨rfl, rfl⟩) ?_
    refine wl_v (.bool true) rfl rfl (y_mov rfl rfl ⟨rfl, rfl⟩) ?_
    refine wl_unless 15 false 24 rfl rfl rfl (Or.inl rfl) rfl ?_
    refine wl_unless 15 false 24 rfl rfl rfl (Or.inl rfl) rfl ?_
    refine wl_unless 15 false 24 rfl rfl rfl (Or.inl rfl) rfl ?_
    refine wl_unless 15 false 24 rfl rfl rfl (Or.inl rfl) rfl ?_
    refine wl_unless 15 false 24 rfl rfl rfl (Or.inl rfl) rfl ?_
    refine wl_v (.bool true) rfl rfl (y_pickT rfl rfl rfl ⟨rfl, rfl⟩) ?_
    refine wl_nil fun F58 hF59 => ?_
    have s60 : F58 67 = undef := (hF59 67).trans s43
    have s61 : F58 2 = .pointer (some ⟨p1, 0, none⟩) := (hF59 2).trans s44
    have s62 : F58 3 = .pointer (some ⟨p20, 0, none⟩) := (hF59 3).trans s45
    have s63 : F58 30 = .bool true := (hF59 30).trans rfl
    clear hF59
    refine then_normal ?_
    refine wq_cond (t := true) s63 (fun _ => ?_) (fun e => by cases e)
    refine wq_seq ?_
    refine wq_region ?_
    refine wl_v (.int .i64 (-1)) rfl rfl (y_asg rfl rfl ⟨rfl, rfl⟩) ?_
    refine wl_nil fun F64 hF65 => ?_
    have s66 : F64 67 = undef := (hF65 67).trans s60
    have s67 : F64 4 = .int .i64 (-1) := (hF65 4).trans rfl
    clear hF65
    refine then_normal ?_
    refine wq_ret ?_
    refine then_ret ?_
    exact end_tmp (v := .int .i64 (-1)) s66 rfl rfl s67 ⟨(by first | rw [farF_yes hal]; rfl | rw [farF_no (by rintro ⟨h1, h2, h3, h4⟩; first | exact absurd ((checkE_iff a).2 h1) (by assumption) | exact absurd ((checkE_iff b).2 h2) (by assumption) | exact absurd h3 (by assumption) | exact absurd h4 (by assumption))]), K57⟩
  · skip
    by_cases d68 : (checkE (b)) ≠ (0)
    · skip
      refine wq_region ?_
      refine wl_v (.agg #[.int .i64 ((a).W), .int .i64 ((a).H), a0, a1, a2]) rfl rfl (y_load_stc stcT_frame rfl s44 B39 ⟨rfl, rfl⟩) ?_
      refine wl_call (R := fun v_ w_ => v_ = .int .i64 (checkE (a)) ∧ Kept (fun _ => False) w21 w_) rfl rfl (y_cs rfl rfl rfl (fun _ _ => by kernel_rfl) (ev_func _) (vsC rfl vsN) (fref_check (a) (a0) (a1) (a2) (T_a0) (T_a1) (T_a2) _  B33 B34 B35 ) (fun e_ w_ h_ => ⟨_, h_.1, rfl, h_.2⟩)) ?_
      rintro _ w69 ⟨rfl, k70⟩
      have B71 := B33.all k70 Apart.none
      have B72 := B34.all k70 Apart.none
      have B73 := B35.all k70 Apart.none
      have B74 := B36.all k70 Apart.none
      have B75 := B37.all k70 Apart.none
      have B76 := B38.all k70 Apart.none
      have B77 := B39.all k70 id
      have B78 := B23.all k70 id
      have K79 := K40.trans k70 (fun _ _ x => x.elim)
      refine wl_v (.bool false) rfl rfl (y_neqI rfl rfl rfl (decide_eq_false d46) ⟨rfl, rfl⟩) ?_
      refine wl_v (.bool false) rfl rfl (y_mov rfl rfl ⟨rfl, rfl⟩) ?_
      refine wl_vw (.agg #[.int .i64 ((b).W), .int .i64 ((b).H), b0, b1, b2]) 3 false 12 rfl rfl rfl rfl rfl (y_load_stc stcT_frame rfl s45 B78 ⟨rfl, rfl⟩) ?_
      refine wl_callw (R := fun v_ w_ => v_ = .int .i64 (checkE (b)) ∧ Kept (fun _ => False) w69 w_) 3 false 12 rfl rfl rfl rfl rfl (y_cs rfl rfl rfl (fun _ _ => by kernel_rfl) (ev_func _) (vsC rfl vsN) (fref_check (b) (b0) (b1) (b2) (T_b0) (T_b1) (T_b2) _  B74 B75 B76 ) (fun e_ w_ h_ => ⟨_, h_.1, rfl, h_.2⟩)) ?_
      rintro _ w80 ⟨rfl, k81⟩
      have B82 := B71.all k81 Apart.none
      have B83 := B72.all k81 Apart.none
      have B84 := B73.all k81 Apart.none
      have B85 := B74.all k81 Apart.none
      have B86 := B75.all k81 Apart.none
      have B87 := B76.all k81 Apart.none
      have B88 := B77.all k81 id
      have B89 := B78.all k81 id
      have K90 := K79.trans k81 (fun _ _ x => x.elim)
      refine wl_vw (.bool true) 3 false 12 rfl rfl rfl rfl rfl (y_neqI rfl rfl rfl (decide_eq_true d68) ⟨rfl, rfl⟩) ?_
      refine wl_v (.bool true) rfl rfl (y_pickF rfl rfl rfl ⟨rfl, rfl⟩) ?_
      refine wl_v (.bool true) rfl rfl (y_mov rfl rfl ⟨rfl, rfl⟩) ?_
      refine wl_unless 8 false 17 rfl rfl rfl (Or.inl rfl) rfl ?_
      refine wl_unless 8 false 17 rfl rfl rfl (Or.inl rfl) rfl ?_
      refine wl_unless 8 false 17 rfl rfl rfl (Or.inl rfl) rfl ?_
      refine wl_unless 8 false 17 rfl rfl rfl (Or.inl rfl) rfl ?_
      refine wl_unless 8 false 17 rfl rfl rfl (Or.inl rfl) rfl ?_
      refine wl_v (.bool true) rfl rfl (y_pickT rfl rfl rfl ⟨rfl, rfl⟩) ?_
      refine wl_v (.bool true) rfl rfl (y_mov rfl rfl ⟨rfl, rfl⟩) ?_
      refine wl_unless 15 false 24 rfl rfl rfl (Or.inl rfl) rfl ?_
      refine wl_unless 15 false 24 rfl rfl rfl (Or.inl rfl) rfl ?_
      refine wl_unless 15 false 24 rfl rfl rfl (Or.inl rfl) rfl ?_
      refine wl_unless 15 false 24 rfl rfl rfl (Or.inl rfl) rfl ?_
      refine wl_unless 15 false 24 rfl rfl rfl (Or.inl rfl) rfl ?_
      refine wl_v (.bool true) rfl rfl (y_pickT rfl rfl rfl ⟨rfl, rfl⟩) ?_
      refine wl_nil fun F91 hF92 => ?_
      have s93 : F91 67 = undef := (hF92 67).trans s43
      have s94 : F91 2 = .pointer (some ⟨p1, 0, none⟩) := (hF92 2).trans s44
      have s95 : F91 3 = .pointer (some ⟨p20, 0, none⟩) := (hF92 3).trans s45
      have s96 : F91 30 = .bool true := (hF92 30).trans rfl
      clear hF92
      refine then_normal ?_
      refine wq_cond (t := true) s96 (fun _ => ?_) (fun e => by cases e)
      refine wq_seq ?_
      refine wq_region ?_
      refine wl_v (.int .i64 (-1)) rfl rfl (y_asg rfl rfl ⟨rfl, rfl⟩) ?_
      refine wl_nil fun F97 hF98 => ?_
      have s99 : F97 67 = undef := (hF98 67).trans s93
      have s100 : F97 4 = .int .i64 (-1) := (hF98 4).trans rfl
      clear hF98
      refine then_normal ?_
      refine wq_ret ?_
      refine then_ret ?_
      exact end_tmp (v := .int .i64 (-1)) s99 rfl rfl s100 ⟨(by first | rw [farF_yes hal]; rfl | rw [farF_no (by rintro ⟨h1, h2, h3, h4⟩; first | exact absurd ((checkE_iff a).2 h1) (by assumption) | exact absurd ((checkE_iff b).2 h2) (by assumption) | exact absurd h3 (by assumption) | exact absurd h4 (by assumption))]), K90⟩
    · skip
      by_cases d101 : ((a).W) ≠ ((b).W)
      · skip
        refine wq_region ?_
        refine wl_v (.agg #[.int .i64 ((a).W), .int .i64 ((a).H), a0, a1, a2]) rfl rfl (y_load_stc stcT_frame rfl s44 B39 ⟨rfl, rfl⟩) ?_
        refine wl_call (R := fun v_ w_ => v_ = .int .i64 (checkE (a)) ∧ Kept (fun _ => False) w21 w_) rfl rfl (y_cs rfl rfl rfl (fun _ _ => by kernel_rfl) (ev_func _) (vsC rfl vsN) (fref_check (a) (a0) (a1) (a2) (T_a0) (T_a1) (T_a2) _  B33 B34 B35 ) (fun e_ w_ h_ => ⟨_, h_.1, rfl, h_.2⟩)) ?_
        rintro _ w102 ⟨rfl, k103⟩
        have B104 := B33.all k103 Apart.none
        have B105 := B34.all k103 Apart.none
        have B106 := B35.all k103 Apart.none
        have B107 := B36.all k103 Apart.none
        have B108 := B37.all k103 Apart.none
        have B109 := B38.all k103 Apart.none
        have B110 := B39.all k103 id
        have B111 := B23.all k103 id
        have K112 := K40.trans k103 (fun _ _ x => x.elim)
        refine wl_v (.bool false) rfl rfl (y_neqI rfl rfl rfl (decide_eq_false d46) ⟨rfl, rfl⟩) ?_
        refine wl_v (.bool false) rfl rfl (y_mov rfl rfl ⟨rfl, rfl⟩) ?_
        refine wl_vw (.agg #[.int .i64 ((b).W), .int .i64 ((b).H), b0, b1, b2]) 3 false 12 rfl rfl rfl rfl rfl (y_load_stc stcT_frame rfl s45 B111 ⟨rfl, rfl⟩) ?_
        refine wl_callw (R := fun v_ w_ => v_ = .int .i64 (checkE (b)) ∧ Kept (fun _ => False) w102 w_) 3 false 12 rfl rfl rfl rfl rfl (y_cs rfl rfl rfl (fun _ _ => by kernel_rfl) (ev_func _) (vsC rfl vsN) (fref_check (b) (b0) (b1) (b2) (T_b0) (T_b1) (T_b2) _  B107 B108 B109 ) (fun e_ w_ h_ => ⟨_, h_.1, rfl, h_.2⟩)) ?_
        rintro _ w113 ⟨rfl, k114⟩
        have B115 := B104.all k114 Apart.none
        have B116 := B105.all k114 Apart.none
        have B117 := B106.all k114 Apart.none
        have B118 := B107.all k114 Apart.none
        have B119 := B108.all k114 Apart.none
        have B120 := B109.all k114 Apart.none
        have B121 := B110.all k114 id
        have B122 := B111.all k114 id
        have K123 := K112.trans k114 (fun _ _ x => x.elim)
        refine wl_vw (.bool false) 3 false 12 rfl rfl rfl rfl rfl (y_neqI rfl rfl rfl (decide_eq_false d68) ⟨rfl, rfl⟩) ?_
        refine wl_v (.bool false) rfl rfl (y_pickF rfl rfl rfl ⟨rfl, rfl⟩) ?_
        refine wl_v (.bool false) rfl rfl (y_mov rfl rfl ⟨rfl, rfl⟩) ?_
        refine wl_vw (.pointer (some ⟨p1, 0, none⟩)) 8 false 17 rfl rfl rfl rfl rfl (y_fieldR (n := 1) rfl s44 Try.underlying25 rfl (by kernel_rfl) (by decide) rfl ⟨rfl, rfl⟩) ?_
        refine wl_vw (.int .i64 ((a).W)) 8 false 17 rfl rfl rfl rfl rfl (y_ld_stc rfl rfl Try.underlying3 B121 rfl rfl ⟨rfl, rfl⟩) ?_
        refine wl_vw (.pointer (some ⟨p20, 0, none⟩)) 8 false 17 rfl rfl rfl rfl rfl (y_fieldR (n := 1) rfl s45 Try.underlying25 rfl (by kernel_rfl) (by decide) rfl ⟨rfl, rfl⟩) ?_
        refine wl_vw (.int .i64 ((b).W)) 8 false 17 rfl rfl rfl rfl rfl (y_ld_stc rfl rfl Try.underlying3 B122 rfl rfl ⟨rfl, rfl⟩) ?_
        refine wl_vw (.bool true) 8 false 17 rfl rfl rfl rfl rfl (y_neqI rfl rfl rfl (decide_eq_true d101) ⟨rfl, rfl⟩) ?_
        refine wl_v (.bool true) rfl rfl (y_pickF rfl rfl rfl ⟨rfl, rfl⟩) ?_
        refine wl_v (.bool true) rfl rfl (y_mov rfl rfl ⟨rfl, rfl⟩) ?_
        refine wl_unless 15 false 24 rfl rfl rfl (Or.inl rfl) rfl ?_
        refine wl_unless 15 false 24 rfl rfl rfl (Or.inl rfl) rfl ?_
        refine wl_unless 15 false 24 rfl rfl rfl (Or.inl rfl) rfl ?_
        refine wl_unless 15 false 24 rfl rfl rfl (Or.inl rfl) rfl ?_
        refine wl_unless 15 false 24 rfl rfl rfl (Or.inl rfl) rfl ?_
        refine wl_v (.bool true) rfl rfl (y_pickT rfl rfl rfl ⟨rfl, rfl⟩) ?_
        refine wl_nil fun F124 hF125 => ?_
        have s126 : F124 67 = undef := (hF125 67).trans s43
        have s127 : F124 2 = .pointer (some ⟨p1, 0, none⟩) := (hF125 2).trans s44
        have s128 : F124 3 = .pointer (some ⟨p20, 0, none⟩) := (hF125 3).trans s45
        have s129 : F124 30 = .bool true := (hF125 30).trans rfl
        clear hF125
        refine then_normal ?_
        refine wq_cond (t := true) s129 (fun _ => ?_) (fun e => by cases e)
        refine wq_seq ?_
        refine wq_region ?_
        refine wl_v (.int .i64 (-1)) rfl rfl (y_asg rfl rfl ⟨rfl, rfl⟩) ?_
        refine wl_nil fun F130 hF131 => ?_
        have s132 : F130 67 = undef := (hF131 67).trans s126
        have s133 : F130 4 = .int .i64 (-1) := (hF131 4).trans rfl
        clear hF131
        refine then_normal ?_
        refine wq_ret ?_
        refine then_ret ?_
        exact end_tmp (v := .int .i64 (-1)) s132 rfl rfl s133 ⟨(by first | rw [farF_yes hal]; rfl | rw [farF_no (by rintro ⟨h1, h2, h3, h4⟩; first | exact absurd ((checkE_iff a).2 h1) (by assumption) | exact absurd ((checkE_iff b).2 h2) (by assumption) | exact absurd h3 (by assumption) | exact absurd h4 (by assumption))]), K123⟩
      · skip
        refine wq_region ?_
        refine wl_v (.agg #[.int .i64 ((a).W), .int .i64 ((a).H), a0, a1, a2]) rfl rfl (y_load_stc stcT_frame rfl s44 B39 ⟨rfl, rfl⟩) ?_
        refine wl_call (R := fun v_ w_ => v_ = .int .i64 (checkE (a)) ∧ Kept (fun _ => False) w21 w_) rfl rfl (y_cs rfl rfl rfl (fun _ _ => by kernel_rfl) (ev_func _) (vsC rfl vsN) (fref_check (a) (a0) (a1) (a2) (T_a0) (T_a1) (T_a2) _  B33 B34 B35 ) (fun e_ w_ h_ => ⟨_, h_.1, rfl, h_.2⟩)) ?_
        rintro _ w134 ⟨rfl, k135⟩
        have B136 := B33.all k135 Apart.none
        have B137 := B34.all k135 Apart.none
        have B138 := B35.all k135 Apart.none
        have B139 := B36.all k135 Apart.none
        have B140 := B37.all k135 Apart.none
        have B141 := B38.all k135 Apart.none
        have B142 := B39.all k135 id
        have B143 := B23.all k135 id
        have K144 := K40.trans k135 (fun _ _ x => x.elim)
        refine wl_v (.bool false) rfl rfl (y_neqI rfl rfl rfl (decide_eq_false d46) ⟨rfl, rfl⟩) ?_
        refine wl_v (.bool false) rfl rfl (y_mov rfl rfl ⟨rfl, rfl⟩) ?_
        refine wl_vw (.agg #[.int .i64 ((b).W), .int .i64 ((b).H), b0, b1, b2]) 3 false 12 rfl rfl rfl rfl rfl (y_load_stc stcT_frame rfl s45 B143 ⟨rfl, rfl⟩) ?_
        refine wl_callw (R := fun v_ w_ => v_ = .int .i64 (checkE (b)) ∧ Kept (fun _ => False) w134 w_) 3 false 12 rfl rfl rfl rfl rfl (y_cs rfl rfl rfl (fun _ _ => by kernel_rfl) (ev_func _) (vsC rfl vsN) (fref_check (b) (b0) (b1) (b2) (T_b0) (T_b1) (T_b2) _  B139 B140 B141 ) (fun e_ w_ h_ => ⟨_, h_.1, rfl, h_.2⟩)) ?_
        rintro _ w145 ⟨rfl, k146⟩
        have B147 := B136.all k146 Apart.none
        have B148 := B137.all k146 Apart.none
        have B149 := B138.all k146 Apart.none
        have B150 := B139.all k146 Apart.none
        have B151 := B140.all k146 Apart.none
        have B152 := B141.all k146 Apart.none
        have B153 := B142.all k146 id
        have B154 := B143.all k146 id
        have K155 := K144.trans k146 (fun _ _ x => x.elim)
        refine wl_vw (.bool false) 3 false 12 rfl rfl rfl rfl rfl (y_neqI rfl rfl rfl (decide_eq_false d68) ⟨rfl, rfl⟩) ?_
        refine wl_v (.bool false) rfl rfl (y_pickF rfl rfl rfl ⟨rfl, rfl⟩) ?_
        refine wl_v (.bool false) rfl rfl (y_mov rfl rfl ⟨rfl, rfl⟩) ?_
        refine wl_vw (.pointer (some ⟨p1, 0, none⟩)) 8 false 17 rfl rfl rfl rfl rfl (y_fieldR (n := 1) rfl s44 Try.underlying25 rfl (by kernel_rfl) (by decide) rfl ⟨rfl, rfl⟩) ?_
        refine wl_vw (.int .i64 ((a).W)) 8 false 17 rfl rfl rfl rfl rfl (y_ld_stc rfl rfl Try.underlying3 B153 rfl rfl ⟨rfl, rfl⟩) ?_
        refine wl_vw (.pointer (some ⟨p20, 0, none⟩)) 8 false 17 rfl rfl rfl rfl rfl (y_fieldR (n := 1) rfl s45 Try.underlying25 rfl (by kernel_rfl) (by decide) rfl ⟨rfl, rfl⟩) ?_
        refine wl_vw (.int .i64 ((b).W)) 8 false 17 rfl rfl rfl rfl rfl (y_ld_stc rfl rfl Try.underlying3 B154 rfl rfl ⟨rfl, rfl⟩) ?_
        refine wl_vw (.bool false) 8 false 17 rfl rfl rfl rfl rfl (y_neqI rfl rfl rfl (decide_eq_false d101) ⟨rfl, rfl⟩) ?_
        refine wl_v (.bool false) rfl rfl (y_pickF rfl rfl rfl ⟨rfl, rfl⟩) ?_
        refine wl_v (.bool false) rfl rfl (y_mov rfl rfl ⟨rfl, rfl⟩) ?_
        refine wl_vw (.pointer (some ⟨p1, 1, none⟩)) 15 false 24 rfl rfl rfl rfl rfl (y_fieldR (n := 1) rfl s44 Try.underlying25 rfl (by kernel_rfl) (by decide) rfl ⟨rfl, rfl⟩) ?_
        refine wl_vw (.int .i64 ((a).H)) 15 false 24 rfl rfl rfl rfl rfl (y_ld_stc rfl rfl Try.underlying3 B153 rfl rfl ⟨rfl, rfl⟩) ?_
        refine wl_vw (.pointer (some ⟨p20, 1, none⟩)) 15 false 24 rfl rfl rfl rfl rfl (y_fieldR (n := 1) rfl s45 Try.underlying25 rfl (by kernel_rfl) (by decide) rfl ⟨rfl, rfl⟩) ?_
        refine wl_vw (.int .i64 ((b).H)) 15 false 24 rfl rfl rfl rfl rfl (y_ld_stc rfl rfl Try.underlying3 B154 rfl rfl ⟨rfl, rfl⟩) ?_
        refine wl_vw (.bool (decide (((a).H) ≠ ((b).H)))) 15 false 24 rfl rfl rfl rfl rfl (y_neqI rfl rfl rfl rfl ⟨rfl, rfl⟩) ?_
        refine wl_v (.bool (decide (((a).H) ≠ ((b).H)))) rfl rfl (y_pickF rfl rfl rfl ⟨rfl, rfl⟩) ?_
        refine wl_nil fun F156 hF157 => ?_
        have s158 : F156 67 = undef := (hF157 67).trans s43
        have s159 : F156 2 = .pointer (some ⟨p1, 0, none⟩) := (hF157 2).trans s44
        have s160 : F156 3 = .pointer (some ⟨p20, 0, none⟩) := (hF157 3).trans s45
        have s161 : F156 30 = .bool (decide (((a).H) ≠ ((b).H))) := (hF157 30).trans rfl
        clear hF157
        refine then_normal ?_
        refine wq_cond s161 (fun c162 => ?_) (fun c162 => ?_)
        · replace c162 := of_decide_eq_true c162
          refine wq_seq ?_
          refine wq_region ?_
          refine wl_v (.int .i64 (-1)) rfl rfl (y_asg rfl rfl ⟨rfl, rfl⟩) ?_
          refine wl_nil fun F163 hF164 => ?_
          have s165 : F163 67 = undef := (hF164 67).trans s158
          have s166 : F163 4 = .int .i64 (-1) := (hF164 4).trans rfl
          clear hF164
          refine then_normal ?_
          refine wq_ret ?_
          refine then_ret ?_
          exact end_tmp (v := .int .i64 (-1)) s165 rfl rfl s166 ⟨(by first | rw [farF_yes hal]; rfl | rw [farF_no (by rintro ⟨h1, h2, h3, h4⟩; first | exact absurd ((checkE_iff a).2 h1) (by assumption) | exact absurd ((checkE_iff b).2 h2) (by assumption) | exact absurd h3 (by assumption) | exact absurd h4 (by assumption))]), K155⟩
        · replace c162 := of_decide_eq_false c162
          refine wq_skip ?_
          refine then_normal ?_
          refine wq_seq ?_
          have hal : alikeF a b := ⟨(checkE_iff a).1 (by first | assumption | (apply Decidable.byContradiction; assumption)), (checkE_iff b).1 (by first | assumption | (apply Decidable.byContradiction; assumption)), by first | assumption | (apply Decidable.byContradiction; assumption), by first | assumption | (apply Decidable.byContradiction; assumption)⟩
          have hlen := alike_len hal
          have hmost := ok_lens hal.1
          refine wq_region ?_
          refine wl_v (.int .i64 (0)) rfl rfl (y_asg rfl rfl ⟨rfl, rfl⟩) ?_
          refine wl_nil fun F167 hF168 => ?_
          have s169 : F167 67 = undef := (hF168 67).trans s158
          have s170 : F167 2 = .pointer (some ⟨p1, 0, none⟩) := (hF168 2).trans s159
          have s171 : F167 3 = .pointer (some ⟨p20, 0, none⟩) := (hF168 3).trans s160
          have s172 : F167 5 = .int .i64 (0) := (hF168 5).trans rfl
          clear hF168
          refine then_normal ?_
          refine wq_seq ?_
          refine wq_seq ?_
          refine wq_region ?_
          refine wl_v (.int .i64 (0)) rfl rfl (y_asg rfl rfl ⟨rfl, rfl⟩) ?_
          refine wl_nil fun F173 hF174 => ?_
          have s175 : F173 67 = undef := (hF174 67).trans s169
          have s176 : F173 2 = .pointer (some ⟨p1, 0, none⟩) := (hF174 2).trans s170
          have s177 : F173 3 = .pointer (some ⟨p20, 0, none⟩) := (hF174 3).trans s171
          have s178 : F173 5 = .int .i64 (0) := (hF174 5).trans s172
          have s179 : F173 6 = .int .i64 (0) := (hF174 6).trans rfl
          clear hF174
          refine then_normal ?_
          refine wq_block ?_
          refine wq_rounds 4 ?_
          refine wqr_step ?_
          refine wq_seq ?_
          refine wq_seq ?_
          refine wq_region ?_
          refine wl_v (.int .i64 (0)) rfl rfl (y_mov rfl s179 ⟨rfl, rfl⟩) ?_
          refine wl_v (.bool true) rfl rfl (y_lss rfl rfl rfl rfl ⟨rfl, rfl⟩) ?_
          refine wl_nil fun F180 hF181 => ?_
          have s182 : F180 67 = undef := (hF181 67).trans s175
          have s183 : F180 2 = .pointer (some ⟨p1, 0, none⟩) := (hF181 2).trans s176
          have s184 : F180 3 = .pointer (some ⟨p20, 0, none⟩) := (hF181 3).trans s177
          have s185 : F180 5 = .int .i64 (0) := (hF181 5).trans s178
          have s186 : F180 6 = .int .i64 (0) := (hF181 6).trans s179
          have s187 : F180 32 = .bool true := (hF181 32).trans rfl
          clear hF181
          refine then_normal ?_
          refine wq_cond (t := true) s187 (fun _ => ?_) (fun e => by cases e)
          refine wq_skip ?_
          refine then_normal ?_
          refine wq_seq ?_
          refine wq_block ?_
          refine wq_seq ?_
          refine wq_region ?_
          refine wl_v (.int .i64 (0)) rfl rfl (y_asg rfl rfl ⟨rfl, rfl⟩) ?_
          refine wl_nil fun F188 hF189 => ?_
          have s190 : F188 67 = undef := (hF189 67).trans s182
          have s191 : F188 2 = .pointer (some ⟨p1, 0, none⟩) := (hF189 2).trans s183
          have s192 : F188 3 = .pointer (some ⟨p20, 0, none⟩) := (hF189 3).trans s184
          have s193 : F188 5 = .int .i64 (0) := (hF189 5).trans s185
          have s194 : F188 6 = .int .i64 (0) := (hF189 6).trans s186
          have s195 : F188 7 = .int .i64 (0) := (hF189 7).trans rfl
          clear hF189
          refine then_normal ?_
          refine wq_block ?_
          refine wq_loop (fun nn FF ww => ∃ (i : Nat), (i ≤ (a).p0.length) ∧ nn = (a).p0.length - i ∧ FF 2 = .pointer (some ⟨p1, 0, none⟩) ∧ FF 3 = .pointer (some ⟨p20, 0, none⟩) ∧ FF 6 = .int .i64 (0) ∧ FF 67 = undef ∧ FF 5 = .int .i64 (farTo (a).p0 (b).p0 (farS a b 0) i) ∧ FF 7 = .int .i64 (((i : Nat) : Int)) ∧ Kept (fun _ => False) w0 ww ∧ Byt ww (T_a0) a0 ((a).p0) ∧ Byt ww (T_a1) a1 ((a).p1) ∧ Byt ww (T_a2) a2 ((a).p2) ∧ Byt ww (T_b0) b0 ((b).p0) ∧ Byt ww (T_b1) b1 ((b).p1) ∧ Byt ww (T_b2) b2 ((b).p2) ∧ Stc ww p1 25 [.int .i64 ((a).W), .int .i64 ((a).H), a0, a1, a2] ∧ Stc ww p20 25 [.int .i64 ((b).W), .int .i64 ((b).H), b0, b1, b2]) ((a).p0.length - (0)) ⟨0, by omega, rfl, s191, s192, s194, s190, s193, s195, K155, B147, B148, B149, B150, B151, B152, B153, B154⟩ ?_
          rintro n199 F196 w197 ⟨i, i200, hn199, s201, s202, s203, s204, s205, s206, K198, B207, B208, B209, B210, B211, B212, B213, B214⟩
          refine wq_seq ?_
          refine wq_seq ?_
          refine wq_region ?_
          refine wl_v (.int .i64 (((i : Nat) : Int))) rfl rfl (y_mov rfl s206 ⟨rfl, rfl⟩) ?_
          refine wl_v (.int .i64 (0)) rfl rfl (y_mov rfl s203 ⟨rfl, rfl⟩) ?_
          refine wl_v (.pointer (some ⟨p1, 2, none⟩)) rfl rfl (y_fieldR (n := 3) rfl s201 Try.underlying25 rfl (by kernel_rfl) (by decide) rfl ⟨rfl, rfl⟩) ?_
          refine wl_v (.pointer (some ⟨p1, 2, none⟩)) rfl rfl (y_atR (0) (s := 1) rfl rfl rfl (by omega) Try.underlying23 (by omega) (by kernel_rfl) (by omega) ⟨rfl, rfl⟩) ?_
          refine wl_v (a0) rfl rfl (y_ld_stc rfl rfl Try.underlying22 B213 rfl rfl ⟨rfl, rfl⟩) ?_
          refine wl_v (.int .i64 (((((a).p0).length : Nat) : Int))) rfl rfl (y_lenV rfl rfl rfl B207 ⟨rfl, rfl⟩) ?_
          refine wl_v (.bool (decide ((((i : Nat) : Int)) < (((((a).p0).length : Nat) : Int))))) rfl rfl (y_lss rfl rfl rfl rfl ⟨rfl, rfl⟩) ?_
          refine wl_nil fun F215 hF216 => ?_
          have s217 : F215 2 = .pointer (some ⟨p1, 0, none⟩) := (hF216 2).trans s201
          have s218 : F215 3 = .pointer (some ⟨p20, 0, none⟩) := (hF216 3).trans s202
          have s219 : F215 6 = .int .i64 (0) := (hF216 6).trans s203
          have s220 : F215 67 = undef := (hF216 67).trans s204
          have s221 : F215 5 = .int .i64 (farTo (a).p0 (b).p0 (farS a b 0) i) := (hF216 5).trans s205
          have s222 : F215 7 = .int .i64 (((i : Nat) : Int)) := (hF216 7).trans s206
          have s223 : F215 41 = .bool (decide ((((i : Nat) : Int)) < (((((a).p0).length : Nat) : Int)))) := (hF216 41).trans rfl
          clear hF216
          refine then_normal ?_
          refine wq_cond s223 (fun c224 => ?_) (fun c224 => ?_)
          · replace c224 := of_decide_eq_true c224
            refine wq_skip ?_
            refine then_normal ?_
            refine wq_seq ?_
            refine wq_block ?_
            refine wq_seq ?_
            have u225 := getD_lt (B207).lt256 (i)
            have u226 := getD_lt (B210).lt256 (i)
            refine wq_said [some 44, some 45, some 46, some 47, some 48, some 49, some 50, some 51, some 52, some 53, some 54, some 55, some 56, some 57, some 58, some 59, some 60, some 8] [Pd.eq (.int .i64 (0)), Pd.eq (.pointer (some ⟨p1, 2, none⟩)), Pd.eq (.pointer (some ⟨p1, 2, none⟩)), Pd.eq (a0), Pd.eq (.int .i64 (((i : Nat) : Int))), Pd.eq (bytAddr (a0) (i)), Pd.eq (.int .u8 (((((a).p0).getD (i) 0 : Nat) : Int))), Pd.eq (.int .i64 (((((a).p0).getD (i) 0 : Nat) : Int))), Pd.eq (.int .i64 (0)), Pd.eq (.pointer (some ⟨p20, 2, none⟩)), Pd.eq (.pointer (some ⟨p20, 2, none⟩)), Pd.eq (b0), Pd.eq (.int .i64 (((i : Nat) : Int))), Pd.eq (bytAddr (b0) (i)), Pd.eq (.int .u8 (((((b).p0).getD (i) 0 : Nat) : Int))), Pd.eq (.int .i64 (((((b).p0).getD (i) 0 : Nat) : Int))), Pd.eq (.int .i64 ((((((a).p0).getD (i) 0 : Nat) : Int)) - (((((b).p0).getD (i) 0 : Nat) : Int)))), Pd.eq (.int .i64 ((((((a).p0).getD (i) 0 : Nat) : Int)) - (((((b).p0).getD (i) 0 : Nat) : Int))))] (by kernel_rfl) (by kernel_rfl) ?_ ?_
            · refine stepsF_cons ?_ ?_
              · refine StepF.one rfl fun F_ w_ hR hout hD => ?_
                exact (y_mov rfl ((hout 6 rfl (by decide)).trans s219) ⟨rfl, Kept.refl _ _⟩)
              refine stepsF_cons ?_ ?_
              · refine StepF.one rfl fun F_ w_ hR hout hD => ?_
                exact (y_fieldR (n := 3) rfl ((hout 2 rfl (by decide)).trans s217) Try.underlying25 rfl (by kernel_rfl) (by decide) rfl ⟨rfl, Kept.refl _ _⟩)
              refine stepsF_cons ?_ ?_
              · refine StepF.one rfl fun F_ w_ hR hout hD => ?_
                have g45 : F_ 45 = .pointer (some ⟨p1, 2, none⟩) := hD.get 0 rfl rfl rfl
                have g44 : F_ 44 = .int .i64 (0) := hD.get 1 rfl rfl rfl
                exact (y_atR (0) (s := 1) rfl g45 g44 (by omega) Try.underlying23 (by omega) (by kernel_rfl) (by omega) ⟨rfl, Kept.refl _ _⟩)
              refine stepsF_cons ?_ ?_
              · refine StepF.one rfl fun F_ w_ hR hout hD => ?_
                have g46 : F_ 46 = .pointer (some ⟨p1, 2, none⟩) := hD.get 0 rfl rfl rfl
                exact (y_ld_stc rfl g46 Try.underlying22 (B213.all hR id) rfl rfl ⟨rfl, Kept.refl _ _⟩)
              refine stepsF_cons ?_ ?_
              · refine StepF.one rfl fun F_ w_ hR hout hD => ?_
                exact (y_mov rfl ((hout 7 rfl (by decide)).trans s222) ⟨rfl, Kept.refl _ _⟩)
              refine stepsF_cons ?_ ?_
              · refine StepF.one rfl fun F_ w_ hR hout hD => ?_
                have g47 : F_ 47 = a0 := hD.get 0 rfl rfl rfl
                have g48 : F_ 48 = .int .i64 (((i : Nat) : Int)) := hD.get 1 rfl rfl rfl
                exact (y_atB (i) rfl g47 g48 (by omega) (B207.all hR Apart.none) (by omega) ⟨rfl, Kept.refl _ _⟩)
              refine stepsF_cons ?_ ?_
              · refine StepF.one rfl fun F_ w_ hR hout hD => ?_
                have g49 : F_ 49 = bytAddr (a0) (i) := hD.get 0 rfl rfl rfl
                exact (y_ldB rfl g49 (B207.all hR Apart.none) (by omega) ⟨rfl, Kept.refl _ _⟩)
              refine stepsF_cons ?_ ?_
              · refine StepF.one rfl fun F_ w_ hR hout hD => ?_
                have g50 : F_ 50 = .int .u8 (((((a).p0).getD (i) 0 : Nat) : Int)) := hD.get 0 rfl rfl rfl
                exact (y_convR rfl g50 Try.underlying5 Try.underlying3 (i64_i rfl (by omega)) ⟨rfl, Kept.refl _ _⟩)
              refine stepsF_cons ?_ ?_
              · refine StepF.one rfl fun F_ w_ hR hout hD => ?_
                exact (y_mov rfl ((hout 6 rfl (by decide)).trans s219) ⟨rfl, Kept.refl _ _⟩)
              refine stepsF_cons ?_ ?_
              · refine StepF.one rfl fun F_ w_ hR hout hD => ?_
                exact (y_fieldR (n := 3) rfl ((hout 3 rfl (by decide)).trans s218) Try.underlying25 rfl (by kernel_rfl) (by decide) rfl ⟨rfl, Kept.refl _ _⟩)
              refine stepsF_cons ?_ ?_
              · refine StepF.one rfl fun F_ w_ hR hout hD => ?_
                have g53 : F_ 53 = .pointer (some ⟨p20, 2, none⟩) := hD.get 0 rfl rfl rfl
                have g52 : F_ 52 = .int .i64 (0) := hD.get 1 rfl rfl rfl
                exact (y_atR (0) (s := 1) rfl g53 g52 (by omega) Try.underlying23 (by omega) (by kernel_rfl) (by omega) ⟨rfl, Kept.refl _ _⟩)
              refine stepsF_cons ?_ ?_
              · refine StepF.one rfl fun F_ w_ hR hout hD => ?_
                have g54 : F_ 54 = .pointer (some ⟨p20, 2, none⟩) := hD.get 0 rfl rfl rfl
                exact (y_ld_stc rfl g54 Try.underlying22 (B214.all hR id) rfl rfl ⟨rfl, Kept.refl _ _⟩)
              refine stepsF_cons ?_ ?_
              · refine StepF.one rfl fun F_ w_ hR hout hD => ?_
                exact (y_mov rfl ((hout 7 rfl (by decide)).trans s222) ⟨rfl, Kept.refl _ _⟩)
              refine stepsF_cons ?_ ?_
              · refine StepF.one rfl fun F_ w_ hR hout hD => ?_
                have g55 : F_ 55 = b0 := hD.get 0 rfl rfl rfl
                have g56 : F_ 56 = .int .i64 (((i : Nat) : Int)) := hD.get 1 rfl rfl rfl
                exact (y_atB (i) rfl g55 g56 (by omega) (B210.all hR Apart.none) (by omega) ⟨rfl, Kept.refl _ _⟩)
              refine stepsF_cons ?_ ?_
              · refine StepF.one rfl fun F_ w_ hR hout hD => ?_
                have g57 : F_ 57 = bytAddr (b0) (i) := hD.get 0 rfl rfl rfl
                exact (y_ldB rfl g57 (B210.all hR Apart.none) (by omega) ⟨rfl, Kept.refl _ _⟩)
              refine stepsF_cons ?_ ?_
              · refine StepF.one rfl fun F_ w_ hR hout hD => ?_
                have g58 : F_ 58 = .int .u8 (((((b).p0).getD (i) 0 : Nat) : Int)) := hD.get 0 rfl rfl rfl
                exact (y_convR rfl g58 Try.underlying5 Try.underlying3 (i64_i rfl (by omega)) ⟨rfl, Kept.refl _ _⟩)
              refine stepsF_cons ?_ ?_
              · refine StepF.one rfl fun F_ w_ hR hout hD => ?_
                have g51 : F_ 51 = .int .i64 (((((a).p0).getD (i) 0 : Nat) : Int)) := hD.get 0 rfl rfl rfl
                have g59 : F_ 59 = .int .i64 (((((b).p0).getD (i) 0 : Nat) : Int)) := hD.get 1 rfl rfl rfl
                exact (y_sub rfl g51 g59 (i64_i rfl (by omega)) ⟨rfl, Kept.refl _ _⟩)
              refine stepsF_cons ?_ ?_
              · refine StepF.one rfl fun F_ w_ hR hout hD => ?_
                have g60 : F_ 60 = .int .i64 ((((((a).p0).getD (i) 0 : Nat) : Int)) - (((((b).p0).getD (i) 0 : Nat) : Int))) := hD.get 0 rfl rfl rfl
                exact (y_asg rfl g60 ⟨rfl, Kept.refl _ _⟩)
              exact stepsF_nil
            intro v227 F228 w229 k230 G231 hF232
            have B234 := B207.all k230 Apart.none
            have B235 := B208.all k230 Apart.none
            have B236 := B209.all k230 Apart.none
            have B237 := B210.all k230 Apart.none
            have B238 := B211.all k230 Apart.none
            have B239 := B212.all k230 Apart.none
            have B240 := B213.all k230 id
            have B241 := B214.all k230 id
            have K242 := K198.trans k230 (fun _ _ x => x.elim)
            have s243 : F228 2 = .pointer (some ⟨p1, 0, none⟩) := (hF232 2).trans s217
            have s244 : F228 3 = .pointer (some ⟨p20, 0, none⟩) := (hF232 3).trans s218
            have s245 : F228 6 = .int .i64 (0) := (hF232 6).trans s219
            have s246 : F228 67 = undef := (hF232 67).trans s220
            have s247 : F228 5 = .int .i64 (farTo (a).p0 (b).p0 (farS a b 0) i) := (hF232 5).trans s221
            have s248 : F228 7 = .int .i64 (((i : Nat) : Int)) := (hF232 7).trans s222
            have s249 : F228 8 = .int .i64 ((((((a).p0).getD (i) 0 : Nat) : Int)) - (((((b).p0).getD (i) 0 : Nat) : Int))) := (hF232 8).trans (G231 17 (by decide))
            clear G231 hF232
            refine then_normal ?_
            refine wq_region ?_
            refine wl_v (.int .i64 (farTo (a).p0 (b).p0 (farS a b 0) i)) rfl rfl (y_mov rfl s247 ⟨rfl, rfl⟩) ?_
            refine wl_v (.int .i64 ((((((a).p0).getD (i) 0 : Nat) : Int)) - (((((b).p0).getD (i) 0 : Nat) : Int)))) rfl rfl (y_mov rfl s249 ⟨rfl, rfl⟩) ?_
            refine wl_v (.int .i64 ((((((a).p0).getD (i) 0 : Nat) : Int)) - (((((b).p0).getD (i) 0 : Nat) : Int)))) rfl rfl (y_mov rfl s249 ⟨rfl, rfl⟩) ?_
            refine wl_v (.int .i64 (-((((((a).p0).getD (i) 0 : Nat) : Int)) - (((((b).p0).getD (i) 0 : Nat) : Int))))) rfl rfl (y_neg rfl rfl (i64_i rfl (by omega)) ⟨rfl, rfl⟩) ?_
            refine wl_v (.int .i64 (max (max (farTo (a).p0 (b).p0 (farS a b 0) i) ((((((a).p0).getD (i) 0 : Nat) : Int)) - (((((b).p0).getD (i) 0 : Nat) : Int)))) (-((((((a).p0).getD (i) 0 : Nat) : Int)) - (((((b).p0).getD (i) 0 : Nat) : Int)))))) rfl rfl (y_max3 rfl rfl rfl rfl rfl ⟨rfl, rfl⟩) ?_
            refine wl_v (.int .i64 (max (max (farTo (a).p0 (b).p0 (farS a b 0) i) ((((((a).p0).getD (i) 0 : Nat) : Int)) - (((((b).p0).getD (i) 0 : Nat) : Int)))) (-((((((a).p0).getD (i) 0 : Nat) : Int)) - (((((b).p0).getD (i) 0 : Nat) : Int)))))) rfl rfl (y_asg rfl rfl ⟨rfl, rfl⟩) ?_
            refine wl_nil fun F250 hF251 => ?_
            have s252 : F250 2 = .pointer (some ⟨p1, 0, none⟩) := (hF251 2).trans s243
            have s253 : F250 3 = .pointer (some ⟨p20, 0, none⟩) := (hF251 3).trans s244
            have s254 : F250 6 = .int .i64 (0) := (hF251 6).trans s245
            have s255 : F250 67 = undef := (hF251 67).trans s246
            have s256 : F250 7 = .int .i64 (((i : Nat) : Int)) := (hF251 7).trans s248
            have s257 : F250 5 = .int .i64 (max (max (farTo (a).p0 (b).p0 (farS a b 0) i) ((((((a).p0).getD (i) 0 : Nat) : Int)) - (((((b).p0).getD (i) 0 : Nat) : Int)))) (-((((((a).p0).getD (i) 0 : Nat) : Int)) - (((((b).p0).getD (i) 0 : Nat) : Int))))) := (hF251 5).trans rfl
            clear hF251
            refine in_normal ?_
            refine then_normal ?_
            refine wq_region ?_
            refine wl_v (.int .i64 (((i : Nat) : Int))) rfl rfl (y_mov rfl s256 ⟨rfl, rfl⟩) ?_
            refine wl_v (.int .i64 (((i + 1 : Nat) : Int))) rfl rfl (y_add rfl rfl rfl (i64_n (by omega) (by omega)) ⟨rfl, rfl⟩) ?_
            refine wl_v (.int .i64 (((i + 1 : Nat) : Int))) rfl rfl (y_asg rfl rfl ⟨rfl, rfl⟩) ?_
            refine wl_nil fun F258 hF259 => ?_
            have s260 : F258 2 = .pointer (some ⟨p1, 0, none⟩) := (hF259 2).trans s252
            have s261 : F258 3 = .pointer (some ⟨p20, 0, none⟩) := (hF259 3).trans s253
            have s262 : F258 6 = .int .i64 (0) := (hF259 6).trans s254
            have s263 : F258 67 = undef := (hF259 67).trans s255
            have s264 : F258 5 = .int .i64 (max (max (farTo (a).p0 (b).p0 (farS a b 0) i) ((((((a).p0).getD (i) 0 : Nat) : Int)) - (((((b).p0).getD (i) 0 : Nat) : Int)))) (-((((((a).p0).getD (i) 0 : Nat) : Int)) - (((((b).p0).getD (i) 0 : Nat) : Int))))) := (hF259 5).trans s257
            have s265 : F258 7 = .int .i64 (((i + 1 : Nat) : Int)) := (hF259 7).trans rfl
            clear hF259
            exact then_normal ⟨((a).p0.length - (i + 1)), by omega, i + 1, by omega, rfl, s260, s261, s262, s263, s264, s265, K242, B234, B235, B236, B237, B238, B239, B240, B241⟩
          · replace c224 := of_decide_eq_false c224
            refine wq_exit ?_
            refine then_exit ?_
            refine then_exit ?_
            have l266 : (a).p0.length = i := by omega
            subst l266
            refine in_here ?_
            refine in_normal ?_
            refine then_normal ?_
            refine wq_region ?_
            refine wl_v (.int .i64 (0)) rfl rfl (y_mov rfl s219 ⟨rfl, rfl⟩) ?_
            refine wl_v (.int .i64 (((1 : Nat) : Int))) rfl rfl (y_add rfl rfl rfl (i64_n (by omega) (by omega)) ⟨rfl, rfl⟩) ?_
            refine wl_v (.int .i64 (((1 : Nat) : Int))) rfl rfl (y_asg rfl rfl ⟨rfl, rfl⟩) ?_
            refine wl_nil fun F267 hF268 => ?_
            have s269 : F267 2 = .pointer (some ⟨p1, 0, none⟩) := (hF268 2).trans s217
            have s270 : F267 3 = .pointer (some ⟨p20, 0, none⟩) := (hF268 3).trans s218
            have s271 : F267 67 = undef := (hF268 67).trans s220
            have s272 : F267 5 = .int .i64 (farTo (a).p0 (b).p0 (farS a b 0) (a).p0.length) := (hF268 5).trans s221
            have s273 : F267 6 = .int .i64 (((1 : Nat) : Int)) := (hF268 6).trans rfl
            clear hF268
            refine then_normal ?_
            refine wqr_step ?_
            refine wq_seq ?_
            refine wq_seq ?_
            refine wq_region ?_
            refine wl_v (.int .i64 (((1 : Nat) : Int))) rfl rfl (y_mov rfl s273 ⟨rfl, rfl⟩) ?_
            refine wl_v (.bool true) rfl rfl (y_lss rfl rfl rfl rfl ⟨rfl, rfl⟩) ?_
            refine wl_nil fun F274 hF275 => ?_
            have s276 : F274 2 = .pointer (some ⟨p1, 0, none⟩) := (hF275 2).trans s269
            have s277 : F274 3 = .pointer (some ⟨p20, 0, none⟩) := (hF275 3).trans s270
            have s278 : F274 67 = undef := (hF275 67).trans s271
            have s279 : F274 5 = .int .i64 (farTo (a).p0 (b).p0 (farS a b 0) (a).p0.length) := (hF275 5).trans s272
            have s280 : F274 6 = .int .i64 (((1 : Nat) : Int)) := (hF275 6).trans s273
            have s281 : F274 32 = .bool true := (hF275 32).trans rfl
            clear hF275
            refine then_normal ?_
            refine wq_cond (t := true) s281 (fun _ => ?_) (fun e => by cases e)
            refine wq_skip ?_
            refine then_normal ?_
            refine wq_seq ?_
            refine wq_block ?_
            refine wq_seq ?_
            refine wq_region ?_
            refine wl_v (.int .i64 (0)) rfl rfl (y_asg rfl rfl ⟨rfl, rfl⟩) ?_
            refine wl_nil fun F282 hF283 => ?_
            have s284 : F282 2 = .pointer (some ⟨p1, 0, none⟩) := (hF283 2).trans s276
            have s285 : F282 3 = .pointer (some ⟨p20, 0, none⟩) := (hF283 3).trans s277
            have s286 : F282 67 = undef := (hF283 67).trans s278
            have s287 : F282 5 = .int .i64 (farTo (a).p0 (b).p0 (farS a b 0) (a).p0.length) := (hF283 5).trans s279
            have s288 : F282 6 = .int .i64 (((1 : Nat) : Int)) := (hF283 6).trans s280
            have s289 : F282 7 = .int .i64 (0) := (hF283 7).trans rfl
            clear hF283
            refine then_normal ?_
            refine wq_block ?_
            refine wq_loop (fun nn FF ww => ∃ (i : Nat), (i ≤ (a).p1.length) ∧ nn = (a).p1.length - i ∧ FF 2 = .pointer (some ⟨p1, 0, none⟩) ∧ FF 3 = .pointer (some ⟨p20, 0, none⟩) ∧ FF 6 = .int .i64 (((1 : Nat) : Int)) ∧ FF 67 = undef ∧ FF 5 = .int .i64 (farTo (a).p1 (b).p1 (farS a b 1) i) ∧ FF 7 = .int .i64 (((i : Nat) : Int)) ∧ Kept (fun _ => False) w0 ww ∧ Byt ww (T_a0) a0 ((a).p0) ∧ Byt ww (T_a1) a1 ((a).p1) ∧ Byt ww (T_a2) a2 ((a).p2) ∧ Byt ww (T_b0) b0 ((b).p0) ∧ Byt ww (T_b1) b1 ((b).p1) ∧ Byt ww (T_b2) b2 ((b).p2) ∧ Stc ww p1 25 [.int .i64 ((a).W), .int .i64 ((a).H), a0, a1, a2] ∧ Stc ww p20 25 [.int .i64 ((b).W), .int .i64 ((b).H), b0, b1, b2]) ((a).p1.length - (0)) ⟨0, by omega, rfl, s284, s285, s288, s286, s287, s289, K198, B207, B208, B209, B210, B211, B212, B213, B214⟩ ?_
            rintro n293 F290 w291 ⟨i, i294, hn293, s295, s296, s297, s298, s299, s300, K292, B301, B302, B303, B304, B305, B306, B307, B308⟩
            refine wq_seq ?_
            refine wq_seq ?_
            refine wq_region ?_
            refine wl_v (.int .i64 (((i : Nat) : Int))) rfl rfl (y_mov rfl s300 ⟨rfl, rfl⟩) ?_
            refine wl_v (.int .i64 (((1 : Nat) : Int))) rfl rfl (y_mov rfl s297 ⟨rfl, rfl⟩) ?_
            refine wl_v (.pointer (some ⟨p1, 2, none⟩)) rfl rfl (y_fieldR (n := 3) rfl s295 Try.underlying25 rfl (by kernel_rfl) (by decide) rfl ⟨rfl, rfl⟩) ?_
            refine wl_v (.pointer (some ⟨p1, 3, none⟩)) rfl rfl (y_atR (1) (s := 1) rfl rfl rfl (by omega) Try.underlying23 (by omega) (by kernel_rfl) (by omega) ⟨rfl, rfl⟩) ?_
            refine wl_v (a1) rfl rfl (y_ld_stc rfl rfl Try.underlying22 B307 rfl rfl ⟨rfl, rfl⟩) ?_
            refine wl_v (.int .i64 (((((a).p1).length : Nat) : Int))) rfl rfl (y_lenV rfl rfl rfl B302 ⟨rfl, rfl⟩) ?_
            refine wl_v (.bool (decide ((((i : Nat) : Int)) < (((((a).p1).length : Nat) : Int))))) rfl rfl (y_lss rfl rfl rfl rfl ⟨rfl, rfl⟩) ?_
            refine wl_nil fun F309 hF310 => ?_
            have s311 : F309 2 = .pointer (some ⟨p1, 0, none⟩) := (hF310 2).trans s295
            have s312 : F309 3 = .pointer (some ⟨p20, 0, none⟩) := (hF310 3).trans s296
            have s313 : F309 6 = .int .i64 (((1 : Nat) : Int)) := (hF310 6).trans s297
            have s314 : F309 67 = undef := (hF310 67).trans s298
            have s315 : F309 5 = .int .i64 (farTo (a).p1 (b).p1 (farS a b 1) i) := (hF310 5).trans s299
            have s316 : F309 7 = .int .i64 (((i : Nat) : Int)) := (hF310 7).trans s300
            have s317 : F309 41 = .bool (decide ((((i : Nat) : Int)) < (((((a).p1).length : Nat) : Int)))) := (hF310 41).trans rfl
            clear hF310
            refine then_normal ?_
            refine wq_cond s317 (fun c318 => ?_) (fun c318 => ?_)
            · replace c318 := of_decide_eq_true c318
              refine wq_skip ?_
              refine then_normal ?_
              refine wq_seq ?_
              refine wq_block ?_
              refine wq_seq ?_
              have u319 := getD_lt (B302).lt256 (i)
              have u320 := getD_lt (B305).lt256 (i)
              refine wq_said [some 44, some 45, some 46, some 47, some 48, some 49, some 50, some 51, some 52, some 53, some 54, some 55, some 56, some 57, some 58, some 59, some 60, some 8] [Pd.eq (.int .i64 (((1 : Nat) : Int))), Pd.eq (.pointer (some ⟨p1, 2, none⟩)), Pd.eq (.pointer (some ⟨p1, 3, none⟩)), Pd.eq (a1), Pd.eq (.int .i64 (((i : Nat) : Int))), Pd.eq (bytAddr (a1) (i)), Pd.eq (.int .u8 (((((a).p1).getD (i) 0 : Nat) : Int))), Pd.eq (.int .i64 (((((a).p1).getD (i) 0 : Nat) : Int))), Pd.eq (.int .i64 (((1 : Nat) : Int))), Pd.eq (.pointer (some ⟨p20, 2, none⟩)), Pd.eq (.pointer (some ⟨p20, 3, none⟩)), Pd.eq (b1), Pd.eq (.int .i64 (((i : Nat) : Int))), Pd.eq (bytAddr (b1) (i)), Pd.eq (.int .u8 (((((b).p1).getD (i) 0 : Nat) : Int))), Pd.eq (.int .i64 (((((b).p1).getD (i) 0 : Nat) : Int))), Pd.eq (.int .i64 ((((((a).p1).getD (i) 0 : Nat) : Int)) - (((((b).p1).getD (i) 0 : Nat) : Int)))), Pd.eq (.int .i64 ((((((a).p1).getD (i) 0 : Nat) : Int)) - (((((b).p1).getD (i) 0 : Nat) : Int))))] (by kernel_rfl) (by kernel_rfl) ?_ ?_
              · refine stepsF_cons ?_ ?_
                · refine StepF.one rfl fun F_ w_ hR hout hD => ?_
                  exact (y_mov rfl ((hout 6 rfl (by decide)).trans s313) ⟨rfl, Kept.refl _ _⟩)
                refine stepsF_cons ?_ ?_
                · refine StepF.one rfl fun F_ w_ hR hout hD => ?_
                  exact (y_fieldR (n := 3) rfl ((hout 2 rfl (by decide)).trans s311) Try.underlying25 rfl (by kernel_rfl) (by decide) rfl ⟨rfl, Kept.refl _ _⟩)
                refine stepsF_cons ?_ ?_
                · refine StepF.one rfl fun F_ w_ hR hout hD => ?_
                  have g45 : F_ 45 = .pointer (some ⟨p1, 2, none⟩) := hD.get 0 rfl rfl rfl
                  have g44 : F_ 44 = .int .i64 (((1 : Nat) : Int)) := hD.get 1 rfl rfl rfl
                  exact (y_atR (1) (s := 1) rfl g45 g44 (by omega) Try.underlying23 (by omega) (by kernel_rfl) (by omega) ⟨rfl, Kept.refl _ _⟩)
                refine stepsF_cons ?_ ?_
                · refine StepF.one rfl fun F_ w_ hR hout hD => ?_
                  have g46 : F_ 46 = .pointer (some ⟨p1, 3, none⟩) := hD.get 0 rfl rfl rfl
                  exact (y_ld_stc rfl g46 Try.underlying22 (B307.all hR id) rfl rfl ⟨rfl, Kept.refl _ _⟩)
                refine stepsF_cons ?_ ?_
                · refine StepF.one rfl fun F_ w_ hR hout hD => ?_
                  exact (y_mov rfl ((hout 7 rfl (by decide)).trans s316) ⟨rfl, Kept.refl _ _⟩)
                refine stepsF_cons ?_ ?_
                · refine StepF.one rfl fun F_ w_ hR hout hD => ?_
                  have g47 : F_ 47 = a1 := hD.get 0 rfl rfl rfl
                  have g48 : F_ 48 = .int .i64 (((i : Nat) : Int)) := hD.get 1 rfl rfl rfl
                  exact (y_atB (i) rfl g47 g48 (by omega) (B302.all hR Apart.none) (by omega) ⟨rfl, Kept.refl _ _⟩)
                refine stepsF_cons ?_ ?_
                · refine StepF.one rfl fun F_ w_ hR hout hD => ?_
                  have g49 : F_ 49 = bytAddr (a1) (i) := hD.get 0 rfl rfl rfl
                  exact (y_ldB rfl g49 (B302.all hR Apart.none) (by omega) ⟨rfl, Kept.refl _ _⟩)
                refine stepsF_cons ?_ ?_
                · refine StepF.one rfl fun F_ w_ hR hout hD => ?_
                  have g50 : F_ 50 = .int .u8 (((((a).p1).getD (i) 0 : Nat) : Int)) := hD.get 0 rfl rfl rfl
                  exact (y_convR rfl g50 Try.underlying5 Try.underlying3 (i64_i rfl (by omega)) ⟨rfl, Kept.refl _ _⟩)
                refine stepsF_cons ?_ ?_
                · refine StepF.one rfl fun F_ w_ hR hout hD => ?_
                  exact (y_mov rfl ((hout 6 rfl (by decide)).trans s313) ⟨rfl, Kept.refl _ _⟩)
                refine stepsF_cons ?_ ?_
                · refine StepF.one rfl fun F_ w_ hR hout hD => ?_
                  exact (y_fieldR (n := 3) rfl ((hout 3 rfl (by decide)).trans s312) Try.underlying25 rfl (by kernel_rfl) (by decide) rfl ⟨rfl, Kept.refl _ _⟩)
                refine stepsF_cons ?_ ?_
                · refine StepF.one rfl fun F_ w_ hR hout hD => ?_
                  have g53 : F_ 53 = .pointer (some ⟨p20, 2, none⟩) := hD.get 0 rfl rfl rfl
                  have g52 : F_ 52 = .int .i64 (((1 : Nat) : Int)) := hD.get 1 rfl rfl rfl
                  exact (y_atR (1) (s := 1) rfl g53 g52 (by omega) Try.underlying23 (by omega) (by kernel_rfl) (by omega) ⟨rfl, Kept.refl _ _⟩)
                refine stepsF_cons ?_ ?_
                · refine StepF.one rfl fun F_ w_ hR hout hD => ?_
                  have g54 : F_ 54 = .pointer (some ⟨p20, 3, none⟩) := hD.get 0 rfl rfl rfl
                  exact (y_ld_stc rfl g54 Try.underlying22 (B308.all hR id) rfl rfl ⟨rfl, Kept.refl _ _⟩)
                refine stepsF_cons ?_ ?_
                · refine StepF.one rfl fun F_ w_ hR hout hD => ?_
                  exact (y_mov rfl ((hout 7 rfl (by decide)).trans s316) ⟨rfl, Kept.refl _ _⟩)
                refine stepsF_cons ?_ ?_
                · refine StepF.one rfl fun F_ w_ hR hout hD => ?_
                  have g55 : F_ 55 = b1 := hD.get 0 rfl rfl rfl
                  have g56 : F_ 56 = .int .i64 (((i : Nat) : Int)) := hD.get 1 rfl rfl rfl
                  exact (y_atB (i) rfl g55 g56 (by omega) (B305.all hR Apart.none) (by omega) ⟨rfl, Kept.refl _ _⟩)
                refine stepsF_cons ?_ ?_
                · refine StepF.one rfl fun F_ w_ hR hout hD => ?_
                  have g57 : F_ 57 = bytAddr (b1) (i) := hD.get 0 rfl rfl rfl
                  exact (y_ldB rfl g57 (B305.all hR Apart.none) (by omega) ⟨rfl, Kept.refl _ _⟩)
                refine stepsF_cons ?_ ?_
                · refine StepF.one rfl fun F_ w_ hR hout hD => ?_
                  have g58 : F_ 58 = .int .u8 (((((b).p1).getD (i) 0 : Nat) : Int)) := hD.get 0 rfl rfl rfl
                  exact (y_convR rfl g58 Try.underlying5 Try.underlying3 (i64_i rfl (by omega)) ⟨rfl, Kept.refl _ _⟩)
                refine stepsF_cons ?_ ?_
                · refine StepF.one rfl fun F_ w_ hR hout hD => ?_
                  have g51 : F_ 51 = .int .i64 (((((a).p1).getD (i) 0 : Nat) : Int)) := hD.get 0 rfl rfl rfl
                  have g59 : F_ 59 = .int .i64 (((((b).p1).getD (i) 0 : Nat) : Int)) := hD.get 1 rfl rfl rfl
                  exact (y_sub rfl g51 g59 (i64_i rfl (by omega)) ⟨rfl, Kept.refl _ _⟩)
                refine stepsF_cons ?_ ?_
                · refine StepF.one rfl fun F_ w_ hR hout hD => ?_
                  have g60 : F_ 60 = .int .i64 ((((((a).p1).getD (i) 0 : Nat) : Int)) - (((((b).p1).getD (i) 0 : Nat) : Int))) := hD.get 0 rfl rfl rfl
                  exact (y_asg rfl g60 ⟨rfl, Kept.refl _ _⟩)
                exact stepsF_nil
              intro v321 F322 w323 k324 G325 hF326
              have B328 := B301.all k324 Apart.none
              have B329 := B302.all k324 Apart.none
              have B330 := B303.all k324 Apart.none
              have B331 := B304.all k324 Apart.none
              have B332 := B305.all k324 Apart.none
              have B333 := B306.all k324 Apart.none
              have B334 := B307.all k324 id
              have B335 := B308.all k324 id
              have K336 := K292.trans k324 (fun _ _ x => x.elim)
              have s337 : F322 2 = .pointer (some ⟨p1, 0, none⟩) := (hF326 2).trans s311
              have s338 : F322 3 = .pointer (some ⟨p20, 0, none⟩) := (hF326 3).trans s312
              have s339 : F322 6 = .int .i64 (((1 : Nat) : Int)) := (hF326 6).trans s313
              have s340 : F322 67 = undef := (hF326 67).trans s314
              have s341 : F322 5 = .int .i64 (farTo (a).p1 (b).p1 (farS a b 1) i) := (hF326 5).trans s315
              have s342 : F322 7 = .int .i64 (((i : Nat) : Int)) := (hF326 7).trans s316
              have s343 : F322 8 = .int .i64 ((((((a).p1).getD (i) 0 : Nat) : Int)) - (((((b).p1).getD (i) 0 : Nat) : Int))) := (hF326 8).trans (G325 17 (by decide))
              clear G325 hF326
              refine then_normal ?_
              refine wq_region ?_
              refine wl_v (.int .i64 (farTo (a).p1 (b).p1 (farS a b 1) i)) rfl rfl (y_mov rfl s341 ⟨rfl, rfl⟩) ?_
              refine wl_v (.int .i64 ((((((a).p1).getD (i) 0 : Nat) : Int)) - (((((b).p1).getD (i) 0 : Nat) : Int)))) rfl rfl (y_mov rfl s343 ⟨rfl, rfl⟩) ?_
              refine wl_v (.int .i64 ((((((a).p1).getD (i) 0 : Nat) : Int)) - (((((b).p1).getD (i) 0 : Nat) : Int)))) rfl rfl (y_mov rfl s343 ⟨rfl, rfl⟩) ?_
              refine wl_v (.int .i64 (-((((((a).p1).getD (i) 0 : Nat) : Int)) - (((((b).p1).getD (i) 0 : Nat) : Int))))) rfl rfl (y_neg rfl rfl (i64_i rfl (by omega)) ⟨rfl, rfl⟩) ?_
              refine wl_v (.int .i64 (max (max (farTo (a).p1 (b).p1 (farS a b 1) i) ((((((a).p1).getD (i) 0 : Nat) : Int)) - (((((b).p1).getD (i) 0 : Nat) : Int)))) (-((((((a).p1).getD (i) 0 : Nat) : Int)) - (((((b).p1).getD (i) 0 : Nat) : Int)))))) rfl rfl (y_max3 rfl rfl rfl rfl rfl ⟨rfl, rfl⟩) ?_
              refine wl_v (.int .i64 (max (max (farTo (a).p1 (b).p1 (farS a b 1) i) ((((((a).p1).getD (i) 0 : Nat) : Int)) - (((((b).p1).getD (i) 0 : Nat) : Int)))) (-((((((a).p1).getD (i) 0 : Nat) : Int)) - (((((b).p1).getD (i) 0 : Nat) : Int)))))) rfl rfl (y_asg rfl rfl ⟨rfl, rfl⟩) ?_
              refine wl_nil fun F344 hF345 => ?_
              have s346 : F344 2 = .pointer (some ⟨p1, 0, none⟩) := (hF345 2).trans s337
              have s347 : F344 3 = .pointer (some ⟨p20, 0, none⟩) := (hF345 3).trans s338
              have s348 : F344 6 = .int .i64 (((1 : Nat) : Int)) := (hF345 6).trans s339
              have s349 : F344 67 = undef := (hF345 67).trans s340
              have s350 : F344 7 = .int .i64 (((i : Nat) : Int)) := (hF345 7).trans s342
              have s351 : F344 5 = .int .i64 (max (max (farTo (a).p1 (b).p1 (farS a b 1) i) ((((((a).p1).getD (i) 0 : Nat) : Int)) - (((((b).p1).getD (i) 0 : Nat) : Int)))) (-((((((a).p1).getD (i) 0 : Nat) : Int)) - (((((b).p1).getD (i) 0 : Nat) : Int))))) := (hF345 5).trans rfl
              clear hF345
              refine in_normal ?_
              refine then_normal ?_
              refine wq_region ?_
              refine wl_v (.int .i64 (((i : Nat) : Int))) rfl rfl (y_mov rfl s350 ⟨rfl, rfl⟩) ?_
              refine wl_v (.int .i64 (((i + 1 : Nat) : Int))) rfl rfl (y_add rfl rfl rfl (i64_n (by omega) (by omega)) ⟨rfl, rfl⟩) ?_
              refine wl_v (.int .i64 (((i + 1 : Nat) : Int))) rfl rfl (y_asg rfl rfl ⟨rfl, rfl⟩) ?_
              refine wl_nil fun F352 hF353 => ?_
              have s354 : F352 2 = .pointer (some ⟨p1, 0, none⟩) := (hF353 2).trans s346
              have s355 : F352 3 = .pointer (some ⟨p20, 0, none⟩) := (hF353 3).trans s347
              have s356 : F352 6 = .int .i64 (((1 : Nat) : Int)) := (hF353 6).trans s348
              have s357 : F352 67 = undef := (hF353 67).trans s349
              have s358 : F352 5 = .int .i64 (max (max (farTo (a).p1 (b).p1 (farS a b 1) i) ((((((a).p1).getD (i) 0 : Nat) : Int)) - (((((b).p1).getD (i) 0 : Nat) : Int)))) (-((((((a).p1).getD (i) 0 : Nat) : Int)) - (((((b).p1).getD (i) 0 : Nat) : Int))))) := (hF353 5).trans s351
              have s359 : F352 7 = .int .i64 (((i + 1 : Nat) : Int)) := (hF353 7).trans rfl
              clear hF353
              exact then_normal ⟨((a).p1.length - (i + 1)), by omega, i + 1, by omega, rfl, s354, s355, s356, s357, s358, s359, K336, B328, B329, B330, B331, B332, B333, B334, B335⟩
            · replace c318 := of_decide_eq_false c318
              refine wq_exit ?_
              refine then_exit ?_
              refine then_exit ?_
              have l360 : (a).p1.length = i := by omega
              subst l360
              refine in_here ?_
              refine in_normal ?_
              refine then_normal ?_
              refine wq_region ?_
              refine wl_v (.int .i64 (((1 : Nat) : Int))) rfl rfl (y_mov rfl s313 ⟨rfl, rfl⟩) ?_
              refine wl_v (.int .i64 (((2 : Nat) : Int))) rfl rfl (y_add rfl rfl rfl (i64_n (by omega) (by omega)) ⟨rfl, rfl⟩) ?_
              refine wl_v (.int .i64 (((2 : Nat) : Int))) rfl rfl (y_asg rfl rfl ⟨rfl, rfl⟩) ?_
              refine wl_nil fun F361 hF362 => ?_
              have s363 : F361 2 = .pointer (some ⟨p1, 0, none⟩) := (hF362 2).trans s311
              have s364 : F361 3 = .pointer (some ⟨p20, 0, none⟩) := (hF362 3).trans s312
              have s365 : F361 67 = undef := (hF362 67).trans s314
              have s366 : F361 5 = .int .i64 (farTo (a).p1 (b).p1 (farS a b 1) (a).p1.length) := (hF362 5).trans s315
              have s367 : F361 6 = .int .i64 (((2 : Nat) : Int)) := (hF362 6).trans rfl
              clear hF362
              refine then_normal ?_
              refine wqr_step ?_
              refine wq_seq ?_
              refine wq_seq ?_
              refine wq_region ?_
              refine wl_v (.int .i64 (((2 : Nat) : Int))) rfl rfl (y_mov rfl s367 ⟨rfl, rfl⟩) ?_
              refine wl_v (.bool true) rfl rfl (y_lss rfl rfl rfl rfl ⟨rfl, rfl⟩) ?_
              refine wl_nil fun F368 hF369 => ?_
              have s370 : F368 2 = .pointer (some ⟨p1, 0, none⟩) := (hF369 2).trans s363
              have s371 : F368 3 = .pointer (some ⟨p20, 0, none⟩) := (hF369 3).trans s364
              have s372 : F368 67 = undef := (hF369 67).trans s365
              have s373 : F368 5 = .int .i64 (farTo (a).p1 (b).p1 (farS a b 1) (a).p1.length) := (hF369 5).trans s366
              have s374 : F368 6 = .int .i64 (((2 : Nat) : Int)) := (hF369 6).trans s367
              have s375 : F368 32 = .bool true := (hF369 32).trans rfl
              clear hF369
              refine then_normal ?_
              refine wq_cond (t := true) s375 (fun _ => ?_) (fun e => by cases e)
              refine wq_skip ?_
              refine then_normal ?_
              refine wq_seq ?_
              refine wq_block ?_
              refine wq_seq ?_
              refine wq_region ?_
              refine wl_v (.int .i64 (0)) rfl rfl (y_asg rfl rfl ⟨rfl, rfl⟩) ?_
              refine wl_nil fun F376 hF377 => ?_
              have s378 : F376 2 = .pointer (some ⟨p1, 0, none⟩) := (hF377 2).trans s370
              have s379 : F376 3 = .pointer (some ⟨p20, 0, none⟩) := (hF377 3).trans s371
              have s380 : F376 67 = undef := (hF377 67).trans s372
              have s381 : F376 5 = .int .i64 (farTo (a).p1 (b).p1 (farS a b 1) (a).p1.length) := (hF377 5).trans s373
              have s382 : F376 6 = .int .i64 (((2 : Nat) : Int)) := (hF377 6).trans s374
              have s383 : F376 7 = .int .i64 (0) := (hF377 7).trans rfl
              clear hF377
              refine then_normal ?_
              refine wq_block ?_
              refine wq_loop (fun nn FF ww => ∃ (i : Nat), (i ≤ (a).p2.length) ∧ nn = (a).p2.length - i ∧ FF 2 = .pointer (some ⟨p1, 0, none⟩) ∧ FF 3 = .pointer (some ⟨p20, 0, none⟩) ∧ FF 6 = .int .i64 (((2 : Nat) : Int)) ∧ FF 67 = undef ∧ FF 5 = .int .i64 (farTo (a).p2 (b).p2 (farS a b 2) i) ∧ FF 7 = .int .i64 (((i : Nat) : Int)) ∧ Kept (fun _ => False) w0 ww ∧ Byt ww (T_a0) a0 ((a).p0) ∧ Byt ww (T_a1) a1 ((a).p1) ∧ Byt ww (T_a2) a2 ((a).p2) ∧ Byt ww (T_b0) b0 ((b).p0) ∧ Byt ww (T_b1) b1 ((b).p1) ∧ Byt ww (T_b2) b2 ((b).p2) ∧ Stc ww p1 25 [.int .i64 ((a).W), .int .i64 ((a).H), a0, a1, a2] ∧ Stc ww p20 25 [.int .i64 ((b).W), .int .i64 ((b).H), b0, b1, b2]) ((a).p2.length - (0)) ⟨0, by omega, rfl, s378, s379, s382, s380, s381, s383, K292, B301, B302, B303, B304, B305, B306, B307, B308⟩ ?_
              rintro n387 F384 w385 ⟨i, i388, hn387, s389, s390, s391, s392, s393, s394, K386, B395, B396, B397, B398, B399, B400, B401, B402⟩
              refine wq_seq ?_
              refine wq_seq ?_
              refine wq_region ?_
              refine wl_v (.int .i64 (((i : Nat) : Int))) rfl rfl (y_mov rfl s394 ⟨rfl, rfl⟩) ?_
              refine wl_v (.int .i64 (((2 : Nat) : Int))) rfl rfl (y_mov rfl s391 ⟨rfl, rfl⟩) ?_
              refine wl_v (.pointer (some ⟨p1, 2, none⟩)) rfl rfl (y_fieldR (n := 3) rfl s389 Try.underlying25 rfl (by kernel_rfl) (by decide) rfl ⟨rfl, rfl⟩) ?_
              refine wl_v (.pointer (some ⟨p1, 4, none⟩)) rfl rfl (y_atR (2) (s := 1) rfl rfl rfl (by omega) Try.underlying23 (by omega) (by kernel_rfl) (by omega) ⟨rfl, rfl⟩) ?_
              refine wl_v (a2) rfl rfl (y_ld_stc rfl rfl Try.underlying22 B401 rfl rfl ⟨rfl, rfl⟩) ?_
              refine wl_v (.int .i64 (((((a).p2).length : Nat) : Int))) rfl rfl (y_lenV rfl rfl rfl B397 ⟨rfl, rfl⟩) ?_
              refine wl_v (.bool (decide ((((i : Nat) : Int)) < (((((a).p2).length : Nat) : Int))))) rfl rfl (y_lss rfl rfl rfl rfl ⟨rfl, rfl⟩) ?_
              refine wl_nil fun F403 hF404 => ?_
              have s405 : F403 2 = .pointer (some ⟨p1, 0, none⟩) := (hF404 2).trans s389
              have s406 : F403 3 = .pointer (some ⟨p20, 0, none⟩) := (hF404 3).trans s390
              have s407 : F403 6 = .int .i64 (((2 : Nat) : Int)) := (hF404 6).trans s391
              have s408 : F403 67 = undef := (hF404 67).trans s392
              have s409 : F403 5 = .int .i64 (farTo (a).p2 (b).p2 (farS a b 2) i) := (hF404 5).trans s393
              have s410 : F403 7 = .int .i64 (((i : Nat) : Int)) := (hF404 7).trans s394
              have s411 : F403 41 = .bool (decide ((((i : Nat) : Int)) < (((((a).p2).length : Nat) : Int)))) := (hF404 41).trans rfl
              clear hF404
              refine then_normal ?_
              refine wq_cond s411 (fun c412 => ?_) (fun c412 => ?_)
              · replace c412 := of_decide_eq_true c412
                refine wq_skip ?_
                refine then_normal ?_
                refine wq_seq ?_
                refine wq_block ?_
                refine wq_seq ?_
                have u413 := getD_lt (B397).lt256 (i)
                have u414 := getD_lt (B400).lt256 (i)
                refine wq_said [some 44, some 45, some 46, some 47, some 48, some 49, some 50, some 51, some 52, some 53, some 54, some 55, some 56, some 57, some 58, some 59, some 60, some 8] [Pd.eq (.int .i64 (((2 : Nat) : Int))), Pd.eq (.pointer (some ⟨p1, 2, none⟩)), Pd.eq (.pointer (some ⟨p1, 4, none⟩)), Pd.eq (a2), Pd.eq (.int .i64 (((i : Nat) : Int))), Pd.eq (bytAddr (a2) (i)), Pd.eq (.int .u8 (((((a).p2).getD (i) 0 : Nat) : Int))), Pd.eq (.int .i64 (((((a).p2).getD (i) 0 : Nat) : Int))), Pd.eq (.int .i64 (((2 : Nat) : Int))), Pd.eq (.pointer (some ⟨p20, 2, none⟩)), Pd.eq (.pointer (some ⟨p20, 4, none⟩)), Pd.eq (b2), Pd.eq (.int .i64 (((i : Nat) : Int))), Pd.eq (bytAddr (b2) (i)), Pd.eq (.int .u8 (((((b).p2).getD (i) 0 : Nat) : Int))), Pd.eq (.int .i64 (((((b).p2).getD (i) 0 : Nat) : Int))), Pd.eq (.int .i64 ((((((a).p2).getD (i) 0 : Nat) : Int)) - (((((b).p2).getD (i) 0 : Nat) : Int)))), Pd.eq (.int .i64 ((((((a).p2).getD (i) 0 : Nat) : Int)) - (((((b).p2).getD (i) 0 : Nat) : Int))))] (by kernel_rfl) (by kernel_rfl) ?_ ?_
                · refine stepsF_cons ?_ ?_
                  · refine StepF.one rfl fun F_ w_ hR hout hD => ?_
                    exact (y_mov rfl ((hout 6 rfl (by decide)).trans s407) ⟨rfl, Kept.refl _ _⟩)
                  refine stepsF_cons ?_ ?_
                  · refine StepF.one rfl fun F_ w_ hR hout hD => ?_
                    exact (y_fieldR (n := 3) rfl ((hout 2 rfl (by decide)).trans s405) Try.underlying25 rfl (by kernel_rfl) (by decide) rfl ⟨rfl, Kept.refl _ _⟩)
                  refine stepsF_cons ?_ ?_
                  · refine StepF.one rfl fun F_ w_ hR hout hD => ?_
                    have g45 : F_ 45 = .pointer (some ⟨p1, 2, none⟩) := hD.get 0 rfl rfl rfl
                    have g44 : F_ 44 = .int .i64 (((2 : Nat) : Int)) := hD.get 1 rfl rfl rfl
                    exact (y_atR (2) (s := 1) rfl g45 g44 (by omega) Try.underlying23 (by omega) (by kernel_rfl) (by omega) ⟨rfl, Kept.refl _ _⟩)
                  refine stepsF_cons ?_ ?_
                  · refine StepF.one rfl fun F_ w_ hR hout hD => ?_
                    have g46 : F_ 46 = .pointer (some ⟨p1, 4, none⟩) := hD.get 0 rfl rfl rfl
                    exact (y_ld_stc rfl g46 Try.underlying22 (B401.all hR id) rfl rfl ⟨rfl, Kept.refl _ _⟩)
                  refine stepsF_cons ?_ ?_
                  · refine StepF.one rfl fun F_ w_ hR hout hD => ?_
                    exact (y_mov rfl ((hout 7 rfl (by decide)).trans s410) ⟨rfl, Kept.refl _ _⟩)
                  refine stepsF_cons ?_ ?_
                  · refine StepF.one rfl fun F_ w_ hR hout hD => ?_
                    have g47 : F_ 47 = a2 := hD.get 0 rfl rfl rfl
                    have g48 : F_ 48 = .int .i64 (((i : Nat) : Int)) := hD.get 1 rfl rfl rfl
                    exact (y_atB (i) rfl g47 g48 (by omega) (B397.all hR Apart.none) (by omega) ⟨rfl, Kept.refl _ _⟩)
                  refine stepsF_cons ?_ ?_
                  · refine StepF.one rfl fun F_ w_ hR hout hD => ?_
                    have g49 : F_ 49 = bytAddr (a2) (i) := hD.get 0 rfl rfl rfl
                    exact (y_ldB rfl g49 (B397.all hR Apart.none) (by omega) ⟨rfl, Kept.refl _ _⟩)
                  refine stepsF_cons ?_ ?_
                  · refine StepF.one rfl fun F_ w_ hR hout hD => ?_
                    have g50 : F_ 50 = .int .u8 (((((a).p2).getD (i) 0 : Nat) : Int)) := hD.get 0 rfl rfl rfl
                    exact (y_convR rfl g50 Try.underlying5 Try.underlying3 (i64_i rfl (by omega)) ⟨rfl, Kept.refl _ _⟩)
                  refine stepsF_cons ?_ ?_
                  · refine StepF.one rfl fun F_ w_ hR hout hD => ?_
                    exact (y_mov rfl ((hout 6 rfl (by decide)).trans s407) ⟨rfl, Kept.refl _ _⟩)
                  refine stepsF_cons ?_ ?_
                  · refine StepF.one rfl fun F_ w_ hR hout hD => ?_
                    exact (y_fieldR (n := 3) rfl ((hout 3 rfl (by decide)).trans s406) Try.underlying25 rfl (by kernel_rfl) (by decide) rfl ⟨rfl, Kept.refl _ _⟩)
                  refine stepsF_cons ?_ ?_
                  · refine StepF.one rfl fun F_ w_ hR hout hD => ?_
                    have g53 : F_ 53 = .pointer (some ⟨p20, 2, none⟩) := hD.get 0 rfl rfl rfl
                    have g52 : F_ 52 = .int .i64 (((2 : Nat) : Int)) := hD.get 1 rfl rfl rfl
                    exact (y_atR (2) (s := 1) rfl g53 g52 (by omega) Try.underlying23 (by omega) (by kernel_rfl) (by omega) ⟨rfl, Kept.refl _ _⟩)
                  refine stepsF_cons ?_ ?_
                  · refine StepF.one rfl fun F_ w_ hR hout hD => ?_
                    have g54 : F_ 54 = .pointer (some ⟨p20, 4, none⟩) := hD.get 0 rfl rfl rfl
                    exact (y_ld_stc rfl g54 Try.underlying22 (B402.all hR id) rfl rfl ⟨rfl, Kept.refl _ _⟩)
                  refine stepsF_cons ?_ ?_
                  · refine StepF.one rfl fun F_ w_ hR hout hD => ?_
                    exact (y_mov rfl ((hout 7 rfl (by decide)).trans s410) ⟨rfl, Kept.refl _ _⟩)
                  refine stepsF_cons ?_ ?_
                  · refine StepF.one rfl fun F_ w_ hR hout hD => ?_
                    have g55 : F_ 55 = b2 := hD.get 0 rfl rfl rfl
                    have g56 : F_ 56 = .int .i64 (((i : Nat) : Int)) := hD.get 1 rfl rfl rfl
                    exact (y_atB (i) rfl g55 g56 (by omega) (B400.all hR Apart.none) (by omega) ⟨rfl, Kept.refl _ _⟩)
                  refine stepsF_cons ?_ ?_
                  · refine StepF.one rfl fun F_ w_ hR hout hD => ?_
                    have g57 : F_ 57 = bytAddr (b2) (i) := hD.get 0 rfl rfl rfl
                    exact (y_ldB rfl g57 (B400.all hR Apart.none) (by omega) ⟨rfl, Kept.refl _ _⟩)
                  refine stepsF_cons ?_ ?_
                  · refine StepF.one rfl fun F_ w_ hR hout hD => ?_
                    have g58 : F_ 58 = .int .u8 (((((b).p2).getD (i) 0 : Nat) : Int)) := hD.get 0 rfl rfl rfl
                    exact (y_convR rfl g58 Try.underlying5 Try.underlying3 (i64_i rfl (by omega)) ⟨rfl, Kept.refl _ _⟩)
                  refine stepsF_cons ?_ ?_
                  · refine StepF.one rfl fun F_ w_ hR hout hD => ?_
                    have g51 : F_ 51 = .int .i64 (((((a).p2).getD (i) 0 : Nat) : Int)) := hD.get 0 rfl rfl rfl
                    have g59 : F_ 59 = .int .i64 (((((b).p2).getD (i) 0 : Nat) : Int)) := hD.get 1 rfl rfl rfl
                    exact (y_sub rfl g51 g59 (i64_i rfl (by omega)) ⟨rfl, Kept.refl _ _⟩)
                  refine stepsF_cons ?_ ?_
                  · refine StepF.one rfl fun F_ w_ hR hout hD => ?_
                    have g60 : F_ 60 = .int .i64 ((((((a).p2).getD (i) 0 : Nat) : Int)) - (((((b).p2).getD (i) 0 : Nat) : Int))) := hD.get 0 rfl rfl rfl
                    exact (y_asg rfl g60 ⟨rfl, Kept.refl _ _⟩)
                  exact stepsF_nil
                intro v415 F416 w417 k418 G419 hF420
                have B422 := B395.all k418 Apart.none
                have B423 := B396.all k418 Apart.none
                have B424 := B397.all k418 Apart.none
                have B425 := B398.all k418 Apart.none
                have B426 := B399.all k418 Apart.none
                have B427 := B400.all k418 Apart.none
                have B428 := B401.all k418 id
                have B429 := B402.all k418 id
                have K430 := K386.trans k418 (fun _ _ x => x.elim)
                have s431 : F416 2 = .pointer (some ⟨p1, 0, none⟩) := (hF420 2).trans s405
                have s432 : F416 3 = .pointer (some ⟨p20, 0, none⟩) := (hF420 3).trans s406
                have s433 : F416 6 = .int .i64 (((2 : Nat) : Int)) := (hF420 6).trans s407
                have s434 : F416 67 = undef := (hF420 67).trans s408
                have s435 : F416 5 = .int .i64 (farTo (a).p2 (b).p2 (farS a b 2) i) := (hF420 5).trans s409
                have s436 : F416 7 = .int .i64 (((i : Nat) : Int)) := (hF420 7).trans s410
                have s437 : F416 8 = .int .i64 ((((((a).p2).getD (i) 0 : Nat) : Int)) - (((((b).p2).getD (i) 0 : Nat) : Int))) := (hF420 8).trans (G419 17 (by decide))
                clear G419 hF420
                refine then_normal ?_
                refine wq_region ?_
                refine wl_v (.int .i64 (farTo (a).p2 (b).p2 (farS a b 2) i)) rfl rfl (y_mov rfl s435 ⟨rfl, rfl⟩) ?_
                refine wl_v (.int .i64 ((((((a).p2).getD (i) 0 : Nat) : Int)) - (((((b).p2).getD (i) 0 : Nat) : Int)))) rfl rfl (y_mov rfl s437 ⟨rfl, rfl⟩) ?_
                refine wl_v (.int .i64 ((((((a).p2).getD (i) 0 : Nat) : Int)) - (((((b).p2).getD (i) 0 : Nat) : Int)))) rfl rfl (y_mov rfl s437 ⟨rfl, rfl⟩) ?_
                refine wl_v (.int .i64 (-((((((a).p2).getD (i) 0 : Nat) : Int)) - (((((b).p2).getD (i) 0 : Nat) : Int))))) rfl rfl (y_neg rfl rfl (i64_i rfl (by omega)) ⟨rfl, rfl⟩) ?_
                refine wl_v (.int .i64 (max (max (farTo (a).p2 (b).p2 (farS a b 2) i) ((((((a).p2).getD (i) 0 : Nat) : Int)) - (((((b).p2).getD (i) 0 : Nat) : Int)))) (-((((((a).p2).getD (i) 0 : Nat) : Int)) - (((((b).p2).getD (i) 0 : Nat) : Int)))))) rfl rfl (y_max3 rfl rfl rfl rfl rfl ⟨rfl, rfl⟩) ?_
                refine wl_v (.int .i64 (max (max (farTo (a).p2 (b).p2 (farS a b 2) i) ((((((a).p2).getD (i) 0 : Nat) : Int)) - (((((b).p2).getD (i) 0 : Nat) : Int)))) (-((((((a).p2).getD (i) 0 : Nat) : Int)) - (((((b).p2).getD (i) 0 : Nat) : Int)))))) rfl rfl (y_asg rfl rfl ⟨rfl, rfl⟩) ?_
                refine wl_nil fun F438 hF439 => ?_
                have s440 : F438 2 = .pointer (some ⟨p1, 0, none⟩) := (hF439 2).trans s431
                have s441 : F438 3 = .pointer (some ⟨p20, 0, none⟩) := (hF439 3).trans s432
                have s442 : F438 6 = .int .i64 (((2 : Nat) : Int)) := (hF439 6).trans s433
                have s443 : F438 67 = undef := (hF439 67).trans s434
                have s444 : F438 7 = .int .i64 (((i : Nat) : Int)) := (hF439 7).trans s436
                have s445 : F438 5 = .int .i64 (max (max (farTo (a).p2 (b).p2 (farS a b 2) i) ((((((a).p2).getD (i) 0 : Nat) : Int)) - (((((b).p2).getD (i) 0 : Nat) : Int)))) (-((((((a).p2).getD (i) 0 : Nat) : Int)) - (((((b).p2).getD (i) 0 : Nat) : Int))))) := (hF439 5).trans rfl
                clear hF439
                refine in_normal ?_
                refine then_normal ?_
                refine wq_region ?_
                refine wl_v (.int .i64 (((i : Nat) : Int))) rfl rfl (y_mov rfl s444 ⟨rfl, rfl⟩) ?_
                refine wl_v (.int .i64 (((i + 1 : Nat) : Int))) rfl rfl (y_add rfl rfl rfl (i64_n (by omega) (by omega)) ⟨rfl, rfl⟩) ?_
                refine wl_v (.int .i64 (((i + 1 : Nat) : Int))) rfl rfl (y_asg rfl rfl ⟨rfl, rfl⟩) ?_
                refine wl_nil fun F446 hF447 => ?_
                have s448 : F446 2 = .pointer (some ⟨p1, 0, none⟩) := (hF447 2).trans s440
                have s449 : F446 3 = .pointer (some ⟨p20, 0, none⟩) := (hF447 3).trans s441
                have s450 : F446 6 = .int .i64 (((2 : Nat) : Int)) := (hF447 6).trans s442
                have s451 : F446 67 = undef := (hF447 67).trans s443
                have s452 : F446 5 = .int .i64 (max (max (farTo (a).p2 (b).p2 (farS a b 2) i) ((((((a).p2).getD (i) 0 : Nat) : Int)) - (((((b).p2).getD (i) 0 : Nat) : Int)))) (-((((((a).p2).getD (i) 0 : Nat) : Int)) - (((((b).p2).getD (i) 0 : Nat) : Int))))) := (hF447 5).trans s445
                have s453 : F446 7 = .int .i64 (((i + 1 : Nat) : Int)) := (hF447 7).trans rfl
                clear hF447
                exact then_normal ⟨((a).p2.length - (i + 1)), by omega, i + 1, by omega, rfl, s448, s449, s450, s451, s452, s453, K430, B422, B423, B424, B425, B426, B427, B428, B429⟩
              · replace c412 := of_decide_eq_false c412
                refine wq_exit ?_
                refine then_exit ?_
                refine then_exit ?_
                have l454 : (a).p2.length = i := by omega
                subst l454
                refine in_here ?_
                refine in_normal ?_
                refine then_normal ?_
                refine wq_region ?_
                refine wl_v (.int .i64 (((2 : Nat) : Int))) rfl rfl (y_mov rfl s407 ⟨rfl, rfl⟩) ?_
                refine wl_v (.int .i64 (((3 : Nat) : Int))) rfl rfl (y_add rfl rfl rfl (i64_n (by omega) (by omega)) ⟨rfl, rfl⟩) ?_
                refine wl_v (.int .i64 (((3 : Nat) : Int))) rfl rfl (y_asg rfl rfl ⟨rfl, rfl⟩) ?_
                refine wl_nil fun F455 hF456 => ?_
                have s457 : F455 2 = .pointer (some ⟨p1, 0, none⟩) := (hF456 2).trans s405
                have s458 : F455 3 = .pointer (some ⟨p20, 0, none⟩) := (hF456 3).trans s406
                have s459 : F455 67 = undef := (hF456 67).trans s408
                have s460 : F455 5 = .int .i64 (farTo (a).p2 (b).p2 (farS a b 2) (a).p2.length) := (hF456 5).trans s409
                have s461 : F455 6 = .int .i64 (((3 : Nat) : Int)) := (hF456 6).trans rfl
                clear hF456
                refine then_normal ?_
                refine wqr_step ?_
                refine wq_seq ?_
                refine wq_seq ?_
                refine wq_region ?_
                refine wl_v (.int .i64 (((3 : Nat) : Int))) rfl rfl (y_mov rfl s461 ⟨rfl, rfl⟩) ?_
                refine wl_v (.bool false) rfl rfl (y_lss rfl rfl rfl rfl ⟨rfl, rfl⟩) ?_
                refine wl_nil fun F462 hF463 => ?_
                have s464 : F462 2 = .pointer (some ⟨p1, 0, none⟩) := (hF463 2).trans s457
                have s465 : F462 3 = .pointer (some ⟨p20, 0, none⟩) := (hF463 3).trans s458
                have s466 : F462 67 = undef := (hF463 67).trans s459
                have s467 : F462 5 = .int .i64 (farTo (a).p2 (b).p2 (farS a b 2) (a).p2.length) := (hF463 5).trans s460
                have s468 : F462 6 = .int .i64 (((3 : Nat) : Int)) := (hF463 6).trans s461
                have s469 : F462 32 = .bool false := (hF463 32).trans rfl
                clear hF463
                refine then_normal ?_
                refine wq_cond (t := false) s469 (fun e => by cases e) (fun _ => ?_)
                refine wq_exit ?_
                refine then_exit ?_
                refine then_exit ?_
                refine in_here ?_
                refine then_normal ?_
                refine wq_seq ?_
                refine wq_region ?_
                refine wl_v (.int .i64 (farTo (a).p2 (b).p2 (farS a b 2) (a).p2.length)) rfl rfl (y_mov rfl s467 ⟨rfl, rfl⟩) ?_
                refine wl_v (.int .i64 (farTo (a).p2 (b).p2 (farS a b 2) (a).p2.length)) rfl rfl (y_asg rfl rfl ⟨rfl, rfl⟩) ?_
                refine wl_nil fun F470 hF471 => ?_
                have s472 : F470 67 = undef := (hF471 67).trans s466
                have s473 : F470 4 = .int .i64 (farTo (a).p2 (b).p2 (farS a b 2) (a).p2.length) := (hF471 4).trans rfl
                clear hF471
                refine then_normal ?_
                refine wq_ret ?_
                exact end_tmp (v := .int .i64 (farTo (a).p2 (b).p2 (farS a b 2) (a).p2.length)) s472 rfl rfl s473 ⟨(by first | rw [farF_yes hal]; rfl | rw [farF_no (by rintro ⟨h1, h2, h3, h4⟩; first | exact absurd ((checkE_iff a).2 h1) (by assumption) | exact absurd ((checkE_iff b).2 h2) (by assumption) | exact absurd h3 (by assumption) | exact absurd h4 (by assumption))]), K386⟩

set_option maxHeartbeats 4000000 in
set_option maxRecDepth 100000 in
theorem fref_copy (f : FD) (f0 f1 f2 : Value) (T_f0 : Nat → Prop) (T_f1 : Nat → Prop) (T_f2 : Nat → Prop) (w0 : World) (h_f0 : Byt w0 T_f0 f0 ((f).p0)) (h_f1 : Byt w0 T_f1 f1 ((f).p1)) (h_f2 : Byt w0 T_f2 f2 ((f).p2)) :
    Calls Try.prog 32 #[.agg #[.int .i64 ((f).W), .int .i64 ((f).H), f0, f1, f2]] w0 fun e w' => ∃ (v1 : Value) (T1 : Nat → Prop) (v2 : Value) (T2 : Nat → Prop) (v3 : Value) (T3 : Nat → Prop), e = .returned (.agg #[.int .i64 ((copyF f).W), .int .i64 ((copyF f).H), v1, v2, v3]) ∧ Kept (fun _ => False) w0 w' ∧ (Owb w' T1 v1 ((copyF f).p0) ∧ Grew w0 noB T1) ∧ (Owb w' T2 v2 ((copyF f).p1) ∧ Grew w0 noB T2) ∧ (Owb w' T3 v3 ((copyF f).p2) ∧ Grew w0 noB T3) ∧ Apart T1 T2 ∧ Apart T1 T3 ∧ Apart T2 T3 := by
  refine calls_wq (args := [.agg #[.int .i64 ((f).W), .int .i64 ((f).H), f0, f1, f2]]) 28 Try.func32 rfl rfl (Nat.le_of_ble_eq_true rfl) ?_
  have K0 := Kept.refl (fun _ => False) w0
  have g_f0 := Grew.refl w0 T_f0
  have g_f1 := Grew.refl w0 T_f1
  have g_f2 := Grew.refl w0 T_f2
  refine wq_seq ?_
  refine wq_region ?_
  refine wl_box_stc (vs := [.int .i64 ((f).W), .int .i64 ((f).H), f0, f1, f2]) rfl rfl rfl rfl fun p1 w2 B4 g5 k3 => ?_
  have gr6 : Grew w0 noB (onB p1) := Grew.new K0 g5
  have ap7 : Apart (onB p1) (T_f0) := Apart.new g5 (h_f0).live
  have ap8 : Apart (onB p1) (T_f1) := Apart.new g5 (h_f1).live
  have ap9 : Apart (onB p1) (T_f2) := Apart.new g5 (h_f2).live
  have B10 := h_f0.all k3 Apart.none
  have B11 := h_f1.all k3 Apart.none
  have B12 := h_f2.all k3 Apart.none
  have K13 := K0.trans k3 (fun _ _ x => x.elim)
  refine wl_alloc_stc (n := 5) (vs := [.int .i64 (0), .int .i64 (0), .slice none 0 0, .slice none 0 0, .slice none 0 0]) rfl rfl rfl (by kernel_rfl) fun p14 w15 B17 g18 k16 => ?_
  have gr19 : Grew w0 noB (onB p14) := Grew.new K13 g18
  have ap20 : Apart (onB p14) (T_f0) := Apart.new g18 (B10).live
  have ap21 : Apart (onB p14) (T_f1) := Apart.new g18 (B11).live
  have ap22 : Apart (onB p14) (T_f2) := Apart.new g18 (B12).live
  have ap23 : Apart (onB p14) (onB p1) := Apart.new g18 (onB_live (B4).lt)
  have B24 := B10.all k16 Apart.none
  have B25 := B11.all k16 Apart.none
  have B26 := B12.all k16 Apart.none
  have B27 := B4.all k16 id
  have K28 := K13.trans k16 (fun _ _ x => x.elim)
  refine wl_nil fun F29 hF30 => ?_
  have s31 : F29 28 = undef := (hF30 28).trans rfl
  have s32 : F29 1 = .pointer (some ⟨p1, 0, none⟩) := (hF30 1).trans rfl
  have s33 : F29 2 = .pointer (some ⟨p14, 0, none⟩) := (hF30 2).trans rfl
  clear hF30
  refine then_normal ?_
  refine wq_seq ?_
  refine wq_seq ?_
  refine wq_region ?_
  refine wl_v (.agg #[.int .i64 ((f).W), .int .i64 ((f).H), f0, f1, f2]) rfl rfl (y_load_stc stcT_frame rfl s32 B27 ⟨rfl, rfl⟩) ?_
  refine wl_call (R := fun v_ w_ => v_ = .int .i64 (checkE (f)) ∧ Kept (fun _ => False) w15 w_) rfl rfl (y_cs rfl rfl rfl (fun _ _ => by kernel_rfl) (ev_func _) (vsC rfl vsN) (fref_check (f) (f0) (f1) (f2) (T_f0) (T_f1) (T_f2) _  B24 B25 B26 ) (fun e_ w_ h_ => ⟨_, h_.1, rfl, h_.2⟩)) ?_
  rintro _ w34 ⟨rfl, k35⟩
  have B36 := B24.all k35 Apart.none
  have B37 := B25.all k35 Apart.none
  have B38 := B26.all k35 Apart.none
  have B39 := B27.all k35 id
  have B40 := B17.all k35 id
  have K41 := K28.trans k35 (fun _ _ x => x.elim)
  refine wl_v (.bool (decide ((checkE (f)) ≠ (0)))) rfl rfl (y_neqI rfl rfl rfl rfl ⟨rfl, rfl⟩) ?_
  refine wl_nil fun F42 hF43 => ?_
  have s44 : F42 28 = undef := (hF43 28).trans s31
  have s45 : F42 1 = .pointer (some ⟨p1, 0, none⟩) := (hF43 1).trans s32
  have s46 : F42 2 = .pointer (some ⟨p14, 0, none⟩) := (hF43 2).trans s33
  have s47 : F42 7 = .bool (decide ((checkE (f)) ≠ (0))) := (hF43 7).trans rfl
  clear hF43
  refine then_normal ?_
  refine wq_cond s47 (fun c48 => ?_) (fun c48 => ?_)
  · replace c48 := of_decide_eq_true c48
    refine wq_seq ?_
    have hno : ¬ okF f := fun h => absurd ((checkE_iff f).2 h) (by assumption)
    refine wq_region ?_
    refine wl_v (.agg #[.int .i64 (0), .int .i64 (0), .slice none 0 0, .slice none 0 0, .slice none 0 0]) rfl rfl (y_buildL (l' := []) (cells := #[.int .i64 (0), .int .i64 (0), .slice none 0 0, .slice none 0 0, .slice none 0 0]) rfl bpN (by kernel_rfl) rfl ⟨rfl, rfl⟩) ?_
    refine wl_store_stc (us := [.int .i64 (0), .int .i64 (0), .slice none 0 0, .slice none 0 0, .slice none 0 0]) stcT_frame rfl rfl rfl s46 rfl B40 rfl (oneI rfl (oneI rfl (oneI rfl (oneI rfl (oneI rfl oneN))))) fun w49 B50 k51 => ?_
    have B52 := B36.all k51 (fun i h x => (((ap20).symm) i h x))
    have B53 := B37.all k51 (fun i h x => (((ap21).symm) i h x))
    have B54 := B38.all k51 (fun i h x => (((ap22).symm) i h x))
    have B55 := B39.all k51 (fun x => (((ap23).symm) p1 rfl x))
    have K56 := K41.trans k51 (Grew.ok (S := fun _ => False) gr19 noB_le)
    refine wl_nil fun F57 hF58 => ?_
    have s59 : F57 28 = undef := (hF58 28).trans s44
    have s60 : F57 2 = .pointer (some ⟨p14, 0, none⟩) := (hF58 2).trans s46
    clear hF58
    refine then_normal ?_
    refine wq_ret ?_
    refine then_ret ?_
    exact end_stc (vs := [.int .i64 (0), .int .i64 (0), .slice none 0 0, .slice none 0 0, .slice none 0 0]) stcT_frame s59 rfl rfl s60 B50 ⟨(.slice none 0 0), noB, (.slice none 0 0), noB, (.slice none 0 0), noB, (by first | rw [copyF_yes hok] | rw [copyF_no hno]; rfl), K56, ⟨(by first | (rw [copyF_yes hok]; exact (Owb.nil _)) | (rw [copyF_no hno]; exact (Owb.nil _))), (Grew.refl _ _)⟩, ⟨(by first | (rw [copyF_yes hok]; exact (Owb.nil _)) | (rw [copyF_no hno]; exact (Owb.nil _))), (Grew.refl _ _)⟩, ⟨(by first | (rw [copyF_yes hok]; exact (Owb.nil _)) | (rw [copyF_no hno]; exact (Owb.nil _))), (Grew.refl _ _)⟩, Apart.none, Apart.none, Apart.none⟩
  · replace c48 := of_decide_eq_false c48
    refine wq_skip ?_
    refine then_normal ?_
    refine wq_seq ?_
    have hok := (checkE_iff f).1 (by first | assumption | (apply Decidable.byContradiction; assumption))
    have hmost := ok_lens hok
    refine wq_region ?_
    refine wl_v (.pointer (some ⟨p1, 0, none⟩)) rfl rfl (y_fieldR (n := 1) rfl s45 Try.underlying25 rfl (by kernel_rfl) (by decide) rfl ⟨rfl, rfl⟩) ?_
    refine wl_v (.int .i64 ((f).W)) rfl rfl (y_ld_stc rfl rfl Try.underlying3 B39 rfl rfl ⟨rfl, rfl⟩) ?_
    refine wl_v (.pointer (some ⟨p1, 1, none⟩)) rfl rfl (y_fieldR (n := 1) rfl s45 Try.underlying25 rfl (by kernel_rfl) (by decide) rfl ⟨rfl, rfl⟩) ?_
    refine wl_v (.int .i64 ((f).H)) rfl rfl (y_ld_stc rfl rfl Try.underlying3 B39 rfl rfl ⟨rfl, rfl⟩) ?_
    refine wl_v (.agg #[.int .i64 ((f).W), .int .i64 ((f).H), .slice none 0 0, .slice none 0 0, .slice none 0 0]) rfl rfl (y_buildL (l' := [(0, .int .i64 ((f).W)), (1, .int .i64 ((f).H))]) (cells := #[.int .i64 ((f).W), .int .i64 ((f).H), .slice none 0 0, .slice none 0 0, .slice none 0 0]) rfl (bpC rfl (bpC rfl bpN)) (by kernel_rfl) rfl ⟨rfl, rfl⟩) ?_
    refine wl_alloc_stc (n := 5) (vs := [.int .i64 (0), .int .i64 (0), .slice none 0 0, .slice none 0 0, .slice none 0 0]) rfl rfl rfl (by kernel_rfl) fun p61 w62 B64 g65 k63 => ?_
    have gr66 : Grew w0 noB (onB p61) := Grew.new K41 g65
    have ap67 : Apart (onB p61) (T_f0) := Apart.new g65 (B36).live
    have ap68 : Apart (onB p61) (T_f1) := Apart.new g65 (B37).live
    have ap69 : Apart (onB p61) (T_f2) := Apart.new g65 (B38).live
    have ap70 : Apart (onB p61) (onB p1) := Apart.new g65 (onB_live (B39).lt)
    have ap71 : Apart (onB p61) (onB p14) := Apart.new g65 (onB_live (B40).lt)
    have B72 := B36.all k63 Apart.none
    have B73 := B37.all k63 Apart.none
    have B74 := B38.all k63 Apart.none
    have B75 := B39.all k63 id
    have B76 := B40.all k63 id
    have K77 := K41.trans k63 (fun _ _ x => x.elim)
    refine wl_store_stc (us := [.int .i64 ((f).W), .int .i64 ((f).H), .slice none 0 0, .slice none 0 0, .slice none 0 0]) stcT_frame rfl rfl rfl rfl rfl B64 rfl (oneI rfl (oneI rfl (oneI rfl (oneI rfl (oneI rfl oneN))))) fun w78 B79 k80 => ?_
    have B81 := B72.all k80 (fun i h x => (((ap67).symm) i h x))
    have B82 := B73.all k80 (fun i h x => (((ap68).symm) i h x))
    have B83 := B74.all k80 (fun i h x => (((ap69).symm) i h x))
    have B84 := B75.all k80 (fun x => (((ap70).symm) p1 rfl x))
    have B85 := B76.all k80 (fun x => (((ap71).symm) p14 rfl x))
    have K86 := K77.trans k80 (Grew.ok (S := fun _ => False) gr66 noB_le)
    refine wl_nil fun F87 hF88 => ?_
    have s89 : F87 28 = undef := (hF88 28).trans s44
    have s90 : F87 1 = .pointer (some ⟨p1, 0, none⟩) := (hF88 1).trans s45
    have s91 : F87 2 = .pointer (some ⟨p14, 0, none⟩) := (hF88 2).trans s46
    have s92 : F87 3 = .pointer (some ⟨p61, 0, none⟩) := (hF88 3).trans rfl
    clear hF88
    refine then_normal ?_
    refine wq_seq ?_
    refine wq_seq ?_
    refine wq_region ?_
    refine wl_v (.int .i64 (0)) rfl rfl (y_asg rfl rfl ⟨rfl, rfl⟩) ?_
    refine wl_nil fun F93 hF94 => ?_
    have s95 : F93 28 = undef := (hF94 28).trans s89
    have s96 : F93 1 = .pointer (some ⟨p1, 0, none⟩) := (hF94 1).trans s90
    have s97 : F93 2 = .pointer (some ⟨p14, 0, none⟩) := (hF94 2).trans s91
    have s98 : F93 3 = .pointer (some ⟨p61, 0, none⟩) := (hF94 3).trans s92
    have s99 : F93 4 = .int .i64 (0) := (hF94 4).trans rfl
    clear hF94
    refine then_normal ?_
    refine wq_block ?_
    refine wq_rounds 4 ?_
    refine wqr_step ?_
    refine wq_seq ?_
    refine wq_seq ?_
    refine wq_region ?_
    refine wl_v (.int .i64 (0)) rfl rfl (y_mov rfl s99 ⟨rfl, rfl⟩) ?_
    refine wl_v (.bool true) rfl rfl (y_lss rfl rfl rfl rfl ⟨rfl, rfl⟩) ?_
    refine wl_nil fun F100 hF101 => ?_
    have s102 : F100 28 = undef := (hF101 28).trans s95
    have s103 : F100 1 = .pointer (some ⟨p1, 0, none⟩) := (hF101 1).trans s96
    have s104 : F100 2 = .pointer (some ⟨p14, 0, none⟩) := (hF101 2).trans s97
    have s105 : F100 3 = .pointer (some ⟨p61, 0, none⟩) := (hF101 3).trans s98
    have s106 : F100 4 = .int .i64 (0) := (hF101 4).trans s99
    have s107 : F100 15 = .bool true := (hF101 15).trans rfl
    clear hF101
    refine then_normal ?_
    refine wq_cond (t := true) s107 (fun _ => ?_) (fun e => by cases e)
    refine wq_skip ?_
    refine then_normal ?_
    refine wq_seq ?_
    refine wq_block ?_
    refine wq_region ?_
    refine wl_v (.int .i64 (0)) rfl rfl (y_mov rfl s106 ⟨rfl, rfl⟩) ?_
    refine wl_builtB0 rfl rfl rfl fun v108 w109 T113 B111 g112 k110 => ?_
    have gr114 : Grew w0 noB (T113) := Grew.new K86 g112
    have ap115 : Apart (T113) (T_f0) := Apart.new g112 (B81).live
    have ap116 : Apart (T113) (T_f1) := Apart.new g112 (B82).live
    have ap117 : Apart (T113) (T_f2) := Apart.new g112 (B83).live
    have ap118 : Apart (T113) (onB p1) := Apart.new g112 (onB_live (B84).lt)
    have ap119 : Apart (T113) (onB p14) := Apart.new g112 (onB_live (B85).lt)
    have ap120 : Apart (T113) (onB p61) := Apart.new g112 (onB_live (B79).lt)
    have B121 := B81.all k110 Apart.none
    have B122 := B82.all k110 Apart.none
    have B123 := B83.all k110 Apart.none
    have B124 := B84.all k110 id
    have B125 := B85.all k110 id
    have B126 := B79.all k110 id
    have K127 := K86.trans k110 (fun _ _ x => x.elim)
    refine wl_v (.int .i64 (0)) rfl rfl (y_mov rfl s106 ⟨rfl, rfl⟩) ?_
    refine wl_v (.pointer (some ⟨p1, 2, none⟩)) rfl rfl (y_fieldR (n := 3) rfl s103 Try.underlying25 rfl (by kernel_rfl) (by decide) rfl ⟨rfl, rfl⟩) ?_
    refine wl_v (.pointer (some ⟨p1, 2, none⟩)) rfl rfl (y_atR (0) (s := 1) rfl rfl rfl (by omega) Try.underlying23 (by omega) (by kernel_rfl) (by omega) ⟨rfl, rfl⟩) ?_
    refine wl_v (f0) rfl rfl (y_ld_stc rfl rfl Try.underlying22 B124 rfl rfl ⟨rfl, rfl⟩) ?_
    refine wl_appendB rfl rfl rfl rfl rfl rfl B111 B121 (by first | omega | (simp; omega)) fun v128 w129 T133 B131 g132 k130 => ?_
    have gr134 := Grew.trans gr114 K127 g132
    have ap135 : Apart T133 (T_f0) := (ap115).grew g132 (B121).live
    have ap136 : Apart T133 (T_f1) := (ap116).grew g132 (B122).live
    have ap137 : Apart T133 (T_f2) := (ap117).grew g132 (B123).live
    have ap138 : Apart T133 (onB p1) := (ap118).grew g132 (onB_live (B124).lt)
    have ap139 : Apart T133 (onB p14) := (ap119).grew g132 (onB_live (B125).lt)
    have ap140 : Apart T133 (onB p61) := (ap120).grew g132 (onB_live (B126).lt)
    have B141 := B121.all k130 (fun i h x => (((ap115).symm) i h x))
    have B142 := B122.all k130 (fun i h x => (((ap116).symm) i h x))
    have B143 := B123.all k130 (fun i h x => (((ap117).symm) i h x))
    have B144 := B124.all k130 (fun x => (((ap118).symm) p1 rfl x))
    have B145 := B125.all k130 (fun x => (((ap119).symm) p14 rfl x))
    have B146 := B126.all k130 (fun x => (((ap120).symm) p61 rfl x))
    have K147 := K127.trans k130 (Grew.ok (S := fun _ => False) gr114 noB_le)
    refine wl_v (.pointer (some ⟨p61, 2, none⟩)) rfl rfl (y_fieldR (n := 3) rfl s105 Try.underlying25 rfl (by kernel_rfl) (by decide) rfl ⟨rfl, rfl⟩) ?_
    refine wl_v (.pointer (some ⟨p61, 2, none⟩)) rfl rfl (y_atR (0) (s := 1) rfl rfl rfl (by omega) Try.underlying23 (by omega) (by kernel_rfl) (by omega) ⟨rfl, rfl⟩) ?_
    refine wl_set_stc rfl rfl rfl rfl rfl B146 rfl (B131).oneC (by kernel_rfl) fun w148 B149 k150 => ?_
    replace B149 : Stc w148 p61 25 [.int .i64 ((f).W), .int .i64 ((f).H), v128, .slice none 0 0, .slice none 0 0] := B149
    have B151 := B141.all k150 (fun i h x => (((ap67).symm) i h x))
    have B152 := B142.all k150 (fun i h x => (((ap68).symm) i h x))
    have B153 := B143.all k150 (fun i h x => (((ap69).symm) i h x))
    have B154 := B144.all k150 (fun x => (((ap70).symm) p1 rfl x))
    have B155 := B145.all k150 (fun x => (((ap71).symm) p14 rfl x))
    have B156 := B131.all k150 (fun i h x => ((ap140) i h x))
    have K157 := K147.trans k150 (Grew.ok (S := fun _ => False) gr66 noB_le)
    refine wl_nil fun F158 hF159 => ?_
    have s160 : F158 28 = undef := (hF159 28).trans s102
    have s161 : F158 1 = .pointer (some ⟨p1, 0, none⟩) := (hF159 1).trans s103
    have s162 : F158 2 = .pointer (some ⟨p14, 0, none⟩) := (hF159 2).trans s104
    have s163 : F158 3 = .pointer (some ⟨p61, 0, none⟩) := (hF159 3).trans s105
    have s164 : F158 4 = .int .i64 (0) := (hF159 4).trans s106
    clear hF159
    refine in_normal ?_
    refine then_normal ?_
    refine wq_region ?_
    refine wl_v (.int .i64 (0)) rfl rfl (y_mov rfl s164 ⟨rfl, rfl⟩) ?_
    refine wl_v (.int .i64 (((1 : Nat) : Int))) rfl rfl (y_add rfl rfl rfl (i64_n (by omega) (by omega)) ⟨rfl, rfl⟩) ?_
    refine wl_v (.int .i64 (((1 : Nat) : Int))) rfl rfl (y_asg rfl rfl ⟨rfl, rfl⟩) ?_
    refine wl_nil fun F165 hF166 => ?_
    have s167 : F165 28 = undef := (hF166 28).trans s160
    have s168 : F165 1 = .pointer (some ⟨p1, 0, none⟩) := (hF166 1).trans s161
    have s169 : F165 2 = .pointer (some ⟨p14, 0, none⟩) := (hF166 2).trans s162
    have s170 : F165 3 = .pointer (some ⟨p61, 0, none⟩) := (hF166 3).trans s163
    have s171 : F165 4 = .int .i64 (((1 : Nat) : Int)) := (hF166 4).trans rfl
    clear hF166
    refine then_normal ?_
    refine wqr_step ?_
    refine wq_seq ?_
    refine wq_seq ?_
    refine wq_region ?_
    refine wl_v (.int .i64 (((1 : Nat) : Int))) rfl rfl (y_mov rfl s171 ⟨rfl, rfl⟩) ?_
    refine wl_v (.bool true) rfl rfl (y_lss rfl rfl rfl rfl ⟨rfl, rfl⟩) ?_
    refine wl_nil fun F172 hF173 => ?_
    have s174 : F172 28 = undef := (hF173 28).trans s167
    have s175 : F172 1 = .pointer (some ⟨p1, 0, none⟩) := (hF173 1).trans s168
    have s176 : F172 2 = .pointer (some ⟨p14, 0, none⟩) := (hF173 2).trans s169
    have s177 : F172 3 = .pointer (some ⟨p61, 0, none⟩) := (hF173 3).trans s170
    have s178 : F172 4 = .int .i64 (((1 : Nat) : Int)) := (hF173 4).trans s171
    have s179 : F172 15 = .bool true := (hF173 15).trans rfl
    clear hF173
    refine then_normal ?_
    refine wq_cond (t := true) s179 (fun _ => ?_) (fun e => by cases e)
    refine wq_skip ?_
    refine then_normal ?_
    refine wq_seq ?_
    refine wq_block ?_
    refine wq_region ?_
    refine wl_v (.int .i64 (((1 : Nat) : Int))) rfl rfl (y_mov rfl s178 ⟨rfl, rfl⟩) ?_
    refine wl_builtB0 rfl rfl rfl fun v180 w181 T185 B183 g184 k182 => ?_
    have gr186 : Grew w0 noB (T185) := Grew.new K157 g184
    have ap187 : Apart (T185) (T_f0) := Apart.new g184 (B151).live
    have ap188 : Apart (T185) (T_f1) := Apart.new g184 (B152).live
    have ap189 : Apart (T185) (T_f2) := Apart.new g184 (B153).live
    have ap190 : Apart (T185) (onB p1) := Apart.new g184 (onB_live (B154).lt)
    have ap191 : Apart (T185) (onB p14) := Apart.new g184 (onB_live (B155).lt)
    have ap192 : Apart (T185) (onB p61) := Apart.new g184 (onB_live (B149).lt)
    have ap193 : Apart (T185) (T133) := Apart.new g184 (B156).live
    have B194 := B151.all k182 Apart.none
    have B195 := B152.all k182 Apart.none
    have B196 := B153.all k182 Apart.none
    have B197 := B154.all k182 id
    have B198 := B155.all k182 id
    have B199 := B149.all k182 id
    have B200 := B156.all k182 Apart.none
    have K201 := K157.trans k182 (fun _ _ x => x.elim)
    refine wl_v (.int .i64 (((1 : Nat) : Int))) rfl rfl (y_mov rfl s178 ⟨rfl, rfl⟩) ?_
    refine wl_v (.pointer (some ⟨p1, 2, none⟩)) rfl rfl (y_fieldR (n := 3) rfl s175 Try.underlying25 rfl (by kernel_rfl) (by decide) rfl ⟨rfl, rfl⟩) ?_
    refine wl_v (.pointer (some ⟨p1, 3, none⟩)) rfl rfl (y_atR (1) (s := 1) rfl rfl rfl (by omega) Try.underlying23 (by omega) (by kernel_rfl) (by omega) ⟨rfl, rfl⟩) ?_
    refine wl_v (f1) rfl rfl (y_ld_stc rfl rfl Try.underlying22 B197 rfl rfl ⟨rfl, rfl⟩) ?_
    refine wl_appendB rfl rfl rfl rfl rfl rfl B183 B195 (by first | omega | (simp; omega)) fun v202 w203 T207 B205 g206 k204 => ?_
    have gr208 := Grew.trans gr186 K201 g206
    have ap209 : Apart T207 (T_f0) := (ap187).grew g206 (B194).live
    have ap210 : Apart T207 (T_f1) := (ap188).grew g206 (B195).live
    have ap211 : Apart T207 (T_f2) := (ap189).grew g206 (B196).live
    have ap212 : Apart T207 (onB p1) := (ap190).grew g206 (onB_live (B197).lt)
    have ap213 : Apart T207 (onB p14) := (ap191).grew g206 (onB_live (B198).lt)
    have ap214 : Apart T207 (onB p61) := (ap192).grew g206 (onB_live (B199).lt)
    have ap215 : Apart T207 (T133) := (ap193).grew g206 (B200).live
    have B216 := B194.all k204 (fun i h x => (((ap187).symm) i h x))
    have B217 := B195.all k204 (fun i h x => (((ap188).symm) i h x))
    have B218 := B196.all k204 (fun i h x => (((ap189).symm) i h x))
    have B219 := B197.all k204 (fun x => (((ap190).symm) p1 rfl x))
    have B220 := B198.all k204 (fun x => (((ap191).symm) p14 rfl x))
    have B221 := B199.all k204 (fun x => (((ap192).symm) p61 rfl x))
    have B222 := B200.all k204 (fun i h x => (((ap193).symm) i h x))
    have K223 := K201.trans k204 (Grew.ok (S := fun _ => False) gr186 noB_le)
    refine wl_v (.pointer (some ⟨p61, 2, none⟩)) rfl rfl (y_fieldR (n := 3) rfl s177 Try.underlying25 rfl (by kernel_rfl) (by decide) rfl ⟨rfl, rfl⟩) ?_
    refine wl_v (.pointer (some ⟨p61, 3, none⟩)) rfl rfl (y_atR (1) (s := 1) rfl rfl rfl (by omega) Try.underlying23 (by omega) (by kernel_rfl) (by omega) ⟨rfl, rfl⟩) ?_
    refine wl_set_stc rfl rfl rfl rfl rfl B221 rfl (B205).oneC (by kernel_rfl) fun w224 B225 k226 => ?_
    replace B225 : Stc w224 p61 25 [.int .i64 ((f).W), .int .i64 ((f).H), v128, v202, .slice none 0 0] := B225
    have B227 := B216.all k226 (fun i h x => (((ap67).symm) i h x))
    have B228 := B217.all k226 (fun i h x => (((ap68).symm) i h x))
    have B229 := B218.all k226 (fun i h x => (((ap69).symm) i h x))
    have B230 := B219.all k226 (fun x => (((ap70).symm) p1 rfl x))
    have B231 := B220.all k226 (fun x => (((ap71).symm) p14 rfl x))
    have B232 := B222.all k226 (fun i h x => ((ap140) i h x))
    have B233 := B205.all k226 (fun i h x => ((ap214) i h x))
    have K234 := K223.trans k226 (Grew.ok (S := fun _ => False) gr66 noB_le)
    refine wl_nil fun F235 hF236 => ?_
    have s237 : F235 28 = undef := (hF236 28).trans s174
    have s238 : F235 1 = .pointer (some ⟨p1, 0, none⟩) := (hF236 1).trans s175
    have s239 : F235 2 = .pointer (some ⟨p14, 0, none⟩) := (hF236 2).trans s176
    have s240 : F235 3 = .pointer (some ⟨p61, 0, none⟩) := (hF236 3).trans s177
    have s241 : F235 4 = .int .i64 (((1 : Nat) : Int)) := (hF236 4).trans s178
    clear hF236
    refine in_normal ?_
    refine then_normal ?_
    refine wq_region ?_
    refine wl_v (.int .i64 (((1 : Nat) : Int))) rfl rfl (y_mov rfl s241 ⟨rfl, rfl⟩) ?_
    refine wl_v (.int .i64 (((2 : Nat) : Int))) rfl rfl (y_add rfl rfl rfl (i64_n (by omega) (by omega)) ⟨rfl, rfl⟩) ?_
    refine wl_v (.int .i64 (((2 : Nat) : Int))) rfl rfl (y_asg rfl rfl ⟨rfl, rfl⟩) ?_
    refine wl_nil fun F242 hF243 => ?_
    have s244 : F242 28 = undef := (hF243 28).trans s237
    have s245 : F242 1 = .pointer (some ⟨p1, 0, none⟩) := (hF243 1).trans s238
    have s246 : F242 2 = .pointer (some ⟨p14, 0, none⟩) := (hF243 2).trans s239
    have s247 : F242 3 = .pointer (some ⟨p61, 0, none⟩) := (hF243 3).trans s240
    have s248 : F242 4 = .int .i64 (((2 : Nat) : Int)) := (hF243 4).trans rfl
    clear hF243
    refine then_normal ?_
    refine wqr_step ?_
    refine wq_seq ?_
    refine wq_seq ?_
    refine wq_region ?_
    refine wl_v (.int .i64 (((2 : Nat) : Int))) rfl rfl (y_mov rfl s248 ⟨rfl, rfl⟩) ?_
    refine wl_v (.bool true) rfl rfl (y_lss rfl rfl rfl rfl ⟨rfl, rfl⟩) ?_
    refine wl_nil fun F249 hF250 => ?_
    have s251 : F249 28 = undef := (hF250 28).trans s244
    have s252 : F249 1 = .pointer (some ⟨p1, 0, none⟩) := (hF250 1).trans s245
    have s253 : F249 2 = .pointer (some ⟨p14, 0, none⟩) := (hF250 2).trans s246
    have s254 : F249 3 = .pointer (some ⟨p61, 0, none⟩) := (hF250 3).trans s247
    have s255 : F249 4 = .int .i64 (((2 : Nat) : Int)) := (hF250 4).trans s248
    have s256 : F249 15 = .bool true := (hF250 15).trans rfl
    clear hF250
    refine then_normal ?_
    refine wq_cond (t := true) s256 (fun _ => ?_) (fun e => by cases e)
    refine wq_skip ?_
    refine then_normal ?_
    refine wq_seq ?_
    refine wq_block ?_
    refine wq_region ?_
    refine wl_v (.int .i64 (((2 : Nat) : Int))) rfl rfl (y_mov rfl s255 ⟨rfl, rfl⟩) ?_
    refine wl_builtB0 rfl rfl rfl fun v257 w258 T262 B260 g261 k259 => ?_
    have gr263 : Grew w0 noB (T262) := Grew.new K234 g261
    have ap264 : Apart (T262) (T_f0) := Apart.new g261 (B227).live
    have ap265 : Apart (T262) (T_f1) := Apart.new g261 (B228).live
    have ap266 : Apart (T262) (T_f2) := Apart.new g261 (B229).live
    have ap267 : Apart (T262) (onB p1) := Apart.new g261 (onB_live (B230).lt)
    have ap268 : Apart (T262) (onB p14) := Apart.new g261 (onB_live (B231).lt)
    have ap269 : Apart (T262) (onB p61) := Apart.new g261 (onB_live (B225).lt)
    have ap270 : Apart (T262) (T133) := Apart.new g261 (B232).live
    have ap271 : Apart (T262) (T207) := Apart.new g261 (B233).live
    have B272 := B227.all k259 Apart.none
    have B273 := B228.all k259 Apart.none
    have B274 := B229.all k259 Apart.none
    have B275 := B230.all k259 id
    have B276 := B231.all k259 id
    have B277 := B225.all k259 id
    have B278 := B232.all k259 Apart.none
    have B279 := B233.all k259 Apart.none
    have K280 := K234.trans k259 (fun _ _ x => x.elim)
    refine wl_v (.int .i64 (((2 : Nat) : Int))) rfl rfl (y_mov rfl s255 ⟨rfl, rfl⟩) ?_
    refine wl_v (.pointer (some ⟨p1, 2, none⟩)) rfl rfl (y_fieldR (n := 3) rfl s252 Try.underlying25 rfl (by kernel_rfl) (by decide) rfl ⟨rfl, rfl⟩) ?_
    refine wl_v (.pointer (some ⟨p1, 4, none⟩)) rfl rfl (y_atR (2) (s := 1) rfl rfl rfl (by omega) Try.underlying23 (by omega) (by kernel_rfl) (by omega) ⟨rfl, rfl⟩) ?_
    refine wl_v (f2) rfl rfl (y_ld_stc rfl rfl Try.underlying22 B275 rfl rfl ⟨rfl, rfl⟩) ?_
    refine wl_appendB rfl rfl rfl rfl rfl rfl B260 B274 (by first | omega | (simp; omega)) fun v281 w282 T286 B284 g285 k283 => ?_
    have gr287 := Grew.trans gr263 K280 g285
    have ap288 : Apart T286 (T_f0) := (ap264).grew g285 (B272).live
    have ap289 : Apart T286 (T_f1) := (ap265).grew g285 (B273).live
    have ap290 : Apart T286 (T_f2) := (ap266).grew g285 (B274).live
    have ap291 : Apart T286 (onB p1) := (ap267).grew g285 (onB_live (B275).lt)
    have ap292 : Apart T286 (onB p14) := (ap268).grew g285 (onB_live (B276).lt)
    have ap293 : Apart T286 (onB p61) := (ap269).grew g285 (onB_live (B277).lt)
    have ap294 : Apart T286 (T133) := (ap270).grew g285 (B278).live
    have ap295 : Apart T286 (T207) := (ap271).grew g285 (B279).live
    have B296 := B272.all k283 (fun i h x => (((ap264).symm) i h x))
    have B297 := B273.all k283 (fun i h x => (((ap265).symm) i h x))
    have B298 := B274.all k283 (fun i h x => (((ap266).symm) i h x))
    have B299 := B275.all k283 (fun x => (((ap267).symm) p1 rfl x))
    have B300 := B276.all k283 (fun x => (((ap268).symm) p14 rfl x))
    have B301 := B277.all k283 (fun x => (((ap269).symm) p61 rfl x))
    have B302 := B278.all k283 (fun i h x => (((ap270).symm) i h x))
    have B303 := B279.all k283 (fun i h x => (((ap271).symm) i h x))
    have K304 := K280.trans k283 (Grew.ok (S := fun _ => False) gr263 noB_le)
    refine wl_v (.pointer (some ⟨p61, 2, none⟩)) rfl rfl (y_fieldR (n := 3) rfl s254 Try.underlying25 rfl (by kernel_rfl) (by decide) rfl ⟨rfl, rfl⟩) ?_
    refine wl_v (.pointer (some ⟨p61, 4, none⟩)) rfl rfl (y_atR (2) (s := 1) rfl rfl rfl (by omega) Try.underlying23 (by omega) (by kernel_rfl) (by omega) ⟨rfl, rfl⟩) ?_
    refine wl_set_stc rfl rfl rfl rfl rfl B301 rfl (B284).oneC (by kernel_rfl) fun w305 B306 k307 => ?_
    replace B306 : Stc w305 p61 25 [.int .i64 ((f).W), .int .i64 ((f).H), v128, v202, v281] := B306
    have B308 := B296.all k307 (fun i h x => (((ap67).symm) i h x))
    have B309 := B297.all k307 (fun i h x => (((ap68).symm) i h x))
    have B310 := B298.all k307 (fun i h x => (((ap69).symm) i h x))
    have B311 := B299.all k307 (fun x => (((ap70).symm) p1 rfl x))
    have B312 := B300.all k307 (fun x => (((ap71).symm) p14 rfl x))
    have B313 := B302.all k307 (fun i h x => ((ap140) i h x))
    have B314 := B303.all k307 (fun i h x => ((ap214) i h x))
    have B315 := B284.all k307 (fun i h x => ((ap293) i h x))
    have K316 := K304.trans k307 (Grew.ok (S := fun _ => False) gr66 noB_le)
    refine wl_nil fun F317 hF318 => ?_
    have s319 : F317 28 = undef := (hF318 28).trans s251
    have s320 : F317 1 = .pointer (some ⟨p1, 0, none⟩) := (hF318 1).trans s252
    have s321 : F317 2 = .pointer (some ⟨p14, 0, none⟩) := (hF318 2).trans s253
    have s322 : F317 3 = .pointer (some ⟨p61, 0, none⟩) := (hF318 3).trans s254
    have s323 : F317 4 = .int .i64 (((2 : Nat) : Int)) := (hF318 4).trans s255
    clear hF318
    refine in_normal ?_
    refine then_normal ?_
    refine wq_region ?_
    refine wl_v (.int .i64 (((2 : Nat) : Int))) rfl rfl (y_mov rfl s323 ⟨rfl, rfl⟩) ?_
    refine wl_v (.int .i64 (((3 : Nat) : Int))) rfl rfl (y_add rfl rfl rfl (i64_n (by omega) (by omega)) ⟨rfl, rfl⟩) ?_
    refine wl_v (.int .i64 (((3 : Nat) : Int))) rfl rfl (y_asg rfl rfl ⟨rfl, rfl⟩) ?_
    refine wl_nil fun F324 hF325 => ?_
    have s326 : F324 28 = undef := (hF325 28).trans s319
    have s327 : F324 1 = .pointer (some ⟨p1, 0, none⟩) := (hF325 1).trans s320
    have s328 : F324 2 = .pointer (some ⟨p14, 0, none⟩) := (hF325 2).trans s321
    have s329 : F324 3 = .pointer (some ⟨p61, 0, none⟩) := (hF325 3).trans s322
    have s330 : F324 4 = .int .i64 (((3 : Nat) : Int)) := (hF325 4).trans rfl
    clear hF325
    refine then_normal ?_
    refine wqr_step ?_
    refine wq_seq ?_
    refine wq_seq ?_
    refine wq_region ?_
    refine wl_v (.int .i64 (((3 : Nat) : Int))) rfl rfl (y_mov rfl s330 ⟨rfl, rfl⟩) ?_
    refine wl_v (.bool false) rfl rfl (y_lss rfl rfl rfl rfl ⟨rfl, rfl⟩) ?_
    refine wl_nil fun F331 hF332 => ?_
    have s333 : F331 28 = undef := (hF332 28).trans s326
    have s334 : F331 1 = .pointer (some ⟨p1, 0, none⟩) := (hF332 1).trans s327
    have s335 : F331 2 = .pointer (some ⟨p14, 0, none⟩) := (hF332 2).trans s328
    have s336 : F331 3 = .pointer (some ⟨p61, 0, none⟩) := (hF332 3).trans s329
    have s337 : F331 4 = .int .i64 (((3 : Nat) : Int)) := (hF332 4).trans s330
    have s338 : F331 15 = .bool false := (hF332 15).trans rfl
    clear hF332
    refine then_normal ?_
    refine wq_cond (t := false) s338 (fun e => by cases e) (fun _ => ?_)
    refine wq_exit ?_
    refine then_exit ?_
    refine then_exit ?_
    refine in_here ?_
    refine then_normal ?_
    refine wq_seq ?_
    refine wq_region ?_
    refine wl_v (.agg #[.int .i64 ((f).W), .int .i64 ((f).H), v128, v202, v281]) rfl rfl (y_load_stc stcT_frame rfl s336 B306 ⟨rfl, rfl⟩) ?_
    refine wl_store_stc (us := [.int .i64 ((f).W), .int .i64 ((f).H), v128, v202, v281]) stcT_frame rfl rfl rfl s335 rfl B312 rfl (oneI rfl (oneI rfl (oneI (B313).one (oneI (B314).one (oneI (B315).one oneN))))) fun w339 B340 k341 => ?_
    have B342 := B308.all k341 (fun i h x => (((ap20).symm) i h x))
    have B343 := B309.all k341 (fun i h x => (((ap21).symm) i h x))
    have B344 := B310.all k341 (fun i h x => (((ap22).symm) i h x))
    have B345 := B311.all k341 (fun x => (((ap23).symm) p1 rfl x))
    have B346 := B306.all k341 (fun x => ((ap71) p61 rfl x))
    have B347 := B313.all k341 (fun i h x => ((ap139) i h x))
    have B348 := B314.all k341 (fun i h x => ((ap213) i h x))
    have B349 := B315.all k341 (fun i h x => ((ap292) i h x))
    have K350 := K316.trans k341 (Grew.ok (S := fun _ => False) gr19 noB_le)
    refine wl_nil fun F351 hF352 => ?_
    have s353 : F351 28 = undef := (hF352 28).trans s333
    have s354 : F351 2 = .pointer (some ⟨p14, 0, none⟩) := (hF352 2).trans s335
    clear hF352
    refine then_normal ?_
    refine wq_ret ?_
    exact end_stc (vs := [.int .i64 ((f).W), .int .i64 ((f).H), v128, v202, v281]) stcT_frame s353 rfl rfl s354 B340 ⟨v128, T133, v202, T207, v281, T286, (by first | rw [copyF_yes hok] | rw [copyF_no hno]; rfl), K350, ⟨(by first | (rw [copyF_yes hok]; exact B347) | (rw [copyF_no hno]; exact B347)), gr134⟩, ⟨(by first | (rw [copyF_yes hok]; exact B348) | (rw [copyF_no hno]; exact B348)), gr208⟩, ⟨(by first | (rw [copyF_yes hok]; exact B349) | (rw [copyF_no hno]; exact B349)), gr287⟩, (ap215).symm, (ap294).symm, (ap295).symm⟩

set_option maxHeartbeats 4000000 in
set_option maxRecDepth 100000 in
theorem fref_put (p x y : Int) (b : Nat → Int) (f : FD) (f0 f1 f2 : Value) (T_f0 : Nat → Prop) (T_f1 : Nat → Prop) (T_f2 : Nat → Prop) (w0 : World) (h_f0 : Byt w0 T_f0 f0 ((f).p0)) (h_f1 : Byt w0 T_f1 f1 ((f).p1)) (h_f2 : Byt w0 T_f2 f2 ((f).p2)) :
    Calls Try.prog 15 #[.agg #[.int .i64 ((f).W), .int .i64 ((f).H), f0, f1, f2], .int .i64 (p), .int .i64 (x), .int .i64 (y), blkV (b)] w0 fun e w' => ∃ (v1 : Value) (T1 : Nat → Prop) (v2 : Value) (T2 : Nat → Prop) (v3 : Value) (T3 : Nat → Prop), e = .returned (.agg #[.int .i64 ((putFr f p x y b).W), .int .i64 ((putFr f p x y b).H), v1, v2, v3]) ∧ Kept (fun _ => False) w0 w' ∧ (Owb w' T1 v1 ((putFr f p x y b).p0) ∧ Grew w0 noB T1) ∧ (Owb w' T2 v2 ((putFr f p x y b).p1) ∧ Grew w0 noB T2) ∧ (Owb w' T3 v3 ((putFr f p x y b).p2) ∧ Grew w0 noB T3) ∧ Apart T1 T2 ∧ Apart T1 T3 ∧ Apart T2 T3 := by
  refine calls_wq (args := [.agg #[.int .i64 ((f).W), .int .i64 ((f).H), f0, f1, f2], .int .i64 (p), .int .i64 (x), .int .i64 (y), blkV (b)]) 72 Try.func15 rfl rfl (Nat.le_of_ble_eq_true rfl) ?_
  have K0 := Kept.refl (fun _ => False) w0
  have hnx := near_bounds x
  have hny := near_bounds y
  have hsb := size_bounds f p
  have g_f0 := Grew.refl w0 T_f0
  have g_f1 := Grew.refl w0 T_f1
  have g_f2 := Grew.refl w0 T_f2
  refine wq_seq ?_
  refine wq_region ?_
  refine wl_box_stc (vs := [.int .i64 ((f).W), .int .i64 ((f).H), f0, f1, f2]) rfl rfl rfl rfl fun p1 w2 B4 g5 k3 => ?_
  have gr6 : Grew w0 noB (onB p1) := Grew.new K0 g5
  have ap7 : Apart (onB p1) (T_f0) := Apart.new g5 (h_f0).live
  have ap8 : Apart (onB p1) (T_f1) := Apart.new g5 (h_f1).live
  have ap9 : Apart (onB p1) (T_f2) := Apart.new g5 (h_f2).live
  have B10 := h_f0.all k3 Apart.none
  have B11 := h_f1.all k3 Apart.none
  have B12 := h_f2.all k3 Apart.none
  have K13 := K0.trans k3 (fun _ _ x => x.elim)
  refine wl_box_blk rfl rfl rfl rfl fun p14 w15 e18 B16 k17 => ?_
  have g19 := onB_new (Nat.le_of_eq e18.symm)
  have gr20 : Grew w0 noB (onB p14) := Grew.new K13 g19
  have ap21 : Apart (onB p14) (T_f0) := Apart.new g19 (B10).live
  have ap22 : Apart (onB p14) (T_f1) := Apart.new g19 (B11).live
  have ap23 : Apart (onB p14) (T_f2) := Apart.new g19 (B12).live
  have ap24 : Apart (onB p14) (onB p1) := Apart.new g19 (onB_live (B4).lt)
  clear e18 g19
  have B25 := B10.all k17 Apart.none
  have B26 := B11.all k17 Apart.none
  have B27 := B12.all k17 Apart.none
  have B28 := B4.all k17 id
  have K29 := K13.trans k17 (fun _ _ x => x.elim)
  refine wl_alloc_stc (n := 5) (vs := [.int .i64 (0), .int .i64 (0), .slice none 0 0, .slice none 0 0, .slice none 0 0]) rfl rfl rfl (by kernel_rfl) fun p30 w31 B33 g34 k32 => ?_
  have gr35 : Grew w0 noB (onB p30) := Grew.new K29 g34
  have ap36 : Apart (onB p30) (T_f0) := Apart.new g34 (B25).live
  have ap37 : Apart (onB p30) (T_f1) := Apart.new g34 (B26).live
  have ap38 : Apart (onB p30) (T_f2) := Apart.new g34 (B27).live
  have ap39 : Apart (onB p30) (onB p1) := Apart.new g34 (onB_live (B28).lt)
  have ap40 : Apart (onB p30) (onB p14) := Apart.new g34 (onB_live (B16).lt)
  have B41 := B25.all k32 Apart.none
  have B42 := B26.all k32 Apart.none
  have B43 := B27.all k32 Apart.none
  have B44 := B28.all k32 id
  have B45 := B16.all k32 id
  have K46 := K29.trans k32 (fun _ _ x => x.elim)
  refine wl_nil fun F47 hF48 => ?_
  have s49 : F47 1 = .int .i64 (p) := (hF48 1).trans rfl
  have s50 : F47 2 = .int .i64 (x) := (hF48 2).trans rfl
  have s51 : F47 3 = .int .i64 (y) := (hF48 3).trans rfl
  have s52 : F47 72 = undef := (hF48 72).trans rfl
  have s53 : F47 5 = .pointer (some ⟨p1, 0, none⟩) := (hF48 5).trans rfl
  have s54 : F47 9 = .pointer (some ⟨p14, 0, none⟩) := (hF48 9).trans rfl
  have s55 : F47 10 = .pointer (some ⟨p30, 0, none⟩) := (hF48 10).trans rfl
  clear hF48
  refine then_normal ?_
  refine wq_seq ?_
  refine wq_region ?_
  refine wl_v (.agg #[.int .i64 ((f).W), .int .i64 ((f).H), f0, f1, f2]) rfl rfl (y_load_stc stcT_frame rfl s53 B44 ⟨rfl, rfl⟩) ?_
  refine wl_call (R := fun v_ w_ => ∃ (v56 : Value) (T61 : Nat → Prop) (v57 : Value) (T62 : Nat → Prop) (v58 : Value) (T63 : Nat → Prop), .agg #[.int .i64 ((copyF (f)).W), .int .i64 ((copyF (f)).H), v56, v57, v58] = v_ ∧ Kept (fun _ => False) w31 w_ ∧ (Owb w_ T61 v56 ((copyF (f)).p0) ∧ Grew w31 noB T61) ∧ (Owb w_ T62 v57 ((copyF (f)).p1) ∧ Grew w31 noB T62) ∧ (Owb w_ T63 v58 ((copyF (f)).p2) ∧ Grew w31 noB T63) ∧ Apart T61 T62 ∧ Apart T61 T63 ∧ Apart T62 T63) rfl rfl (y_cs rfl rfl rfl (fun _ _ => by kernel_rfl) (ev_func _) (vsC rfl vsN) (fref_copy (f) (f0) (f1) (f2) (T_f0) (T_f1) (T_f2) _  B41 B42 B43 ) (fun e_ w_ h_ => by obtain ⟨v56_, T61_, v57_, T62_, v58_, T63_, he_, hr_⟩ := h_; exact ⟨_, he_, v56_, T61_, v57_, T62_, v58_, T63_, rfl, hr_⟩)) ?_
  rintro _ w59 ⟨v56, T61, v57, T62, v58, T63, rfl, k60, ⟨B64, g67⟩, ⟨B65, g68⟩, ⟨B66, g69⟩, ap70, ap71, ap72⟩
  have B73 := B41.all k60 Apart.none
  have B74 := B42.all k60 Apart.none
  have B75 := B43.all k60 Apart.none
  have B76 := B44.all k60 id
  have B77 := B45.all k60 id
  have B78 := B33.all k60 id
  have K79 := K46.trans k60 (fun _ _ x => x.elim)
  have gr80 : Grew w0 noB (T61) := Grew.new K46 g67
  have ap81 : Apart (T61) (T_f0) := Apart.new g67 (B41).live
  have ap82 : Apart (T61) (T_f1) := Apart.new g67 (B42).live
  have ap83 : Apart (T61) (T_f2) := Apart.new g67 (B43).live
  have ap84 : Apart (T61) (onB p1) := Apart.new g67 (onB_live (B44).lt)
  have ap85 : Apart (T61) (onB p14) := Apart.new g67 (onB_live (B45).lt)
  have ap86 : Apart (T61) (onB p30) := Apart.new g67 (onB_live (B33).lt)
  have gr87 : Grew w0 noB (T62) := Grew.new K46 g68
  have ap88 : Apart (T62) (T_f0) := Apart.new g68 (B41).live
  have ap89 : Apart (T62) (T_f1) := Apart.new g68 (B42).live
  have ap90 : Apart (T62) (T_f2) := Apart.new g68 (B43).live
  have ap91 : Apart (T62) (onB p1) := Apart.new g68 (onB_live (B44).lt)
  have ap92 : Apart (T62) (onB p14) := Apart.new g68 (onB_live (B45).lt)
  have ap93 : Apart (T62) (onB p30) := Apart.new g68 (onB_live (B33).lt)
  have gr94 : Grew w0 noB (T63) := Grew.new K46 g69
  have ap95 : Apart (T63) (T_f0) := Apart.new g69 (B41).live
  have ap96 : Apart (T63) (T_f1) := Apart.new g69 (B42).live
  have ap97 : Apart (T63) (T_f2) := Apart.new g69 (B43).live
  have ap98 : Apart (T63) (onB p1) := Apart.new g69 (onB_live (B44).lt)
  have ap99 : Apart (T63) (onB p14) := Apart.new g69 (onB_live (B45).lt)
  have ap100 : Apart (T63) (onB p30) := Apart.new g69 (onB_live (B33).lt)
  refine wl_alloc_stc (n := 5) (vs := [.int .i64 (0), .int .i64 (0), .slice none 0 0, .slice none 0 0, .slice none 0 0]) rfl rfl rfl (by kernel_rfl) fun p101 w102 B104 g105 k103 => ?_
  have gr106 : Grew w0 noB (onB p101) := Grew.new K79 g105
  have ap107 : Apart (onB p101) (T_f0) := Apart.new g105 (B73).live
  have ap108 : Apart (onB p101) (T_f1) := Apart.new g105 (B74).live
  have ap109 : Apart (onB p101) (T_f2) := Apart.new g105 (B75).live
  have ap110 : Apart (onB p101) (onB p1) := Apart.new g105 (onB_live (B76).lt)
  have ap111 : Apart (onB p101) (onB p14) := Apart.new g105 (onB_live (B77).lt)
  have ap112 : Apart (onB p101) (onB p30) := Apart.new g105 (onB_live (B78).lt)
  have ap113 : Apart (onB p101) (T61) := Apart.new g105 (B64).live
  have ap114 : Apart (onB p101) (T62) := Apart.new g105 (B65).live
  have ap115 : Apart (onB p101) (T63) := Apart.new g105 (B66).live
  have B116 := B73.all k103 Apart.none
  have B117 := B74.all k103 Apart.none
  have B118 := B75.all k103 Apart.none
  have B119 := B76.all k103 id
  have B120 := B77.all k103 id
  have B121 := B78.all k103 id
  have B122 := B64.all k103 Apart.none
  have B123 := B65.all k103 Apart.none
  have B124 := B66.all k103 Apart.none
  have K125 := K79.trans k103 (fun _ _ x => x.elim)
  refine wl_store_stc (us := [.int .i64 ((copyF (f)).W), .int .i64 ((copyF (f)).H), v56, v57, v58]) stcT_frame rfl rfl rfl rfl rfl B104 rfl (oneI rfl (oneI rfl (oneI (B122).one (oneI (B123).one (oneI (B124).one oneN))))) fun w126 B127 k128 => ?_
  have B129 := B116.all k128 (fun i h x => (((ap107).symm) i h x))
  have B130 := B117.all k128 (fun i h x => (((ap108).symm) i h x))
  have B131 := B118.all k128 (fun i h x => (((ap109).symm) i h x))
  have B132 := B119.all k128 (fun x => (((ap110).symm) p1 rfl x))
  have B133 := B120.all k128 (fun x => (((ap111).symm) p14 rfl x))
  have B134 := B121.all k128 (fun x => (((ap112).symm) p30 rfl x))
  have B135 := B122.all k128 (fun i h x => (((ap113).symm) i h x))
  have B136 := B123.all k128 (fun i h x => (((ap114).symm) i h x))
  have B137 := B124.all k128 (fun i h x => (((ap115).symm) i h x))
  have K138 := K125.trans k128 (Grew.ok (S := fun _ => False) gr106 noB_le)
  refine wl_nil fun F139 hF140 => ?_
  have s141 : F139 1 = .int .i64 (p) := (hF140 1).trans s49
  have s142 : F139 2 = .int .i64 (x) := (hF140 2).trans s50
  have s143 : F139 3 = .int .i64 (y) := (hF140 3).trans s51
  have s144 : F139 72 = undef := (hF140 72).trans s52
  have s145 : F139 5 = .pointer (some ⟨p1, 0, none⟩) := (hF140 5).trans s53
  have s146 : F139 9 = .pointer (some ⟨p14, 0, none⟩) := (hF140 9).trans s54
  have s147 : F139 10 = .pointer (some ⟨p30, 0, none⟩) := (hF140 10).trans s55
  have s148 : F139 11 = .pointer (some ⟨p101, 0, none⟩) := (hF140 11).trans rfl
  clear hF140
  refine then_normal ?_
  refine wq_seq ?_
  refine wq_region ?_
  refine wl_v (.agg #[.int .i64 ((f).W), .int .i64 ((f).H), f0, f1, f2]) rfl rfl (y_load_stc stcT_frame rfl s145 B132 ⟨rfl, rfl⟩) ?_
  refine wl_v (.int .i64 (p)) rfl rfl (y_mov rfl s141 ⟨rfl, rfl⟩) ?_
  refine wl_call (R := fun v_ w_ => v_ = .tuple #[.int .i64 ((sizeF (f) (p)).1), .int .i64 ((sizeF (f) (p)).2)] ∧ Kept (fun _ => False) w126 w_) rfl rfl (y_cs rfl rfl rfl (fun _ _ => by kernel_rfl) (ev_func _) (vsC rfl (vsC rfl vsN)) (fref_size (p) (f) (f0) (f1) (f2) (T_f0) (T_f1) (T_f2) _  B129 B130 B131 ) (fun e_ w_ h_ => ⟨_, h_.1, rfl, h_.2⟩)) ?_
  rintro _ w149 ⟨rfl, k150⟩
  have B151 := B129.all k150 Apart.none
  have B152 := B130.all k150 Apart.none
  have B153 := B131.all k150 Apart.none
  have B154 := B132.all k150 id
  have B155 := B133.all k150 id
  have B156 := B134.all k150 id
  have B157 := B135.all k150 Apart.none
  have B158 := B136.all k150 Apart.none
  have B159 := B137.all k150 Apart.none
  have B160 := B127.all k150 id
  have K161 := K138.trans k150 (fun _ _ x => x.elim)
  refine wl_v (.tuple #[.int .i64 ((sizeF (f) (p)).1), .int .i64 ((sizeF (f) (p)).2)]) rfl rfl (y_mov rfl rfl ⟨rfl, rfl⟩) ?_
  refine wl_v (.int .i64 ((sizeF (f) (p)).1)) rfl rfl (y_ext rfl rfl rfl ⟨rfl, rfl⟩) ?_
  refine wl_v (.int .i64 ((sizeF (f) (p)).2)) rfl rfl (y_ext rfl rfl rfl ⟨rfl, rfl⟩) ?_
  refine wl_v (.int .i64 ((sizeF (f) (p)).1)) rfl rfl (y_asg rfl rfl ⟨rfl, rfl⟩) ?_
  refine wl_v (.int .i64 ((sizeF (f) (p)).2)) rfl rfl (y_asg rfl rfl ⟨rfl, rfl⟩) ?_
  refine wl_nil fun F162 hF163 => ?_
  have s164 : F162 1 = .int .i64 (p) := (hF163 1).trans s141
  have s165 : F162 2 = .int .i64 (x) := (hF163 2).trans s142
  have s166 : F162 3 = .int .i64 (y) := (hF163 3).trans s143
  have s167 : F162 72 = undef := (hF163 72).trans s144
  have s168 : F162 9 = .pointer (some ⟨p14, 0, none⟩) := (hF163 9).trans s146
  have s169 : F162 10 = .pointer (some ⟨p30, 0, none⟩) := (hF163 10).trans s147
  have s170 : F162 11 = .pointer (some ⟨p101, 0, none⟩) := (hF163 11).trans s148
  have s171 : F162 12 = .int .i64 ((sizeF (f) (p)).1) := (hF163 12).trans rfl
  have s172 : F162 13 = .int .i64 ((sizeF (f) (p)).2) := (hF163 13).trans rfl
  clear hF163
  refine then_normal ?_
  refine wq_seq ?_
  refine wq_seq ?_
  refine wq_region ?_
  refine wl_v (.int .i64 (0)) rfl rfl (y_asg rfl rfl ⟨rfl, rfl⟩) ?_
  refine wl_nil fun F173 hF174 => ?_
  have s175 : F173 1 = .int .i64 (p) := (hF174 1).trans s164
  have s176 : F173 2 = .int .i64 (x) := (hF174 2).trans s165
  have s177 : F173 3 = .int .i64 (y) := (hF174 3).trans s166
  have s178 : F173 72 = undef := (hF174 72).trans s167
  have s179 : F173 9 = .pointer (some ⟨p14, 0, none⟩) := (hF174 9).trans s168
  have s180 : F173 10 = .pointer (some ⟨p30, 0, none⟩) := (hF174 10).trans s169
  have s181 : F173 11 = .pointer (some ⟨p101, 0, none⟩) := (hF174 11).trans s170
  have s182 : F173 12 = .int .i64 ((sizeF (f) (p)).1) := (hF174 12).trans s171
  have s183 : F173 13 = .int .i64 ((sizeF (f) (p)).2) := (hF174 13).trans s172
  have s184 : F173 14 = .int .i64 (0) := (hF174 14).trans rfl
  clear hF174
  refine then_normal ?_
  refine wq_block ?_
  refine wq_loop (fun nn FF ww => ∃ (i : Nat), ∃ (T185 : Nat → Prop), ∃ (T186 : Nat → Prop), ∃ (T187 : Nat → Prop), (i ≤ 16) ∧ nn = 16 - i ∧ FF 1 = .int .i64 (p) ∧ FF 2 = .int .i64 (x) ∧ FF 3 = .int .i64 (y) ∧ FF 9 = .pointer (some ⟨p14, 0, none⟩) ∧ FF 10 = .pointer (some ⟨p30, 0, none⟩) ∧ FF 11 = .pointer (some ⟨p101, 0, none⟩) ∧ FF 12 = .int .i64 ((sizeF (f) (p)).1) ∧ FF 13 = .int .i64 ((sizeF (f) (p)).2) ∧ FF 72 = undef ∧ FF 14 = .int .i64 (((i : Nat) : Int)) ∧ Kept (fun _ => False) w0 ww ∧ Byt ww (T_f0) f0 ((f).p0) ∧ Byt ww (T_f1) f1 ((f).p1) ∧ Byt ww (T_f2) f2 ((f).p2) ∧ Stc ww p1 25 [.int .i64 ((f).W), .int .i64 ((f).H), f0, f1, f2] ∧ Blk ww p14 26 (b) ∧ Stc ww p30 25 [.int .i64 (0), .int .i64 (0), .slice none 0 0, .slice none 0 0, .slice none 0 0] ∧ Owb ww (T185) v56 ((putTo f p x y b i).p0) ∧ Owb ww (T186) v57 ((putTo f p x y b i).p1) ∧ Owb ww (T187) v58 ((putTo f p x y b i).p2) ∧ Stc ww p101 25 [.int .i64 ((copyF (f)).W), .int .i64 ((copyF (f)).H), v56, v57, v58] ∧ Grew w0 (noB) T185 ∧ Grew w0 (noB) T186 ∧ Grew w0 (noB) T187 ∧ Apart (T185) (T_f0) ∧ Apart (T185) (T_f1) ∧ Apart (T185) (T_f2) ∧ Apart (T185) (onB p1) ∧ Apart (T185) (onB p14) ∧ Apart (T185) (onB p30) ∧ Apart (T185) (T186) ∧ Apart (T185) (T187) ∧ Apart (T185) (onB p101) ∧ Apart (T186) (T_f0) ∧ Apart (T186) (T_f1) ∧ Apart (T186) (T_f2) ∧ Apart (T186) (onB p1) ∧ Apart (T186) (onB p14) ∧ Apart (T186) (onB p30) ∧ Apart (T186) (T187) ∧ Apart (T186) (onB p101) ∧ Apart (T187) (T_f0) ∧ Apart (T187) (T_f1) ∧ Apart (T187) (T_f2) ∧ Apart (T187) (onB p1) ∧ Apart (T187) (onB p14) ∧ Apart (T187) (onB p30) ∧ Apart (T187) (onB p101)) (16 - (0)) ⟨0, T61, T62, T63, by omega, rfl, s175, s176, s177, s179, s180, s181, s182, s183, s178, s184, K161, B151, B152, B153, B154, B155, B156, B157, B158, B159, B160, gr80, gr87, gr94, ap81, ap82, ap83, ap84, ap85, ap86, ap70, ap71, (ap113).symm, ap88, ap89, ap90, ap91, ap92, ap93, ap72, (ap114).symm, ap95, ap96, ap97, ap98, ap99, ap100, (ap115).symm⟩ ?_
  rintro n191 F188 w189 ⟨i, T185, T186, T187, i192, hn191, s193, s194, s195, s196, s197, s198, s199, s200, s201, s202, K190, B203, B204, B205, B206, B207, B208, B209, B210, B211, B212, gr213, gr214, gr215, ap216, ap217, ap218, ap219, ap220, ap221, ap222, ap223, ap224, ap225, ap226, ap227, ap228, ap229, ap230, ap231, ap232, ap233, ap234, ap235, ap236, ap237, ap238, ap239⟩
  refine wq_seq ?_
  refine wq_seq ?_
  refine wq_region ?_
  refine wl_v (.int .i64 (((i : Nat) : Int))) rfl rfl (y_mov rfl s202 ⟨rfl, rfl⟩) ?_
  refine wl_v (.bool (decide ((((i : Nat) : Int)) < (16)))) rfl rfl (y_lss rfl rfl rfl rfl ⟨rfl, rfl⟩) ?_
  refine wl_nil fun F240 hF241 => ?_
  have s242 : F240 1 = .int .i64 (p) := (hF241 1).trans s193
  have s243 : F240 2 = .int .i64 (x) := (hF241 2).trans s194
  have s244 : F240 3 = .int .i64 (y) := (hF241 3).trans s195
  have s245 : F240 9 = .pointer (some ⟨p14, 0, none⟩) := (hF241 9).trans s196
  have s246 : F240 10 = .pointer (some ⟨p30, 0, none⟩) := (hF241 10).trans s197
  have s247 : F240 11 = .pointer (some ⟨p101, 0, none⟩) := (hF241 11).trans s198
  have s248 : F240 12 = .int .i64 ((sizeF (f) (p)).1) := (hF241 12).trans s199
  have s249 : F240 13 = .int .i64 ((sizeF (f) (p)).2) := (hF241 13).trans s200
  have s250 : F240 72 = undef := (hF241 72).trans s201
  have s251 : F240 14 = .int .i64 (((i : Nat) : Int)) := (hF241 14).trans s202
  have s252 : F240 26 = .bool (decide ((((i : Nat) : Int)) < (16))) := (hF241 26).trans rfl
  clear hF241
  refine then_normal ?_
  refine wq_cond s252 (fun c253 => ?_) (fun c253 => ?_)
  · replace c253 := of_decide_eq_true c253
    refine wq_skip ?_
    refine then_normal ?_
    refine wq_seq ?_
    refine wq_block ?_
    refine wq_seq ?_
    refine wq_region ?_
    refine wl_v (.int .i64 (x)) rfl rfl (y_mov rfl s243 ⟨rfl, rfl⟩) ?_
    refine wl_call (R := fun v_ w_ => v_ = .int .i64 (nearI (x)) ∧ Kept (fun _ => False) w189 w_) rfl rfl (y_cs rfl rfl rfl (fun _ _ => by kernel_rfl) (ev_func _) (vsC rfl vsN) (fref_near (x)  _   ) (fun e_ w_ h_ => ⟨_, h_.1, rfl, h_.2⟩)) ?_
    rintro _ w254 ⟨rfl, k255⟩
    have B256 := B203.all k255 Apart.none
    have B257 := B204.all k255 Apart.none
    have B258 := B205.all k255 Apart.none
    have B259 := B206.all k255 id
    have B260 := B207.all k255 id
    have B261 := B208.all k255 id
    have B262 := B209.all k255 Apart.none
    have B263 := B210.all k255 Apart.none
    have B264 := B211.all k255 Apart.none
    have B265 := B212.all k255 id
    have K266 := K190.trans k255 (fun _ _ x => x.elim)
    refine wl_v (.int .i64 (((i : Nat) : Int))) rfl rfl (y_mov rfl s251 ⟨rfl, rfl⟩) ?_
    refine wl_v (.int .i64 ((((i % 4) : Nat) : Int))) rfl rfl (y_rem rfl rfl rfl (by first | decide | omega) (rem_nat i 4) ⟨rfl, rfl⟩) ?_
    refine wl_v (.int .i64 ((nearI (x)) + ((((i % 4) : Nat) : Int)))) rfl rfl (y_add rfl rfl rfl (i64_i rfl (by omega)) ⟨rfl, rfl⟩) ?_
    refine wl_v (.int .i64 ((nearI (x)) + ((((i % 4) : Nat) : Int)))) rfl rfl (y_asg rfl rfl ⟨rfl, rfl⟩) ?_
    refine wl_nil fun F267 hF268 => ?_
    have s269 : F267 1 = .int .i64 (p) := (hF268 1).trans s242
    have s270 : F267 2 = .int .i64 (x) := (hF268 2).trans s243
    have s271 : F267 3 = .int .i64 (y) := (hF268 3).trans s244
    have s272 : F267 9 = .pointer (some ⟨p14, 0, none⟩) := (hF268 9).trans s245
    have s273 : F267 10 = .pointer (some ⟨p30, 0, none⟩) := (hF268 10).trans s246
    have s274 : F267 11 = .pointer (some ⟨p101, 0, none⟩) := (hF268 11).trans s247
    have s275 : F267 12 = .int .i64 ((sizeF (f) (p)).1) := (hF268 12).trans s248
    have s276 : F267 13 = .int .i64 ((sizeF (f) (p)).2) := (hF268 13).trans s249
    have s277 : F267 72 = undef := (hF268 72).trans s250
    have s278 : F267 14 = .int .i64 (((i : Nat) : Int)) := (hF268 14).trans s251
    have s279 : F267 15 = .int .i64 ((nearI (x)) + ((((i % 4) : Nat) : Int))) := (hF268 15).trans rfl
    clear hF268
    refine then_normal ?_
    refine wq_seq ?_
    refine wq_region ?_
    refine wl_v (.int .i64 (y)) rfl rfl (y_mov rfl s271 ⟨rfl, rfl⟩) ?_
    refine wl_call (R := fun v_ w_ => v_ = .int .i64 (nearI (y)) ∧ Kept (fun _ => False) w254 w_) rfl rfl (y_cs rfl rfl rfl (fun _ _ => by kernel_rfl) (ev_func _) (vsC rfl vsN) (fref_near (y)  _   ) (fun e_ w_ h_ => ⟨_, h_.1, rfl, h_.2⟩)) ?_
    rintro _ w280 ⟨rfl, k281⟩
    have B282 := B256.all k281 Apart.none
    have B283 := B257.all k281 Apart.none
    have B284 := B258.all k281 Apart.none
    have B285 := B259.all k281 id
    have B286 := B260.all k281 id
    have B287 := B261.all k281 id
    have B288 := B262.all k281 Apart.none
    have B289 := B263.all k281 Apart.none
    have B290 := B264.all k281 Apart.none
    have B291 := B265.all k281 id
    have K292 := K266.trans k281 (fun _ _ x => x.elim)
    refine wl_v (.int .i64 (((i : Nat) : Int))) rfl rfl (y_mov rfl s278 ⟨rfl, rfl⟩) ?_
    refine wl_v (.int .i64 ((((i / 4) : Nat) : Int))) rfl rfl (y_quo rfl rfl rfl (by first | decide | omega) (i64_n (quo_nat i 4) (by omega)) ⟨rfl, rfl⟩) ?_
    refine wl_v (.int .i64 ((nearI (y)) + ((((i / 4) : Nat) : Int)))) rfl rfl (y_add rfl rfl rfl (i64_i rfl (by omega)) ⟨rfl, rfl⟩) ?_
    refine wl_v (.int .i64 ((nearI (y)) + ((((i / 4) : Nat) : Int)))) rfl rfl (y_asg rfl rfl ⟨rfl, rfl⟩) ?_
    refine wl_nil fun F293 hF294 => ?_
    have s295 : F293 1 = .int .i64 (p) := (hF294 1).trans s269
    have s296 : F293 2 = .int .i64 (x) := (hF294 2).trans s270
    have s297 : F293 3 = .int .i64 (y) := (hF294 3).trans s271
    have s298 : F293 9 = .pointer (some ⟨p14, 0, none⟩) := (hF294 9).trans s272
    have s299 : F293 10 = .pointer (some ⟨p30, 0, none⟩) := (hF294 10).trans s273
    have s300 : F293 11 = .pointer (some ⟨p101, 0, none⟩) := (hF294 11).trans s274
    have s301 : F293 12 = .int .i64 ((sizeF (f) (p)).1) := (hF294 12).trans s275
    have s302 : F293 13 = .int .i64 ((sizeF (f) (p)).2) := (hF294 13).trans s276
    have s303 : F293 72 = undef := (hF294 72).trans s277
    have s304 : F293 14 = .int .i64 (((i : Nat) : Int)) := (hF294 14).trans s278
    have s305 : F293 15 = .int .i64 ((nearI (x)) + ((((i % 4) : Nat) : Int))) := (hF294 15).trans s279
    have s306 : F293 16 = .int .i64 ((nearI (y)) + ((((i / 4) : Nat) : Int))) := (hF294 16).trans rfl
    clear hF294
    refine then_normal ?_
    refine wq_seq ?_
    by_cases d307 : (0) ≤ ((nearI (x)) + ((((i % 4) : Nat) : Int)))
    · skip
      by_cases d308 : ((nearI (x)) + ((((i % 4) : Nat) : Int))) < ((sizeF (f) (p)).1)
      · skip
        by_cases d309 : (0) ≤ ((nearI (y)) + ((((i / 4) : Nat) : Int)))
        · skip
          refine wq_region ?_
          refine wl_v (.int .i64 ((nearI (x)) + ((((i % 4) : Nat) : Int)))) rfl rfl (y_mov rfl s305 ⟨rfl, rfl⟩) ?_
          refine wl_v (.bool true) rfl rfl (y_geq rfl rfl rfl (decide_eq_true d307) ⟨rfl, rfl⟩) ?_
          refine wl_v (.bool true) rfl rfl (y_mov rfl rfl ⟨rfl, rfl⟩) ?_
          refine wl_vw (.int .i64 ((nearI (x)) + ((((i % 4) : Nat) : Int)))) 2 true 41 rfl rfl rfl rfl rfl (y_mov rfl s305 ⟨rfl, rfl⟩) ?_
          refine wl_vw (.int .i64 ((sizeF (f) (p)).1)) 2 true 41 rfl rfl rfl rfl rfl (y_mov rfl s301 ⟨rfl, rfl⟩) ?_
          refine wl_vw (.bool true) 2 true 41 rfl rfl rfl rfl rfl (y_lss rfl rfl rfl (decide_eq_true d308) ⟨rfl, rfl⟩) ?_
          refine wl_v (.bool true) rfl rfl (y_pickT rfl rfl rfl ⟨rfl, rfl⟩) ?_
          refine wl_v (.bool true) rfl rfl (y_mov rfl rfl ⟨rfl, rfl⟩) ?_
          refine wl_vw (.int .i64 ((nearI (y)) + ((((i / 4) : Nat) : Int)))) 7 true 46 rfl rfl rfl rfl rfl (y_mov rfl s306 ⟨rfl, rfl⟩) ?_
          refine wl_vw (.bool true) 7 true 46 rfl rfl rfl rfl rfl (y_geq rfl rfl rfl (decide_eq_true d309) ⟨rfl, rfl⟩) ?_
          refine wl_v (.bool true) rfl rfl (y_pickT rfl rfl rfl ⟨rfl, rfl⟩) ?_
          refine wl_v (.bool true) rfl rfl (y_mov rfl rfl ⟨rfl, rfl⟩) ?_
          refine wl_vw (.int .i64 ((nearI (y)) + ((((i / 4) : Nat) : Int)))) 11 true 50 rfl rfl rfl rfl rfl (y_mov rfl s306 ⟨rfl, rfl⟩) ?_
          refine wl_vw (.int .i64 ((sizeF (f) (p)).2)) 11 true 50 rfl rfl rfl rfl rfl (y_mov rfl s302 ⟨rfl, rfl⟩) ?_
          refine wl_vw (.bool (decide (((nearI (y)) + ((((i / 4) : Nat) : Int))) < ((sizeF (f) (p)).2)))) 11 true 50 rfl rfl rfl rfl rfl (y_lss rfl rfl rfl rfl ⟨rfl, rfl⟩) ?_
          refine wl_v (.bool (decide (((nearI (y)) + ((((i / 4) : Nat) : Int))) < ((sizeF (f) (p)).2)))) rfl rfl (y_pickT rfl rfl rfl ⟨rfl, rfl⟩) ?_
          refine wl_nil fun F310 hF311 => ?_
          have s312 : F310 1 = .int .i64 (p) := (hF311 1).trans s295
          have s313 : F310 2 = .int .i64 (x) := (hF311 2).trans s296
          have s314 : F310 3 = .int .i64 (y) := (hF311 3).trans s297
          have s315 : F310 9 = .pointer (some ⟨p14, 0, none⟩) := (hF311 9).trans s298
          have s316 : F310 10 = .pointer (some ⟨p30, 0, none⟩) := (hF311 10).trans s299
          have s317 : F310 11 = .pointer (some ⟨p101, 0, none⟩) := (hF311 11).trans s300
          have s318 : F310 12 = .int .i64 ((sizeF (f) (p)).1) := (hF311 12).trans s301
          have s319 : F310 13 = .int .i64 ((sizeF (f) (p)).2) := (hF311 13).trans s302
          have s320 : F310 72 = undef := (hF311 72).trans s303
          have s321 : F310 14 = .int .i64 (((i : Nat) : Int)) := (hF311 14).trans s304
          have s322 : F310 15 = .int .i64 ((nearI (x)) + ((((i % 4) : Nat) : Int))) := (hF311 15).trans s305
          have s323 : F310 16 = .int .i64 ((nearI (y)) + ((((i / 4) : Nat) : Int))) := (hF311 16).trans s306
          have s324 : F310 54 = .bool (decide (((nearI (y)) + ((((i / 4) : Nat) : Int))) < ((sizeF (f) (p)).2))) := (hF311 54).trans rfl
          clear hF311
          refine then_normal ?_
          refine wq_cond s324 (fun c325 => ?_) (fun c325 => ?_)
          · replace c325 := of_decide_eq_true c325
            rcases (show p = 0 ∨ p = 1 ∨ p = 2 from size_cases (f := f) (by omega)) with rfl | rfl | rfl
            · skip
              have hin : within (sizeF f 0).1 (sizeF f 0).2 (nearI x + ((i % 4 : Nat) : Int)) (nearI y + ((i / 4 : Nat) : Int)) := ⟨by omega, by omega, by omega, by omega⟩
              have hc := within_cell hin
              have hls := put_lens x y b i hc.1
              have hby := byteI_lt (b i)
              refine wq_tail 16 [some 55, some 56, some 57, some 58, some 59, some 60, some 61, some 62, some 63, some 64, some 65, some 66, some 67, some 68, some 69, some 70] [Pd.eq (.int .i64 (0)), Pd.eq (.pointer (some ⟨p101, 2, none⟩)), Pd.eq (.pointer (some ⟨p101, 2, none⟩)), Pd.eq (v56), Pd.eq (.int .i64 ((nearI (y)) + ((((i / 4) : Nat) : Int)))), Pd.eq (.int .i64 ((sizeF (f) (0)).1)), Pd.eq (.int .i64 ((nearI y + ((i / 4 : Nat) : Int)) * (sizeF f 0).1)), Pd.eq (.int .i64 ((nearI (x)) + ((((i % 4) : Nat) : Int)))), Pd.eq (.int .i64 (((((nearI y + ((i / 4 : Nat) : Int)) * (sizeF f 0).1 + (nearI x + ((i % 4 : Nat) : Int))).toNat : Nat) : Int))), Pd.eq (.int .i64 (((i : Nat) : Int))), Pd.eq (.pointer (some ⟨p14, i, none⟩)), Pd.eq (.int .i64 ((b) (i))), Pd.eq (.int .i64 (max ((b) (i)) (0))), Pd.eq (.int .i64 (min (max ((b) (i)) (0)) (255))), Pd.eq (.int .u8 (((byteI (b i) : Nat) : Int))), Pd.eq (bytAddr (v56) (((nearI y + ((i / 4 : Nat) : Int)) * (sizeF f 0).1 + (nearI x + ((i % 4 : Nat) : Int))).toNat))] (by kernel_rfl) (by kernel_rfl) (by kernel_rfl) ?_ ?_
              · refine stepsF_cons ?_ ?_
                · refine StepF.one rfl fun F_ w_ hR hout hD => ?_
                  exact (y_mov rfl ((hout 1 rfl (by decide)).trans s312) ⟨rfl, Kept.refl _ _⟩)
                refine stepsF_cons ?_ ?_
                · refine StepF.one rfl fun F_ w_ hR hout hD => ?_
                  exact (y_fieldR (n := 3) rfl ((hout 11 rfl (by decide)).trans s317) Try.underlying25 rfl (by kernel_rfl) (by decide) rfl ⟨rfl, Kept.refl _ _⟩)
                refine stepsF_cons ?_ ?_
                · refine StepF.one rfl fun F_ w_ hR hout hD => ?_
                  have g56 : F_ 56 = .pointer (some ⟨p101, 2, none⟩) := hD.get 0 rfl rfl rfl
                  have g55 : F_ 55 = .int .i64 (0) := hD.get 1 rfl rfl rfl
                  exact (y_atR (0) (s := 1) rfl g56 g55 (by omega) Try.underlying23 (by omega) (by kernel_rfl) (by omega) ⟨rfl, Kept.refl _ _⟩)
                refine stepsF_cons ?_ ?_
                · refine StepF.one rfl fun F_ w_ hR hout hD => ?_
                  have g57 : F_ 57 = .pointer (some ⟨p101, 2, none⟩) := hD.get 0 rfl rfl rfl
                  exact (y_ld_stc rfl g57 Try.underlying22 (B291.all hR id) rfl rfl ⟨rfl, Kept.refl _ _⟩)
                refine stepsF_cons ?_ ?_
                · refine StepF.one rfl fun F_ w_ hR hout hD => ?_
                  exact (y_mov rfl ((hout 16 rfl (by decide)).trans s323) ⟨rfl, Kept.refl _ _⟩)
                refine stepsF_cons ?_ ?_
                · refine StepF.one rfl fun F_ w_ hR hout hD => ?_
                  exact (y_mov rfl ((hout 12 rfl (by decide)).trans s318) ⟨rfl, Kept.refl _ _⟩)
                refine stepsF_cons ?_ ?_
                · refine StepF.one rfl fun F_ w_ hR hout hD => ?_
                  have g59 : F_ 59 = .int .i64 ((nearI (y)) + ((((i / 4) : Nat) : Int))) := hD.get 0 rfl rfl rfl
                  have g60 : F_ 60 = .int .i64 ((sizeF (f) (0)).1) := hD.get 1 rfl rfl rfl
                  exact (y_mul rfl g59 g60 (i64_i rfl (by omega)) ⟨rfl, Kept.refl _ _⟩)
                refine stepsF_cons ?_ ?_
                · refine StepF.one rfl fun F_ w_ hR hout hD => ?_
                  exact (y_mov rfl ((hout 15 rfl (by decide)).trans s322) ⟨rfl, Kept.refl _ _⟩)
                refine stepsF_cons ?_ ?_
                · refine StepF.one rfl fun F_ w_ hR hout hD => ?_
                  have g61 : F_ 61 = .int .i64 ((nearI y + ((i / 4 : Nat) : Int)) * (sizeF f 0).1) := hD.get 0 rfl rfl rfl
                  have g62 : F_ 62 = .int .i64 ((nearI (x)) + ((((i % 4) : Nat) : Int))) := hD.get 1 rfl rfl rfl
                  exact (y_add rfl g61 g62 ((i64_i rfl (by omega)).trans (Int.toNat_of_nonneg (by omega)).symm) ⟨rfl, Kept.refl _ _⟩)
                refine stepsF_cons ?_ ?_
                · refine StepF.one rfl fun F_ w_ hR hout hD => ?_
                  exact (y_mov rfl ((hout 14 rfl (by decide)).trans s321) ⟨rfl, Kept.refl _ _⟩)
                refine stepsF_cons ?_ ?_
                · refine StepF.one rfl fun F_ w_ hR hout hD => ?_
                  have g64 : F_ 64 = .int .i64 (((i : Nat) : Int)) := hD.get 0 rfl rfl rfl
                  exact (y_atR (i) (s := 1) rfl ((hout 9 rfl (by decide)).trans s315) g64 (by omega) Try.underlying26 (by omega) (by kernel_rfl) (by omega) ⟨rfl, Kept.refl _ _⟩)
                refine stepsF_cons ?_ ?_
                · refine StepF.one rfl fun F_ w_ hR hout hD => ?_
                  have g65 : F_ 65 = .pointer (some ⟨p14, i, none⟩) := hD.get 0 rfl rfl rfl
                  exact (y_ldR rfl g65 Try.underlying3 (((B286.all hR id)).cell (by omega)) ⟨rfl, Kept.refl _ _⟩)
                refine stepsF_cons ?_ ?_
                · refine StepF.one rfl fun F_ w_ hR hout hD => ?_
                  have g66 : F_ 66 = .int .i64 ((b) (i)) := hD.get 0 rfl rfl rfl
                  exact (y_maxR rfl g66 rfl rfl ⟨rfl, Kept.refl _ _⟩)
                refine stepsF_cons ?_ ?_
                · refine StepF.one rfl fun F_ w_ hR hout hD => ?_
                  have g67 : F_ 67 = .int .i64 (max ((b) (i)) (0)) := hD.get 0 rfl rfl rfl
                  exact (y_minR rfl g67 rfl rfl ⟨rfl, Kept.refl _ _⟩)
                refine stepsF_cons ?_ ?_
                · refine StepF.one rfl fun F_ w_ hR hout hD => ?_
                  have g68 : F_ 68 = .int .i64 (min (max ((b) (i)) (0)) (255)) := hD.get 0 rfl rfl rfl
                  exact (y_convR rfl g68 Try.underlying3 Try.underlying5 (u8_byte (b i)) ⟨rfl, Kept.refl _ _⟩)
                refine stepsF_cons ?_ ?_
                · refine StepF.one rfl fun F_ w_ hR hout hD => ?_
                  have g58 : F_ 58 = v56 := hD.get 0 rfl rfl rfl
                  have g63 : F_ 63 = .int .i64 (((((nearI y + ((i / 4 : Nat) : Int)) * (sizeF f 0).1 + (nearI x + ((i % 4 : Nat) : Int))).toNat : Nat) : Int)) := hD.get 1 rfl rfl rfl
                  exact (y_atB (((nearI y + ((i / 4 : Nat) : Int)) * (sizeF f 0).1 + (nearI x + ((i % 4 : Nat) : Int))).toNat) rfl g58 g63 (by omega) ((B288.all hR Apart.none)).byt (by have h := hc.2.2.2.2; first | (have h2 : (FD.pl f 0).length = (putTo f 0 x y b i).p0.length := hls.1.symm; omega) | (have h2 : (FD.pl f 0).length = (putTo f 0 x y b i).p1.length := hls.2.1.symm; omega) | (have h2 : (FD.pl f 0).length = (putTo f 0 x y b i).p2.length := hls.2.2.symm; omega)) ⟨rfl, Kept.refl _ _⟩)
                exact stepsF_nil
              intro v326 F327 w328 k329 G330 hF331
              have B333 := B282.all k329 Apart.none
              have B334 := B283.all k329 Apart.none
              have B335 := B284.all k329 Apart.none
              have B336 := B285.all k329 id
              have B337 := B286.all k329 id
              have B338 := B287.all k329 id
              have B339 := B288.all k329 Apart.none
              have B340 := B289.all k329 Apart.none
              have B341 := B290.all k329 Apart.none
              have B342 := B291.all k329 id
              have K343 := K292.trans k329 (fun _ _ x => x.elim)
              have s344 : F327 1 = .int .i64 (0) := (hF331 1).trans s312
              have s345 : F327 2 = .int .i64 (x) := (hF331 2).trans s313
              have s346 : F327 3 = .int .i64 (y) := (hF331 3).trans s314
              have s347 : F327 9 = .pointer (some ⟨p14, 0, none⟩) := (hF331 9).trans s315
              have s348 : F327 10 = .pointer (some ⟨p30, 0, none⟩) := (hF331 10).trans s316
              have s349 : F327 11 = .pointer (some ⟨p101, 0, none⟩) := (hF331 11).trans s317
              have s350 : F327 12 = .int .i64 ((sizeF (f) (0)).1) := (hF331 12).trans s318
              have s351 : F327 13 = .int .i64 ((sizeF (f) (0)).2) := (hF331 13).trans s319
              have s352 : F327 72 = undef := (hF331 72).trans s320
              have s353 : F327 14 = .int .i64 (((i : Nat) : Int)) := (hF331 14).trans s321
              have s354 : F327 69 = .int .u8 (((byteI (b i) : Nat) : Int)) := (hF331 69).trans (G330 14 (by decide))
              have s355 : F327 70 = bytAddr (v56) (((nearI y + ((i / 4 : Nat) : Int)) * (sizeF f 0).1 + (nearI x + ((i % 4 : Nat) : Int))).toNat) := (hF331 70).trans (G330 15 (by decide))
              clear G330 hF331
              refine wl_setB (n := byteI (b i)) rfl rfl rfl s355 s354 (by omega) B339 (by have h := hc.2.2.2.2; first | (have h2 : (FD.pl f 0).length = (putTo f 0 x y b i).p0.length := hls.1.symm; omega) | (have h2 : (FD.pl f 0).length = (putTo f 0 x y b i).p1.length := hls.2.1.symm; omega) | (have h2 : (FD.pl f 0).length = (putTo f 0 x y b i).p2.length := hls.2.2.symm; omega)) (by omega) fun w356 B357 k358 => ?_
              have B359 := B333.all k358 (fun i h x => (((ap216).symm) i h x))
              have B360 := B334.all k358 (fun i h x => (((ap217).symm) i h x))
              have B361 := B335.all k358 (fun i h x => (((ap218).symm) i h x))
              have B362 := B336.all k358 (fun x => (((ap219).symm) p1 rfl x))
              have B363 := B337.all k358 (fun x => (((ap220).symm) p14 rfl x))
              have B364 := B338.all k358 (fun x => (((ap221).symm) p30 rfl x))
              have B365 := B340.all k358 (fun i h x => (((ap222).symm) i h x))
              have B366 := B341.all k358 (fun i h x => (((ap223).symm) i h x))
              have B367 := B342.all k358 (fun x => (((ap224).symm) p101 rfl x))
              have K368 := K343.trans k358 (Grew.ok (S := fun _ => False) gr213 noB_le)
              refine wl_nil fun F369 hF370 => ?_
              have s371 : F369 1 = .int .i64 (0) := (hF370 1).trans s344
              have s372 : F369 2 = .int .i64 (x) := (hF370 2).trans s345
              have s373 : F369 3 = .int .i64 (y) := (hF370 3).trans s346
              have s374 : F369 9 = .pointer (some ⟨p14, 0, none⟩) := (hF370 9).trans s347
              have s375 : F369 10 = .pointer (some ⟨p30, 0, none⟩) := (hF370 10).trans s348
              have s376 : F369 11 = .pointer (some ⟨p101, 0, none⟩) := (hF370 11).trans s349
              have s377 : F369 12 = .int .i64 ((sizeF (f) (0)).1) := (hF370 12).trans s350
              have s378 : F369 13 = .int .i64 ((sizeF (f) (0)).2) := (hF370 13).trans s351
              have s379 : F369 72 = undef := (hF370 72).trans s352
              have s380 : F369 14 = .int .i64 (((i : Nat) : Int)) := (hF370 14).trans s353
              clear hF370
              refine in_normal ?_
              refine then_normal ?_
              refine wq_region ?_
              refine wl_v (.int .i64 (((i : Nat) : Int))) rfl rfl (y_mov rfl s380 ⟨rfl, rfl⟩) ?_
              refine wl_v (.int .i64 (((i + 1 : Nat) : Int))) rfl rfl (y_add rfl rfl rfl (i64_n (by omega) (by omega)) ⟨rfl, rfl⟩) ?_
              refine wl_v (.int .i64 (((i + 1 : Nat) : Int))) rfl rfl (y_asg rfl rfl ⟨rfl, rfl⟩) ?_
              refine wl_nil fun F381 hF382 => ?_
              have s383 : F381 1 = .int .i64 (0) := (hF382 1).trans s371
              have s384 : F381 2 = .int .i64 (x) := (hF382 2).trans s372
              have s385 : F381 3 = .int .i64 (y) := (hF382 3).trans s373
              have s386 : F381 9 = .pointer (some ⟨p14, 0, none⟩) := (hF382 9).trans s374
              have s387 : F381 10 = .pointer (some ⟨p30, 0, none⟩) := (hF382 10).trans s375
              have s388 : F381 11 = .pointer (some ⟨p101, 0, none⟩) := (hF382 11).trans s376
              have s389 : F381 12 = .int .i64 ((sizeF (f) (0)).1) := (hF382 12).trans s377
              have s390 : F381 13 = .int .i64 ((sizeF (f) (0)).2) := (hF382 13).trans s378
              have s391 : F381 72 = undef := (hF382 72).trans s379
              have s392 : F381 14 = .int .i64 (((i + 1 : Nat) : Int)) := (hF382 14).trans rfl
              clear hF382
              exact then_normal ⟨(16 - (i + 1)), by omega, i + 1, T185, T186, T187, by omega, rfl, s383, s384, s385, s386, s387, s388, s389, s390, s391, s392, K368, B359, B360, B361, B362, B363, B364, (by first | (rw [put_in hin]; exact B357) | (rw [put_out (by unfold within; omega)]; exact B357)), (by first | (rw [put_in hin]; exact B365) | (rw [put_out (by unfold within; omega)]; exact B365)), (by first | (rw [put_in hin]; exact B366) | (rw [put_out (by unfold within; omega)]; exact B366)), B367, gr213, gr214, gr215, ap216, ap217, ap218, ap219, ap220, ap221, ap222, ap223, ap224, ap225, ap226, ap227, ap228, ap229, ap230, ap231, ap232, ap233, ap234, ap235, ap236, ap237, ap238, ap239⟩
            · skip
              have hin : within (sizeF f 1).1 (sizeF f 1).2 (nearI x + ((i % 4 : Nat) : Int)) (nearI y + ((i / 4 : Nat) : Int)) := ⟨by omega, by omega, by omega, by omega⟩
              have hc := within_cell hin
              have hls := put_lens x y b i hc.1
              have hby := byteI_lt (b i)
              refine wq_tail 16 [some 55, some 56, some 57, some 58, some 59, some 60, some 61, some 62, some 63, some 64, some 65, some 66, some 67, some 68, some 69, some 70] [Pd.eq (.int .i64 (1)), Pd.eq (.pointer (some ⟨p101, 2, none⟩)), Pd.eq (.pointer (some ⟨p101, 3, none⟩)), Pd.eq (v57), Pd.eq (.int .i64 ((nearI (y)) + ((((i / 4) : Nat) : Int)))), Pd.eq (.int .i64 ((sizeF (f) (1)).1)), Pd.eq (.int .i64 ((nearI y + ((i / 4 : Nat) : Int)) * (sizeF f 1).1)), Pd.eq (.int .i64 ((nearI (x)) + ((((i % 4) : Nat) : Int)))), Pd.eq (.int .i64 (((((nearI y + ((i / 4 : Nat) : Int)) * (sizeF f 1).1 + (nearI x + ((i % 4 : Nat) : Int))).toNat : Nat) : Int))), Pd.eq (.int .i64 (((i : Nat) : Int))), Pd.eq (.pointer (some ⟨p14, i, none⟩)), Pd.eq (.int .i64 ((b) (i))), Pd.eq (.int .i64 (max ((b) (i)) (0))), Pd.eq (.int .i64 (min (max ((b) (i)) (0)) (255))), Pd.eq (.int .u8 (((byteI (b i) : Nat) : Int))), Pd.eq (bytAddr (v57) (((nearI y + ((i / 4 : Nat) : Int)) * (sizeF f 1).1 + (nearI x + ((i % 4 : Nat) : Int))).toNat))] (by kernel_rfl) (by kernel_rfl) (by kernel_rfl) ?_ ?_
              · refine stepsF_cons ?_ ?_
                · refine StepF.one rfl fun F_ w_ hR hout hD => ?_
                  exact (y_mov rfl ((hout 1 rfl (by decide)).trans s312) ⟨rfl, Kept.refl _ _⟩)
                refine stepsF_cons ?_ ?_
                · refine StepF.one rfl fun F_ w_ hR hout hD => ?_
                  exact (y_fieldR (n := 3) rfl ((hout 11 rfl (by decide)).trans s317) Try.underlying25 rfl (by kernel_rfl) (by decide) rfl ⟨rfl, Kept.refl _ _⟩)
                refine stepsF_cons ?_ ?_
                · refine StepF.one rfl fun F_ w_ hR hout hD => ?_
                  have g56 : F_ 56 = .pointer (some ⟨p101, 2, none⟩) := hD.get 0 rfl rfl rfl
                  have g55 : F_ 55 = .int .i64 (1) := hD.get 1 rfl rfl rfl
                  exact (y_atR (1) (s := 1) rfl g56 g55 (by omega) Try.underlying23 (by omega) (by kernel_rfl) (by omega) ⟨rfl, Kept.refl _ _⟩)
                refine stepsF_cons ?_ ?_
                · refine StepF.one rfl fun F_ w_ hR hout hD => ?_
                  have g57 : F_ 57 = .pointer (some ⟨p101, 3, none⟩) := hD.get 0 rfl rfl rfl
                  exact (y_ld_stc rfl g57 Try.underlying22 (B291.all hR id) rfl rfl ⟨rfl, Kept.refl _ _⟩)
                refine stepsF_cons ?_ ?_
                · refine StepF.one rfl fun F_ w_ hR hout hD => ?_
                  exact (y_mov rfl ((hout 16 rfl (by decide)).trans s323) ⟨rfl, Kept.refl _ _⟩)
                refine stepsF_cons ?_ ?_
                · refine StepF.one rfl fun F_ w_ hR hout hD => ?_
                  exact (y_mov rfl ((hout 12 rfl (by decide)).trans s318) ⟨rfl, Kept.refl _ _⟩)
                refine stepsF_cons ?_ ?_
                · refine StepF.one rfl fun F_ w_ hR hout hD => ?_
                  have g59 : F_ 59 = .int .i64 ((nearI (y)) + ((((i / 4) : Nat) : Int))) := hD.get 0 rfl rfl rfl
                  have g60 : F_ 60 = .int .i64 ((sizeF (f) (1)).1) := hD.get 1 rfl rfl rfl
                  exact (y_mul rfl g59 g60 (i64_i rfl (by omega)) ⟨rfl, Kept.refl _ _⟩)
                refine stepsF_cons ?_ ?_
                · refine StepF.one rfl fun F_ w_ hR hout hD => ?_
                  exact (y_mov rfl ((hout 15 rfl (by decide)).trans s322) ⟨rfl, Kept.refl _ _⟩)
                refine stepsF_cons ?_ ?_
                · refine StepF.one rfl fun F_ w_ hR hout hD => ?_
                  have g61 : F_ 61 = .int .i64 ((nearI y + ((i / 4 : Nat) : Int)) * (sizeF f 1).1) := hD.get 0 rfl rfl rfl
                  have g62 : F_ 62 = .int .i64 ((nearI (x)) + ((((i % 4) : Nat) : Int))) := hD.get 1 rfl rfl rfl
                  exact (y_add rfl g61 g62 ((i64_i rfl (by omega)).trans (Int.toNat_of_nonneg (by omega)).symm) ⟨rfl, Kept.refl _ _⟩)
                refine stepsF_cons ?_ ?_
                · refine StepF.one rfl fun F_ w_ hR hout hD => ?_
                  exact (y_mov rfl ((hout 14 rfl (by decide)).trans s321) ⟨rfl, Kept.refl _ _⟩)
                refine stepsF_cons ?_ ?_
                · refine StepF.one rfl fun F_ w_ hR hout hD => ?_
                  have g64 : F_ 64 = .int .i64 (((i : Nat) : Int)) := hD.get 0 rfl rfl rfl
                  exact (y_atR (i) (s := 1) rfl ((hout 9 rfl (by decide)).trans s315) g64 (by omega) Try.underlying26 (by omega) (by kernel_rfl) (by omega) ⟨rfl, Kept.refl _ _⟩)
                refine stepsF_cons ?_ ?_
                · refine StepF.one rfl fun F_ w_ hR hout hD => ?_
                  have g65 : F_ 65 = .pointer (some ⟨p14, i, none⟩) := hD.get 0 rfl rfl rfl
                  exact (y_ldR rfl g65 Try.underlying3 (((B286.all hR id)).cell (by omega)) ⟨rfl, Kept.refl _ _⟩)
                refine stepsF_cons ?_ ?_
                · refine StepF.one rfl fun F_ w_ hR hout hD => ?_
                  have g66 : F_ 66 = .int .i64 ((b) (i)) := hD.get 0 rfl rfl rfl
                  exact (y_maxR rfl g66 rfl rfl ⟨rfl, Kept.refl _ _⟩)
                refine stepsF_cons ?_ ?_
                · refine StepF.one rfl fun F_ w_ hR hout hD => ?_
                  have g67 : F_ 67 = .int .i64 (max ((b) (i)) (0)) := hD.get 0 rfl rfl rfl
                  exact (y_minR rfl g67 rfl rfl ⟨rfl, Kept.refl _ _⟩)
                refine stepsF_cons ?_ ?_
                · refine StepF.one rfl fun F_ w_ hR hout hD => ?_
                  have g68 : F_ 68 = .int .i64 (min (max ((b) (i)) (0)) (255)) := hD.get 0 rfl rfl rfl
                  exact (y_convR rfl g68 Try.underlying3 Try.underlying5 (u8_byte (b i)) ⟨rfl, Kept.refl _ _⟩)
                refine stepsF_cons ?_ ?_
                · refine StepF.one rfl fun F_ w_ hR hout hD => ?_
                  have g58 : F_ 58 = v57 := hD.get 0 rfl rfl rfl
                  have g63 : F_ 63 = .int .i64 (((((nearI y + ((i / 4 : Nat) : Int)) * (sizeF f 1).1 + (nearI x + ((i % 4 : Nat) : Int))).toNat : Nat) : Int)) := hD.get 1 rfl rfl rfl
                  exact (y_atB (((nearI y + ((i / 4 : Nat) : Int)) * (sizeF f 1).1 + (nearI x + ((i % 4 : Nat) : Int))).toNat) rfl g58 g63 (by omega) ((B289.all hR Apart.none)).byt (by have h := hc.2.2.2.2; first | (have h2 : (FD.pl f 1).length = (putTo f 1 x y b i).p0.length := hls.1.symm; omega) | (have h2 : (FD.pl f 1).length = (putTo f 1 x y b i).p1.length := hls.2.1.symm; omega) | (have h2 : (FD.pl f 1).length = (putTo f 1 x y b i).p2.length := hls.2.2.symm; omega)) ⟨rfl, Kept.refl _ _⟩)
                exact stepsF_nil
              intro v393 F394 w395 k396 G397 hF398
              have B400 := B282.all k396 Apart.none
              have B401 := B283.all k396 Apart.none
              have B402 := B284.all k396 Apart.none
              have B403 := B285.all k396 id
              have B404 := B286.all k396 id
              have B405 := B287.all k396 id
              have B406 := B288.all k396 Apart.none
              have B407 := B289.all k396 Apart.none
              have B408 := B290.all k396 Apart.none
              have B409 := B291.all k396 id
              have K410 := K292.trans k396 (fun _ _ x => x.elim)
              have s411 : F394 1 = .int .i64 (1) := (hF398 1).trans s312
              have s412 : F394 2 = .int .i64 (x) := (hF398 2).trans s313
              have s413 : F394 3 = .int .i64 (y) := (hF398 3).trans s314
              have s414 : F394 9 = .pointer (some ⟨p14, 0, none⟩) := (hF398 9).trans s315
              have s415 : F394 10 = .pointer (some ⟨p30, 0, none⟩) := (hF398 10).trans s316
              have s416 : F394 11 = .pointer (some ⟨p101, 0, none⟩) := (hF398 11).trans s317
              have s417 : F394 12 = .int .i64 ((sizeF (f) (1)).1) := (hF398 12).trans s318
              have s418 : F394 13 = .int .i64 ((sizeF (f) (1)).2) := (hF398 13).trans s319
              have s419 : F394 72 = undef := (hF398 72).trans s320
              have s420 : F394 14 = .int .i64 (((i : Nat) : Int)) := (hF398 14).trans s321
              have s421 : F394 69 = .int .u8 (((byteI (b i) : Nat) : Int)) := (hF398 69).trans (G397 14 (by decide))
              have s422 : F394 70 = bytAddr (v57) (((nearI y + ((i / 4 : Nat) : Int)) * (sizeF f 1).1 + (nearI x + ((i % 4 : Nat) : Int))).toNat) := (hF398 70).trans (G397 15 (by decide))
              clear G397 hF398
              refine wl_setB (n := byteI (b i)) rfl rfl rfl s422 s421 (by omega) B407 (by have h := hc.2.2.2.2; first | (have h2 : (FD.pl f 1).length = (putTo f 1 x y b i).p0.length := hls.1.symm; omega) | (have h2 : (FD.pl f 1).length = (putTo f 1 x y b i).p1.length := hls.2.1.symm; omega) | (have h2 : (FD.pl f 1).length = (putTo f 1 x y b i).p2.length := hls.2.2.symm; omega)) (by omega) fun w423 B424 k425 => ?_
              have B426 := B400.all k425 (fun i h x => (((ap225).symm) i h x))
              have B427 := B401.all k425 (fun i h x => (((ap226).symm) i h x))
              have B428 := B402.all k425 (fun i h x => (((ap227).symm) i h x))
              have B429 := B403.all k425 (fun x => (((ap228).symm) p1 rfl x))
              have B430 := B404.all k425 (fun x => (((ap229).symm) p14 rfl x))
              have B431 := B405.all k425 (fun x => (((ap230).symm) p30 rfl x))
              have B432 := B406.all k425 (fun i h x => ((ap222) i h x))
              have B433 := B408.all k425 (fun i h x => (((ap231).symm) i h x))
              have B434 := B409.all k425 (fun x => (((ap232).symm) p101 rfl x))
              have K435 := K410.trans k425 (Grew.ok (S := fun _ => False) gr214 noB_le)
              refine wl_nil fun F436 hF437 => ?_
              have s438 : F436 1 = .int .i64 (1) := (hF437 1).trans s411
              have s439 : F436 2 = .int .i64 (x) := (hF437 2).trans s412
              have s440 : F436 3 = .int .i64 (y) := (hF437 3).trans s413
              have s441 : F436 9 = .pointer (some ⟨p14, 0, none⟩) := (hF437 9).trans s414
              have s442 : F436 10 = .pointer (some ⟨p30, 0, none⟩) := (hF437 10).trans s415
              have s443 : F436 11 = .pointer (some ⟨p101, 0, none⟩) := (hF437 11).trans s416
              have s444 : F436 12 = .int .i64 ((sizeF (f) (1)).1) := (hF437 12).trans s417
              have s445 : F436 13 = .int .i64 ((sizeF (f) (1)).2) := (hF437 13).trans s418
              have s446 : F436 72 = undef := (hF437 72).trans s419
              have s447 : F436 14 = .int .i64 (((i : Nat) : Int)) := (hF437 14).trans s420
              clear hF437
              refine in_normal ?_
              refine then_normal ?_
              refine wq_region ?_
              refine wl_v (.int .i64 (((i : Nat) : Int))) rfl rfl (y_mov rfl s447 ⟨rfl, rfl⟩) ?_
              refine wl_v (.int .i64 (((i + 1 : Nat) : Int))) rfl rfl (y_add rfl rfl rfl (i64_n (by omega) (by omega)) ⟨rfl, rfl⟩) ?_
              refine wl_v (.int .i64 (((i + 1 : Nat) : Int))) rfl rfl (y_asg rfl rfl ⟨rfl, rfl⟩) ?_
              refine wl_nil fun F448 hF449 => ?_
              have s450 : F448 1 = .int .i64 (1) := (hF449 1).trans s438
              have s451 : F448 2 = .int .i64 (x) := (hF449 2).trans s439
              have s452 : F448 3 = .int .i64 (y) := (hF449 3).trans s440
              have s453 : F448 9 = .pointer (some ⟨p14, 0, none⟩) := (hF449 9).trans s441
              have s454 : F448 10 = .pointer (some ⟨p30, 0, none⟩) := (hF449 10).trans s442
              have s455 : F448 11 = .pointer (some ⟨p101, 0, none⟩) := (hF449 11).trans s443
              have s456 : F448 12 = .int .i64 ((sizeF (f) (1)).1) := (hF449 12).trans s444
              have s457 : F448 13 = .int .i64 ((sizeF (f) (1)).2) := (hF449 13).trans s445
              have s458 : F448 72 = undef := (hF449 72).trans s446
              have s459 : F448 14 = .int .i64 (((i + 1 : Nat) : Int)) := (hF449 14).trans rfl
              clear hF449
              exact then_normal ⟨(16 - (i + 1)), by omega, i + 1, T185, T186, T187, by omega, rfl, s450, s451, s452, s453, s454, s455, s456, s457, s458, s459, K435, B426, B427, B428, B429, B430, B431, (by first | (rw [put_in hin]; exact B432) | (rw [put_out (by unfold within; omega)]; exact B432)), (by first | (rw [put_in hin]; exact B424) | (rw [put_out (by unfold within; omega)]; exact B424)), (by first | (rw [put_in hin]; exact B433) | (rw [put_out (by unfold within; omega)]; exact B433)), B434, gr213, gr214, gr215, ap216, ap217, ap218, ap219, ap220, ap221, ap222, ap223, ap224, ap225, ap226, ap227, ap228, ap229, ap230, ap231, ap232, ap233, ap234, ap235, ap236, ap237, ap238, ap239⟩
            · skip
              have hin : within (sizeF f 2).1 (sizeF f 2).2 (nearI x + ((i % 4 : Nat) : Int)) (nearI y + ((i / 4 : Nat) : Int)) := ⟨by omega, by omega, by omega, by omega⟩
              have hc := within_cell hin
              have hls := put_lens x y b i hc.1
              have hby := byteI_lt (b i)
              refine wq_tail 16 [some 55, some 56, some 57, some 58, some 59, some 60, some 61, some 62, some 63, some 64, some 65, some 66, some 67, some 68, some 69, some 70] [Pd.eq (.int .i64 (2)), Pd.eq (.pointer (some ⟨p101, 2, none⟩)), Pd.eq (.pointer (some ⟨p101, 4, none⟩)), Pd.eq (v58), Pd.eq (.int .i64 ((nearI (y)) + ((((i / 4) : Nat) : Int)))), Pd.eq (.int .i64 ((sizeF (f) (2)).1)), Pd.eq (.int .i64 ((nearI y + ((i / 4 : Nat) : Int)) * (sizeF f 2).1)), Pd.eq (.int .i64 ((nearI (x)) + ((((i % 4) : Nat) : Int)))), Pd.eq (.int .i64 (((((nearI y + ((i / 4 : Nat) : Int)) * (sizeF f 2).1 + (nearI x + ((i % 4 : Nat) : Int))).toNat : Nat) : Int))), Pd.eq (.int .i64 (((i : Nat) : Int))), Pd.eq (.pointer (some ⟨p14, i, none⟩)), Pd.eq (.int .i64 ((b) (i))), Pd.eq (.int .i64 (max ((b) (i)) (0))), Pd.eq (.int .i64 (min (max ((b) (i)) (0)) (255))), Pd.eq (.int .u8 (((byteI (b i) : Nat) : Int))), Pd.eq (bytAddr (v58) (((nearI y + ((i / 4 : Nat) : Int)) * (sizeF f 2).1 + (nearI x + ((i % 4 : Nat) : Int))).toNat))] (by kernel_rfl) (by kernel_rfl) (by kernel_rfl) ?_ ?_
              · refine stepsF_cons ?_ ?_
                · refine StepF.one rfl fun F_ w_ hR hout hD => ?_
                  exact (y_mov rfl ((hout 1 rfl (by decide)).trans s312) ⟨rfl, Kept.refl _ _⟩)
                refine stepsF_cons ?_ ?_
                · refine StepF.one rfl fun F_ w_ hR hout hD => ?_
                  exact (y_fieldR (n := 3) rfl ((hout 11 rfl (by decide)).trans s317) Try.underlying25 rfl (by kernel_rfl) (by decide) rfl ⟨rfl, Kept.refl _ _⟩)
                refine stepsF_cons ?_ ?_
                · refine StepF.one rfl fun F_ w_ hR hout hD => ?_
                  have g56 : F_ 56 = .pointer (some ⟨p101, 2, none⟩) := hD.get 0 rfl rfl rfl
                  have g55 : F_ 55 = .int .i64 (2) := hD.get 1 rfl rfl rfl
                  exact (y_atR (2) (s := 1) rfl g56 g55 (by omega) Try.underlying23 (by omega) (by kernel_rfl) (by omega) ⟨rfl, Kept.refl _ _⟩)
                refine stepsF_cons ?_ ?_
                · refine StepF.one rfl fun F_ w_ hR hout hD => ?_
                  have g57 : F_ 57 = .pointer (some ⟨p101, 4, none⟩) := hD.get 0 rfl rfl rfl
                  exact (y_ld_stc rfl g57 Try.underlying22 (B291.all hR id) rfl rfl ⟨rfl, Kept.refl _ _⟩)
                refine stepsF_cons ?_ ?_
                · refine StepF.one rfl fun F_ w_ hR hout hD => ?_
                  exact (y_mov rfl ((hout 16 rfl (by decide)).trans s323) ⟨rfl, Kept.refl _ _⟩)
                refine stepsF_cons ?_ ?_
                · refine StepF.one rfl fun F_ w_ hR hout hD => ?_
                  exact (y_mov rfl ((hout 12 rfl (by decide)).trans s318) ⟨rfl, Kept.refl _ _⟩)
                refine stepsF_cons ?_ ?_
                · refine StepF.one rfl fun F_ w_ hR hout hD => ?_
                  have g59 : F_ 59 = .int .i64 ((nearI (y)) + ((((i / 4) : Nat) : Int))) := hD.get 0 rfl rfl rfl
                  have g60 : F_ 60 = .int .i64 ((sizeF (f) (2)).1) := hD.get 1 rfl rfl rfl
                  exact (y_mul rfl g59 g60 (i64_i rfl (by omega)) ⟨rfl, Kept.refl _ _⟩)
                refine stepsF_cons ?_ ?_
                · refine StepF.one rfl fun F_ w_ hR hout hD => ?_
                  exact (y_mov rfl ((hout 15 rfl (by decide)).trans s322) ⟨rfl, Kept.refl _ _⟩)
                refine stepsF_cons ?_ ?_
                · refine StepF.one rfl fun F_ w_ hR hout hD => ?_
                  have g61 : F_ 61 = .int .i64 ((nearI y + ((i / 4 : Nat) : Int)) * (sizeF f 2).1) := hD.get 0 rfl rfl rfl
                  have g62 : F_ 62 = .int .i64 ((nearI (x)) + ((((i % 4) : Nat) : Int))) := hD.get 1 rfl rfl rfl
                  exact (y_add rfl g61 g62 ((i64_i rfl (by omega)).trans (Int.toNat_of_nonneg (by omega)).symm) ⟨rfl, Kept.refl _ _⟩)
                refine stepsF_cons ?_ ?_
                · refine StepF.one rfl fun F_ w_ hR hout hD => ?_
                  exact (y_mov rfl ((hout 14 rfl (by decide)).trans s321) ⟨rfl, Kept.refl _ _⟩)
                refine stepsF_cons ?_ ?_
                · refine StepF.one rfl fun F_ w_ hR hout hD => ?_
                  have g64 : F_ 64 = .int .i64 (((i : Nat) : Int)) := hD.get 0 rfl rfl rfl
                  exact (y_atR (i) (s := 1) rfl ((hout 9 rfl (by decide)).trans s315) g64 (by omega) Try.underlying26 (by omega) (by kernel_rfl) (by omega) ⟨rfl, Kept.refl _ _⟩)
                refine stepsF_cons ?_ ?_
                · refine StepF.one rfl fun F_ w_ hR hout hD => ?_
                  have g65 : F_ 65 = .pointer (some ⟨p14, i, none⟩) := hD.get 0 rfl rfl rfl
                  exact (y_ldR rfl g65 Try.underlying3 (((B286.all hR id)).cell (by omega)) ⟨rfl, Kept.refl _ _⟩)
                refine stepsF_cons ?_ ?_
                · refine StepF.one rfl fun F_ w_ hR hout hD => ?_
                  have g66 : F_ 66 = .int .i64 ((b) (i)) := hD.get 0 rfl rfl rfl
                  exact (y_maxR rfl g66 rfl rfl ⟨rfl, Kept.refl _ _⟩)
                refine stepsF_cons ?_ ?_
                · refine StepF.one rfl fun F_ w_ hR hout hD => ?_
                  have g67 : F_ 67 = .int .i64 (max ((b) (i)) (0)) := hD.get 0 rfl rfl rfl
                  exact (y_minR rfl g67 rfl rfl ⟨rfl, Kept.refl _ _⟩)
                refine stepsF_cons ?_ ?_
                · refine StepF.one rfl fun F_ w_ hR hout hD => ?_
                  have g68 : F_ 68 = .int .i64 (min (max ((b) (i)) (0)) (255)) := hD.get 0 rfl rfl rfl
                  exact (y_convR rfl g68 Try.underlying3 Try.underlying5 (u8_byte (b i)) ⟨rfl, Kept.refl _ _⟩)
                refine stepsF_cons ?_ ?_
                · refine StepF.one rfl fun F_ w_ hR hout hD => ?_
                  have g58 : F_ 58 = v58 := hD.get 0 rfl rfl rfl
                  have g63 : F_ 63 = .int .i64 (((((nearI y + ((i / 4 : Nat) : Int)) * (sizeF f 2).1 + (nearI x + ((i % 4 : Nat) : Int))).toNat : Nat) : Int)) := hD.get 1 rfl rfl rfl
                  exact (y_atB (((nearI y + ((i / 4 : Nat) : Int)) * (sizeF f 2).1 + (nearI x + ((i % 4 : Nat) : Int))).toNat) rfl g58 g63 (by omega) ((B290.all hR Apart.none)).byt (by have h := hc.2.2.2.2; first | (have h2 : (FD.pl f 2).length = (putTo f 2 x y b i).p0.length := hls.1.symm; omega) | (have h2 : (FD.pl f 2).length = (putTo f 2 x y b i).p1.length := hls.2.1.symm; omega) | (have h2 : (FD.pl f 2).length = (putTo f 2 x y b i).p2.length := hls.2.2.symm; omega)) ⟨rfl, Kept.refl _ _⟩)
                exact stepsF_nil
              intro v460 F461 w462 k463 G464 hF465
              have B467 := B282.all k463 Apart.none
              have B468 := B283.all k463 Apart.none
              have B469 := B284.all k463 Apart.none
              have B470 := B285.all k463 id
              have B471 := B286.all k463 id
              have B472 := B287.all k463 id
              have B473 := B288.all k463 Apart.none
              have B474 := B289.all k463 Apart.none
              have B475 := B290.all k463 Apart.none
              have B476 := B291.all k463 id
              have K477 := K292.trans k463 (fun _ _ x => x.elim)
              have s478 : F461 1 = .int .i64 (2) := (hF465 1).trans s312
              have s479 : F461 2 = .int .i64 (x) := (hF465 2).trans s313
              have s480 : F461 3 = .int .i64 (y) := (hF465 3).trans s314
              have s481 : F461 9 = .pointer (some ⟨p14, 0, none⟩) := (hF465 9).trans s315
              have s482 : F461 10 = .pointer (some ⟨p30, 0, none⟩) := (hF465 10).trans s316
              have s483 : F461 11 = .pointer (some ⟨p101, 0, none⟩) := (hF465 11).trans s317
              have s484 : F461 12 = .int .i64 ((sizeF (f) (2)).1) := (hF465 12).trans s318
              have s485 : F461 13 = .int .i64 ((sizeF (f) (2)).2) := (hF465 13).trans s319
              have s486 : F461 72 = undef := (hF465 72).trans s320
              have s487 : F461 14 = .int .i64 (((i : Nat) : Int)) := (hF465 14).trans s321
              have s488 : F461 69 = .int .u8 (((byteI (b i) : Nat) : Int)) := (hF465 69).trans (G464 14 (by decide))
              have s489 : F461 70 = bytAddr (v58) (((nearI y + ((i / 4 : Nat) : Int)) * (sizeF f 2).1 + (nearI x + ((i % 4 : Nat) : Int))).toNat) := (hF465 70).trans (G464 15 (by decide))
              clear G464 hF465
              refine wl_setB (n := byteI (b i)) rfl rfl rfl s489 s488 (by omega) B475 (by have h := hc.2.2.2.2; first | (have h2 : (FD.pl f 2).length = (putTo f 2 x y b i).p0.length := hls.1.symm; omega) | (have h2 : (FD.pl f 2).length = (putTo f 2 x y b i).p1.length := hls.2.1.symm; omega) | (have h2 : (FD.pl f 2).length = (putTo f 2 x y b i).p2.length := hls.2.2.symm; omega)) (by omega) fun w490 B491 k492 => ?_
              have B493 := B467.all k492 (fun i h x => (((ap233).symm) i h x))
              have B494 := B468.all k492 (fun i h x => (((ap234).symm) i h x))
              have B495 := B469.all k492 (fun i h x => (((ap235).symm) i h x))
              have B496 := B470.all k492 (fun x => (((ap236).symm) p1 rfl x))
              have B497 := B471.all k492 (fun x => (((ap237).symm) p14 rfl x))
              have B498 := B472.all k492 (fun x => (((ap238).symm) p30 rfl x))
              have B499 := B473.all k492 (fun i h x => ((ap223) i h x))
              have B500 := B474.all k492 (fun i h x => ((ap231) i h x))
              have B501 := B476.all k492 (fun x => (((ap239).symm) p101 rfl x))
              have K502 := K477.trans k492 (Grew.ok (S := fun _ => False) gr215 noB_le)
              refine wl_nil fun F503 hF504 => ?_
              have s505 : F503 1 = .int .i64 (2) := (hF504 1).trans s478
              have s506 : F503 2 = .int .i64 (x) := (hF504 2).trans s479
              have s507 : F503 3 = .int .i64 (y) := (hF504 3).trans s480
              have s508 : F503 9 = .pointer (some ⟨p14, 0, none⟩) := (hF504 9).trans s481
              have s509 : F503 10 = .pointer (some ⟨p30, 0, none⟩) := (hF504 10).trans s482
              have s510 : F503 11 = .pointer (some ⟨p101, 0, none⟩) := (hF504 11).trans s483
              have s511 : F503 12 = .int .i64 ((sizeF (f) (2)).1) := (hF504 12).trans s484
              have s512 : F503 13 = .int .i64 ((sizeF (f) (2)).2) := (hF504 13).trans s485
              have s513 : F503 72 = undef := (hF504 72).trans s486
              have s514 : F503 14 = .int .i64 (((i : Nat) : Int)) := (hF504 14).trans s487
              clear hF504
              refine in_normal ?_
              refine then_normal ?_
              refine wq_region ?_
              refine wl_v (.int .i64 (((i : Nat) : Int))) rfl rfl (y_mov rfl s514 ⟨rfl, rfl⟩) ?_
              refine wl_v (.int .i64 (((i + 1 : Nat) : Int))) rfl rfl (y_add rfl rfl rfl (i64_n (by omega) (by omega)) ⟨rfl, rfl⟩) ?_
              refine wl_v (.int .i64 (((i + 1 : Nat) : Int))) rfl rfl (y_asg rfl rfl ⟨rfl, rfl⟩) ?_
              refine wl_nil fun F515 hF516 => ?_
              have s517 : F515 1 = .int .i64 (2) := (hF516 1).trans s505
              have s518 : F515 2 = .int .i64 (x) := (hF516 2).trans s506
              have s519 : F515 3 = .int .i64 (y) := (hF516 3).trans s507
              have s520 : F515 9 = .pointer (some ⟨p14, 0, none⟩) := (hF516 9).trans s508
              have s521 : F515 10 = .pointer (some ⟨p30, 0, none⟩) := (hF516 10).trans s509
              have s522 : F515 11 = .pointer (some ⟨p101, 0, none⟩) := (hF516 11).trans s510
              have s523 : F515 12 = .int .i64 ((sizeF (f) (2)).1) := (hF516 12).trans s511
              have s524 : F515 13 = .int .i64 ((sizeF (f) (2)).2) := (hF516 13).trans s512
              have s525 : F515 72 = undef := (hF516 72).trans s513
              have s526 : F515 14 = .int .i64 (((i + 1 : Nat) : Int)) := (hF516 14).trans rfl
              clear hF516
              exact then_normal ⟨(16 - (i + 1)), by omega, i + 1, T185, T186, T187, by omega, rfl, s517, s518, s519, s520, s521, s522, s523, s524, s525, s526, K502, B493, B494, B495, B496, B497, B498, (by first | (rw [put_in hin]; exact B499) | (rw [put_out (by unfold within; omega)]; exact B499)), (by first | (rw [put_in hin]; exact B500) | (rw [put_out (by unfold within; omega)]; exact B500)), (by first | (rw [put_in hin]; exact B491) | (rw [put_out (by unfold within; omega)]; exact B491)), B501, gr213, gr214, gr215, ap216, ap217, ap218, ap219, ap220, ap221, ap222, ap223, ap224, ap225, ap226, ap227, ap228, ap229, ap230, ap231, ap232, ap233, ap234, ap235, ap236, ap237, ap238, ap239⟩
          · replace c325 := of_decide_eq_false c325
            refine wq_skip ?_
            refine in_normal ?_
            refine then_normal ?_
            refine wq_region ?_
            refine wl_v (.int .i64 (((i : Nat) : Int))) rfl rfl (y_mov rfl s321 ⟨rfl, rfl⟩) ?_
            refine wl_v (.int .i64 (((i + 1 : Nat) : Int))) rfl rfl (y_add rfl rfl rfl (i64_n (by omega) (by omega)) ⟨rfl, rfl⟩) ?_
            refine wl_v (.int .i64 (((i + 1 : Nat) : Int))) rfl rfl (y_asg rfl rfl ⟨rfl, rfl⟩) ?_
            refine wl_nil fun F527 hF528 => ?_
            have s529 : F527 1 = .int .i64 (p) := (hF528 1).trans s312
            have s530 : F527 2 = .int .i64 (x) := (hF528 2).trans s313
            have s531 : F527 3 = .int .i64 (y) := (hF528 3).trans s314
            have s532 : F527 9 = .pointer (some ⟨p14, 0, none⟩) := (hF528 9).trans s315
            have s533 : F527 10 = .pointer (some ⟨p30, 0, none⟩) := (hF528 10).trans s316
            have s534 : F527 11 = .pointer (some ⟨p101, 0, none⟩) := (hF528 11).trans s317
            have s535 : F527 12 = .int .i64 ((sizeF (f) (p)).1) := (hF528 12).trans s318
            have s536 : F527 13 = .int .i64 ((sizeF (f) (p)).2) := (hF528 13).trans s319
            have s537 : F527 72 = undef := (hF528 72).trans s320
            have s538 : F527 14 = .int .i64 (((i + 1 : Nat) : Int)) := (hF528 14).trans rfl
            clear hF528
            exact then_normal ⟨(16 - (i + 1)), by omega, i + 1, T185, T186, T187, by omega, rfl, s529, s530, s531, s532, s533, s534, s535, s536, s537, s538, K292, B282, B283, B284, B285, B286, B287, (by first | (rw [put_in hin]; exact B288) | (rw [put_out (by unfold within; omega)]; exact B288)), (by first | (rw [put_in hin]; exact B289) | (rw [put_out (by unfold within; omega)]; exact B289)), (by first | (rw [put_in hin]; exact B290) | (rw [put_out (by unfold within; omega)]; exact B290)), B291, gr213, gr214, gr215, ap216, ap217, ap218, ap219, ap220, ap221, ap222, ap223, ap224, ap225, ap226, ap227, ap228, ap229, ap230, ap231, ap232, ap233, ap234, ap235, ap236, ap237, ap238, ap239⟩
        · skip
          refine wq_region ?_
          refine wl_v (.int .i64 ((nearI (x)) + ((((i % 4) : Nat) : Int)))) rfl rfl (y_mov rfl s305 ⟨rfl, rfl⟩) ?_
          refine wl_v (.bool true) rfl rfl (y_geq rfl rfl rfl (decide_eq_true d307) ⟨rfl, rfl⟩) ?_
          refine wl_v (.bool true) rfl rfl (y_mov rfl rfl ⟨rfl, rfl⟩) ?_
          refine wl_vw (.int .i64 ((nearI (x)) + ((((i % 4) : Nat) : Int)))) 2 true 41 rfl rfl rfl rfl rfl (y_mov rfl s305 ⟨rfl, rfl⟩) ?_
          refine wl_vw (.int .i64 ((sizeF (f) (p)).1)) 2 true 41 rfl rfl rfl rfl rfl (y_mov rfl s301 ⟨rfl, rfl⟩) ?_
          refine wl_vw (.bool true) 2 true 41 rfl rfl rfl rfl rfl (y_lss rfl rfl rfl (decide_eq_true d308) ⟨rfl, rfl⟩) ?_
          refine wl_v (.bool true) rfl rfl (y_pickT rfl rfl rfl ⟨rfl, rfl⟩) ?_
          refine wl_v (.bool true) rfl rfl (y_mov rfl rfl ⟨rfl, rfl⟩) ?_
          refine wl_vw (.int .i64 ((nearI (y)) + ((((i / 4) : Nat) : Int)))) 7 true 46 rfl rfl rfl rfl rfl (y_mov rfl s306 ⟨rfl, rfl⟩) ?_
          refine wl_vw (.bool false) 7 true 46 rfl rfl rfl rfl rfl (y_geq rfl rfl rfl (decide_eq_false d309) ⟨rfl, rfl⟩) ?_
          refine wl_v (.bool false) rfl rfl (y_pickT rfl rfl rfl ⟨rfl, rfl⟩) ?_
          refine wl_v (.bool false) rfl rfl (y_mov rfl rfl ⟨rfl, rfl⟩) ?_
          refine wl_unless 11 true 50 rfl rfl rfl (Or.inl rfl) rfl ?_
          refine wl_unless 11 true 50 rfl rfl rfl (Or.inl rfl) rfl ?_
          refine wl_unless 11 true 50 rfl rfl rfl (Or.inl rfl) rfl ?_
          refine wl_v (.bool false) rfl rfl (y_pickF rfl rfl rfl ⟨rfl, rfl⟩) ?_
          refine wl_nil fun F539 hF540 => ?_
          have s541 : F539 1 = .int .i64 (p) := (hF540 1).trans s295
          have s542 : F539 2 = .int .i64 (x) := (hF540 2).trans s296
          have s543 : F539 3 = .int .i64 (y) := (hF540 3).trans s297
          have s544 : F539 9 = .pointer (some ⟨p14, 0, none⟩) := (hF540 9).trans s298
          have s545 : F539 10 = .pointer (some ⟨p30, 0, none⟩) := (hF540 10).trans s299
          have s546 : F539 11 = .pointer (some ⟨p101, 0, none⟩) := (hF540 11).trans s300
          have s547 : F539 12 = .int .i64 ((sizeF (f) (p)).1) := (hF540 12).trans s301
          have s548 : F539 13 = .int .i64 ((sizeF (f) (p)).2) := (hF540 13).trans s302
          have s549 : F539 72 = undef := (hF540 72).trans s303
          have s550 : F539 14 = .int .i64 (((i : Nat) : Int)) := (hF540 14).trans s304
          have s551 : F539 15 = .int .i64 ((nearI (x)) + ((((i % 4) : Nat) : Int))) := (hF540 15).trans s305
          have s552 : F539 16 = .int .i64 ((nearI (y)) + ((((i / 4) : Nat) : Int))) := (hF540 16).trans s306
          have s553 : F539 54 = .bool false := (hF540 54).trans rfl
          clear hF540
          refine then_normal ?_
          refine wq_cond (t := false) s553 (fun e => by cases e) (fun _ => ?_)
          refine wq_skip ?_
          refine in_normal ?_
          refine then_normal ?_
          refine wq_region ?_
          refine wl_v (.int .i64 (((i : Nat) : Int))) rfl rfl (y_mov rfl s550 ⟨rfl, rfl⟩) ?_
          refine wl_v (.int .i64 (((i + 1 : Nat) : Int))) rfl rfl (y_add rfl rfl rfl (i64_n (by omega) (by omega)) ⟨rfl, rfl⟩) ?_
          refine wl_v (.int .i64 (((i + 1 : Nat) : Int))) rfl rfl (y_asg rfl rfl ⟨rfl, rfl⟩) ?_
          refine wl_nil fun F554 hF555 => ?_
          have s556 : F554 1 = .int .i64 (p) := (hF555 1).trans s541
          have s557 : F554 2 = .int .i64 (x) := (hF555 2).trans s542
          have s558 : F554 3 = .int .i64 (y) := (hF555 3).trans s543
          have s559 : F554 9 = .pointer (some ⟨p14, 0, none⟩) := (hF555 9).trans s544
          have s560 : F554 10 = .pointer (some ⟨p30, 0, none⟩) := (hF555 10).trans s545
          have s561 : F554 11 = .pointer (some ⟨p101, 0, none⟩) := (hF555 11).trans s546
          have s562 : F554 12 = .int .i64 ((sizeF (f) (p)).1) := (hF555 12).trans s547
          have s563 : F554 13 = .int .i64 ((sizeF (f) (p)).2) := (hF555 13).trans s548
          have s564 : F554 72 = undef := (hF555 72).trans s549
          have s565 : F554 14 = .int .i64 (((i + 1 : Nat) : Int)) := (hF555 14).trans rfl
          clear hF555
          exact then_normal ⟨(16 - (i + 1)), by omega, i + 1, T185, T186, T187, by omega, rfl, s556, s557, s558, s559, s560, s561, s562, s563, s564, s565, K292, B282, B283, B284, B285, B286, B287, (by first | (rw [put_in hin]; exact B288) | (rw [put_out (by unfold within; omega)]; exact B288)), (by first | (rw [put_in hin]; exact B289) | (rw [put_out (by unfold within; omega)]; exact B289)), (by first | (rw [put_in hin]; exact B290) | (rw [put_out (by unfold within; omega)]; exact B290)), B291, gr213, gr214, gr215, ap216, ap217, ap218, ap219, ap220, ap221, ap222, ap223, ap224, ap225, ap226, ap227, ap228, ap229, ap230, ap231, ap232, ap233, ap234, ap235, ap236, ap237, ap238, ap239⟩
      · skip
        refine wq_region ?_
        refine wl_v (.int .i64 ((nearI (x)) + ((((i % 4) : Nat) : Int)))) rfl rfl (y_mov rfl s305 ⟨rfl, rfl⟩) ?_
        refine wl_v (.bool true) rfl rfl (y_geq rfl rfl rfl (decide_eq_true d307) ⟨rfl, rfl⟩) ?_
        refine wl_v (.bool true) rfl rfl (y_mov rfl rfl ⟨rfl, rfl⟩) ?_
        refine wl_vw (.int .i64 ((nearI (x)) + ((((i % 4) : Nat) : Int)))) 2 true 41 rfl rfl rfl rfl rfl (y_mov rfl s305 ⟨rfl, rfl⟩) ?_
        refine wl_vw (.int .i64 ((sizeF (f) (p)).1)) 2 true 41 rfl rfl rfl rfl rfl (y_mov rfl s301 ⟨rfl, rfl⟩) ?_
        refine wl_vw (.bool false) 2 true 41 rfl rfl rfl rfl rfl (y_lss rfl rfl rfl (decide_eq_false d308) ⟨rfl, rfl⟩) ?_
        refine wl_v (.bool false) rfl rfl (y_pickT rfl rfl rfl ⟨rfl, rfl⟩) ?_
        refine wl_v (.bool false) rfl rfl (y_mov rfl rfl ⟨rfl, rfl⟩) ?_
        refine wl_unless 7 true 46 rfl rfl rfl (Or.inl rfl) rfl ?_
        refine wl_unless 7 true 46 rfl rfl rfl (Or.inl rfl) rfl ?_
        refine wl_v (.bool false) rfl rfl (y_pickF rfl rfl rfl ⟨rfl, rfl⟩) ?_
        refine wl_v (.bool false) rfl rfl (y_mov rfl rfl ⟨rfl, rfl⟩) ?_
        refine wl_unless 11 true 50 rfl rfl rfl (Or.inl rfl) rfl ?_
        refine wl_unless 11 true 50 rfl rfl rfl (Or.inl rfl) rfl ?_
        refine wl_unless 11 true 50 rfl rfl rfl (Or.inl rfl) rfl ?_
        refine wl_v (.bool false) rfl rfl (y_pickF rfl rfl rfl ⟨rfl, rfl⟩) ?_
        refine wl_nil fun F566 hF567 => ?_
        have s568 : F566 1 = .int .i64 (p) := (hF567 1).trans s295
        have s569 : F566 2 = .int .i64 (x) := (hF567 2).trans s296
        have s570 : F566 3 = .int .i64 (y) := (hF567 3).trans s297
        have s571 : F566 9 = .pointer (some ⟨p14, 0, none⟩) := (hF567 9).trans s298
        have s572 : F566 10 = .pointer (some ⟨p30, 0, none⟩) := (hF567 10).trans s299
        have s573 : F566 11 = .pointer (some ⟨p101, 0, none⟩) := (hF567 11).trans s300
        have s574 : F566 12 = .int .i64 ((sizeF (f) (p)).1) := (hF567 12).trans s301
        have s575 : F566 13 = .int .i64 ((sizeF (f) (p)).2) := (hF567 13).trans s302
        have s576 : F566 72 = undef := (hF567 72).trans s303
        have s577 : F566 14 = .int .i64 (((i : Nat) : Int)) := (hF567 14).trans s304
        have s578 : F566 15 = .int .i64 ((nearI (x)) + ((((i % 4) : Nat) : Int))) := (hF567 15).trans s305
        have s579 : F566 16 = .int .i64 ((nearI (y)) + ((((i / 4) : Nat) : Int))) := (hF567 16).trans s306
        have s580 : F566 54 = .bool false := (hF567 54).trans rfl
        clear hF567
        refine then_normal ?_
        refine wq_cond (t := false) s580 (fun e => by cases e) (fun _ => ?_)
        refine wq_skip ?_
        refine in_normal ?_
        refine then_normal ?_
        refine wq_region ?_
        refine wl_v (.int .i64 (((i : Nat) : Int))) rfl rfl (y_mov rfl s577 ⟨rfl, rfl⟩) ?_
        refine wl_v (.int .i64 (((i + 1 : Nat) : Int))) rfl rfl (y_add rfl rfl rfl (i64_n (by omega) (by omega)) ⟨rfl, rfl⟩) ?_
        refine wl_v (.int .i64 (((i + 1 : Nat) : Int))) rfl rfl (y_asg rfl rfl ⟨rfl, rfl⟩) ?_
        refine wl_nil fun F581 hF582 => ?_
        have s583 : F581 1 = .int .i64 (p) := (hF582 1).trans s568
        have s584 : F581 2 = .int .i64 (x) := (hF582 2).trans s569
        have s585 : F581 3 = .int .i64 (y) := (hF582 3).trans s570
        have s586 : F581 9 = .pointer (some ⟨p14, 0, none⟩) := (hF582 9).trans s571
        have s587 : F581 10 = .pointer (some ⟨p30, 0, none⟩) := (hF582 10).trans s572
        have s588 : F581 11 = .pointer (some ⟨p101, 0, none⟩) := (hF582 11).trans s573
        have s589 : F581 12 = .int .i64 ((sizeF (f) (p)).1) := (hF582 12).trans s574
        have s590 : F581 13 = .int .i64 ((sizeF (f) (p)).2) := (hF582 13).trans s575
        have s591 : F581 72 = undef := (hF582 72).trans s576
        have s592 : F581 14 = .int .i64 (((i + 1 : Nat) : Int)) := (hF582 14).trans rfl
        clear hF582
        exact then_normal ⟨(16 - (i + 1)), by omega, i + 1, T185, T186, T187, by omega, rfl, s583, s584, s585, s586, s587, s588, s589, s590, s591, s592, K292, B282, B283, B284, B285, B286, B287, (by first | (rw [put_in hin]; exact B288) | (rw [put_out (by unfold within; omega)]; exact B288)), (by first | (rw [put_in hin]; exact B289) | (rw [put_out (by unfold within; omega)]; exact B289)), (by first | (rw [put_in hin]; exact B290) | (rw [put_out (by unfold within; omega)]; exact B290)), B291, gr213, gr214, gr215, ap216, ap217, ap218, ap219, ap220, ap221, ap222, ap223, ap224, ap225, ap226, ap227, ap228, ap229, ap230, ap231, ap232, ap233, ap234, ap235, ap236, ap237, ap238, ap239⟩
    · skip
      refine wq_region ?_
      refine wl_v (.int .i64 ((nearI (x)) + ((((i % 4) : Nat) : Int)))) rfl rfl (y_mov rfl s305 ⟨rfl, rfl⟩) ?_
      refine wl_v (.bool false) rfl rfl (y_geq rfl rfl rfl (decide_eq_false d307) ⟨rfl, rfl⟩) ?_
      refine wl_v (.bool false) rfl rfl (y_mov rfl rfl ⟨rfl, rfl⟩) ?_
      refine wl_unless 2 true 41 rfl rfl rfl (Or.inl rfl) rfl ?_
      refine wl_unless 2 true 41 rfl rfl rfl (Or.inl rfl) rfl ?_
      refine wl_unless 2 true 41 rfl rfl rfl (Or.inl rfl) rfl ?_
      refine wl_v (.bool false) rfl rfl (y_pickF rfl rfl rfl ⟨rfl, rfl⟩) ?_
      refine wl_v (.bool false) rfl rfl (y_mov rfl rfl ⟨rfl, rfl⟩) ?_
      refine wl_unless 7 true 46 rfl rfl rfl (Or.inl rfl) rfl ?_
      refine wl_unless 7 true 46 rfl rfl rfl (Or.inl rfl) rfl ?_
      refine wl_v (.bool false) rfl rfl (y_pickF rfl rfl rfl ⟨rfl, rfl⟩) ?_
      refine wl_v (.bool false) rfl rfl (y_mov rfl rfl ⟨rfl, rfl⟩) ?_
      refine wl_unless 11 true 50 rfl rfl rfl (Or.inl rfl) rfl ?_
      refine wl_unless 11 true 50 rfl rfl rfl (Or.inl rfl) rfl ?_
      refine wl_unless 11 true 50 rfl rfl rfl (Or.inl rfl) rfl ?_
      refine wl_v (.bool false) rfl rfl (y_pickF rfl rfl rfl ⟨rfl, rfl⟩) ?_
      refine wl_nil fun F593 hF594 => ?_
      have s595 : F593 1 = .int .i64 (p) := (hF594 1).trans s295
      have s596 : F593 2 = .int .i64 (x) := (hF594 2).trans s296
      have s597 : F593 3 = .int .i64 (y) := (hF594 3).trans s297
      have s598 : F593 9 = .pointer (some ⟨p14, 0, none⟩) := (hF594 9).trans s298
      have s599 : F593 10 = .pointer (some ⟨p30, 0, none⟩) := (hF594 10).trans s299
      have s600 : F593 11 = .pointer (some ⟨p101, 0, none⟩) := (hF594 11).trans s300
      have s601 : F593 12 = .int .i64 ((sizeF (f) (p)).1) := (hF594 12).trans s301
      have s602 : F593 13 = .int .i64 ((sizeF (f) (p)).2) := (hF594 13).trans s302
      have s603 : F593 72 = undef := (hF594 72).trans s303
      have s604 : F593 14 = .int .i64 (((i : Nat) : Int)) := (hF594 14).trans s304
      have s605 : F593 15 = .int .i64 ((nearI (x)) + ((((i % 4) : Nat) : Int))) := (hF594 15).trans s305
      have s606 : F593 16 = .int .i64 ((nearI (y)) + ((((i / 4) : Nat) : Int))) := (hF594 16).trans s306
      have s607 : F593 54 = .bool false := (hF594 54).trans rfl
      clear hF594
      refine then_normal ?_
      refine wq_cond (t := false) s607 (fun e => by cases e) (fun _ => ?_)
      refine wq_skip ?_
      refine in_normal ?_
      refine then_normal ?_
      refine wq_region ?_
      refine wl_v (.int .i64 (((i : Nat) : Int))) rfl rfl (y_mov rfl s604 ⟨rfl, rfl⟩) ?_
      refine wl_v (.int .i64 (((i + 1 : Nat) : Int))) rfl rfl (y_add rfl rfl rfl (i64_n (by omega) (by omega)) ⟨rfl, rfl⟩) ?_
      refine wl_v (.int .i64 (((i + 1 : Nat) : Int))) rfl rfl (y_asg rfl rfl ⟨rfl, rfl⟩) ?_
      refine wl_nil fun F608 hF609 => ?_
      have s610 : F608 1 = .int .i64 (p) := (hF609 1).trans s595
      have s611 : F608 2 = .int .i64 (x) := (hF609 2).trans s596
      have s612 : F608 3 = .int .i64 (y) := (hF609 3).trans s597
      have s613 : F608 9 = .pointer (some ⟨p14, 0, none⟩) := (hF609 9).trans s598
      have s614 : F608 10 = .pointer (some ⟨p30, 0, none⟩) := (hF609 10).trans s599
      have s615 : F608 11 = .pointer (some ⟨p101, 0, none⟩) := (hF609 11).trans s600
      have s616 : F608 12 = .int .i64 ((sizeF (f) (p)).1) := (hF609 12).trans s601
      have s617 : F608 13 = .int .i64 ((sizeF (f) (p)).2) := (hF609 13).trans s602
      have s618 : F608 72 = undef := (hF609 72).trans s603
      have s619 : F608 14 = .int .i64 (((i + 1 : Nat) : Int)) := (hF609 14).trans rfl
      clear hF609
      exact then_normal ⟨(16 - (i + 1)), by omega, i + 1, T185, T186, T187, by omega, rfl, s610, s611, s612, s613, s614, s615, s616, s617, s618, s619, K292, B282, B283, B284, B285, B286, B287, (by first | (rw [put_in hin]; exact B288) | (rw [put_out (by unfold within; omega)]; exact B288)), (by first | (rw [put_in hin]; exact B289) | (rw [put_out (by unfold within; omega)]; exact B289)), (by first | (rw [put_in hin]; exact B290) | (rw [put_out (by unfold within; omega)]; exact B290)), B291, gr213, gr214, gr215, ap216, ap217, ap218, ap219, ap220, ap221, ap222, ap223, ap224, ap225, ap226, ap227, ap228, ap229, ap230, ap231, ap232, ap233, ap234, ap235, ap236, ap237, ap238, ap239⟩
  · replace c253 := of_decide_eq_false c253
    refine wq_exit ?_
    refine then_exit ?_
    refine then_exit ?_
    have l620 : 16 = i := by omega
    subst l620
    refine in_here ?_
    refine then_normal ?_
    refine wq_seq ?_
    refine wq_region ?_
    refine wl_v (.agg #[.int .i64 ((copyF (f)).W), .int .i64 ((copyF (f)).H), v56, v57, v58]) rfl rfl (y_load_stc stcT_frame rfl s247 B212 ⟨rfl, rfl⟩) ?_
    refine wl_store_stc (us := [.int .i64 ((copyF (f)).W), .int .i64 ((copyF (f)).H), v56, v57, v58]) stcT_frame rfl rfl rfl s246 rfl B208 rfl (oneI rfl (oneI rfl (oneI (B209).one (oneI (B210).one (oneI (B211).one oneN))))) fun w621 B622 k623 => ?_
    have B624 := B203.all k623 (fun i h x => (((ap36).symm) i h x))
    have B625 := B204.all k623 (fun i h x => (((ap37).symm) i h x))
    have B626 := B205.all k623 (fun i h x => (((ap38).symm) i h x))
    have B627 := B206.all k623 (fun x => (((ap39).symm) p1 rfl x))
    have B628 := B207.all k623 (fun x => (((ap40).symm) p14 rfl x))
    have B629 := B209.all k623 (fun i h x => ((ap221) i h x))
    have B630 := B210.all k623 (fun i h x => ((ap230) i h x))
    have B631 := B211.all k623 (fun i h x => ((ap238) i h x))
    have B632 := B212.all k623 (fun x => ((ap112) p101 rfl x))
    have K633 := K190.trans k623 (Grew.ok (S := fun _ => False) gr35 noB_le)
    refine wl_nil fun F634 hF635 => ?_
    have s636 : F634 10 = .pointer (some ⟨p30, 0, none⟩) := (hF635 10).trans s246
    have s637 : F634 72 = undef := (hF635 72).trans s250
    clear hF635
    refine then_normal ?_
    refine wq_ret ?_
    exact end_stc (vs := [.int .i64 ((copyF (f)).W), .int .i64 ((copyF (f)).H), v56, v57, v58]) stcT_frame s637 rfl rfl s636 B622 ⟨v56, T185, v57, T186, v58, T187, (by rw [show putFr f p x y b = putTo f p x y b 16 from rfl, (put_side f p x y b 16).1, (put_side f p x y b 16).2.1]), K633, ⟨B629, gr213⟩, ⟨B630, gr214⟩, ⟨B631, gr215⟩, ap222, ap223, ap231⟩
end Go.Proofs.Ytomkodoclnbaoaa
namespace Go.Proofs.Ytomkodoclnbaoaa
open Go.RowKit
/-- A frame that can be read. -/
def FrmV (w : World) (v : Value) (f : FD) : Prop := ∃ (a b c : Value) (Ta Tb Tc : Nat → Prop), v = .agg #[.int .i64 f.W, .int .i64 f.H, a, b, c] ∧ Owb w Ta a f.p0 ∧ Owb w Tb b f.p1 ∧ Owb w Tc c f.p2
theorem FrmV.all {w w' : World} {v : Value} {f : FD} (h : FrmV w v f) (k : Kept (fun _ => False) w w') : FrmV w' v f := by
  obtain ⟨a, b, c, Ta, Tb, Tc, e, h1, h2, h3⟩ := h
  exact ⟨a, b, c, Ta, Tb, Tc, e, h1.all k Apart.none, h2.all k Apart.none, h3.all k Apart.none⟩
def Pd.frm (f : FD) : Pd := ⟨fun v w => FrmV w v f, fun _ _ _ h k => h.all k⟩
theorem Stc.apart {w : World} {p : Nat} {t : TypeId} {vs : List Value} {T : Nat → Prop} {v : Value} {l : List Nat} (h : Stc w p t vs) (ho : Owb w T v l) (ht : t ≠ 5) : Apart (onB p) T := fun i hi hT => by
  cases hi
  have hv := (ho.2 _).1 hT
  rcases ho.1.1.2 with ⟨rfl, _⟩ | ⟨g, cap, cur, rfl, _, hg, _⟩
  · cases hv
  · cases hv
    have h' := h
    unfold Stc at h'
    rw [h'] at hg
    cases hg; exact ht rfl
end Go.Proofs.Ytomkodoclnbaoaa
