/- What MotionRefuses reaches of my texts, part 4. -/
import Derived.Test.YtceoidglhakanaaMotionRefusesC
namespace Go.Proofs.Ytceoidglhakanaa
open Go.RowKit

def sameVec (a b c d : Int) : Bool := decide (a = c) && decide (b = d)
theorem Try.vecFields : (Try.prog.fieldsOf 27).toList.map (fun f => (f.name, f.type, f.offset)) = [("X", 3, 0), ("Y", 3, 1)] := by kernel_rfl
theorem part_int (w : World) (xs : Array Value) (i : Nat) (z : Int) (h : xs[i]? = some (.int .i64 z)) : (part 3 xs i).run Try.prog w = .ok (.int .i64 z) w := by
  simp [part, isAgg, run_underlying Try.underlying3, h]
theorem run_same_vec (w : World) (a b c d : Int) : (Op.equalIn 10000 27 (.agg #[.int .i64 a, .int .i64 b]) (.agg #[.int .i64 c, .int .i64 d])).run Try.prog w = .ok (sameVec a b c d) w := by
  rw [run_equalIn_struct w 9999 _ _ _ (by kernel_rfl) (by kernel_rfl)]
  have hf := Try.vecFields
  generalize (Try.prog.fieldsOf 27).toList = fs at hf
  have hlen : fs.length = 2 := by simpa using congrArg List.length hf
  have p1 := part_int w #[.int .i64 a, .int .i64 b] 0 a rfl
  have p2 := part_int w #[.int .i64 c, .int .i64 d] 0 c rfl
  have p3 := part_int w #[.int .i64 a, .int .i64 b] 1 b rfl
  have p4 := part_int w #[.int .i64 c, .int .i64 d] 1 d rfl
  match fs, hlen with
  | [f0, f1], _ =>
    simp only [List.map_cons, List.map_nil, List.cons.injEq, Prod.mk.injEq, and_true] at hf
    obtain ⟨⟨n0, t0, o0⟩, ⟨n1, t1, o1⟩⟩ := hf
    simp only [Op.eqFields, n0, t0, o0, n1, t1, o1]
    rw [if_pos (by decide), if_pos (by decide)]
    simp only [Sem.run_bind, p1, p2, Result.andThen_ok, run_equalIn_int w 9998 3 .i64 .i64 _ _ Try.underlying3]
    unfold sameVec
    by_cases h1 : a = c
    · subst h1
      simp only [beq_self_eq_true, Bool.not_true, Bool.false_eq_true, if_false, Sem.run_bind, p3, p4, Result.andThen_ok, run_equalIn_int w 9998 3 .i64 .i64 _ _ Try.underlying3]
      by_cases h2 : b = d
      · subst h2; simp
      · have : (b == d) = false := by simpa using h2
        simp [this, h2]
    · have : (a == c) = false := by simpa using h1
      simp [this, h1]
theorem Try.guard_vec : Try.prog.eqGuardType Try.prog.depth 27 = false := by kernel_rfl
section
variable {ρ : Operand → Value} {o : Oper} {w : World} {R : Value → World → Prop}
theorem y_eqlVec {t' : TypeId} {x y : Operand} {a b c d : Int} {q : Bool} (ho : o.op = .binOp .eql 27 x y t') (hx : ρ x = .agg #[.int .i64 a, .int .i64 b]) (hy : ρ y = .agg #[.int .i64 c, .int .i64 d]) (hr : sameVec a b c d = q) (h : R (.bool q) w) : Yields Try.prog ρ o w R :=
  y_of (v := .bool (sameVec a b c d)) (w' := w) (by simp only [execOp, ho, hx, hy, Sem.run_bind, run_eqGuard_agg w .eql _ _ _ _ _ Try.guard_vec, run_eql_struct, run_same_vec, Result.andThen_ok, Sem.run_pure]) (by rw [hr]; exact h)
end

def Cin (w : World) (T : Nat → Prop) (p : Nat) (n : Int) : Prop := T = onB p ∧ Cel w p 3 (.int .i64 n)
theorem Cin.live {w : World} {T : Nat → Prop} {p : Nat} {n : Int} (h : Cin w T p n) : Live w T := by
  obtain ⟨rfl, h⟩ := h; exact onB_live h.lt
theorem Cin.all {S : Nat → Prop} {w w' : World} {T : Nat → Prop} {p : Nat} {n : Int} (h : Cin w T p n) (k : Kept S w w') (ha : Apart T S) : Cin w' T p n := by
  obtain ⟨rfl, h⟩ := h; exact ⟨rfl, h.all k (ha p rfl)⟩
theorem Cin.cells {w : World} {T : Nat → Prop} {p : Nat} {n : Int} (h : Cin w T p n) : Cells w T := by
  obtain ⟨rfl, h⟩ := h; exact h.cells
theorem Cin.row {A B : World} {row : Option Nat} {m p : Nat} {T : Nat → Prop} {n : Int} (h : Cin A T p n) (hg : A.grownBy B row) (hr : RowNew m A row) : Cin B T p n := h.all (kept_row hg) (h.cells.apart hr)

theorem kept_of_below {w w' : World} (h : Below w.heap.size w w') : Kept (fun _ => False) w w' := ⟨h.os, h.tape, h.output, h.size, fun k hk _ => h.block k hk⟩
theorem and_1 : ∀ k : Fin 513, bits .and .i64 ((k.1 : Int) - 256) 1 = ((k.1 : Int) - 256) % 2 := by decide +kernel
theorem and_one {u : Int} (h : -256 ≤ u ∧ u ≤ 256) : bits .and .i64 u 1 = u % 2 := by
  have := and_1 ⟨(u + 256).toNat, by omega⟩
  simp only at this
  rwa [show (((u + 256).toNat : Nat) : Int) - 256 = u by omega] at this

set_option maxHeartbeats 4000000 in
set_option maxRecDepth 100000 in
theorem mo_clamped (n a b : Int) (w0 : World) :
    Calls Try.prog 30 #[.int .i64 (n), .int .i64 (a), .int .i64 (b)] w0 fun e w' => e = .returned (.int .i64 (max a (min n b))) ∧ Kept (fun _ => False) w0 w' := by
  refine calls_wq (args := [.int .i64 (n), .int .i64 (a), .int .i64 (b)]) 12 Try.func30 rfl rfl (Nat.le_of_ble_eq_true rfl) ?_
  have K0 := Kept.refl (fun _ => False) w0
  refine wq_seq ?_
  refine wq_region ?_
  refine wl_v (.int .i64 (0)) rfl rfl (y_asg rfl rfl ⟨rfl, rfl⟩) ?_
  refine wl_nil fun F1 hF2 => ?_
  have s3 : F1 0 = .int .i64 (n) := (hF2 0).trans rfl
  have s4 : F1 1 = .int .i64 (a) := (hF2 1).trans rfl
  have s5 : F1 2 = .int .i64 (b) := (hF2 2).trans rfl
  have s6 : F1 12 = undef := (hF2 12).trans rfl
  clear hF2
  refine then_normal ?_
  refine wq_seq ?_
  refine wq_region ?_
  refine wl_v (.int .i64 (a)) rfl rfl (y_mov rfl s4 ⟨rfl, rfl⟩) ?_
  refine wl_v (.int .i64 (n)) rfl rfl (y_mov rfl s3 ⟨rfl, rfl⟩) ?_
  refine wl_v (.int .i64 (b)) rfl rfl (y_mov rfl s5 ⟨rfl, rfl⟩) ?_
  refine wl_v (.int .i64 (min (n) (b))) rfl rfl (y_minR rfl rfl rfl rfl ⟨rfl, rfl⟩) ?_
  refine wl_v (.int .i64 (max (a) (min (n) (b)))) rfl rfl (y_maxR rfl rfl rfl rfl ⟨rfl, rfl⟩) ?_
  refine wl_v (.int .i64 (max (a) (min (n) (b)))) rfl rfl (y_asg rfl rfl ⟨rfl, rfl⟩) ?_
  refine wl_nil fun F7 hF8 => ?_
  have s9 : F7 12 = undef := (hF8 12).trans s6
  have s10 : F7 6 = .int .i64 (max (a) (min (n) (b))) := (hF8 6).trans rfl
  clear hF8
  refine then_normal ?_
  refine wq_ret ?_
  exact end_tmp (v := .int .i64 (max (a) (min (n) (b)))) s9 rfl rfl s10 ⟨rfl, K0⟩
set_option maxHeartbeats 4000000 in
set_option maxRecDepth 100000 in
theorem mo_mayGo (n : Int) (w0 : World) :
    Calls Try.prog 29 #[.int .i64 (n)] w0 fun e w' => e = .returned (.bool (decide (-31 ≤ n ∧ n ≤ 31))) ∧ Kept (fun _ => False) w0 w' := by
  refine calls_wq (args := [.int .i64 (n)]) 9 Try.func29 rfl rfl (Nat.le_of_ble_eq_true rfl) ?_
  have K0 := Kept.refl (fun _ => False) w0
  refine wq_seq ?_
  refine wq_region ?_
  refine wl_v (.bool false) rfl rfl (y_asg rfl rfl ⟨rfl, rfl⟩) ?_
  refine wl_nil fun F1 hF2 => ?_
  have s3 : F1 0 = .int .i64 (n) := (hF2 0).trans rfl
  have s4 : F1 9 = undef := (hF2 9).trans rfl
  clear hF2
  refine then_normal ?_
  refine wq_seq ?_
  by_cases d5 : (-31) ≤ (n)
  · skip
    refine wq_region ?_
    refine wl_v (.int .i64 (n)) rfl rfl (y_mov rfl s3 ⟨rfl, rfl⟩) ?_
    refine wl_v (.bool true) rfl rfl (y_geq rfl rfl rfl (decide_eq_true d5) ⟨rfl, rfl⟩) ?_
    refine wl_v (.bool true) rfl rfl (y_mov rfl rfl ⟨rfl, rfl⟩) ?_
    refine wl_vw (.int .i64 (n)) 2 true 5 rfl rfl rfl rfl rfl (y_mov rfl s3 ⟨rfl, rfl⟩) ?_
    refine wl_vw (.bool (decide ((n) ≤ (31)))) 2 true 5 rfl rfl rfl rfl rfl (y_leq rfl rfl rfl rfl ⟨rfl, rfl⟩) ?_
    refine wl_v (.bool (decide ((n) ≤ (31)))) rfl rfl (y_pickT rfl rfl rfl ⟨rfl, rfl⟩) ?_
    refine wl_v (.bool (decide ((n) ≤ (31)))) rfl rfl (y_asg rfl rfl ⟨rfl, rfl⟩) ?_
    refine wl_nil fun F6 hF7 => ?_
    have s8 : F6 9 = undef := (hF7 9).trans s4
    have s9 : F6 2 = .bool (decide ((n) ≤ (31))) := (hF7 2).trans rfl
    clear hF7
    refine then_normal ?_
    refine wq_ret ?_
    exact end_tmp (v := .bool (decide ((n) ≤ (31)))) s8 rfl rfl s9 ⟨(retB (by first | exact (decide_eq_true (by omega)).symm | exact (decide_eq_false (by omega)).symm | exact decide_eq_decide.2 (by omega))), K0⟩
  · skip
    refine wq_region ?_
    refine wl_v (.int .i64 (n)) rfl rfl (y_mov rfl s3 ⟨rfl, rfl⟩) ?_
    refine wl_v (.bool false) rfl rfl (y_geq rfl rfl rfl (decide_eq_false d5) ⟨rfl, rfl⟩) ?_
    refine wl_v (.bool false) rfl rfl (y_mov rfl rfl ⟨rfl, rfl⟩) ?_
    refine wl_unless 2 true 5 rfl rfl rfl (Or.inl rfl) rfl ?_
    refine wl_unless 2 true 5 rfl rfl rfl (Or.inl rfl) rfl ?_
    refine wl_v (.bool false) rfl rfl (y_pickF rfl rfl rfl ⟨rfl, rfl⟩) ?_
    refine wl_v (.bool false) rfl rfl (y_asg rfl rfl ⟨rfl, rfl⟩) ?_
    refine wl_nil fun F10 hF11 => ?_
    have s12 : F10 9 = undef := (hF11 9).trans s4
    have s13 : F10 2 = .bool false := (hF11 2).trans rfl
    clear hF11
    refine then_normal ?_
    refine wq_ret ?_
    exact end_tmp (v := .bool false) s12 rfl rfl s13 ⟨(retB (by first | exact (decide_eq_true (by omega)).symm | exact (decide_eq_false (by omega)).symm | exact decide_eq_decide.2 (by omega))), K0⟩
set_option maxHeartbeats 4000000 in
set_option maxRecDepth 100000 in
theorem mo_mayPlace (n : Int) (w0 : World) :
    Calls Try.prog 27 #[.int .i64 (n)] w0 fun e w' => e = .returned (.bool (decide (0 ≤ n ∧ n ≤ 64))) ∧ Kept (fun _ => False) w0 w' := by
  refine calls_wq (args := [.int .i64 (n)]) 9 Try.func27 rfl rfl (Nat.le_of_ble_eq_true rfl) ?_
  have K0 := Kept.refl (fun _ => False) w0
  refine wq_seq ?_
  refine wq_region ?_
  refine wl_v (.bool false) rfl rfl (y_asg rfl rfl ⟨rfl, rfl⟩) ?_
  refine wl_nil fun F1 hF2 => ?_
  have s3 : F1 0 = .int .i64 (n) := (hF2 0).trans rfl
  have s4 : F1 9 = undef := (hF2 9).trans rfl
  clear hF2
  refine then_normal ?_
  refine wq_seq ?_
  by_cases d5 : (0) ≤ (n)
  · skip
    refine wq_region ?_
    refine wl_v (.int .i64 (n)) rfl rfl (y_mov rfl s3 ⟨rfl, rfl⟩) ?_
    refine wl_v (.bool true) rfl rfl (y_geq rfl rfl rfl (decide_eq_true d5) ⟨rfl, rfl⟩) ?_
    refine wl_v (.bool true) rfl rfl (y_mov rfl rfl ⟨rfl, rfl⟩) ?_
    refine wl_vw (.int .i64 (n)) 2 true 5 rfl rfl rfl rfl rfl (y_mov rfl s3 ⟨rfl, rfl⟩) ?_
    refine wl_vw (.bool (decide ((n) ≤ (64)))) 2 true 5 rfl rfl rfl rfl rfl (y_leq rfl rfl rfl rfl ⟨rfl, rfl⟩) ?_
    refine wl_v (.bool (decide ((n) ≤ (64)))) rfl rfl (y_pickT rfl rfl rfl ⟨rfl, rfl⟩) ?_
    refine wl_v (.bool (decide ((n) ≤ (64)))) rfl rfl (y_asg rfl rfl ⟨rfl, rfl⟩) ?_
    refine wl_nil fun F6 hF7 => ?_
    have s8 : F6 9 = undef := (hF7 9).trans s4
    have s9 : F6 2 = .bool (decide ((n) ≤ (64))) := (hF7 2).trans rfl
    clear hF7
    refine then_normal ?_
    refine wq_ret ?_
    exact end_tmp (v := .bool (decide ((n) ≤ (64)))) s8 rfl rfl s9 ⟨(retB (by first | exact (decide_eq_true (by omega)).symm | exact (decide_eq_false (by omega)).symm | exact decide_eq_decide.2 (by omega))), K0⟩
  · skip
    refine wq_region ?_
    refine wl_v (.int .i64 (n)) rfl rfl (y_mov rfl s3 ⟨rfl, rfl⟩) ?_
    refine wl_v (.bool false) rfl rfl (y_geq rfl rfl rfl (decide_eq_false d5) ⟨rfl, rfl⟩) ?_
    refine wl_v (.bool false) rfl rfl (y_mov rfl rfl ⟨rfl, rfl⟩) ?_
    refine wl_unless 2 true 5 rfl rfl rfl (Or.inl rfl) rfl ?_
    refine wl_unless 2 true 5 rfl rfl rfl (Or.inl rfl) rfl ?_
    refine wl_v (.bool false) rfl rfl (y_pickF rfl rfl rfl ⟨rfl, rfl⟩) ?_
    refine wl_v (.bool false) rfl rfl (y_asg rfl rfl ⟨rfl, rfl⟩) ?_
    refine wl_nil fun F10 hF11 => ?_
    have s12 : F10 9 = undef := (hF11 9).trans s4
    have s13 : F10 2 = .bool false := (hF11 2).trans rfl
    clear hF11
    refine then_normal ?_
    refine wq_ret ?_
    exact end_tmp (v := .bool false) s12 rfl rfl s13 ⟨(retB (by first | exact (decide_eq_true (by omega)).symm | exact (decide_eq_false (by omega)).symm | exact decide_eq_decide.2 (by omega))), K0⟩
set_option maxHeartbeats 4000000 in
set_option maxRecDepth 100000 in
theorem mo_within (n : Int) (w0 : World) :
    Calls Try.prog 51 #[.int .i64 (n)] w0 fun e w' => e = .returned (.int .i64 (c34 n)) ∧ Kept (fun _ => False) w0 w' := by
  refine calls_wq (args := [.int .i64 (n)]) 5 Try.func51 rfl rfl (Nat.le_of_ble_eq_true rfl) ?_
  have K0 := Kept.refl (fun _ => False) w0
  refine wq_seq ?_
  refine wq_region ?_
  refine wl_v (.int .i64 (0)) rfl rfl (y_asg rfl rfl ⟨rfl, rfl⟩) ?_
  refine wl_nil fun F1 hF2 => ?_
  have s3 : F1 0 = .int .i64 (n) := (hF2 0).trans rfl
  have s4 : F1 5 = undef := (hF2 5).trans rfl
  clear hF2
  refine then_normal ?_
  refine wq_seq ?_
  refine wq_region ?_
  refine wl_v (.int .i64 (n)) rfl rfl (y_mov rfl s3 ⟨rfl, rfl⟩) ?_
  refine wl_call (R := fun v_ w_ => v_ = .int .i64 (c34 n) ∧ Kept (fun _ => False) w0 w_) rfl rfl (y_cs rfl rfl rfl (fun _ _ => by kernel_rfl) (ev_func _) (vsC rfl (vsC rfl (vsC rfl vsN))) (mo_clamped (n) (-34) (34)  _   ) (fun e_ w_ h_ => ⟨_, h_.1, rfl, h_.2⟩)) ?_
  rintro _ w5 ⟨rfl, k6⟩
  have K7 := K0.trans k6 (fun _ _ x => x.elim)
  refine wl_v (.int .i64 (c34 n)) rfl rfl (y_asg rfl rfl ⟨rfl, rfl⟩) ?_
  refine wl_nil fun F8 hF9 => ?_
  have s10 : F8 5 = undef := (hF9 5).trans s4
  have s11 : F8 2 = .int .i64 (c34 n) := (hF9 2).trans rfl
  clear hF9
  refine then_normal ?_
  refine wq_ret ?_
  exact end_tmp (v := .int .i64 (c34 n)) s10 rfl rfl s11 ⟨rfl, K7⟩
set_option maxHeartbeats 4000000 in
set_option maxRecDepth 100000 in
theorem mo_mean (s m : Int) (w0 : World) (hs : 0 ≤ s ∧ s ≤ 4000) (hm : m = 1 ∨ m = 2 ∨ m = 4) :
    Calls Try.prog 32 #[.int .i64 (s), .int .i64 (m)] w0 fun e w' => e = .returned (.int .i64 ((s + m / 2) / m)) ∧ Kept (fun _ => False) w0 w' := by
  refine calls_wq (args := [.int .i64 (s), .int .i64 (m)]) 11 Try.func32 rfl rfl (Nat.le_of_ble_eq_true rfl) ?_
  have K0 := Kept.refl (fun _ => False) w0
  refine wq_seq ?_
  refine wq_region ?_
  refine wl_v (.int .i64 (0)) rfl rfl (y_asg rfl rfl ⟨rfl, rfl⟩) ?_
  refine wl_nil fun F1 hF2 => ?_
  have s3 : F1 0 = .int .i64 (s) := (hF2 0).trans rfl
  have s4 : F1 1 = .int .i64 (m) := (hF2 1).trans rfl
  have s5 : F1 11 = undef := (hF2 11).trans rfl
  clear hF2
  refine then_normal ?_
  refine wq_seq ?_
  refine wq_region ?_
  refine wl_v (.int .i64 (s)) rfl rfl (y_mov rfl s3 ⟨rfl, rfl⟩) ?_
  refine wl_v (.int .i64 (m)) rfl rfl (y_mov rfl s4 ⟨rfl, rfl⟩) ?_
  refine wl_v (.int .i64 (m / 2)) rfl rfl (y_quo rfl rfl rfl (by first | decide | omega) (i64_i (tdiv2 (by omega)) (by omega)) ⟨rfl, rfl⟩) ?_
  refine wl_v (.int .i64 (s + m / 2)) rfl rfl (y_add rfl rfl rfl (i64_i rfl (by omega)) ⟨rfl, rfl⟩) ?_
  refine wl_v (.int .i64 (m)) rfl rfl (y_mov rfl s4 ⟨rfl, rfl⟩) ?_
  refine wl_v (.int .i64 ((s + m / 2) / m)) rfl rfl (y_quo rfl rfl rfl (by first | decide | omega) (i64_i (Int.tdiv_eq_ediv_of_nonneg (by omega)) (by rcases hm with rfl | rfl | rfl <;> omega)) ⟨rfl, rfl⟩) ?_
  refine wl_v (.int .i64 ((s + m / 2) / m)) rfl rfl (y_asg rfl rfl ⟨rfl, rfl⟩) ?_
  refine wl_nil fun F6 hF7 => ?_
  have s8 : F6 11 = undef := (hF7 11).trans s5
  have s9 : F6 4 = .int .i64 ((s + m / 2) / m) := (hF7 4).trans rfl
  clear hF7
  refine then_normal ?_
  refine wq_ret ?_
  exact end_tmp (v := .int .i64 ((s + m / 2) / m)) s8 rfl rfl s9 ⟨rfl, K0⟩
set_option maxHeartbeats 4000000 in
set_option maxRecDepth 100000 in
theorem mo_check (X Y : Int) (w0 : World) :
    Calls Try.prog 13 #[.agg #[.int .i64 (X), .int .i64 (Y)]] w0 fun e w' => e = .returned (.int .i64 (vecE X Y)) ∧ Kept (fun _ => False) w0 w' := by
  refine calls_wq (args := [.agg #[.int .i64 (X), .int .i64 (Y)]]) 13 Try.func13 rfl rfl (Nat.le_of_ble_eq_true rfl) ?_
  have K0 := Kept.refl (fun _ => False) w0
  refine wq_seq ?_
  refine wq_region ?_
  refine wl_box_stc (vs := [.int .i64 (X), .int .i64 (Y)]) rfl rfl rfl rfl fun p1 w2 B4 g5 k3 => ?_
  have gr6 : Grew w0 noB (onB p1) := Grew.new K0 g5
  have K7 := K0.trans k3 (fun _ _ x => x.elim)
  refine wl_v (.int .i64 (0)) rfl rfl (y_asg rfl rfl ⟨rfl, rfl⟩) ?_
  refine wl_nil fun F8 hF9 => ?_
  have s10 : F8 13 = undef := (hF9 13).trans rfl
  have s11 : F8 1 = .pointer (some ⟨p1, 0, none⟩) := (hF9 1).trans rfl
  clear hF9
  refine then_normal ?_
  refine wq_seq ?_
  refine wq_seq ?_
  by_cases d12 : -31 ≤ (X) ∧ (X) ≤ 31
  · skip
    by_cases d13 : -31 ≤ (Y) ∧ (Y) ≤ 31
    · skip
      refine wq_region ?_
      refine wl_v (.pointer (some ⟨p1, 0, none⟩)) rfl rfl (y_fieldR (n := 1) rfl s11 Try.underlying27 rfl (by kernel_rfl) (by decide) rfl ⟨rfl, rfl⟩) ?_
      refine wl_v (.int .i64 (X)) rfl rfl (y_ld_stc rfl rfl Try.underlying3 B4 rfl rfl ⟨rfl, rfl⟩) ?_
      refine wl_call (R := fun v_ w_ => v_ = .bool true ∧ Kept (fun _ => False) w2 w_) rfl rfl (y_cs rfl rfl rfl (fun _ _ => by kernel_rfl) (ev_func _) (vsC rfl vsN) (mo_mayGo (X)  _   ) (fun e_ w_ h_ => ⟨_, h_.1, (congrArg Value.bool (decide_eq_true d12)), h_.2⟩)) ?_
      rintro _ w14 ⟨rfl, k15⟩
      have B16 := B4.all k15 id
      have K17 := K7.trans k15 (fun _ _ x => x.elim)
      refine wl_v (.bool false) rfl rfl (y_not rfl rfl rfl ⟨rfl, rfl⟩) ?_
      refine wl_v (.bool false) rfl rfl (y_mov rfl rfl ⟨rfl, rfl⟩) ?_
      refine wl_vw (.pointer (some ⟨p1, 1, none⟩)) 4 false 7 rfl rfl rfl rfl rfl (y_fieldR (n := 1) rfl s11 Try.underlying27 rfl (by kernel_rfl) (by decide) rfl ⟨rfl, rfl⟩) ?_
      refine wl_vw (.int .i64 (Y)) 4 false 7 rfl rfl rfl rfl rfl (y_ld_stc rfl rfl Try.underlying3 B16 rfl rfl ⟨rfl, rfl⟩) ?_
      refine wl_callw (R := fun v_ w_ => v_ = .bool true ∧ Kept (fun _ => False) w14 w_) 4 false 7 rfl rfl rfl rfl rfl (y_cs rfl rfl rfl (fun _ _ => by kernel_rfl) (ev_func _) (vsC rfl vsN) (mo_mayGo (Y)  _   ) (fun e_ w_ h_ => ⟨_, h_.1, (congrArg Value.bool (decide_eq_true d13)), h_.2⟩)) ?_
      rintro _ w18 ⟨rfl, k19⟩
      have B20 := B16.all k19 id
      have K21 := K17.trans k19 (fun _ _ x => x.elim)
      refine wl_vw (.bool false) 4 false 7 rfl rfl rfl rfl rfl (y_not rfl rfl rfl ⟨rfl, rfl⟩) ?_
      refine wl_v (.bool false) rfl rfl (y_pickF rfl rfl rfl ⟨rfl, rfl⟩) ?_
      refine wl_nil fun F22 hF23 => ?_
      have s24 : F22 13 = undef := (hF23 13).trans s10
      have s25 : F22 12 = .bool false := (hF23 12).trans rfl
      clear hF23
      refine then_normal ?_
      refine wq_cond (t := false) s25 (fun e => by cases e) (fun _ => ?_)
      refine wq_skip ?_
      refine then_normal ?_
      refine wq_seq ?_
      refine wq_region ?_
      refine wl_v (.int .i64 (0)) rfl rfl (y_asg rfl rfl ⟨rfl, rfl⟩) ?_
      refine wl_nil fun F26 hF27 => ?_
      have s28 : F26 13 = undef := (hF27 13).trans s24
      have s29 : F26 2 = .int .i64 (0) := (hF27 2).trans rfl
      clear hF27
      refine then_normal ?_
      refine wq_ret ?_
      exact end_tmp (v := .int .i64 (0)) s28 rfl rfl s29 ⟨(by first | rw [vecE_yes (by unfold vecOk; omega)] | rw [vecE_no (by unfold vecOk; omega)]), K21⟩
    · skip
      refine wq_region ?_
      refine wl_v (.pointer (some ⟨p1, 0, none⟩)) rfl rfl (y_fieldR (n := 1) rfl s11 Try.underlying27 rfl (by kernel_rfl) (by decide) rfl ⟨rfl, rfl⟩) ?_
      refine wl_v (.int .i64 (X)) rfl rfl (y_ld_stc rfl rfl Try.underlying3 B4 rfl rfl ⟨rfl, rfl⟩) ?_
      refine wl_call (R := fun v_ w_ => v_ = .bool true ∧ Kept (fun _ => False) w2 w_) rfl rfl (y_cs rfl rfl rfl (fun _ _ => by kernel_rfl) (ev_func _) (vsC rfl vsN) (mo_mayGo (X)  _   ) (fun e_ w_ h_ => ⟨_, h_.1, (congrArg Value.bool (decide_eq_true d12)), h_.2⟩)) ?_
      rintro _ w30 ⟨rfl, k31⟩
      have B32 := B4.all k31 id
      have K33 := K7.trans k31 (fun _ _ x => x.elim)
      refine wl_v (.bool false) rfl rfl (y_not rfl rfl rfl ⟨rfl, rfl⟩) ?_
      refine wl_v (.bool false) rfl rfl (y_mov rfl rfl ⟨rfl, rfl⟩) ?_
      refine wl_vw (.pointer (some ⟨p1, 1, none⟩)) 4 false 7 rfl rfl rfl rfl rfl (y_fieldR (n := 1) rfl s11 Try.underlying27 rfl (by kernel_rfl) (by decide) rfl ⟨rfl, rfl⟩) ?_
      refine wl_vw (.int .i64 (Y)) 4 false 7 rfl rfl rfl rfl rfl (y_ld_stc rfl rfl Try.underlying3 B32 rfl rfl ⟨rfl, rfl⟩) ?_
      refine wl_callw (R := fun v_ w_ => v_ = .bool false ∧ Kept (fun _ => False) w30 w_) 4 false 7 rfl rfl rfl rfl rfl (y_cs rfl rfl rfl (fun _ _ => by kernel_rfl) (ev_func _) (vsC rfl vsN) (mo_mayGo (Y)  _   ) (fun e_ w_ h_ => ⟨_, h_.1, (congrArg Value.bool (decide_eq_false d13)), h_.2⟩)) ?_
      rintro _ w34 ⟨rfl, k35⟩
      have B36 := B32.all k35 id
      have K37 := K33.trans k35 (fun _ _ x => x.elim)
      refine wl_vw (.bool true) 4 false 7 rfl rfl rfl rfl rfl (y_not rfl rfl rfl ⟨rfl, rfl⟩) ?_
      refine wl_v (.bool true) rfl rfl (y_pickF rfl rfl rfl ⟨rfl, rfl⟩) ?_
      refine wl_nil fun F38 hF39 => ?_
      have s40 : F38 13 = undef := (hF39 13).trans s10
      have s41 : F38 12 = .bool true := (hF39 12).trans rfl
      clear hF39
      refine then_normal ?_
      refine wq_cond (t := true) s41 (fun _ => ?_) (fun e => by cases e)
      refine wq_seq ?_
      refine wq_region ?_
      refine wl_v (.int .i64 (90)) rfl rfl (y_asg rfl rfl ⟨rfl, rfl⟩) ?_
      refine wl_nil fun F42 hF43 => ?_
      have s44 : F42 13 = undef := (hF43 13).trans s40
      have s45 : F42 2 = .int .i64 (90) := (hF43 2).trans rfl
      clear hF43
      refine then_normal ?_
      refine wq_ret ?_
      refine then_ret ?_
      exact end_tmp (v := .int .i64 (90)) s44 rfl rfl s45 ⟨(by first | rw [vecE_yes (by unfold vecOk; omega)] | rw [vecE_no (by unfold vecOk; omega)]), K37⟩
  · skip
    refine wq_region ?_
    refine wl_v (.pointer (some ⟨p1, 0, none⟩)) rfl rfl (y_fieldR (n := 1) rfl s11 Try.underlying27 rfl (by kernel_rfl) (by decide) rfl ⟨rfl, rfl⟩) ?_
    refine wl_v (.int .i64 (X)) rfl rfl (y_ld_stc rfl rfl Try.underlying3 B4 rfl rfl ⟨rfl, rfl⟩) ?_
    refine wl_call (R := fun v_ w_ => v_ = .bool false ∧ Kept (fun _ => False) w2 w_) rfl rfl (y_cs rfl rfl rfl (fun _ _ => by kernel_rfl) (ev_func _) (vsC rfl vsN) (mo_mayGo (X)  _   ) (fun e_ w_ h_ => ⟨_, h_.1, (congrArg Value.bool (decide_eq_false d12)), h_.2⟩)) ?_
    rintro _ w46 ⟨rfl, k47⟩
    have B48 := B4.all k47 id
    have K49 := K7.trans k47 (fun _ _ x => x.elim)
    refine wl_v (.bool true) rfl rfl (y_not rfl rfl rfl ⟨rfl, rfl⟩) ?_
    refine wl_v (.bool true) rfl rfl (y_mov rfl rfl ⟨rfl, rfl⟩) ?_
    refine wl_unless 4 false 7 rfl rfl rfl (Or.inl rfl) rfl ?_
    refine wl_unless 4 false 7 rfl rfl rfl (Or.inl rfl) rfl ?_
    refine wl_unless 4 false 7 rfl rfl rfl (Or.inl rfl) rfl ?_
    refine wl_unless 4 false 7 rfl rfl rfl (Or.inl rfl) rfl ?_
    refine wl_v (.bool true) rfl rfl (y_pickT rfl rfl rfl ⟨rfl, rfl⟩) ?_
    refine wl_nil fun F50 hF51 => ?_
    have s52 : F50 13 = undef := (hF51 13).trans s10
    have s53 : F50 12 = .bool true := (hF51 12).trans rfl
    clear hF51
    refine then_normal ?_
    refine wq_cond (t := true) s53 (fun _ => ?_) (fun e => by cases e)
    refine wq_seq ?_
    refine wq_region ?_
    refine wl_v (.int .i64 (90)) rfl rfl (y_asg rfl rfl ⟨rfl, rfl⟩) ?_
    refine wl_nil fun F54 hF55 => ?_
    have s56 : F54 13 = undef := (hF55 13).trans s52
    have s57 : F54 2 = .int .i64 (90) := (hF55 2).trans rfl
    clear hF55
    refine then_normal ?_
    refine wq_ret ?_
    refine then_ret ?_
    exact end_tmp (v := .int .i64 (90)) s56 rfl rfl s57 ⟨(by first | rw [vecE_yes (by unfold vecOk; omega)] | rw [vecE_no (by unfold vecOk; omega)]), K49⟩
set_option maxHeartbeats 4000000 in
set_option maxRecDepth 100000 in
theorem mo_both (a b : Nat → Int) (w0 : World) :
    Calls Try.prog 17 #[blkV (a), blkV (b)] w0 fun e w' => e = .returned (blkV (bothB a b)) ∧ Kept (fun _ => False) w0 w' := by
  refine calls_wq (args := [blkV (a), blkV (b)]) 23 Try.func17 rfl rfl (Nat.le_of_ble_eq_true rfl) ?_
  have K0 := Kept.refl (fun _ => False) w0
  refine wq_seq ?_
  refine wq_region ?_
  refine wl_box_blk rfl rfl rfl rfl fun p1 w2 e5 B3 k4 => ?_
  have g6 := onB_new (Nat.le_of_eq e5.symm)
  have gr7 : Grew w0 noB (onB p1) := Grew.new K0 g6
  clear e5 g6
  have K8 := K0.trans k4 (fun _ _ x => x.elim)
  refine wl_box_blk rfl rfl rfl rfl fun p9 w10 e13 B11 k12 => ?_
  have g14 := onB_new (Nat.le_of_eq e13.symm)
  have gr15 : Grew w0 noB (onB p9) := Grew.new K8 g14
  have ap16 : Apart (onB p9) (onB p1) := Apart.new g14 (onB_live (B3).lt)
  clear e13 g14
  have B17 := B3.all k12 id
  have K18 := K8.trans k12 (fun _ _ x => x.elim)
  refine wl_alloc_blk rfl rfl rfl blkT_block.2.2 fun p19 w20 e23 B21 k22 => ?_
  have g24 := onB_new (Nat.le_of_eq e23.symm)
  have gr25 : Grew w0 noB (onB p19) := Grew.new K18 g24
  have ap26 : Apart (onB p19) (onB p1) := Apart.new g24 (onB_live (B17).lt)
  have ap27 : Apart (onB p19) (onB p9) := Apart.new g24 (onB_live (B11).lt)
  clear e23 g24
  have B28 := B17.all k22 id
  have B29 := B11.all k22 id
  have K30 := K18.trans k22 (fun _ _ x => x.elim)
  refine wl_nil fun F31 hF32 => ?_
  have s33 : F31 23 = undef := (hF32 23).trans rfl
  have s34 : F31 2 = .pointer (some ⟨p1, 0, none⟩) := (hF32 2).trans rfl
  have s35 : F31 3 = .pointer (some ⟨p9, 0, none⟩) := (hF32 3).trans rfl
  have s36 : F31 4 = .pointer (some ⟨p19, 0, none⟩) := (hF32 4).trans rfl
  clear hF32
  refine then_normal ?_
  refine wq_seq ?_
  refine wq_seq ?_
  refine wq_region ?_
  refine wl_v (.int .i64 (0)) rfl rfl (y_mov rfl rfl ⟨rfl, rfl⟩) ?_
  refine wl_nil fun F37 hF38 => ?_
  have s39 : F37 23 = undef := (hF38 23).trans s33
  have s40 : F37 2 = .pointer (some ⟨p1, 0, none⟩) := (hF38 2).trans s34
  have s41 : F37 3 = .pointer (some ⟨p9, 0, none⟩) := (hF38 3).trans s35
  have s42 : F37 4 = .pointer (some ⟨p19, 0, none⟩) := (hF38 4).trans s36
  have s43 : F37 6 = .int .i64 (0) := (hF38 6).trans rfl
  clear hF38
  refine then_normal ?_
  refine wq_block ?_
  refine wq_loop (fun nn FF ww => ∃ (i : Nat), (i ≤ 16) ∧ nn = 16 - i ∧ FF 2 = .pointer (some ⟨p1, 0, none⟩) ∧ FF 3 = .pointer (some ⟨p9, 0, none⟩) ∧ FF 4 = .pointer (some ⟨p19, 0, none⟩) ∧ FF 23 = undef ∧ FF 6 = .int .i64 (((i : Nat) : Int)) ∧ Kept (fun _ => False) w0 ww ∧ Blk ww p1 31 (upto i a (bothB a b)) ∧ Blk ww p9 31 (b) ∧ Blk ww p19 31 (fun _ => 0)) (16 - (0)) ⟨0, by omega, rfl, s40, s41, s42, s39, s43, K30, B28.first, B29, B21⟩ ?_
  rintro n47 F44 w45 ⟨i, i48, hn47, s49, s50, s51, s52, s53, K46, B54, B55, B56⟩
  refine wq_seq ?_
  refine wq_region ?_
  refine wl_v (.bool (decide ((((i : Nat) : Int)) < (16)))) rfl rfl (y_lss rfl s53 rfl rfl ⟨rfl, rfl⟩) ?_
  refine wl_nil fun F57 hF58 => ?_
  have s59 : F57 2 = .pointer (some ⟨p1, 0, none⟩) := (hF58 2).trans s49
  have s60 : F57 3 = .pointer (some ⟨p9, 0, none⟩) := (hF58 3).trans s50
  have s61 : F57 4 = .pointer (some ⟨p19, 0, none⟩) := (hF58 4).trans s51
  have s62 : F57 23 = undef := (hF58 23).trans s52
  have s63 : F57 6 = .int .i64 (((i : Nat) : Int)) := (hF58 6).trans s53
  have s64 : F57 7 = .bool (decide ((((i : Nat) : Int)) < (16))) := (hF58 7).trans rfl
  clear hF58
  refine then_normal ?_
  refine wq_seq ?_
  refine wq_cond s64 (fun c65 => ?_) (fun c65 => ?_)
  · replace c65 := of_decide_eq_true c65
    refine wq_skip ?_
    refine then_normal ?_
    refine wq_seq ?_
    refine wq_block ?_
    refine wq_seq ?_
    refine wq_region ?_
    refine wl_v (.int .i64 (((i : Nat) : Int))) rfl rfl (y_mov rfl s63 ⟨rfl, rfl⟩) ?_
    refine wl_v (.int .i64 (((i : Nat) : Int))) rfl rfl (y_asg rfl rfl ⟨rfl, rfl⟩) ?_
    refine wl_nil fun F66 hF67 => ?_
    have s68 : F66 2 = .pointer (some ⟨p1, 0, none⟩) := (hF67 2).trans s59
    have s69 : F66 3 = .pointer (some ⟨p9, 0, none⟩) := (hF67 3).trans s60
    have s70 : F66 4 = .pointer (some ⟨p19, 0, none⟩) := (hF67 4).trans s61
    have s71 : F66 23 = undef := (hF67 23).trans s62
    have s72 : F66 6 = .int .i64 (((i : Nat) : Int)) := (hF67 6).trans s63
    have s73 : F66 5 = .int .i64 (((i : Nat) : Int)) := (hF67 5).trans rfl
    clear hF67
    refine then_normal ?_
    have h1 := c8_le (a i)
    have h2 := c8_le (b i)
    refine wq_tail 12 [some 9, some 10, some 11, some 12, some 13, some 14, some 15, some 16, some 17, some 18, some 19, some 20] [Pd.eq (.int .i64 (((i : Nat) : Int))), Pd.eq (.int .i64 (((i : Nat) : Int))), Pd.eq (.pointer (some ⟨p1, i, none⟩)), Pd.eq (.int .i64 (a i)), Pd.eq (.int .i64 (c8 (a i))), Pd.eq (.int .i64 (((i : Nat) : Int))), Pd.eq (.pointer (some ⟨p9, i, none⟩)), Pd.eq (.int .i64 ((b) (i))), Pd.eq (.int .i64 (c8 (b i))), Pd.eq (.int .i64 ((c8 (a i)) + (c8 (b i)))), Pd.eq (.int .i64 ((c8 (a i) + c8 (b i) + 1) / 2)), Pd.eq (.pointer (some ⟨p1, i, none⟩))] (by kernel_rfl) (by kernel_rfl) (by kernel_rfl) ?_ ?_
    · refine stepsF_cons ?_ ?_
      · refine StepF.one rfl fun F_ w_ hR hout hD => ?_
        exact (y_mov rfl ((hout 5 rfl (by decide)).trans s73) ⟨rfl, Kept.refl _ _⟩)
      refine stepsF_cons ?_ ?_
      · refine StepF.one rfl fun F_ w_ hR hout hD => ?_
        exact (y_mov rfl ((hout 5 rfl (by decide)).trans s73) ⟨rfl, Kept.refl _ _⟩)
      refine stepsF_cons ?_ ?_
      · refine StepF.one rfl fun F_ w_ hR hout hD => ?_
        have g10 : F_ 10 = .int .i64 (((i : Nat) : Int)) := hD.get 0 rfl rfl rfl
        exact (y_atR (i) (s := 1) rfl ((hout 2 rfl (by decide)).trans s68) g10 (by omega) Try.underlying31 (by omega) (by kernel_rfl) (by omega) ⟨rfl, Kept.refl _ _⟩)
      refine stepsF_cons ?_ ?_
      · refine StepF.one rfl fun F_ w_ hR hout hD => ?_
        have g11 : F_ 11 = .pointer (some ⟨p1, i, none⟩) := hD.get 0 rfl rfl rfl
        exact (y_ldR rfl g11 Try.underlying3 ((((B54.all hR id)).cell (by omega)).trans (some_int (upto_at i _ _))) ⟨rfl, Kept.refl _ _⟩)
      refine stepsF_cons ?_ ?_
      · refine StepF.one rfl fun F_ w_ hR hout hD => ?_
        have g12 : F_ 12 = .int .i64 (a i) := hD.get 0 rfl rfl rfl
        exact (y_cs rfl rfl rfl (fun _ _ => by kernel_rfl) (ev_func _) (vsC g12 (vsC rfl (vsC rfl vsN))) (mo_clamped (a i) (0) (255)  _   ) (fun e_ w_ h_ => ⟨_, h_.1, congrArg (Value.int .i64) (by unfold c8; omega), h_.2⟩))
      refine stepsF_cons ?_ ?_
      · refine StepF.one rfl fun F_ w_ hR hout hD => ?_
        exact (y_mov rfl ((hout 5 rfl (by decide)).trans s73) ⟨rfl, Kept.refl _ _⟩)
      refine stepsF_cons ?_ ?_
      · refine StepF.one rfl fun F_ w_ hR hout hD => ?_
        have g14 : F_ 14 = .int .i64 (((i : Nat) : Int)) := hD.get 0 rfl rfl rfl
        exact (y_atR (i) (s := 1) rfl ((hout 3 rfl (by decide)).trans s69) g14 (by omega) Try.underlying31 (by omega) (by kernel_rfl) (by omega) ⟨rfl, Kept.refl _ _⟩)
      refine stepsF_cons ?_ ?_
      · refine StepF.one rfl fun F_ w_ hR hout hD => ?_
        have g15 : F_ 15 = .pointer (some ⟨p9, i, none⟩) := hD.get 0 rfl rfl rfl
        exact (y_ldR rfl g15 Try.underlying3 (((B55.all hR id)).cell (by omega)) ⟨rfl, Kept.refl _ _⟩)
      refine stepsF_cons ?_ ?_
      · refine StepF.one rfl fun F_ w_ hR hout hD => ?_
        have g16 : F_ 16 = .int .i64 ((b) (i)) := hD.get 0 rfl rfl rfl
        exact (y_cs rfl rfl rfl (fun _ _ => by kernel_rfl) (ev_func _) (vsC g16 (vsC rfl (vsC rfl vsN))) (mo_clamped ((b) (i)) (0) (255)  _   ) (fun e_ w_ h_ => ⟨_, h_.1, congrArg (Value.int .i64) (by unfold c8; omega), h_.2⟩))
      refine stepsF_cons ?_ ?_
      · refine StepF.one rfl fun F_ w_ hR hout hD => ?_
        have g13 : F_ 13 = .int .i64 (c8 (a i)) := hD.get 0 rfl rfl rfl
        have g17 : F_ 17 = .int .i64 (c8 (b i)) := hD.get 1 rfl rfl rfl
        exact (y_add rfl g13 g17 (i64_i rfl (by omega)) ⟨rfl, Kept.refl _ _⟩)
      refine stepsF_cons ?_ ?_
      · refine StepF.one rfl fun F_ w_ hR hout hD => ?_
        have g18 : F_ 18 = .int .i64 ((c8 (a i)) + (c8 (b i))) := hD.get 0 rfl rfl rfl
        exact (y_cs rfl rfl rfl (fun _ _ => by kernel_rfl) (ev_func _) (vsC g18 (vsC rfl vsN)) (mo_mean ((c8 (a i)) + (c8 (b i))) (2)  _ (by omega) (by omega)  ) (fun e_ w_ h_ => ⟨_, h_.1, congrArg (Value.int .i64) (by omega), h_.2⟩))
      refine stepsF_cons ?_ ?_
      · refine StepF.one rfl fun F_ w_ hR hout hD => ?_
        have g9 : F_ 9 = .int .i64 (((i : Nat) : Int)) := hD.get 0 rfl rfl rfl
        exact (y_atR (i) (s := 1) rfl ((hout 2 rfl (by decide)).trans s68) g9 (by omega) Try.underlying31 (by omega) (by kernel_rfl) (by omega) ⟨rfl, Kept.refl _ _⟩)
      exact stepsF_nil
    intro v74 F75 w76 k77 G78 hF79
    have B81 := B54.all k77 id
    have B82 := B55.all k77 id
    have B83 := B56.all k77 id
    have K84 := K46.trans k77 (fun _ _ x => x.elim)
    have s85 : F75 2 = .pointer (some ⟨p1, 0, none⟩) := (hF79 2).trans s68
    have s86 : F75 3 = .pointer (some ⟨p9, 0, none⟩) := (hF79 3).trans s69
    have s87 : F75 4 = .pointer (some ⟨p19, 0, none⟩) := (hF79 4).trans s70
    have s88 : F75 23 = undef := (hF79 23).trans s71
    have s89 : F75 6 = .int .i64 (((i : Nat) : Int)) := (hF79 6).trans s72
    have s90 : F75 19 = .int .i64 ((c8 (a i) + c8 (b i) + 1) / 2) := (hF79 19).trans (G78 10 (by decide))
    have s91 : F75 20 = .pointer (some ⟨p1, i, none⟩) := (hF79 20).trans (G78 11 (by decide))
    clear G78 hF79
    refine wl_set_blk rfl rfl rfl s91 s90 B81 (by omega) (by kernel_rfl) fun w92 B93 k94 => ?_
    have B95 := B82.all k94 (fun x => ((ap16) p9 rfl x))
    have B96 := B83.all k94 (fun x => ((ap26) p19 rfl x))
    have K97 := K84.trans k94 (Grew.ok (S := fun _ => False) gr7 noB_le)
    refine wl_nil fun F98 hF99 => ?_
    have s100 : F98 2 = .pointer (some ⟨p1, 0, none⟩) := (hF99 2).trans s85
    have s101 : F98 3 = .pointer (some ⟨p9, 0, none⟩) := (hF99 3).trans s86
    have s102 : F98 4 = .pointer (some ⟨p19, 0, none⟩) := (hF99 4).trans s87
    have s103 : F98 23 = undef := (hF99 23).trans s88
    have s104 : F98 6 = .int .i64 (((i : Nat) : Int)) := (hF99 6).trans s89
    clear hF99
    refine in_normal ?_
    refine then_normal ?_
    refine wq_region ?_
    refine wl_v (.int .i64 (((i + 1 : Nat) : Int))) rfl rfl (y_add rfl s104 rfl (i64_n (by omega) (by omega)) ⟨rfl, rfl⟩) ?_
    refine wl_v (.int .i64 (((i + 1 : Nat) : Int))) rfl rfl (y_mov rfl rfl ⟨rfl, rfl⟩) ?_
    refine wl_nil fun F105 hF106 => ?_
    have s107 : F105 2 = .pointer (some ⟨p1, 0, none⟩) := (hF106 2).trans s100
    have s108 : F105 3 = .pointer (some ⟨p9, 0, none⟩) := (hF106 3).trans s101
    have s109 : F105 4 = .pointer (some ⟨p19, 0, none⟩) := (hF106 4).trans s102
    have s110 : F105 23 = undef := (hF106 23).trans s103
    have s111 : F105 6 = .int .i64 (((i + 1 : Nat) : Int)) := (hF106 6).trans rfl
    clear hF106
    exact then_normal ⟨(16 - (i + 1)), by omega, i + 1, by omega, rfl, s107, s108, s109, s110, s111, K97, (B93.next (bothB_at a b i).symm), B95, B96⟩
  · replace c65 := of_decide_eq_false c65
    refine wq_exit ?_
    refine then_exit ?_
    refine then_exit ?_
    have l112 : 16 = i := by omega
    subst l112
    have B113 : Blk w45 p1 31 (bothB a b) := (B54.last)
    refine in_here ?_
    refine then_normal ?_
    refine wq_seq ?_
    refine wq_region ?_
    refine wl_v (blkV (bothB a b)) rfl rfl (y_load_blk blkT_block rfl s59 B113 ⟨rfl, rfl⟩) ?_
    refine wl_store_blk blkT_block rfl rfl rfl s61 rfl B56 fun w114 B115 k116 => ?_
    have B117 := B113.all k116 (fun x => (((ap26).symm) p1 rfl x))
    have B118 := B55.all k116 (fun x => (((ap27).symm) p9 rfl x))
    have K119 := K46.trans k116 (Grew.ok (S := fun _ => False) gr25 noB_le)
    refine wl_nil fun F120 hF121 => ?_
    have s122 : F120 4 = .pointer (some ⟨p19, 0, none⟩) := (hF121 4).trans s61
    have s123 : F120 23 = undef := (hF121 23).trans s62
    clear hF121
    refine then_normal ?_
    refine wq_ret ?_
    exact end_blk blkT_block s123 rfl rfl s122 B115 ⟨rfl, K119⟩
set_option maxHeartbeats 4000000 in
set_option maxRecDepth 100000 in
theorem mo_sample (p x y : Int) (f : FD) (f0 f1 f2 : Value) (T_f0 : Nat → Prop) (T_f1 : Nat → Prop) (T_f2 : Nat → Prop) (w0 : World) (h_f0 : Byt w0 T_f0 f0 ((f).p0)) (h_f1 : Byt w0 T_f1 f1 ((f).p1)) (h_f2 : Byt w0 T_f2 f2 ((f).p2)) :
    Calls Try.prog 15 #[.agg #[.int .i64 ((f).W), .int .i64 ((f).H), f0, f1, f2], .int .i64 (p), .int .i64 (x), .int .i64 (y)] w0 fun e w' => e = .returned (.int .i64 (smpF f p x y)) ∧ Kept (fun _ => False) w0 w' := by
  refine calls_wq (args := [.agg #[.int .i64 ((f).W), .int .i64 ((f).H), f0, f1, f2], .int .i64 (p), .int .i64 (x), .int .i64 (y)]) 72 Try.func15 rfl rfl (Nat.le_of_ble_eq_true rfl) ?_
  have K0 := Kept.refl (fun _ => False) w0
  have hb : Bytes3 f := ⟨h_f0.lt256, h_f1.lt256, h_f2.lt256⟩
  obtain ⟨u, hu⟩ : ∃ u, u = c256 x := ⟨_, rfl⟩
  obtain ⟨v, hv⟩ : ∃ v, v = c256 y := ⟨_, rfl⟩
  have hu2 : -256 ≤ u ∧ u ≤ 256 := by rw [hu]; unfold c256; omega
  have hv2 : -256 ≤ v ∧ v ≤ 256 := by rw [hv]; unfold c256; omega
  have hm : smpF f p x y = mid f p u v := by rw [hu, hv]; rfl
  have a1 := atF_le hb p (u / 2) (v / 2)
  have a2 := atF_le hb p ((u + 1) / 2) (v / 2)
  have a3 := atF_le hb p (u / 2) ((v + 1) / 2)
  have a4 := atF_le hb p ((u + 1) / 2) ((v + 1) / 2)
  obtain ⟨N, hN⟩ : ∃ N : Nat, (N : Int) = u % 2 + v % 2 := ⟨(u % 2 + v % 2).toNat, by omega⟩
  obtain ⟨M, hM⟩ : ∃ M : Int, M = 2 ^ N := ⟨_, rfl⟩
  have hM2 : (N = 0 ∧ M = 1) ∨ (N = 1 ∧ M = 2) ∨ (N = 2 ∧ M = 4) := by rcases (by omega : N = 0 ∨ N = 1 ∨ N = 2) with h | h | h <;> subst h <;> simp [hM]
  have g_f0 := Grew.refl w0 T_f0
  have g_f1 := Grew.refl w0 T_f1
  have g_f2 := Grew.refl w0 T_f2
  refine wq_seq ?_
  refine wq_region ?_
  refine wl_box_stc (vs := [.int .i64 ((f).W), .int .i64 ((f).H), f0, f1, f2]) rfl rfl rfl rfl fun p1 w2 B4 g5 k3 => ?_
  have gr6 : Grew w0 noB (onB p1) := Grew.new K0 g5
  have ap7 : Apart (onB p1) (T_f0) := Apart.new g5 (h_f0).live
  have ap8 : Apart (onB p1) (T_f1) := Apart.new g5 (h_f1).live
  have ap9 : Apart (onB p1) (T_f2) := Apart.new g5 (h_f2).live
  have B10 := h_f0.all k3 Apart.none
  have B11 := h_f1.all k3 Apart.none
  have B12 := h_f2.all k3 Apart.none
  have K13 := K0.trans k3 (fun _ _ x => x.elim)
  refine wl_v (.int .i64 (0)) rfl rfl (y_asg rfl rfl ⟨rfl, rfl⟩) ?_
  refine wl_nil fun F14 hF15 => ?_
  have s16 : F14 1 = .int .i64 (p) := (hF15 1).trans rfl
  have s17 : F14 2 = .int .i64 (x) := (hF15 2).trans rfl
  have s18 : F14 3 = .int .i64 (y) := (hF15 3).trans rfl
  have s19 : F14 72 = undef := (hF15 72).trans rfl
  have s20 : F14 4 = .pointer (some ⟨p1, 0, none⟩) := (hF15 4).trans rfl
  clear hF15
  refine then_normal ?_
  refine wq_seq ?_
  refine wq_region ?_
  refine wl_v (.int .i64 (x)) rfl rfl (y_mov rfl s17 ⟨rfl, rfl⟩) ?_
  refine wl_call (R := fun v_ w_ => v_ = .int .i64 (u) ∧ Kept (fun _ => False) w2 w_) rfl rfl (y_cs rfl rfl rfl (fun _ _ => by kernel_rfl) (ev_func _) (vsC rfl (vsC rfl (vsC rfl vsN))) (mo_clamped (x) (-256) (256)  _   ) (fun e_ w_ h_ => ⟨_, h_.1, congrArg (Value.int .i64) (by rw [hu]; unfold c256; omega), h_.2⟩)) ?_
  rintro _ w21 ⟨rfl, k22⟩
  have B23 := B10.all k22 Apart.none
  have B24 := B11.all k22 Apart.none
  have B25 := B12.all k22 Apart.none
  have B26 := B4.all k22 id
  have K27 := K13.trans k22 (fun _ _ x => x.elim)
  refine wl_v (.int .i64 (y)) rfl rfl (y_mov rfl s18 ⟨rfl, rfl⟩) ?_
  refine wl_call (R := fun v_ w_ => v_ = .int .i64 (v) ∧ Kept (fun _ => False) w21 w_) rfl rfl (y_cs rfl rfl rfl (fun _ _ => by kernel_rfl) (ev_func _) (vsC rfl (vsC rfl (vsC rfl vsN))) (mo_clamped (y) (-256) (256)  _   ) (fun e_ w_ h_ => ⟨_, h_.1, congrArg (Value.int .i64) (by rw [hv]; unfold c256; omega), h_.2⟩)) ?_
  rintro _ w28 ⟨rfl, k29⟩
  have B30 := B23.all k29 Apart.none
  have B31 := B24.all k29 Apart.none
  have B32 := B25.all k29 Apart.none
  have B33 := B26.all k29 id
  have K34 := K27.trans k29 (fun _ _ x => x.elim)
  refine wl_v (.int .i64 (u)) rfl rfl (y_asg rfl rfl ⟨rfl, rfl⟩) ?_
  refine wl_v (.int .i64 (v)) rfl rfl (y_asg rfl rfl ⟨rfl, rfl⟩) ?_
  refine wl_nil fun F35 hF36 => ?_
  have s37 : F35 1 = .int .i64 (p) := (hF36 1).trans s16
  have s38 : F35 72 = undef := (hF36 72).trans s19
  have s39 : F35 4 = .pointer (some ⟨p1, 0, none⟩) := (hF36 4).trans s20
  have s40 : F35 2 = .int .i64 (u) := (hF36 2).trans rfl
  have s41 : F35 3 = .int .i64 (v) := (hF36 3).trans rfl
  clear hF36
  refine then_normal ?_
  refine wq_seq ?_
  refine wq_region ?_
  refine wl_v (.int .i64 (u)) rfl rfl (y_mov rfl s40 ⟨rfl, rfl⟩) ?_
  refine wl_v (.int .i64 (u / 2)) rfl rfl (y_shrR 1 rfl rfl rfl (by decide) ((by simp)) ⟨rfl, rfl⟩) ?_
  refine wl_v (.int .i64 (v)) rfl rfl (y_mov rfl s41 ⟨rfl, rfl⟩) ?_
  refine wl_v (.int .i64 (v / 2)) rfl rfl (y_shrR 1 rfl rfl rfl (by decide) ((by simp)) ⟨rfl, rfl⟩) ?_
  refine wl_v (.int .i64 (u / 2)) rfl rfl (y_asg rfl rfl ⟨rfl, rfl⟩) ?_
  refine wl_v (.int .i64 (v / 2)) rfl rfl (y_asg rfl rfl ⟨rfl, rfl⟩) ?_
  refine wl_nil fun F42 hF43 => ?_
  have s44 : F42 1 = .int .i64 (p) := (hF43 1).trans s37
  have s45 : F42 72 = undef := (hF43 72).trans s38
  have s46 : F42 4 = .pointer (some ⟨p1, 0, none⟩) := (hF43 4).trans s39
  have s47 : F42 2 = .int .i64 (u) := (hF43 2).trans s40
  have s48 : F42 3 = .int .i64 (v) := (hF43 3).trans s41
  have s49 : F42 9 = .int .i64 (u / 2) := (hF43 9).trans rfl
  have s50 : F42 10 = .int .i64 (v / 2) := (hF43 10).trans rfl
  clear hF43
  refine then_normal ?_
  refine wq_seq ?_
  refine wq_region ?_
  refine wl_v (.int .i64 (u)) rfl rfl (y_mov rfl s47 ⟨rfl, rfl⟩) ?_
  refine wl_v (.int .i64 (u % 2)) rfl rfl (y_andR rfl rfl rfl (and_one hu2) ⟨rfl, rfl⟩) ?_
  refine wl_v (.int .i64 (v)) rfl rfl (y_mov rfl s48 ⟨rfl, rfl⟩) ?_
  refine wl_v (.int .i64 (v % 2)) rfl rfl (y_andR rfl rfl rfl (and_one hv2) ⟨rfl, rfl⟩) ?_
  refine wl_v (.int .i64 (u % 2)) rfl rfl (y_asg rfl rfl ⟨rfl, rfl⟩) ?_
  refine wl_v (.int .i64 (v % 2)) rfl rfl (y_asg rfl rfl ⟨rfl, rfl⟩) ?_
  refine wl_nil fun F51 hF52 => ?_
  have s53 : F51 1 = .int .i64 (p) := (hF52 1).trans s44
  have s54 : F51 72 = undef := (hF52 72).trans s45
  have s55 : F51 4 = .pointer (some ⟨p1, 0, none⟩) := (hF52 4).trans s46
  have s56 : F51 9 = .int .i64 (u / 2) := (hF52 9).trans s49
  have s57 : F51 10 = .int .i64 (v / 2) := (hF52 10).trans s50
  have s58 : F51 11 = .int .i64 (u % 2) := (hF52 11).trans rfl
  have s59 : F51 12 = .int .i64 (v % 2) := (hF52 12).trans rfl
  clear hF52
  refine then_normal ?_
  refine wq_seq ?_
  refine wq_region ?_
  refine wl_v (.int .i64 (0)) rfl rfl (y_asg rfl rfl ⟨rfl, rfl⟩) ?_
  refine wl_nil fun F60 hF61 => ?_
  have s62 : F60 1 = .int .i64 (p) := (hF61 1).trans s53
  have s63 : F60 72 = undef := (hF61 72).trans s54
  have s64 : F60 4 = .pointer (some ⟨p1, 0, none⟩) := (hF61 4).trans s55
  have s65 : F60 9 = .int .i64 (u / 2) := (hF61 9).trans s56
  have s66 : F60 10 = .int .i64 (v / 2) := (hF61 10).trans s57
  have s67 : F60 11 = .int .i64 (u % 2) := (hF61 11).trans s58
  have s68 : F60 12 = .int .i64 (v % 2) := (hF61 12).trans s59
  have s69 : F60 13 = .int .i64 (0) := (hF61 13).trans rfl
  clear hF61
  refine then_normal ?_
  refine wq_seq ?_
  refine wq_seq ?_
  refine wq_region ?_
  refine wl_v (.int .i64 (u % 2)) rfl rfl (y_mov rfl s67 ⟨rfl, rfl⟩) ?_
  refine wl_v (.int .i64 (v % 2)) rfl rfl (y_mov rfl s68 ⟨rfl, rfl⟩) ?_
  refine wl_v (.int .i64 (((N : Nat) : Int))) rfl rfl (y_add rfl rfl rfl (i64_i hN.symm (by omega)) ⟨rfl, rfl⟩) ?_
  refine wl_nil fun F70 hF71 => ?_
  have s72 : F70 1 = .int .i64 (p) := (hF71 1).trans s62
  have s73 : F70 72 = undef := (hF71 72).trans s63
  have s74 : F70 4 = .pointer (some ⟨p1, 0, none⟩) := (hF71 4).trans s64
  have s75 : F70 9 = .int .i64 (u / 2) := (hF71 9).trans s65
  have s76 : F70 10 = .int .i64 (v / 2) := (hF71 10).trans s66
  have s77 : F70 11 = .int .i64 (u % 2) := (hF71 11).trans s67
  have s78 : F70 12 = .int .i64 (v % 2) := (hF71 12).trans s68
  have s79 : F70 13 = .int .i64 (0) := (hF71 13).trans s69
  have s80 : F70 28 = .int .i64 (((N : Nat) : Int)) := (hF71 28).trans rfl
  clear hF71
  refine then_normal ?_
  refine wq_block ?_
  refine wq_seq ?_
  refine wq_block ?_
  refine wq_seq ?_
  refine wq_block ?_
  refine wq_seq ?_
  refine wq_block ?_
  refine wq_seq ?_
  refine wq_seq ?_
  refine wq_seq ?_
  refine wq_region ?_
  refine wl_v (.bool (decide ((((N : Nat) : Int)) = (2)))) rfl rfl (y_eqlI rfl s80 rfl rfl ⟨rfl, rfl⟩) ?_
  refine wl_v (.bool (decide ((((N : Nat) : Int)) = (2)))) rfl rfl (y_asg rfl rfl ⟨rfl, rfl⟩) ?_
  refine wl_nil fun F81 hF82 => ?_
  have s83 : F81 1 = .int .i64 (p) := (hF82 1).trans s72
  have s84 : F81 72 = undef := (hF82 72).trans s73
  have s85 : F81 4 = .pointer (some ⟨p1, 0, none⟩) := (hF82 4).trans s74
  have s86 : F81 9 = .int .i64 (u / 2) := (hF82 9).trans s75
  have s87 : F81 10 = .int .i64 (v / 2) := (hF82 10).trans s76
  have s88 : F81 11 = .int .i64 (u % 2) := (hF82 11).trans s77
  have s89 : F81 12 = .int .i64 (v % 2) := (hF82 12).trans s78
  have s90 : F81 13 = .int .i64 (0) := (hF82 13).trans s79
  have s91 : F81 28 = .int .i64 (((N : Nat) : Int)) := (hF82 28).trans s80
  have s92 : F81 29 = .bool (decide ((((N : Nat) : Int)) = (2))) := (hF82 29).trans rfl
  clear hF82
  refine then_normal ?_
  refine wq_cond s92 (fun c93 => ?_) (fun c93 => ?_)
  · replace c93 := of_decide_eq_true c93
    refine wq_exit ?_
    refine then_exit ?_
    refine then_exit ?_
    refine in_here ?_
    refine then_normal ?_
    refine wq_tail 15 [some 33, some 34, some 35, some 36, some 37, some 38, some 39, some 40, some 41, some 42, some 43, some 44, some 45, some 46, some 47] [Pd.eq (.int .i64 (0)), Pd.eq (.agg #[.int .i64 ((f).W), .int .i64 ((f).H), f0, f1, f2]), Pd.eq (.int .i64 (p)), Pd.eq (.int .i64 (u / 2)), Pd.eq (.int .i64 ((u + 1) / 2)), Pd.eq (.int .i64 (v / 2)), Pd.eq (.int .i64 (atF (f) (p) ((u + 1) / 2) (v / 2))), Pd.eq (.agg #[.int .i64 ((f).W), .int .i64 ((f).H), f0, f1, f2]), Pd.eq (.int .i64 (p)), Pd.eq (.int .i64 (u / 2)), Pd.eq (.int .i64 (v / 2)), Pd.eq (.int .i64 ((v + 1) / 2)), Pd.eq (.int .i64 (atF (f) (p) (u / 2) ((v + 1) / 2))), Pd.eq (.int .i64 ((atF (f) (p) ((u + 1) / 2) (v / 2)) + (atF (f) (p) (u / 2) ((v + 1) / 2)))), Pd.eq (.int .i64 ((0) + ((atF (f) (p) ((u + 1) / 2) (v / 2)) + (atF (f) (p) (u / 2) ((v + 1) / 2)))))] (by kernel_rfl) (by kernel_rfl) (by kernel_rfl) ?_ ?_
    · refine stepsF_cons ?_ ?_
      · refine StepF.one rfl fun F_ w_ hR hout hD => ?_
        exact (y_mov rfl ((hout 13 rfl (by decide)).trans s90) ⟨rfl, Kept.refl _ _⟩)
      refine stepsF_cons ?_ ?_
      · refine StepF.one rfl fun F_ w_ hR hout hD => ?_
        exact (y_load_stc stcT_frame rfl ((hout 4 rfl (by decide)).trans s85) (B33.all hR id) ⟨rfl, Kept.refl _ _⟩)
      refine stepsF_cons ?_ ?_
      · refine StepF.one rfl fun F_ w_ hR hout hD => ?_
        exact (y_mov rfl ((hout 1 rfl (by decide)).trans s83) ⟨rfl, Kept.refl _ _⟩)
      refine stepsF_cons ?_ ?_
      · refine StepF.one rfl fun F_ w_ hR hout hD => ?_
        exact (y_mov rfl ((hout 9 rfl (by decide)).trans s86) ⟨rfl, Kept.refl _ _⟩)
      refine stepsF_cons ?_ ?_
      · refine StepF.one rfl fun F_ w_ hR hout hD => ?_
        have g36 : F_ 36 = .int .i64 (u / 2) := hD.get 0 rfl rfl rfl
        exact (y_add rfl g36 rfl (i64_i (by omega) (by omega)) ⟨rfl, Kept.refl _ _⟩)
      refine stepsF_cons ?_ ?_
      · refine StepF.one rfl fun F_ w_ hR hout hD => ?_
        exact (y_mov rfl ((hout 10 rfl (by decide)).trans s87) ⟨rfl, Kept.refl _ _⟩)
      refine stepsF_cons ?_ ?_
      · refine StepF.one rfl fun F_ w_ hR hout hD => ?_
        have g34 : F_ 34 = .agg #[.int .i64 ((f).W), .int .i64 ((f).H), f0, f1, f2] := hD.get 0 rfl rfl rfl
        have g35 : F_ 35 = .int .i64 (p) := hD.get 1 rfl rfl rfl
        have g37 : F_ 37 = .int .i64 ((u + 1) / 2) := hD.get 2 rfl rfl rfl
        have g38 : F_ 38 = .int .i64 (v / 2) := hD.get 3 rfl rfl rfl
        exact (y_cs rfl rfl rfl (fun _ _ => by kernel_rfl) (ev_func _) (vsC g34 (vsC g35 (vsC g37 (vsC g38 vsN)))) (pl_at (p) ((u + 1) / 2) (v / 2) (f) (f0) (f1) (f2) (T_f0) (T_f1) (T_f2) _  (B30.all hR Apart.none) (B31.all hR Apart.none) (B32.all hR Apart.none) ) (fun e_ w_ h_ => ⟨_, h_.1, rfl, h_.2⟩))
      refine stepsF_cons ?_ ?_
      · refine StepF.one rfl fun F_ w_ hR hout hD => ?_
        exact (y_load_stc stcT_frame rfl ((hout 4 rfl (by decide)).trans s85) (B33.all hR id) ⟨rfl, Kept.refl _ _⟩)
      refine stepsF_cons ?_ ?_
      · refine StepF.one rfl fun F_ w_ hR hout hD => ?_
        exact (y_mov rfl ((hout 1 rfl (by decide)).trans s83) ⟨rfl, Kept.refl _ _⟩)
      refine stepsF_cons ?_ ?_
      · refine StepF.one rfl fun F_ w_ hR hout hD => ?_
        exact (y_mov rfl ((hout 9 rfl (by decide)).trans s86) ⟨rfl, Kept.refl _ _⟩)
      refine stepsF_cons ?_ ?_
      · refine StepF.one rfl fun F_ w_ hR hout hD => ?_
        exact (y_mov rfl ((hout 10 rfl (by decide)).trans s87) ⟨rfl, Kept.refl _ _⟩)
      refine stepsF_cons ?_ ?_
      · refine StepF.one rfl fun F_ w_ hR hout hD => ?_
        have g43 : F_ 43 = .int .i64 (v / 2) := hD.get 0 rfl rfl rfl
        exact (y_add rfl g43 rfl (i64_i (by omega) (by omega)) ⟨rfl, Kept.refl _ _⟩)
      refine stepsF_cons ?_ ?_
      · refine StepF.one rfl fun F_ w_ hR hout hD => ?_
        have g40 : F_ 40 = .agg #[.int .i64 ((f).W), .int .i64 ((f).H), f0, f1, f2] := hD.get 0 rfl rfl rfl
        have g41 : F_ 41 = .int .i64 (p) := hD.get 1 rfl rfl rfl
        have g42 : F_ 42 = .int .i64 (u / 2) := hD.get 2 rfl rfl rfl
        have g44 : F_ 44 = .int .i64 ((v + 1) / 2) := hD.get 3 rfl rfl rfl
        exact (y_cs rfl rfl rfl (fun _ _ => by kernel_rfl) (ev_func _) (vsC g40 (vsC g41 (vsC g42 (vsC g44 vsN)))) (pl_at (p) (u / 2) ((v + 1) / 2) (f) (f0) (f1) (f2) (T_f0) (T_f1) (T_f2) _  (B30.all hR Apart.none) (B31.all hR Apart.none) (B32.all hR Apart.none) ) (fun e_ w_ h_ => ⟨_, h_.1, rfl, h_.2⟩))
      refine stepsF_cons ?_ ?_
      · refine StepF.one rfl fun F_ w_ hR hout hD => ?_
        have g39 : F_ 39 = .int .i64 (atF (f) (p) ((u + 1) / 2) (v / 2)) := hD.get 0 rfl rfl rfl
        have g45 : F_ 45 = .int .i64 (atF (f) (p) (u / 2) ((v + 1) / 2)) := hD.get 1 rfl rfl rfl
        exact (y_add rfl g39 g45 (i64_i rfl (by omega)) ⟨rfl, Kept.refl _ _⟩)
      refine stepsF_cons ?_ ?_
      · refine StepF.one rfl fun F_ w_ hR hout hD => ?_
        have g33 : F_ 33 = .int .i64 (0) := hD.get 0 rfl rfl rfl
        have g46 : F_ 46 = .int .i64 ((atF (f) (p) ((u + 1) / 2) (v / 2)) + (atF (f) (p) (u / 2) ((v + 1) / 2))) := hD.get 1 rfl rfl rfl
        exact (y_add rfl g33 g46 (i64_i rfl (by omega)) ⟨rfl, Kept.refl _ _⟩)
      exact stepsF_nil
    intro v94 F95 w96 k97 G98 hF99
    have B101 := B30.all k97 Apart.none
    have B102 := B31.all k97 Apart.none
    have B103 := B32.all k97 Apart.none
    have B104 := B33.all k97 id
    have K105 := K34.trans k97 (fun _ _ x => x.elim)
    have s106 : F95 1 = .int .i64 (p) := (hF99 1).trans s83
    have s107 : F95 72 = undef := (hF99 72).trans s84
    have s108 : F95 4 = .pointer (some ⟨p1, 0, none⟩) := (hF99 4).trans s85
    have s109 : F95 9 = .int .i64 (u / 2) := (hF99 9).trans s86
    have s110 : F95 10 = .int .i64 (v / 2) := (hF99 10).trans s87
    have s111 : F95 11 = .int .i64 (u % 2) := (hF99 11).trans s88
    have s112 : F95 12 = .int .i64 (v % 2) := (hF99 12).trans s89
    have s113 : F95 13 = .int .i64 (0) := (hF99 13).trans s90
    have s114 : F95 47 = .int .i64 ((0) + ((atF (f) (p) ((u + 1) / 2) (v / 2)) + (atF (f) (p) (u / 2) ((v + 1) / 2)))) := (hF99 47).trans (G98 14 (by decide))
    clear G98 hF99
    refine wl_v (.int .i64 ((0) + ((atF (f) (p) ((u + 1) / 2) (v / 2)) + (atF (f) (p) (u / 2) ((v + 1) / 2))))) rfl rfl (y_asg rfl s114 ⟨rfl, rfl⟩) ?_
    refine wl_nil fun F115 hF116 => ?_
    have s117 : F115 1 = .int .i64 (p) := (hF116 1).trans s106
    have s118 : F115 72 = undef := (hF116 72).trans s107
    have s119 : F115 4 = .pointer (some ⟨p1, 0, none⟩) := (hF116 4).trans s108
    have s120 : F115 9 = .int .i64 (u / 2) := (hF116 9).trans s109
    have s121 : F115 10 = .int .i64 (v / 2) := (hF116 10).trans s110
    have s122 : F115 11 = .int .i64 (u % 2) := (hF116 11).trans s111
    have s123 : F115 12 = .int .i64 (v % 2) := (hF116 12).trans s112
    have s124 : F115 13 = .int .i64 ((0) + ((atF (f) (p) ((u + 1) / 2) (v / 2)) + (atF (f) (p) (u / 2) ((v + 1) / 2)))) := (hF116 13).trans rfl
    clear hF116
    refine in_normal ?_
    refine then_normal ?_
    refine wq_region ?_
    refine wl_v (.int .i64 ((0) + ((atF (f) (p) ((u + 1) / 2) (v / 2)) + (atF (f) (p) (u / 2) ((v + 1) / 2))))) rfl rfl (y_mov rfl s124 ⟨rfl, rfl⟩) ?_
    refine wl_v (.agg #[.int .i64 ((f).W), .int .i64 ((f).H), f0, f1, f2]) rfl rfl (y_load_stc stcT_frame rfl s119 B104 ⟨rfl, rfl⟩) ?_
    refine wl_v (.int .i64 (p)) rfl rfl (y_mov rfl s117 ⟨rfl, rfl⟩) ?_
    refine wl_v (.int .i64 (u / 2)) rfl rfl (y_mov rfl s120 ⟨rfl, rfl⟩) ?_
    refine wl_v (.int .i64 (u % 2)) rfl rfl (y_mov rfl s122 ⟨rfl, rfl⟩) ?_
    refine wl_v (.int .i64 ((u + 1) / 2)) rfl rfl (y_add rfl rfl rfl (i64_i (by omega) (by omega)) ⟨rfl, rfl⟩) ?_
    refine wl_v (.int .i64 (v / 2)) rfl rfl (y_mov rfl s121 ⟨rfl, rfl⟩) ?_
    refine wl_v (.int .i64 (v % 2)) rfl rfl (y_mov rfl s123 ⟨rfl, rfl⟩) ?_
    refine wl_v (.int .i64 ((v + 1) / 2)) rfl rfl (y_add rfl rfl rfl (i64_i (by omega) (by omega)) ⟨rfl, rfl⟩) ?_
    refine wl_call (R := fun v_ w_ => v_ = .int .i64 (atF (f) (p) ((u + 1) / 2) ((v + 1) / 2)) ∧ Kept (fun _ => False) w96 w_) rfl rfl (y_cs rfl rfl rfl (fun _ _ => by kernel_rfl) (ev_func _) (vsC rfl (vsC rfl (vsC rfl (vsC rfl vsN)))) (pl_at (p) ((u + 1) / 2) ((v + 1) / 2) (f) (f0) (f1) (f2) (T_f0) (T_f1) (T_f2) _  B101 B102 B103 ) (fun e_ w_ h_ => ⟨_, h_.1, rfl, h_.2⟩)) ?_
    rintro _ w125 ⟨rfl, k126⟩
    have B127 := B101.all k126 Apart.none
    have B128 := B102.all k126 Apart.none
    have B129 := B103.all k126 Apart.none
    have B130 := B104.all k126 id
    have K131 := K105.trans k126 (fun _ _ x => x.elim)
    refine wl_v (.int .i64 (((0) + ((atF (f) (p) ((u + 1) / 2) (v / 2)) + (atF (f) (p) (u / 2) ((v + 1) / 2)))) + (atF (f) (p) ((u + 1) / 2) ((v + 1) / 2)))) rfl rfl (y_add rfl rfl rfl (i64_i rfl (by omega)) ⟨rfl, rfl⟩) ?_
    refine wl_v (.int .i64 (((0) + ((atF (f) (p) ((u + 1) / 2) (v / 2)) + (atF (f) (p) (u / 2) ((v + 1) / 2)))) + (atF (f) (p) ((u + 1) / 2) ((v + 1) / 2)))) rfl rfl (y_asg rfl rfl ⟨rfl, rfl⟩) ?_
    refine wl_nil fun F132 hF133 => ?_
    have s134 : F132 1 = .int .i64 (p) := (hF133 1).trans s117
    have s135 : F132 72 = undef := (hF133 72).trans s118
    have s136 : F132 4 = .pointer (some ⟨p1, 0, none⟩) := (hF133 4).trans s119
    have s137 : F132 9 = .int .i64 (u / 2) := (hF133 9).trans s120
    have s138 : F132 10 = .int .i64 (v / 2) := (hF133 10).trans s121
    have s139 : F132 11 = .int .i64 (u % 2) := (hF133 11).trans s122
    have s140 : F132 12 = .int .i64 (v % 2) := (hF133 12).trans s123
    have s141 : F132 13 = .int .i64 (((0) + ((atF (f) (p) ((u + 1) / 2) (v / 2)) + (atF (f) (p) (u / 2) ((v + 1) / 2)))) + (atF (f) (p) ((u + 1) / 2) ((v + 1) / 2))) := (hF133 13).trans rfl
    clear hF133
    refine in_normal ?_
    refine then_normal ?_
    refine wq_seq ?_
    refine wq_region ?_
    refine wl_v (.int .i64 (((0) + ((atF (f) (p) ((u + 1) / 2) (v / 2)) + (atF (f) (p) (u / 2) ((v + 1) / 2)))) + (atF (f) (p) ((u + 1) / 2) ((v + 1) / 2)))) rfl rfl (y_mov rfl s141 ⟨rfl, rfl⟩) ?_
    refine wl_v (.agg #[.int .i64 ((f).W), .int .i64 ((f).H), f0, f1, f2]) rfl rfl (y_load_stc stcT_frame rfl s136 B130 ⟨rfl, rfl⟩) ?_
    refine wl_v (.int .i64 (p)) rfl rfl (y_mov rfl s134 ⟨rfl, rfl⟩) ?_
    refine wl_v (.int .i64 (u / 2)) rfl rfl (y_mov rfl s137 ⟨rfl, rfl⟩) ?_
    refine wl_v (.int .i64 (v / 2)) rfl rfl (y_mov rfl s138 ⟨rfl, rfl⟩) ?_
    refine wl_call (R := fun v_ w_ => v_ = .int .i64 (atF (f) (p) (u / 2) (v / 2)) ∧ Kept (fun _ => False) w125 w_) rfl rfl (y_cs rfl rfl rfl (fun _ _ => by kernel_rfl) (ev_func _) (vsC rfl (vsC rfl (vsC rfl (vsC rfl vsN)))) (pl_at (p) (u / 2) (v / 2) (f) (f0) (f1) (f2) (T_f0) (T_f1) (T_f2) _  B127 B128 B129 ) (fun e_ w_ h_ => ⟨_, h_.1, rfl, h_.2⟩)) ?_
    rintro _ w142 ⟨rfl, k143⟩
    have B144 := B127.all k143 Apart.none
    have B145 := B128.all k143 Apart.none
    have B146 := B129.all k143 Apart.none
    have B147 := B130.all k143 id
    have K148 := K131.trans k143 (fun _ _ x => x.elim)
    refine wl_v (.int .i64 ((((0) + ((atF (f) (p) ((u + 1) / 2) (v / 2)) + (atF (f) (p) (u / 2) ((v + 1) / 2)))) + (atF (f) (p) ((u + 1) / 2) ((v + 1) / 2))) + (atF (f) (p) (u / 2) (v / 2)))) rfl rfl (y_add rfl rfl rfl (i64_i rfl (by omega)) ⟨rfl, rfl⟩) ?_
    refine wl_v (.int .i64 ((((0) + ((atF (f) (p) ((u + 1) / 2) (v / 2)) + (atF (f) (p) (u / 2) ((v + 1) / 2)))) + (atF (f) (p) ((u + 1) / 2) ((v + 1) / 2))) + (atF (f) (p) (u / 2) (v / 2)))) rfl rfl (y_asg rfl rfl ⟨rfl, rfl⟩) ?_
    refine wl_nil fun F149 hF150 => ?_
    have s151 : F149 72 = undef := (hF150 72).trans s135
    have s152 : F149 11 = .int .i64 (u % 2) := (hF150 11).trans s139
    have s153 : F149 12 = .int .i64 (v % 2) := (hF150 12).trans s140
    have s154 : F149 13 = .int .i64 ((((0) + ((atF (f) (p) ((u + 1) / 2) (v / 2)) + (atF (f) (p) (u / 2) ((v + 1) / 2)))) + (atF (f) (p) ((u + 1) / 2) ((v + 1) / 2))) + (atF (f) (p) (u / 2) (v / 2))) := (hF150 13).trans rfl
    clear hF150
    refine then_normal ?_
    refine wq_exit ?_
    refine in_here ?_
    refine then_normal ?_
    refine wq_seq ?_
    refine wq_region ?_
    refine wl_v (.int .i64 ((((0) + ((atF (f) (p) ((u + 1) / 2) (v / 2)) + (atF (f) (p) (u / 2) ((v + 1) / 2)))) + (atF (f) (p) ((u + 1) / 2) ((v + 1) / 2))) + (atF (f) (p) (u / 2) (v / 2)))) rfl rfl (y_mov rfl s154 ⟨rfl, rfl⟩) ?_
    refine wl_v (.int .i64 (u % 2)) rfl rfl (y_mov rfl s152 ⟨rfl, rfl⟩) ?_
    refine wl_v (.int .i64 (v % 2)) rfl rfl (y_mov rfl s153 ⟨rfl, rfl⟩) ?_
    refine wl_v (.int .i64 (((N : Nat) : Int))) rfl rfl (y_add rfl rfl rfl (i64_i hN.symm (by omega)) ⟨rfl, rfl⟩) ?_
    refine wl_v (.int .i64 (M)) rfl rfl (y_shlR (N) rfl rfl rfl ((by rcases hM2 with ⟨h1, h2⟩ | ⟨h1, h2⟩ | ⟨h1, h2⟩ <;> subst h1 <;> rw [h2] <;> rfl)) ⟨rfl, rfl⟩) ?_
    refine wl_call (R := fun v_ w_ => v_ = .int .i64 (mid f p u v) ∧ Kept (fun _ => False) w142 w_) rfl rfl (y_cs rfl rfl rfl (fun _ _ => by kernel_rfl) (ev_func _) (vsC rfl (vsC rfl vsN)) (mo_mean ((((0) + ((atF (f) (p) ((u + 1) / 2) (v / 2)) + (atF (f) (p) (u / 2) ((v + 1) / 2)))) + (atF (f) (p) ((u + 1) / 2) ((v + 1) / 2))) + (atF (f) (p) (u / 2) (v / 2))) (M)  _ (by omega) (by omega)  ) (fun e_ w_ h_ => ⟨_, h_.1, congrArg (Value.int .i64) (by first | (rw [(by omega : M = 4)]; have e := mid_none (f := f) (p := p) (u := u) (v := v) (by omega) (by omega); omega) | (rw [(by omega : M = 2)]; rcases (by omega : u % 2 = 0 ∨ v % 2 = 0) with h0 | h0; (have e := mid_down (f := f) (p := p) (u := u) (v := v) (by omega) (by omega); rw [show (u + 1) / 2 = u / 2 by omega]; omega); (have e := mid_side (f := f) (p := p) (u := u) (v := v) (by omega) (by omega); rw [show (v + 1) / 2 = v / 2 by omega]; omega)) | (rw [(by omega : M = 1)]; have e := mid_both (f := f) (p := p) (u := u) (v := v) (by omega) (by omega); omega)), h_.2⟩)) ?_
    rintro _ w155 ⟨rfl, k156⟩
    have B157 := B144.all k156 Apart.none
    have B158 := B145.all k156 Apart.none
    have B159 := B146.all k156 Apart.none
    have B160 := B147.all k156 id
    have K161 := K148.trans k156 (fun _ _ x => x.elim)
    refine wl_v (.int .i64 (mid f p u v)) rfl rfl (y_asg rfl rfl ⟨rfl, rfl⟩) ?_
    refine wl_nil fun F162 hF163 => ?_
    have s164 : F162 72 = undef := (hF163 72).trans s151
    have s165 : F162 8 = .int .i64 (mid f p u v) := (hF163 8).trans rfl
    clear hF163
    refine then_normal ?_
    refine wq_ret ?_
    exact end_tmp (v := .int .i64 (mid f p u v)) s164 rfl rfl s165 ⟨(by rw [hm]), K161⟩
  · replace c93 := of_decide_eq_false c93
    refine wq_skip ?_
    refine then_normal ?_
    refine wq_seq ?_
    refine wq_region ?_
    refine wl_v (.bool (decide ((((N : Nat) : Int)) = (1)))) rfl rfl (y_eqlI rfl s91 rfl rfl ⟨rfl, rfl⟩) ?_
    refine wl_v (.bool (decide ((((N : Nat) : Int)) = (1)))) rfl rfl (y_asg rfl rfl ⟨rfl, rfl⟩) ?_
    refine wl_nil fun F166 hF167 => ?_
    have s168 : F166 1 = .int .i64 (p) := (hF167 1).trans s83
    have s169 : F166 72 = undef := (hF167 72).trans s84
    have s170 : F166 4 = .pointer (some ⟨p1, 0, none⟩) := (hF167 4).trans s85
    have s171 : F166 9 = .int .i64 (u / 2) := (hF167 9).trans s86
    have s172 : F166 10 = .int .i64 (v / 2) := (hF167 10).trans s87
    have s173 : F166 11 = .int .i64 (u % 2) := (hF167 11).trans s88
    have s174 : F166 12 = .int .i64 (v % 2) := (hF167 12).trans s89
    have s175 : F166 13 = .int .i64 (0) := (hF167 13).trans s90
    have s176 : F166 31 = .bool (decide ((((N : Nat) : Int)) = (1))) := (hF167 31).trans rfl
    clear hF167
    refine then_normal ?_
    refine wq_cond s176 (fun c177 => ?_) (fun c177 => ?_)
    · replace c177 := of_decide_eq_true c177
      refine wq_exit ?_
      refine then_exit ?_
      refine in_other (by decide) ?_
      refine then_exit ?_
      refine in_here ?_
      refine then_normal ?_
      refine wq_region ?_
      refine wl_v (.int .i64 (0)) rfl rfl (y_mov rfl s175 ⟨rfl, rfl⟩) ?_
      refine wl_v (.agg #[.int .i64 ((f).W), .int .i64 ((f).H), f0, f1, f2]) rfl rfl (y_load_stc stcT_frame rfl s170 B33 ⟨rfl, rfl⟩) ?_
      refine wl_v (.int .i64 (p)) rfl rfl (y_mov rfl s168 ⟨rfl, rfl⟩) ?_
      refine wl_v (.int .i64 (u / 2)) rfl rfl (y_mov rfl s171 ⟨rfl, rfl⟩) ?_
      refine wl_v (.int .i64 (u % 2)) rfl rfl (y_mov rfl s173 ⟨rfl, rfl⟩) ?_
      refine wl_v (.int .i64 ((u + 1) / 2)) rfl rfl (y_add rfl rfl rfl (i64_i (by omega) (by omega)) ⟨rfl, rfl⟩) ?_
      refine wl_v (.int .i64 (v / 2)) rfl rfl (y_mov rfl s172 ⟨rfl, rfl⟩) ?_
      refine wl_v (.int .i64 (v % 2)) rfl rfl (y_mov rfl s174 ⟨rfl, rfl⟩) ?_
      refine wl_v (.int .i64 ((v + 1) / 2)) rfl rfl (y_add rfl rfl rfl (i64_i (by omega) (by omega)) ⟨rfl, rfl⟩) ?_
      refine wl_call (R := fun v_ w_ => v_ = .int .i64 (atF (f) (p) ((u + 1) / 2) ((v + 1) / 2)) ∧ Kept (fun _ => False) w28 w_) rfl rfl (y_cs rfl rfl rfl (fun _ _ => by kernel_rfl) (ev_func _) (vsC rfl (vsC rfl (vsC rfl (vsC rfl vsN)))) (pl_at (p) ((u + 1) / 2) ((v + 1) / 2) (f) (f0) (f1) (f2) (T_f0) (T_f1) (T_f2) _  B30 B31 B32 ) (fun e_ w_ h_ => ⟨_, h_.1, rfl, h_.2⟩)) ?_
      rintro _ w178 ⟨rfl, k179⟩
      have B180 := B30.all k179 Apart.none
      have B181 := B31.all k179 Apart.none
      have B182 := B32.all k179 Apart.none
      have B183 := B33.all k179 id
      have K184 := K34.trans k179 (fun _ _ x => x.elim)
      refine wl_v (.int .i64 ((0) + (atF (f) (p) ((u + 1) / 2) ((v + 1) / 2)))) rfl rfl (y_add rfl rfl rfl (i64_i rfl (by omega)) ⟨rfl, rfl⟩) ?_
      refine wl_v (.int .i64 ((0) + (atF (f) (p) ((u + 1) / 2) ((v + 1) / 2)))) rfl rfl (y_asg rfl rfl ⟨rfl, rfl⟩) ?_
      refine wl_nil fun F185 hF186 => ?_
      have s187 : F185 1 = .int .i64 (p) := (hF186 1).trans s168
      have s188 : F185 72 = undef := (hF186 72).trans s169
      have s189 : F185 4 = .pointer (some ⟨p1, 0, none⟩) := (hF186 4).trans s170
      have s190 : F185 9 = .int .i64 (u / 2) := (hF186 9).trans s171
      have s191 : F185 10 = .int .i64 (v / 2) := (hF186 10).trans s172
      have s192 : F185 11 = .int .i64 (u % 2) := (hF186 11).trans s173
      have s193 : F185 12 = .int .i64 (v % 2) := (hF186 12).trans s174
      have s194 : F185 13 = .int .i64 ((0) + (atF (f) (p) ((u + 1) / 2) ((v + 1) / 2))) := (hF186 13).trans rfl
      clear hF186
      refine in_normal ?_
      refine then_normal ?_
      refine wq_seq ?_
      refine wq_region ?_
      refine wl_v (.int .i64 ((0) + (atF (f) (p) ((u + 1) / 2) ((v + 1) / 2)))) rfl rfl (y_mov rfl s194 ⟨rfl, rfl⟩) ?_
      refine wl_v (.agg #[.int .i64 ((f).W), .int .i64 ((f).H), f0, f1, f2]) rfl rfl (y_load_stc stcT_frame rfl s189 B183 ⟨rfl, rfl⟩) ?_
      refine wl_v (.int .i64 (p)) rfl rfl (y_mov rfl s187 ⟨rfl, rfl⟩) ?_
      refine wl_v (.int .i64 (u / 2)) rfl rfl (y_mov rfl s190 ⟨rfl, rfl⟩) ?_
      refine wl_v (.int .i64 (v / 2)) rfl rfl (y_mov rfl s191 ⟨rfl, rfl⟩) ?_
      refine wl_call (R := fun v_ w_ => v_ = .int .i64 (atF (f) (p) (u / 2) (v / 2)) ∧ Kept (fun _ => False) w178 w_) rfl rfl (y_cs rfl rfl rfl (fun _ _ => by kernel_rfl) (ev_func _) (vsC rfl (vsC rfl (vsC rfl (vsC rfl vsN)))) (pl_at (p) (u / 2) (v / 2) (f) (f0) (f1) (f2) (T_f0) (T_f1) (T_f2) _  B180 B181 B182 ) (fun e_ w_ h_ => ⟨_, h_.1, rfl, h_.2⟩)) ?_
      rintro _ w195 ⟨rfl, k196⟩
      have B197 := B180.all k196 Apart.none
      have B198 := B181.all k196 Apart.none
      have B199 := B182.all k196 Apart.none
      have B200 := B183.all k196 id
      have K201 := K184.trans k196 (fun _ _ x => x.elim)
      refine wl_v (.int .i64 (((0) + (atF (f) (p) ((u + 1) / 2) ((v + 1) / 2))) + (atF (f) (p) (u / 2) (v / 2)))) rfl rfl (y_add rfl rfl rfl (i64_i rfl (by omega)) ⟨rfl, rfl⟩) ?_
      refine wl_v (.int .i64 (((0) + (atF (f) (p) ((u + 1) / 2) ((v + 1) / 2))) + (atF (f) (p) (u / 2) (v / 2)))) rfl rfl (y_asg rfl rfl ⟨rfl, rfl⟩) ?_
      refine wl_nil fun F202 hF203 => ?_
      have s204 : F202 72 = undef := (hF203 72).trans s188
      have s205 : F202 11 = .int .i64 (u % 2) := (hF203 11).trans s192
      have s206 : F202 12 = .int .i64 (v % 2) := (hF203 12).trans s193
      have s207 : F202 13 = .int .i64 (((0) + (atF (f) (p) ((u + 1) / 2) ((v + 1) / 2))) + (atF (f) (p) (u / 2) (v / 2))) := (hF203 13).trans rfl
      clear hF203
      refine then_normal ?_
      refine wq_exit ?_
      refine in_here ?_
      refine then_normal ?_
      refine wq_seq ?_
      refine wq_region ?_
      refine wl_v (.int .i64 (((0) + (atF (f) (p) ((u + 1) / 2) ((v + 1) / 2))) + (atF (f) (p) (u / 2) (v / 2)))) rfl rfl (y_mov rfl s207 ⟨rfl, rfl⟩) ?_
      refine wl_v (.int .i64 (u % 2)) rfl rfl (y_mov rfl s205 ⟨rfl, rfl⟩) ?_
      refine wl_v (.int .i64 (v % 2)) rfl rfl (y_mov rfl s206 ⟨rfl, rfl⟩) ?_
      refine wl_v (.int .i64 (((N : Nat) : Int))) rfl rfl (y_add rfl rfl rfl (i64_i hN.symm (by omega)) ⟨rfl, rfl⟩) ?_
      refine wl_v (.int .i64 (M)) rfl rfl (y_shlR (N) rfl rfl rfl ((by rcases hM2 with ⟨h1, h2⟩ | ⟨h1, h2⟩ | ⟨h1, h2⟩ <;> subst h1 <;> rw [h2] <;> rfl)) ⟨rfl, rfl⟩) ?_
      refine wl_call (R := fun v_ w_ => v_ = .int .i64 (mid f p u v) ∧ Kept (fun _ => False) w195 w_) rfl rfl (y_cs rfl rfl rfl (fun _ _ => by kernel_rfl) (ev_func _) (vsC rfl (vsC rfl vsN)) (mo_mean (((0) + (atF (f) (p) ((u + 1) / 2) ((v + 1) / 2))) + (atF (f) (p) (u / 2) (v / 2))) (M)  _ (by omega) (by omega)  ) (fun e_ w_ h_ => ⟨_, h_.1, congrArg (Value.int .i64) (by first | (rw [(by omega : M = 4)]; have e := mid_none (f := f) (p := p) (u := u) (v := v) (by omega) (by omega); omega) | (rw [(by omega : M = 2)]; rcases (by omega : u % 2 = 0 ∨ v % 2 = 0) with h0 | h0; (have e := mid_down (f := f) (p := p) (u := u) (v := v) (by omega) (by omega); rw [show (u + 1) / 2 = u / 2 by omega]; omega); (have e := mid_side (f := f) (p := p) (u := u) (v := v) (by omega) (by omega); rw [show (v + 1) / 2 = v / 2 by omega]; omega)) | (rw [(by omega : M = 1)]; have e := mid_both (f := f) (p := p) (u := u) (v := v) (by omega) (by omega); omega)), h_.2⟩)) ?_
      rintro _ w208 ⟨rfl, k209⟩
      have B210 := B197.all k209 Apart.none
      have B211 := B198.all k209 Apart.none
      have B212 := B199.all k209 Apart.none
      have B213 := B200.all k209 id
      have K214 := K201.trans k209 (fun _ _ x => x.elim)
      refine wl_v (.int .i64 (mid f p u v)) rfl rfl (y_asg rfl rfl ⟨rfl, rfl⟩) ?_
      refine wl_nil fun F215 hF216 => ?_
      have s217 : F215 72 = undef := (hF216 72).trans s204
      have s218 : F215 8 = .int .i64 (mid f p u v) := (hF216 8).trans rfl
      clear hF216
      refine then_normal ?_
      refine wq_ret ?_
      exact end_tmp (v := .int .i64 (mid f p u v)) s217 rfl rfl s218 ⟨(by rw [hm]), K214⟩
    · replace c177 := of_decide_eq_false c177
      refine wq_skip ?_
      refine then_normal ?_
      refine wq_exit ?_
      refine in_other (by decide) ?_
      refine then_exit ?_
      refine in_other (by decide) ?_
      refine then_exit ?_
      refine in_here ?_
      refine then_normal ?_
      refine wq_seq ?_
      refine wq_region ?_
      refine wl_v (.int .i64 (0)) rfl rfl (y_mov rfl s175 ⟨rfl, rfl⟩) ?_
      refine wl_v (.agg #[.int .i64 ((f).W), .int .i64 ((f).H), f0, f1, f2]) rfl rfl (y_load_stc stcT_frame rfl s170 B33 ⟨rfl, rfl⟩) ?_
      refine wl_v (.int .i64 (p)) rfl rfl (y_mov rfl s168 ⟨rfl, rfl⟩) ?_
      refine wl_v (.int .i64 (u / 2)) rfl rfl (y_mov rfl s171 ⟨rfl, rfl⟩) ?_
      refine wl_v (.int .i64 (v / 2)) rfl rfl (y_mov rfl s172 ⟨rfl, rfl⟩) ?_
      refine wl_call (R := fun v_ w_ => v_ = .int .i64 (atF (f) (p) (u / 2) (v / 2)) ∧ Kept (fun _ => False) w28 w_) rfl rfl (y_cs rfl rfl rfl (fun _ _ => by kernel_rfl) (ev_func _) (vsC rfl (vsC rfl (vsC rfl (vsC rfl vsN)))) (pl_at (p) (u / 2) (v / 2) (f) (f0) (f1) (f2) (T_f0) (T_f1) (T_f2) _  B30 B31 B32 ) (fun e_ w_ h_ => ⟨_, h_.1, rfl, h_.2⟩)) ?_
      rintro _ w219 ⟨rfl, k220⟩
      have B221 := B30.all k220 Apart.none
      have B222 := B31.all k220 Apart.none
      have B223 := B32.all k220 Apart.none
      have B224 := B33.all k220 id
      have K225 := K34.trans k220 (fun _ _ x => x.elim)
      refine wl_v (.int .i64 ((0) + (atF (f) (p) (u / 2) (v / 2)))) rfl rfl (y_add rfl rfl rfl (i64_i rfl (by omega)) ⟨rfl, rfl⟩) ?_
      refine wl_v (.int .i64 ((0) + (atF (f) (p) (u / 2) (v / 2)))) rfl rfl (y_asg rfl rfl ⟨rfl, rfl⟩) ?_
      refine wl_nil fun F226 hF227 => ?_
      have s228 : F226 72 = undef := (hF227 72).trans s169
      have s229 : F226 11 = .int .i64 (u % 2) := (hF227 11).trans s173
      have s230 : F226 12 = .int .i64 (v % 2) := (hF227 12).trans s174
      have s231 : F226 13 = .int .i64 ((0) + (atF (f) (p) (u / 2) (v / 2))) := (hF227 13).trans rfl
      clear hF227
      refine then_normal ?_
      refine wq_exit ?_
      refine in_here ?_
      refine then_normal ?_
      refine wq_seq ?_
      refine wq_region ?_
      refine wl_v (.int .i64 ((0) + (atF (f) (p) (u / 2) (v / 2)))) rfl rfl (y_mov rfl s231 ⟨rfl, rfl⟩) ?_
      refine wl_v (.int .i64 (u % 2)) rfl rfl (y_mov rfl s229 ⟨rfl, rfl⟩) ?_
      refine wl_v (.int .i64 (v % 2)) rfl rfl (y_mov rfl s230 ⟨rfl, rfl⟩) ?_
      refine wl_v (.int .i64 (((N : Nat) : Int))) rfl rfl (y_add rfl rfl rfl (i64_i hN.symm (by omega)) ⟨rfl, rfl⟩) ?_
      refine wl_v (.int .i64 (M)) rfl rfl (y_shlR (N) rfl rfl rfl ((by rcases hM2 with ⟨h1, h2⟩ | ⟨h1, h2⟩ | ⟨h1, h2⟩ <;> subst h1 <;> rw [h2] <;> rfl)) ⟨rfl, rfl⟩) ?_
      refine wl_call (R := fun v_ w_ => v_ = .int .i64 (mid f p u v) ∧ Kept (fun _ => False) w219 w_) rfl rfl (y_cs rfl rfl rfl (fun _ _ => by kernel_rfl) (ev_func _) (vsC rfl (vsC rfl vsN)) (mo_mean ((0) + (atF (f) (p) (u / 2) (v / 2))) (M)  _ (by omega) (by omega)  ) (fun e_ w_ h_ => ⟨_, h_.1, congrArg (Value.int .i64) (by first | (rw [(by omega : M = 4)]; have e := mid_none (f := f) (p := p) (u := u) (v := v) (by omega) (by omega); omega) | (rw [(by omega : M = 2)]; rcases (by omega : u % 2 = 0 ∨ v % 2 = 0) with h0 | h0; (have e := mid_down (f := f) (p := p) (u := u) (v := v) (by omega) (by omega); rw [show (u + 1) / 2 = u / 2 by omega]; omega); (have e := mid_side (f := f) (p := p) (u := u) (v := v) (by omega) (by omega); rw [show (v + 1) / 2 = v / 2 by omega]; omega)) | (rw [(by omega : M = 1)]; have e := mid_both (f := f) (p := p) (u := u) (v := v) (by omega) (by omega); omega)), h_.2⟩)) ?_
      rintro _ w232 ⟨rfl, k233⟩
      have B234 := B221.all k233 Apart.none
      have B235 := B222.all k233 Apart.none
      have B236 := B223.all k233 Apart.none
      have B237 := B224.all k233 id
      have K238 := K225.trans k233 (fun _ _ x => x.elim)
      refine wl_v (.int .i64 (mid f p u v)) rfl rfl (y_asg rfl rfl ⟨rfl, rfl⟩) ?_
      refine wl_nil fun F239 hF240 => ?_
      have s241 : F239 72 = undef := (hF240 72).trans s228
      have s242 : F239 8 = .int .i64 (mid f p u v) := (hF240 8).trans rfl
      clear hF240
      refine then_normal ?_
      refine wq_ret ?_
      exact end_tmp (v := .int .i64 (mid f p u v)) s241 rfl rfl s242 ⟨(by rw [hm]), K238⟩
set_option maxHeartbeats 4000000 in
set_option maxRecDepth 100000 in
theorem mo_predict (p x y X Y : Int) (f : FD) (f0 f1 f2 : Value) (T_f0 : Nat → Prop) (T_f1 : Nat → Prop) (T_f2 : Nat → Prop) (w0 : World) (h_f0 : Byt w0 T_f0 f0 ((f).p0)) (h_f1 : Byt w0 T_f1 f1 ((f).p1)) (h_f2 : Byt w0 T_f2 f2 ((f).p2)) :
    Calls Try.prog 11 #[.agg #[.int .i64 ((f).W), .int .i64 ((f).H), f0, f1, f2], .int .i64 (p), .int .i64 (x), .int .i64 (y), .agg #[.int .i64 (X), .int .i64 (Y)]] w0 fun e w' => e = .returned (.tuple #[blkV (mvB f p x y X Y), .int .i64 (mvE f p x y X Y)]) ∧ Kept (fun _ => False) w0 w' := by
  refine calls_wq (args := [.agg #[.int .i64 ((f).W), .int .i64 ((f).H), f0, f1, f2], .int .i64 (p), .int .i64 (x), .int .i64 (y), .agg #[.int .i64 (X), .int .i64 (Y)]]) 69 Try.func11 rfl rfl (Nat.le_of_ble_eq_true rfl) ?_
  have K0 := Kept.refl (fun _ => False) w0
  have g_f0 := Grew.refl w0 T_f0
  have g_f1 := Grew.refl w0 T_f1
  have g_f2 := Grew.refl w0 T_f2
  refine wq_seq ?_
  refine wq_region ?_
  refine wl_box_stc (vs := [.int .i64 ((f).W), .int .i64 ((f).H), f0, f1, f2]) rfl rfl rfl rfl fun p1 w2 B4 g5 k3 => ?_
  have gr6 : Grew w0 noB (onB p1) := Grew.new K0 g5
  have ap7 : Apart (onB p1) (T_f0) := Apart.new g5 (h_f0).live
  have ap8 : Apart (onB p1) (T_f1) := Apart.new g5 (h_f1).live
  have ap9 : Apart (onB p1) (T_f2) := Apart.new g5 (h_f2).live
  have B10 := h_f0.all k3 Apart.none
  have B11 := h_f1.all k3 Apart.none
  have B12 := h_f2.all k3 Apart.none
  have K13 := K0.trans k3 (fun _ _ x => x.elim)
  refine wl_box_stc (vs := [.int .i64 (X), .int .i64 (Y)]) rfl rfl rfl rfl fun p14 w15 B17 g18 k16 => ?_
  have gr19 : Grew w0 noB (onB p14) := Grew.new K13 g18
  have ap20 : Apart (onB p14) (T_f0) := Apart.new g18 (B10).live
  have ap21 : Apart (onB p14) (T_f1) := Apart.new g18 (B11).live
  have ap22 : Apart (onB p14) (T_f2) := Apart.new g18 (B12).live
  have ap23 : Apart (onB p14) (onB p1) := Apart.new g18 (onB_live (B4).lt)
  have B24 := B10.all k16 Apart.none
  have B25 := B11.all k16 Apart.none
  have B26 := B12.all k16 Apart.none
  have B27 := B4.all k16 id
  have K28 := K13.trans k16 (fun _ _ x => x.elim)
  refine wl_alloc_blk rfl rfl rfl blkT_block.2.2 fun p29 w30 e33 B31 k32 => ?_
  have g34 := onB_new (Nat.le_of_eq e33.symm)
  have gr35 : Grew w0 noB (onB p29) := Grew.new K28 g34
  have ap36 : Apart (onB p29) (T_f0) := Apart.new g34 (B24).live
  have ap37 : Apart (onB p29) (T_f1) := Apart.new g34 (B25).live
  have ap38 : Apart (onB p29) (T_f2) := Apart.new g34 (B26).live
  have ap39 : Apart (onB p29) (onB p1) := Apart.new g34 (onB_live (B27).lt)
  have ap40 : Apart (onB p29) (onB p14) := Apart.new g34 (onB_live (B17).lt)
  clear e33 g34
  have B41 := B24.all k32 Apart.none
  have B42 := B25.all k32 Apart.none
  have B43 := B26.all k32 Apart.none
  have B44 := B27.all k32 id
  have B45 := B17.all k32 id
  have K46 := K28.trans k32 (fun _ _ x => x.elim)
  refine wl_v (.int .i64 (0)) rfl rfl (y_asg rfl rfl ⟨rfl, rfl⟩) ?_
  refine wl_nil fun F47 hF48 => ?_
  have s49 : F47 1 = .int .i64 (p) := (hF48 1).trans rfl
  have s50 : F47 2 = .int .i64 (x) := (hF48 2).trans rfl
  have s51 : F47 3 = .int .i64 (y) := (hF48 3).trans rfl
  have s52 : F47 69 = undef := (hF48 69).trans rfl
  have s53 : F47 5 = .pointer (some ⟨p1, 0, none⟩) := (hF48 5).trans rfl
  have s54 : F47 9 = .pointer (some ⟨p14, 0, none⟩) := (hF48 9).trans rfl
  have s55 : F47 10 = .pointer (some ⟨p29, 0, none⟩) := (hF48 10).trans rfl
  clear hF48
  refine then_normal ?_
  refine wq_seq ?_
  refine wq_seq ?_
  by_cases d56 : (checkE (f)) ≠ (0)
  · skip
    refine wq_region ?_
    refine wl_v (.agg #[.int .i64 ((f).W), .int .i64 ((f).H), f0, f1, f2]) rfl rfl (y_load_stc stcT_frame rfl s53 B44 ⟨rfl, rfl⟩) ?_
    refine wl_call (R := fun v_ w_ => v_ = .int .i64 (checkE (f)) ∧ Kept (fun _ => False) w30 w_) rfl rfl (y_cs rfl rfl rfl (fun _ _ => by kernel_rfl) (ev_func _) (vsC rfl vsN) (pl_check (f) (f0) (f1) (f2) (T_f0) (T_f1) (T_f2) _  B41 B42 B43 ) (fun e_ w_ h_ => ⟨_, h_.1, rfl, h_.2⟩)) ?_
    rintro _ w57 ⟨rfl, k58⟩
    have B59 := B41.all k58 Apart.none
    have B60 := B42.all k58 Apart.none
    have B61 := B43.all k58 Apart.none
    have B62 := B44.all k58 id
    have B63 := B45.all k58 id
    have B64 := B31.all k58 id
    have K65 := K46.trans k58 (fun _ _ x => x.elim)
    refine wl_v (.bool true) rfl rfl (y_neqI rfl rfl rfl (decide_eq_true d56) ⟨rfl, rfl⟩) ?_
    refine wl_v (.bool true) rfl rfl (y_mov rfl rfl ⟨rfl, rfl⟩) ?_
    refine wl_unless 3 false 18 rfl rfl rfl (Or.inl rfl) rfl ?_
    refine wl_unless 3 false 18 rfl rfl rfl (Or.inl rfl) rfl ?_
    refine wl_v (.bool true) rfl rfl (y_pickT rfl rfl rfl ⟨rfl, rfl⟩) ?_
    refine wl_v (.bool true) rfl rfl (y_mov rfl rfl ⟨rfl, rfl⟩) ?_
    refine wl_unless 7 false 22 rfl rfl rfl (Or.inl rfl) rfl ?_
    refine wl_unless 7 false 22 rfl rfl rfl (Or.inl rfl) rfl ?_
    refine wl_v (.bool true) rfl rfl (y_pickT rfl rfl rfl ⟨rfl, rfl⟩) ?_
    refine wl_v (.bool true) rfl rfl (y_mov rfl rfl ⟨rfl, rfl⟩) ?_
    refine wl_unless 11 false 26 rfl rfl rfl (Or.inl rfl) rfl ?_
    refine wl_unless 11 false 26 rfl rfl rfl (Or.inl rfl) rfl ?_
    refine wl_unless 11 false 26 rfl rfl rfl (Or.inl rfl) rfl ?_
    refine wl_v (.bool true) rfl rfl (y_pickT rfl rfl rfl ⟨rfl, rfl⟩) ?_
    refine wl_v (.bool true) rfl rfl (y_mov rfl rfl ⟨rfl, rfl⟩) ?_
    refine wl_unless 16 false 31 rfl rfl rfl (Or.inl rfl) rfl ?_
    refine wl_unless 16 false 31 rfl rfl rfl (Or.inl rfl) rfl ?_
    refine wl_unless 16 false 31 rfl rfl rfl (Or.inl rfl) rfl ?_
    refine wl_v (.bool true) rfl rfl (y_pickT rfl rfl rfl ⟨rfl, rfl⟩) ?_
    refine wl_nil fun F66 hF67 => ?_
    have s68 : F66 1 = .int .i64 (p) := (hF67 1).trans s49
    have s69 : F66 2 = .int .i64 (x) := (hF67 2).trans s50
    have s70 : F66 3 = .int .i64 (y) := (hF67 3).trans s51
    have s71 : F66 69 = undef := (hF67 69).trans s52
    have s72 : F66 5 = .pointer (some ⟨p1, 0, none⟩) := (hF67 5).trans s53
    have s73 : F66 9 = .pointer (some ⟨p14, 0, none⟩) := (hF67 9).trans s54
    have s74 : F66 10 = .pointer (some ⟨p29, 0, none⟩) := (hF67 10).trans s55
    have s75 : F66 35 = .bool true := (hF67 35).trans rfl
    clear hF67
    refine then_normal ?_
    refine wq_cond (t := true) s75 (fun _ => ?_) (fun e => by cases e)
    refine wq_seq ?_
    have hno : ¬ placeF f p x y := by rintro ⟨h1, h2, h3, h4, h5, h6, h7⟩; first | exact absurd ((checkE_iff f).2 h1) (by assumption) | omega
    refine wq_region ?_
    refine wl_v (blkV (fun _ => 0)) rfl rfl (y_buildR (cells := (arrL 16 (fun _ => 0)).toArray) rfl (by kernel_rfl) rfl ⟨rfl, rfl⟩) ?_
    refine wl_store_blk blkT_block rfl rfl rfl s74 rfl B64 fun w76 B77 k78 => ?_
    have B79 := B59.all k78 (fun i h x => (((ap36).symm) i h x))
    have B80 := B60.all k78 (fun i h x => (((ap37).symm) i h x))
    have B81 := B61.all k78 (fun i h x => (((ap38).symm) i h x))
    have B82 := B62.all k78 (fun x => (((ap39).symm) p1 rfl x))
    have B83 := B63.all k78 (fun x => (((ap40).symm) p14 rfl x))
    have K84 := K65.trans k78 (Grew.ok (S := fun _ => False) gr35 noB_le)
    refine wl_v (.int .i64 (70)) rfl rfl (y_asg rfl rfl ⟨rfl, rfl⟩) ?_
    refine wl_nil fun F85 hF86 => ?_
    have s87 : F85 69 = undef := (hF86 69).trans s71
    have s88 : F85 10 = .pointer (some ⟨p29, 0, none⟩) := (hF86 10).trans s74
    have s89 : F85 11 = .int .i64 (70) := (hF86 11).trans rfl
    clear hF86
    refine then_normal ?_
    refine wq_ret ?_
    refine then_ret ?_
    exact end_2 s87 rfl (res_blk blkT_block rfl s88 B77) (res_tmp (v := .int .i64 (70)) rfl s89) ⟨(by first | rw [(mv_no hno).1, (mv_no hno).2] | rw [(mv_none hpl hvn).1, (mv_none hpl hvn).2, vecE_no hvn] | rw [(mv_yes hpl hv).1, (mv_yes hpl hv).2]), K84⟩
  · skip
    by_cases d90 : (p) < (0)
    · skip
      refine wq_region ?_
      refine wl_v (.agg #[.int .i64 ((f).W), .int .i64 ((f).H), f0, f1, f2]) rfl rfl (y_load_stc stcT_frame rfl s53 B44 ⟨rfl, rfl⟩) ?_
      refine wl_call (R := fun v_ w_ => v_ = .int .i64 (checkE (f)) ∧ Kept (fun _ => False) w30 w_) rfl rfl (y_cs rfl rfl rfl (fun _ _ => by kernel_rfl) (ev_func _) (vsC rfl vsN) (pl_check (f) (f0) (f1) (f2) (T_f0) (T_f1) (T_f2) _  B41 B42 B43 ) (fun e_ w_ h_ => ⟨_, h_.1, rfl, h_.2⟩)) ?_
      rintro _ w91 ⟨rfl, k92⟩
      have B93 := B41.all k92 Apart.none
      have B94 := B42.all k92 Apart.none
      have B95 := B43.all k92 Apart.none
      have B96 := B44.all k92 id
      have B97 := B45.all k92 id
      have B98 := B31.all k92 id
      have K99 := K46.trans k92 (fun _ _ x => x.elim)
      refine wl_v (.bool false) rfl rfl (y_neqI rfl rfl rfl (decide_eq_false d56) ⟨rfl, rfl⟩) ?_
      refine wl_v (.bool false) rfl rfl (y_mov rfl rfl ⟨rfl, rfl⟩) ?_
      refine wl_vw (.int .i64 (p)) 3 false 18 rfl rfl rfl rfl rfl (y_mov rfl s49 ⟨rfl, rfl⟩) ?_
      refine wl_vw (.bool true) 3 false 18 rfl rfl rfl rfl rfl (y_lss rfl rfl rfl (decide_eq_true d90) ⟨rfl, rfl⟩) ?_
      refine wl_v (.bool true) rfl rfl (y_pickF rfl rfl rfl ⟨rfl, rfl⟩) ?_
      refine wl_v (.bool true) rfl rfl (y_mov rfl rfl ⟨rfl, rfl⟩) ?_
      refine wl_unless 7 false 22 rfl rfl rfl (Or.inl rfl) rfl ?_
      refine wl_unless 7 false 22 rfl rfl rfl (Or.inl rfl) rfl ?_
      refine wl_v (.bool true) rfl rfl (y_pickT rfl rfl rfl ⟨rfl, rfl⟩) ?_
      refine wl_v (.bool true) rfl rfl (y_mov rfl rfl ⟨rfl, rfl⟩) ?_
      refine wl_unless 11 false 26 rfl rfl rfl (Or.inl rfl) rfl ?_
      refine wl_unless 11 false 26 rfl rfl rfl (Or.inl rfl) rfl ?_
      refine wl_unless 11 false 26 rfl rfl rfl (Or.inl rfl) rfl ?_
      refine wl_v (.bool true) rfl rfl (y_pickT rfl rfl rfl ⟨rfl, rfl⟩) ?_
      refine wl_v (.bool true) rfl rfl (y_mov rfl rfl ⟨rfl, rfl⟩) ?_
      refine wl_unless 16 false 31 rfl rfl rfl (Or.inl rfl) rfl ?_
      refine wl_unless 16 false 31 rfl rfl rfl (Or.inl rfl) rfl ?_
      refine wl_unless 16 false 31 rfl rfl rfl (Or.inl rfl) rfl ?_
      refine wl_v (.bool true) rfl rfl (y_pickT rfl rfl rfl ⟨rfl, rfl⟩) ?_
      refine wl_nil fun F100 hF101 => ?_
      have s102 : F100 1 = .int .i64 (p) := (hF101 1).trans s49
      have s103 : F100 2 = .int .i64 (x) := (hF101 2).trans s50
      have s104 : F100 3 = .int .i64 (y) := (hF101 3).trans s51
      have s105 : F100 69 = undef := (hF101 69).trans s52
      have s106 : F100 5 = .pointer (some ⟨p1, 0, none⟩) := (hF101 5).trans s53
      have s107 : F100 9 = .pointer (some ⟨p14, 0, none⟩) := (hF101 9).trans s54
      have s108 : F100 10 = .pointer (some ⟨p29, 0, none⟩) := (hF101 10).trans s55
      have s109 : F100 35 = .bool true := (hF101 35).trans rfl
      clear hF101
      refine then_normal ?_
      refine wq_cond (t := true) s109 (fun _ => ?_) (fun e => by cases e)
      refine wq_seq ?_
      have hno : ¬ placeF f p x y := by rintro ⟨h1, h2, h3, h4, h5, h6, h7⟩; first | exact absurd ((checkE_iff f).2 h1) (by assumption) | omega
      refine wq_region ?_
      refine wl_v (blkV (fun _ => 0)) rfl rfl (y_buildR (cells := (arrL 16 (fun _ => 0)).toArray) rfl (by kernel_rfl) rfl ⟨rfl, rfl⟩) ?_
      refine wl_store_blk blkT_block rfl rfl rfl s108 rfl B98 fun w110 B111 k112 => ?_
      have B113 := B93.all k112 (fun i h x => (((ap36).symm) i h x))
      have B114 := B94.all k112 (fun i h x => (((ap37).symm) i h x))
      have B115 := B95.all k112 (fun i h x => (((ap38).symm) i h x))
      have B116 := B96.all k112 (fun x => (((ap39).symm) p1 rfl x))
      have B117 := B97.all k112 (fun x => (((ap40).symm) p14 rfl x))
      have K118 := K99.trans k112 (Grew.ok (S := fun _ => False) gr35 noB_le)
      refine wl_v (.int .i64 (70)) rfl rfl (y_asg rfl rfl ⟨rfl, rfl⟩) ?_
      refine wl_nil fun F119 hF120 => ?_
      have s121 : F119 69 = undef := (hF120 69).trans s105
      have s122 : F119 10 = .pointer (some ⟨p29, 0, none⟩) := (hF120 10).trans s108
      have s123 : F119 11 = .int .i64 (70) := (hF120 11).trans rfl
      clear hF120
      refine then_normal ?_
      refine wq_ret ?_
      refine then_ret ?_
      exact end_2 s121 rfl (res_blk blkT_block rfl s122 B111) (res_tmp (v := .int .i64 (70)) rfl s123) ⟨(by first | rw [(mv_no hno).1, (mv_no hno).2] | rw [(mv_none hpl hvn).1, (mv_none hpl hvn).2, vecE_no hvn] | rw [(mv_yes hpl hv).1, (mv_yes hpl hv).2]), K118⟩
    · skip
      by_cases d124 : (3) ≤ (p)
      · skip
        refine wq_region ?_
        refine wl_v (.agg #[.int .i64 ((f).W), .int .i64 ((f).H), f0, f1, f2]) rfl rfl (y_load_stc stcT_frame rfl s53 B44 ⟨rfl, rfl⟩) ?_
        refine wl_call (R := fun v_ w_ => v_ = .int .i64 (checkE (f)) ∧ Kept (fun _ => False) w30 w_) rfl rfl (y_cs rfl rfl rfl (fun _ _ => by kernel_rfl) (ev_func _) (vsC rfl vsN) (pl_check (f) (f0) (f1) (f2) (T_f0) (T_f1) (T_f2) _  B41 B42 B43 ) (fun e_ w_ h_ => ⟨_, h_.1, rfl, h_.2⟩)) ?_
        rintro _ w125 ⟨rfl, k126⟩
        have B127 := B41.all k126 Apart.none
        have B128 := B42.all k126 Apart.none
        have B129 := B43.all k126 Apart.none
        have B130 := B44.all k126 id
        have B131 := B45.all k126 id
        have B132 := B31.all k126 id
        have K133 := K46.trans k126 (fun _ _ x => x.elim)
        refine wl_v (.bool false) rfl rfl (y_neqI rfl rfl rfl (decide_eq_false d56) ⟨rfl, rfl⟩) ?_
        refine wl_v (.bool false) rfl rfl (y_mov rfl rfl ⟨rfl, rfl⟩) ?_
        refine wl_vw (.int .i64 (p)) 3 false 18 rfl rfl rfl rfl rfl (y_mov rfl s49 ⟨rfl, rfl⟩) ?_
        refine wl_vw (.bool false) 3 false 18 rfl rfl rfl rfl rfl (y_lss rfl rfl rfl (decide_eq_false d90) ⟨rfl, rfl⟩) ?_
        refine wl_v (.bool false) rfl rfl (y_pickF rfl rfl rfl ⟨rfl, rfl⟩) ?_
        refine wl_v (.bool false) rfl rfl (y_mov rfl rfl ⟨rfl, rfl⟩) ?_
        refine wl_vw (.int .i64 (p)) 7 false 22 rfl rfl rfl rfl rfl (y_mov rfl s49 ⟨rfl, rfl⟩) ?_
        refine wl_vw (.bool true) 7 false 22 rfl rfl rfl rfl rfl (y_geq rfl rfl rfl (decide_eq_true d124) ⟨rfl, rfl⟩) ?_
        refine wl_v (.bool true) rfl rfl (y_pickF rfl rfl rfl ⟨rfl, rfl⟩) ?_
        refine wl_v (.bool true) rfl rfl (y_mov rfl rfl ⟨rfl, rfl⟩) ?_
        refine wl_unless 11 false 26 rfl rfl rfl (Or.inl rfl) rfl ?_
        refine wl_unless 11 false 26 rfl rfl rfl (Or.inl rfl) rfl ?_
        refine wl_unless 11 false 26 rfl rfl rfl (Or.inl rfl) rfl ?_
        refine wl_v (.bool true) rfl rfl (y_pickT rfl rfl rfl ⟨rfl, rfl⟩) ?_
        refine wl_v (.bool true) rfl rfl (y_mov rfl rfl ⟨rfl, rfl⟩) ?_
        refine wl_unless 16 false 31 rfl rfl rfl (Or.inl rfl) rfl ?_
        refine wl_unless 16 false 31 rfl rfl rfl (Or.inl rfl) rfl ?_
        refine wl_unless 16 false 31 rfl rfl rfl (Or.inl rfl) rfl ?_
        refine wl_v (.bool true) rfl rfl (y_pickT rfl rfl rfl ⟨rfl, rfl⟩) ?_
        refine wl_nil fun F134 hF135 => ?_
        have s136 : F134 1 = .int .i64 (p) := (hF135 1).trans s49
        have s137 : F134 2 = .int .i64 (x) := (hF135 2).trans s50
        have s138 : F134 3 = .int .i64 (y) := (hF135 3).trans s51
        have s139 : F134 69 = undef := (hF135 69).trans s52
        have s140 : F134 5 = .pointer (some ⟨p1, 0, none⟩) := (hF135 5).trans s53
        have s141 : F134 9 = .pointer (some ⟨p14, 0, none⟩) := (hF135 9).trans s54
        have s142 : F134 10 = .pointer (some ⟨p29, 0, none⟩) := (hF135 10).trans s55
        have s143 : F134 35 = .bool true := (hF135 35).trans rfl
        clear hF135
        refine then_normal ?_
        refine wq_cond (t := true) s143 (fun _ => ?_) (fun e => by cases e)
        refine wq_seq ?_
        have hno : ¬ placeF f p x y := by rintro ⟨h1, h2, h3, h4, h5, h6, h7⟩; first | exact absurd ((checkE_iff f).2 h1) (by assumption) | omega
        refine wq_region ?_
        refine wl_v (blkV (fun _ => 0)) rfl rfl (y_buildR (cells := (arrL 16 (fun _ => 0)).toArray) rfl (by kernel_rfl) rfl ⟨rfl, rfl⟩) ?_
        refine wl_store_blk blkT_block rfl rfl rfl s142 rfl B132 fun w144 B145 k146 => ?_
        have B147 := B127.all k146 (fun i h x => (((ap36).symm) i h x))
        have B148 := B128.all k146 (fun i h x => (((ap37).symm) i h x))
        have B149 := B129.all k146 (fun i h x => (((ap38).symm) i h x))
        have B150 := B130.all k146 (fun x => (((ap39).symm) p1 rfl x))
        have B151 := B131.all k146 (fun x => (((ap40).symm) p14 rfl x))
        have K152 := K133.trans k146 (Grew.ok (S := fun _ => False) gr35 noB_le)
        refine wl_v (.int .i64 (70)) rfl rfl (y_asg rfl rfl ⟨rfl, rfl⟩) ?_
        refine wl_nil fun F153 hF154 => ?_
        have s155 : F153 69 = undef := (hF154 69).trans s139
        have s156 : F153 10 = .pointer (some ⟨p29, 0, none⟩) := (hF154 10).trans s142
        have s157 : F153 11 = .int .i64 (70) := (hF154 11).trans rfl
        clear hF154
        refine then_normal ?_
        refine wq_ret ?_
        refine then_ret ?_
        exact end_2 s155 rfl (res_blk blkT_block rfl s156 B145) (res_tmp (v := .int .i64 (70)) rfl s157) ⟨(by first | rw [(mv_no hno).1, (mv_no hno).2] | rw [(mv_none hpl hvn).1, (mv_none hpl hvn).2, vecE_no hvn] | rw [(mv_yes hpl hv).1, (mv_yes hpl hv).2]), K152⟩
      · skip
        by_cases d158 : 0 ≤ (x) ∧ (x) ≤ 64
        · skip
          by_cases d159 : 0 ≤ (y) ∧ (y) ≤ 64
          · skip
            refine wq_region ?_
            refine wl_v (.agg #[.int .i64 ((f).W), .int .i64 ((f).H), f0, f1, f2]) rfl rfl (y_load_stc stcT_frame rfl s53 B44 ⟨rfl, rfl⟩) ?_
            refine wl_call (R := fun v_ w_ => v_ = .int .i64 (checkE (f)) ∧ Kept (fun _ => False) w30 w_) rfl rfl (y_cs rfl rfl rfl (fun _ _ => by kernel_rfl) (ev_func _) (vsC rfl vsN) (pl_check (f) (f0) (f1) (f2) (T_f0) (T_f1) (T_f2) _  B41 B42 B43 ) (fun e_ w_ h_ => ⟨_, h_.1, rfl, h_.2⟩)) ?_
            rintro _ w160 ⟨rfl, k161⟩
            have B162 := B41.all k161 Apart.none
            have B163 := B42.all k161 Apart.none
            have B164 := B43.all k161 Apart.none
            have B165 := B44.all k161 id
            have B166 := B45.all k161 id
            have B167 := B31.all k161 id
            have K168 := K46.trans k161 (fun _ _ x => x.elim)
            refine wl_v (.bool false) rfl rfl (y_neqI rfl rfl rfl (decide_eq_false d56) ⟨rfl, rfl⟩) ?_
            refine wl_v (.bool false) rfl rfl (y_mov rfl rfl ⟨rfl, rfl⟩) ?_
            refine wl_vw (.int .i64 (p)) 3 false 18 rfl rfl rfl rfl rfl (y_mov rfl s49 ⟨rfl, rfl⟩) ?_
            refine wl_vw (.bool false) 3 false 18 rfl rfl rfl rfl rfl (y_lss rfl rfl rfl (decide_eq_false d90) ⟨rfl, rfl⟩) ?_
            refine wl_v (.bool false) rfl rfl (y_pickF rfl rfl rfl ⟨rfl, rfl⟩) ?_
            refine wl_v (.bool false) rfl rfl (y_mov rfl rfl ⟨rfl, rfl⟩) ?_
            refine wl_vw (.int .i64 (p)) 7 false 22 rfl rfl rfl rfl rfl (y_mov rfl s49 ⟨rfl, rfl⟩) ?_
            refine wl_vw (.bool false) 7 false 22 rfl rfl rfl rfl rfl (y_geq rfl rfl rfl (decide_eq_false d124) ⟨rfl, rfl⟩) ?_
            refine wl_v (.bool false) rfl rfl (y_pickF rfl rfl rfl ⟨rfl, rfl⟩) ?_
            refine wl_v (.bool false) rfl rfl (y_mov rfl rfl ⟨rfl, rfl⟩) ?_
            refine wl_vw (.int .i64 (x)) 11 false 26 rfl rfl rfl rfl rfl (y_mov rfl s50 ⟨rfl, rfl⟩) ?_
            refine wl_callw (R := fun v_ w_ => v_ = .bool true ∧ Kept (fun _ => False) w160 w_) 11 false 26 rfl rfl rfl rfl rfl (y_cs rfl rfl rfl (fun _ _ => by kernel_rfl) (ev_func _) (vsC rfl vsN) (mo_mayPlace (x)  _   ) (fun e_ w_ h_ => ⟨_, h_.1, (congrArg Value.bool (decide_eq_true d158)), h_.2⟩)) ?_
            rintro _ w169 ⟨rfl, k170⟩
            have B171 := B162.all k170 Apart.none
            have B172 := B163.all k170 Apart.none
            have B173 := B164.all k170 Apart.none
            have B174 := B165.all k170 id
            have B175 := B166.all k170 id
            have B176 := B167.all k170 id
            have K177 := K168.trans k170 (fun _ _ x => x.elim)
            refine wl_vw (.bool false) 11 false 26 rfl rfl rfl rfl rfl (y_not rfl rfl rfl ⟨rfl, rfl⟩) ?_
            refine wl_v (.bool false) rfl rfl (y_pickF rfl rfl rfl ⟨rfl, rfl⟩) ?_
            refine wl_v (.bool false) rfl rfl (y_mov rfl rfl ⟨rfl, rfl⟩) ?_
            refine wl_vw (.int .i64 (y)) 16 false 31 rfl rfl rfl rfl rfl (y_mov rfl s51 ⟨rfl, rfl⟩) ?_
            refine wl_callw (R := fun v_ w_ => v_ = .bool true ∧ Kept (fun _ => False) w169 w_) 16 false 31 rfl rfl rfl rfl rfl (y_cs rfl rfl rfl (fun _ _ => by kernel_rfl) (ev_func _) (vsC rfl vsN) (mo_mayPlace (y)  _   ) (fun e_ w_ h_ => ⟨_, h_.1, (congrArg Value.bool (decide_eq_true d159)), h_.2⟩)) ?_
            rintro _ w178 ⟨rfl, k179⟩
            have B180 := B171.all k179 Apart.none
            have B181 := B172.all k179 Apart.none
            have B182 := B173.all k179 Apart.none
            have B183 := B174.all k179 id
            have B184 := B175.all k179 id
            have B185 := B176.all k179 id
            have K186 := K177.trans k179 (fun _ _ x => x.elim)
            refine wl_vw (.bool false) 16 false 31 rfl rfl rfl rfl rfl (y_not rfl rfl rfl ⟨rfl, rfl⟩) ?_
            refine wl_v (.bool false) rfl rfl (y_pickF rfl rfl rfl ⟨rfl, rfl⟩) ?_
            refine wl_nil fun F187 hF188 => ?_
            have s189 : F187 1 = .int .i64 (p) := (hF188 1).trans s49
            have s190 : F187 2 = .int .i64 (x) := (hF188 2).trans s50
            have s191 : F187 3 = .int .i64 (y) := (hF188 3).trans s51
            have s192 : F187 69 = undef := (hF188 69).trans s52
            have s193 : F187 5 = .pointer (some ⟨p1, 0, none⟩) := (hF188 5).trans s53
            have s194 : F187 9 = .pointer (some ⟨p14, 0, none⟩) := (hF188 9).trans s54
            have s195 : F187 10 = .pointer (some ⟨p29, 0, none⟩) := (hF188 10).trans s55
            have s196 : F187 35 = .bool false := (hF188 35).trans rfl
            clear hF188
            refine then_normal ?_
            refine wq_cond (t := false) s196 (fun e => by cases e) (fun _ => ?_)
            refine wq_skip ?_
            refine then_normal ?_
            refine wq_seq ?_
            refine wq_seq ?_
            have hpl : placeF f p x y := ⟨(checkE_iff f).1 (by first | assumption | (apply Decidable.byContradiction; assumption)), by omega, by omega, by omega, by omega, by omega, by omega⟩
            refine wq_region ?_
            refine wl_v (.agg #[.int .i64 (X), .int .i64 (Y)]) rfl rfl (y_load_stc stcT_vector rfl s194 B184 ⟨rfl, rfl⟩) ?_
            refine wl_call (R := fun v_ w_ => v_ = .int .i64 (vecE (X) (Y)) ∧ Kept (fun _ => False) w178 w_) rfl rfl (y_cs rfl rfl rfl (fun _ _ => by kernel_rfl) (ev_func _) (vsC rfl vsN) (mo_check (X) (Y)  _   ) (fun e_ w_ h_ => ⟨_, h_.1, rfl, h_.2⟩)) ?_
            rintro _ w197 ⟨rfl, k198⟩
            have B199 := B180.all k198 Apart.none
            have B200 := B181.all k198 Apart.none
            have B201 := B182.all k198 Apart.none
            have B202 := B183.all k198 id
            have B203 := B184.all k198 id
            have B204 := B185.all k198 id
            have K205 := K186.trans k198 (fun _ _ x => x.elim)
            refine wl_v (.int .i64 (vecE (X) (Y))) rfl rfl (y_asg rfl rfl ⟨rfl, rfl⟩) ?_
            refine wl_nil fun F206 hF207 => ?_
            have s208 : F206 1 = .int .i64 (p) := (hF207 1).trans s189
            have s209 : F206 2 = .int .i64 (x) := (hF207 2).trans s190
            have s210 : F206 3 = .int .i64 (y) := (hF207 3).trans s191
            have s211 : F206 69 = undef := (hF207 69).trans s192
            have s212 : F206 5 = .pointer (some ⟨p1, 0, none⟩) := (hF207 5).trans s193
            have s213 : F206 9 = .pointer (some ⟨p14, 0, none⟩) := (hF207 9).trans s194
            have s214 : F206 10 = .pointer (some ⟨p29, 0, none⟩) := (hF207 10).trans s195
            have s215 : F206 12 = .int .i64 (vecE (X) (Y)) := (hF207 12).trans rfl
            clear hF207
            refine then_normal ?_
            refine wq_seq ?_
            refine wq_region ?_
            refine wl_v (.int .i64 (vecE (X) (Y))) rfl rfl (y_mov rfl s215 ⟨rfl, rfl⟩) ?_
            refine wl_v (.bool (decide ((vecE (X) (Y)) ≠ (0)))) rfl rfl (y_neqI rfl rfl rfl rfl ⟨rfl, rfl⟩) ?_
            refine wl_nil fun F216 hF217 => ?_
            have s218 : F216 1 = .int .i64 (p) := (hF217 1).trans s208
            have s219 : F216 2 = .int .i64 (x) := (hF217 2).trans s209
            have s220 : F216 3 = .int .i64 (y) := (hF217 3).trans s210
            have s221 : F216 69 = undef := (hF217 69).trans s211
            have s222 : F216 5 = .pointer (some ⟨p1, 0, none⟩) := (hF217 5).trans s212
            have s223 : F216 9 = .pointer (some ⟨p14, 0, none⟩) := (hF217 9).trans s213
            have s224 : F216 10 = .pointer (some ⟨p29, 0, none⟩) := (hF217 10).trans s214
            have s225 : F216 12 = .int .i64 (vecE (X) (Y)) := (hF217 12).trans s215
            have s226 : F216 40 = .bool (decide ((vecE (X) (Y)) ≠ (0))) := (hF217 40).trans rfl
            clear hF217
            refine then_normal ?_
            refine wq_cond s226 (fun c227 => ?_) (fun c227 => ?_)
            · replace c227 := of_decide_eq_true c227
              refine wq_seq ?_
              have hvn : ¬ vecOk X Y := fun h => absurd ((vecE_iff X Y).2 h) (by assumption)
              refine wq_region ?_
              refine wl_v (blkV (fun _ => 0)) rfl rfl (y_buildR (cells := (arrL 16 (fun _ => 0)).toArray) rfl (by kernel_rfl) rfl ⟨rfl, rfl⟩) ?_
              refine wl_v (.int .i64 (vecE (X) (Y))) rfl rfl (y_mov rfl s225 ⟨rfl, rfl⟩) ?_
              refine wl_store_blk blkT_block rfl rfl rfl s224 rfl B204 fun w228 B229 k230 => ?_
              have B231 := B199.all k230 (fun i h x => (((ap36).symm) i h x))
              have B232 := B200.all k230 (fun i h x => (((ap37).symm) i h x))
              have B233 := B201.all k230 (fun i h x => (((ap38).symm) i h x))
              have B234 := B202.all k230 (fun x => (((ap39).symm) p1 rfl x))
              have B235 := B203.all k230 (fun x => (((ap40).symm) p14 rfl x))
              have K236 := K205.trans k230 (Grew.ok (S := fun _ => False) gr35 noB_le)
              refine wl_v (.int .i64 (vecE (X) (Y))) rfl rfl (y_asg rfl rfl ⟨rfl, rfl⟩) ?_
              refine wl_nil fun F237 hF238 => ?_
              have s239 : F237 69 = undef := (hF238 69).trans s221
              have s240 : F237 10 = .pointer (some ⟨p29, 0, none⟩) := (hF238 10).trans s224
              have s241 : F237 11 = .int .i64 (vecE (X) (Y)) := (hF238 11).trans rfl
              clear hF238
              refine then_normal ?_
              refine wq_ret ?_
              refine then_ret ?_
              exact end_2 s239 rfl (res_blk blkT_block rfl s240 B229) (res_tmp (v := .int .i64 (vecE (X) (Y))) rfl s241) ⟨(by first | rw [(mv_no hno).1, (mv_no hno).2] | rw [(mv_none hpl hvn).1, (mv_none hpl hvn).2, vecE_no hvn] | rw [(mv_yes hpl hv).1, (mv_yes hpl hv).2]), K236⟩
            · replace c227 := of_decide_eq_false c227
              refine wq_skip ?_
              refine then_normal ?_
              refine wq_seq ?_
              have hv : vecOk X Y := (vecE_iff X Y).1 (by first | assumption | (apply Decidable.byContradiction; assumption))
              obtain ⟨hv1, hv2, hv3, hv4⟩ := (show vecOk X Y from hv)
              refine wq_region ?_
              refine wl_alloc_blk rfl rfl rfl blkT_block.2.2 fun p242 w243 e246 B244 k245 => ?_
              have g247 := onB_new (Nat.le_of_eq e246.symm)
              have gr248 : Grew w0 noB (onB p242) := Grew.new K205 g247
              have ap249 : Apart (onB p242) (T_f0) := Apart.new g247 (B199).live
              have ap250 : Apart (onB p242) (T_f1) := Apart.new g247 (B200).live
              have ap251 : Apart (onB p242) (T_f2) := Apart.new g247 (B201).live
              have ap252 : Apart (onB p242) (onB p1) := Apart.new g247 (onB_live (B202).lt)
              have ap253 : Apart (onB p242) (onB p14) := Apart.new g247 (onB_live (B203).lt)
              have ap254 : Apart (onB p242) (onB p29) := Apart.new g247 (onB_live (B204).lt)
              clear e246 g247
              have B255 := B199.all k245 Apart.none
              have B256 := B200.all k245 Apart.none
              have B257 := B201.all k245 Apart.none
              have B258 := B202.all k245 id
              have B259 := B203.all k245 id
              have B260 := B204.all k245 id
              have K261 := K205.trans k245 (fun _ _ x => x.elim)
              refine wl_nil fun F262 hF263 => ?_
              have s264 : F262 1 = .int .i64 (p) := (hF263 1).trans s218
              have s265 : F262 2 = .int .i64 (x) := (hF263 2).trans s219
              have s266 : F262 3 = .int .i64 (y) := (hF263 3).trans s220
              have s267 : F262 69 = undef := (hF263 69).trans s221
              have s268 : F262 5 = .pointer (some ⟨p1, 0, none⟩) := (hF263 5).trans s222
              have s269 : F262 9 = .pointer (some ⟨p14, 0, none⟩) := (hF263 9).trans s223
              have s270 : F262 10 = .pointer (some ⟨p29, 0, none⟩) := (hF263 10).trans s224
              have s271 : F262 13 = .pointer (some ⟨p242, 0, none⟩) := (hF263 13).trans rfl
              clear hF263
              refine then_normal ?_
              refine wq_seq ?_
              refine wq_seq ?_
              refine wq_region ?_
              refine wl_v (.int .i64 (0)) rfl rfl (y_mov rfl rfl ⟨rfl, rfl⟩) ?_
              refine wl_nil fun F272 hF273 => ?_
              have s274 : F272 1 = .int .i64 (p) := (hF273 1).trans s264
              have s275 : F272 2 = .int .i64 (x) := (hF273 2).trans s265
              have s276 : F272 3 = .int .i64 (y) := (hF273 3).trans s266
              have s277 : F272 69 = undef := (hF273 69).trans s267
              have s278 : F272 5 = .pointer (some ⟨p1, 0, none⟩) := (hF273 5).trans s268
              have s279 : F272 9 = .pointer (some ⟨p14, 0, none⟩) := (hF273 9).trans s269
              have s280 : F272 10 = .pointer (some ⟨p29, 0, none⟩) := (hF273 10).trans s270
              have s281 : F272 13 = .pointer (some ⟨p242, 0, none⟩) := (hF273 13).trans s271
              have s282 : F272 43 = .int .i64 (0) := (hF273 43).trans rfl
              clear hF273
              refine then_normal ?_
              refine wq_block ?_
              refine wq_loop (fun nn FF ww => ∃ (n : Nat), (n ≤ 16) ∧ nn = 16 - n ∧ FF 1 = .int .i64 (p) ∧ FF 2 = .int .i64 (x) ∧ FF 3 = .int .i64 (y) ∧ FF 5 = .pointer (some ⟨p1, 0, none⟩) ∧ FF 9 = .pointer (some ⟨p14, 0, none⟩) ∧ FF 10 = .pointer (some ⟨p29, 0, none⟩) ∧ FF 13 = .pointer (some ⟨p242, 0, none⟩) ∧ FF 69 = undef ∧ FF 43 = .int .i64 (((n : Nat) : Int)) ∧ Kept (fun _ => False) w0 ww ∧ Byt ww (T_f0) f0 ((f).p0) ∧ Byt ww (T_f1) f1 ((f).p1) ∧ Byt ww (T_f2) f2 ((f).p2) ∧ Stc ww p1 25 [.int .i64 ((f).W), .int .i64 ((f).H), f0, f1, f2] ∧ Stc ww p14 27 [.int .i64 (X), .int .i64 (Y)] ∧ Blk ww p29 31 (fun _ => 0) ∧ Blk ww p242 31 (upto n (fun _ => 0) (mvN f p x y X Y))) (16 - (0)) ⟨0, by omega, rfl, s274, s275, s276, s278, s279, s280, s281, s277, s282, K261, B255, B256, B257, B258, B259, B260, B244.first⟩ ?_
              rintro n286 F283 w284 ⟨n, i287, hn286, s288, s289, s290, s291, s292, s293, s294, s295, s296, K285, B297, B298, B299, B300, B301, B302, B303⟩
              refine wq_seq ?_
              refine wq_region ?_
              refine wl_v (.bool (decide ((((n : Nat) : Int)) < (16)))) rfl rfl (y_lss rfl s296 rfl rfl ⟨rfl, rfl⟩) ?_
              refine wl_nil fun F304 hF305 => ?_
              have s306 : F304 1 = .int .i64 (p) := (hF305 1).trans s288
              have s307 : F304 2 = .int .i64 (x) := (hF305 2).trans s289
              have s308 : F304 3 = .int .i64 (y) := (hF305 3).trans s290
              have s309 : F304 5 = .pointer (some ⟨p1, 0, none⟩) := (hF305 5).trans s291
              have s310 : F304 9 = .pointer (some ⟨p14, 0, none⟩) := (hF305 9).trans s292
              have s311 : F304 10 = .pointer (some ⟨p29, 0, none⟩) := (hF305 10).trans s293
              have s312 : F304 13 = .pointer (some ⟨p242, 0, none⟩) := (hF305 13).trans s294
              have s313 : F304 69 = undef := (hF305 69).trans s295
              have s314 : F304 43 = .int .i64 (((n : Nat) : Int)) := (hF305 43).trans s296
              have s315 : F304 44 = .bool (decide ((((n : Nat) : Int)) < (16))) := (hF305 44).trans rfl
              clear hF305
              refine then_normal ?_
              refine wq_seq ?_
              refine wq_cond s315 (fun c316 => ?_) (fun c316 => ?_)
              · replace c316 := of_decide_eq_true c316
                refine wq_skip ?_
                refine then_normal ?_
                refine wq_seq ?_
                refine wq_block ?_
                refine wq_seq ?_
                refine wq_region ?_
                refine wl_v (.int .i64 (((n : Nat) : Int))) rfl rfl (y_mov rfl s314 ⟨rfl, rfl⟩) ?_
                refine wl_v (.int .i64 (((n : Nat) : Int))) rfl rfl (y_asg rfl rfl ⟨rfl, rfl⟩) ?_
                refine wl_nil fun F317 hF318 => ?_
                have s319 : F317 1 = .int .i64 (p) := (hF318 1).trans s306
                have s320 : F317 2 = .int .i64 (x) := (hF318 2).trans s307
                have s321 : F317 3 = .int .i64 (y) := (hF318 3).trans s308
                have s322 : F317 5 = .pointer (some ⟨p1, 0, none⟩) := (hF318 5).trans s309
                have s323 : F317 9 = .pointer (some ⟨p14, 0, none⟩) := (hF318 9).trans s310
                have s324 : F317 10 = .pointer (some ⟨p29, 0, none⟩) := (hF318 10).trans s311
                have s325 : F317 13 = .pointer (some ⟨p242, 0, none⟩) := (hF318 13).trans s312
                have s326 : F317 69 = undef := (hF318 69).trans s313
                have s327 : F317 43 = .int .i64 (((n : Nat) : Int)) := (hF318 43).trans s314
                have s328 : F317 14 = .int .i64 (((n : Nat) : Int)) := (hF318 14).trans rfl
                clear hF318
                refine then_normal ?_
                refine wq_region ?_
                refine wl_v (.int .i64 (((n : Nat) : Int))) rfl rfl (y_mov rfl s328 ⟨rfl, rfl⟩) ?_
                refine wl_v (.agg #[.int .i64 ((f).W), .int .i64 ((f).H), f0, f1, f2]) rfl rfl (y_load_stc stcT_frame rfl s322 B300 ⟨rfl, rfl⟩) ?_
                refine wl_v (.int .i64 (p)) rfl rfl (y_mov rfl s319 ⟨rfl, rfl⟩) ?_
                refine wl_v (.int .i64 (x)) rfl rfl (y_mov rfl s320 ⟨rfl, rfl⟩) ?_
                refine wl_v (.int .i64 (((n : Nat) : Int))) rfl rfl (y_mov rfl s328 ⟨rfl, rfl⟩) ?_
                refine wl_v (.int .i64 ((((n % 4) : Nat) : Int))) rfl rfl (y_rem rfl rfl rfl (by first | decide | omega) (rem_nat n 4) ⟨rfl, rfl⟩) ?_
                refine wl_v (.int .i64 ((x) + ((((n % 4) : Nat) : Int)))) rfl rfl (y_add rfl rfl rfl (i64_i rfl (by omega)) ⟨rfl, rfl⟩) ?_
                refine wl_v (.int .i64 ((2) * ((x) + ((((n % 4) : Nat) : Int))))) rfl rfl (y_mul rfl rfl rfl (i64_i rfl (by omega)) ⟨rfl, rfl⟩) ?_
                refine wl_v (.pointer (some ⟨p14, 0, none⟩)) rfl rfl (y_fieldR (n := 1) rfl s323 Try.underlying27 rfl (by kernel_rfl) (by decide) rfl ⟨rfl, rfl⟩) ?_
                refine wl_v (.int .i64 (X)) rfl rfl (y_ld_stc rfl rfl Try.underlying3 B301 rfl rfl ⟨rfl, rfl⟩) ?_
                refine wl_v (.int .i64 (((2) * ((x) + ((((n % 4) : Nat) : Int)))) + (X))) rfl rfl (y_add rfl rfl rfl (i64_i rfl (by omega)) ⟨rfl, rfl⟩) ?_
                refine wl_v (.int .i64 (y)) rfl rfl (y_mov rfl s321 ⟨rfl, rfl⟩) ?_
                refine wl_v (.int .i64 (((n : Nat) : Int))) rfl rfl (y_mov rfl s328 ⟨rfl, rfl⟩) ?_
                refine wl_v (.int .i64 ((((n / 4) : Nat) : Int))) rfl rfl (y_quo rfl rfl rfl (by first | decide | omega) (i64_n (quo_nat n 4) (by omega)) ⟨rfl, rfl⟩) ?_
                refine wl_v (.int .i64 ((y) + ((((n / 4) : Nat) : Int)))) rfl rfl (y_add rfl rfl rfl (i64_i rfl (by omega)) ⟨rfl, rfl⟩) ?_
                refine wl_v (.int .i64 ((2) * ((y) + ((((n / 4) : Nat) : Int))))) rfl rfl (y_mul rfl rfl rfl (i64_i rfl (by omega)) ⟨rfl, rfl⟩) ?_
                refine wl_v (.pointer (some ⟨p14, 1, none⟩)) rfl rfl (y_fieldR (n := 1) rfl s323 Try.underlying27 rfl (by kernel_rfl) (by decide) rfl ⟨rfl, rfl⟩) ?_
                refine wl_v (.int .i64 (Y)) rfl rfl (y_ld_stc rfl rfl Try.underlying3 B301 rfl rfl ⟨rfl, rfl⟩) ?_
                refine wl_v (.int .i64 (((2) * ((y) + ((((n / 4) : Nat) : Int)))) + (Y))) rfl rfl (y_add rfl rfl rfl (i64_i rfl (by omega)) ⟨rfl, rfl⟩) ?_
                refine wl_call (R := fun v_ w_ => v_ = .int .i64 (smpF (f) (p) (((2) * ((x) + ((((n % 4) : Nat) : Int)))) + (X)) (((2) * ((y) + ((((n / 4) : Nat) : Int)))) + (Y))) ∧ Kept (fun _ => False) w284 w_) rfl rfl (y_cs rfl rfl rfl (fun _ _ => by kernel_rfl) (ev_func _) (vsC rfl (vsC rfl (vsC rfl (vsC rfl vsN)))) (mo_sample (p) (((2) * ((x) + ((((n % 4) : Nat) : Int)))) + (X)) (((2) * ((y) + ((((n / 4) : Nat) : Int)))) + (Y)) (f) (f0) (f1) (f2) (T_f0) (T_f1) (T_f2) _  B297 B298 B299 ) (fun e_ w_ h_ => ⟨_, h_.1, rfl, h_.2⟩)) ?_
                rintro _ w329 ⟨rfl, k330⟩
                have B331 := B297.all k330 Apart.none
                have B332 := B298.all k330 Apart.none
                have B333 := B299.all k330 Apart.none
                have B334 := B300.all k330 id
                have B335 := B301.all k330 id
                have B336 := B302.all k330 id
                have B337 := B303.all k330 id
                have K338 := K285.trans k330 (fun _ _ x => x.elim)
                refine wl_v (.pointer (some ⟨p242, n, none⟩)) rfl rfl (y_atR (n) (s := 1) rfl s325 rfl (by omega) Try.underlying31 (by omega) (by kernel_rfl) (by omega) ⟨rfl, rfl⟩) ?_
                refine wl_set_blk rfl rfl rfl rfl rfl B337 (by omega) (by kernel_rfl) fun w339 B340 k341 => ?_
                have B342 := B331.all k341 (fun i h x => (((ap249).symm) i h x))
                have B343 := B332.all k341 (fun i h x => (((ap250).symm) i h x))
                have B344 := B333.all k341 (fun i h x => (((ap251).symm) i h x))
                have B345 := B334.all k341 (fun x => (((ap252).symm) p1 rfl x))
                have B346 := B335.all k341 (fun x => (((ap253).symm) p14 rfl x))
                have B347 := B336.all k341 (fun x => (((ap254).symm) p29 rfl x))
                have K348 := K338.trans k341 (Grew.ok (S := fun _ => False) gr248 noB_le)
                refine wl_nil fun F349 hF350 => ?_
                have s351 : F349 1 = .int .i64 (p) := (hF350 1).trans s319
                have s352 : F349 2 = .int .i64 (x) := (hF350 2).trans s320
                have s353 : F349 3 = .int .i64 (y) := (hF350 3).trans s321
                have s354 : F349 5 = .pointer (some ⟨p1, 0, none⟩) := (hF350 5).trans s322
                have s355 : F349 9 = .pointer (some ⟨p14, 0, none⟩) := (hF350 9).trans s323
                have s356 : F349 10 = .pointer (some ⟨p29, 0, none⟩) := (hF350 10).trans s324
                have s357 : F349 13 = .pointer (some ⟨p242, 0, none⟩) := (hF350 13).trans s325
                have s358 : F349 69 = undef := (hF350 69).trans s326
                have s359 : F349 43 = .int .i64 (((n : Nat) : Int)) := (hF350 43).trans s327
                clear hF350
                refine in_normal ?_
                refine then_normal ?_
                refine wq_region ?_
                refine wl_v (.int .i64 (((n + 1 : Nat) : Int))) rfl rfl (y_add rfl s359 rfl (i64_n (by omega) (by omega)) ⟨rfl, rfl⟩) ?_
                refine wl_v (.int .i64 (((n + 1 : Nat) : Int))) rfl rfl (y_mov rfl rfl ⟨rfl, rfl⟩) ?_
                refine wl_nil fun F360 hF361 => ?_
                have s362 : F360 1 = .int .i64 (p) := (hF361 1).trans s351
                have s363 : F360 2 = .int .i64 (x) := (hF361 2).trans s352
                have s364 : F360 3 = .int .i64 (y) := (hF361 3).trans s353
                have s365 : F360 5 = .pointer (some ⟨p1, 0, none⟩) := (hF361 5).trans s354
                have s366 : F360 9 = .pointer (some ⟨p14, 0, none⟩) := (hF361 9).trans s355
                have s367 : F360 10 = .pointer (some ⟨p29, 0, none⟩) := (hF361 10).trans s356
                have s368 : F360 13 = .pointer (some ⟨p242, 0, none⟩) := (hF361 13).trans s357
                have s369 : F360 69 = undef := (hF361 69).trans s358
                have s370 : F360 43 = .int .i64 (((n + 1 : Nat) : Int)) := (hF361 43).trans rfl
                clear hF361
                exact then_normal ⟨(16 - (n + 1)), by omega, n + 1, by omega, rfl, s362, s363, s364, s365, s366, s367, s368, s369, s370, K348, B342, B343, B344, B345, B346, B347, (B340.next rfl)⟩
              · replace c316 := of_decide_eq_false c316
                refine wq_exit ?_
                refine then_exit ?_
                refine then_exit ?_
                have l371 : 16 = n := by omega
                subst l371
                have B372 : Blk w284 p242 31 (mvN f p x y X Y) := (B303.last)
                refine in_here ?_
                refine then_normal ?_
                refine wq_seq ?_
                refine wq_region ?_
                refine wl_v (blkV (mvN f p x y X Y)) rfl rfl (y_load_blk blkT_block rfl s312 B372 ⟨rfl, rfl⟩) ?_
                refine wl_store_blk blkT_block rfl rfl rfl s311 rfl B302 fun w373 B374 k375 => ?_
                have B376 := B297.all k375 (fun i h x => (((ap36).symm) i h x))
                have B377 := B298.all k375 (fun i h x => (((ap37).symm) i h x))
                have B378 := B299.all k375 (fun i h x => (((ap38).symm) i h x))
                have B379 := B300.all k375 (fun x => (((ap39).symm) p1 rfl x))
                have B380 := B301.all k375 (fun x => (((ap40).symm) p14 rfl x))
                have B381 := B372.all k375 (fun x => ((ap254) p242 rfl x))
                have K382 := K285.trans k375 (Grew.ok (S := fun _ => False) gr35 noB_le)
                refine wl_v (.int .i64 (0)) rfl rfl (y_asg rfl rfl ⟨rfl, rfl⟩) ?_
                refine wl_nil fun F383 hF384 => ?_
                have s385 : F383 10 = .pointer (some ⟨p29, 0, none⟩) := (hF384 10).trans s311
                have s386 : F383 69 = undef := (hF384 69).trans s313
                have s387 : F383 11 = .int .i64 (0) := (hF384 11).trans rfl
                clear hF384
                refine then_normal ?_
                refine wq_ret ?_
                exact end_2 s386 rfl (res_blk blkT_block rfl s385 B374) (res_tmp (v := .int .i64 (0)) rfl s387) ⟨(by first | rw [(mv_no hno).1, (mv_no hno).2] | rw [(mv_none hpl hvn).1, (mv_none hpl hvn).2, vecE_no hvn] | rw [(mv_yes hpl hv).1, (mv_yes hpl hv).2]), K382⟩
          · skip
            refine wq_region ?_
            refine wl_v (.agg #[.int .i64 ((f).W), .int .i64 ((f).H), f0, f1, f2]) rfl rfl (y_load_stc stcT_frame rfl s53 B44 ⟨rfl, rfl⟩) ?_
            refine wl_call (R := fun v_ w_ => v_ = .int .i64 (checkE (f)) ∧ Kept (fun _ => False) w30 w_) rfl rfl (y_cs rfl rfl rfl (fun _ _ => by kernel_rfl) (ev_func _) (vsC rfl vsN) (pl_check (f) (f0) (f1) (f2) (T_f0) (T_f1) (T_f2) _  B41 B42 B43 ) (fun e_ w_ h_ => ⟨_, h_.1, rfl, h_.2⟩)) ?_
            rintro _ w388 ⟨rfl, k389⟩
            have B390 := B41.all k389 Apart.none
            have B391 := B42.all k389 Apart.none
            have B392 := B43.all k389 Apart.none
            have B393 := B44.all k389 id
            have B394 := B45.all k389 id
            have B395 := B31.all k389 id
            have K396 := K46.trans k389 (fun _ _ x => x.elim)
            refine wl_v (.bool false) rfl rfl (y_neqI rfl rfl rfl (decide_eq_false d56) ⟨rfl, rfl⟩) ?_
            refine wl_v (.bool false) rfl rfl (y_mov rfl rfl ⟨rfl, rfl⟩) ?_
            refine wl_vw (.int .i64 (p)) 3 false 18 rfl rfl rfl rfl rfl (y_mov rfl s49 ⟨rfl, rfl⟩) ?_
            refine wl_vw (.bool false) 3 false 18 rfl rfl rfl rfl rfl (y_lss rfl rfl rfl (decide_eq_false d90) ⟨rfl, rfl⟩) ?_
            refine wl_v (.bool false) rfl rfl (y_pickF rfl rfl rfl ⟨rfl, rfl⟩) ?_
            refine wl_v (.bool false) rfl rfl (y_mov rfl rfl ⟨rfl, rfl⟩) ?_
            refine wl_vw (.int .i64 (p)) 7 false 22 rfl rfl rfl rfl rfl (y_mov rfl s49 ⟨rfl, rfl⟩) ?_
            refine wl_vw (.bool false) 7 false 22 rfl rfl rfl rfl rfl (y_geq rfl rfl rfl (decide_eq_false d124) ⟨rfl, rfl⟩) ?_
            refine wl_v (.bool false) rfl rfl (y_pickF rfl rfl rfl ⟨rfl, rfl⟩) ?_
            refine wl_v (.bool false) rfl rfl (y_mov rfl rfl ⟨rfl, rfl⟩) ?_
            refine wl_vw (.int .i64 (x)) 11 false 26 rfl rfl rfl rfl rfl (y_mov rfl s50 ⟨rfl, rfl⟩) ?_
            refine wl_callw (R := fun v_ w_ => v_ = .bool true ∧ Kept (fun _ => False) w388 w_) 11 false 26 rfl rfl rfl rfl rfl (y_cs rfl rfl rfl (fun _ _ => by kernel_rfl) (ev_func _) (vsC rfl vsN) (mo_mayPlace (x)  _   ) (fun e_ w_ h_ => ⟨_, h_.1, (congrArg Value.bool (decide_eq_true d158)), h_.2⟩)) ?_
            rintro _ w397 ⟨rfl, k398⟩
            have B399 := B390.all k398 Apart.none
            have B400 := B391.all k398 Apart.none
            have B401 := B392.all k398 Apart.none
            have B402 := B393.all k398 id
            have B403 := B394.all k398 id
            have B404 := B395.all k398 id
            have K405 := K396.trans k398 (fun _ _ x => x.elim)
            refine wl_vw (.bool false) 11 false 26 rfl rfl rfl rfl rfl (y_not rfl rfl rfl ⟨rfl, rfl⟩) ?_
            refine wl_v (.bool false) rfl rfl (y_pickF rfl rfl rfl ⟨rfl, rfl⟩) ?_
            refine wl_v (.bool false) rfl rfl (y_mov rfl rfl ⟨rfl, rfl⟩) ?_
            refine wl_vw (.int .i64 (y)) 16 false 31 rfl rfl rfl rfl rfl (y_mov rfl s51 ⟨rfl, rfl⟩) ?_
            refine wl_callw (R := fun v_ w_ => v_ = .bool false ∧ Kept (fun _ => False) w397 w_) 16 false 31 rfl rfl rfl rfl rfl (y_cs rfl rfl rfl (fun _ _ => by kernel_rfl) (ev_func _) (vsC rfl vsN) (mo_mayPlace (y)  _   ) (fun e_ w_ h_ => ⟨_, h_.1, (congrArg Value.bool (decide_eq_false d159)), h_.2⟩)) ?_
            rintro _ w406 ⟨rfl, k407⟩
            have B408 := B399.all k407 Apart.none
            have B409 := B400.all k407 Apart.none
            have B410 := B401.all k407 Apart.none
            have B411 := B402.all k407 id
            have B412 := B403.all k407 id
            have B413 := B404.all k407 id
            have K414 := K405.trans k407 (fun _ _ x => x.elim)
            refine wl_vw (.bool true) 16 false 31 rfl rfl rfl rfl rfl (y_not rfl rfl rfl ⟨rfl, rfl⟩) ?_
            refine wl_v (.bool true) rfl rfl (y_pickF rfl rfl rfl ⟨rfl, rfl⟩) ?_
            refine wl_nil fun F415 hF416 => ?_
            have s417 : F415 1 = .int .i64 (p) := (hF416 1).trans s49
            have s418 : F415 2 = .int .i64 (x) := (hF416 2).trans s50
            have s419 : F415 3 = .int .i64 (y) := (hF416 3).trans s51
            have s420 : F415 69 = undef := (hF416 69).trans s52
            have s421 : F415 5 = .pointer (some ⟨p1, 0, none⟩) := (hF416 5).trans s53
            have s422 : F415 9 = .pointer (some ⟨p14, 0, none⟩) := (hF416 9).trans s54
            have s423 : F415 10 = .pointer (some ⟨p29, 0, none⟩) := (hF416 10).trans s55
            have s424 : F415 35 = .bool true := (hF416 35).trans rfl
            clear hF416
            refine then_normal ?_
            refine wq_cond (t := true) s424 (fun _ => ?_) (fun e => by cases e)
            refine wq_seq ?_
            have hno : ¬ placeF f p x y := by rintro ⟨h1, h2, h3, h4, h5, h6, h7⟩; first | exact absurd ((checkE_iff f).2 h1) (by assumption) | omega
            refine wq_region ?_
            refine wl_v (blkV (fun _ => 0)) rfl rfl (y_buildR (cells := (arrL 16 (fun _ => 0)).toArray) rfl (by kernel_rfl) rfl ⟨rfl, rfl⟩) ?_
            refine wl_store_blk blkT_block rfl rfl rfl s423 rfl B413 fun w425 B426 k427 => ?_
            have B428 := B408.all k427 (fun i h x => (((ap36).symm) i h x))
            have B429 := B409.all k427 (fun i h x => (((ap37).symm) i h x))
            have B430 := B410.all k427 (fun i h x => (((ap38).symm) i h x))
            have B431 := B411.all k427 (fun x => (((ap39).symm) p1 rfl x))
            have B432 := B412.all k427 (fun x => (((ap40).symm) p14 rfl x))
            have K433 := K414.trans k427 (Grew.ok (S := fun _ => False) gr35 noB_le)
            refine wl_v (.int .i64 (70)) rfl rfl (y_asg rfl rfl ⟨rfl, rfl⟩) ?_
            refine wl_nil fun F434 hF435 => ?_
            have s436 : F434 69 = undef := (hF435 69).trans s420
            have s437 : F434 10 = .pointer (some ⟨p29, 0, none⟩) := (hF435 10).trans s423
            have s438 : F434 11 = .int .i64 (70) := (hF435 11).trans rfl
            clear hF435
            refine then_normal ?_
            refine wq_ret ?_
            refine then_ret ?_
            exact end_2 s436 rfl (res_blk blkT_block rfl s437 B426) (res_tmp (v := .int .i64 (70)) rfl s438) ⟨(by first | rw [(mv_no hno).1, (mv_no hno).2] | rw [(mv_none hpl hvn).1, (mv_none hpl hvn).2, vecE_no hvn] | rw [(mv_yes hpl hv).1, (mv_yes hpl hv).2]), K433⟩
        · skip
          refine wq_region ?_
          refine wl_v (.agg #[.int .i64 ((f).W), .int .i64 ((f).H), f0, f1, f2]) rfl rfl (y_load_stc stcT_frame rfl s53 B44 ⟨rfl, rfl⟩) ?_
          refine wl_call (R := fun v_ w_ => v_ = .int .i64 (checkE (f)) ∧ Kept (fun _ => False) w30 w_) rfl rfl (y_cs rfl rfl rfl (fun _ _ => by kernel_rfl) (ev_func _) (vsC rfl vsN) (pl_check (f) (f0) (f1) (f2) (T_f0) (T_f1) (T_f2) _  B41 B42 B43 ) (fun e_ w_ h_ => ⟨_, h_.1, rfl, h_.2⟩)) ?_
          rintro _ w439 ⟨rfl, k440⟩
          have B441 := B41.all k440 Apart.none
          have B442 := B42.all k440 Apart.none
          have B443 := B43.all k440 Apart.none
          have B444 := B44.all k440 id
          have B445 := B45.all k440 id
          have B446 := B31.all k440 id
          have K447 := K46.trans k440 (fun _ _ x => x.elim)
          refine wl_v (.bool false) rfl rfl (y_neqI rfl rfl rfl (decide_eq_false d56) ⟨rfl, rfl⟩) ?_
          refine wl_v (.bool false) rfl rfl (y_mov rfl rfl ⟨rfl, rfl⟩) ?_
          refine wl_vw (.int .i64 (p)) 3 false 18 rfl rfl rfl rfl rfl (y_mov rfl s49 ⟨rfl, rfl⟩) ?_
          refine wl_vw (.bool false) 3 false 18 rfl rfl rfl rfl rfl (y_lss rfl rfl rfl (decide_eq_false d90) ⟨rfl, rfl⟩) ?_
          refine wl_v (.bool false) rfl rfl (y_pickF rfl rfl rfl ⟨rfl, rfl⟩) ?_
          refine wl_v (.bool false) rfl rfl (y_mov rfl rfl ⟨rfl, rfl⟩) ?_
          refine wl_vw (.int .i64 (p)) 7 false 22 rfl rfl rfl rfl rfl (y_mov rfl s49 ⟨rfl, rfl⟩) ?_
          refine wl_vw (.bool false) 7 false 22 rfl rfl rfl rfl rfl (y_geq rfl rfl rfl (decide_eq_false d124) ⟨rfl, rfl⟩) ?_
          refine wl_v (.bool false) rfl rfl (y_pickF rfl rfl rfl ⟨rfl, rfl⟩) ?_
          refine wl_v (.bool false) rfl rfl (y_mov rfl rfl ⟨rfl, rfl⟩) ?_
          refine wl_vw (.int .i64 (x)) 11 false 26 rfl rfl rfl rfl rfl (y_mov rfl s50 ⟨rfl, rfl⟩) ?_
          refine wl_callw (R := fun v_ w_ => v_ = .bool false ∧ Kept (fun _ => False) w439 w_) 11 false 26 rfl rfl rfl rfl rfl (y_cs rfl rfl rfl (fun _ _ => by kernel_rfl) (ev_func _) (vsC rfl vsN) (mo_mayPlace (x)  _   ) (fun e_ w_ h_ => ⟨_, h_.1, (congrArg Value.bool (decide_eq_false d158)), h_.2⟩)) ?_
          rintro _ w448 ⟨rfl, k449⟩
          have B450 := B441.all k449 Apart.none
          have B451 := B442.all k449 Apart.none
          have B452 := B443.all k449 Apart.none
          have B453 := B444.all k449 id
          have B454 := B445.all k449 id
          have B455 := B446.all k449 id
          have K456 := K447.trans k449 (fun _ _ x => x.elim)
          refine wl_vw (.bool true) 11 false 26 rfl rfl rfl rfl rfl (y_not rfl rfl rfl ⟨rfl, rfl⟩) ?_
          refine wl_v (.bool true) rfl rfl (y_pickF rfl rfl rfl ⟨rfl, rfl⟩) ?_
          refine wl_v (.bool true) rfl rfl (y_mov rfl rfl ⟨rfl, rfl⟩) ?_
          refine wl_unless 16 false 31 rfl rfl rfl (Or.inl rfl) rfl ?_
          refine wl_unless 16 false 31 rfl rfl rfl (Or.inl rfl) rfl ?_
          refine wl_unless 16 false 31 rfl rfl rfl (Or.inl rfl) rfl ?_
          refine wl_v (.bool true) rfl rfl (y_pickT rfl rfl rfl ⟨rfl, rfl⟩) ?_
          refine wl_nil fun F457 hF458 => ?_
          have s459 : F457 1 = .int .i64 (p) := (hF458 1).trans s49
          have s460 : F457 2 = .int .i64 (x) := (hF458 2).trans s50
          have s461 : F457 3 = .int .i64 (y) := (hF458 3).trans s51
          have s462 : F457 69 = undef := (hF458 69).trans s52
          have s463 : F457 5 = .pointer (some ⟨p1, 0, none⟩) := (hF458 5).trans s53
          have s464 : F457 9 = .pointer (some ⟨p14, 0, none⟩) := (hF458 9).trans s54
          have s465 : F457 10 = .pointer (some ⟨p29, 0, none⟩) := (hF458 10).trans s55
          have s466 : F457 35 = .bool true := (hF458 35).trans rfl
          clear hF458
          refine then_normal ?_
          refine wq_cond (t := true) s466 (fun _ => ?_) (fun e => by cases e)
          refine wq_seq ?_
          have hno : ¬ placeF f p x y := by rintro ⟨h1, h2, h3, h4, h5, h6, h7⟩; first | exact absurd ((checkE_iff f).2 h1) (by assumption) | omega
          refine wq_region ?_
          refine wl_v (blkV (fun _ => 0)) rfl rfl (y_buildR (cells := (arrL 16 (fun _ => 0)).toArray) rfl (by kernel_rfl) rfl ⟨rfl, rfl⟩) ?_
          refine wl_store_blk blkT_block rfl rfl rfl s465 rfl B455 fun w467 B468 k469 => ?_
          have B470 := B450.all k469 (fun i h x => (((ap36).symm) i h x))
          have B471 := B451.all k469 (fun i h x => (((ap37).symm) i h x))
          have B472 := B452.all k469 (fun i h x => (((ap38).symm) i h x))
          have B473 := B453.all k469 (fun x => (((ap39).symm) p1 rfl x))
          have B474 := B454.all k469 (fun x => (((ap40).symm) p14 rfl x))
          have K475 := K456.trans k469 (Grew.ok (S := fun _ => False) gr35 noB_le)
          refine wl_v (.int .i64 (70)) rfl rfl (y_asg rfl rfl ⟨rfl, rfl⟩) ?_
          refine wl_nil fun F476 hF477 => ?_
          have s478 : F476 69 = undef := (hF477 69).trans s462
          have s479 : F476 10 = .pointer (some ⟨p29, 0, none⟩) := (hF477 10).trans s465
          have s480 : F476 11 = .int .i64 (70) := (hF477 11).trans rfl
          clear hF477
          refine then_normal ?_
          refine wq_ret ?_
          refine then_ret ?_
          exact end_2 s478 rfl (res_blk blkT_block rfl s479 B468) (res_tmp (v := .int .i64 (70)) rfl s480) ⟨(by first | rw [(mv_no hno).1, (mv_no hno).2] | rw [(mv_none hpl hvn).1, (mv_none hpl hvn).2, vecE_no hvn] | rw [(mv_yes hpl hv).1, (mv_yes hpl hv).2]), K475⟩
set_option maxHeartbeats 4000000 in
set_option maxRecDepth 100000 in
theorem mo_beside (X Y : Int) (w0 : World) :
    Calls Try.prog 35 #[.agg #[.int .i64 (X), .int .i64 (Y)]] w0 fun e w' => ∃ (v1 : Nat) (T1 : Nat → Prop) (v2 : Nat) (T2 : Nat → Prop), e = .returned (.func (.func 52) #[] #[.pointer (some ⟨v1, 0, none⟩), .pointer (some ⟨v2, 0, none⟩)]) ∧ Kept (fun _ => False) w0 w' ∧ (Cin w' T1 v1 (c34 Y) ∧ Grew w0 noB T1) ∧ (Cin w' T2 v2 (c34 X) ∧ Grew w0 noB T2) ∧ Apart T1 T2 := by
  refine calls_wq (args := [.agg #[.int .i64 (X), .int .i64 (Y)]]) 12 Try.func35 rfl rfl (Nat.le_of_ble_eq_true rfl) ?_
  have K0 := Kept.refl (fun _ => False) w0
  refine wq_seq ?_
  refine wq_region ?_
  refine wl_box_stc (vs := [.int .i64 (X), .int .i64 (Y)]) rfl rfl rfl rfl fun p1 w2 B4 g5 k3 => ?_
  have gr6 : Grew w0 noB (onB p1) := Grew.new K0 g5
  have K7 := K0.trans k3 (fun _ _ x => x.elim)
  refine wl_v (Value.nilFunc) rfl rfl (y_asg rfl rfl ⟨rfl, rfl⟩) ?_
  refine wl_nil fun F8 hF9 => ?_
  have s10 : F8 12 = undef := (hF9 12).trans rfl
  have s11 : F8 1 = .pointer (some ⟨p1, 0, none⟩) := (hF9 1).trans rfl
  clear hF9
  refine then_normal ?_
  refine wq_seq ?_
  refine wq_cells (S := fun _ => False) [some 5, some 6, some 7, some 8, some 9, some 10, some 3, some 4, none, none] [Pc.eq (.pointer (some ⟨p1, 0, none⟩)), Pc.eq (.int .i64 (X)), Pc.eq (.int .i64 (c34 (X))), Pc.eq (.pointer (some ⟨p1, 1, none⟩)), Pc.eq (.int .i64 (Y)), Pc.eq (.int .i64 (c34 (Y))), Pc.blk 3 [.int .i64 (0)] 8 [.int .i64 (c34 (X))], Pc.blk 3 [.int .i64 (0)] 9 [.int .i64 (c34 (Y))], Pc.turn 6, Pc.turn 7] (by kernel_rfl) (by kernel_rfl) (by kernel_rfl) rfl trivial ?_ ?_
  · refine stepsFC_cons ?_ ?_
    · refine StepFC.one rfl fun F_ w_ hR hout hD => ?_
      exact (y_fieldR (n := 1) rfl ((hout 1 rfl (by decide)).trans s11) Try.underlying27 rfl (by kernel_rfl) (by decide) rfl ⟨rfl, Kept.refl _ _⟩)
    refine stepsFC_cons ?_ ?_
    · refine StepFC.one rfl fun F_ w_ hR hout hD => ?_
      have g5 : F_ 5 = .pointer (some ⟨p1, 0, none⟩) := hD.get 0 rfl rfl rfl
      exact (y_ld_stc rfl g5 Try.underlying3 (B4.all hR id) rfl rfl ⟨rfl, Kept.refl _ _⟩)
    refine stepsFC_cons ?_ ?_
    · refine StepFC.one rfl fun F_ w_ hR hout hD => ?_
      have g6 : F_ 6 = .int .i64 (X) := hD.get 0 rfl rfl rfl
      exact (y_cs rfl rfl rfl (fun _ _ => by kernel_rfl) (ev_func _) (vsC g6 vsN) (mo_within (X)  _   ) (fun e_ w_ h_ => ⟨_, h_.1, rfl, h_.2⟩))
    refine stepsFC_cons ?_ ?_
    · refine StepFC.one rfl fun F_ w_ hR hout hD => ?_
      exact (y_fieldR (n := 1) rfl ((hout 1 rfl (by decide)).trans s11) Try.underlying27 rfl (by kernel_rfl) (by decide) rfl ⟨rfl, Kept.refl _ _⟩)
    refine stepsFC_cons ?_ ?_
    · refine StepFC.one rfl fun F_ w_ hR hout hD => ?_
      have g8 : F_ 8 = .pointer (some ⟨p1, 1, none⟩) := hD.get 0 rfl rfl rfl
      exact (y_ld_stc rfl g8 Try.underlying3 (B4.all hR id) rfl rfl ⟨rfl, Kept.refl _ _⟩)
    refine stepsFC_cons ?_ ?_
    · refine StepFC.one rfl fun F_ w_ hR hout hD => ?_
      have g9 : F_ 9 = .int .i64 (Y) := hD.get 0 rfl rfl rfl
      exact (y_cs rfl rfl rfl (fun _ _ => by kernel_rfl) (ev_func _) (vsC g9 vsN) (mo_within (Y)  _   ) (fun e_ w_ h_ => ⟨_, h_.1, rfl, h_.2⟩))
    refine stepsFC_cons ?_ ?_
    · refine StepFC.one rfl fun F_ w_ hR hout hD => ?_
      exact y_alloc_cel (v := .int .i64 (0)) rfl (by kernel_rfl) rfl ⟨_, rfl, Nat.le_refl _, heap_alloc_new _ _, (Kept.refl _ _).alloc _⟩
    refine stepsFC_cons ?_ ?_
    · refine StepFC.one rfl fun F_ w_ hR hout hD => ?_
      exact y_alloc_cel (v := .int .i64 (0)) rfl (by kernel_rfl) rfl ⟨_, rfl, Nat.le_refl _, heap_alloc_new _ _, (Kept.refl _ _).alloc _⟩
    refine stepsFC_cons ?_ ?_
    · refine StepFC.one rfl fun F_ w_ hR hout hD => ?_
      obtain ⟨p3_, g3, n3_, h3_⟩ : ∃ q_, F_ 3 = .pointer (some ⟨q_, 0, none⟩) ∧ w2.heap.size ≤ q_ ∧ Stc w_ q_ 3 [.int .i64 (0)] := hD.get 0 rfl rfl rfl rfl
      have g7 : F_ 7 = .int .i64 (c34 (X)) := hD.get 1 rfl rfl rfl
      exact y_storeCel rfl g3 g7 h3_ (by rfl) (by kernel_rfl) fun _ w2_ b_ k_ => ⟨3, p3_, rfl, g3, fun _ _ _ e_ => (by cases e_; exact b_), k_⟩
    refine stepsFC_cons ?_ ?_
    · refine StepFC.one rfl fun F_ w_ hR hout hD => ?_
      obtain ⟨p4_, g4, n4_, h4_⟩ : ∃ q_, F_ 4 = .pointer (some ⟨q_, 0, none⟩) ∧ w2.heap.size ≤ q_ ∧ Stc w_ q_ 3 [.int .i64 (0)] := hD.get 0 rfl rfl rfl rfl
      have g10 : F_ 10 = .int .i64 (c34 (Y)) := hD.get 1 rfl rfl rfl
      exact y_storeCel rfl g4 g10 h4_ (by rfl) (by kernel_rfl) fun _ w2_ b_ k_ => ⟨4, p4_, rfl, g4, fun _ _ _ e_ => (by cases e_; exact b_), k_⟩
    exact stepsFC_nil
  intro v12 F13 w14 k15 G16 H18 hF17
  have B19 := B4.all k15 id
  have K20 := K7.trans k15 (fun _ _ x => x.elim)
  have s21 : F13 12 = undef := (hF17 12).trans s10
  obtain ⟨p24, e23, e25, B26⟩ := G16 6 (by decide)
  replace B26 : Cel w14 p24 3 (.int .i64 (c34 (X))) := B26
  have gr27 : Grew w0 noB (onB p24) := Grew.new K7 (onB_new e25)
  have ap28 : Apart (onB p24) (onB p1) := Apart.new (onB_new e25) (onB_live (B4).lt)
  have s22 : F13 3 = .pointer (some ⟨p24, 0, none⟩) := (hF17 3).trans e23
  obtain ⟨p31, e30, e32, B33⟩ := G16 7 (by decide)
  replace B33 : Cel w14 p31 3 (.int .i64 (c34 (Y))) := B33
  have gr34 : Grew w0 noB (onB p31) := Grew.new K7 (onB_new e32)
  have ap35 : Apart (onB p31) (onB p1) := Apart.new (onB_new e32) (onB_live (B4).lt)
  have ap36 := apart_of_ne (H18 6 7 (by decide) (by decide) (by decide) rfl rfl) e23 e30
  have s29 : F13 4 = .pointer (some ⟨p31, 0, none⟩) := (hF17 4).trans e30
  clear G16 hF17 H18
  refine then_normal ?_
  refine wq_seq ?_
  refine wq_region ?_
  refine wl_v (.func (.func 52) #[] #[.pointer (some ⟨p31, 0, none⟩), .pointer (some ⟨p24, 0, none⟩)]) rfl rfl (y_fnc rfl (vsC s29 (vsC s22 vsN)) ⟨rfl, rfl⟩) ?_
  refine wl_v (.func (.func 52) #[] #[.pointer (some ⟨p31, 0, none⟩), .pointer (some ⟨p24, 0, none⟩)]) rfl rfl (y_asg rfl rfl ⟨rfl, rfl⟩) ?_
  refine wl_nil fun F37 hF38 => ?_
  have s39 : F37 12 = undef := (hF38 12).trans s21
  have s40 : F37 2 = .func (.func 52) #[] #[.pointer (some ⟨p31, 0, none⟩), .pointer (some ⟨p24, 0, none⟩)] := (hF38 2).trans rfl
  clear hF38
  refine then_normal ?_
  refine wq_ret ?_
  exact end_tmp (v := .func (.func 52) #[] #[.pointer (some ⟨p31, 0, none⟩), .pointer (some ⟨p24, 0, none⟩)]) s39 rfl rfl s40 ⟨p31, (onB p31), p24, (onB p24), rfl, K20, ⟨⟨rfl, B33⟩, gr34⟩, ⟨⟨rfl, B26⟩, gr27⟩, (ap36).symm⟩

set_option maxHeartbeats 4000000 in
set_option maxRecDepth 100000 in
theorem bes_go (a c : Int) (q1 q2 : Nat) (l : Nat) (J Jx : List (Vok) → World → Prop) (T_j : Nat → Prop) (w0 : World) (ha : -34 ≤ a ∧ a ≤ 34) (hc : -34 ≤ c ∧ c ≤ 34) (h_q1 : Cel w0 q1 3 (.int .i64 (c))) (ap_q1 : Apart T_j (onB q1)) (h_q2 : Cel w0 q2 3 (.int .i64 (a))) (ap_q2 : Apart T_j (onB q2))
    (hY : ∀ (pre : List (Vok)) (x : Vok) (W1 : World), J pre W1 → pre.length < 25 → YieldAt Fence.wide 0 Try.prog l ((fun x => [.agg #[.int .i64 x.X, .int .i64 x.Y]]) x).toArray W1 fun e W' => (e = .returned (.bool true) ∧ J (pre ++ [x]) W' ∧ Kept T_j W1 W') ∨ (e = .returned (.bool false) ∧ Jx (pre ++ [x]) W')) (h_j : Jat w0 T_j J []) :
    Calls Try.prog 52 #[.func (.yield l) #[] #[], .pointer (some ⟨q1, 0, none⟩), .pointer (some ⟨q2, 0, none⟩)] w0 fun e w' => (∃ v, e = .returned v) ∧ (J (vecsTo a c 25) w' ∨ ∃ pre, Jx pre w') := by
  refine calls_wq (args := [.func (.yield l) #[] #[], .pointer (some ⟨q1, 0, none⟩), .pointer (some ⟨q2, 0, none⟩)]) 35 Try.func52 rfl rfl (Nat.le_of_ble_eq_true rfl) ?_
  have K0 := Kept.refl (T_j) w0
  refine wq_seq ?_
  refine wq_region ?_
  refine wl_v (.int .i64 (c)) rfl rfl (y_load_cel rfl rfl Try.underlying3 h_q1 rfl ⟨rfl, rfl⟩) ?_
  refine wl_v (.int .i64 ((c) - (2))) rfl rfl (y_sub rfl rfl rfl (i64_i rfl (by omega)) ⟨rfl, rfl⟩) ?_
  refine wl_v (.int .i64 ((c) - (2))) rfl rfl (y_asg rfl rfl ⟨rfl, rfl⟩) ?_
  refine wl_nil fun F1 hF2 => ?_
  have s3 : F1 0 = .func (.yield l) #[] #[] := (hF2 0).trans rfl
  have s4 : F1 1 = .pointer (some ⟨q1, 0, none⟩) := (hF2 1).trans rfl
  have s5 : F1 2 = .pointer (some ⟨q2, 0, none⟩) := (hF2 2).trans rfl
  have s6 : F1 35 = undef := (hF2 35).trans rfl
  have s7 : F1 4 = .int .i64 ((c) - (2)) := (hF2 4).trans rfl
  clear hF2
  refine then_normal ?_
  refine wq_block ?_
  refine wq_loop (fun nn FF ww => ∃ (i : Nat), (i ≤ 5) ∧ nn = 5 - i ∧ FF 0 = .func (.yield l) #[] #[] ∧ FF 1 = .pointer (some ⟨q1, 0, none⟩) ∧ FF 2 = .pointer (some ⟨q2, 0, none⟩) ∧ FF 35 = undef ∧ FF 4 = .int .i64 (c - 2 + (i : Int)) ∧ Kept (T_j) w0 ww ∧ Jat ww (T_j) J (vecsTo a c (5 * i)) ∧ Cel ww q1 3 (.int .i64 (c)) ∧ Cel ww q2 3 (.int .i64 (a))) (5 - (0)) ⟨0, by omega, rfl, s3, s4, s5, s6, (s7.trans (congrArg (Value.int .i64) (by omega))), K0, h_j, h_q1, h_q2⟩ ?_
  rintro n11 F8 w9 ⟨i, i12, hn11, s13, s14, s15, s16, s17, K10, B18, B19, B20⟩
  refine wq_seq ?_
  refine wq_seq ?_
  refine wq_region ?_
  refine wl_v (.int .i64 (c - 2 + (i : Int))) rfl rfl (y_mov rfl s17 ⟨rfl, rfl⟩) ?_
  refine wl_v (.int .i64 (c)) rfl rfl (y_load_cel rfl s14 Try.underlying3 B19 rfl ⟨rfl, rfl⟩) ?_
  refine wl_v (.int .i64 ((c) + (2))) rfl rfl (y_add rfl rfl rfl (i64_i rfl (by omega)) ⟨rfl, rfl⟩) ?_
  refine wl_v (.bool (decide ((c - 2 + (i : Int)) ≤ ((c) + (2))))) rfl rfl (y_leq rfl rfl rfl rfl ⟨rfl, rfl⟩) ?_
  refine wl_nil fun F21 hF22 => ?_
  have s23 : F21 0 = .func (.yield l) #[] #[] := (hF22 0).trans s13
  have s24 : F21 1 = .pointer (some ⟨q1, 0, none⟩) := (hF22 1).trans s14
  have s25 : F21 2 = .pointer (some ⟨q2, 0, none⟩) := (hF22 2).trans s15
  have s26 : F21 35 = undef := (hF22 35).trans s16
  have s27 : F21 4 = .int .i64 (c - 2 + (i : Int)) := (hF22 4).trans s17
  have s28 : F21 12 = .bool (decide ((c - 2 + (i : Int)) ≤ ((c) + (2)))) := (hF22 12).trans rfl
  clear hF22
  refine then_normal ?_
  refine wq_cond s28 (fun c29 => ?_) (fun c29 => ?_)
  · replace c29 := of_decide_eq_true c29
    refine wq_skip ?_
    refine then_normal ?_
    refine wq_seq ?_
    refine wq_block ?_
    refine wq_seq ?_
    refine wq_region ?_
    refine wl_v (.int .i64 (a)) rfl rfl (y_load_cel rfl s25 Try.underlying3 B20 rfl ⟨rfl, rfl⟩) ?_
    refine wl_v (.int .i64 ((a) - (2))) rfl rfl (y_sub rfl rfl rfl (i64_i rfl (by omega)) ⟨rfl, rfl⟩) ?_
    refine wl_v (.int .i64 ((a) - (2))) rfl rfl (y_asg rfl rfl ⟨rfl, rfl⟩) ?_
    refine wl_nil fun F30 hF31 => ?_
    have s32 : F30 0 = .func (.yield l) #[] #[] := (hF31 0).trans s23
    have s33 : F30 1 = .pointer (some ⟨q1, 0, none⟩) := (hF31 1).trans s24
    have s34 : F30 2 = .pointer (some ⟨q2, 0, none⟩) := (hF31 2).trans s25
    have s35 : F30 35 = undef := (hF31 35).trans s26
    have s36 : F30 4 = .int .i64 (c - 2 + (i : Int)) := (hF31 4).trans s27
    have s37 : F30 5 = .int .i64 ((a) - (2)) := (hF31 5).trans rfl
    clear hF31
    refine then_normal ?_
    refine wq_block ?_
    refine wq_loop (fun nn FF ww => ∃ (j : Nat), (j ≤ 5) ∧ nn = 5 - j ∧ FF 0 = .func (.yield l) #[] #[] ∧ FF 1 = .pointer (some ⟨q1, 0, none⟩) ∧ FF 2 = .pointer (some ⟨q2, 0, none⟩) ∧ FF 35 = undef ∧ FF 4 = .int .i64 (c - 2 + (i : Int)) ∧ FF 5 = .int .i64 (a - 2 + (j : Int)) ∧ Kept (T_j) w0 ww ∧ Jat ww (T_j) J (vecsTo a c (5 * i + j)) ∧ Cel ww q1 3 (.int .i64 (c)) ∧ Cel ww q2 3 (.int .i64 (a))) (5 - (0)) ⟨0, by omega, rfl, s32, s33, s34, s35, s36, (s37.trans (congrArg (Value.int .i64) (by omega))), K10, B18, B19, B20⟩ ?_
    rintro n41 F38 w39 ⟨j, i42, hn41, s43, s44, s45, s46, s47, s48, K40, B49, B50, B51⟩
    refine wq_seq ?_
    refine wq_seq ?_
    refine wq_region ?_
    refine wl_v (.int .i64 (a - 2 + (j : Int))) rfl rfl (y_mov rfl s48 ⟨rfl, rfl⟩) ?_
    refine wl_v (.int .i64 (a)) rfl rfl (y_load_cel rfl s45 Try.underlying3 B51 rfl ⟨rfl, rfl⟩) ?_
    refine wl_v (.int .i64 ((a) + (2))) rfl rfl (y_add rfl rfl rfl (i64_i rfl (by omega)) ⟨rfl, rfl⟩) ?_
    refine wl_v (.bool (decide ((a - 2 + (j : Int)) ≤ ((a) + (2))))) rfl rfl (y_leq rfl rfl rfl rfl ⟨rfl, rfl⟩) ?_
    refine wl_nil fun F52 hF53 => ?_
    have s54 : F52 0 = .func (.yield l) #[] #[] := (hF53 0).trans s43
    have s55 : F52 1 = .pointer (some ⟨q1, 0, none⟩) := (hF53 1).trans s44
    have s56 : F52 2 = .pointer (some ⟨q2, 0, none⟩) := (hF53 2).trans s45
    have s57 : F52 35 = undef := (hF53 35).trans s46
    have s58 : F52 4 = .int .i64 (c - 2 + (i : Int)) := (hF53 4).trans s47
    have s59 : F52 5 = .int .i64 (a - 2 + (j : Int)) := (hF53 5).trans s48
    have s60 : F52 20 = .bool (decide ((a - 2 + (j : Int)) ≤ ((a) + (2)))) := (hF53 20).trans rfl
    clear hF53
    refine then_normal ?_
    refine wq_cond s60 (fun c61 => ?_) (fun c61 => ?_)
    · replace c61 := of_decide_eq_true c61
      refine wq_skip ?_
      refine then_normal ?_
      refine wq_seq ?_
      refine wq_block ?_
      refine wq_seq ?_
      have s62 : F52 5 = .int .i64 (nx a (5 * i + j)) := s59.trans (congrArg (Value.int .i64) ((nx_in a i (by omega)).symm))
      have s63 : F52 4 = .int .i64 (ny c (5 * i + j)) := s58.trans (congrArg (Value.int .i64) ((ny_in c i (by omega)).symm))
      refine wq_region ?_
      refine wl_v (.int .i64 (nx a (5 * i + j))) rfl rfl (y_mov rfl s62 ⟨rfl, rfl⟩) ?_
      refine wl_v (.int .i64 (ny c (5 * i + j))) rfl rfl (y_mov rfl s63 ⟨rfl, rfl⟩) ?_
      refine wl_v (.agg #[.int .i64 (nx a (5 * i + j)), .int .i64 (ny c (5 * i + j))]) rfl rfl (y_buildL (l' := [(0, .int .i64 (nx a (5 * i + j))), (1, .int .i64 (ny c (5 * i + j)))]) (cells := #[.int .i64 (nx a (5 * i + j)), .int .i64 (ny c (5 * i + j))]) rfl (bpC rfl (bpC rfl bpN)) (by kernel_rfl) rfl ⟨rfl, rfl⟩) ?_
      refine wl_alloc_stc (n := 2) (vs := [.int .i64 (0), .int .i64 (0)]) rfl rfl rfl (by kernel_rfl) fun p64 w65 B67 g68 k66 => ?_
      have gr69 : Grew w0 noB (onB p64) := Grew.new K40 g68
      have gj70 : Grew w39 noB (onB p64) := Grew.new (Kept.refl (fun _ => False) w39) g68
      have ap71 : Apart (onB p64) (onB q1) := Apart.new g68 (onB_live (B50).lt)
      have ap72 : Apart (onB p64) (onB q2) := Apart.new g68 (onB_live (B51).lt)
      have K73 := (Kept.refl (fun _ => False) w39).trans k66 (fun i hi x => x.elim)
      have B74 := B50.all k66 id
      have B75 := B51.all k66 id
      have K76 := K40.trans k66 (fun _ _ x => x.elim)
      refine wl_store_stc (us := [.int .i64 (nx a (5 * i + j)), .int .i64 (ny c (5 * i + j))]) stcT_vector rfl rfl rfl rfl rfl B67 rfl (oneI rfl (oneI rfl oneN)) fun w77 B78 k79 => ?_
      have K80 := K73.trans k79 (fun i hi x => (Grew.ok (S := fun _ => False) gj70 noB_le i hi x))
      have B81 := B74.all k79 (fun x => (((ap71).symm) q1 rfl x))
      have B82 := B75.all k79 (fun x => (((ap72).symm) q2 rfl x))
      have K83 := K76.trans k79 (Grew.ok (S := T_j) gr69 noB_le)
      refine wl_nil fun F84 hF85 => ?_
      have s86 : F84 0 = .func (.yield l) #[] #[] := (hF85 0).trans s54
      have s87 : F84 1 = .pointer (some ⟨q1, 0, none⟩) := (hF85 1).trans s55
      have s88 : F84 2 = .pointer (some ⟨q2, 0, none⟩) := (hF85 2).trans s56
      have s89 : F84 35 = undef := (hF85 35).trans s57
      have s90 : F84 4 = .int .i64 (ny c (5 * i + j)) := (hF85 4).trans s63
      have s91 : F84 5 = .int .i64 (nx a (5 * i + j)) := (hF85 5).trans s62
      have s92 : F84 6 = .pointer (some ⟨p64, 0, none⟩) := (hF85 6).trans rfl
      clear hF85
      refine then_normal ?_
      refine wq_seq ?_
      have hle := vecs_le a c (5 * i + j)
      by_cases d93 : (vecE (nx a (5 * i + j)) (ny c (5 * i + j))) = (0)
      · skip
        refine wq_region_y ?_
        refine wl_v (.agg #[.int .i64 (nx a (5 * i + j)), .int .i64 (ny c (5 * i + j))]) rfl rfl (y_load_stc stcT_vector rfl s92 B78 ⟨rfl, rfl⟩) ?_
        refine wl_call (R := fun v_ w_ => v_ = .int .i64 (vecE (nx a (5 * i + j)) (ny c (5 * i + j))) ∧ Kept (fun _ => False) w77 w_) rfl rfl (y_cs rfl rfl rfl (fun _ _ => by kernel_rfl) (ev_func _) (vsC rfl vsN) (mo_check (nx a (5 * i + j)) (ny c (5 * i + j))  _   ) (fun e_ w_ h_ => ⟨_, h_.1, rfl, h_.2⟩)) ?_
        rintro _ w94 ⟨rfl, k95⟩
        have K96 := K80.trans k95 (fun i hi x => x.elim)
        have B97 := B81.all k95 id
        have B98 := B82.all k95 id
        have B99 := B78.all k95 id
        have K100 := K83.trans k95 (fun _ _ x => x.elim)
        refine wl_v (.bool true) rfl rfl (y_eqlI rfl rfl rfl (decide_eq_true d93) ⟨rfl, rfl⟩) ?_
        refine wl_v (.bool true) rfl rfl (y_mov rfl rfl ⟨rfl, rfl⟩) ?_
        refine wl_vw (.func (.yield l) #[] #[]) 3 true 29 rfl rfl rfl rfl rfl (y_mov rfl s86 ⟨rfl, rfl⟩) ?_
        refine wl_vw (.agg #[.int .i64 (nx a (5 * i + j)), .int .i64 (ny c (5 * i + j))]) 3 true 29 rfl rfl rfl rfl rfl (y_load_stc stcT_vector rfl s92 B99 ⟨rfl, rfl⟩) ?_
        have B105 := B49.all K96 Apart.none
        refine wl_yieldw 3 true 29 rfl rfl rfl rfl rfl rfl rfl rfl rfl (vsC rfl vsN) (hY (vecsTo a c (5 * i + j)) (⟨nx a (5 * i + j), ny c (5 * i + j), (vecE_iff _ _).1 (by assumption)⟩) _ B105.1 (by omega)) ?_
        rintro _ w101 (⟨rfl, j103, k102⟩ | ⟨rfl, x104⟩)
        · refine ⟨_, rfl, ?_⟩
          have B106 := B105.next k102.size j103
          have B107 := B97.all k102 (fun x => (((ap_q1).symm) q1 rfl x))
          have B108 := B98.all k102 (fun x => (((ap_q2).symm) q2 rfl x))
          have K109 := K100.trans k102 (fun _ _ x => x)
          refine wl_vw (.bool false) 3 true 29 rfl rfl rfl rfl rfl (y_not rfl rfl rfl ⟨rfl, rfl⟩) ?_
          refine wl_v (.bool false) rfl rfl (y_pickT rfl rfl rfl ⟨rfl, rfl⟩) ?_
          refine wl_nil fun F110 hF111 => ?_
          have s112 : F110 0 = .func (.yield l) #[] #[] := (hF111 0).trans s86
          have s113 : F110 1 = .pointer (some ⟨q1, 0, none⟩) := (hF111 1).trans s87
          have s114 : F110 2 = .pointer (some ⟨q2, 0, none⟩) := (hF111 2).trans s88
          have s115 : F110 35 = undef := (hF111 35).trans s89
          have s116 : F110 4 = .int .i64 (ny c (5 * i + j)) := (hF111 4).trans s90
          have s117 : F110 5 = .int .i64 (nx a (5 * i + j)) := (hF111 5).trans s91
          have s118 : F110 34 = .bool false := (hF111 34).trans rfl
          clear hF111
          refine then_normal ?_
          refine wq_cond (t := false) s118 (fun e => by cases e) (fun _ => ?_)
          refine wq_skip ?_
          refine in_normal ?_
          refine then_normal ?_
          have enx := nx_in a i (j := j) (by omega)
          refine wq_region ?_
          refine wl_v (.int .i64 (nx a (5 * i + j))) rfl rfl (y_mov rfl s117 ⟨rfl, rfl⟩) ?_
          refine wl_v (.int .i64 ((nx a (5 * i + j)) + (1))) rfl rfl (y_add rfl rfl rfl (i64_i rfl (by omega)) ⟨rfl, rfl⟩) ?_
          refine wl_v (.int .i64 ((nx a (5 * i + j)) + (1))) rfl rfl (y_asg rfl rfl ⟨rfl, rfl⟩) ?_
          refine wl_nil fun F119 hF120 => ?_
          have s121 : F119 0 = .func (.yield l) #[] #[] := (hF120 0).trans s112
          have s122 : F119 1 = .pointer (some ⟨q1, 0, none⟩) := (hF120 1).trans s113
          have s123 : F119 2 = .pointer (some ⟨q2, 0, none⟩) := (hF120 2).trans s114
          have s124 : F119 35 = undef := (hF120 35).trans s115
          have s125 : F119 4 = .int .i64 (ny c (5 * i + j)) := (hF120 4).trans s116
          have s126 : F119 5 = .int .i64 ((nx a (5 * i + j)) + (1)) := (hF120 5).trans rfl
          clear hF120
          exact then_normal ⟨(5 - (j + 1)), by omega, j + 1, by omega, rfl, s121, s122, s123, s124, (s125.trans (congrArg (Value.int .i64) (by have e := ny_in c i (j := j) (by omega); omega))), (s126.trans (congrArg (Value.int .i64) (by have e := nx_in a i (j := j) (by omega); omega))), K109, (by rw [show 5 * i + (j + 1) = 5 * i + j + 1 from rfl]; first | (rw [vecs_take ((vecE_iff _ _).1 (by assumption))]; exact B106) | (rw [vecs_skip (fun h => absurd ((vecE_iff _ _).2 h) (by assumption))]; exact B106)), B107, B108⟩
        · refine ⟨_, rfl, ?_⟩
          refine wl_vw (.bool true) 3 true 29 rfl rfl rfl rfl rfl (y_not rfl rfl rfl ⟨rfl, rfl⟩) ?_
          refine wl_v (.bool true) rfl rfl (y_pickT rfl rfl rfl ⟨rfl, rfl⟩) ?_
          refine wl_nil fun F127 hF128 => ?_
          have s129 : F127 0 = .func (.yield l) #[] #[] := (hF128 0).trans s86
          have s130 : F127 1 = .pointer (some ⟨q1, 0, none⟩) := (hF128 1).trans s87
          have s131 : F127 2 = .pointer (some ⟨q2, 0, none⟩) := (hF128 2).trans s88
          have s132 : F127 35 = undef := (hF128 35).trans s89
          have s133 : F127 4 = .int .i64 (ny c (5 * i + j)) := (hF128 4).trans s90
          have s134 : F127 5 = .int .i64 (nx a (5 * i + j)) := (hF128 5).trans s91
          have s135 : F127 34 = .bool true := (hF128 34).trans rfl
          clear hF128
          refine then_normal ?_
          refine wq_cond (t := true) s135 (fun _ => ?_) (fun e => by cases e)
          refine wq_ret ?_
          refine in_ret ?_
          refine then_ret ?_
          refine then_ret ?_
          refine in_ret ?_
          refine in_ret ?_
          refine then_ret ?_
          refine then_ret ?_
          refine in_ret ?_
          exact end_none_ret s132 rfl ⟨⟨_, rfl⟩, Or.inr ⟨_, x104⟩⟩
      · skip
        refine wq_region_y ?_
        refine wl_v (.agg #[.int .i64 (nx a (5 * i + j)), .int .i64 (ny c (5 * i + j))]) rfl rfl (y_load_stc stcT_vector rfl s92 B78 ⟨rfl, rfl⟩) ?_
        refine wl_call (R := fun v_ w_ => v_ = .int .i64 (vecE (nx a (5 * i + j)) (ny c (5 * i + j))) ∧ Kept (fun _ => False) w77 w_) rfl rfl (y_cs rfl rfl rfl (fun _ _ => by kernel_rfl) (ev_func _) (vsC rfl vsN) (mo_check (nx a (5 * i + j)) (ny c (5 * i + j))  _   ) (fun e_ w_ h_ => ⟨_, h_.1, rfl, h_.2⟩)) ?_
        rintro _ w136 ⟨rfl, k137⟩
        have K138 := K80.trans k137 (fun i hi x => x.elim)
        have B139 := B81.all k137 id
        have B140 := B82.all k137 id
        have B141 := B78.all k137 id
        have K142 := K83.trans k137 (fun _ _ x => x.elim)
        refine wl_v (.bool false) rfl rfl (y_eqlI rfl rfl rfl (decide_eq_false d93) ⟨rfl, rfl⟩) ?_
        refine wl_v (.bool false) rfl rfl (y_mov rfl rfl ⟨rfl, rfl⟩) ?_
        refine wl_unless 3 true 29 rfl rfl rfl (Or.inl rfl) rfl ?_
        refine wl_unless 3 true 29 rfl rfl rfl (Or.inl rfl) rfl ?_
        refine wl_unless 3 true 29 rfl rfl rfl (Or.inl rfl) rfl ?_
        refine wl_unless 3 true 29 rfl rfl rfl (Or.inl rfl) rfl ?_
        refine wl_v (.bool false) rfl rfl (y_pickF rfl rfl rfl ⟨rfl, rfl⟩) ?_
        refine wl_nil fun F143 hF144 => ?_
        have s145 : F143 0 = .func (.yield l) #[] #[] := (hF144 0).trans s86
        have s146 : F143 1 = .pointer (some ⟨q1, 0, none⟩) := (hF144 1).trans s87
        have s147 : F143 2 = .pointer (some ⟨q2, 0, none⟩) := (hF144 2).trans s88
        have s148 : F143 35 = undef := (hF144 35).trans s89
        have s149 : F143 4 = .int .i64 (ny c (5 * i + j)) := (hF144 4).trans s90
        have s150 : F143 5 = .int .i64 (nx a (5 * i + j)) := (hF144 5).trans s91
        have s151 : F143 34 = .bool false := (hF144 34).trans rfl
        clear hF144
        refine then_normal ?_
        refine wq_cond (t := false) s151 (fun e => by cases e) (fun _ => ?_)
        refine wq_skip ?_
        refine in_normal ?_
        refine then_normal ?_
        have enx := nx_in a i (j := j) (by omega)
        refine wq_region ?_
        refine wl_v (.int .i64 (nx a (5 * i + j))) rfl rfl (y_mov rfl s150 ⟨rfl, rfl⟩) ?_
        refine wl_v (.int .i64 ((nx a (5 * i + j)) + (1))) rfl rfl (y_add rfl rfl rfl (i64_i rfl (by omega)) ⟨rfl, rfl⟩) ?_
        refine wl_v (.int .i64 ((nx a (5 * i + j)) + (1))) rfl rfl (y_asg rfl rfl ⟨rfl, rfl⟩) ?_
        refine wl_nil fun F152 hF153 => ?_
        have s154 : F152 0 = .func (.yield l) #[] #[] := (hF153 0).trans s145
        have s155 : F152 1 = .pointer (some ⟨q1, 0, none⟩) := (hF153 1).trans s146
        have s156 : F152 2 = .pointer (some ⟨q2, 0, none⟩) := (hF153 2).trans s147
        have s157 : F152 35 = undef := (hF153 35).trans s148
        have s158 : F152 4 = .int .i64 (ny c (5 * i + j)) := (hF153 4).trans s149
        have s159 : F152 5 = .int .i64 ((nx a (5 * i + j)) + (1)) := (hF153 5).trans rfl
        clear hF153
        have B160 := B49.all K138 Apart.none
        exact then_normal ⟨(5 - (j + 1)), by omega, j + 1, by omega, rfl, s154, s155, s156, s157, (s158.trans (congrArg (Value.int .i64) (by have e := ny_in c i (j := j) (by omega); omega))), (s159.trans (congrArg (Value.int .i64) (by have e := nx_in a i (j := j) (by omega); omega))), K142, (by rw [show 5 * i + (j + 1) = 5 * i + j + 1 from rfl]; first | (rw [vecs_take ((vecE_iff _ _).1 (by assumption))]; exact B160) | (rw [vecs_skip (fun h => absurd ((vecE_iff _ _).2 h) (by assumption))]; exact B160)), B139, B140⟩
    · replace c61 := of_decide_eq_false c61
      refine wq_exit ?_
      refine then_exit ?_
      refine then_exit ?_
      have l161 : 5 = j := by omega
      subst l161
      refine in_here ?_
      refine in_normal ?_
      refine then_normal ?_
      refine wq_region ?_
      refine wl_v (.int .i64 (c - 2 + (i : Int))) rfl rfl (y_mov rfl s58 ⟨rfl, rfl⟩) ?_
      refine wl_v (.int .i64 ((c - 2 + (i : Int)) + (1))) rfl rfl (y_add rfl rfl rfl (i64_i rfl (by omega)) ⟨rfl, rfl⟩) ?_
      refine wl_v (.int .i64 ((c - 2 + (i : Int)) + (1))) rfl rfl (y_asg rfl rfl ⟨rfl, rfl⟩) ?_
      refine wl_nil fun F162 hF163 => ?_
      have s164 : F162 0 = .func (.yield l) #[] #[] := (hF163 0).trans s54
      have s165 : F162 1 = .pointer (some ⟨q1, 0, none⟩) := (hF163 1).trans s55
      have s166 : F162 2 = .pointer (some ⟨q2, 0, none⟩) := (hF163 2).trans s56
      have s167 : F162 35 = undef := (hF163 35).trans s57
      have s168 : F162 4 = .int .i64 ((c - 2 + (i : Int)) + (1)) := (hF163 4).trans rfl
      clear hF163
      exact then_normal ⟨(5 - (i + 1)), by omega, i + 1, by omega, rfl, s164, s165, s166, s167, (s168.trans (congrArg (Value.int .i64) (by omega))), K40, B49, B50, B51⟩
  · replace c29 := of_decide_eq_false c29
    refine wq_exit ?_
    refine then_exit ?_
    refine then_exit ?_
    have l169 : 5 = i := by omega
    subst l169
    refine in_here ?_
    exact end_none s26 rfl ⟨⟨_, rfl⟩, Or.inl (B18.1)⟩
theorem bes_seq (a c : Int) (q1 q2 : Nat) (w : World) (ha : -34 ≤ a ∧ a ≤ 34) (hc : -34 ≤ c ∧ c ≤ 34) (h1 : Cel w q1 3 (.int .i64 c)) (h2 : Cel w q2 3 (.int .i64 a)) :
    SeqStopsK Fence.wide 1 Try.prog 52 #[.pointer (some ⟨q1, 0, none⟩), .pointer (some ⟨q2, 0, none⟩)] (fun x : Vok => [.agg #[.int .i64 x.X, .int .i64 x.Y]].toArray) (Kept (fun i => i ≠ q1 ∧ i ≠ q2)) (fun xs => xs = vecsTo a c 25) (fun _ => True) 25 w := by
  intro l J Jx W hB hJ hJx hY h0
  have k := kept_of_below hB
  refine callsIn_wide.2 ((bes_go a c q1 q2 l J Jx (fun i => i ≠ q1 ∧ i ≠ q2) W ha hc (h1.all k id) (fun i h e => h.1 e) (h2.all k id) (fun i h e => h.2 e) hY ⟨h0, hJ⟩).mono ?_)
  rintro e w' ⟨hv, h⟩
  exact ⟨hv, h.elim (fun h => .inl ⟨_, rfl, h⟩) (fun ⟨pre, h⟩ => .inr ⟨pre, trivial, h⟩)⟩
end Go.Proofs.Ytceoidglhakanaa
namespace Go.Proofs.Ytceoidglhakanaa
open Go.RowKit

set_option maxHeartbeats 4000000 in
set_option maxRecDepth 100000 in
theorem mo_search (p x y X Y : Int) (b : Nat → Int) (f : FD) (f0 f1 f2 : Value) (T_f0 : Nat → Prop) (T_f1 : Nat → Prop) (T_f2 : Nat → Prop) (w0 : World) (h_f0 : Byt w0 T_f0 f0 ((f).p0)) (h_f1 : Byt w0 T_f1 f1 ((f).p1)) (h_f2 : Byt w0 T_f2 f2 ((f).p2)) :
    Calls Try.prog 19 #[.agg #[.int .i64 ((f).W), .int .i64 ((f).H), f0, f1, f2], .int .i64 (p), .int .i64 (x), .int .i64 (y), blkV (b), .agg #[.int .i64 (X), .int .i64 (Y)]] w0 fun e w' => e = .returned (.tuple #[.agg #[.int .i64 ((srF f p x y b X Y).X), .int .i64 ((srF f p x y b X Y).Y)], .int .i64 ((srF f p x y b X Y).n)]) ∧ Kept (fun _ => False) w0 w' := by
  refine calls_wm (args := [.agg #[.int .i64 ((f).W), .int .i64 ((f).H), f0, f1, f2], .int .i64 (p), .int .i64 (x), .int .i64 (y), blkV (b), .agg #[.int .i64 (X), .int .i64 (Y)]]) 50 Try.func19 rfl rfl (Nat.le_of_ble_eq_true rfl) ?_
  have K0 := Kept.refl (fun _ => False) w0
  have g_f0 := Grew.refl w0 T_f0
  have g_f1 := Grew.refl w0 T_f1
  have g_f2 := Grew.refl w0 T_f2
  refine wq_seq ?_
  refine wq_region ?_
  refine wl_box_stc (vs := [.int .i64 ((f).W), .int .i64 ((f).H), f0, f1, f2]) rfl rfl rfl rfl fun p1 w2 B4 g5 k3 => ?_
  have gr6 : Grew w0 noB (onB p1) := Grew.new K0 g5
  have ap7 : Apart (onB p1) (T_f0) := Apart.new g5 (h_f0).live
  have ap8 : Apart (onB p1) (T_f1) := Apart.new g5 (h_f1).live
  have ap9 : Apart (onB p1) (T_f2) := Apart.new g5 (h_f2).live
  have B10 := h_f0.all k3 Apart.none
  have B11 := h_f1.all k3 Apart.none
  have B12 := h_f2.all k3 Apart.none
  have K13 := K0.trans k3 (fun _ _ x => x.elim)
  refine wl_box_cel rfl rfl rfl rfl (by rfl) fun p14 w15 B18 g20 k16 => ?_
  have gr21 : Grew w0 noB (onB p14) := Grew.new K13 g20
  have ap22 : Apart (onB p14) (T_f0) := Apart.new g20 (B10).live
  have ap23 : Apart (onB p14) (T_f1) := Apart.new g20 (B11).live
  have ap24 : Apart (onB p14) (T_f2) := Apart.new g20 (B12).live
  have ap25 : Apart (onB p14) (onB p1) := Apart.new g20 (onB_live (B4).lt)
  have B26 := B10.all k16 Apart.none
  have B27 := B11.all k16 Apart.none
  have B28 := B12.all k16 Apart.none
  have B29 := B4.all k16 id
  have K30 := K13.trans k16 (fun _ _ x => x.elim)
  refine wl_box_cel rfl rfl rfl rfl (by rfl) fun p31 w32 B35 g37 k33 => ?_
  have gr38 : Grew w0 noB (onB p31) := Grew.new K30 g37
  have ap39 : Apart (onB p31) (T_f0) := Apart.new g37 (B26).live
  have ap40 : Apart (onB p31) (T_f1) := Apart.new g37 (B27).live
  have ap41 : Apart (onB p31) (T_f2) := Apart.new g37 (B28).live
  have ap42 : Apart (onB p31) (onB p1) := Apart.new g37 (onB_live (B29).lt)
  have ap43 : Apart (onB p31) (onB p14) := Apart.new g37 (onB_live (B18).lt)
  have B44 := B26.all k33 Apart.none
  have B45 := B27.all k33 Apart.none
  have B46 := B28.all k33 Apart.none
  have B47 := B29.all k33 id
  have B48 := B18.all k33 id
  have K49 := K30.trans k33 (fun _ _ x => x.elim)
  refine wl_box_cel rfl rfl rfl rfl (by rfl) fun p50 w51 B54 g56 k52 => ?_
  have gr57 : Grew w0 noB (onB p50) := Grew.new K49 g56
  have ap58 : Apart (onB p50) (T_f0) := Apart.new g56 (B44).live
  have ap59 : Apart (onB p50) (T_f1) := Apart.new g56 (B45).live
  have ap60 : Apart (onB p50) (T_f2) := Apart.new g56 (B46).live
  have ap61 : Apart (onB p50) (onB p1) := Apart.new g56 (onB_live (B47).lt)
  have ap62 : Apart (onB p50) (onB p14) := Apart.new g56 (onB_live (B48).lt)
  have ap63 : Apart (onB p50) (onB p31) := Apart.new g56 (onB_live (B35).lt)
  have B64 := B44.all k52 Apart.none
  have B65 := B45.all k52 Apart.none
  have B66 := B46.all k52 Apart.none
  have B67 := B47.all k52 id
  have B68 := B48.all k52 id
  have B69 := B35.all k52 id
  have K70 := K49.trans k52 (fun _ _ x => x.elim)
  refine wl_box_blk rfl rfl rfl rfl fun p71 w72 e75 B73 k74 => ?_
  have g76 := onB_new (Nat.le_of_eq e75.symm)
  have gr77 : Grew w0 noB (onB p71) := Grew.new K70 g76
  have ap78 : Apart (onB p71) (T_f0) := Apart.new g76 (B64).live
  have ap79 : Apart (onB p71) (T_f1) := Apart.new g76 (B65).live
  have ap80 : Apart (onB p71) (T_f2) := Apart.new g76 (B66).live
  have ap81 : Apart (onB p71) (onB p1) := Apart.new g76 (onB_live (B67).lt)
  have ap82 : Apart (onB p71) (onB p14) := Apart.new g76 (onB_live (B68).lt)
  have ap83 : Apart (onB p71) (onB p31) := Apart.new g76 (onB_live (B69).lt)
  have ap84 : Apart (onB p71) (onB p50) := Apart.new g76 (onB_live (B54).lt)
  clear e75 g76
  have B85 := B64.all k74 Apart.none
  have B86 := B65.all k74 Apart.none
  have B87 := B66.all k74 Apart.none
  have B88 := B67.all k74 id
  have B89 := B68.all k74 id
  have B90 := B69.all k74 id
  have B91 := B54.all k74 id
  have K92 := K70.trans k74 (fun _ _ x => x.elim)
  refine wl_box_stc (vs := [.int .i64 (X), .int .i64 (Y)]) rfl rfl rfl rfl fun p93 w94 B96 g97 k95 => ?_
  have gr98 : Grew w0 noB (onB p93) := Grew.new K92 g97
  have ap99 : Apart (onB p93) (T_f0) := Apart.new g97 (B85).live
  have ap100 : Apart (onB p93) (T_f1) := Apart.new g97 (B86).live
  have ap101 : Apart (onB p93) (T_f2) := Apart.new g97 (B87).live
  have ap102 : Apart (onB p93) (onB p1) := Apart.new g97 (onB_live (B88).lt)
  have ap103 : Apart (onB p93) (onB p14) := Apart.new g97 (onB_live (B89).lt)
  have ap104 : Apart (onB p93) (onB p31) := Apart.new g97 (onB_live (B90).lt)
  have ap105 : Apart (onB p93) (onB p50) := Apart.new g97 (onB_live (B91).lt)
  have ap106 : Apart (onB p93) (onB p71) := Apart.new g97 (onB_live (B73).lt)
  have B107 := B85.all k95 Apart.none
  have B108 := B86.all k95 Apart.none
  have B109 := B87.all k95 Apart.none
  have B110 := B88.all k95 id
  have B111 := B89.all k95 id
  have B112 := B90.all k95 id
  have B113 := B91.all k95 id
  have B114 := B73.all k95 id
  have K115 := K92.trans k95 (fun _ _ x => x.elim)
  refine wl_alloc_stc (n := 2) (vs := [.int .i64 (0), .int .i64 (0)]) rfl rfl rfl (by kernel_rfl) fun p116 w117 B119 g120 k118 => ?_
  have gr121 : Grew w0 noB (onB p116) := Grew.new K115 g120
  have ap122 : Apart (onB p116) (T_f0) := Apart.new g120 (B107).live
  have ap123 : Apart (onB p116) (T_f1) := Apart.new g120 (B108).live
  have ap124 : Apart (onB p116) (T_f2) := Apart.new g120 (B109).live
  have ap125 : Apart (onB p116) (onB p1) := Apart.new g120 (onB_live (B110).lt)
  have ap126 : Apart (onB p116) (onB p14) := Apart.new g120 (onB_live (B111).lt)
  have ap127 : Apart (onB p116) (onB p31) := Apart.new g120 (onB_live (B112).lt)
  have ap128 : Apart (onB p116) (onB p50) := Apart.new g120 (onB_live (B113).lt)
  have ap129 : Apart (onB p116) (onB p71) := Apart.new g120 (onB_live (B114).lt)
  have ap130 : Apart (onB p116) (onB p93) := Apart.new g120 (onB_live (B96).lt)
  have B131 := B107.all k118 Apart.none
  have B132 := B108.all k118 Apart.none
  have B133 := B109.all k118 Apart.none
  have B134 := B110.all k118 id
  have B135 := B111.all k118 id
  have B136 := B112.all k118 id
  have B137 := B113.all k118 id
  have B138 := B114.all k118 id
  have B139 := B96.all k118 id
  have K140 := K115.trans k118 (fun _ _ x => x.elim)
  refine wl_alloc_cel (v := .int .i64 (0)) rfl rfl rfl (by kernel_rfl) rfl fun p141 w142 B145 g147 k143 => ?_
  have gr148 : Grew w0 noB (onB p141) := Grew.new K140 g147
  have ap149 : Apart (onB p141) (T_f0) := Apart.new g147 (B131).live
  have ap150 : Apart (onB p141) (T_f1) := Apart.new g147 (B132).live
  have ap151 : Apart (onB p141) (T_f2) := Apart.new g147 (B133).live
  have ap152 : Apart (onB p141) (onB p1) := Apart.new g147 (onB_live (B134).lt)
  have ap153 : Apart (onB p141) (onB p14) := Apart.new g147 (onB_live (B135).lt)
  have ap154 : Apart (onB p141) (onB p31) := Apart.new g147 (onB_live (B136).lt)
  have ap155 : Apart (onB p141) (onB p50) := Apart.new g147 (onB_live (B137).lt)
  have ap156 : Apart (onB p141) (onB p71) := Apart.new g147 (onB_live (B138).lt)
  have ap157 : Apart (onB p141) (onB p93) := Apart.new g147 (onB_live (B139).lt)
  have ap158 : Apart (onB p141) (onB p116) := Apart.new g147 (onB_live (B119).lt)
  have B159 := B131.all k143 Apart.none
  have B160 := B132.all k143 Apart.none
  have B161 := B133.all k143 Apart.none
  have B162 := B134.all k143 id
  have B163 := B135.all k143 id
  have B164 := B136.all k143 id
  have B165 := B137.all k143 id
  have B166 := B138.all k143 id
  have B167 := B139.all k143 id
  have B168 := B119.all k143 id
  have K169 := K140.trans k143 (fun _ _ x => x.elim)
  refine wl_nil fun F170 hF171 => ?_
  have s172 : F170 0 = .agg #[.int .i64 ((f).W), .int .i64 ((f).H), f0, f1, f2] := (hF171 0).trans rfl
  have s173 : F170 1 = .int .i64 (p) := (hF171 1).trans rfl
  have s174 : F170 2 = .int .i64 (x) := (hF171 2).trans rfl
  have s175 : F170 3 = .int .i64 (y) := (hF171 3).trans rfl
  have s176 : F170 4 = blkV (b) := (hF171 4).trans rfl
  have s177 : F170 5 = .agg #[.int .i64 (X), .int .i64 (Y)] := (hF171 5).trans rfl
  have s178 : F170 50 = undef := (hF171 50).trans rfl
  have s179 : F170 6 = .pointer (some ⟨p1, 0, none⟩) := (hF171 6).trans rfl
  have s180 : F170 7 = .pointer (some ⟨p14, 0, none⟩) := (hF171 7).trans rfl
  have s181 : F170 8 = .pointer (some ⟨p31, 0, none⟩) := (hF171 8).trans rfl
  have s182 : F170 9 = .pointer (some ⟨p50, 0, none⟩) := (hF171 9).trans rfl
  have s183 : F170 10 = .pointer (some ⟨p71, 0, none⟩) := (hF171 10).trans rfl
  have s184 : F170 11 = .pointer (some ⟨p93, 0, none⟩) := (hF171 11).trans rfl
  have s185 : F170 12 = .pointer (some ⟨p116, 0, none⟩) := (hF171 12).trans rfl
  have s186 : F170 13 = .pointer (some ⟨p141, 0, none⟩) := (hF171 13).trans rfl
  clear hF171
  refine then_normal ?_
  refine wq_seq ?_
  refine wq_region ?_
  refine wl_v (.agg #[.int .i64 (0), .int .i64 (0)]) rfl rfl (y_buildL (l' := []) (cells := #[.int .i64 (0), .int .i64 (0)]) rfl bpN (by kernel_rfl) rfl ⟨rfl, rfl⟩) ?_
  refine wl_alloc_stc (n := 2) (vs := [.int .i64 (0), .int .i64 (0)]) rfl rfl rfl (by kernel_rfl) fun p187 w188 B190 g191 k189 => ?_
  have gr192 : Grew w0 noB (onB p187) := Grew.new K169 g191
  have ap193 : Apart (onB p187) (T_f0) := Apart.new g191 (B159).live
  have ap194 : Apart (onB p187) (T_f1) := Apart.new g191 (B160).live
  have ap195 : Apart (onB p187) (T_f2) := Apart.new g191 (B161).live
  have ap196 : Apart (onB p187) (onB p1) := Apart.new g191 (onB_live (B162).lt)
  have ap197 : Apart (onB p187) (onB p14) := Apart.new g191 (onB_live (B163).lt)
  have ap198 : Apart (onB p187) (onB p31) := Apart.new g191 (onB_live (B164).lt)
  have ap199 : Apart (onB p187) (onB p50) := Apart.new g191 (onB_live (B165).lt)
  have ap200 : Apart (onB p187) (onB p71) := Apart.new g191 (onB_live (B166).lt)
  have ap201 : Apart (onB p187) (onB p93) := Apart.new g191 (onB_live (B167).lt)
  have ap202 : Apart (onB p187) (onB p116) := Apart.new g191 (onB_live (B168).lt)
  have ap203 : Apart (onB p187) (onB p141) := Apart.new g191 (onB_live (B145).lt)
  have B204 := B159.all k189 Apart.none
  have B205 := B160.all k189 Apart.none
  have B206 := B161.all k189 Apart.none
  have B207 := B162.all k189 id
  have B208 := B163.all k189 id
  have B209 := B164.all k189 id
  have B210 := B165.all k189 id
  have B211 := B166.all k189 id
  have B212 := B167.all k189 id
  have B213 := B168.all k189 id
  have B214 := B145.all k189 id
  have K215 := K169.trans k189 (fun _ _ x => x.elim)
  refine wl_alloc_cel (v := .int .i64 (0)) rfl rfl rfl (by kernel_rfl) rfl fun p216 w217 B220 g222 k218 => ?_
  have gr223 : Grew w0 noB (onB p216) := Grew.new K215 g222
  have ap224 : Apart (onB p216) (T_f0) := Apart.new g222 (B204).live
  have ap225 : Apart (onB p216) (T_f1) := Apart.new g222 (B205).live
  have ap226 : Apart (onB p216) (T_f2) := Apart.new g222 (B206).live
  have ap227 : Apart (onB p216) (onB p1) := Apart.new g222 (onB_live (B207).lt)
  have ap228 : Apart (onB p216) (onB p14) := Apart.new g222 (onB_live (B208).lt)
  have ap229 : Apart (onB p216) (onB p31) := Apart.new g222 (onB_live (B209).lt)
  have ap230 : Apart (onB p216) (onB p50) := Apart.new g222 (onB_live (B210).lt)
  have ap231 : Apart (onB p216) (onB p71) := Apart.new g222 (onB_live (B211).lt)
  have ap232 : Apart (onB p216) (onB p93) := Apart.new g222 (onB_live (B212).lt)
  have ap233 : Apart (onB p216) (onB p116) := Apart.new g222 (onB_live (B213).lt)
  have ap234 : Apart (onB p216) (onB p141) := Apart.new g222 (onB_live (B214).lt)
  have ap235 : Apart (onB p216) (onB p187) := Apart.new g222 (onB_live (B190).lt)
  have B236 := B204.all k218 Apart.none
  have B237 := B205.all k218 Apart.none
  have B238 := B206.all k218 Apart.none
  have B239 := B207.all k218 id
  have B240 := B208.all k218 id
  have B241 := B209.all k218 id
  have B242 := B210.all k218 id
  have B243 := B211.all k218 id
  have B244 := B212.all k218 id
  have B245 := B213.all k218 id
  have B246 := B214.all k218 id
  have B247 := B190.all k218 id
  have K248 := K215.trans k218 (fun _ _ x => x.elim)
  refine wl_store_stc (us := [.int .i64 (0), .int .i64 (0)]) stcT_vector rfl rfl rfl rfl rfl B247 rfl (oneI rfl (oneI rfl oneN)) fun w249 B250 k251 => ?_
  have B252 := B236.all k251 (fun i h x => (((ap193).symm) i h x))
  have B253 := B237.all k251 (fun i h x => (((ap194).symm) i h x))
  have B254 := B238.all k251 (fun i h x => (((ap195).symm) i h x))
  have B255 := B239.all k251 (fun x => (((ap196).symm) p1 rfl x))
  have B256 := B240.all k251 (fun x => (((ap197).symm) p14 rfl x))
  have B257 := B241.all k251 (fun x => (((ap198).symm) p31 rfl x))
  have B258 := B242.all k251 (fun x => (((ap199).symm) p50 rfl x))
  have B259 := B243.all k251 (fun x => (((ap200).symm) p71 rfl x))
  have B260 := B244.all k251 (fun x => (((ap201).symm) p93 rfl x))
  have B261 := B245.all k251 (fun x => (((ap202).symm) p116 rfl x))
  have B262 := B246.all k251 (fun x => (((ap203).symm) p141 rfl x))
  have B263 := B220.all k251 (fun x => ((ap235) p216 rfl x))
  have K264 := K248.trans k251 (Grew.ok (S := fun _ => False) gr192 noB_le)
  refine wl_store_cel rfl rfl rfl rfl rfl B263 (by rfl) (by kernel_rfl) fun w265 B266 k267 => ?_
  have B268 := B252.all k267 (fun i h x => (((ap224).symm) i h x))
  have B269 := B253.all k267 (fun i h x => (((ap225).symm) i h x))
  have B270 := B254.all k267 (fun i h x => (((ap226).symm) i h x))
  have B271 := B255.all k267 (fun x => (((ap227).symm) p1 rfl x))
  have B272 := B256.all k267 (fun x => (((ap228).symm) p14 rfl x))
  have B273 := B257.all k267 (fun x => (((ap229).symm) p31 rfl x))
  have B274 := B258.all k267 (fun x => (((ap230).symm) p50 rfl x))
  have B275 := B259.all k267 (fun x => (((ap231).symm) p71 rfl x))
  have B276 := B260.all k267 (fun x => (((ap232).symm) p93 rfl x))
  have B277 := B261.all k267 (fun x => (((ap233).symm) p116 rfl x))
  have B278 := B262.all k267 (fun x => (((ap234).symm) p141 rfl x))
  have B279 := B250.all k267 (fun x => (((ap235).symm) p187 rfl x))
  have K280 := K264.trans k267 (Grew.ok (S := fun _ => False) gr223 noB_le)
  refine wl_nil fun F281 hF282 => ?_
  have s283 : F281 0 = .agg #[.int .i64 ((f).W), .int .i64 ((f).H), f0, f1, f2] := (hF282 0).trans s172
  have s284 : F281 1 = .int .i64 (p) := (hF282 1).trans s173
  have s285 : F281 2 = .int .i64 (x) := (hF282 2).trans s174
  have s286 : F281 3 = .int .i64 (y) := (hF282 3).trans s175
  have s287 : F281 4 = blkV (b) := (hF282 4).trans s176
  have s288 : F281 5 = .agg #[.int .i64 (X), .int .i64 (Y)] := (hF282 5).trans s177
  have s289 : F281 50 = undef := (hF282 50).trans s178
  have s290 : F281 6 = .pointer (some ⟨p1, 0, none⟩) := (hF282 6).trans s179
  have s291 : F281 7 = .pointer (some ⟨p14, 0, none⟩) := (hF282 7).trans s180
  have s292 : F281 8 = .pointer (some ⟨p31, 0, none⟩) := (hF282 8).trans s181
  have s293 : F281 9 = .pointer (some ⟨p50, 0, none⟩) := (hF282 9).trans s182
  have s294 : F281 10 = .pointer (some ⟨p71, 0, none⟩) := (hF282 10).trans s183
  have s295 : F281 11 = .pointer (some ⟨p93, 0, none⟩) := (hF282 11).trans s184
  have s296 : F281 12 = .pointer (some ⟨p116, 0, none⟩) := (hF282 12).trans s185
  have s297 : F281 13 = .pointer (some ⟨p141, 0, none⟩) := (hF282 13).trans s186
  have s298 : F281 14 = .pointer (some ⟨p187, 0, none⟩) := (hF282 14).trans rfl
  have s299 : F281 15 = .pointer (some ⟨p216, 0, none⟩) := (hF282 15).trans rfl
  clear hF282
  refine then_normal ?_
  refine wq_seq ?_
  refine wq_seq ?_
  refine wq_region ?_
  refine wl_v (.agg #[.int .i64 (X), .int .i64 (Y)]) rfl rfl (y_load_stc stcT_vector rfl s295 B276 ⟨rfl, rfl⟩) ?_
  refine wl_call (R := fun v_ w_ => ∃ (v300 : Nat) (T304 : Nat → Prop) (v301 : Nat) (T305 : Nat → Prop), .func (.func 52) #[] #[.pointer (some ⟨v300, 0, none⟩), .pointer (some ⟨v301, 0, none⟩)] = v_ ∧ Kept (fun _ => False) w265 w_ ∧ (Cin w_ T304 v300 (c34 (Y)) ∧ Grew w265 noB T304) ∧ (Cin w_ T305 v301 (c34 (X)) ∧ Grew w265 noB T305) ∧ Apart T304 T305) rfl rfl (y_cs rfl rfl rfl (fun _ _ => by kernel_rfl) (ev_func _) (vsC rfl vsN) (mo_beside (X) (Y)  _   ) (fun e_ w_ h_ => by obtain ⟨v300_, T304_, v301_, T305_, he_, hr_⟩ := h_; exact ⟨_, he_, v300_, T304_, v301_, T305_, rfl, hr_⟩)) ?_
  rintro _ w302 ⟨v300, T304, v301, T305, rfl, k303, ⟨B306, g308⟩, ⟨B307, g309⟩, ap310⟩
  have B311 := B268.all k303 Apart.none
  have B312 := B269.all k303 Apart.none
  have B313 := B270.all k303 Apart.none
  have B314 := B271.all k303 id
  have B315 := B272.all k303 id
  have B316 := B273.all k303 id
  have B317 := B274.all k303 id
  have B318 := B275.all k303 id
  have B319 := B276.all k303 id
  have B320 := B277.all k303 id
  have B321 := B278.all k303 id
  have B322 := B279.all k303 id
  have B323 := B266.all k303 id
  have K324 := K280.trans k303 (fun _ _ x => x.elim)
  have gr325 : Grew w0 noB (T304) := Grew.new K280 g308
  have ap326 : Apart (T304) (T_f0) := Apart.new g308 (B268).live
  have ap327 : Apart (T304) (T_f1) := Apart.new g308 (B269).live
  have ap328 : Apart (T304) (T_f2) := Apart.new g308 (B270).live
  have ap329 : Apart (T304) (onB p1) := Apart.new g308 (onB_live (B271).lt)
  have ap330 : Apart (T304) (onB p14) := Apart.new g308 (onB_live (B272).lt)
  have ap331 : Apart (T304) (onB p31) := Apart.new g308 (onB_live (B273).lt)
  have ap332 : Apart (T304) (onB p50) := Apart.new g308 (onB_live (B274).lt)
  have ap333 : Apart (T304) (onB p71) := Apart.new g308 (onB_live (B275).lt)
  have ap334 : Apart (T304) (onB p93) := Apart.new g308 (onB_live (B276).lt)
  have ap335 : Apart (T304) (onB p116) := Apart.new g308 (onB_live (B277).lt)
  have ap336 : Apart (T304) (onB p141) := Apart.new g308 (onB_live (B278).lt)
  have ap337 : Apart (T304) (onB p187) := Apart.new g308 (onB_live (B279).lt)
  have ap338 : Apart (T304) (onB p216) := Apart.new g308 (onB_live (B266).lt)
  have gr339 : Grew w0 noB (T305) := Grew.new K280 g309
  have ap340 : Apart (T305) (T_f0) := Apart.new g309 (B268).live
  have ap341 : Apart (T305) (T_f1) := Apart.new g309 (B269).live
  have ap342 : Apart (T305) (T_f2) := Apart.new g309 (B270).live
  have ap343 : Apart (T305) (onB p1) := Apart.new g309 (onB_live (B271).lt)
  have ap344 : Apart (T305) (onB p14) := Apart.new g309 (onB_live (B272).lt)
  have ap345 : Apart (T305) (onB p31) := Apart.new g309 (onB_live (B273).lt)
  have ap346 : Apart (T305) (onB p50) := Apart.new g309 (onB_live (B274).lt)
  have ap347 : Apart (T305) (onB p71) := Apart.new g309 (onB_live (B275).lt)
  have ap348 : Apart (T305) (onB p93) := Apart.new g309 (onB_live (B276).lt)
  have ap349 : Apart (T305) (onB p116) := Apart.new g309 (onB_live (B277).lt)
  have ap350 : Apart (T305) (onB p141) := Apart.new g309 (onB_live (B278).lt)
  have ap351 : Apart (T305) (onB p187) := Apart.new g309 (onB_live (B279).lt)
  have ap352 : Apart (T305) (onB p216) := Apart.new g309 (onB_live (B266).lt)
  refine wl_nil fun F353 hF354 => ?_
  have s355 : F353 0 = .agg #[.int .i64 ((f).W), .int .i64 ((f).H), f0, f1, f2] := (hF354 0).trans s283
  have s356 : F353 1 = .int .i64 (p) := (hF354 1).trans s284
  have s357 : F353 2 = .int .i64 (x) := (hF354 2).trans s285
  have s358 : F353 3 = .int .i64 (y) := (hF354 3).trans s286
  have s359 : F353 4 = blkV (b) := (hF354 4).trans s287
  have s360 : F353 5 = .agg #[.int .i64 (X), .int .i64 (Y)] := (hF354 5).trans s288
  have s361 : F353 50 = undef := (hF354 50).trans s289
  have s362 : F353 6 = .pointer (some ⟨p1, 0, none⟩) := (hF354 6).trans s290
  have s363 : F353 7 = .pointer (some ⟨p14, 0, none⟩) := (hF354 7).trans s291
  have s364 : F353 8 = .pointer (some ⟨p31, 0, none⟩) := (hF354 8).trans s292
  have s365 : F353 9 = .pointer (some ⟨p50, 0, none⟩) := (hF354 9).trans s293
  have s366 : F353 10 = .pointer (some ⟨p71, 0, none⟩) := (hF354 10).trans s294
  have s367 : F353 11 = .pointer (some ⟨p93, 0, none⟩) := (hF354 11).trans s295
  have s368 : F353 12 = .pointer (some ⟨p116, 0, none⟩) := (hF354 12).trans s296
  have s369 : F353 13 = .pointer (some ⟨p141, 0, none⟩) := (hF354 13).trans s297
  have s370 : F353 14 = .pointer (some ⟨p187, 0, none⟩) := (hF354 14).trans s298
  have s371 : F353 15 = .pointer (some ⟨p216, 0, none⟩) := (hF354 15).trans s299
  have s372 : F353 22 = .func (.func 52) #[] #[.pointer (some ⟨v300, 0, none⟩), .pointer (some ⟨v301, 0, none⟩)] := (hF354 22).trans rfl
  clear hF354
  refine then_normal ?_
  refine wq_block ?_
  refine wq_rangeR (α := Vok) (encs := fun el => [.agg #[.int .i64 (el.X), .int .i64 (el.Y)]]) (U := fun i => i ≠ v300 ∧ i ≠ v301) (S := fun xs => xs = vecsTo (c34 X) (c34 Y) 25) (Sp := fun _ => True) (M := 25) s372 (fun _ _ => by kernel_rfl) (bes_seq (c34 X) (c34 Y) v300 v301 _ (c34_le X) (c34_le Y) (B306).2 (B307).2) (fun i hi => ⟨Nat.ne_of_gt (Nat.lt_of_lt_of_le (B306).2.lt hi), Nat.ne_of_gt (Nat.lt_of_lt_of_le (B307).2.lt hi)⟩) [23] rfl (fun _ => rfl) rfl (fun pre ww => Kept (fun _ => False) w0 ww ∧ Byt ww (T_f0) f0 ((f).p0) ∧ Byt ww (T_f1) f1 ((f).p1) ∧ Byt ww (T_f2) f2 ((f).p2) ∧ Stc ww p1 25 [.int .i64 ((f).W), .int .i64 ((f).H), f0, f1, f2] ∧ Cel ww p14 3 (.int .i64 (p)) ∧ Cel ww p31 3 (.int .i64 (x)) ∧ Cel ww p50 3 (.int .i64 (y)) ∧ Blk ww p71 31 (b) ∧ Stc ww p93 27 [.int .i64 (X), .int .i64 (Y)] ∧ Stc ww p116 27 [.int .i64 (0), .int .i64 (0)] ∧ Cel ww p141 3 (.int .i64 (0)) ∧ Stc ww p187 27 [.int .i64 ((foldV f p x y b pre).X), .int .i64 ((foldV f p x y b pre).Y)] ∧ Cel ww p216 3 (.int .i64 ((foldV f p x y b pre).n)) ∧ Cin ww (T304) v300 (c34 (Y)) ∧ Cin ww (T305) v301 (c34 (X))) (fun pre ww => Kept (fun _ => False) w0 ww ∧ Byt ww (T_f0) f0 ((f).p0) ∧ Byt ww (T_f1) f1 ((f).p1) ∧ Byt ww (T_f2) f2 ((f).p2) ∧ Stc ww p1 25 [.int .i64 ((f).W), .int .i64 ((f).H), f0, f1, f2] ∧ Cel ww p14 3 (.int .i64 (p)) ∧ Cel ww p31 3 (.int .i64 (x)) ∧ Cel ww p50 3 (.int .i64 (y)) ∧ Blk ww p71 31 (b) ∧ Stc ww p93 27 [.int .i64 (X), .int .i64 (Y)] ∧ Stc ww p116 27 [.int .i64 (0), .int .i64 (0)] ∧ Cel ww p141 3 (.int .i64 (-1)) ∧ Cin ww (T304) v300 (c34 (Y)) ∧ Cin ww (T305) v301 (c34 (X)) ∧ (¬ placeF f p x y)) ?_ ?_ ⟨K324, B311, B312, B313, B314, B315, B316, B317, B318, B319, B320, B321, B322, B323, B306, B307⟩ (fun el FF WW => ∃ (pa0_ : Nat), FF 0 = .agg #[.int .i64 ((f).W), .int .i64 ((f).H), f0, f1, f2] ∧ FF 1 = .int .i64 (p) ∧ FF 2 = .int .i64 (x) ∧ FF 3 = .int .i64 (y) ∧ FF 4 = blkV (b) ∧ FF 5 = .agg #[.int .i64 (X), .int .i64 (Y)] ∧ FF 6 = .pointer (some ⟨p1, 0, none⟩) ∧ FF 7 = .pointer (some ⟨p14, 0, none⟩) ∧ FF 8 = .pointer (some ⟨p31, 0, none⟩) ∧ FF 9 = .pointer (some ⟨p50, 0, none⟩) ∧ FF 10 = .pointer (some ⟨p71, 0, none⟩) ∧ FF 11 = .pointer (some ⟨p93, 0, none⟩) ∧ FF 12 = .pointer (some ⟨p116, 0, none⟩) ∧ FF 13 = .pointer (some ⟨p141, 0, none⟩) ∧ FF 14 = .pointer (some ⟨p187, 0, none⟩) ∧ FF 15 = .pointer (some ⟨p216, 0, none⟩) ∧ FF 16 = .pointer (some ⟨pa0_, 0, none⟩) ∧ FF 22 = .func (.func 52) #[] #[.pointer (some ⟨v300, 0, none⟩), .pointer (some ⟨v301, 0, none⟩)] ∧ FF 23 = .agg #[.int .i64 (el.X), .int .i64 (el.Y)] ∧ FF 50 = undef ∧ Stc WW pa0_ 27 [.int .i64 (el.X), .int .i64 (el.Y)] ∧ Apart (onB pa0_) (T_f0) ∧ Apart (onB pa0_) (T_f1) ∧ Apart (onB pa0_) (T_f2) ∧ Apart (onB pa0_) (onB p1) ∧ Apart (onB pa0_) (onB p14) ∧ Apart (onB pa0_) (onB p31) ∧ Apart (onB pa0_) (onB p50) ∧ Apart (onB pa0_) (onB p71) ∧ Apart (onB pa0_) (onB p93) ∧ Apart (onB pa0_) (onB p116) ∧ Apart (onB pa0_) (onB p141) ∧ Apart (onB pa0_) (onB p187) ∧ Apart (onB pa0_) (onB p216) ∧ Apart (onB pa0_) (T304) ∧ Apart (onB pa0_) (T305)) ?_ ?_ ?_ ?_ ?_
  · rintro pre A_ B_ row_ ⟨K_, B0_, B1_, B2_, B3_, B4_, B5_, B6_, B7_, B8_, B9_, B10_, B11_, B12_, B13_, B14_⟩ hg_ hr_
    exact ⟨K_.row hg_ hr_ K324.size, B0_.row hg_ hr_, B1_.row hg_ hr_, B2_.row hg_ hr_, B3_.row hg_ hr_, B4_.row hg_ hr_, B5_.row hg_ hr_, B6_.row hg_ hr_, B7_.row hg_ hr_, B8_.row hg_ hr_, B9_.row hg_ hr_, B10_.row hg_ hr_, B11_.row hg_ hr_, B12_.row hg_ hr_, B13_.row hg_ hr_, B14_.row hg_ hr_⟩
  · rintro pre A_ B_ row_ ⟨K_, B0_, B1_, B2_, B3_, B4_, B5_, B6_, B7_, B8_, B9_, B10_, B11_, B12_, i0_⟩ hg_ hr_
    exact ⟨K_.row hg_ hr_ K324.size, B0_.row hg_ hr_, B1_.row hg_ hr_, B2_.row hg_ hr_, B3_.row hg_ hr_, B4_.row hg_ hr_, B5_.row hg_ hr_, B6_.row hg_ hr_, B7_.row hg_ hr_, B8_.row hg_ hr_, B9_.row hg_ hr_, B10_.row hg_ hr_, B11_.row hg_ hr_, B12_.row hg_ hr_, i0_⟩
  · rintro el FF _ A_ B_ row_ ⟨p0_, s0_, s1_, s2_, s3_, s4_, s5_, s6_, s7_, s8_, s9_, s10_, s11_, s12_, s13_, s14_, s15_, s16_, s17_, s18_, s19_, B0_, a0_, a1_, a2_, a3_, a4_, a5_, a6_, a7_, a8_, a9_, a10_, a11_, a12_, a13_, a14_⟩ hg_ hr_
    exact ⟨p0_, s0_, s1_, s2_, s3_, s4_, s5_, s6_, s7_, s8_, s9_, s10_, s11_, s12_, s13_, s14_, s15_, s16_, s17_, s18_, s19_, B0_.row hg_ hr_, a0_, a1_, a2_, a3_, a4_, a5_, a6_, a7_, a8_, a9_, a10_, a11_, a12_, a13_, a14_⟩
  · rintro l_ pre el W_ ⟨K373, B374, B375, B376, B377, B378, B379, B380, B381, B382, B383, B384, B385, B386, B387, B388⟩
    refine wq_region ?_
    refine wl_alloc_stc (n := 2) (vs := [.int .i64 (0), .int .i64 (0)]) rfl rfl rfl (by kernel_rfl) fun p389 w390 B392 g393 k391 => ?_
    have gr394 : Grew W_ noB (onB p389) := Grew.new (Kept.refl (fun _ => False) W_) g393
    have ap395 : Apart (onB p389) (T_f0) := Apart.new g393 (B374).live
    have ap396 : Apart (onB p389) (T_f1) := Apart.new g393 (B375).live
    have ap397 : Apart (onB p389) (T_f2) := Apart.new g393 (B376).live
    have ap398 : Apart (onB p389) (onB p1) := Apart.new g393 (onB_live (B377).lt)
    have ap399 : Apart (onB p389) (onB p14) := Apart.new g393 (onB_live (B378).lt)
    have ap400 : Apart (onB p389) (onB p31) := Apart.new g393 (onB_live (B379).lt)
    have ap401 : Apart (onB p389) (onB p50) := Apart.new g393 (onB_live (B380).lt)
    have ap402 : Apart (onB p389) (onB p71) := Apart.new g393 (onB_live (B381).lt)
    have ap403 : Apart (onB p389) (onB p93) := Apart.new g393 (onB_live (B382).lt)
    have ap404 : Apart (onB p389) (onB p116) := Apart.new g393 (onB_live (B383).lt)
    have ap405 : Apart (onB p389) (onB p141) := Apart.new g393 (onB_live (B384).lt)
    have ap406 : Apart (onB p389) (onB p187) := Apart.new g393 (onB_live (B385).lt)
    have ap407 : Apart (onB p389) (onB p216) := Apart.new g393 (onB_live (B386).lt)
    have ap408 : Apart (onB p389) (T304) := Apart.new g393 (B387).live
    have ap409 : Apart (onB p389) (T305) := Apart.new g393 (B388).live
    have B410 := B374.all k391 Apart.none
    have B411 := B375.all k391 Apart.none
    have B412 := B376.all k391 Apart.none
    have B413 := B377.all k391 id
    have B414 := B378.all k391 id
    have B415 := B379.all k391 id
    have B416 := B380.all k391 id
    have B417 := B381.all k391 id
    have B418 := B382.all k391 id
    have B419 := B383.all k391 id
    have B420 := B384.all k391 id
    have B421 := B385.all k391 id
    have B422 := B386.all k391 id
    have B423 := B387.all k391 Apart.none
    have B424 := B388.all k391 Apart.none
    have K425 := (Kept.refl (fun _ => False) W_).trans k391 (fun _ _ x => x.elim)
    refine wl_store_stc (us := [.int .i64 (el.X), .int .i64 (el.Y)]) stcT_vector rfl rfl rfl rfl rfl B392 rfl (oneI rfl (oneI rfl oneN)) fun w426 B427 k428 => ?_
    have B429 := B410.all k428 (fun i h x => (((ap395).symm) i h x))
    have B430 := B411.all k428 (fun i h x => (((ap396).symm) i h x))
    have B431 := B412.all k428 (fun i h x => (((ap397).symm) i h x))
    have B432 := B413.all k428 (fun x => (((ap398).symm) p1 rfl x))
    have B433 := B414.all k428 (fun x => (((ap399).symm) p14 rfl x))
    have B434 := B415.all k428 (fun x => (((ap400).symm) p31 rfl x))
    have B435 := B416.all k428 (fun x => (((ap401).symm) p50 rfl x))
    have B436 := B417.all k428 (fun x => (((ap402).symm) p71 rfl x))
    have B437 := B418.all k428 (fun x => (((ap403).symm) p93 rfl x))
    have B438 := B419.all k428 (fun x => (((ap404).symm) p116 rfl x))
    have B439 := B420.all k428 (fun x => (((ap405).symm) p141 rfl x))
    have B440 := B421.all k428 (fun x => (((ap406).symm) p187 rfl x))
    have B441 := B422.all k428 (fun x => (((ap407).symm) p216 rfl x))
    have B442 := B423.all k428 (fun i h x => (((ap408).symm) i h x))
    have B443 := B424.all k428 (fun i h x => (((ap409).symm) i h x))
    have K444 := K425.trans k428 (Grew.ok (S := fun _ => False) gr394 noB_le)
    refine wl_nil fun F445 hF446 => ?_
    have s447 : F445 0 = .agg #[.int .i64 ((f).W), .int .i64 ((f).H), f0, f1, f2] := (hF446 0).trans s355
    have s448 : F445 1 = .int .i64 (p) := (hF446 1).trans s356
    have s449 : F445 2 = .int .i64 (x) := (hF446 2).trans s357
    have s450 : F445 3 = .int .i64 (y) := (hF446 3).trans s358
    have s451 : F445 4 = blkV (b) := (hF446 4).trans s359
    have s452 : F445 5 = .agg #[.int .i64 (X), .int .i64 (Y)] := (hF446 5).trans s360
    have s453 : F445 50 = undef := (hF446 50).trans rfl
    have s454 : F445 6 = .pointer (some ⟨p1, 0, none⟩) := (hF446 6).trans s362
    have s455 : F445 7 = .pointer (some ⟨p14, 0, none⟩) := (hF446 7).trans s363
    have s456 : F445 8 = .pointer (some ⟨p31, 0, none⟩) := (hF446 8).trans s364
    have s457 : F445 9 = .pointer (some ⟨p50, 0, none⟩) := (hF446 9).trans s365
    have s458 : F445 10 = .pointer (some ⟨p71, 0, none⟩) := (hF446 10).trans s366
    have s459 : F445 11 = .pointer (some ⟨p93, 0, none⟩) := (hF446 11).trans s367
    have s460 : F445 12 = .pointer (some ⟨p116, 0, none⟩) := (hF446 12).trans s368
    have s461 : F445 13 = .pointer (some ⟨p141, 0, none⟩) := (hF446 13).trans s369
    have s462 : F445 14 = .pointer (some ⟨p187, 0, none⟩) := (hF446 14).trans s370
    have s463 : F445 15 = .pointer (some ⟨p216, 0, none⟩) := (hF446 15).trans s371
    have s464 : F445 22 = .func (.func 52) #[] #[.pointer (some ⟨v300, 0, none⟩), .pointer (some ⟨v301, 0, none⟩)] := (hF446 22).trans s372
    have s465 : F445 23 = .agg #[.int .i64 (el.X), .int .i64 (el.Y)] := (hF446 23).trans rfl
    have s466 : F445 16 = .pointer (some ⟨p389, 0, none⟩) := (hF446 16).trans rfl
    clear hF446
    exact ⟨Cells.keeps Cells.no K444 _, K444.mono (fun _ _ x => x.elim), ⟨K373.trans K444 (fun _ _ x => x.elim), B429, B430, B431, B432, B433, B434, B435, B436, B437, B438, B439, B440, B441, B442, B443⟩, ⟨p389, s447, s448, s449, s450, s451, s452, s454, s455, s456, s457, s458, s459, s460, s461, s462, s463, s466, s464, s465, s453, B427, ap395, ap396, ap397, ap398, ap399, ap400, ap401, ap402, ap403, ap404, ap405, ap406, ap407, ap408, ap409⟩⟩
  · rintro l_ pre el F484 w483 ⟨K467, B468, B469, B470, B471, B472, B473, B474, B475, B476, B477, B478, B479, B480, B481, B482⟩ ⟨p485, s486, s487, s488, s489, s490, s491, s492, s493, s494, s495, s496, s497, s498, s499, s500, s501, s502, s503, s504, s505, B506, ap507, ap508, ap509, ap510, ap511, ap512, ap513, ap514, ap515, ap516, ap517, ap518, ap519, ap520, ap521⟩ hlen_
    have K522 := Kept.refl (fun i => (onB p116) i ∨ ((onB p141) i ∨ ((onB p187) i ∨ ((onB p216) i)))) w483
    refine wq_block ?_
    refine wq_seq ?_
    refine wq_region ?_
    refine wl_v (.agg #[.int .i64 ((f).W), .int .i64 ((f).H), f0, f1, f2]) rfl rfl (y_load_stc stcT_frame rfl s492 B471 ⟨rfl, rfl⟩) ?_
    refine wl_v (.int .i64 (p)) rfl rfl (y_load_cel rfl s493 Try.underlying3 B472 rfl ⟨rfl, rfl⟩) ?_
    refine wl_v (.int .i64 (x)) rfl rfl (y_load_cel rfl s494 Try.underlying3 B473 rfl ⟨rfl, rfl⟩) ?_
    refine wl_v (.int .i64 (y)) rfl rfl (y_load_cel rfl s495 Try.underlying3 B474 rfl ⟨rfl, rfl⟩) ?_
    refine wl_v (.agg #[.int .i64 (el.X), .int .i64 (el.Y)]) rfl rfl (y_load_stc stcT_vector rfl s502 B506 ⟨rfl, rfl⟩) ?_
    refine wl_call (R := fun v_ w_ => v_ = .tuple #[blkV (mvB (f) (p) (x) (y) (el.X) (el.Y)), .int .i64 (mvE (f) (p) (x) (y) (el.X) (el.Y))] ∧ Kept (fun _ => False) w483 w_) rfl rfl (y_cs rfl rfl rfl (fun _ _ => by kernel_rfl) (ev_func _) (vsC rfl (vsC rfl (vsC rfl (vsC rfl (vsC rfl vsN))))) (mo_predict (p) (x) (y) (el.X) (el.Y) (f) (f0) (f1) (f2) (T_f0) (T_f1) (T_f2) _  B468 B469 B470 ) (fun e_ w_ h_ => ⟨_, h_.1, rfl, h_.2⟩)) ?_
    rintro _ w523 ⟨rfl, k524⟩
    have B525 := B468.all k524 Apart.none
    have B526 := B469.all k524 Apart.none
    have B527 := B470.all k524 Apart.none
    have B528 := B471.all k524 id
    have B529 := B472.all k524 id
    have B530 := B473.all k524 id
    have B531 := B474.all k524 id
    have B532 := B475.all k524 id
    have B533 := B476.all k524 id
    have B534 := B477.all k524 id
    have B535 := B478.all k524 id
    have B536 := B479.all k524 id
    have B537 := B480.all k524 id
    have B538 := B481.all k524 Apart.none
    have B539 := B482.all k524 Apart.none
    have B540 := B506.all k524 id
    have K541 := K522.trans k524 (fun _ _ x => x.elim)
    refine wl_v (.tuple #[blkV (mvB (f) (p) (x) (y) (el.X) (el.Y)), .int .i64 (mvE (f) (p) (x) (y) (el.X) (el.Y))]) rfl rfl (y_mov rfl rfl ⟨rfl, rfl⟩) ?_
    refine wl_v (blkV (mvB (f) (p) (x) (y) (el.X) (el.Y))) rfl rfl (y_ext rfl rfl rfl ⟨rfl, rfl⟩) ?_
    refine wl_v (.int .i64 (mvE (f) (p) (x) (y) (el.X) (el.Y))) rfl rfl (y_ext rfl rfl rfl ⟨rfl, rfl⟩) ?_
    refine wl_alloc_blk rfl rfl rfl blkT_block.2.2 fun p542 w543 e546 B544 k545 => ?_
    have g547 := onB_new (Nat.le_of_eq e546.symm)
    have gr548 : Grew w483 noB (onB p542) := Grew.new K541 g547
    have ap549 : Apart (onB p542) (T_f0) := Apart.new g547 (B525).live
    have ap550 : Apart (onB p542) (T_f1) := Apart.new g547 (B526).live
    have ap551 : Apart (onB p542) (T_f2) := Apart.new g547 (B527).live
    have ap552 : Apart (onB p542) (onB p1) := Apart.new g547 (onB_live (B528).lt)
    have ap553 : Apart (onB p542) (onB p14) := Apart.new g547 (onB_live (B529).lt)
    have ap554 : Apart (onB p542) (onB p31) := Apart.new g547 (onB_live (B530).lt)
    have ap555 : Apart (onB p542) (onB p50) := Apart.new g547 (onB_live (B531).lt)
    have ap556 : Apart (onB p542) (onB p71) := Apart.new g547 (onB_live (B532).lt)
    have ap557 : Apart (onB p542) (onB p93) := Apart.new g547 (onB_live (B533).lt)
    have ap558 : Apart (onB p542) (onB p116) := Apart.new g547 (onB_live (B534).lt)
    have ap559 : Apart (onB p542) (onB p141) := Apart.new g547 (onB_live (B535).lt)
    have ap560 : Apart (onB p542) (onB p187) := Apart.new g547 (onB_live (B536).lt)
    have ap561 : Apart (onB p542) (onB p216) := Apart.new g547 (onB_live (B537).lt)
    have ap562 : Apart (onB p542) (T304) := Apart.new g547 (B538).live
    have ap563 : Apart (onB p542) (T305) := Apart.new g547 (B539).live
    have ap564 : Apart (onB p542) (onB p485) := Apart.new g547 (onB_live (B540).lt)
    clear e546 g547
    have B565 := B525.all k545 Apart.none
    have B566 := B526.all k545 Apart.none
    have B567 := B527.all k545 Apart.none
    have B568 := B528.all k545 id
    have B569 := B529.all k545 id
    have B570 := B530.all k545 id
    have B571 := B531.all k545 id
    have B572 := B532.all k545 id
    have B573 := B533.all k545 id
    have B574 := B534.all k545 id
    have B575 := B535.all k545 id
    have B576 := B536.all k545 id
    have B577 := B537.all k545 id
    have B578 := B538.all k545 Apart.none
    have B579 := B539.all k545 Apart.none
    have B580 := B540.all k545 id
    have K581 := K541.trans k545 (fun _ _ x => x.elim)
    refine wl_store_blk blkT_block rfl rfl rfl rfl rfl B544 fun w582 B583 k584 => ?_
    have B585 := B565.all k584 (fun i h x => (((ap549).symm) i h x))
    have B586 := B566.all k584 (fun i h x => (((ap550).symm) i h x))
    have B587 := B567.all k584 (fun i h x => (((ap551).symm) i h x))
    have B588 := B568.all k584 (fun x => (((ap552).symm) p1 rfl x))
    have B589 := B569.all k584 (fun x => (((ap553).symm) p14 rfl x))
    have B590 := B570.all k584 (fun x => (((ap554).symm) p31 rfl x))
    have B591 := B571.all k584 (fun x => (((ap555).symm) p50 rfl x))
    have B592 := B572.all k584 (fun x => (((ap556).symm) p71 rfl x))
    have B593 := B573.all k584 (fun x => (((ap557).symm) p93 rfl x))
    have B594 := B574.all k584 (fun x => (((ap558).symm) p116 rfl x))
    have B595 := B575.all k584 (fun x => (((ap559).symm) p141 rfl x))
    have B596 := B576.all k584 (fun x => (((ap560).symm) p187 rfl x))
    have B597 := B577.all k584 (fun x => (((ap561).symm) p216 rfl x))
    have B598 := B578.all k584 (fun i h x => (((ap562).symm) i h x))
    have B599 := B579.all k584 (fun i h x => (((ap563).symm) i h x))
    have B600 := B580.all k584 (fun x => (((ap564).symm) p485 rfl x))
    have K601 := K581.trans k584 (Grew.ok (S := fun i => (onB p116) i ∨ ((onB p141) i ∨ ((onB p187) i ∨ ((onB p216) i)))) gr548 noB_le)
    refine wl_v (.int .i64 (mvE (f) (p) (x) (y) (el.X) (el.Y))) rfl rfl (y_asg rfl rfl ⟨rfl, rfl⟩) ?_
    refine wl_nil fun F602 hF603 => ?_
    have s604 : F602 0 = .agg #[.int .i64 ((f).W), .int .i64 ((f).H), f0, f1, f2] := (hF603 0).trans s486
    have s605 : F602 1 = .int .i64 (p) := (hF603 1).trans s487
    have s606 : F602 2 = .int .i64 (x) := (hF603 2).trans s488
    have s607 : F602 3 = .int .i64 (y) := (hF603 3).trans s489
    have s608 : F602 4 = blkV (b) := (hF603 4).trans s490
    have s609 : F602 5 = .agg #[.int .i64 (X), .int .i64 (Y)] := (hF603 5).trans s491
    have s610 : F602 6 = .pointer (some ⟨p1, 0, none⟩) := (hF603 6).trans s492
    have s611 : F602 7 = .pointer (some ⟨p14, 0, none⟩) := (hF603 7).trans s493
    have s612 : F602 8 = .pointer (some ⟨p31, 0, none⟩) := (hF603 8).trans s494
    have s613 : F602 9 = .pointer (some ⟨p50, 0, none⟩) := (hF603 9).trans s495
    have s614 : F602 10 = .pointer (some ⟨p71, 0, none⟩) := (hF603 10).trans s496
    have s615 : F602 11 = .pointer (some ⟨p93, 0, none⟩) := (hF603 11).trans s497
    have s616 : F602 12 = .pointer (some ⟨p116, 0, none⟩) := (hF603 12).trans s498
    have s617 : F602 13 = .pointer (some ⟨p141, 0, none⟩) := (hF603 13).trans s499
    have s618 : F602 14 = .pointer (some ⟨p187, 0, none⟩) := (hF603 14).trans s500
    have s619 : F602 15 = .pointer (some ⟨p216, 0, none⟩) := (hF603 15).trans s501
    have s620 : F602 16 = .pointer (some ⟨p485, 0, none⟩) := (hF603 16).trans s502
    have s621 : F602 22 = .func (.func 52) #[] #[.pointer (some ⟨v300, 0, none⟩), .pointer (some ⟨v301, 0, none⟩)] := (hF603 22).trans s503
    have s622 : F602 23 = .agg #[.int .i64 (el.X), .int .i64 (el.Y)] := (hF603 23).trans s504
    have s623 : F602 50 = undef := (hF603 50).trans s505
    have s624 : F602 17 = .pointer (some ⟨p542, 0, none⟩) := (hF603 17).trans rfl
    have s625 : F602 18 = .int .i64 (mvE (f) (p) (x) (y) (el.X) (el.Y)) := (hF603 18).trans rfl
    clear hF603
    refine then_normal ?_
    refine wq_seq ?_
    refine wq_seq ?_
    refine wq_region ?_
    refine wl_v (.int .i64 (mvE (f) (p) (x) (y) (el.X) (el.Y))) rfl rfl (y_mov rfl s625 ⟨rfl, rfl⟩) ?_
    refine wl_v (.bool (decide ((mvE (f) (p) (x) (y) (el.X) (el.Y)) ≠ (0)))) rfl rfl (y_neqI rfl rfl rfl rfl ⟨rfl, rfl⟩) ?_
    refine wl_nil fun F626 hF627 => ?_
    have s628 : F626 0 = .agg #[.int .i64 ((f).W), .int .i64 ((f).H), f0, f1, f2] := (hF627 0).trans s604
    have s629 : F626 1 = .int .i64 (p) := (hF627 1).trans s605
    have s630 : F626 2 = .int .i64 (x) := (hF627 2).trans s606
    have s631 : F626 3 = .int .i64 (y) := (hF627 3).trans s607
    have s632 : F626 4 = blkV (b) := (hF627 4).trans s608
    have s633 : F626 5 = .agg #[.int .i64 (X), .int .i64 (Y)] := (hF627 5).trans s609
    have s634 : F626 6 = .pointer (some ⟨p1, 0, none⟩) := (hF627 6).trans s610
    have s635 : F626 7 = .pointer (some ⟨p14, 0, none⟩) := (hF627 7).trans s611
    have s636 : F626 8 = .pointer (some ⟨p31, 0, none⟩) := (hF627 8).trans s612
    have s637 : F626 9 = .pointer (some ⟨p50, 0, none⟩) := (hF627 9).trans s613
    have s638 : F626 10 = .pointer (some ⟨p71, 0, none⟩) := (hF627 10).trans s614
    have s639 : F626 11 = .pointer (some ⟨p93, 0, none⟩) := (hF627 11).trans s615
    have s640 : F626 12 = .pointer (some ⟨p116, 0, none⟩) := (hF627 12).trans s616
    have s641 : F626 13 = .pointer (some ⟨p141, 0, none⟩) := (hF627 13).trans s617
    have s642 : F626 14 = .pointer (some ⟨p187, 0, none⟩) := (hF627 14).trans s618
    have s643 : F626 15 = .pointer (some ⟨p216, 0, none⟩) := (hF627 15).trans s619
    have s644 : F626 16 = .pointer (some ⟨p485, 0, none⟩) := (hF627 16).trans s620
    have s645 : F626 22 = .func (.func 52) #[] #[.pointer (some ⟨v300, 0, none⟩), .pointer (some ⟨v301, 0, none⟩)] := (hF627 22).trans s621
    have s646 : F626 23 = .agg #[.int .i64 (el.X), .int .i64 (el.Y)] := (hF627 23).trans s622
    have s647 : F626 50 = undef := (hF627 50).trans s623
    have s648 : F626 17 = .pointer (some ⟨p542, 0, none⟩) := (hF627 17).trans s624
    have s649 : F626 18 = .int .i64 (mvE (f) (p) (x) (y) (el.X) (el.Y)) := (hF627 18).trans s625
    have s650 : F626 34 = .bool (decide ((mvE (f) (p) (x) (y) (el.X) (el.Y)) ≠ (0))) := (hF627 34).trans rfl
    clear hF627
    refine then_normal ?_
    refine wq_cond s650 (fun c651 => ?_) (fun c651 => ?_)
    · replace c651 := of_decide_eq_true c651
      refine wq_seq ?_
      refine wq_region ?_
      refine wl_v (.agg #[.int .i64 (0), .int .i64 (0)]) rfl rfl (y_buildL (l' := []) (cells := #[.int .i64 (0), .int .i64 (0)]) rfl bpN (by kernel_rfl) rfl ⟨rfl, rfl⟩) ?_
      refine wl_store_stc (us := [.int .i64 (0), .int .i64 (0)]) stcT_vector rfl rfl rfl s640 rfl B594 rfl (oneI rfl (oneI rfl oneN)) fun w652 B653 k654 => ?_
      have B655 := B585.all k654 (fun i h x => (((ap122).symm) i h x))
      have B656 := B586.all k654 (fun i h x => (((ap123).symm) i h x))
      have B657 := B587.all k654 (fun i h x => (((ap124).symm) i h x))
      have B658 := B588.all k654 (fun x => (((ap125).symm) p1 rfl x))
      have B659 := B589.all k654 (fun x => (((ap126).symm) p14 rfl x))
      have B660 := B590.all k654 (fun x => (((ap127).symm) p31 rfl x))
      have B661 := B591.all k654 (fun x => (((ap128).symm) p50 rfl x))
      have B662 := B592.all k654 (fun x => (((ap129).symm) p71 rfl x))
      have B663 := B593.all k654 (fun x => (((ap130).symm) p93 rfl x))
      have B664 := B595.all k654 (fun x => ((ap158) p141 rfl x))
      have B665 := B596.all k654 (fun x => ((ap202) p187 rfl x))
      have B666 := B597.all k654 (fun x => ((ap233) p216 rfl x))
      have B667 := B598.all k654 (fun i h x => ((ap335) i h x))
      have B668 := B599.all k654 (fun i h x => ((ap349) i h x))
      have B669 := B600.all k654 (fun x => ((ap516) p485 rfl x))
      have B670 := B583.all k654 (fun x => ((ap558) p542 rfl x))
      have K671 := K601.trans k654 (Grew.ok (S := fun i => (onB p116) i ∨ ((onB p141) i ∨ ((onB p187) i ∨ ((onB p216) i)))) (Grew.refl w483 (onB p116)) (fun _ x => Or.inl x))
      refine wl_store_cel rfl rfl rfl s641 rfl B664 (by rfl) (by kernel_rfl) fun w672 B673 k674 => ?_
      have B675 := B655.all k674 (fun i h x => (((ap149).symm) i h x))
      have B676 := B656.all k674 (fun i h x => (((ap150).symm) i h x))
      have B677 := B657.all k674 (fun i h x => (((ap151).symm) i h x))
      have B678 := B658.all k674 (fun x => (((ap152).symm) p1 rfl x))
      have B679 := B659.all k674 (fun x => (((ap153).symm) p14 rfl x))
      have B680 := B660.all k674 (fun x => (((ap154).symm) p31 rfl x))
      have B681 := B661.all k674 (fun x => (((ap155).symm) p50 rfl x))
      have B682 := B662.all k674 (fun x => (((ap156).symm) p71 rfl x))
      have B683 := B663.all k674 (fun x => (((ap157).symm) p93 rfl x))
      have B684 := B653.all k674 (fun x => (((ap158).symm) p116 rfl x))
      have B685 := B665.all k674 (fun x => ((ap203) p187 rfl x))
      have B686 := B666.all k674 (fun x => ((ap234) p216 rfl x))
      have B687 := B667.all k674 (fun i h x => ((ap336) i h x))
      have B688 := B668.all k674 (fun i h x => ((ap350) i h x))
      have B689 := B669.all k674 (fun x => ((ap517) p485 rfl x))
      have B690 := B670.all k674 (fun x => ((ap559) p542 rfl x))
      have K691 := K671.trans k674 (Grew.ok (S := fun i => (onB p116) i ∨ ((onB p141) i ∨ ((onB p187) i ∨ ((onB p216) i)))) (Grew.refl w483 (onB p141)) (fun _ x => Or.inr (Or.inl x)))
      refine wl_nil fun F692 hF693 => ?_
      have s694 : F692 12 = .pointer (some ⟨p116, 0, none⟩) := (hF693 12).trans s640
      have s695 : F692 13 = .pointer (some ⟨p141, 0, none⟩) := (hF693 13).trans s641
      have s696 : F692 50 = undef := (hF693 50).trans s647
      clear hF693
      refine then_normal ?_
      refine wq_ret ?_
      refine then_ret ?_
      refine in_ret ?_
      exact ⟨Cells.keeps (Cells.or (B477).cells (Cells.or (B478).cells (Cells.or (B479).cells (B480).cells))) K691 _, ⟨K467.trans K691 (fun i hi x => (x.elim (fun y => ((Grew.ok (S := fun _ => False) gr121 noB_le) i hi y)) (fun y => (y.elim (fun y => ((Grew.ok (S := fun _ => False) gr148 noB_le) i hi y)) (fun y => (y.elim (fun y => ((Grew.ok (S := fun _ => False) gr192 noB_le) i hi y)) (fun y => ((Grew.ok (S := fun _ => False) gr223 noB_le) i hi y)))))))), B675, B676, B677, B678, B679, B680, B681, B682, B683, B684, B673, B687, B688, (fun h => absurd ((mvE_iff f p x y el.X el.Y).2 ⟨h, el.ok⟩) (by assumption))⟩⟩
    · replace c651 := of_decide_eq_false c651
      refine wq_skip ?_
      refine then_normal ?_
      refine wq_seq ?_
      have he : mvE f p x y el.X el.Y = 0 := by first | assumption | (apply Decidable.byContradiction; assumption)
      refine wq_region ?_
      refine wl_v (blkV (mvB (f) (p) (x) (y) (el.X) (el.Y))) rfl rfl (y_load_blk blkT_block rfl s648 B583 ⟨rfl, rfl⟩) ?_
      refine wl_v (blkV (b)) rfl rfl (y_load_blk blkT_block rfl s638 B592 ⟨rfl, rfl⟩) ?_
      refine wl_call (R := fun v_ w_ => v_ = .int .i64 (costF (mvB (f) (p) (x) (y) (el.X) (el.Y)) (b)) ∧ Kept (fun _ => False) w582 w_) rfl rfl (y_cs rfl rfl rfl (fun _ _ => by kernel_rfl) (ev_func _) (vsC rfl (vsC rfl vsN)) (il_cost (mvB (f) (p) (x) (y) (el.X) (el.Y)) (b)  _   ) (fun e_ w_ h_ => ⟨_, h_.1, rfl, h_.2⟩)) ?_
      rintro _ w697 ⟨rfl, k698⟩
      have B699 := B585.all k698 Apart.none
      have B700 := B586.all k698 Apart.none
      have B701 := B587.all k698 Apart.none
      have B702 := B588.all k698 id
      have B703 := B589.all k698 id
      have B704 := B590.all k698 id
      have B705 := B591.all k698 id
      have B706 := B592.all k698 id
      have B707 := B593.all k698 id
      have B708 := B594.all k698 id
      have B709 := B595.all k698 id
      have B710 := B596.all k698 id
      have B711 := B597.all k698 id
      have B712 := B598.all k698 Apart.none
      have B713 := B599.all k698 Apart.none
      have B714 := B600.all k698 id
      have B715 := B583.all k698 id
      have K716 := K601.trans k698 (fun _ _ x => x.elim)
      refine wl_v (.int .i64 (costF (mvB (f) (p) (x) (y) (el.X) (el.Y)) (b))) rfl rfl (y_asg rfl rfl ⟨rfl, rfl⟩) ?_
      refine wl_nil fun F717 hF718 => ?_
      have s719 : F717 0 = .agg #[.int .i64 ((f).W), .int .i64 ((f).H), f0, f1, f2] := (hF718 0).trans s628
      have s720 : F717 1 = .int .i64 (p) := (hF718 1).trans s629
      have s721 : F717 2 = .int .i64 (x) := (hF718 2).trans s630
      have s722 : F717 3 = .int .i64 (y) := (hF718 3).trans s631
      have s723 : F717 4 = blkV (b) := (hF718 4).trans s632
      have s724 : F717 5 = .agg #[.int .i64 (X), .int .i64 (Y)] := (hF718 5).trans s633
      have s725 : F717 6 = .pointer (some ⟨p1, 0, none⟩) := (hF718 6).trans s634
      have s726 : F717 7 = .pointer (some ⟨p14, 0, none⟩) := (hF718 7).trans s635
      have s727 : F717 8 = .pointer (some ⟨p31, 0, none⟩) := (hF718 8).trans s636
      have s728 : F717 9 = .pointer (some ⟨p50, 0, none⟩) := (hF718 9).trans s637
      have s729 : F717 10 = .pointer (some ⟨p71, 0, none⟩) := (hF718 10).trans s638
      have s730 : F717 11 = .pointer (some ⟨p93, 0, none⟩) := (hF718 11).trans s639
      have s731 : F717 12 = .pointer (some ⟨p116, 0, none⟩) := (hF718 12).trans s640
      have s732 : F717 13 = .pointer (some ⟨p141, 0, none⟩) := (hF718 13).trans s641
      have s733 : F717 14 = .pointer (some ⟨p187, 0, none⟩) := (hF718 14).trans s642
      have s734 : F717 15 = .pointer (some ⟨p216, 0, none⟩) := (hF718 15).trans s643
      have s735 : F717 16 = .pointer (some ⟨p485, 0, none⟩) := (hF718 16).trans s644
      have s736 : F717 22 = .func (.func 52) #[] #[.pointer (some ⟨v300, 0, none⟩), .pointer (some ⟨v301, 0, none⟩)] := (hF718 22).trans s645
      have s737 : F717 23 = .agg #[.int .i64 (el.X), .int .i64 (el.Y)] := (hF718 23).trans s646
      have s738 : F717 50 = undef := (hF718 50).trans s647
      have s739 : F717 17 = .pointer (some ⟨p542, 0, none⟩) := (hF718 17).trans s648
      have s740 : F717 18 = .int .i64 (mvE (f) (p) (x) (y) (el.X) (el.Y)) := (hF718 18).trans s649
      have s741 : F717 34 = .bool (decide ((mvE (f) (p) (x) (y) (el.X) (el.Y)) ≠ (0))) := (hF718 34).trans s650
      have s742 : F717 19 = .int .i64 (costF (mvB (f) (p) (x) (y) (el.X) (el.Y)) (b)) := (hF718 19).trans rfl
      clear hF718
      refine then_normal ?_
      refine wq_seq ?_
      by_cases d743 : ((foldV f p x y b pre).n) < (0)
      · skip
        refine wq_region ?_
        refine wl_v (.int .i64 ((foldV f p x y b pre).n)) rfl rfl (y_load_cel rfl s734 Try.underlying3 B711 rfl ⟨rfl, rfl⟩) ?_
        refine wl_v (.bool true) rfl rfl (y_lss rfl rfl rfl (decide_eq_true d743) ⟨rfl, rfl⟩) ?_
        refine wl_v (.bool true) rfl rfl (y_mov rfl rfl ⟨rfl, rfl⟩) ?_
        refine wl_unless 2 false 41 rfl rfl rfl (Or.inl rfl) rfl ?_
        refine wl_unless 2 false 41 rfl rfl rfl (Or.inl rfl) rfl ?_
        refine wl_unless 2 false 41 rfl rfl rfl (Or.inl rfl) rfl ?_
        refine wl_v (.bool true) rfl rfl (y_pickT rfl rfl rfl ⟨rfl, rfl⟩) ?_
        refine wl_nil fun F744 hF745 => ?_
        have s746 : F744 0 = .agg #[.int .i64 ((f).W), .int .i64 ((f).H), f0, f1, f2] := (hF745 0).trans s719
        have s747 : F744 1 = .int .i64 (p) := (hF745 1).trans s720
        have s748 : F744 2 = .int .i64 (x) := (hF745 2).trans s721
        have s749 : F744 3 = .int .i64 (y) := (hF745 3).trans s722
        have s750 : F744 4 = blkV (b) := (hF745 4).trans s723
        have s751 : F744 5 = .agg #[.int .i64 (X), .int .i64 (Y)] := (hF745 5).trans s724
        have s752 : F744 6 = .pointer (some ⟨p1, 0, none⟩) := (hF745 6).trans s725
        have s753 : F744 7 = .pointer (some ⟨p14, 0, none⟩) := (hF745 7).trans s726
        have s754 : F744 8 = .pointer (some ⟨p31, 0, none⟩) := (hF745 8).trans s727
        have s755 : F744 9 = .pointer (some ⟨p50, 0, none⟩) := (hF745 9).trans s728
        have s756 : F744 10 = .pointer (some ⟨p71, 0, none⟩) := (hF745 10).trans s729
        have s757 : F744 11 = .pointer (some ⟨p93, 0, none⟩) := (hF745 11).trans s730
        have s758 : F744 12 = .pointer (some ⟨p116, 0, none⟩) := (hF745 12).trans s731
        have s759 : F744 13 = .pointer (some ⟨p141, 0, none⟩) := (hF745 13).trans s732
        have s760 : F744 14 = .pointer (some ⟨p187, 0, none⟩) := (hF745 14).trans s733
        have s761 : F744 15 = .pointer (some ⟨p216, 0, none⟩) := (hF745 15).trans s734
        have s762 : F744 16 = .pointer (some ⟨p485, 0, none⟩) := (hF745 16).trans s735
        have s763 : F744 22 = .func (.func 52) #[] #[.pointer (some ⟨v300, 0, none⟩), .pointer (some ⟨v301, 0, none⟩)] := (hF745 22).trans s736
        have s764 : F744 23 = .agg #[.int .i64 (el.X), .int .i64 (el.Y)] := (hF745 23).trans s737
        have s765 : F744 50 = undef := (hF745 50).trans s738
        have s766 : F744 17 = .pointer (some ⟨p542, 0, none⟩) := (hF745 17).trans s739
        have s767 : F744 18 = .int .i64 (mvE (f) (p) (x) (y) (el.X) (el.Y)) := (hF745 18).trans s740
        have s768 : F744 34 = .bool (decide ((mvE (f) (p) (x) (y) (el.X) (el.Y)) ≠ (0))) := (hF745 34).trans s741
        have s769 : F744 19 = .int .i64 (costF (mvB (f) (p) (x) (y) (el.X) (el.Y)) (b)) := (hF745 19).trans s742
        have s770 : F744 45 = .bool true := (hF745 45).trans rfl
        clear hF745
        refine then_normal ?_
        refine wq_cond (t := true) s770 (fun _ => ?_) (fun e => by cases e)
        refine wq_region ?_
        refine wl_v (.agg #[.int .i64 (el.X), .int .i64 (el.Y)]) rfl rfl (y_load_stc stcT_vector rfl s762 B714 ⟨rfl, rfl⟩) ?_
        refine wl_v (.int .i64 (costF (mvB (f) (p) (x) (y) (el.X) (el.Y)) (b))) rfl rfl (y_mov rfl s769 ⟨rfl, rfl⟩) ?_
        refine wl_store_stc (us := [.int .i64 (el.X), .int .i64 (el.Y)]) stcT_vector rfl rfl rfl s760 rfl B710 rfl (oneI rfl (oneI rfl oneN)) fun w771 B772 k773 => ?_
        have B774 := B699.all k773 (fun i h x => (((ap193).symm) i h x))
        have B775 := B700.all k773 (fun i h x => (((ap194).symm) i h x))
        have B776 := B701.all k773 (fun i h x => (((ap195).symm) i h x))
        have B777 := B702.all k773 (fun x => (((ap196).symm) p1 rfl x))
        have B778 := B703.all k773 (fun x => (((ap197).symm) p14 rfl x))
        have B779 := B704.all k773 (fun x => (((ap198).symm) p31 rfl x))
        have B780 := B705.all k773 (fun x => (((ap199).symm) p50 rfl x))
        have B781 := B706.all k773 (fun x => (((ap200).symm) p71 rfl x))
        have B782 := B707.all k773 (fun x => (((ap201).symm) p93 rfl x))
        have B783 := B708.all k773 (fun x => (((ap202).symm) p116 rfl x))
        have B784 := B709.all k773 (fun x => (((ap203).symm) p141 rfl x))
        have B785 := B711.all k773 (fun x => ((ap235) p216 rfl x))
        have B786 := B712.all k773 (fun i h x => ((ap337) i h x))
        have B787 := B713.all k773 (fun i h x => ((ap351) i h x))
        have B788 := B714.all k773 (fun x => ((ap518) p485 rfl x))
        have B789 := B715.all k773 (fun x => ((ap560) p542 rfl x))
        have K790 := K716.trans k773 (Grew.ok (S := fun i => (onB p116) i ∨ ((onB p141) i ∨ ((onB p187) i ∨ ((onB p216) i)))) (Grew.refl w483 (onB p187)) (fun _ x => Or.inr (Or.inr (Or.inl x))))
        refine wl_store_cel rfl rfl rfl s761 rfl B785 (by rfl) (by kernel_rfl) fun w791 B792 k793 => ?_
        have B794 := B774.all k793 (fun i h x => (((ap224).symm) i h x))
        have B795 := B775.all k793 (fun i h x => (((ap225).symm) i h x))
        have B796 := B776.all k793 (fun i h x => (((ap226).symm) i h x))
        have B797 := B777.all k793 (fun x => (((ap227).symm) p1 rfl x))
        have B798 := B778.all k793 (fun x => (((ap228).symm) p14 rfl x))
        have B799 := B779.all k793 (fun x => (((ap229).symm) p31 rfl x))
        have B800 := B780.all k793 (fun x => (((ap230).symm) p50 rfl x))
        have B801 := B781.all k793 (fun x => (((ap231).symm) p71 rfl x))
        have B802 := B782.all k793 (fun x => (((ap232).symm) p93 rfl x))
        have B803 := B783.all k793 (fun x => (((ap233).symm) p116 rfl x))
        have B804 := B784.all k793 (fun x => (((ap234).symm) p141 rfl x))
        have B805 := B772.all k793 (fun x => (((ap235).symm) p187 rfl x))
        have B806 := B786.all k793 (fun i h x => ((ap338) i h x))
        have B807 := B787.all k793 (fun i h x => ((ap352) i h x))
        have B808 := B788.all k793 (fun x => ((ap519) p485 rfl x))
        have B809 := B789.all k793 (fun x => ((ap561) p542 rfl x))
        have K810 := K790.trans k793 (Grew.ok (S := fun i => (onB p116) i ∨ ((onB p141) i ∨ ((onB p187) i ∨ ((onB p216) i)))) (Grew.refl w483 (onB p216)) (fun _ x => Or.inr (Or.inr (Or.inr x))))
        refine wl_nil fun F811 hF812 => ?_
        have s813 : F811 0 = .agg #[.int .i64 ((f).W), .int .i64 ((f).H), f0, f1, f2] := (hF812 0).trans s746
        have s814 : F811 1 = .int .i64 (p) := (hF812 1).trans s747
        have s815 : F811 2 = .int .i64 (x) := (hF812 2).trans s748
        have s816 : F811 3 = .int .i64 (y) := (hF812 3).trans s749
        have s817 : F811 4 = blkV (b) := (hF812 4).trans s750
        have s818 : F811 5 = .agg #[.int .i64 (X), .int .i64 (Y)] := (hF812 5).trans s751
        have s819 : F811 6 = .pointer (some ⟨p1, 0, none⟩) := (hF812 6).trans s752
        have s820 : F811 7 = .pointer (some ⟨p14, 0, none⟩) := (hF812 7).trans s753
        have s821 : F811 8 = .pointer (some ⟨p31, 0, none⟩) := (hF812 8).trans s754
        have s822 : F811 9 = .pointer (some ⟨p50, 0, none⟩) := (hF812 9).trans s755
        have s823 : F811 10 = .pointer (some ⟨p71, 0, none⟩) := (hF812 10).trans s756
        have s824 : F811 11 = .pointer (some ⟨p93, 0, none⟩) := (hF812 11).trans s757
        have s825 : F811 12 = .pointer (some ⟨p116, 0, none⟩) := (hF812 12).trans s758
        have s826 : F811 13 = .pointer (some ⟨p141, 0, none⟩) := (hF812 13).trans s759
        have s827 : F811 14 = .pointer (some ⟨p187, 0, none⟩) := (hF812 14).trans s760
        have s828 : F811 15 = .pointer (some ⟨p216, 0, none⟩) := (hF812 15).trans s761
        have s829 : F811 16 = .pointer (some ⟨p485, 0, none⟩) := (hF812 16).trans s762
        have s830 : F811 22 = .func (.func 52) #[] #[.pointer (some ⟨v300, 0, none⟩), .pointer (some ⟨v301, 0, none⟩)] := (hF812 22).trans s763
        have s831 : F811 23 = .agg #[.int .i64 (el.X), .int .i64 (el.Y)] := (hF812 23).trans s764
        have s832 : F811 50 = undef := (hF812 50).trans s765
        have s833 : F811 17 = .pointer (some ⟨p542, 0, none⟩) := (hF812 17).trans s766
        have s834 : F811 18 = .int .i64 (mvE (f) (p) (x) (y) (el.X) (el.Y)) := (hF812 18).trans s767
        have s835 : F811 34 = .bool (decide ((mvE (f) (p) (x) (y) (el.X) (el.Y)) ≠ (0))) := (hF812 34).trans s768
        have s836 : F811 19 = .int .i64 (costF (mvB (f) (p) (x) (y) (el.X) (el.Y)) (b)) := (hF812 19).trans s769
        have s837 : F811 45 = .bool true := (hF812 45).trans s770
        clear hF812
        refine in_normal ?_
        exact ⟨Cells.keeps (Cells.or (B477).cells (Cells.or (B478).cells (Cells.or (B479).cells (B480).cells))) K810 _, K810.mono (fun i hi x => (x.elim (fun y => ⟨fun e => (ap335).symm i y (by rw [(B481).1]; exact e), fun e => (ap349).symm i y (by rw [(B482).1]; exact e)⟩) (fun y => (y.elim (fun y => ⟨fun e => (ap336).symm i y (by rw [(B481).1]; exact e), fun e => (ap350).symm i y (by rw [(B482).1]; exact e)⟩) (fun y => (y.elim (fun y => ⟨fun e => (ap337).symm i y (by rw [(B481).1]; exact e), fun e => (ap351).symm i y (by rw [(B482).1]; exact e)⟩) (fun y => ⟨fun e => (ap338).symm i y (by rw [(B481).1]; exact e), fun e => (ap352).symm i y (by rw [(B482).1]; exact e)⟩))))))), ⟨K467.trans K810 (fun i hi x => (x.elim (fun y => ((Grew.ok (S := fun _ => False) gr121 noB_le) i hi y)) (fun y => (y.elim (fun y => ((Grew.ok (S := fun _ => False) gr148 noB_le) i hi y)) (fun y => (y.elim (fun y => ((Grew.ok (S := fun _ => False) gr192 noB_le) i hi y)) (fun y => ((Grew.ok (S := fun _ => False) gr223 noB_le) i hi y)))))))), B794, B795, B796, B797, B798, B799, B800, B801, B802, B803, B804, (by first | (rw [fold_take he (Or.inl (by assumption))]; exact B805) | (rw [fold_take he (Or.inr (by assumption))]; exact B805) | (rw [fold_keep (by rintro (h | h) <;> exact absurd h (by assumption))]; exact B805)), (by first | (rw [fold_take he (Or.inl (by assumption))]; exact B792) | (rw [fold_take he (Or.inr (by assumption))]; exact B792) | (rw [fold_keep (by rintro (h | h) <;> exact absurd h (by assumption))]; exact B792)), B806, B807⟩⟩
      · skip
        refine wq_region ?_
        refine wl_v (.int .i64 ((foldV f p x y b pre).n)) rfl rfl (y_load_cel rfl s734 Try.underlying3 B711 rfl ⟨rfl, rfl⟩) ?_
        refine wl_v (.bool false) rfl rfl (y_lss rfl rfl rfl (decide_eq_false d743) ⟨rfl, rfl⟩) ?_
        refine wl_v (.bool false) rfl rfl (y_mov rfl rfl ⟨rfl, rfl⟩) ?_
        refine wl_vw (.int .i64 (costF (mvB (f) (p) (x) (y) (el.X) (el.Y)) (b))) 2 false 41 rfl rfl rfl rfl rfl (y_mov rfl s742 ⟨rfl, rfl⟩) ?_
        refine wl_vw (.int .i64 ((foldV f p x y b pre).n)) 2 false 41 rfl rfl rfl rfl rfl (y_load_cel rfl s734 Try.underlying3 B711 rfl ⟨rfl, rfl⟩) ?_
        refine wl_vw (.bool (decide ((costF (mvB (f) (p) (x) (y) (el.X) (el.Y)) (b)) < ((foldV f p x y b pre).n)))) 2 false 41 rfl rfl rfl rfl rfl (y_lss rfl rfl rfl rfl ⟨rfl, rfl⟩) ?_
        refine wl_v (.bool (decide ((costF (mvB (f) (p) (x) (y) (el.X) (el.Y)) (b)) < ((foldV f p x y b pre).n)))) rfl rfl (y_pickF rfl rfl rfl ⟨rfl, rfl⟩) ?_
        refine wl_nil fun F838 hF839 => ?_
        have s840 : F838 0 = .agg #[.int .i64 ((f).W), .int .i64 ((f).H), f0, f1, f2] := (hF839 0).trans s719
        have s841 : F838 1 = .int .i64 (p) := (hF839 1).trans s720
        have s842 : F838 2 = .int .i64 (x) := (hF839 2).trans s721
        have s843 : F838 3 = .int .i64 (y) := (hF839 3).trans s722
        have s844 : F838 4 = blkV (b) := (hF839 4).trans s723
        have s845 : F838 5 = .agg #[.int .i64 (X), .int .i64 (Y)] := (hF839 5).trans s724
        have s846 : F838 6 = .pointer (some ⟨p1, 0, none⟩) := (hF839 6).trans s725
        have s847 : F838 7 = .pointer (some ⟨p14, 0, none⟩) := (hF839 7).trans s726
        have s848 : F838 8 = .pointer (some ⟨p31, 0, none⟩) := (hF839 8).trans s727
        have s849 : F838 9 = .pointer (some ⟨p50, 0, none⟩) := (hF839 9).trans s728
        have s850 : F838 10 = .pointer (some ⟨p71, 0, none⟩) := (hF839 10).trans s729
        have s851 : F838 11 = .pointer (some ⟨p93, 0, none⟩) := (hF839 11).trans s730
        have s852 : F838 12 = .pointer (some ⟨p116, 0, none⟩) := (hF839 12).trans s731
        have s853 : F838 13 = .pointer (some ⟨p141, 0, none⟩) := (hF839 13).trans s732
        have s854 : F838 14 = .pointer (some ⟨p187, 0, none⟩) := (hF839 14).trans s733
        have s855 : F838 15 = .pointer (some ⟨p216, 0, none⟩) := (hF839 15).trans s734
        have s856 : F838 16 = .pointer (some ⟨p485, 0, none⟩) := (hF839 16).trans s735
        have s857 : F838 22 = .func (.func 52) #[] #[.pointer (some ⟨v300, 0, none⟩), .pointer (some ⟨v301, 0, none⟩)] := (hF839 22).trans s736
        have s858 : F838 23 = .agg #[.int .i64 (el.X), .int .i64 (el.Y)] := (hF839 23).trans s737
        have s859 : F838 50 = undef := (hF839 50).trans s738
        have s860 : F838 17 = .pointer (some ⟨p542, 0, none⟩) := (hF839 17).trans s739
        have s861 : F838 18 = .int .i64 (mvE (f) (p) (x) (y) (el.X) (el.Y)) := (hF839 18).trans s740
        have s862 : F838 34 = .bool (decide ((mvE (f) (p) (x) (y) (el.X) (el.Y)) ≠ (0))) := (hF839 34).trans s741
        have s863 : F838 19 = .int .i64 (costF (mvB (f) (p) (x) (y) (el.X) (el.Y)) (b)) := (hF839 19).trans s742
        have s864 : F838 45 = .bool (decide ((costF (mvB (f) (p) (x) (y) (el.X) (el.Y)) (b)) < ((foldV f p x y b pre).n))) := (hF839 45).trans rfl
        clear hF839
        refine then_normal ?_
        refine wq_cond s864 (fun c865 => ?_) (fun c865 => ?_)
        · replace c865 := of_decide_eq_true c865
          refine wq_region ?_
          refine wl_v (.agg #[.int .i64 (el.X), .int .i64 (el.Y)]) rfl rfl (y_load_stc stcT_vector rfl s856 B714 ⟨rfl, rfl⟩) ?_
          refine wl_v (.int .i64 (costF (mvB (f) (p) (x) (y) (el.X) (el.Y)) (b))) rfl rfl (y_mov rfl s863 ⟨rfl, rfl⟩) ?_
          refine wl_store_stc (us := [.int .i64 (el.X), .int .i64 (el.Y)]) stcT_vector rfl rfl rfl s854 rfl B710 rfl (oneI rfl (oneI rfl oneN)) fun w866 B867 k868 => ?_
          have B869 := B699.all k868 (fun i h x => (((ap193).symm) i h x))
          have B870 := B700.all k868 (fun i h x => (((ap194).symm) i h x))
          have B871 := B701.all k868 (fun i h x => (((ap195).symm) i h x))
          have B872 := B702.all k868 (fun x => (((ap196).symm) p1 rfl x))
          have B873 := B703.all k868 (fun x => (((ap197).symm) p14 rfl x))
          have B874 := B704.all k868 (fun x => (((ap198).symm) p31 rfl x))
          have B875 := B705.all k868 (fun x => (((ap199).symm) p50 rfl x))
          have B876 := B706.all k868 (fun x => (((ap200).symm) p71 rfl x))
          have B877 := B707.all k868 (fun x => (((ap201).symm) p93 rfl x))
          have B878 := B708.all k868 (fun x => (((ap202).symm) p116 rfl x))
          have B879 := B709.all k868 (fun x => (((ap203).symm) p141 rfl x))
          have B880 := B711.all k868 (fun x => ((ap235) p216 rfl x))
          have B881 := B712.all k868 (fun i h x => ((ap337) i h x))
          have B882 := B713.all k868 (fun i h x => ((ap351) i h x))
          have B883 := B714.all k868 (fun x => ((ap518) p485 rfl x))
          have B884 := B715.all k868 (fun x => ((ap560) p542 rfl x))
          have K885 := K716.trans k868 (Grew.ok (S := fun i => (onB p116) i ∨ ((onB p141) i ∨ ((onB p187) i ∨ ((onB p216) i)))) (Grew.refl w483 (onB p187)) (fun _ x => Or.inr (Or.inr (Or.inl x))))
          refine wl_store_cel rfl rfl rfl s855 rfl B880 (by rfl) (by kernel_rfl) fun w886 B887 k888 => ?_
          have B889 := B869.all k888 (fun i h x => (((ap224).symm) i h x))
          have B890 := B870.all k888 (fun i h x => (((ap225).symm) i h x))
          have B891 := B871.all k888 (fun i h x => (((ap226).symm) i h x))
          have B892 := B872.all k888 (fun x => (((ap227).symm) p1 rfl x))
          have B893 := B873.all k888 (fun x => (((ap228).symm) p14 rfl x))
          have B894 := B874.all k888 (fun x => (((ap229).symm) p31 rfl x))
          have B895 := B875.all k888 (fun x => (((ap230).symm) p50 rfl x))
          have B896 := B876.all k888 (fun x => (((ap231).symm) p71 rfl x))
          have B897 := B877.all k888 (fun x => (((ap232).symm) p93 rfl x))
          have B898 := B878.all k888 (fun x => (((ap233).symm) p116 rfl x))
          have B899 := B879.all k888 (fun x => (((ap234).symm) p141 rfl x))
          have B900 := B867.all k888 (fun x => (((ap235).symm) p187 rfl x))
          have B901 := B881.all k888 (fun i h x => ((ap338) i h x))
          have B902 := B882.all k888 (fun i h x => ((ap352) i h x))
          have B903 := B883.all k888 (fun x => ((ap519) p485 rfl x))
          have B904 := B884.all k888 (fun x => ((ap561) p542 rfl x))
          have K905 := K885.trans k888 (Grew.ok (S := fun i => (onB p116) i ∨ ((onB p141) i ∨ ((onB p187) i ∨ ((onB p216) i)))) (Grew.refl w483 (onB p216)) (fun _ x => Or.inr (Or.inr (Or.inr x))))
          refine wl_nil fun F906 hF907 => ?_
          have s908 : F906 0 = .agg #[.int .i64 ((f).W), .int .i64 ((f).H), f0, f1, f2] := (hF907 0).trans s840
          have s909 : F906 1 = .int .i64 (p) := (hF907 1).trans s841
          have s910 : F906 2 = .int .i64 (x) := (hF907 2).trans s842
          have s911 : F906 3 = .int .i64 (y) := (hF907 3).trans s843
          have s912 : F906 4 = blkV (b) := (hF907 4).trans s844
          have s913 : F906 5 = .agg #[.int .i64 (X), .int .i64 (Y)] := (hF907 5).trans s845
          have s914 : F906 6 = .pointer (some ⟨p1, 0, none⟩) := (hF907 6).trans s846
          have s915 : F906 7 = .pointer (some ⟨p14, 0, none⟩) := (hF907 7).trans s847
          have s916 : F906 8 = .pointer (some ⟨p31, 0, none⟩) := (hF907 8).trans s848
          have s917 : F906 9 = .pointer (some ⟨p50, 0, none⟩) := (hF907 9).trans s849
          have s918 : F906 10 = .pointer (some ⟨p71, 0, none⟩) := (hF907 10).trans s850
          have s919 : F906 11 = .pointer (some ⟨p93, 0, none⟩) := (hF907 11).trans s851
          have s920 : F906 12 = .pointer (some ⟨p116, 0, none⟩) := (hF907 12).trans s852
          have s921 : F906 13 = .pointer (some ⟨p141, 0, none⟩) := (hF907 13).trans s853
          have s922 : F906 14 = .pointer (some ⟨p187, 0, none⟩) := (hF907 14).trans s854
          have s923 : F906 15 = .pointer (some ⟨p216, 0, none⟩) := (hF907 15).trans s855
          have s924 : F906 16 = .pointer (some ⟨p485, 0, none⟩) := (hF907 16).trans s856
          have s925 : F906 22 = .func (.func 52) #[] #[.pointer (some ⟨v300, 0, none⟩), .pointer (some ⟨v301, 0, none⟩)] := (hF907 22).trans s857
          have s926 : F906 23 = .agg #[.int .i64 (el.X), .int .i64 (el.Y)] := (hF907 23).trans s858
          have s927 : F906 50 = undef := (hF907 50).trans s859
          have s928 : F906 17 = .pointer (some ⟨p542, 0, none⟩) := (hF907 17).trans s860
          have s929 : F906 18 = .int .i64 (mvE (f) (p) (x) (y) (el.X) (el.Y)) := (hF907 18).trans s861
          have s930 : F906 34 = .bool (decide ((mvE (f) (p) (x) (y) (el.X) (el.Y)) ≠ (0))) := (hF907 34).trans s862
          have s931 : F906 19 = .int .i64 (costF (mvB (f) (p) (x) (y) (el.X) (el.Y)) (b)) := (hF907 19).trans s863
          have s932 : F906 45 = .bool (decide ((costF (mvB (f) (p) (x) (y) (el.X) (el.Y)) (b)) < ((foldV f p x y b pre).n))) := (hF907 45).trans s864
          clear hF907
          refine in_normal ?_
          exact ⟨Cells.keeps (Cells.or (B477).cells (Cells.or (B478).cells (Cells.or (B479).cells (B480).cells))) K905 _, K905.mono (fun i hi x => (x.elim (fun y => ⟨fun e => (ap335).symm i y (by rw [(B481).1]; exact e), fun e => (ap349).symm i y (by rw [(B482).1]; exact e)⟩) (fun y => (y.elim (fun y => ⟨fun e => (ap336).symm i y (by rw [(B481).1]; exact e), fun e => (ap350).symm i y (by rw [(B482).1]; exact e)⟩) (fun y => (y.elim (fun y => ⟨fun e => (ap337).symm i y (by rw [(B481).1]; exact e), fun e => (ap351).symm i y (by rw [(B482).1]; exact e)⟩) (fun y => ⟨fun e => (ap338).symm i y (by rw [(B481).1]; exact e), fun e => (ap352).symm i y (by rw [(B482).1]; exact e)⟩))))))), ⟨K467.trans K905 (fun i hi x => (x.elim (fun y => ((Grew.ok (S := fun _ => False) gr121 noB_le) i hi y)) (fun y => (y.elim (fun y => ((Grew.ok (S := fun _ => False) gr148 noB_le) i hi y)) (fun y => (y.elim (fun y => ((Grew.ok (S := fun _ => False) gr192 noB_le) i hi y)) (fun y => ((Grew.ok (S := fun _ => False) gr223 noB_le) i hi y)))))))), B889, B890, B891, B892, B893, B894, B895, B896, B897, B898, B899, (by first | (rw [fold_take he (Or.inl (by assumption))]; exact B900) | (rw [fold_take he (Or.inr (by assumption))]; exact B900) | (rw [fold_keep (by rintro (h | h) <;> exact absurd h (by assumption))]; exact B900)), (by first | (rw [fold_take he (Or.inl (by assumption))]; exact B887) | (rw [fold_take he (Or.inr (by assumption))]; exact B887) | (rw [fold_keep (by rintro (h | h) <;> exact absurd h (by assumption))]; exact B887)), B901, B902⟩⟩
        · replace c865 := of_decide_eq_false c865
          refine wq_skip ?_
          refine in_normal ?_
          exact ⟨Cells.keeps (Cells.or (B477).cells (Cells.or (B478).cells (Cells.or (B479).cells (B480).cells))) K716 _, K716.mono (fun i hi x => (x.elim (fun y => ⟨fun e => (ap335).symm i y (by rw [(B481).1]; exact e), fun e => (ap349).symm i y (by rw [(B482).1]; exact e)⟩) (fun y => (y.elim (fun y => ⟨fun e => (ap336).symm i y (by rw [(B481).1]; exact e), fun e => (ap350).symm i y (by rw [(B482).1]; exact e)⟩) (fun y => (y.elim (fun y => ⟨fun e => (ap337).symm i y (by rw [(B481).1]; exact e), fun e => (ap351).symm i y (by rw [(B482).1]; exact e)⟩) (fun y => ⟨fun e => (ap338).symm i y (by rw [(B481).1]; exact e), fun e => (ap352).symm i y (by rw [(B482).1]; exact e)⟩))))))), ⟨K467.trans K716 (fun i hi x => (x.elim (fun y => ((Grew.ok (S := fun _ => False) gr121 noB_le) i hi y)) (fun y => (y.elim (fun y => ((Grew.ok (S := fun _ => False) gr148 noB_le) i hi y)) (fun y => (y.elim (fun y => ((Grew.ok (S := fun _ => False) gr192 noB_le) i hi y)) (fun y => ((Grew.ok (S := fun _ => False) gr223 noB_le) i hi y)))))))), B699, B700, B701, B702, B703, B704, B705, B706, B707, B708, B709, (by first | (rw [fold_take he (Or.inl (by assumption))]; exact B710) | (rw [fold_take he (Or.inr (by assumption))]; exact B710) | (rw [fold_keep (by rintro (h | h) <;> exact absurd h (by assumption))]; exact B710)), (by first | (rw [fold_take he (Or.inl (by assumption))]; exact B711) | (rw [fold_take he (Or.inr (by assumption))]; exact B711) | (rw [fold_keep (by rintro (h | h) <;> exact absurd h (by assumption))]; exact B711)), B712, B713⟩⟩
  · rintro D949 xs_ w950 d951 hS_ ⟨K933, B934, B935, B936, B937, B938, B939, B940, B941, B942, B943, B944, B945, B946, B947, B948⟩ B952
    subst hS_
    have B952 : Mrk w950 D949 := B952
    have gr953 : Grew w0 noB (onB D949) := onB_new (Nat.le_trans K324.size d951)
    have ap954 : Apart (onB D949) (T_f0) := Mrk.far d951 (B311).live
    have ap955 : Apart (onB D949) (T_f1) := Mrk.far d951 (B312).live
    have ap956 : Apart (onB D949) (T_f2) := Mrk.far d951 (B313).live
    have ap957 : Apart (onB D949) (onB p1) := Mrk.far d951 (onB_live (B314).lt)
    have ap958 : Apart (onB D949) (onB p14) := Mrk.far d951 (onB_live (B315).lt)
    have ap959 : Apart (onB D949) (onB p31) := Mrk.far d951 (onB_live (B316).lt)
    have ap960 : Apart (onB D949) (onB p50) := Mrk.far d951 (onB_live (B317).lt)
    have ap961 : Apart (onB D949) (onB p71) := Mrk.far d951 (onB_live (B318).lt)
    have ap962 : Apart (onB D949) (onB p93) := Mrk.far d951 (onB_live (B319).lt)
    have ap963 : Apart (onB D949) (onB p116) := Mrk.far d951 (onB_live (B320).lt)
    have ap964 : Apart (onB D949) (onB p141) := Mrk.far d951 (onB_live (B321).lt)
    have ap965 : Apart (onB D949) (onB p187) := Mrk.far d951 (onB_live (B322).lt)
    have ap966 : Apart (onB D949) (onB p216) := Mrk.far d951 (onB_live (B323).lt)
    have ap967 : Apart (onB D949) (T304) := Mrk.far d951 (B306).live
    have ap968 : Apart (onB D949) (T305) := Mrk.far d951 (B307).live
    have s969 : markV (D949 :: marksOf (F353 50)) = markV [D949] := congrArg (fun z => markV (D949 :: marksOf z)) s361
    refine in_normal ?_
    refine then_normal ?_
    refine wq_seq ?_
    refine wq_cells (S := fun i => (onB p116) i ∨ ((onB p141) i)) [some 48, some 49, none, none] [Pc.eq (.agg #[.int .i64 ((foldV f p x y b (vecsTo (c34 X) (c34 Y) 25)).X), .int .i64 ((foldV f p x y b (vecsTo (c34 X) (c34 Y) 25)).Y)]), Pc.eq (.int .i64 ((foldV f p x y b (vecsTo (c34 X) (c34 Y) 25)).n)), Pc.told p116 27 [.int .i64 (0), .int .i64 (0)] [.int .i64 ((foldV f p x y b (vecsTo (c34 X) (c34 Y) 25)).X), .int .i64 ((foldV f p x y b (vecsTo (c34 X) (c34 Y) 25)).Y)], Pc.told p141 3 [.int .i64 (0)] [.int .i64 ((foldV f p x y b (vecsTo (c34 X) (c34 Y) 25)).n)]] (by kernel_rfl) (by kernel_rfl) (by kernel_rfl) rfl ⟨⟨Or.inl rfl, B943, ⟨fun e_ => (ap158).symm p116 rfl e_, trivial⟩⟩, ⟨⟨Or.inr rfl, B944, trivial⟩, trivial⟩⟩ ?_ ?_
    · refine stepsFC_cons ?_ ?_
      · refine StepFC.one rfl fun F_ w_ hR hout hD => ?_
        exact (y_load_stc stcT_vector rfl ((hout 14 rfl (by decide)).trans s370) (B945.all hR (fun x => (x.elim (fun y => ((ap202) p187 rfl y)) (fun y => ((ap203) p187 rfl y))))) ⟨rfl, Kept.refl _ _⟩)
      refine stepsFC_cons ?_ ?_
      · refine StepFC.one rfl fun F_ w_ hR hout hD => ?_
        exact (y_load_cel rfl ((hout 15 rfl (by decide)).trans s371) Try.underlying3 (B946.all hR (fun x => (x.elim (fun y => ((ap233) p216 rfl y)) (fun y => ((ap234) p216 rfl y))))) rfl ⟨rfl, Kept.refl _ _⟩)
      refine stepsFC_cons ?_ ?_
      · refine StepFC.old rfl rfl fun F_ w_ hR hout hD hO_ => ?_
        have g48 : F_ 48 = .agg #[.int .i64 ((foldV f p x y b (vecsTo (c34 X) (c34 Y) 25)).X), .int .i64 ((foldV f p x y b (vecsTo (c34 X) (c34 Y) 25)).Y)] := hD.get 0 rfl rfl rfl
        exact y_storeStc (us := [.int .i64 ((foldV f p x y b (vecsTo (c34 X) (c34 Y) 25)).X), .int .i64 ((foldV f p x y b (vecsTo (c34 X) (c34 Y) 25)).Y)]) stcT_vector rfl ((hout 12 rfl (by decide)).trans s368) g48 hO_ rfl (oneI rfl (oneI rfl oneN)) fun w2_ b_ k_ => ⟨b_, k_⟩
      refine stepsFC_cons ?_ ?_
      · refine StepFC.old rfl rfl fun F_ w_ hR hout hD hO_ => ?_
        have g49 : F_ 49 = .int .i64 ((foldV f p x y b (vecsTo (c34 X) (c34 Y) 25)).n) := hD.get 0 rfl rfl rfl
        exact y_storeCel rfl ((hout 13 rfl (by decide)).trans s369) g49 hO_ (by rfl) (by kernel_rfl) fun _ w2_ b_ k_ => ⟨b_, k_⟩
      exact stepsFC_nil
    intro v970 F971 w972 k973 G974 H976 hF975
    have B977 := B934.all k973 (fun i h x => (x.elim (fun y => (((ap122).symm) i h y)) (fun y => (((ap149).symm) i h y))))
    have B978 := B935.all k973 (fun i h x => (x.elim (fun y => (((ap123).symm) i h y)) (fun y => (((ap150).symm) i h y))))
    have B979 := B936.all k973 (fun i h x => (x.elim (fun y => (((ap124).symm) i h y)) (fun y => (((ap151).symm) i h y))))
    have B980 := B937.all k973 (fun x => (x.elim (fun y => (((ap125).symm) p1 rfl y)) (fun y => (((ap152).symm) p1 rfl y))))
    have B981 := B938.all k973 (fun x => (x.elim (fun y => (((ap126).symm) p14 rfl y)) (fun y => (((ap153).symm) p14 rfl y))))
    have B982 := B939.all k973 (fun x => (x.elim (fun y => (((ap127).symm) p31 rfl y)) (fun y => (((ap154).symm) p31 rfl y))))
    have B983 := B940.all k973 (fun x => (x.elim (fun y => (((ap128).symm) p50 rfl y)) (fun y => (((ap155).symm) p50 rfl y))))
    have B984 := B941.all k973 (fun x => (x.elim (fun y => (((ap129).symm) p71 rfl y)) (fun y => (((ap156).symm) p71 rfl y))))
    have B985 := B942.all k973 (fun x => (x.elim (fun y => (((ap130).symm) p93 rfl y)) (fun y => (((ap157).symm) p93 rfl y))))
    have B986 := B945.all k973 (fun x => (x.elim (fun y => ((ap202) p187 rfl y)) (fun y => ((ap203) p187 rfl y))))
    have B987 := B946.all k973 (fun x => (x.elim (fun y => ((ap233) p216 rfl y)) (fun y => ((ap234) p216 rfl y))))
    have B988 := B947.all k973 (fun i h x => (x.elim (fun y => ((ap335) i h y)) (fun y => ((ap336) i h y))))
    have B989 := B948.all k973 (fun i h x => (x.elim (fun y => ((ap349) i h y)) (fun y => ((ap350) i h y))))
    have B990 := B952.all k973 (fun x => (x.elim (fun y => ((ap963) D949 rfl y)) (fun y => ((ap964) D949 rfl y))))
    have K991 := K933.trans k973 (fun i hi x => (x.elim (fun y => ((Grew.ok (S := fun _ => False) gr121 noB_le) i hi y)) (fun y => ((Grew.ok (S := fun _ => False) gr148 noB_le) i hi y))))
    have B992 : Stc w972 p116 27 [.int .i64 ((foldV f p x y b (vecsTo (c34 X) (c34 Y) 25)).X), .int .i64 ((foldV f p x y b (vecsTo (c34 X) (c34 Y) 25)).Y)] := G974 2 (by decide)
    have B993 : Cel w972 p141 3 (.int .i64 ((foldV f p x y b (vecsTo (c34 X) (c34 Y) 25)).n)) := G974 3 (by decide)
    have s994 : F971 50 = markV [D949] := (hF975 50).trans s969
    have s995 : F971 12 = .pointer (some ⟨p116, 0, none⟩) := (hF975 12).trans s368
    have s996 : F971 13 = .pointer (some ⟨p141, 0, none⟩) := (hF975 13).trans s369
    clear G974 hF975 H976
    refine then_normal ?_
    refine wq_ret ?_
    have k997 := kept_shut w972 D949
    have B999 := B977.all k997 (fun i h x => (((ap954).symm) i h x))
    have B1000 := B978.all k997 (fun i h x => (((ap955).symm) i h x))
    have B1001 := B979.all k997 (fun i h x => (((ap956).symm) i h x))
    have B1002 := B980.all k997 (fun x => (((ap957).symm) p1 rfl x))
    have B1003 := B981.all k997 (fun x => (((ap958).symm) p14 rfl x))
    have B1004 := B982.all k997 (fun x => (((ap959).symm) p31 rfl x))
    have B1005 := B983.all k997 (fun x => (((ap960).symm) p50 rfl x))
    have B1006 := B984.all k997 (fun x => (((ap961).symm) p71 rfl x))
    have B1007 := B985.all k997 (fun x => (((ap962).symm) p93 rfl x))
    have B1008 := B992.all k997 (fun x => (((ap963).symm) p116 rfl x))
    have B1009 := B993.all k997 (fun x => (((ap964).symm) p141 rfl x))
    have B1010 := B986.all k997 (fun x => (((ap965).symm) p187 rfl x))
    have B1011 := B987.all k997 (fun x => (((ap966).symm) p216 rfl x))
    have B1012 := B988.all k997 (fun i h x => (((ap967).symm) i h x))
    have B1013 := B989.all k997 (fun i h x => (((ap968).symm) i h x))
    have K998 := K991.trans k997 (Grew.ok (S := fun _ => False) gr953 noB_le)
    exact endm_2 (ms := [D949]) s994 (B990).opens rfl (res_stc (vs := [.int .i64 ((foldV f p x y b (vecsTo (c34 X) (c34 Y) 25)).X), .int .i64 ((foldV f p x y b (vecsTo (c34 X) (c34 Y) 25)).Y)]) stcT_vector rfl s995 B1008) (res_cel Try.underlying3 rfl rfl s996 B1009) ⟨(by first | rw [show srF f p x y b X Y = ⟨0, 0, -1⟩ from sr_noplace hno b X Y 25] | rw [sr_is_fold]), K998⟩
  · rintro D1028 xs_ w1029 d1030 ⟨K1014, B1015, B1016, B1017, B1018, B1019, B1020, B1021, B1022, B1023, B1024, B1025, B1026, B1027, hno⟩ B1031
    have B1031 : Mrk w1029 D1028 := B1031
    have gr1032 : Grew w0 noB (onB D1028) := onB_new (Nat.le_trans K324.size d1030)
    have ap1033 : Apart (onB D1028) (T_f0) := Mrk.far d1030 (B311).live
    have ap1034 : Apart (onB D1028) (T_f1) := Mrk.far d1030 (B312).live
    have ap1035 : Apart (onB D1028) (T_f2) := Mrk.far d1030 (B313).live
    have ap1036 : Apart (onB D1028) (onB p1) := Mrk.far d1030 (onB_live (B314).lt)
    have ap1037 : Apart (onB D1028) (onB p14) := Mrk.far d1030 (onB_live (B315).lt)
    have ap1038 : Apart (onB D1028) (onB p31) := Mrk.far d1030 (onB_live (B316).lt)
    have ap1039 : Apart (onB D1028) (onB p50) := Mrk.far d1030 (onB_live (B317).lt)
    have ap1040 : Apart (onB D1028) (onB p71) := Mrk.far d1030 (onB_live (B318).lt)
    have ap1041 : Apart (onB D1028) (onB p93) := Mrk.far d1030 (onB_live (B319).lt)
    have ap1042 : Apart (onB D1028) (onB p116) := Mrk.far d1030 (onB_live (B320).lt)
    have ap1043 : Apart (onB D1028) (onB p141) := Mrk.far d1030 (onB_live (B321).lt)
    have ap1044 : Apart (onB D1028) (T304) := Mrk.far d1030 (B306).live
    have ap1045 : Apart (onB D1028) (T305) := Mrk.far d1030 (B307).live
    have s1046 : markV (D1028 :: marksOf (F353 50)) = markV [D1028] := congrArg (fun z => markV (D1028 :: marksOf z)) s361
    refine in_ret ?_
    refine then_ret ?_
    have k1047 := kept_shut w1029 D1028
    have B1049 := B1015.all k1047 (fun i h x => (((ap1033).symm) i h x))
    have B1050 := B1016.all k1047 (fun i h x => (((ap1034).symm) i h x))
    have B1051 := B1017.all k1047 (fun i h x => (((ap1035).symm) i h x))
    have B1052 := B1018.all k1047 (fun x => (((ap1036).symm) p1 rfl x))
    have B1053 := B1019.all k1047 (fun x => (((ap1037).symm) p14 rfl x))
    have B1054 := B1020.all k1047 (fun x => (((ap1038).symm) p31 rfl x))
    have B1055 := B1021.all k1047 (fun x => (((ap1039).symm) p50 rfl x))
    have B1056 := B1022.all k1047 (fun x => (((ap1040).symm) p71 rfl x))
    have B1057 := B1023.all k1047 (fun x => (((ap1041).symm) p93 rfl x))
    have B1058 := B1024.all k1047 (fun x => (((ap1042).symm) p116 rfl x))
    have B1059 := B1025.all k1047 (fun x => (((ap1043).symm) p141 rfl x))
    have B1060 := B1026.all k1047 (fun i h x => (((ap1044).symm) i h x))
    have B1061 := B1027.all k1047 (fun i h x => (((ap1045).symm) i h x))
    have K1048 := K1014.trans k1047 (Grew.ok (S := fun _ => False) gr1032 noB_le)
    exact endm_2 (ms := [D1028]) s1046 (B1031).opens rfl (res_stc (vs := [.int .i64 (0), .int .i64 (0)]) stcT_vector rfl s368 B1058) (res_cel Try.underlying3 rfl rfl s369 B1059) ⟨(by first | rw [show srF f p x y b X Y = ⟨0, 0, -1⟩ from sr_noplace hno b X Y 25] | rw [sr_is_fold]), K1048⟩
end Go.Proofs.Ytceoidglhakanaa
