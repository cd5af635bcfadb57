/- The walks of the laws of layer 4. -/
import Derived.Test.YtjfbfkjmbegacaaDoorSa
import Derived.Test.YtjfbfkjmbegacaaDoorWRf
namespace Go.Proofs.YtjfbfkjmbegacaaDoor
open Go.RowKit

theorem sameB_self (a : Nat → Int) : sameB a a = true := sameB_true fun _ _ => rfl
theorem clB_in {m : Int} {b : Nat → Int} (h : ∀ i, -m ≤ b i ∧ b i ≤ m) : clB m b = b := by funext i; exact cl_id m (b i) (h i).1 (h i).2
theorem clB_at (m : Int) (hm : 0 ≤ m) (b : Nat → Int) (i : Nat) : -m ≤ clB m b i ∧ clB m b i ≤ m := cl_le m (b i) hm
theorem clB_small {m : Int} (hm : 0 ≤ m ∧ m ≤ 1048576) (b : Nat → Int) : clB 1048576 (clB m b) = clB m b :=
  clB_in fun i => by have := clB_at m hm.1 b i; omega
theorem fwd_small {m : Int} (hm : 0 ≤ m ∧ 16 * m ≤ 1048576) (b : Nat → Int) : clB 1048576 (fwd (clB m b)) = fwd (clB m b) :=
  clB_in fun i => by have := fwd_le (clB m b) m (fun i _ => clB_at m hm.1 b i) i; omega

theorem back_law (a : Nat → Int) : sameB (backB (fwd (clB 1048576 (clB 32768 a)))) (clB 32768 a) = true := by
  refine sameB_true fun i hi => ?_
  unfold backB
  rw [clB_small (by omega), fwd_small (by omega), back_fwd _ i hi]
theorem less_law (a : Nat → Int) : sameB (lessB (moreB (clB 32768 a) (clB 32768 a)) (clB 32768 a)) (clB 32768 a) = true := by
  refine sameB_true fun i hi => ?_
  have h := clB_at 32768 (by omega) a i
  have e : moreB (clB 32768 a) (clB 32768 a) i = clB 32768 a i + clB 32768 a i := by unfold moreB; rw [clB_small (by omega)]
  unfold lessB
  rw [clB_small (m := 32768) (by omega)]
  show cl 1048576 (moreB (clB 32768 a) (clB 32768 a) i) - clB 32768 a i = _
  rw [e, cl_id] <;> omega

/-- How far a coefficient is moved. -/
def dd (e : Nat) (d : Nat → Int) (i : Nat) : Int := min (max (d i) (-(e : Int))) (e : Int)
theorem dd_le (e : Nat) (d : Nat → Int) (i : Nat) : -(e : Int) ≤ dd e d i ∧ dd e d i ≤ e := by unfold dd; omega
def moved (a : Nat → Int) (e : Nat) (d : Nat → Int) : Nat → Int := fun i => fwd (clB 1048576 (clB 32768 a)) i + dd e d i
theorem fwd15 (a : Nat → Int) (i : Nat) : -524288 ≤ fwd (clB 1048576 (clB 32768 a)) i ∧ fwd (clB 1048576 (clB 32768 a)) i ≤ 524288 := by
  rw [clB_small (by omega)]
  have := fwd_le (clB 32768 a) 32768 (fun i _ => clB_at 32768 (by omega) a i) i
  omega
theorem near_law (a : Nat → Int) (e : Nat) (he : e < 256) (d : Nat → Int) (i : Nat) (hi : i < 16) :
    -(e : Int) ≤ backB (moved a e d) i - clB 32768 a i ∧ backB (moved a e d) i - clB 32768 a i ≤ e := by
  have hm : clB 1048576 (moved a e d) = moved a e d := clB_in fun i => by
    have h1 := fwd15 a i
    have h2 := dd_le e d i
    unfold moved; omega
  unfold backB
  rw [hm]
  unfold moved
  rw [clB_small (by omega)]
  exact back_near (clB 32768 a) (dd e d) e (fun i _ => dd_le e d i) i hi

theorem twice_law (a : Nat → Int) (i : Nat) (hi : i < 16) : fwd (clB 1048576 (fwd (clB 1048576 (clB 2048 a)))) i = 16 * clB 2048 a i := by
  rw [clB_small (by omega), fwd_small (by omega), fwd_fwd _ i hi]
theorem adds_law (a b : Nat → Int) : sameB (fwd (clB 1048576 (moreB (clB 2048 a) (clB 2048 b)))) (moreB (fwd (clB 1048576 (clB 2048 a))) (fwd (clB 1048576 (clB 2048 b)))) = true := by
  have e : clB 1048576 (moreB (clB 2048 a) (clB 2048 b)) = fun i => clB 2048 a i + clB 2048 b i := by
    have e1 : moreB (clB 2048 a) (clB 2048 b) = fun i => clB 2048 a i + clB 2048 b i := by unfold moreB; rw [clB_small (m := 2048) (by omega), clB_small (m := 2048) (by omega)]
    rw [e1]
    exact clB_in fun i => by have h1 := clB_at 2048 (by omega) a i; have h2 := clB_at 2048 (by omega) b i; omega
  rw [e, clB_small (m := 2048) (by omega), clB_small (m := 2048) (by omega), fwd_add]
  unfold moreB
  rw [fwd_small (m := 2048) (by omega), fwd_small (m := 2048) (by omega)]
  exact sameB_self _
theorem subs_law (a b : Nat → Int) : sameB (fwd (clB 1048576 (lessB (clB 2048 a) (clB 2048 b)))) (lessB (fwd (clB 1048576 (clB 2048 a))) (fwd (clB 1048576 (clB 2048 b)))) = true := by
  have e : clB 1048576 (lessB (clB 2048 a) (clB 2048 b)) = fun i => clB 2048 a i - clB 2048 b i := by
    have e1 : lessB (clB 2048 a) (clB 2048 b) = fun i => clB 2048 a i - clB 2048 b i := by unfold lessB; rw [clB_small (m := 2048) (by omega), clB_small (m := 2048) (by omega)]
    rw [e1]
    exact clB_in fun i => by have h1 := clB_at 2048 (by omega) a i; have h2 := clB_at 2048 (by omega) b i; omega
  rw [e, clB_small (m := 2048) (by omega), clB_small (m := 2048) (by omega), fwd_sub]
  unfold lessB
  rw [fwd_small (m := 2048) (by omega), fwd_small (m := 2048) (by omega)]
  exact sameB_self _

theorem waves_all : wv 0 0 = 1 ∧ wv 0 1 = 1 ∧ wv 0 2 = 1 ∧ wv 0 3 = 1 ∧ wv 1 0 = 1 ∧ wv 1 1 = 1 ∧ wv 1 2 = -1 ∧ wv 1 3 = -1 ∧ wv 2 0 = 1 ∧ wv 2 1 = -1 ∧ wv 2 2 = -1 ∧ wv 2 3 = 1 ∧ wv 3 0 = 1 ∧ wv 3 1 = -1 ∧ wv 3 2 = 1 ∧ wv 3 3 = -1 := by decide
theorem flat_law (n : Int) (h : -32768 ≤ n ∧ n ≤ 32767) : sameB (fwd (clB 1048576 (fun _ => n))) (blL [16 * n]) = true := by
  rw [clB_in (b := fun _ => n) fun _ => by omega]
  refine sameB_true (all16 ?_)
  obtain ⟨h00, h01, h02, h03, h10, h11, h12, h13, h20, h21, h22, h23, h30, h31, h32, h33⟩ := waves_all
  simp only [fwd, turn, Nat.reduceMod, Nat.reduceDiv, Nat.reduceMul, Nat.reduceAdd, h00, h01, h02, h03, h10, h11, h12, h13, h20, h21, h22, h23, h30, h31, h32, h33, Int.mul_one, Int.mul_neg, Nat.zero_mod, Nat.zero_div, blL, List.getD_cons_zero, List.getD_cons_succ, List.getD_nil]
  refine ⟨?_, ?_, ?_, ?_, ?_, ?_, ?_, ?_, ?_, ?_, ?_, ?_, ?_, ?_, ?_, ?_⟩ <;> omega
theorem turned_law (a : Nat → Int) : sameB (fwd (clB 1048576 (lessB (fun _ => 0) (clB 32768 a)))) (lessB (fun _ => 0) (fwd (clB 1048576 (clB 32768 a)))) = true := by
  have z : clB 1048576 (fun _ => 0) = fun _ => 0 := clB_in fun _ => by omega
  have e : clB 1048576 (lessB (fun _ => 0) (clB 32768 a)) = fun i => 0 - clB 32768 a i := by
    have e1 : lessB (fun _ => 0) (clB 32768 a) = fun i => 0 - clB 32768 a i := by unfold lessB; rw [z, clB_small (m := 32768) (by omega)]
    rw [e1]
    exact clB_in fun i => by have h1 := clB_at 32768 (by omega) a i; omega
  rw [e, clB_small (m := 32768) (by omega)]
  unfold lessB
  rw [z, fwd_small (m := 32768) (by omega)]
  have f := fwd_sub (fun _ => 0) (clB 32768 a)
  rw [fwd_zero] at f
  rw [f]
  exact sameB_self _

set_option maxHeartbeats 4000000 in
set_option maxRecDepth 100000 in
theorem tells_walk (a b : Nat → Int) (w0 : World) (hw : Waves w0) :
    Calls Tryd.prog 3 #[blkV (a), blkV (b)] w0 fun e w' => e = .returned (.bool true) ∧ Kept (fun _ => False) w0 w' := by
  refine calls_wq (args := [blkV (a), blkV (b)]) 40 Tryd.func3 rfl rfl (Nat.le_of_ble_eq_true rfl) ?_
  have K0 := Kept.refl (fun _ => False) w0
  refine wq_seq ?_
  refine wq_region ?_
  refine wl_box_blk rfl rfl rfl rfl fun p1 w2 e5 B3 k4 => ?_
  have lp6 : w0.heap.size ≤ p1 := by have h_ := K0.size; omega
  clear e5
  have K7 := K0.trans k4 (fun _ _ x => x)
  refine wl_box_blk rfl rfl rfl rfl fun p8 w9 e12 B10 k11 => ?_
  have ne13 : p1 ≠ p8 := by have h_ := B3.lt; omega
  have lp14 : w0.heap.size ≤ p8 := by have h_ := K7.size; omega
  clear e12
  have B15 := B3.all k11 id
  have K16 := K7.trans k11 (fun _ _ x => x)
  refine wl_v (.bool false) rfl rfl (y_asg rfl rfl ⟨rfl, rfl⟩) ?_
  refine wl_nil fun F17 hF18 => ?_
  have s19 : F17 0 = blkV (a) := (hF18 0).trans rfl
  have s20 : F17 1 = blkV (b) := (hF18 1).trans rfl
  have s21 : F17 2 = .pointer (some ⟨p1, 0, none⟩) := (hF18 2).trans rfl
  have s22 : F17 3 = .pointer (some ⟨p8, 0, none⟩) := (hF18 3).trans rfl
  have s23 : F17 4 = .bool false := (hF18 4).trans rfl
  clear hF18
  refine then_normal ?_
  refine wq_seq ?_
  refine wq_region ?_
  refine wl_call (R := fun v_ w_ => v_ = .bool true ∧ Kept (fun _ => False) w9 w_) rfl rfl (y_cs rfl rfl rfl (fun _ _ => by kernel_rfl) (ev_func _) vsN (awake_any  _ (hw.all K16)) (fun e_ w_ h_ => ⟨_, h_.1, rfl, h_.2⟩)) ?_
  rintro _ w24 ⟨rfl, k25⟩
  have B26 := B15.all k25 id
  have B27 := B10.all k25 id
  have K28 := K16.trans k25 (fun _ _ x => x)
  refine wl_v (.bool true) rfl rfl (y_asg rfl rfl ⟨rfl, rfl⟩) ?_
  refine wl_nil fun F29 hF30 => ?_
  have s31 : F29 0 = blkV (a) := (hF30 0).trans s19
  have s32 : F29 1 = blkV (b) := (hF30 1).trans s20
  have s33 : F29 2 = .pointer (some ⟨p1, 0, none⟩) := (hF30 2).trans s21
  have s34 : F29 3 = .pointer (some ⟨p8, 0, none⟩) := (hF30 3).trans s22
  have s35 : F29 4 = .bool false := (hF30 4).trans s23
  have s36 : F29 5 = .bool true := (hF30 5).trans rfl
  clear hF30
  refine then_normal ?_
  refine wq_seq ?_
  refine wq_said [some 7, some 8, some 9, some 10, some 11, some 12, some 13, some 14, some 15, some 16, some 17, some 18, some 19, some 20, some 21, some 22, some 23, some 24, some 25, some 26, some 27, some 28, some 29, some 30, some 31, some 32, some 33, some 34, some 35, some 36, some 37, some 38, some 39, some 4] [Pd.eq (.bool true), Pd.eq (.bool true), Pd.eq (blkV (a)), Pd.eq (blkV (fwd (clB 1048576 (a)))), Pd.eq (blkV (a)), Pd.eq (blkV (fwd (clB 1048576 (a)))), Pd.eq (.bool true), Pd.eq (.bool true), Pd.eq (.bool true), Pd.eq (blkV (a)), Pd.eq (blkV (backB (a))), Pd.eq (blkV (a)), Pd.eq (blkV (backB (a))), Pd.eq (.bool true), Pd.eq (.bool true), Pd.eq (.bool true), Pd.eq (blkV (a)), Pd.eq (blkV (b)), Pd.eq (blkV (lessB (a) (b))), Pd.eq (blkV (a)), Pd.eq (blkV (b)), Pd.eq (blkV (lessB (a) (b))), Pd.eq (.bool true), Pd.eq (.bool true), Pd.eq (.bool true), Pd.eq (blkV (a)), Pd.eq (blkV (b)), Pd.eq (blkV (moreB (a) (b))), Pd.eq (blkV (a)), Pd.eq (blkV (b)), Pd.eq (blkV (moreB (a) (b))), Pd.eq (.bool true), Pd.eq (.bool true), Pd.eq (.bool true)] (by kernel_rfl) (by kernel_rfl) ?_ ?_
  · refine stepsF_cons ?_ ?_
    · refine StepF.one rfl fun F_ w_ hR hout hD => ?_
      exact (y_mov rfl ((hout 5 (by decide)).trans s36) ⟨rfl, Kept.refl _ _⟩)
    refine stepsF_cons ?_ ?_
    · refine StepF.one rfl fun F_ w_ hR hout hD => ?_
      have g7 : F_ 7 = .bool true := hD.get 0 rfl rfl rfl
      exact (y_mov rfl g7 ⟨rfl, Kept.refl _ _⟩)
    refine stepsF_cons ?_ ?_
    · refine StepF.when 1 true 8 rfl rfl fun F_ w_ hR hout hD => ?_
      have g8 : F_ 8 = .bool true := hD.get 0 rfl rfl rfl
      exact ⟨g8, (y_load_blk blkT_arr rfl ((hout 2 (by decide)).trans s33) (B26.all hR id) ⟨rfl, Kept.refl _ _⟩)⟩
    refine stepsF_cons ?_ ?_
    · refine StepF.when 1 true 8 rfl rfl fun F_ w_ hR hout hD => ?_
      have g8 : F_ 8 = .bool true := hD.get 1 rfl rfl rfl
      have g9 : F_ 9 = blkV (a) := hD.get 0 rfl rfl rfl
      exact ⟨g8, (y_cs rfl rfl rfl (fun _ _ => by kernel_rfl) (ev_func _) (vsC g9 vsN) (forward_any (a) _ (hw.all (K28.trans hR (fun _ _ x => x)))) (fun e_ w_ h_ => ⟨_, h_.1, rfl, h_.2⟩))⟩
    refine stepsF_cons ?_ ?_
    · refine StepF.when 1 true 8 rfl rfl fun F_ w_ hR hout hD => ?_
      have g8 : F_ 8 = .bool true := hD.get 0 rfl rfl rfl
      exact ⟨g8, (y_load_blk blkT_arr rfl ((hout 2 (by decide)).trans s33) (B26.all hR id) ⟨rfl, Kept.refl _ _⟩)⟩
    refine stepsF_cons ?_ ?_
    · refine StepF.when 1 true 8 rfl rfl fun F_ w_ hR hout hD => ?_
      have g8 : F_ 8 = .bool true := hD.get 2 rfl rfl rfl
      have g11 : F_ 11 = blkV (a) := hD.get 0 rfl rfl rfl
      exact ⟨g8, (y_cs rfl rfl rfl (fun _ _ => by kernel_rfl) (ev_func _) (vsC g11 vsN) (ref_forward (a) _ ) (fun e_ w_ h_ => ⟨_, h_.1, rfl, h_.2⟩))⟩
    refine stepsF_cons ?_ ?_
    · refine StepF.when 1 true 8 rfl rfl fun F_ w_ hR hout hD => ?_
      have g8 : F_ 8 = .bool true := hD.get 2 rfl rfl rfl
      have g10 : F_ 10 = blkV (fwd (clB 1048576 (a))) := hD.get 0 rfl rfl rfl
      have g12 : F_ 12 = blkV (fwd (clB 1048576 (a))) := hD.get 1 rfl rfl rfl
      exact ⟨g8, (y_sameR rfl g10 g12 (sameB_self _) ⟨rfl, Kept.refl _ _⟩)⟩
    refine stepsF_cons ?_ ?_
    · refine StepF.one rfl fun F_ w_ hR hout hD => ?_
      have g8 : F_ 8 = .bool true := hD.get 0 rfl rfl rfl
      have g13 : F_ 13 = .bool true := hD.get 1 rfl rfl rfl
      exact (y_pickT rfl g8 g13 ⟨rfl, Kept.refl _ _⟩)
    refine stepsF_cons ?_ ?_
    · refine StepF.one rfl fun F_ w_ hR hout hD => ?_
      have g14 : F_ 14 = .bool true := hD.get 0 rfl rfl rfl
      exact (y_mov rfl g14 ⟨rfl, Kept.refl _ _⟩)
    refine stepsF_cons ?_ ?_
    · refine StepF.when 8 true 15 rfl rfl fun F_ w_ hR hout hD => ?_
      have g15 : F_ 15 = .bool true := hD.get 0 rfl rfl rfl
      exact ⟨g15, (y_load_blk blkT_arr rfl ((hout 2 (by decide)).trans s33) (B26.all hR id) ⟨rfl, Kept.refl _ _⟩)⟩
    refine stepsF_cons ?_ ?_
    · refine StepF.when 8 true 15 rfl rfl fun F_ w_ hR hout hD => ?_
      have g15 : F_ 15 = .bool true := hD.get 1 rfl rfl rfl
      have g16 : F_ 16 = blkV (a) := hD.get 0 rfl rfl rfl
      exact ⟨g15, (y_cs rfl rfl rfl (fun _ _ => by kernel_rfl) (ev_func _) (vsC g16 vsN) (back_any (a) _ (hw.all (K28.trans hR (fun _ _ x => x)))) (fun e_ w_ h_ => ⟨_, h_.1, rfl, h_.2⟩))⟩
    refine stepsF_cons ?_ ?_
    · refine StepF.when 8 true 15 rfl rfl fun F_ w_ hR hout hD => ?_
      have g15 : F_ 15 = .bool true := hD.get 0 rfl rfl rfl
      exact ⟨g15, (y_load_blk blkT_arr rfl ((hout 2 (by decide)).trans s33) (B26.all hR id) ⟨rfl, Kept.refl _ _⟩)⟩
    refine stepsF_cons ?_ ?_
    · refine StepF.when 8 true 15 rfl rfl fun F_ w_ hR hout hD => ?_
      have g15 : F_ 15 = .bool true := hD.get 2 rfl rfl rfl
      have g18 : F_ 18 = blkV (a) := hD.get 0 rfl rfl rfl
      exact ⟨g15, (y_cs rfl rfl rfl (fun _ _ => by kernel_rfl) (ev_func _) (vsC g18 vsN) (ref_back (a) _ ) (fun e_ w_ h_ => ⟨_, h_.1, rfl, h_.2⟩))⟩
    refine stepsF_cons ?_ ?_
    · refine StepF.when 8 true 15 rfl rfl fun F_ w_ hR hout hD => ?_
      have g15 : F_ 15 = .bool true := hD.get 2 rfl rfl rfl
      have g17 : F_ 17 = blkV (backB (a)) := hD.get 0 rfl rfl rfl
      have g19 : F_ 19 = blkV (backB (a)) := hD.get 1 rfl rfl rfl
      exact ⟨g15, (y_sameR rfl g17 g19 (sameB_self _) ⟨rfl, Kept.refl _ _⟩)⟩
    refine stepsF_cons ?_ ?_
    · refine StepF.one rfl fun F_ w_ hR hout hD => ?_
      have g15 : F_ 15 = .bool true := hD.get 0 rfl rfl rfl
      have g20 : F_ 20 = .bool true := hD.get 1 rfl rfl rfl
      exact (y_pickT rfl g15 g20 ⟨rfl, Kept.refl _ _⟩)
    refine stepsF_cons ?_ ?_
    · refine StepF.one rfl fun F_ w_ hR hout hD => ?_
      have g21 : F_ 21 = .bool true := hD.get 0 rfl rfl rfl
      exact (y_mov rfl g21 ⟨rfl, Kept.refl _ _⟩)
    refine stepsF_cons ?_ ?_
    · refine StepF.when 15 true 22 rfl rfl fun F_ w_ hR hout hD => ?_
      have g22 : F_ 22 = .bool true := hD.get 0 rfl rfl rfl
      exact ⟨g22, (y_load_blk blkT_arr rfl ((hout 2 (by decide)).trans s33) (B26.all hR id) ⟨rfl, Kept.refl _ _⟩)⟩
    refine stepsF_cons ?_ ?_
    · refine StepF.when 15 true 22 rfl rfl fun F_ w_ hR hout hD => ?_
      have g22 : F_ 22 = .bool true := hD.get 0 rfl rfl rfl
      exact ⟨g22, (y_load_blk blkT_arr rfl ((hout 3 (by decide)).trans s34) (B27.all hR id) ⟨rfl, Kept.refl _ _⟩)⟩
    refine stepsF_cons ?_ ?_
    · refine StepF.when 15 true 22 rfl rfl fun F_ w_ hR hout hD => ?_
      have g22 : F_ 22 = .bool true := hD.get 2 rfl rfl rfl
      have g23 : F_ 23 = blkV (a) := hD.get 0 rfl rfl rfl
      have g24 : F_ 24 = blkV (b) := hD.get 1 rfl rfl rfl
      exact ⟨g22, (y_cs rfl rfl rfl (fun _ _ => by kernel_rfl) (ev_func _) (vsC g23 (vsC g24 vsN)) (less_any (a) (b) _ ) (fun e_ w_ h_ => ⟨_, h_.1, rfl, h_.2⟩))⟩
    refine stepsF_cons ?_ ?_
    · refine StepF.when 15 true 22 rfl rfl fun F_ w_ hR hout hD => ?_
      have g22 : F_ 22 = .bool true := hD.get 0 rfl rfl rfl
      exact ⟨g22, (y_load_blk blkT_arr rfl ((hout 2 (by decide)).trans s33) (B26.all hR id) ⟨rfl, Kept.refl _ _⟩)⟩
    refine stepsF_cons ?_ ?_
    · refine StepF.when 15 true 22 rfl rfl fun F_ w_ hR hout hD => ?_
      have g22 : F_ 22 = .bool true := hD.get 0 rfl rfl rfl
      exact ⟨g22, (y_load_blk blkT_arr rfl ((hout 3 (by decide)).trans s34) (B27.all hR id) ⟨rfl, Kept.refl _ _⟩)⟩
    refine stepsF_cons ?_ ?_
    · refine StepF.when 15 true 22 rfl rfl fun F_ w_ hR hout hD => ?_
      have g22 : F_ 22 = .bool true := hD.get 3 rfl rfl rfl
      have g26 : F_ 26 = blkV (a) := hD.get 0 rfl rfl rfl
      have g27 : F_ 27 = blkV (b) := hD.get 1 rfl rfl rfl
      exact ⟨g22, (y_cs rfl rfl rfl (fun _ _ => by kernel_rfl) (ev_func _) (vsC g26 (vsC g27 vsN)) (ref_less (a) (b) _ ) (fun e_ w_ h_ => ⟨_, h_.1, rfl, h_.2⟩))⟩
    refine stepsF_cons ?_ ?_
    · refine StepF.when 15 true 22 rfl rfl fun F_ w_ hR hout hD => ?_
      have g22 : F_ 22 = .bool true := hD.get 2 rfl rfl rfl
      have g25 : F_ 25 = blkV (lessB (a) (b)) := hD.get 0 rfl rfl rfl
      have g28 : F_ 28 = blkV (lessB (a) (b)) := hD.get 1 rfl rfl rfl
      exact ⟨g22, (y_sameR rfl g25 g28 (sameB_self _) ⟨rfl, Kept.refl _ _⟩)⟩
    refine stepsF_cons ?_ ?_
    · refine StepF.one rfl fun F_ w_ hR hout hD => ?_
      have g22 : F_ 22 = .bool true := hD.get 0 rfl rfl rfl
      have g29 : F_ 29 = .bool true := hD.get 1 rfl rfl rfl
      exact (y_pickT rfl g22 g29 ⟨rfl, Kept.refl _ _⟩)
    refine stepsF_cons ?_ ?_
    · refine StepF.one rfl fun F_ w_ hR hout hD => ?_
      have g30 : F_ 30 = .bool true := hD.get 0 rfl rfl rfl
      exact (y_mov rfl g30 ⟨rfl, Kept.refl _ _⟩)
    refine stepsF_cons ?_ ?_
    · refine StepF.when 24 true 31 rfl rfl fun F_ w_ hR hout hD => ?_
      have g31 : F_ 31 = .bool true := hD.get 0 rfl rfl rfl
      exact ⟨g31, (y_load_blk blkT_arr rfl ((hout 2 (by decide)).trans s33) (B26.all hR id) ⟨rfl, Kept.refl _ _⟩)⟩
    refine stepsF_cons ?_ ?_
    · refine StepF.when 24 true 31 rfl rfl fun F_ w_ hR hout hD => ?_
      have g31 : F_ 31 = .bool true := hD.get 0 rfl rfl rfl
      exact ⟨g31, (y_load_blk blkT_arr rfl ((hout 3 (by decide)).trans s34) (B27.all hR id) ⟨rfl, Kept.refl _ _⟩)⟩
    refine stepsF_cons ?_ ?_
    · refine StepF.when 24 true 31 rfl rfl fun F_ w_ hR hout hD => ?_
      have g31 : F_ 31 = .bool true := hD.get 2 rfl rfl rfl
      have g32 : F_ 32 = blkV (a) := hD.get 0 rfl rfl rfl
      have g33 : F_ 33 = blkV (b) := hD.get 1 rfl rfl rfl
      exact ⟨g31, (y_cs rfl rfl rfl (fun _ _ => by kernel_rfl) (ev_func _) (vsC g32 (vsC g33 vsN)) (more_any (a) (b) _ ) (fun e_ w_ h_ => ⟨_, h_.1, rfl, h_.2⟩))⟩
    refine stepsF_cons ?_ ?_
    · refine StepF.when 24 true 31 rfl rfl fun F_ w_ hR hout hD => ?_
      have g31 : F_ 31 = .bool true := hD.get 0 rfl rfl rfl
      exact ⟨g31, (y_load_blk blkT_arr rfl ((hout 2 (by decide)).trans s33) (B26.all hR id) ⟨rfl, Kept.refl _ _⟩)⟩
    refine stepsF_cons ?_ ?_
    · refine StepF.when 24 true 31 rfl rfl fun F_ w_ hR hout hD => ?_
      have g31 : F_ 31 = .bool true := hD.get 0 rfl rfl rfl
      exact ⟨g31, (y_load_blk blkT_arr rfl ((hout 3 (by decide)).trans s34) (B27.all hR id) ⟨rfl, Kept.refl _ _⟩)⟩
    refine stepsF_cons ?_ ?_
    · refine StepF.when 24 true 31 rfl rfl fun F_ w_ hR hout hD => ?_
      have g31 : F_ 31 = .bool true := hD.get 3 rfl rfl rfl
      have g35 : F_ 35 = blkV (a) := hD.get 0 rfl rfl rfl
      have g36 : F_ 36 = blkV (b) := hD.get 1 rfl rfl rfl
      exact ⟨g31, (y_cs rfl rfl rfl (fun _ _ => by kernel_rfl) (ev_func _) (vsC g35 (vsC g36 vsN)) (ref_more (a) (b) _ ) (fun e_ w_ h_ => ⟨_, h_.1, rfl, h_.2⟩))⟩
    refine stepsF_cons ?_ ?_
    · refine StepF.when 24 true 31 rfl rfl fun F_ w_ hR hout hD => ?_
      have g31 : F_ 31 = .bool true := hD.get 2 rfl rfl rfl
      have g34 : F_ 34 = blkV (moreB (a) (b)) := hD.get 0 rfl rfl rfl
      have g37 : F_ 37 = blkV (moreB (a) (b)) := hD.get 1 rfl rfl rfl
      exact ⟨g31, (y_sameR rfl g34 g37 (sameB_self _) ⟨rfl, Kept.refl _ _⟩)⟩
    refine stepsF_cons ?_ ?_
    · refine StepF.one rfl fun F_ w_ hR hout hD => ?_
      have g31 : F_ 31 = .bool true := hD.get 0 rfl rfl rfl
      have g38 : F_ 38 = .bool true := hD.get 1 rfl rfl rfl
      exact (y_pickT rfl g31 g38 ⟨rfl, Kept.refl _ _⟩)
    refine stepsF_cons ?_ ?_
    · refine StepF.one rfl fun F_ w_ hR hout hD => ?_
      have g39 : F_ 39 = .bool true := hD.get 0 rfl rfl rfl
      exact (y_asg rfl g39 ⟨rfl, Kept.refl _ _⟩)
    exact stepsF_nil
  intro v37 F38 w39 k40 G41 hF42
  have B43 := B26.all k40 id
  have B44 := B27.all k40 id
  have K45 := K28.trans k40 (fun _ _ x => x)
  have s46 : F38 0 = blkV (a) := (hF42 0).trans s31
  have s47 : F38 1 = blkV (b) := (hF42 1).trans s32
  have s48 : F38 2 = .pointer (some ⟨p1, 0, none⟩) := (hF42 2).trans s33
  have s49 : F38 3 = .pointer (some ⟨p8, 0, none⟩) := (hF42 3).trans s34
  have s50 : F38 5 = .bool true := (hF42 5).trans s36
  have s51 : F38 4 = .bool true := (hF42 4).trans (G41 33 (by decide))
  clear G41 hF42
  refine then_normal ?_
  refine wq_ret ?_
  exact end_tmp (v := .bool true) rfl s51 ⟨rfl, K45⟩

set_option maxHeartbeats 4000000 in
set_option maxRecDepth 100000 in
theorem back_walk (a : Nat → Int) (w0 : World) (hw : Waves w0) :
    Calls Tryd.prog 4 #[blkV (a)] w0 fun e w' => e = .returned (.bool true) ∧ Kept (fun _ => False) w0 w' := by
  refine calls_wq (args := [blkV (a)]) 25 Tryd.func4 rfl rfl (Nat.le_of_ble_eq_true rfl) ?_
  have K0 := Kept.refl (fun _ => False) w0
  refine wq_seq ?_
  refine wq_region ?_
  refine wl_box_blk rfl rfl rfl rfl fun p1 w2 e5 B3 k4 => ?_
  have lp6 : w0.heap.size ≤ p1 := by have h_ := K0.size; omega
  clear e5
  have K7 := K0.trans k4 (fun _ _ x => x)
  refine wl_v (.bool false) rfl rfl (y_asg rfl rfl ⟨rfl, rfl⟩) ?_
  refine wl_nil fun F8 hF9 => ?_
  have s10 : F8 0 = blkV (a) := (hF9 0).trans rfl
  have s11 : F8 1 = .pointer (some ⟨p1, 0, none⟩) := (hF9 1).trans rfl
  have s12 : F8 2 = .bool false := (hF9 2).trans rfl
  clear hF9
  refine then_normal ?_
  refine wq_seq ?_
  refine wq_region ?_
  refine wl_call (R := fun v_ w_ => v_ = .bool true ∧ Kept (fun _ => False) w2 w_) rfl rfl (y_cs rfl rfl rfl (fun _ _ => by kernel_rfl) (ev_func _) vsN (awake_any  _ (hw.all K7)) (fun e_ w_ h_ => ⟨_, h_.1, rfl, h_.2⟩)) ?_
  rintro _ w13 ⟨rfl, k14⟩
  have B15 := B3.all k14 id
  have K16 := K7.trans k14 (fun _ _ x => x)
  refine wl_v (.bool true) rfl rfl (y_asg rfl rfl ⟨rfl, rfl⟩) ?_
  refine wl_nil fun F17 hF18 => ?_
  have s19 : F17 0 = blkV (a) := (hF18 0).trans s10
  have s20 : F17 1 = .pointer (some ⟨p1, 0, none⟩) := (hF18 1).trans s11
  have s21 : F17 2 = .bool false := (hF18 2).trans s12
  have s22 : F17 3 = .bool true := (hF18 3).trans rfl
  clear hF18
  refine then_normal ?_
  refine wq_seq ?_
  refine wq_region ?_
  refine wl_v (blkV (a)) rfl rfl (y_load_blk blkT_arr rfl s20 B15 ⟨rfl, rfl⟩) ?_
  refine wl_call (R := fun v_ w_ => v_ = blkV (clB (32768) (a)) ∧ Kept (fun _ => False) w13 w_) rfl rfl (y_cs rfl rfl rfl (fun _ _ => by kernel_rfl) (ev_func _) (vsC rfl (vsC rfl vsN)) (law_clamped (a) (32768) _ (by omega)) (fun e_ w_ h_ => ⟨_, h_.1, rfl, h_.2⟩)) ?_
  rintro _ w23 ⟨rfl, k24⟩
  have B25 := B15.all k24 id
  have K26 := K16.trans k24 (fun _ _ x => x)
  refine wl_alloc_blk rfl rfl rfl blkT_block.2.2 fun p27 w28 e31 B29 k30 => ?_
  have ne32 : p1 ≠ p27 := by have h_ := B25.lt; omega
  have lp33 : w0.heap.size ≤ p27 := by have h_ := K26.size; omega
  clear e31
  have B34 := B25.all k30 id
  have K35 := K26.trans k30 (fun _ _ x => x)
  refine wl_store_blk blkT_block rfl rfl rfl rfl rfl B29 fun w36 B37 k38 => ?_
  have B39 := B34.all k38 ne32
  have K40 := K35.trans k38 (fun _ hi e => absurd (e ▸ hi) (Nat.not_lt.2 lp33))
  refine wl_nil fun F41 hF42 => ?_
  have s43 : F41 0 = blkV (a) := (hF42 0).trans s19
  have s44 : F41 1 = .pointer (some ⟨p1, 0, none⟩) := (hF42 1).trans s20
  have s45 : F41 2 = .bool false := (hF42 2).trans s21
  have s46 : F41 3 = .bool true := (hF42 3).trans s22
  have s47 : F41 4 = .pointer (some ⟨p27, 0, none⟩) := (hF42 4).trans rfl
  clear hF42
  refine then_normal ?_
  refine wq_seq ?_
  refine wq_said [some 8, some 9, some 10, some 11, some 12, some 13, some 14, some 15, some 16, some 17, some 18, some 19, some 20, some 21, some 22, some 23, some 24, some 2] [Pd.eq (.bool true), Pd.eq (.bool true), Pd.eq (blkV (clB (32768) (a))), Pd.eq (blkV (fwd (clB 1048576 (clB (32768) (a))))), Pd.eq (blkV (backB (fwd (clB 1048576 (clB (32768) (a)))))), Pd.eq (blkV (clB (32768) (a))), Pd.eq (.bool true), Pd.eq (.bool true), Pd.eq (.bool true), Pd.eq (blkV (clB (32768) (a))), Pd.eq (blkV (clB (32768) (a))), Pd.eq (blkV (moreB (clB (32768) (a)) (clB (32768) (a)))), Pd.eq (blkV (clB (32768) (a))), Pd.eq (blkV (lessB (moreB (clB (32768) (a)) (clB (32768) (a))) (clB (32768) (a)))), Pd.eq (blkV (clB (32768) (a))), Pd.eq (.bool true), Pd.eq (.bool true), Pd.eq (.bool true)] (by kernel_rfl) (by kernel_rfl) ?_ ?_
  · refine stepsF_cons ?_ ?_
    · refine StepF.one rfl fun F_ w_ hR hout hD => ?_
      exact (y_mov rfl ((hout 3 (by decide)).trans s46) ⟨rfl, Kept.refl _ _⟩)
    refine stepsF_cons ?_ ?_
    · refine StepF.one rfl fun F_ w_ hR hout hD => ?_
      have g8 : F_ 8 = .bool true := hD.get 0 rfl rfl rfl
      exact (y_mov rfl g8 ⟨rfl, Kept.refl _ _⟩)
    refine stepsF_cons ?_ ?_
    · refine StepF.when 1 true 9 rfl rfl fun F_ w_ hR hout hD => ?_
      have g9 : F_ 9 = .bool true := hD.get 0 rfl rfl rfl
      exact ⟨g9, (y_load_blk blkT_block rfl ((hout 4 (by decide)).trans s47) (B37.all hR id) ⟨rfl, Kept.refl _ _⟩)⟩
    refine stepsF_cons ?_ ?_
    · refine StepF.when 1 true 9 rfl rfl fun F_ w_ hR hout hD => ?_
      have g9 : F_ 9 = .bool true := hD.get 1 rfl rfl rfl
      have g10 : F_ 10 = blkV (clB (32768) (a)) := hD.get 0 rfl rfl rfl
      exact ⟨g9, (y_cs rfl rfl rfl (fun _ _ => by kernel_rfl) (ev_func _) (vsC g10 vsN) (forward_any (clB (32768) (a)) _ (hw.all (K40.trans hR (fun _ _ x => x)))) (fun e_ w_ h_ => ⟨_, h_.1, rfl, h_.2⟩))⟩
    refine stepsF_cons ?_ ?_
    · refine StepF.when 1 true 9 rfl rfl fun F_ w_ hR hout hD => ?_
      have g9 : F_ 9 = .bool true := hD.get 2 rfl rfl rfl
      have g11 : F_ 11 = blkV (fwd (clB 1048576 (clB (32768) (a)))) := hD.get 0 rfl rfl rfl
      exact ⟨g9, (y_cs rfl rfl rfl (fun _ _ => by kernel_rfl) (ev_func _) (vsC g11 vsN) (back_any (fwd (clB 1048576 (clB (32768) (a)))) _ (hw.all (K40.trans hR (fun _ _ x => x)))) (fun e_ w_ h_ => ⟨_, h_.1, rfl, h_.2⟩))⟩
    refine stepsF_cons ?_ ?_
    · refine StepF.when 1 true 9 rfl rfl fun F_ w_ hR hout hD => ?_
      have g9 : F_ 9 = .bool true := hD.get 0 rfl rfl rfl
      exact ⟨g9, (y_load_blk blkT_block rfl ((hout 4 (by decide)).trans s47) (B37.all hR id) ⟨rfl, Kept.refl _ _⟩)⟩
    refine stepsF_cons ?_ ?_
    · refine StepF.when 1 true 9 rfl rfl fun F_ w_ hR hout hD => ?_
      have g9 : F_ 9 = .bool true := hD.get 2 rfl rfl rfl
      have g12 : F_ 12 = blkV (backB (fwd (clB 1048576 (clB (32768) (a))))) := hD.get 0 rfl rfl rfl
      have g13 : F_ 13 = blkV (clB (32768) (a)) := hD.get 1 rfl rfl rfl
      exact ⟨g9, (y_sameR rfl g12 g13 (back_law a) ⟨rfl, Kept.refl _ _⟩)⟩
    refine stepsF_cons ?_ ?_
    · refine StepF.one rfl fun F_ w_ hR hout hD => ?_
      have g9 : F_ 9 = .bool true := hD.get 0 rfl rfl rfl
      have g14 : F_ 14 = .bool true := hD.get 1 rfl rfl rfl
      exact (y_pickT rfl g9 g14 ⟨rfl, Kept.refl _ _⟩)
    refine stepsF_cons ?_ ?_
    · refine StepF.one rfl fun F_ w_ hR hout hD => ?_
      have g15 : F_ 15 = .bool true := hD.get 0 rfl rfl rfl
      exact (y_mov rfl g15 ⟨rfl, Kept.refl _ _⟩)
    refine stepsF_cons ?_ ?_
    · refine StepF.when 8 true 16 rfl rfl fun F_ w_ hR hout hD => ?_
      have g16 : F_ 16 = .bool true := hD.get 0 rfl rfl rfl
      exact ⟨g16, (y_load_blk blkT_block rfl ((hout 4 (by decide)).trans s47) (B37.all hR id) ⟨rfl, Kept.refl _ _⟩)⟩
    refine stepsF_cons ?_ ?_
    · refine StepF.when 8 true 16 rfl rfl fun F_ w_ hR hout hD => ?_
      have g16 : F_ 16 = .bool true := hD.get 0 rfl rfl rfl
      exact ⟨g16, (y_load_blk blkT_block rfl ((hout 4 (by decide)).trans s47) (B37.all hR id) ⟨rfl, Kept.refl _ _⟩)⟩
    refine stepsF_cons ?_ ?_
    · refine StepF.when 8 true 16 rfl rfl fun F_ w_ hR hout hD => ?_
      have g16 : F_ 16 = .bool true := hD.get 2 rfl rfl rfl
      have g17 : F_ 17 = blkV (clB (32768) (a)) := hD.get 0 rfl rfl rfl
      have g18 : F_ 18 = blkV (clB (32768) (a)) := hD.get 1 rfl rfl rfl
      exact ⟨g16, (y_cs rfl rfl rfl (fun _ _ => by kernel_rfl) (ev_func _) (vsC g17 (vsC g18 vsN)) (more_any (clB (32768) (a)) (clB (32768) (a)) _ ) (fun e_ w_ h_ => ⟨_, h_.1, rfl, h_.2⟩))⟩
    refine stepsF_cons ?_ ?_
    · refine StepF.when 8 true 16 rfl rfl fun F_ w_ hR hout hD => ?_
      have g16 : F_ 16 = .bool true := hD.get 0 rfl rfl rfl
      exact ⟨g16, (y_load_blk blkT_block rfl ((hout 4 (by decide)).trans s47) (B37.all hR id) ⟨rfl, Kept.refl _ _⟩)⟩
    refine stepsF_cons ?_ ?_
    · refine StepF.when 8 true 16 rfl rfl fun F_ w_ hR hout hD => ?_
      have g16 : F_ 16 = .bool true := hD.get 3 rfl rfl rfl
      have g19 : F_ 19 = blkV (moreB (clB (32768) (a)) (clB (32768) (a))) := hD.get 0 rfl rfl rfl
      have g20 : F_ 20 = blkV (clB (32768) (a)) := hD.get 1 rfl rfl rfl
      exact ⟨g16, (y_cs rfl rfl rfl (fun _ _ => by kernel_rfl) (ev_func _) (vsC g19 (vsC g20 vsN)) (less_any (moreB (clB (32768) (a)) (clB (32768) (a))) (clB (32768) (a)) _ ) (fun e_ w_ h_ => ⟨_, h_.1, rfl, h_.2⟩))⟩
    refine stepsF_cons ?_ ?_
    · refine StepF.when 8 true 16 rfl rfl fun F_ w_ hR hout hD => ?_
      have g16 : F_ 16 = .bool true := hD.get 0 rfl rfl rfl
      exact ⟨g16, (y_load_blk blkT_block rfl ((hout 4 (by decide)).trans s47) (B37.all hR id) ⟨rfl, Kept.refl _ _⟩)⟩
    refine stepsF_cons ?_ ?_
    · refine StepF.when 8 true 16 rfl rfl fun F_ w_ hR hout hD => ?_
      have g16 : F_ 16 = .bool true := hD.get 2 rfl rfl rfl
      have g21 : F_ 21 = blkV (lessB (moreB (clB (32768) (a)) (clB (32768) (a))) (clB (32768) (a))) := hD.get 0 rfl rfl rfl
      have g22 : F_ 22 = blkV (clB (32768) (a)) := hD.get 1 rfl rfl rfl
      exact ⟨g16, (y_sameR rfl g21 g22 (less_law a) ⟨rfl, Kept.refl _ _⟩)⟩
    refine stepsF_cons ?_ ?_
    · refine StepF.one rfl fun F_ w_ hR hout hD => ?_
      have g16 : F_ 16 = .bool true := hD.get 0 rfl rfl rfl
      have g23 : F_ 23 = .bool true := hD.get 1 rfl rfl rfl
      exact (y_pickT rfl g16 g23 ⟨rfl, Kept.refl _ _⟩)
    refine stepsF_cons ?_ ?_
    · refine StepF.one rfl fun F_ w_ hR hout hD => ?_
      have g24 : F_ 24 = .bool true := hD.get 0 rfl rfl rfl
      exact (y_asg rfl g24 ⟨rfl, Kept.refl _ _⟩)
    exact stepsF_nil
  intro v48 F49 w50 k51 G52 hF53
  have B54 := B39.all k51 id
  have B55 := B37.all k51 id
  have K56 := K40.trans k51 (fun _ _ x => x)
  have s57 : F49 0 = blkV (a) := (hF53 0).trans s43
  have s58 : F49 1 = .pointer (some ⟨p1, 0, none⟩) := (hF53 1).trans s44
  have s59 : F49 3 = .bool true := (hF53 3).trans s46
  have s60 : F49 4 = .pointer (some ⟨p27, 0, none⟩) := (hF53 4).trans s47
  have s61 : F49 2 = .bool true := (hF53 2).trans (G52 17 (by decide))
  clear G52 hF53
  refine then_normal ?_
  refine wq_ret ?_
  exact end_tmp (v := .bool true) rfl s61 ⟨rfl, K56⟩

set_option maxHeartbeats 4000000 in
set_option maxRecDepth 100000 in
theorem near_walk (a : Nat → Int) (e : Nat) (d : Nat → Int) (w0 : World) (hw : Waves w0) (he : e < 256) :
    Calls Tryd.prog 5 #[blkV (a), .int .u8 (((e : Nat) : Int)), blkV (d)] w0 fun e w' => e = .returned (.bool true) ∧ Kept (fun _ => False) w0 w' := by
  refine calls_wq (args := [blkV (a), .int .u8 (((e : Nat) : Int)), blkV (d)]) 67 Tryd.func5 rfl rfl (Nat.le_of_ble_eq_true rfl) ?_
  have K0 := Kept.refl (fun _ => False) w0
  refine wq_seq ?_
  refine wq_region ?_
  refine wl_box_blk rfl rfl rfl rfl fun p1 w2 e5 B3 k4 => ?_
  have lp6 : w0.heap.size ≤ p1 := by have h_ := K0.size; omega
  clear e5
  have K7 := K0.trans k4 (fun _ _ x => x)
  refine wl_box_blk rfl rfl rfl rfl fun p8 w9 e12 B10 k11 => ?_
  have ne13 : p1 ≠ p8 := by have h_ := B3.lt; omega
  have lp14 : w0.heap.size ≤ p8 := by have h_ := K7.size; omega
  clear e12
  have B15 := B3.all k11 id
  have K16 := K7.trans k11 (fun _ _ x => x)
  refine wl_v (.bool false) rfl rfl (y_asg rfl rfl ⟨rfl, rfl⟩) ?_
  refine wl_nil fun F17 hF18 => ?_
  have s19 : F17 0 = blkV (a) := (hF18 0).trans rfl
  have s20 : F17 1 = .int .u8 (((e : Nat) : Int)) := (hF18 1).trans rfl
  have s21 : F17 2 = blkV (d) := (hF18 2).trans rfl
  have s22 : F17 3 = .pointer (some ⟨p1, 0, none⟩) := (hF18 3).trans rfl
  have s23 : F17 5 = .pointer (some ⟨p8, 0, none⟩) := (hF18 5).trans rfl
  have s24 : F17 6 = .bool false := (hF18 6).trans rfl
  clear hF18
  refine then_normal ?_
  refine wq_seq ?_
  refine wq_region ?_
  refine wl_call (R := fun v_ w_ => v_ = .bool true ∧ Kept (fun _ => False) w9 w_) rfl rfl (y_cs rfl rfl rfl (fun _ _ => by kernel_rfl) (ev_func _) vsN (awake_any  _ (hw.all K16)) (fun e_ w_ h_ => ⟨_, h_.1, rfl, h_.2⟩)) ?_
  rintro _ w25 ⟨rfl, k26⟩
  have B27 := B15.all k26 id
  have B28 := B10.all k26 id
  have K29 := K16.trans k26 (fun _ _ x => x)
  refine wl_v (.bool true) rfl rfl (y_asg rfl rfl ⟨rfl, rfl⟩) ?_
  refine wl_nil fun F30 hF31 => ?_
  have s32 : F30 0 = blkV (a) := (hF31 0).trans s19
  have s33 : F30 1 = .int .u8 (((e : Nat) : Int)) := (hF31 1).trans s20
  have s34 : F30 2 = blkV (d) := (hF31 2).trans s21
  have s35 : F30 3 = .pointer (some ⟨p1, 0, none⟩) := (hF31 3).trans s22
  have s36 : F30 5 = .pointer (some ⟨p8, 0, none⟩) := (hF31 5).trans s23
  have s37 : F30 6 = .bool false := (hF31 6).trans s24
  have s38 : F30 7 = .bool true := (hF31 7).trans rfl
  clear hF31
  refine then_normal ?_
  refine wq_seq ?_
  refine wq_region ?_
  refine wl_v (blkV (a)) rfl rfl (y_load_blk blkT_arr rfl s35 B27 ⟨rfl, rfl⟩) ?_
  refine wl_call (R := fun v_ w_ => v_ = blkV (clB (32768) (a)) ∧ Kept (fun _ => False) w25 w_) rfl rfl (y_cs rfl rfl rfl (fun _ _ => by kernel_rfl) (ev_func _) (vsC rfl (vsC rfl vsN)) (law_clamped (a) (32768) _ (by omega)) (fun e_ w_ h_ => ⟨_, h_.1, rfl, h_.2⟩)) ?_
  rintro _ w39 ⟨rfl, k40⟩
  have B41 := B27.all k40 id
  have B42 := B28.all k40 id
  have K43 := K29.trans k40 (fun _ _ x => x)
  refine wl_alloc_blk rfl rfl rfl blkT_block.2.2 fun p44 w45 e48 B46 k47 => ?_
  have ne49 : p1 ≠ p44 := by have h_ := B41.lt; omega
  have ne50 : p8 ≠ p44 := by have h_ := B42.lt; omega
  have lp51 : w0.heap.size ≤ p44 := by have h_ := K43.size; omega
  clear e48
  have B52 := B41.all k47 id
  have B53 := B42.all k47 id
  have K54 := K43.trans k47 (fun _ _ x => x)
  refine wl_store_blk blkT_block rfl rfl rfl rfl rfl B46 fun w55 B56 k57 => ?_
  have B58 := B52.all k57 ne49
  have B59 := B53.all k57 ne50
  have K60 := K54.trans k57 (fun _ hi e => absurd (e ▸ hi) (Nat.not_lt.2 lp51))
  refine wl_nil fun F61 hF62 => ?_
  have s63 : F61 0 = blkV (a) := (hF62 0).trans s32
  have s64 : F61 1 = .int .u8 (((e : Nat) : Int)) := (hF62 1).trans s33
  have s65 : F61 2 = blkV (d) := (hF62 2).trans s34
  have s66 : F61 3 = .pointer (some ⟨p1, 0, none⟩) := (hF62 3).trans s35
  have s67 : F61 5 = .pointer (some ⟨p8, 0, none⟩) := (hF62 5).trans s36
  have s68 : F61 6 = .bool false := (hF62 6).trans s37
  have s69 : F61 7 = .bool true := (hF62 7).trans s38
  have s70 : F61 8 = .pointer (some ⟨p44, 0, none⟩) := (hF62 8).trans rfl
  clear hF62
  refine then_normal ?_
  refine wq_seq ?_
  refine wq_region ?_
  refine wl_v (blkV (clB (32768) (a))) rfl rfl (y_load_blk blkT_block rfl s70 B56 ⟨rfl, rfl⟩) ?_
  refine wl_call (R := fun v_ w_ => v_ = blkV (fwd (clB 1048576 (clB (32768) (a)))) ∧ Kept (fun _ => False) w55 w_) rfl rfl (y_cs rfl rfl rfl (fun _ _ => by kernel_rfl) (ev_func _) (vsC rfl vsN) (forward_any (clB (32768) (a)) _ (hw.all K60)) (fun e_ w_ h_ => ⟨_, h_.1, rfl, h_.2⟩)) ?_
  rintro _ w71 ⟨rfl, k72⟩
  have B73 := B58.all k72 id
  have B74 := B59.all k72 id
  have B75 := B56.all k72 id
  have K76 := K60.trans k72 (fun _ _ x => x)
  refine wl_alloc_blk rfl rfl rfl blkT_block.2.2 fun p77 w78 e81 B79 k80 => ?_
  have ne82 : p1 ≠ p77 := by have h_ := B73.lt; omega
  have ne83 : p8 ≠ p77 := by have h_ := B74.lt; omega
  have ne84 : p44 ≠ p77 := by have h_ := B75.lt; omega
  have lp85 : w0.heap.size ≤ p77 := by have h_ := K76.size; omega
  clear e81
  have B86 := B73.all k80 id
  have B87 := B74.all k80 id
  have B88 := B75.all k80 id
  have K89 := K76.trans k80 (fun _ _ x => x)
  refine wl_store_blk blkT_block rfl rfl rfl rfl rfl B79 fun w90 B91 k92 => ?_
  have B93 := B86.all k92 ne82
  have B94 := B87.all k92 ne83
  have B95 := B88.all k92 ne84
  have K96 := K89.trans k92 (fun _ hi e => absurd (e ▸ hi) (Nat.not_lt.2 lp85))
  refine wl_nil fun F97 hF98 => ?_
  have s99 : F97 0 = blkV (a) := (hF98 0).trans s63
  have s100 : F97 1 = .int .u8 (((e : Nat) : Int)) := (hF98 1).trans s64
  have s101 : F97 2 = blkV (d) := (hF98 2).trans s65
  have s102 : F97 3 = .pointer (some ⟨p1, 0, none⟩) := (hF98 3).trans s66
  have s103 : F97 5 = .pointer (some ⟨p8, 0, none⟩) := (hF98 5).trans s67
  have s104 : F97 6 = .bool false := (hF98 6).trans s68
  have s105 : F97 7 = .bool true := (hF98 7).trans s69
  have s106 : F97 8 = .pointer (some ⟨p44, 0, none⟩) := (hF98 8).trans s70
  have s107 : F97 9 = .pointer (some ⟨p77, 0, none⟩) := (hF98 9).trans rfl
  clear hF98
  refine then_normal ?_
  refine wq_seq ?_
  refine wq_seq ?_
  refine wq_region ?_
  refine wl_v (.int .i64 (0)) rfl rfl (y_asg rfl rfl ⟨rfl, rfl⟩) ?_
  refine wl_nil fun F108 hF109 => ?_
  have s110 : F108 0 = blkV (a) := (hF109 0).trans s99
  have s111 : F108 1 = .int .u8 (((e : Nat) : Int)) := (hF109 1).trans s100
  have s112 : F108 2 = blkV (d) := (hF109 2).trans s101
  have s113 : F108 3 = .pointer (some ⟨p1, 0, none⟩) := (hF109 3).trans s102
  have s114 : F108 5 = .pointer (some ⟨p8, 0, none⟩) := (hF109 5).trans s103
  have s115 : F108 6 = .bool false := (hF109 6).trans s104
  have s116 : F108 7 = .bool true := (hF109 7).trans s105
  have s117 : F108 8 = .pointer (some ⟨p44, 0, none⟩) := (hF109 8).trans s106
  have s118 : F108 9 = .pointer (some ⟨p77, 0, none⟩) := (hF109 9).trans s107
  have s119 : F108 10 = .int .i64 (0) := (hF109 10).trans rfl
  clear hF109
  refine then_normal ?_
  refine wq_block ?_
  refine wq_loop (fun nn FF ww => ∃ (k : Nat), k ≤ 16 ∧ nn = 16 - k ∧ FF 0 = blkV (a) ∧ FF 1 = .int .u8 (((e : Nat) : Int)) ∧ FF 2 = blkV (d) ∧ FF 3 = .pointer (some ⟨p1, 0, none⟩) ∧ FF 5 = .pointer (some ⟨p8, 0, none⟩) ∧ FF 6 = .bool false ∧ FF 7 = .bool true ∧ FF 8 = .pointer (some ⟨p44, 0, none⟩) ∧ FF 9 = .pointer (some ⟨p77, 0, none⟩) ∧ FF 10 = .int .i64 (((k : Nat) : Int)) ∧ Kept (fun _ => False) w0 ww ∧ Blk ww p1 22 (a) ∧ Blk ww p8 22 (d) ∧ Blk ww p44 24 (clB (32768) (a)) ∧ Blk ww p77 24 (upto k (fwd (clB 1048576 (clB 32768 a))) (moved a e d))) (16 - (0)) ⟨0, by omega, rfl, s110, s111, s112, s113, s114, s115, s116, s117, s118, s119, K96, B93, B94, B95, B91.first⟩ ?_
  rintro n123 F120 w121 ⟨k, i124, hn123, s125, s126, s127, s128, s129, s130, s131, s132, s133, s134, K122, B135, B136, B137, B138⟩
  refine wq_seq ?_
  refine wq_seq ?_
  refine wq_region ?_
  refine wl_v (.int .i64 (((k : Nat) : Int))) rfl rfl (y_mov rfl s134 ⟨rfl, rfl⟩) ?_
  refine wl_v (.bool (decide ((((k : Nat) : Int)) < (16)))) rfl rfl (y_lss rfl rfl rfl rfl ⟨rfl, rfl⟩) ?_
  refine wl_nil fun F139 hF140 => ?_
  have s141 : F139 0 = blkV (a) := (hF140 0).trans s125
  have s142 : F139 1 = .int .u8 (((e : Nat) : Int)) := (hF140 1).trans s126
  have s143 : F139 2 = blkV (d) := (hF140 2).trans s127
  have s144 : F139 3 = .pointer (some ⟨p1, 0, none⟩) := (hF140 3).trans s128
  have s145 : F139 5 = .pointer (some ⟨p8, 0, none⟩) := (hF140 5).trans s129
  have s146 : F139 6 = .bool false := (hF140 6).trans s130
  have s147 : F139 7 = .bool true := (hF140 7).trans s131
  have s148 : F139 8 = .pointer (some ⟨p44, 0, none⟩) := (hF140 8).trans s132
  have s149 : F139 9 = .pointer (some ⟨p77, 0, none⟩) := (hF140 9).trans s133
  have s150 : F139 10 = .int .i64 (((k : Nat) : Int)) := (hF140 10).trans s134
  have s151 : F139 19 = .bool (decide ((((k : Nat) : Int)) < (16))) := (hF140 19).trans rfl
  clear hF140
  refine then_normal ?_
  refine wq_cond s151 (fun c152 => ?_) (fun c152 => ?_)
  · replace c152 := of_decide_eq_true c152
    refine wq_skip ?_
    refine then_normal ?_
    refine wq_seq ?_
    refine wq_block ?_
    have h1 := fwd15 a k
    have h2 := dd_le e d k
    refine wq_tail 16 [some 22, some 23, some 24, some 25, some 26, some 27, some 28, some 29, some 30, some 31, some 32, some 33, some 34, some 35, some 36, some 37] [Pd.eq (.int .i64 (((k : Nat) : Int))), Pd.eq (.int .i64 (((k : Nat) : Int))), Pd.eq (.pointer (some ⟨p77, k, none⟩)), Pd.eq (.int .i64 (fwd (clB 1048576 (clB 32768 a)) k)), Pd.eq (.int .i64 (((k : Nat) : Int))), Pd.eq (.pointer (some ⟨p8, k, none⟩)), Pd.eq (.int .i64 ((d) (k))), Pd.eq (.int .u8 (((e : Nat) : Int))), Pd.eq (.int .i64 (((e : Nat) : Int))), Pd.eq (.int .i64 (-(((e : Nat) : Int)))), Pd.eq (.int .i64 (max ((d) (k)) (-(((e : Nat) : Int))))), Pd.eq (.int .u8 (((e : Nat) : Int))), Pd.eq (.int .i64 (((e : Nat) : Int))), Pd.eq (.int .i64 (dd e d k)), Pd.eq (.int .i64 ((fwd (clB 1048576 (clB 32768 a)) k) + (dd e d k))), Pd.eq (.pointer (some ⟨p77, k, none⟩))] (by kernel_rfl) (by kernel_rfl) (by kernel_rfl) ?_ ?_
    · refine stepsF_cons ?_ ?_
      · refine StepF.one rfl fun F_ w_ hR hout hD => ?_
        exact (y_mov rfl ((hout 10 (by decide)).trans s150) ⟨rfl, Kept.refl _ _⟩)
      refine stepsF_cons ?_ ?_
      · refine StepF.one rfl fun F_ w_ hR hout hD => ?_
        exact (y_mov rfl ((hout 10 (by decide)).trans s150) ⟨rfl, Kept.refl _ _⟩)
      refine stepsF_cons ?_ ?_
      · refine StepF.one rfl fun F_ w_ hR hout hD => ?_
        have g23 : F_ 23 = .int .i64 (((k : Nat) : Int)) := hD.get 0 rfl rfl rfl
        exact (y_atR (k) (s := 1) rfl ((hout 9 (by decide)).trans s149) g23 (by omega) Tryd.underlying24 (by omega) (by kernel_rfl) (by omega) ⟨rfl, Kept.refl _ _⟩)
      refine stepsF_cons ?_ ?_
      · refine StepF.one rfl fun F_ w_ hR hout hD => ?_
        have g24 : F_ 24 = .pointer (some ⟨p77, k, none⟩) := hD.get 0 rfl rfl rfl
        exact (y_ldR rfl g24 Tryd.underlying3 ((((B138.all hR id)).cell (by omega)).trans (some_int (upto_at k _ _))) ⟨rfl, Kept.refl _ _⟩)
      refine stepsF_cons ?_ ?_
      · refine StepF.one rfl fun F_ w_ hR hout hD => ?_
        exact (y_mov rfl ((hout 10 (by decide)).trans s150) ⟨rfl, Kept.refl _ _⟩)
      refine stepsF_cons ?_ ?_
      · refine StepF.one rfl fun F_ w_ hR hout hD => ?_
        have g26 : F_ 26 = .int .i64 (((k : Nat) : Int)) := hD.get 0 rfl rfl rfl
        exact (y_atR (k) (s := 1) rfl ((hout 5 (by decide)).trans s145) g26 (by omega) Tryd.underlying22 (by omega) (by kernel_rfl) (by omega) ⟨rfl, Kept.refl _ _⟩)
      refine stepsF_cons ?_ ?_
      · refine StepF.one rfl fun F_ w_ hR hout hD => ?_
        have g27 : F_ 27 = .pointer (some ⟨p8, k, none⟩) := hD.get 0 rfl rfl rfl
        exact (y_ldR rfl g27 Tryd.underlying3 (((B136.all hR id)).cell (by omega)) ⟨rfl, Kept.refl _ _⟩)
      refine stepsF_cons ?_ ?_
      · refine StepF.one rfl fun F_ w_ hR hout hD => ?_
        exact (y_mov rfl ((hout 1 (by decide)).trans s142) ⟨rfl, Kept.refl _ _⟩)
      refine stepsF_cons ?_ ?_
      · refine StepF.one rfl fun F_ w_ hR hout hD => ?_
        have g29 : F_ 29 = .int .u8 (((e : Nat) : Int)) := hD.get 0 rfl rfl rfl
        exact (y_convR rfl g29 Tryd.underlying5 Tryd.underlying3 (i64_i rfl (by omega)) ⟨rfl, Kept.refl _ _⟩)
      refine stepsF_cons ?_ ?_
      · refine StepF.one rfl fun F_ w_ hR hout hD => ?_
        have g30 : F_ 30 = .int .i64 (((e : Nat) : Int)) := hD.get 0 rfl rfl rfl
        exact (y_neg rfl g30 (i64_i rfl (by omega)) ⟨rfl, Kept.refl _ _⟩)
      refine stepsF_cons ?_ ?_
      · refine StepF.one rfl fun F_ w_ hR hout hD => ?_
        have g28 : F_ 28 = .int .i64 ((d) (k)) := hD.get 0 rfl rfl rfl
        have g31 : F_ 31 = .int .i64 (-(((e : Nat) : Int))) := hD.get 1 rfl rfl rfl
        exact (y_maxR rfl g28 g31 rfl ⟨rfl, Kept.refl _ _⟩)
      refine stepsF_cons ?_ ?_
      · refine StepF.one rfl fun F_ w_ hR hout hD => ?_
        exact (y_mov rfl ((hout 1 (by decide)).trans s142) ⟨rfl, Kept.refl _ _⟩)
      refine stepsF_cons ?_ ?_
      · refine StepF.one rfl fun F_ w_ hR hout hD => ?_
        have g33 : F_ 33 = .int .u8 (((e : Nat) : Int)) := hD.get 0 rfl rfl rfl
        exact (y_convR rfl g33 Tryd.underlying5 Tryd.underlying3 (i64_i rfl (by omega)) ⟨rfl, Kept.refl _ _⟩)
      refine stepsF_cons ?_ ?_
      · refine StepF.one rfl fun F_ w_ hR hout hD => ?_
        have g32 : F_ 32 = .int .i64 (max ((d) (k)) (-(((e : Nat) : Int)))) := hD.get 0 rfl rfl rfl
        have g34 : F_ 34 = .int .i64 (((e : Nat) : Int)) := hD.get 1 rfl rfl rfl
        exact (y_minR rfl g32 g34 (rfl) ⟨rfl, Kept.refl _ _⟩)
      refine stepsF_cons ?_ ?_
      · refine StepF.one rfl fun F_ w_ hR hout hD => ?_
        have g25 : F_ 25 = .int .i64 (fwd (clB 1048576 (clB 32768 a)) k) := hD.get 0 rfl rfl rfl
        have g35 : F_ 35 = .int .i64 (dd e d k) := hD.get 1 rfl rfl rfl
        exact (y_add rfl g25 g35 (i64_i rfl (by omega)) ⟨rfl, Kept.refl _ _⟩)
      refine stepsF_cons ?_ ?_
      · refine StepF.one rfl fun F_ w_ hR hout hD => ?_
        have g22 : F_ 22 = .int .i64 (((k : Nat) : Int)) := hD.get 0 rfl rfl rfl
        exact (y_atR (k) (s := 1) rfl ((hout 9 (by decide)).trans s149) g22 (by omega) Tryd.underlying24 (by omega) (by kernel_rfl) (by omega) ⟨rfl, Kept.refl _ _⟩)
      exact stepsF_nil
    intro v153 F154 w155 k156 G157 hF158
    have B159 := B135.all k156 id
    have B160 := B136.all k156 id
    have B161 := B137.all k156 id
    have B162 := B138.all k156 id
    have K163 := K122.trans k156 (fun _ _ x => x)
    have s164 : F154 0 = blkV (a) := (hF158 0).trans s141
    have s165 : F154 1 = .int .u8 (((e : Nat) : Int)) := (hF158 1).trans s142
    have s166 : F154 2 = blkV (d) := (hF158 2).trans s143
    have s167 : F154 3 = .pointer (some ⟨p1, 0, none⟩) := (hF158 3).trans s144
    have s168 : F154 5 = .pointer (some ⟨p8, 0, none⟩) := (hF158 5).trans s145
    have s169 : F154 6 = .bool false := (hF158 6).trans s146
    have s170 : F154 7 = .bool true := (hF158 7).trans s147
    have s171 : F154 8 = .pointer (some ⟨p44, 0, none⟩) := (hF158 8).trans s148
    have s172 : F154 9 = .pointer (some ⟨p77, 0, none⟩) := (hF158 9).trans s149
    have s173 : F154 10 = .int .i64 (((k : Nat) : Int)) := (hF158 10).trans s150
    have s174 : F154 19 = .bool (decide ((((k : Nat) : Int)) < (16))) := (hF158 19).trans s151
    have s175 : F154 36 = .int .i64 ((fwd (clB 1048576 (clB 32768 a)) k) + (dd e d k)) := (hF158 36).trans (G157 14 (by decide))
    have s176 : F154 37 = .pointer (some ⟨p77, k, none⟩) := (hF158 37).trans (G157 15 (by decide))
    clear G157 hF158
    refine wl_set_blk rfl rfl rfl s176 s175 B162 (by omega) (by kernel_rfl) fun w177 B178 k179 => ?_
    have B180 := B159.all k179 ne82
    have B181 := B160.all k179 ne83
    have B182 := B161.all k179 ne84
    have K183 := K163.trans k179 (fun _ hi e => absurd (e ▸ hi) (Nat.not_lt.2 lp85))
    refine wl_nil fun F184 hF185 => ?_
    have s186 : F184 0 = blkV (a) := (hF185 0).trans s164
    have s187 : F184 1 = .int .u8 (((e : Nat) : Int)) := (hF185 1).trans s165
    have s188 : F184 2 = blkV (d) := (hF185 2).trans s166
    have s189 : F184 3 = .pointer (some ⟨p1, 0, none⟩) := (hF185 3).trans s167
    have s190 : F184 5 = .pointer (some ⟨p8, 0, none⟩) := (hF185 5).trans s168
    have s191 : F184 6 = .bool false := (hF185 6).trans s169
    have s192 : F184 7 = .bool true := (hF185 7).trans s170
    have s193 : F184 8 = .pointer (some ⟨p44, 0, none⟩) := (hF185 8).trans s171
    have s194 : F184 9 = .pointer (some ⟨p77, 0, none⟩) := (hF185 9).trans s172
    have s195 : F184 10 = .int .i64 (((k : Nat) : Int)) := (hF185 10).trans s173
    have s196 : F184 19 = .bool (decide ((((k : Nat) : Int)) < (16))) := (hF185 19).trans s174
    clear hF185
    refine in_normal ?_
    refine then_normal ?_
    refine wq_region ?_
    refine wl_v (.int .i64 (((k : Nat) : Int))) rfl rfl (y_mov rfl s195 ⟨rfl, rfl⟩) ?_
    refine wl_v (.int .i64 (((k + 1 : Nat) : Int))) rfl rfl (y_add rfl rfl rfl (i64_n (by omega) (by omega)) ⟨rfl, rfl⟩) ?_
    refine wl_v (.int .i64 (((k + 1 : Nat) : Int))) rfl rfl (y_asg rfl rfl ⟨rfl, rfl⟩) ?_
    refine wl_nil fun F197 hF198 => ?_
    have s199 : F197 0 = blkV (a) := (hF198 0).trans s186
    have s200 : F197 1 = .int .u8 (((e : Nat) : Int)) := (hF198 1).trans s187
    have s201 : F197 2 = blkV (d) := (hF198 2).trans s188
    have s202 : F197 3 = .pointer (some ⟨p1, 0, none⟩) := (hF198 3).trans s189
    have s203 : F197 5 = .pointer (some ⟨p8, 0, none⟩) := (hF198 5).trans s190
    have s204 : F197 6 = .bool false := (hF198 6).trans s191
    have s205 : F197 7 = .bool true := (hF198 7).trans s192
    have s206 : F197 8 = .pointer (some ⟨p44, 0, none⟩) := (hF198 8).trans s193
    have s207 : F197 9 = .pointer (some ⟨p77, 0, none⟩) := (hF198 9).trans s194
    have s208 : F197 19 = .bool (decide ((((k : Nat) : Int)) < (16))) := (hF198 19).trans s196
    have s209 : F197 10 = .int .i64 (((k + 1 : Nat) : Int)) := (hF198 10).trans rfl
    clear hF198
    exact then_normal ⟨(16 - (k + 1)), by omega, k + 1, by omega, rfl, s199, s200, s201, s202, s203, s204, s205, s206, s207, s209, K183, B180, B181, B182, (B178.next rfl)⟩
  · replace c152 := of_decide_eq_false c152
    refine wq_exit ?_
    refine then_exit ?_
    refine then_exit ?_
    have l210 : 16 = k := by omega
    subst l210
    have B211 : Blk w121 p77 24 (moved a e d) := (B138.last)
    refine in_here ?_
    refine then_normal ?_
    refine wq_seq ?_
    refine wq_region ?_
    refine wl_v (blkV (moved a e d)) rfl rfl (y_load_blk blkT_block rfl s149 B211 ⟨rfl, rfl⟩) ?_
    refine wl_call (R := fun v_ w_ => v_ = blkV (backB (moved a e d)) ∧ Kept (fun _ => False) w121 w_) rfl rfl (y_cs rfl rfl rfl (fun _ _ => by kernel_rfl) (ev_func _) (vsC rfl vsN) (back_any (moved a e d) _ (hw.all K122)) (fun e_ w_ h_ => ⟨_, h_.1, rfl, h_.2⟩)) ?_
    rintro _ w212 ⟨rfl, k213⟩
    have B214 := B135.all k213 id
    have B215 := B136.all k213 id
    have B216 := B137.all k213 id
    have B217 := B211.all k213 id
    have K218 := K122.trans k213 (fun _ _ x => x)
    refine wl_alloc_blk rfl rfl rfl blkT_block.2.2 fun p219 w220 e223 B221 k222 => ?_
    have ne224 : p1 ≠ p219 := by have h_ := B214.lt; omega
    have ne225 : p8 ≠ p219 := by have h_ := B215.lt; omega
    have ne226 : p44 ≠ p219 := by have h_ := B216.lt; omega
    have ne227 : p77 ≠ p219 := by have h_ := B217.lt; omega
    have lp228 : w0.heap.size ≤ p219 := by have h_ := K218.size; omega
    clear e223
    have B229 := B214.all k222 id
    have B230 := B215.all k222 id
    have B231 := B216.all k222 id
    have B232 := B217.all k222 id
    have K233 := K218.trans k222 (fun _ _ x => x)
    refine wl_store_blk blkT_block rfl rfl rfl rfl rfl B221 fun w234 B235 k236 => ?_
    have B237 := B229.all k236 ne224
    have B238 := B230.all k236 ne225
    have B239 := B231.all k236 ne226
    have B240 := B232.all k236 ne227
    have K241 := K233.trans k236 (fun _ hi e => absurd (e ▸ hi) (Nat.not_lt.2 lp228))
    refine wl_nil fun F242 hF243 => ?_
    have s244 : F242 0 = blkV (a) := (hF243 0).trans s141
    have s245 : F242 1 = .int .u8 (((e : Nat) : Int)) := (hF243 1).trans s142
    have s246 : F242 2 = blkV (d) := (hF243 2).trans s143
    have s247 : F242 3 = .pointer (some ⟨p1, 0, none⟩) := (hF243 3).trans s144
    have s248 : F242 5 = .pointer (some ⟨p8, 0, none⟩) := (hF243 5).trans s145
    have s249 : F242 6 = .bool false := (hF243 6).trans s146
    have s250 : F242 7 = .bool true := (hF243 7).trans s147
    have s251 : F242 8 = .pointer (some ⟨p44, 0, none⟩) := (hF243 8).trans s148
    have s252 : F242 9 = .pointer (some ⟨p77, 0, none⟩) := (hF243 9).trans s149
    have s253 : F242 10 = .int .i64 (((16 : Nat) : Int)) := (hF243 10).trans s150
    have s254 : F242 19 = .bool (decide ((((16 : Nat) : Int)) < (16))) := (hF243 19).trans s151
    have s255 : F242 11 = .pointer (some ⟨p219, 0, none⟩) := (hF243 11).trans rfl
    clear hF243
    refine then_normal ?_
    refine wq_seq ?_
    refine wq_seq ?_
    refine wq_region ?_
    refine wl_v (.int .i64 (0)) rfl rfl (y_asg rfl rfl ⟨rfl, rfl⟩) ?_
    refine wl_nil fun F256 hF257 => ?_
    have s258 : F256 0 = blkV (a) := (hF257 0).trans s244
    have s259 : F256 1 = .int .u8 (((e : Nat) : Int)) := (hF257 1).trans s245
    have s260 : F256 2 = blkV (d) := (hF257 2).trans s246
    have s261 : F256 3 = .pointer (some ⟨p1, 0, none⟩) := (hF257 3).trans s247
    have s262 : F256 5 = .pointer (some ⟨p8, 0, none⟩) := (hF257 5).trans s248
    have s263 : F256 6 = .bool false := (hF257 6).trans s249
    have s264 : F256 7 = .bool true := (hF257 7).trans s250
    have s265 : F256 8 = .pointer (some ⟨p44, 0, none⟩) := (hF257 8).trans s251
    have s266 : F256 9 = .pointer (some ⟨p77, 0, none⟩) := (hF257 9).trans s252
    have s267 : F256 10 = .int .i64 (((16 : Nat) : Int)) := (hF257 10).trans s253
    have s268 : F256 19 = .bool (decide ((((16 : Nat) : Int)) < (16))) := (hF257 19).trans s254
    have s269 : F256 11 = .pointer (some ⟨p219, 0, none⟩) := (hF257 11).trans s255
    have s270 : F256 12 = .int .i64 (0) := (hF257 12).trans rfl
    clear hF257
    refine then_normal ?_
    refine wq_block ?_
    refine wq_loop (fun nn FF ww => ∃ (i : Nat), i ≤ 16 ∧ nn = 16 - i ∧ FF 0 = blkV (a) ∧ FF 1 = .int .u8 (((e : Nat) : Int)) ∧ FF 2 = blkV (d) ∧ FF 3 = .pointer (some ⟨p1, 0, none⟩) ∧ FF 5 = .pointer (some ⟨p8, 0, none⟩) ∧ FF 7 = .bool true ∧ FF 8 = .pointer (some ⟨p44, 0, none⟩) ∧ FF 9 = .pointer (some ⟨p77, 0, none⟩) ∧ FF 10 = .int .i64 (((16 : Nat) : Int)) ∧ FF 11 = .pointer (some ⟨p219, 0, none⟩) ∧ FF 19 = .bool (decide ((((16 : Nat) : Int)) < (16))) ∧ FF 12 = .int .i64 (((i : Nat) : Int)) ∧ Kept (fun _ => False) w0 ww ∧ Blk ww p1 22 (a) ∧ Blk ww p8 22 (d) ∧ Blk ww p44 24 (clB (32768) (a)) ∧ Blk ww p77 24 (moved a e d) ∧ Blk ww p219 24 (backB (moved a e d))) (16 - (0)) ⟨0, by omega, rfl, s258, s259, s260, s261, s262, s264, s265, s266, s267, s269, s268, s270, K241, B237, B238, B239, B240, B235⟩ ?_
    rintro n274 F271 w272 ⟨i, i275, hn274, s276, s277, s278, s279, s280, s281, s282, s283, s284, s285, s286, s287, K273, B288, B289, B290, B291, B292⟩
    refine wq_seq ?_
    refine wq_seq ?_
    refine wq_region ?_
    refine wl_v (.int .i64 (((i : Nat) : Int))) rfl rfl (y_mov rfl s287 ⟨rfl, rfl⟩) ?_
    refine wl_v (.bool (decide ((((i : Nat) : Int)) < (16)))) rfl rfl (y_lss rfl rfl rfl rfl ⟨rfl, rfl⟩) ?_
    refine wl_nil fun F293 hF294 => ?_
    have s295 : F293 0 = blkV (a) := (hF294 0).trans s276
    have s296 : F293 1 = .int .u8 (((e : Nat) : Int)) := (hF294 1).trans s277
    have s297 : F293 2 = blkV (d) := (hF294 2).trans s278
    have s298 : F293 3 = .pointer (some ⟨p1, 0, none⟩) := (hF294 3).trans s279
    have s299 : F293 5 = .pointer (some ⟨p8, 0, none⟩) := (hF294 5).trans s280
    have s300 : F293 7 = .bool true := (hF294 7).trans s281
    have s301 : F293 8 = .pointer (some ⟨p44, 0, none⟩) := (hF294 8).trans s282
    have s302 : F293 9 = .pointer (some ⟨p77, 0, none⟩) := (hF294 9).trans s283
    have s303 : F293 10 = .int .i64 (((16 : Nat) : Int)) := (hF294 10).trans s284
    have s304 : F293 11 = .pointer (some ⟨p219, 0, none⟩) := (hF294 11).trans s285
    have s305 : F293 19 = .bool (decide ((((16 : Nat) : Int)) < (16))) := (hF294 19).trans s286
    have s306 : F293 12 = .int .i64 (((i : Nat) : Int)) := (hF294 12).trans s287
    have s307 : F293 41 = .bool (decide ((((i : Nat) : Int)) < (16))) := (hF294 41).trans rfl
    clear hF294
    refine then_normal ?_
    refine wq_cond s307 (fun c308 => ?_) (fun c308 => ?_)
    · replace c308 := of_decide_eq_true c308
      refine wq_skip ?_
      refine then_normal ?_
      refine wq_seq ?_
      refine wq_block ?_
      refine wq_seq ?_
      have h1 := clB_at 32768 (by omega) a i
      have h2 := near_law a e he d i (by omega)
      refine wq_said [some 44, some 45, some 46, some 47, some 48, some 49, some 50, some 51, some 52, some 53, some 54, some 55, some 56, some 57, some 58, some 59, some 60, some 61, some 62, some 63, some 64, some 65] [Pd.eq (.int .i64 (((i : Nat) : Int))), Pd.eq (.pointer (some ⟨p219, i, none⟩)), Pd.eq (.int .i64 ((backB (moved a e d)) (i))), Pd.eq (.int .i64 (((i : Nat) : Int))), Pd.eq (.pointer (some ⟨p44, i, none⟩)), Pd.eq (.int .i64 ((clB (32768) (a)) (i))), Pd.eq (.int .i64 (((backB (moved a e d)) (i)) - ((clB (32768) (a)) (i)))), Pd.eq (.int .u8 (((e : Nat) : Int))), Pd.eq (.int .i64 (((e : Nat) : Int))), Pd.eq (.bool false), Pd.eq (.bool false), Pd.eq (.int .i64 (((i : Nat) : Int))), Pd.eq (.pointer (some ⟨p44, i, none⟩)), Pd.eq (.int .i64 ((clB (32768) (a)) (i))), Pd.eq (.int .i64 (((i : Nat) : Int))), Pd.eq (.pointer (some ⟨p219, i, none⟩)), Pd.eq (.int .i64 ((backB (moved a e d)) (i))), Pd.eq (.int .i64 (((clB (32768) (a)) (i)) - ((backB (moved a e d)) (i)))), Pd.eq (.int .u8 (((e : Nat) : Int))), Pd.eq (.int .i64 (((e : Nat) : Int))), Pd.eq (.bool false), Pd.eq (.bool false)] (by kernel_rfl) (by kernel_rfl) ?_ ?_
      · refine stepsF_cons ?_ ?_
        · refine StepF.one rfl fun F_ w_ hR hout hD => ?_
          exact (y_mov rfl ((hout 12 (by decide)).trans s306) ⟨rfl, Kept.refl _ _⟩)
        refine stepsF_cons ?_ ?_
        · refine StepF.one rfl fun F_ w_ hR hout hD => ?_
          have g44 : F_ 44 = .int .i64 (((i : Nat) : Int)) := hD.get 0 rfl rfl rfl
          exact (y_atR (i) (s := 1) rfl ((hout 11 (by decide)).trans s304) g44 (by omega) Tryd.underlying24 (by omega) (by kernel_rfl) (by omega) ⟨rfl, Kept.refl _ _⟩)
        refine stepsF_cons ?_ ?_
        · refine StepF.one rfl fun F_ w_ hR hout hD => ?_
          have g45 : F_ 45 = .pointer (some ⟨p219, i, none⟩) := hD.get 0 rfl rfl rfl
          exact (y_ldR rfl g45 Tryd.underlying3 (((B292.all hR id)).cell (by omega)) ⟨rfl, Kept.refl _ _⟩)
        refine stepsF_cons ?_ ?_
        · refine StepF.one rfl fun F_ w_ hR hout hD => ?_
          exact (y_mov rfl ((hout 12 (by decide)).trans s306) ⟨rfl, Kept.refl _ _⟩)
        refine stepsF_cons ?_ ?_
        · refine StepF.one rfl fun F_ w_ hR hout hD => ?_
          have g47 : F_ 47 = .int .i64 (((i : Nat) : Int)) := hD.get 0 rfl rfl rfl
          exact (y_atR (i) (s := 1) rfl ((hout 8 (by decide)).trans s301) g47 (by omega) Tryd.underlying24 (by omega) (by kernel_rfl) (by omega) ⟨rfl, Kept.refl _ _⟩)
        refine stepsF_cons ?_ ?_
        · refine StepF.one rfl fun F_ w_ hR hout hD => ?_
          have g48 : F_ 48 = .pointer (some ⟨p44, i, none⟩) := hD.get 0 rfl rfl rfl
          exact (y_ldR rfl g48 Tryd.underlying3 (((B290.all hR id)).cell (by omega)) ⟨rfl, Kept.refl _ _⟩)
        refine stepsF_cons ?_ ?_
        · refine StepF.one rfl fun F_ w_ hR hout hD => ?_
          have g46 : F_ 46 = .int .i64 ((backB (moved a e d)) (i)) := hD.get 0 rfl rfl rfl
          have g49 : F_ 49 = .int .i64 ((clB (32768) (a)) (i)) := hD.get 1 rfl rfl rfl
          exact (y_sub rfl g46 g49 (i64_i rfl (by omega)) ⟨rfl, Kept.refl _ _⟩)
        refine stepsF_cons ?_ ?_
        · refine StepF.one rfl fun F_ w_ hR hout hD => ?_
          exact (y_mov rfl ((hout 1 (by decide)).trans s296) ⟨rfl, Kept.refl _ _⟩)
        refine stepsF_cons ?_ ?_
        · refine StepF.one rfl fun F_ w_ hR hout hD => ?_
          have g51 : F_ 51 = .int .u8 (((e : Nat) : Int)) := hD.get 0 rfl rfl rfl
          exact (y_convR rfl g51 Tryd.underlying5 Tryd.underlying3 (i64_i rfl (by omega)) ⟨rfl, Kept.refl _ _⟩)
        refine stepsF_cons ?_ ?_
        · refine StepF.one rfl fun F_ w_ hR hout hD => ?_
          have g50 : F_ 50 = .int .i64 (((backB (moved a e d)) (i)) - ((clB (32768) (a)) (i))) := hD.get 0 rfl rfl rfl
          have g52 : F_ 52 = .int .i64 (((e : Nat) : Int)) := hD.get 1 rfl rfl rfl
          exact (y_gtr rfl g50 g52 (decide_eq_false (by omega)) ⟨rfl, Kept.refl _ _⟩)
        refine stepsF_cons ?_ ?_
        · refine StepF.one rfl fun F_ w_ hR hout hD => ?_
          have g53 : F_ 53 = .bool false := hD.get 0 rfl rfl rfl
          exact (y_mov rfl g53 ⟨rfl, Kept.refl _ _⟩)
        refine stepsF_cons ?_ ?_
        · refine StepF.when 10 false 54 rfl rfl fun F_ w_ hR hout hD => ?_
          have g54 : F_ 54 = .bool false := hD.get 0 rfl rfl rfl
          exact ⟨g54, (y_mov rfl ((hout 12 (by decide)).trans s306) ⟨rfl, Kept.refl _ _⟩)⟩
        refine stepsF_cons ?_ ?_
        · refine StepF.when 10 false 54 rfl rfl fun F_ w_ hR hout hD => ?_
          have g54 : F_ 54 = .bool false := hD.get 1 rfl rfl rfl
          have g55 : F_ 55 = .int .i64 (((i : Nat) : Int)) := hD.get 0 rfl rfl rfl
          exact ⟨g54, (y_atR (i) (s := 1) rfl ((hout 8 (by decide)).trans s301) g55 (by omega) Tryd.underlying24 (by omega) (by kernel_rfl) (by omega) ⟨rfl, Kept.refl _ _⟩)⟩
        refine stepsF_cons ?_ ?_
        · refine StepF.when 10 false 54 rfl rfl fun F_ w_ hR hout hD => ?_
          have g54 : F_ 54 = .bool false := hD.get 1 rfl rfl rfl
          have g56 : F_ 56 = .pointer (some ⟨p44, i, none⟩) := hD.get 0 rfl rfl rfl
          exact ⟨g54, (y_ldR rfl g56 Tryd.underlying3 (((B290.all hR id)).cell (by omega)) ⟨rfl, Kept.refl _ _⟩)⟩
        refine stepsF_cons ?_ ?_
        · refine StepF.when 10 false 54 rfl rfl fun F_ w_ hR hout hD => ?_
          have g54 : F_ 54 = .bool false := hD.get 0 rfl rfl rfl
          exact ⟨g54, (y_mov rfl ((hout 12 (by decide)).trans s306) ⟨rfl, Kept.refl _ _⟩)⟩
        refine stepsF_cons ?_ ?_
        · refine StepF.when 10 false 54 rfl rfl fun F_ w_ hR hout hD => ?_
          have g54 : F_ 54 = .bool false := hD.get 1 rfl rfl rfl
          have g58 : F_ 58 = .int .i64 (((i : Nat) : Int)) := hD.get 0 rfl rfl rfl
          exact ⟨g54, (y_atR (i) (s := 1) rfl ((hout 11 (by decide)).trans s304) g58 (by omega) Tryd.underlying24 (by omega) (by kernel_rfl) (by omega) ⟨rfl, Kept.refl _ _⟩)⟩
        refine stepsF_cons ?_ ?_
        · refine StepF.when 10 false 54 rfl rfl fun F_ w_ hR hout hD => ?_
          have g54 : F_ 54 = .bool false := hD.get 1 rfl rfl rfl
          have g59 : F_ 59 = .pointer (some ⟨p219, i, none⟩) := hD.get 0 rfl rfl rfl
          exact ⟨g54, (y_ldR rfl g59 Tryd.underlying3 (((B292.all hR id)).cell (by omega)) ⟨rfl, Kept.refl _ _⟩)⟩
        refine stepsF_cons ?_ ?_
        · refine StepF.when 10 false 54 rfl rfl fun F_ w_ hR hout hD => ?_
          have g54 : F_ 54 = .bool false := hD.get 2 rfl rfl rfl
          have g57 : F_ 57 = .int .i64 ((clB (32768) (a)) (i)) := hD.get 0 rfl rfl rfl
          have g60 : F_ 60 = .int .i64 ((backB (moved a e d)) (i)) := hD.get 1 rfl rfl rfl
          exact ⟨g54, (y_sub rfl g57 g60 (i64_i rfl (by omega)) ⟨rfl, Kept.refl _ _⟩)⟩
        refine stepsF_cons ?_ ?_
        · refine StepF.when 10 false 54 rfl rfl fun F_ w_ hR hout hD => ?_
          have g54 : F_ 54 = .bool false := hD.get 0 rfl rfl rfl
          exact ⟨g54, (y_mov rfl ((hout 1 (by decide)).trans s296) ⟨rfl, Kept.refl _ _⟩)⟩
        refine stepsF_cons ?_ ?_
        · refine StepF.when 10 false 54 rfl rfl fun F_ w_ hR hout hD => ?_
          have g54 : F_ 54 = .bool false := hD.get 1 rfl rfl rfl
          have g62 : F_ 62 = .int .u8 (((e : Nat) : Int)) := hD.get 0 rfl rfl rfl
          exact ⟨g54, (y_convR rfl g62 Tryd.underlying5 Tryd.underlying3 (i64_i rfl (by omega)) ⟨rfl, Kept.refl _ _⟩)⟩
        refine stepsF_cons ?_ ?_
        · refine StepF.when 10 false 54 rfl rfl fun F_ w_ hR hout hD => ?_
          have g54 : F_ 54 = .bool false := hD.get 2 rfl rfl rfl
          have g61 : F_ 61 = .int .i64 (((clB (32768) (a)) (i)) - ((backB (moved a e d)) (i))) := hD.get 0 rfl rfl rfl
          have g63 : F_ 63 = .int .i64 (((e : Nat) : Int)) := hD.get 1 rfl rfl rfl
          exact ⟨g54, (y_gtr rfl g61 g63 (decide_eq_false (by omega)) ⟨rfl, Kept.refl _ _⟩)⟩
        refine stepsF_cons ?_ ?_
        · refine StepF.one rfl fun F_ w_ hR hout hD => ?_
          have g54 : F_ 54 = .bool false := hD.get 0 rfl rfl rfl
          have g64 : F_ 64 = .bool false := hD.get 1 rfl rfl rfl
          exact (y_pickF rfl g54 g64 ⟨rfl, Kept.refl _ _⟩)
        exact stepsF_nil
      intro v309 F310 w311 k312 G313 hF314
      have B315 := B288.all k312 id
      have B316 := B289.all k312 id
      have B317 := B290.all k312 id
      have B318 := B291.all k312 id
      have B319 := B292.all k312 id
      have K320 := K273.trans k312 (fun _ _ x => x)
      have s321 : F310 0 = blkV (a) := (hF314 0).trans s295
      have s322 : F310 1 = .int .u8 (((e : Nat) : Int)) := (hF314 1).trans s296
      have s323 : F310 2 = blkV (d) := (hF314 2).trans s297
      have s324 : F310 3 = .pointer (some ⟨p1, 0, none⟩) := (hF314 3).trans s298
      have s325 : F310 5 = .pointer (some ⟨p8, 0, none⟩) := (hF314 5).trans s299
      have s326 : F310 7 = .bool true := (hF314 7).trans s300
      have s327 : F310 8 = .pointer (some ⟨p44, 0, none⟩) := (hF314 8).trans s301
      have s328 : F310 9 = .pointer (some ⟨p77, 0, none⟩) := (hF314 9).trans s302
      have s329 : F310 10 = .int .i64 (((16 : Nat) : Int)) := (hF314 10).trans s303
      have s330 : F310 11 = .pointer (some ⟨p219, 0, none⟩) := (hF314 11).trans s304
      have s331 : F310 19 = .bool (decide ((((16 : Nat) : Int)) < (16))) := (hF314 19).trans s305
      have s332 : F310 12 = .int .i64 (((i : Nat) : Int)) := (hF314 12).trans s306
      have s333 : F310 41 = .bool (decide ((((i : Nat) : Int)) < (16))) := (hF314 41).trans s307
      have s334 : F310 65 = .bool false := (hF314 65).trans (G313 21 (by decide))
      clear G313 hF314
      refine then_normal ?_
      refine wq_cond (t := false) s334 (fun e => by cases e) (fun _ => ?_)
      refine wq_skip ?_
      refine in_normal ?_
      refine then_normal ?_
      refine wq_region ?_
      refine wl_v (.int .i64 (((i : Nat) : Int))) rfl rfl (y_mov rfl s332 ⟨rfl, rfl⟩) ?_
      refine wl_v (.int .i64 (((i + 1 : Nat) : Int))) rfl rfl (y_add rfl rfl rfl (i64_n (by omega) (by omega)) ⟨rfl, rfl⟩) ?_
      refine wl_v (.int .i64 (((i + 1 : Nat) : Int))) rfl rfl (y_asg rfl rfl ⟨rfl, rfl⟩) ?_
      refine wl_nil fun F335 hF336 => ?_
      have s337 : F335 0 = blkV (a) := (hF336 0).trans s321
      have s338 : F335 1 = .int .u8 (((e : Nat) : Int)) := (hF336 1).trans s322
      have s339 : F335 2 = blkV (d) := (hF336 2).trans s323
      have s340 : F335 3 = .pointer (some ⟨p1, 0, none⟩) := (hF336 3).trans s324
      have s341 : F335 5 = .pointer (some ⟨p8, 0, none⟩) := (hF336 5).trans s325
      have s342 : F335 7 = .bool true := (hF336 7).trans s326
      have s343 : F335 8 = .pointer (some ⟨p44, 0, none⟩) := (hF336 8).trans s327
      have s344 : F335 9 = .pointer (some ⟨p77, 0, none⟩) := (hF336 9).trans s328
      have s345 : F335 10 = .int .i64 (((16 : Nat) : Int)) := (hF336 10).trans s329
      have s346 : F335 11 = .pointer (some ⟨p219, 0, none⟩) := (hF336 11).trans s330
      have s347 : F335 19 = .bool (decide ((((16 : Nat) : Int)) < (16))) := (hF336 19).trans s331
      have s348 : F335 41 = .bool (decide ((((i : Nat) : Int)) < (16))) := (hF336 41).trans s333
      have s349 : F335 65 = .bool false := (hF336 65).trans s334
      have s350 : F335 12 = .int .i64 (((i + 1 : Nat) : Int)) := (hF336 12).trans rfl
      clear hF336
      exact then_normal ⟨(16 - (i + 1)), by omega, i + 1, by omega, rfl, s337, s338, s339, s340, s341, s342, s343, s344, s345, s346, s347, s350, K320, B315, B316, B317, B318, B319⟩
    · replace c308 := of_decide_eq_false c308
      refine wq_exit ?_
      refine then_exit ?_
      refine then_exit ?_
      have l351 : 16 = i := by omega
      subst l351
      refine in_here ?_
      refine then_normal ?_
      refine wq_seq ?_
      refine wq_region ?_
      refine wl_v (.bool true) rfl rfl (y_mov rfl s300 ⟨rfl, rfl⟩) ?_
      refine wl_v (.bool true) rfl rfl (y_asg rfl rfl ⟨rfl, rfl⟩) ?_
      refine wl_nil fun F352 hF353 => ?_
      have s354 : F352 0 = blkV (a) := (hF353 0).trans s295
      have s355 : F352 1 = .int .u8 (((e : Nat) : Int)) := (hF353 1).trans s296
      have s356 : F352 2 = blkV (d) := (hF353 2).trans s297
      have s357 : F352 3 = .pointer (some ⟨p1, 0, none⟩) := (hF353 3).trans s298
      have s358 : F352 5 = .pointer (some ⟨p8, 0, none⟩) := (hF353 5).trans s299
      have s359 : F352 7 = .bool true := (hF353 7).trans s300
      have s360 : F352 8 = .pointer (some ⟨p44, 0, none⟩) := (hF353 8).trans s301
      have s361 : F352 9 = .pointer (some ⟨p77, 0, none⟩) := (hF353 9).trans s302
      have s362 : F352 10 = .int .i64 (((16 : Nat) : Int)) := (hF353 10).trans s303
      have s363 : F352 11 = .pointer (some ⟨p219, 0, none⟩) := (hF353 11).trans s304
      have s364 : F352 19 = .bool (decide ((((16 : Nat) : Int)) < (16))) := (hF353 19).trans s305
      have s365 : F352 12 = .int .i64 (((16 : Nat) : Int)) := (hF353 12).trans s306
      have s366 : F352 41 = .bool (decide ((((16 : Nat) : Int)) < (16))) := (hF353 41).trans s307
      have s367 : F352 6 = .bool true := (hF353 6).trans rfl
      clear hF353
      refine then_normal ?_
      refine wq_ret ?_
      exact end_tmp (v := .bool true) rfl s367 ⟨rfl, K273⟩

set_option maxHeartbeats 4000000 in
set_option maxRecDepth 100000 in
theorem adds_walk (a b : Nat → Int) (w0 : World) (hw : Waves w0) :
    Calls Tryd.prog 6 #[blkV (a), blkV (b)] w0 fun e w' => e = .returned (.bool true) ∧ Kept (fun _ => False) w0 w' := by
  refine calls_wq (args := [blkV (a), blkV (b)]) 55 Tryd.func6 rfl rfl (Nat.le_of_ble_eq_true rfl) ?_
  have K0 := Kept.refl (fun _ => False) w0
  refine wq_seq ?_
  refine wq_region ?_
  refine wl_box_blk rfl rfl rfl rfl fun p1 w2 e5 B3 k4 => ?_
  have lp6 : w0.heap.size ≤ p1 := by have h_ := K0.size; omega
  clear e5
  have K7 := K0.trans k4 (fun _ _ x => x)
  refine wl_box_blk rfl rfl rfl rfl fun p8 w9 e12 B10 k11 => ?_
  have ne13 : p1 ≠ p8 := by have h_ := B3.lt; omega
  have lp14 : w0.heap.size ≤ p8 := by have h_ := K7.size; omega
  clear e12
  have B15 := B3.all k11 id
  have K16 := K7.trans k11 (fun _ _ x => x)
  refine wl_v (.bool false) rfl rfl (y_asg rfl rfl ⟨rfl, rfl⟩) ?_
  refine wl_nil fun F17 hF18 => ?_
  have s19 : F17 0 = blkV (a) := (hF18 0).trans rfl
  have s20 : F17 1 = blkV (b) := (hF18 1).trans rfl
  have s21 : F17 2 = .pointer (some ⟨p1, 0, none⟩) := (hF18 2).trans rfl
  have s22 : F17 3 = .pointer (some ⟨p8, 0, none⟩) := (hF18 3).trans rfl
  have s23 : F17 4 = .bool false := (hF18 4).trans rfl
  clear hF18
  refine then_normal ?_
  refine wq_seq ?_
  refine wq_region ?_
  refine wl_call (R := fun v_ w_ => v_ = .bool true ∧ Kept (fun _ => False) w9 w_) rfl rfl (y_cs rfl rfl rfl (fun _ _ => by kernel_rfl) (ev_func _) vsN (awake_any  _ (hw.all K16)) (fun e_ w_ h_ => ⟨_, h_.1, rfl, h_.2⟩)) ?_
  rintro _ w24 ⟨rfl, k25⟩
  have B26 := B15.all k25 id
  have B27 := B10.all k25 id
  have K28 := K16.trans k25 (fun _ _ x => x)
  refine wl_v (.bool true) rfl rfl (y_asg rfl rfl ⟨rfl, rfl⟩) ?_
  refine wl_nil fun F29 hF30 => ?_
  have s31 : F29 0 = blkV (a) := (hF30 0).trans s19
  have s32 : F29 1 = blkV (b) := (hF30 1).trans s20
  have s33 : F29 2 = .pointer (some ⟨p1, 0, none⟩) := (hF30 2).trans s21
  have s34 : F29 3 = .pointer (some ⟨p8, 0, none⟩) := (hF30 3).trans s22
  have s35 : F29 4 = .bool false := (hF30 4).trans s23
  have s36 : F29 5 = .bool true := (hF30 5).trans rfl
  clear hF30
  refine then_normal ?_
  refine wq_seq ?_
  refine wq_region ?_
  refine wl_v (blkV (a)) rfl rfl (y_load_blk blkT_arr rfl s33 B26 ⟨rfl, rfl⟩) ?_
  refine wl_call (R := fun v_ w_ => v_ = blkV (clB (2048) (a)) ∧ Kept (fun _ => False) w24 w_) rfl rfl (y_cs rfl rfl rfl (fun _ _ => by kernel_rfl) (ev_func _) (vsC rfl (vsC rfl vsN)) (law_clamped (a) (2048) _ (by omega)) (fun e_ w_ h_ => ⟨_, h_.1, rfl, h_.2⟩)) ?_
  rintro _ w37 ⟨rfl, k38⟩
  have B39 := B26.all k38 id
  have B40 := B27.all k38 id
  have K41 := K28.trans k38 (fun _ _ x => x)
  refine wl_alloc_blk rfl rfl rfl blkT_block.2.2 fun p42 w43 e46 B44 k45 => ?_
  have ne47 : p1 ≠ p42 := by have h_ := B39.lt; omega
  have ne48 : p8 ≠ p42 := by have h_ := B40.lt; omega
  have lp49 : w0.heap.size ≤ p42 := by have h_ := K41.size; omega
  clear e46
  have B50 := B39.all k45 id
  have B51 := B40.all k45 id
  have K52 := K41.trans k45 (fun _ _ x => x)
  refine wl_store_blk blkT_block rfl rfl rfl rfl rfl B44 fun w53 B54 k55 => ?_
  have B56 := B50.all k55 ne47
  have B57 := B51.all k55 ne48
  have K58 := K52.trans k55 (fun _ hi e => absurd (e ▸ hi) (Nat.not_lt.2 lp49))
  refine wl_nil fun F59 hF60 => ?_
  have s61 : F59 0 = blkV (a) := (hF60 0).trans s31
  have s62 : F59 1 = blkV (b) := (hF60 1).trans s32
  have s63 : F59 2 = .pointer (some ⟨p1, 0, none⟩) := (hF60 2).trans s33
  have s64 : F59 3 = .pointer (some ⟨p8, 0, none⟩) := (hF60 3).trans s34
  have s65 : F59 4 = .bool false := (hF60 4).trans s35
  have s66 : F59 5 = .bool true := (hF60 5).trans s36
  have s67 : F59 6 = .pointer (some ⟨p42, 0, none⟩) := (hF60 6).trans rfl
  clear hF60
  refine then_normal ?_
  refine wq_seq ?_
  refine wq_region ?_
  refine wl_v (blkV (b)) rfl rfl (y_load_blk blkT_arr rfl s64 B57 ⟨rfl, rfl⟩) ?_
  refine wl_call (R := fun v_ w_ => v_ = blkV (clB (2048) (b)) ∧ Kept (fun _ => False) w53 w_) rfl rfl (y_cs rfl rfl rfl (fun _ _ => by kernel_rfl) (ev_func _) (vsC rfl (vsC rfl vsN)) (law_clamped (b) (2048) _ (by omega)) (fun e_ w_ h_ => ⟨_, h_.1, rfl, h_.2⟩)) ?_
  rintro _ w68 ⟨rfl, k69⟩
  have B70 := B56.all k69 id
  have B71 := B57.all k69 id
  have B72 := B54.all k69 id
  have K73 := K58.trans k69 (fun _ _ x => x)
  refine wl_alloc_blk rfl rfl rfl blkT_block.2.2 fun p74 w75 e78 B76 k77 => ?_
  have ne79 : p1 ≠ p74 := by have h_ := B70.lt; omega
  have ne80 : p8 ≠ p74 := by have h_ := B71.lt; omega
  have ne81 : p42 ≠ p74 := by have h_ := B72.lt; omega
  have lp82 : w0.heap.size ≤ p74 := by have h_ := K73.size; omega
  clear e78
  have B83 := B70.all k77 id
  have B84 := B71.all k77 id
  have B85 := B72.all k77 id
  have K86 := K73.trans k77 (fun _ _ x => x)
  refine wl_store_blk blkT_block rfl rfl rfl rfl rfl B76 fun w87 B88 k89 => ?_
  have B90 := B83.all k89 ne79
  have B91 := B84.all k89 ne80
  have B92 := B85.all k89 ne81
  have K93 := K86.trans k89 (fun _ hi e => absurd (e ▸ hi) (Nat.not_lt.2 lp82))
  refine wl_nil fun F94 hF95 => ?_
  have s96 : F94 0 = blkV (a) := (hF95 0).trans s61
  have s97 : F94 1 = blkV (b) := (hF95 1).trans s62
  have s98 : F94 2 = .pointer (some ⟨p1, 0, none⟩) := (hF95 2).trans s63
  have s99 : F94 3 = .pointer (some ⟨p8, 0, none⟩) := (hF95 3).trans s64
  have s100 : F94 4 = .bool false := (hF95 4).trans s65
  have s101 : F94 5 = .bool true := (hF95 5).trans s66
  have s102 : F94 6 = .pointer (some ⟨p42, 0, none⟩) := (hF95 6).trans s67
  have s103 : F94 7 = .pointer (some ⟨p74, 0, none⟩) := (hF95 7).trans rfl
  clear hF95
  refine then_normal ?_
  refine wq_seq ?_
  refine wq_region ?_
  refine wl_v (blkV (clB (2048) (a))) rfl rfl (y_load_blk blkT_block rfl s102 B92 ⟨rfl, rfl⟩) ?_
  refine wl_call (R := fun v_ w_ => v_ = blkV (fwd (clB 1048576 (clB (2048) (a)))) ∧ Kept (fun _ => False) w87 w_) rfl rfl (y_cs rfl rfl rfl (fun _ _ => by kernel_rfl) (ev_func _) (vsC rfl vsN) (forward_any (clB (2048) (a)) _ (hw.all K93)) (fun e_ w_ h_ => ⟨_, h_.1, rfl, h_.2⟩)) ?_
  rintro _ w104 ⟨rfl, k105⟩
  have B106 := B90.all k105 id
  have B107 := B91.all k105 id
  have B108 := B92.all k105 id
  have B109 := B88.all k105 id
  have K110 := K93.trans k105 (fun _ _ x => x)
  refine wl_call (R := fun v_ w_ => v_ = blkV (fwd (clB 1048576 (fwd (clB 1048576 (clB (2048) (a)))))) ∧ Kept (fun _ => False) w104 w_) rfl rfl (y_cs rfl rfl rfl (fun _ _ => by kernel_rfl) (ev_func _) (vsC rfl vsN) (forward_any (fwd (clB 1048576 (clB (2048) (a)))) _ (hw.all K110)) (fun e_ w_ h_ => ⟨_, h_.1, rfl, h_.2⟩)) ?_
  rintro _ w111 ⟨rfl, k112⟩
  have B113 := B106.all k112 id
  have B114 := B107.all k112 id
  have B115 := B108.all k112 id
  have B116 := B109.all k112 id
  have K117 := K110.trans k112 (fun _ _ x => x)
  refine wl_alloc_blk rfl rfl rfl blkT_block.2.2 fun p118 w119 e122 B120 k121 => ?_
  have ne123 : p1 ≠ p118 := by have h_ := B113.lt; omega
  have ne124 : p8 ≠ p118 := by have h_ := B114.lt; omega
  have ne125 : p42 ≠ p118 := by have h_ := B115.lt; omega
  have ne126 : p74 ≠ p118 := by have h_ := B116.lt; omega
  have lp127 : w0.heap.size ≤ p118 := by have h_ := K117.size; omega
  clear e122
  have B128 := B113.all k121 id
  have B129 := B114.all k121 id
  have B130 := B115.all k121 id
  have B131 := B116.all k121 id
  have K132 := K117.trans k121 (fun _ _ x => x)
  refine wl_store_blk blkT_block rfl rfl rfl rfl rfl B120 fun w133 B134 k135 => ?_
  have B136 := B128.all k135 ne123
  have B137 := B129.all k135 ne124
  have B138 := B130.all k135 ne125
  have B139 := B131.all k135 ne126
  have K140 := K132.trans k135 (fun _ hi e => absurd (e ▸ hi) (Nat.not_lt.2 lp127))
  refine wl_nil fun F141 hF142 => ?_
  have s143 : F141 0 = blkV (a) := (hF142 0).trans s96
  have s144 : F141 1 = blkV (b) := (hF142 1).trans s97
  have s145 : F141 2 = .pointer (some ⟨p1, 0, none⟩) := (hF142 2).trans s98
  have s146 : F141 3 = .pointer (some ⟨p8, 0, none⟩) := (hF142 3).trans s99
  have s147 : F141 4 = .bool false := (hF142 4).trans s100
  have s148 : F141 5 = .bool true := (hF142 5).trans s101
  have s149 : F141 6 = .pointer (some ⟨p42, 0, none⟩) := (hF142 6).trans s102
  have s150 : F141 7 = .pointer (some ⟨p74, 0, none⟩) := (hF142 7).trans s103
  have s151 : F141 8 = .pointer (some ⟨p118, 0, none⟩) := (hF142 8).trans rfl
  clear hF142
  refine then_normal ?_
  refine wq_seq ?_
  refine wq_seq ?_
  refine wq_region ?_
  refine wl_v (.int .i64 (0)) rfl rfl (y_asg rfl rfl ⟨rfl, rfl⟩) ?_
  refine wl_nil fun F152 hF153 => ?_
  have s154 : F152 0 = blkV (a) := (hF153 0).trans s143
  have s155 : F152 1 = blkV (b) := (hF153 1).trans s144
  have s156 : F152 2 = .pointer (some ⟨p1, 0, none⟩) := (hF153 2).trans s145
  have s157 : F152 3 = .pointer (some ⟨p8, 0, none⟩) := (hF153 3).trans s146
  have s158 : F152 4 = .bool false := (hF153 4).trans s147
  have s159 : F152 5 = .bool true := (hF153 5).trans s148
  have s160 : F152 6 = .pointer (some ⟨p42, 0, none⟩) := (hF153 6).trans s149
  have s161 : F152 7 = .pointer (some ⟨p74, 0, none⟩) := (hF153 7).trans s150
  have s162 : F152 8 = .pointer (some ⟨p118, 0, none⟩) := (hF153 8).trans s151
  have s163 : F152 9 = .int .i64 (0) := (hF153 9).trans rfl
  clear hF153
  refine then_normal ?_
  refine wq_block ?_
  refine wq_loop (fun nn FF ww => ∃ (k : Nat), k ≤ 16 ∧ nn = 16 - k ∧ FF 0 = blkV (a) ∧ FF 1 = blkV (b) ∧ FF 2 = .pointer (some ⟨p1, 0, none⟩) ∧ FF 3 = .pointer (some ⟨p8, 0, none⟩) ∧ FF 5 = .bool true ∧ FF 6 = .pointer (some ⟨p42, 0, none⟩) ∧ FF 7 = .pointer (some ⟨p74, 0, none⟩) ∧ FF 8 = .pointer (some ⟨p118, 0, none⟩) ∧ FF 9 = .int .i64 (((k : Nat) : Int)) ∧ Kept (fun _ => False) w0 ww ∧ Blk ww p1 22 (a) ∧ Blk ww p8 22 (b) ∧ Blk ww p42 24 (clB (2048) (a)) ∧ Blk ww p74 24 (clB (2048) (b)) ∧ Blk ww p118 24 (fwd (clB 1048576 (fwd (clB 1048576 (clB (2048) (a))))))) (16 - (0)) ⟨0, by omega, rfl, s154, s155, s156, s157, s159, s160, s161, s162, s163, K140, B136, B137, B138, B139, B134⟩ ?_
  rintro n167 F164 w165 ⟨k, i168, hn167, s169, s170, s171, s172, s173, s174, s175, s176, s177, K166, B178, B179, B180, B181, B182⟩
  refine wq_seq ?_
  refine wq_seq ?_
  refine wq_region ?_
  refine wl_v (.int .i64 (((k : Nat) : Int))) rfl rfl (y_mov rfl s177 ⟨rfl, rfl⟩) ?_
  refine wl_v (.bool (decide ((((k : Nat) : Int)) < (16)))) rfl rfl (y_lss rfl rfl rfl rfl ⟨rfl, rfl⟩) ?_
  refine wl_nil fun F183 hF184 => ?_
  have s185 : F183 0 = blkV (a) := (hF184 0).trans s169
  have s186 : F183 1 = blkV (b) := (hF184 1).trans s170
  have s187 : F183 2 = .pointer (some ⟨p1, 0, none⟩) := (hF184 2).trans s171
  have s188 : F183 3 = .pointer (some ⟨p8, 0, none⟩) := (hF184 3).trans s172
  have s189 : F183 5 = .bool true := (hF184 5).trans s173
  have s190 : F183 6 = .pointer (some ⟨p42, 0, none⟩) := (hF184 6).trans s174
  have s191 : F183 7 = .pointer (some ⟨p74, 0, none⟩) := (hF184 7).trans s175
  have s192 : F183 8 = .pointer (some ⟨p118, 0, none⟩) := (hF184 8).trans s176
  have s193 : F183 9 = .int .i64 (((k : Nat) : Int)) := (hF184 9).trans s177
  have s194 : F183 19 = .bool (decide ((((k : Nat) : Int)) < (16))) := (hF184 19).trans rfl
  clear hF184
  refine then_normal ?_
  refine wq_cond s194 (fun c195 => ?_) (fun c195 => ?_)
  · replace c195 := of_decide_eq_true c195
    refine wq_skip ?_
    refine then_normal ?_
    refine wq_seq ?_
    refine wq_block ?_
    refine wq_seq ?_
    have h1 := clB_at 2048 (by omega) a k
    have h2 := twice_law a k (by omega)
    refine wq_said [some 22, some 23, some 24, some 25, some 26, some 27, some 28, some 29] [Pd.eq (.int .i64 (((k : Nat) : Int))), Pd.eq (.pointer (some ⟨p118, k, none⟩)), Pd.eq (.int .i64 ((fwd (clB 1048576 (fwd (clB 1048576 (clB (2048) (a)))))) (k))), Pd.eq (.int .i64 (((k : Nat) : Int))), Pd.eq (.pointer (some ⟨p42, k, none⟩)), Pd.eq (.int .i64 ((clB (2048) (a)) (k))), Pd.eq (.int .i64 ((16) * ((clB (2048) (a)) (k)))), Pd.eq (.bool false)] (by kernel_rfl) (by kernel_rfl) ?_ ?_
    · refine stepsF_cons ?_ ?_
      · refine StepF.one rfl fun F_ w_ hR hout hD => ?_
        exact (y_mov rfl ((hout 9 (by decide)).trans s193) ⟨rfl, Kept.refl _ _⟩)
      refine stepsF_cons ?_ ?_
      · refine StepF.one rfl fun F_ w_ hR hout hD => ?_
        have g22 : F_ 22 = .int .i64 (((k : Nat) : Int)) := hD.get 0 rfl rfl rfl
        exact (y_atR (k) (s := 1) rfl ((hout 8 (by decide)).trans s192) g22 (by omega) Tryd.underlying24 (by omega) (by kernel_rfl) (by omega) ⟨rfl, Kept.refl _ _⟩)
      refine stepsF_cons ?_ ?_
      · refine StepF.one rfl fun F_ w_ hR hout hD => ?_
        have g23 : F_ 23 = .pointer (some ⟨p118, k, none⟩) := hD.get 0 rfl rfl rfl
        exact (y_ldR rfl g23 Tryd.underlying3 (((B182.all hR id)).cell (by omega)) ⟨rfl, Kept.refl _ _⟩)
      refine stepsF_cons ?_ ?_
      · refine StepF.one rfl fun F_ w_ hR hout hD => ?_
        exact (y_mov rfl ((hout 9 (by decide)).trans s193) ⟨rfl, Kept.refl _ _⟩)
      refine stepsF_cons ?_ ?_
      · refine StepF.one rfl fun F_ w_ hR hout hD => ?_
        have g25 : F_ 25 = .int .i64 (((k : Nat) : Int)) := hD.get 0 rfl rfl rfl
        exact (y_atR (k) (s := 1) rfl ((hout 6 (by decide)).trans s190) g25 (by omega) Tryd.underlying24 (by omega) (by kernel_rfl) (by omega) ⟨rfl, Kept.refl _ _⟩)
      refine stepsF_cons ?_ ?_
      · refine StepF.one rfl fun F_ w_ hR hout hD => ?_
        have g26 : F_ 26 = .pointer (some ⟨p42, k, none⟩) := hD.get 0 rfl rfl rfl
        exact (y_ldR rfl g26 Tryd.underlying3 (((B180.all hR id)).cell (by omega)) ⟨rfl, Kept.refl _ _⟩)
      refine stepsF_cons ?_ ?_
      · refine StepF.one rfl fun F_ w_ hR hout hD => ?_
        have g27 : F_ 27 = .int .i64 ((clB (2048) (a)) (k)) := hD.get 0 rfl rfl rfl
        exact (y_mul rfl rfl g27 (i64_i rfl (by omega)) ⟨rfl, Kept.refl _ _⟩)
      refine stepsF_cons ?_ ?_
      · refine StepF.one rfl fun F_ w_ hR hout hD => ?_
        have g24 : F_ 24 = .int .i64 ((fwd (clB 1048576 (fwd (clB 1048576 (clB (2048) (a)))))) (k)) := hD.get 0 rfl rfl rfl
        have g28 : F_ 28 = .int .i64 ((16) * ((clB (2048) (a)) (k))) := hD.get 1 rfl rfl rfl
        exact (y_neqI rfl g24 g28 (decide_eq_false (by omega)) ⟨rfl, Kept.refl _ _⟩)
      exact stepsF_nil
    intro v196 F197 w198 k199 G200 hF201
    have B202 := B178.all k199 id
    have B203 := B179.all k199 id
    have B204 := B180.all k199 id
    have B205 := B181.all k199 id
    have B206 := B182.all k199 id
    have K207 := K166.trans k199 (fun _ _ x => x)
    have s208 : F197 0 = blkV (a) := (hF201 0).trans s185
    have s209 : F197 1 = blkV (b) := (hF201 1).trans s186
    have s210 : F197 2 = .pointer (some ⟨p1, 0, none⟩) := (hF201 2).trans s187
    have s211 : F197 3 = .pointer (some ⟨p8, 0, none⟩) := (hF201 3).trans s188
    have s212 : F197 5 = .bool true := (hF201 5).trans s189
    have s213 : F197 6 = .pointer (some ⟨p42, 0, none⟩) := (hF201 6).trans s190
    have s214 : F197 7 = .pointer (some ⟨p74, 0, none⟩) := (hF201 7).trans s191
    have s215 : F197 8 = .pointer (some ⟨p118, 0, none⟩) := (hF201 8).trans s192
    have s216 : F197 9 = .int .i64 (((k : Nat) : Int)) := (hF201 9).trans s193
    have s217 : F197 19 = .bool (decide ((((k : Nat) : Int)) < (16))) := (hF201 19).trans s194
    have s218 : F197 29 = .bool false := (hF201 29).trans (G200 7 (by decide))
    clear G200 hF201
    refine then_normal ?_
    refine wq_cond (t := false) s218 (fun e => by cases e) (fun _ => ?_)
    refine wq_skip ?_
    refine in_normal ?_
    refine then_normal ?_
    refine wq_region ?_
    refine wl_v (.int .i64 (((k : Nat) : Int))) rfl rfl (y_mov rfl s216 ⟨rfl, rfl⟩) ?_
    refine wl_v (.int .i64 (((k + 1 : Nat) : Int))) rfl rfl (y_add rfl rfl rfl (i64_n (by omega) (by omega)) ⟨rfl, rfl⟩) ?_
    refine wl_v (.int .i64 (((k + 1 : Nat) : Int))) rfl rfl (y_asg rfl rfl ⟨rfl, rfl⟩) ?_
    refine wl_nil fun F219 hF220 => ?_
    have s221 : F219 0 = blkV (a) := (hF220 0).trans s208
    have s222 : F219 1 = blkV (b) := (hF220 1).trans s209
    have s223 : F219 2 = .pointer (some ⟨p1, 0, none⟩) := (hF220 2).trans s210
    have s224 : F219 3 = .pointer (some ⟨p8, 0, none⟩) := (hF220 3).trans s211
    have s225 : F219 5 = .bool true := (hF220 5).trans s212
    have s226 : F219 6 = .pointer (some ⟨p42, 0, none⟩) := (hF220 6).trans s213
    have s227 : F219 7 = .pointer (some ⟨p74, 0, none⟩) := (hF220 7).trans s214
    have s228 : F219 8 = .pointer (some ⟨p118, 0, none⟩) := (hF220 8).trans s215
    have s229 : F219 19 = .bool (decide ((((k : Nat) : Int)) < (16))) := (hF220 19).trans s217
    have s230 : F219 29 = .bool false := (hF220 29).trans s218
    have s231 : F219 9 = .int .i64 (((k + 1 : Nat) : Int)) := (hF220 9).trans rfl
    clear hF220
    exact then_normal ⟨(16 - (k + 1)), by omega, k + 1, by omega, rfl, s221, s222, s223, s224, s225, s226, s227, s228, s231, K207, B202, B203, B204, B205, B206⟩
  · replace c195 := of_decide_eq_false c195
    refine wq_exit ?_
    refine then_exit ?_
    refine then_exit ?_
    have l232 : 16 = k := by omega
    subst l232
    refine in_here ?_
    refine then_normal ?_
    refine wq_seq ?_
    refine wq_said [some 30, some 31, some 32, some 33, some 34, some 35, some 36, some 37, some 38, some 39, some 40, some 41, some 42, some 43, some 44, some 45, some 46, some 47, some 48, some 49, some 50, some 51, some 52, some 53, some 54, some 4] [Pd.eq (.bool true), Pd.eq (.bool true), Pd.eq (blkV (clB (2048) (a))), Pd.eq (blkV (clB (2048) (b))), Pd.eq (blkV (moreB (clB (2048) (a)) (clB (2048) (b)))), Pd.eq (blkV (fwd (clB 1048576 (moreB (clB (2048) (a)) (clB (2048) (b)))))), Pd.eq (blkV (clB (2048) (a))), Pd.eq (blkV (fwd (clB 1048576 (clB (2048) (a))))), Pd.eq (blkV (clB (2048) (b))), Pd.eq (blkV (fwd (clB 1048576 (clB (2048) (b))))), Pd.eq (blkV (moreB (fwd (clB 1048576 (clB (2048) (a)))) (fwd (clB 1048576 (clB (2048) (b)))))), Pd.eq (.bool true), Pd.eq (.bool true), Pd.eq (.bool true), Pd.eq (blkV (clB (2048) (a))), Pd.eq (blkV (clB (2048) (b))), Pd.eq (blkV (lessB (clB (2048) (a)) (clB (2048) (b)))), Pd.eq (blkV (fwd (clB 1048576 (lessB (clB (2048) (a)) (clB (2048) (b)))))), Pd.eq (blkV (clB (2048) (a))), Pd.eq (blkV (fwd (clB 1048576 (clB (2048) (a))))), Pd.eq (blkV (clB (2048) (b))), Pd.eq (blkV (fwd (clB 1048576 (clB (2048) (b))))), Pd.eq (blkV (lessB (fwd (clB 1048576 (clB (2048) (a)))) (fwd (clB 1048576 (clB (2048) (b)))))), Pd.eq (.bool true), Pd.eq (.bool true), Pd.eq (.bool true)] (by kernel_rfl) (by kernel_rfl) ?_ ?_
    · refine stepsF_cons ?_ ?_
      · refine StepF.one rfl fun F_ w_ hR hout hD => ?_
        exact (y_mov rfl ((hout 5 (by decide)).trans s189) ⟨rfl, Kept.refl _ _⟩)
      refine stepsF_cons ?_ ?_
      · refine StepF.one rfl fun F_ w_ hR hout hD => ?_
        have g30 : F_ 30 = .bool true := hD.get 0 rfl rfl rfl
        exact (y_mov rfl g30 ⟨rfl, Kept.refl _ _⟩)
      refine stepsF_cons ?_ ?_
      · refine StepF.when 1 true 31 rfl rfl fun F_ w_ hR hout hD => ?_
        have g31 : F_ 31 = .bool true := hD.get 0 rfl rfl rfl
        exact ⟨g31, (y_load_blk blkT_block rfl ((hout 6 (by decide)).trans s190) (B180.all hR id) ⟨rfl, Kept.refl _ _⟩)⟩
      refine stepsF_cons ?_ ?_
      · refine StepF.when 1 true 31 rfl rfl fun F_ w_ hR hout hD => ?_
        have g31 : F_ 31 = .bool true := hD.get 0 rfl rfl rfl
        exact ⟨g31, (y_load_blk blkT_block rfl ((hout 7 (by decide)).trans s191) (B181.all hR id) ⟨rfl, Kept.refl _ _⟩)⟩
      refine stepsF_cons ?_ ?_
      · refine StepF.when 1 true 31 rfl rfl fun F_ w_ hR hout hD => ?_
        have g31 : F_ 31 = .bool true := hD.get 2 rfl rfl rfl
        have g32 : F_ 32 = blkV (clB (2048) (a)) := hD.get 0 rfl rfl rfl
        have g33 : F_ 33 = blkV (clB (2048) (b)) := hD.get 1 rfl rfl rfl
        exact ⟨g31, (y_cs rfl rfl rfl (fun _ _ => by kernel_rfl) (ev_func _) (vsC g32 (vsC g33 vsN)) (more_any (clB (2048) (a)) (clB (2048) (b)) _ ) (fun e_ w_ h_ => ⟨_, h_.1, rfl, h_.2⟩))⟩
      refine stepsF_cons ?_ ?_
      · refine StepF.when 1 true 31 rfl rfl fun F_ w_ hR hout hD => ?_
        have g31 : F_ 31 = .bool true := hD.get 2 rfl rfl rfl
        have g34 : F_ 34 = blkV (moreB (clB (2048) (a)) (clB (2048) (b))) := hD.get 0 rfl rfl rfl
        exact ⟨g31, (y_cs rfl rfl rfl (fun _ _ => by kernel_rfl) (ev_func _) (vsC g34 vsN) (forward_any (moreB (clB (2048) (a)) (clB (2048) (b))) _ (hw.all (K166.trans hR (fun _ _ x => x)))) (fun e_ w_ h_ => ⟨_, h_.1, rfl, h_.2⟩))⟩
      refine stepsF_cons ?_ ?_
      · refine StepF.when 1 true 31 rfl rfl fun F_ w_ hR hout hD => ?_
        have g31 : F_ 31 = .bool true := hD.get 0 rfl rfl rfl
        exact ⟨g31, (y_load_blk blkT_block rfl ((hout 6 (by decide)).trans s190) (B180.all hR id) ⟨rfl, Kept.refl _ _⟩)⟩
      refine stepsF_cons ?_ ?_
      · refine StepF.when 1 true 31 rfl rfl fun F_ w_ hR hout hD => ?_
        have g31 : F_ 31 = .bool true := hD.get 2 rfl rfl rfl
        have g36 : F_ 36 = blkV (clB (2048) (a)) := hD.get 0 rfl rfl rfl
        exact ⟨g31, (y_cs rfl rfl rfl (fun _ _ => by kernel_rfl) (ev_func _) (vsC g36 vsN) (forward_any (clB (2048) (a)) _ (hw.all (K166.trans hR (fun _ _ x => x)))) (fun e_ w_ h_ => ⟨_, h_.1, rfl, h_.2⟩))⟩
      refine stepsF_cons ?_ ?_
      · refine StepF.when 1 true 31 rfl rfl fun F_ w_ hR hout hD => ?_
        have g31 : F_ 31 = .bool true := hD.get 0 rfl rfl rfl
        exact ⟨g31, (y_load_blk blkT_block rfl ((hout 7 (by decide)).trans s191) (B181.all hR id) ⟨rfl, Kept.refl _ _⟩)⟩
      refine stepsF_cons ?_ ?_
      · refine StepF.when 1 true 31 rfl rfl fun F_ w_ hR hout hD => ?_
        have g31 : F_ 31 = .bool true := hD.get 2 rfl rfl rfl
        have g38 : F_ 38 = blkV (clB (2048) (b)) := hD.get 0 rfl rfl rfl
        exact ⟨g31, (y_cs rfl rfl rfl (fun _ _ => by kernel_rfl) (ev_func _) (vsC g38 vsN) (forward_any (clB (2048) (b)) _ (hw.all (K166.trans hR (fun _ _ x => x)))) (fun e_ w_ h_ => ⟨_, h_.1, rfl, h_.2⟩))⟩
      refine stepsF_cons ?_ ?_
      · refine StepF.when 1 true 31 rfl rfl fun F_ w_ hR hout hD => ?_
        have g31 : F_ 31 = .bool true := hD.get 3 rfl rfl rfl
        have g37 : F_ 37 = blkV (fwd (clB 1048576 (clB (2048) (a)))) := hD.get 0 rfl rfl rfl
        have g39 : F_ 39 = blkV (fwd (clB 1048576 (clB (2048) (b)))) := hD.get 1 rfl rfl rfl
        exact ⟨g31, (y_cs rfl rfl rfl (fun _ _ => by kernel_rfl) (ev_func _) (vsC g37 (vsC g39 vsN)) (more_any (fwd (clB 1048576 (clB (2048) (a)))) (fwd (clB 1048576 (clB (2048) (b)))) _ ) (fun e_ w_ h_ => ⟨_, h_.1, rfl, h_.2⟩))⟩
      refine stepsF_cons ?_ ?_
      · refine StepF.when 1 true 31 rfl rfl fun F_ w_ hR hout hD => ?_
        have g31 : F_ 31 = .bool true := hD.get 2 rfl rfl rfl
        have g35 : F_ 35 = blkV (fwd (clB 1048576 (moreB (clB (2048) (a)) (clB (2048) (b))))) := hD.get 0 rfl rfl rfl
        have g40 : F_ 40 = blkV (moreB (fwd (clB 1048576 (clB (2048) (a)))) (fwd (clB 1048576 (clB (2048) (b))))) := hD.get 1 rfl rfl rfl
        exact ⟨g31, (y_sameR rfl g35 g40 (adds_law a b) ⟨rfl, Kept.refl _ _⟩)⟩
      refine stepsF_cons ?_ ?_
      · refine StepF.one rfl fun F_ w_ hR hout hD => ?_
        have g31 : F_ 31 = .bool true := hD.get 0 rfl rfl rfl
        have g41 : F_ 41 = .bool true := hD.get 1 rfl rfl rfl
        exact (y_pickT rfl g31 g41 ⟨rfl, Kept.refl _ _⟩)
      refine stepsF_cons ?_ ?_
      · refine StepF.one rfl fun F_ w_ hR hout hD => ?_
        have g42 : F_ 42 = .bool true := hD.get 0 rfl rfl rfl
        exact (y_mov rfl g42 ⟨rfl, Kept.refl _ _⟩)
      refine stepsF_cons ?_ ?_
      · refine StepF.when 13 true 43 rfl rfl fun F_ w_ hR hout hD => ?_
        have g43 : F_ 43 = .bool true := hD.get 0 rfl rfl rfl
        exact ⟨g43, (y_load_blk blkT_block rfl ((hout 6 (by decide)).trans s190) (B180.all hR id) ⟨rfl, Kept.refl _ _⟩)⟩
      refine stepsF_cons ?_ ?_
      · refine StepF.when 13 true 43 rfl rfl fun F_ w_ hR hout hD => ?_
        have g43 : F_ 43 = .bool true := hD.get 0 rfl rfl rfl
        exact ⟨g43, (y_load_blk blkT_block rfl ((hout 7 (by decide)).trans s191) (B181.all hR id) ⟨rfl, Kept.refl _ _⟩)⟩
      refine stepsF_cons ?_ ?_
      · refine StepF.when 13 true 43 rfl rfl fun F_ w_ hR hout hD => ?_
        have g43 : F_ 43 = .bool true := hD.get 2 rfl rfl rfl
        have g44 : F_ 44 = blkV (clB (2048) (a)) := hD.get 0 rfl rfl rfl
        have g45 : F_ 45 = blkV (clB (2048) (b)) := hD.get 1 rfl rfl rfl
        exact ⟨g43, (y_cs rfl rfl rfl (fun _ _ => by kernel_rfl) (ev_func _) (vsC g44 (vsC g45 vsN)) (less_any (clB (2048) (a)) (clB (2048) (b)) _ ) (fun e_ w_ h_ => ⟨_, h_.1, rfl, h_.2⟩))⟩
      refine stepsF_cons ?_ ?_
      · refine StepF.when 13 true 43 rfl rfl fun F_ w_ hR hout hD => ?_
        have g43 : F_ 43 = .bool true := hD.get 2 rfl rfl rfl
        have g46 : F_ 46 = blkV (lessB (clB (2048) (a)) (clB (2048) (b))) := hD.get 0 rfl rfl rfl
        exact ⟨g43, (y_cs rfl rfl rfl (fun _ _ => by kernel_rfl) (ev_func _) (vsC g46 vsN) (forward_any (lessB (clB (2048) (a)) (clB (2048) (b))) _ (hw.all (K166.trans hR (fun _ _ x => x)))) (fun e_ w_ h_ => ⟨_, h_.1, rfl, h_.2⟩))⟩
      refine stepsF_cons ?_ ?_
      · refine StepF.when 13 true 43 rfl rfl fun F_ w_ hR hout hD => ?_
        have g43 : F_ 43 = .bool true := hD.get 0 rfl rfl rfl
        exact ⟨g43, (y_load_blk blkT_block rfl ((hout 6 (by decide)).trans s190) (B180.all hR id) ⟨rfl, Kept.refl _ _⟩)⟩
      refine stepsF_cons ?_ ?_
      · refine StepF.when 13 true 43 rfl rfl fun F_ w_ hR hout hD => ?_
        have g43 : F_ 43 = .bool true := hD.get 2 rfl rfl rfl
        have g48 : F_ 48 = blkV (clB (2048) (a)) := hD.get 0 rfl rfl rfl
        exact ⟨g43, (y_cs rfl rfl rfl (fun _ _ => by kernel_rfl) (ev_func _) (vsC g48 vsN) (forward_any (clB (2048) (a)) _ (hw.all (K166.trans hR (fun _ _ x => x)))) (fun e_ w_ h_ => ⟨_, h_.1, rfl, h_.2⟩))⟩
      refine stepsF_cons ?_ ?_
      · refine StepF.when 13 true 43 rfl rfl fun F_ w_ hR hout hD => ?_
        have g43 : F_ 43 = .bool true := hD.get 0 rfl rfl rfl
        exact ⟨g43, (y_load_blk blkT_block rfl ((hout 7 (by decide)).trans s191) (B181.all hR id) ⟨rfl, Kept.refl _ _⟩)⟩
      refine stepsF_cons ?_ ?_
      · refine StepF.when 13 true 43 rfl rfl fun F_ w_ hR hout hD => ?_
        have g43 : F_ 43 = .bool true := hD.get 2 rfl rfl rfl
        have g50 : F_ 50 = blkV (clB (2048) (b)) := hD.get 0 rfl rfl rfl
        exact ⟨g43, (y_cs rfl rfl rfl (fun _ _ => by kernel_rfl) (ev_func _) (vsC g50 vsN) (forward_any (clB (2048) (b)) _ (hw.all (K166.trans hR (fun _ _ x => x)))) (fun e_ w_ h_ => ⟨_, h_.1, rfl, h_.2⟩))⟩
      refine stepsF_cons ?_ ?_
      · refine StepF.when 13 true 43 rfl rfl fun F_ w_ hR hout hD => ?_
        have g43 : F_ 43 = .bool true := hD.get 3 rfl rfl rfl
        have g49 : F_ 49 = blkV (fwd (clB 1048576 (clB (2048) (a)))) := hD.get 0 rfl rfl rfl
        have g51 : F_ 51 = blkV (fwd (clB 1048576 (clB (2048) (b)))) := hD.get 1 rfl rfl rfl
        exact ⟨g43, (y_cs rfl rfl rfl (fun _ _ => by kernel_rfl) (ev_func _) (vsC g49 (vsC g51 vsN)) (less_any (fwd (clB 1048576 (clB (2048) (a)))) (fwd (clB 1048576 (clB (2048) (b)))) _ ) (fun e_ w_ h_ => ⟨_, h_.1, rfl, h_.2⟩))⟩
      refine stepsF_cons ?_ ?_
      · refine StepF.when 13 true 43 rfl rfl fun F_ w_ hR hout hD => ?_
        have g43 : F_ 43 = .bool true := hD.get 2 rfl rfl rfl
        have g47 : F_ 47 = blkV (fwd (clB 1048576 (lessB (clB (2048) (a)) (clB (2048) (b))))) := hD.get 0 rfl rfl rfl
        have g52 : F_ 52 = blkV (lessB (fwd (clB 1048576 (clB (2048) (a)))) (fwd (clB 1048576 (clB (2048) (b))))) := hD.get 1 rfl rfl rfl
        exact ⟨g43, (y_sameR rfl g47 g52 (subs_law a b) ⟨rfl, Kept.refl _ _⟩)⟩
      refine stepsF_cons ?_ ?_
      · refine StepF.one rfl fun F_ w_ hR hout hD => ?_
        have g43 : F_ 43 = .bool true := hD.get 0 rfl rfl rfl
        have g53 : F_ 53 = .bool true := hD.get 1 rfl rfl rfl
        exact (y_pickT rfl g43 g53 ⟨rfl, Kept.refl _ _⟩)
      refine stepsF_cons ?_ ?_
      · refine StepF.one rfl fun F_ w_ hR hout hD => ?_
        have g54 : F_ 54 = .bool true := hD.get 0 rfl rfl rfl
        exact (y_asg rfl g54 ⟨rfl, Kept.refl _ _⟩)
      exact stepsF_nil
    intro v233 F234 w235 k236 G237 hF238
    have B239 := B178.all k236 id
    have B240 := B179.all k236 id
    have B241 := B180.all k236 id
    have B242 := B181.all k236 id
    have B243 := B182.all k236 id
    have K244 := K166.trans k236 (fun _ _ x => x)
    have s245 : F234 0 = blkV (a) := (hF238 0).trans s185
    have s246 : F234 1 = blkV (b) := (hF238 1).trans s186
    have s247 : F234 2 = .pointer (some ⟨p1, 0, none⟩) := (hF238 2).trans s187
    have s248 : F234 3 = .pointer (some ⟨p8, 0, none⟩) := (hF238 3).trans s188
    have s249 : F234 5 = .bool true := (hF238 5).trans s189
    have s250 : F234 6 = .pointer (some ⟨p42, 0, none⟩) := (hF238 6).trans s190
    have s251 : F234 7 = .pointer (some ⟨p74, 0, none⟩) := (hF238 7).trans s191
    have s252 : F234 8 = .pointer (some ⟨p118, 0, none⟩) := (hF238 8).trans s192
    have s253 : F234 9 = .int .i64 (((16 : Nat) : Int)) := (hF238 9).trans s193
    have s254 : F234 19 = .bool (decide ((((16 : Nat) : Int)) < (16))) := (hF238 19).trans s194
    have s255 : F234 4 = .bool true := (hF238 4).trans (G237 25 (by decide))
    clear G237 hF238
    refine then_normal ?_
    refine wq_ret ?_
    exact end_tmp (v := .bool true) rfl s255 ⟨rfl, K244⟩

set_option maxHeartbeats 4000000 in
set_option maxRecDepth 100000 in
theorem flat_walk (n : Int) (a : Nat → Int) (w0 : World) (hw : Waves w0) (hn : -32768 ≤ n ∧ n ≤ 32767) :
    Calls Tryd.prog 7 #[.int .i16 (n), blkV (a)] w0 fun e w' => e = .returned (.bool true) ∧ Kept (fun _ => False) w0 w' := by
  refine calls_wq (args := [.int .i16 (n), blkV (a)]) 42 Tryd.func7 rfl rfl (Nat.le_of_ble_eq_true rfl) ?_
  have K0 := Kept.refl (fun _ => False) w0
  refine wq_seq ?_
  refine wq_region ?_
  refine wl_box_blk rfl rfl rfl rfl fun p1 w2 e5 B3 k4 => ?_
  have lp6 : w0.heap.size ≤ p1 := by have h_ := K0.size; omega
  clear e5
  have K7 := K0.trans k4 (fun _ _ x => x)
  refine wl_v (.bool false) rfl rfl (y_asg rfl rfl ⟨rfl, rfl⟩) ?_
  refine wl_nil fun F8 hF9 => ?_
  have s10 : F8 0 = .int .i16 (n) := (hF9 0).trans rfl
  have s11 : F8 1 = blkV (a) := (hF9 1).trans rfl
  have s12 : F8 3 = .pointer (some ⟨p1, 0, none⟩) := (hF9 3).trans rfl
  have s13 : F8 4 = .bool false := (hF9 4).trans rfl
  clear hF9
  refine then_normal ?_
  refine wq_seq ?_
  refine wq_region ?_
  refine wl_call (R := fun v_ w_ => v_ = .bool true ∧ Kept (fun _ => False) w2 w_) rfl rfl (y_cs rfl rfl rfl (fun _ _ => by kernel_rfl) (ev_func _) vsN (awake_any  _ (hw.all K7)) (fun e_ w_ h_ => ⟨_, h_.1, rfl, h_.2⟩)) ?_
  rintro _ w14 ⟨rfl, k15⟩
  have B16 := B3.all k15 id
  have K17 := K7.trans k15 (fun _ _ x => x)
  refine wl_v (.bool true) rfl rfl (y_asg rfl rfl ⟨rfl, rfl⟩) ?_
  refine wl_nil fun F18 hF19 => ?_
  have s20 : F18 0 = .int .i16 (n) := (hF19 0).trans s10
  have s21 : F18 1 = blkV (a) := (hF19 1).trans s11
  have s22 : F18 3 = .pointer (some ⟨p1, 0, none⟩) := (hF19 3).trans s12
  have s23 : F18 4 = .bool false := (hF19 4).trans s13
  have s24 : F18 5 = .bool true := (hF19 5).trans rfl
  clear hF19
  refine then_normal ?_
  refine wq_seq ?_
  refine wq_region ?_
  refine wl_v (blkV (fun _ => 0)) rfl rfl (y_buildR (cells := (arrL 16 (fun _ => 0)).toArray) rfl (by kernel_rfl) rfl ⟨rfl, rfl⟩) ?_
  refine wl_alloc_blk rfl rfl rfl blkT_block.2.2 fun p25 w26 e29 B27 k28 => ?_
  have ne30 : p1 ≠ p25 := by have h_ := B16.lt; omega
  have lp31 : w0.heap.size ≤ p25 := by have h_ := K17.size; omega
  clear e29
  have B32 := B16.all k28 id
  have K33 := K17.trans k28 (fun _ _ x => x)
  refine wl_store_blk blkT_block rfl rfl rfl rfl rfl B27 fun w34 B35 k36 => ?_
  have B37 := B32.all k36 ne30
  have K38 := K33.trans k36 (fun _ hi e => absurd (e ▸ hi) (Nat.not_lt.2 lp31))
  refine wl_nil fun F39 hF40 => ?_
  have s41 : F39 0 = .int .i16 (n) := (hF40 0).trans s20
  have s42 : F39 1 = blkV (a) := (hF40 1).trans s21
  have s43 : F39 3 = .pointer (some ⟨p1, 0, none⟩) := (hF40 3).trans s22
  have s44 : F39 4 = .bool false := (hF40 4).trans s23
  have s45 : F39 5 = .bool true := (hF40 5).trans s24
  have s46 : F39 6 = .pointer (some ⟨p25, 0, none⟩) := (hF40 6).trans rfl
  clear hF40
  refine then_normal ?_
  refine wq_seq ?_
  refine wq_seq ?_
  refine wq_region ?_
  refine wl_v (.int .i64 (0)) rfl rfl (y_asg rfl rfl ⟨rfl, rfl⟩) ?_
  refine wl_nil fun F47 hF48 => ?_
  have s49 : F47 0 = .int .i16 (n) := (hF48 0).trans s41
  have s50 : F47 1 = blkV (a) := (hF48 1).trans s42
  have s51 : F47 3 = .pointer (some ⟨p1, 0, none⟩) := (hF48 3).trans s43
  have s52 : F47 4 = .bool false := (hF48 4).trans s44
  have s53 : F47 5 = .bool true := (hF48 5).trans s45
  have s54 : F47 6 = .pointer (some ⟨p25, 0, none⟩) := (hF48 6).trans s46
  have s55 : F47 7 = .int .i64 (0) := (hF48 7).trans rfl
  clear hF48
  refine then_normal ?_
  refine wq_block ?_
  refine wq_loop (fun nn FF ww => ∃ (k : Nat), k ≤ 16 ∧ nn = 16 - k ∧ FF 0 = .int .i16 (n) ∧ FF 1 = blkV (a) ∧ FF 3 = .pointer (some ⟨p1, 0, none⟩) ∧ FF 4 = .bool false ∧ FF 5 = .bool true ∧ FF 6 = .pointer (some ⟨p25, 0, none⟩) ∧ FF 7 = .int .i64 (((k : Nat) : Int)) ∧ Kept (fun _ => False) w0 ww ∧ Blk ww p1 22 (a) ∧ Blk ww p25 24 (upto k (fun _ => 0) (fun _ => n))) (16 - (0)) ⟨0, by omega, rfl, s49, s50, s51, s52, s53, s54, s55, K38, B37, B35.first⟩ ?_
  rintro n59 F56 w57 ⟨k, i60, hn59, s61, s62, s63, s64, s65, s66, s67, K58, B68, B69⟩
  refine wq_seq ?_
  refine wq_seq ?_
  refine wq_region ?_
  refine wl_v (.int .i64 (((k : Nat) : Int))) rfl rfl (y_mov rfl s67 ⟨rfl, rfl⟩) ?_
  refine wl_v (.bool (decide ((((k : Nat) : Int)) < (16)))) rfl rfl (y_lss rfl rfl rfl rfl ⟨rfl, rfl⟩) ?_
  refine wl_nil fun F70 hF71 => ?_
  have s72 : F70 0 = .int .i16 (n) := (hF71 0).trans s61
  have s73 : F70 1 = blkV (a) := (hF71 1).trans s62
  have s74 : F70 3 = .pointer (some ⟨p1, 0, none⟩) := (hF71 3).trans s63
  have s75 : F70 4 = .bool false := (hF71 4).trans s64
  have s76 : F70 5 = .bool true := (hF71 5).trans s65
  have s77 : F70 6 = .pointer (some ⟨p25, 0, none⟩) := (hF71 6).trans s66
  have s78 : F70 7 = .int .i64 (((k : Nat) : Int)) := (hF71 7).trans s67
  have s79 : F70 12 = .bool (decide ((((k : Nat) : Int)) < (16))) := (hF71 12).trans rfl
  clear hF71
  refine then_normal ?_
  refine wq_cond s79 (fun c80 => ?_) (fun c80 => ?_)
  · replace c80 := of_decide_eq_true c80
    refine wq_skip ?_
    refine then_normal ?_
    refine wq_seq ?_
    refine wq_block ?_
    refine wq_region ?_
    refine wl_v (.int .i64 (((k : Nat) : Int))) rfl rfl (y_mov rfl s78 ⟨rfl, rfl⟩) ?_
    refine wl_v (.int .i16 (n)) rfl rfl (y_mov rfl s72 ⟨rfl, rfl⟩) ?_
    refine wl_v (.int .i64 (n)) rfl rfl (y_convR rfl rfl Tryd.underlying33 Tryd.underlying3 (i64_i rfl (by omega)) ⟨rfl, rfl⟩) ?_
    refine wl_v (.pointer (some ⟨p25, k, none⟩)) rfl rfl (y_atR (k) (s := 1) rfl s77 rfl (by omega) Tryd.underlying24 (by omega) (by kernel_rfl) (by omega) ⟨rfl, rfl⟩) ?_
    refine wl_set_blk rfl rfl rfl rfl rfl B69 (by omega) (by kernel_rfl) fun w81 B82 k83 => ?_
    have B84 := B68.all k83 ne30
    have K85 := K58.trans k83 (fun _ hi e => absurd (e ▸ hi) (Nat.not_lt.2 lp31))
    refine wl_nil fun F86 hF87 => ?_
    have s88 : F86 0 = .int .i16 (n) := (hF87 0).trans s72
    have s89 : F86 1 = blkV (a) := (hF87 1).trans s73
    have s90 : F86 3 = .pointer (some ⟨p1, 0, none⟩) := (hF87 3).trans s74
    have s91 : F86 4 = .bool false := (hF87 4).trans s75
    have s92 : F86 5 = .bool true := (hF87 5).trans s76
    have s93 : F86 6 = .pointer (some ⟨p25, 0, none⟩) := (hF87 6).trans s77
    have s94 : F86 7 = .int .i64 (((k : Nat) : Int)) := (hF87 7).trans s78
    have s95 : F86 12 = .bool (decide ((((k : Nat) : Int)) < (16))) := (hF87 12).trans s79
    clear hF87
    refine in_normal ?_
    refine then_normal ?_
    refine wq_region ?_
    refine wl_v (.int .i64 (((k : Nat) : Int))) rfl rfl (y_mov rfl s94 ⟨rfl, rfl⟩) ?_
    refine wl_v (.int .i64 (((k + 1 : Nat) : Int))) rfl rfl (y_add rfl rfl rfl (i64_n (by omega) (by omega)) ⟨rfl, rfl⟩) ?_
    refine wl_v (.int .i64 (((k + 1 : Nat) : Int))) rfl rfl (y_asg rfl rfl ⟨rfl, rfl⟩) ?_
    refine wl_nil fun F96 hF97 => ?_
    have s98 : F96 0 = .int .i16 (n) := (hF97 0).trans s88
    have s99 : F96 1 = blkV (a) := (hF97 1).trans s89
    have s100 : F96 3 = .pointer (some ⟨p1, 0, none⟩) := (hF97 3).trans s90
    have s101 : F96 4 = .bool false := (hF97 4).trans s91
    have s102 : F96 5 = .bool true := (hF97 5).trans s92
    have s103 : F96 6 = .pointer (some ⟨p25, 0, none⟩) := (hF97 6).trans s93
    have s104 : F96 12 = .bool (decide ((((k : Nat) : Int)) < (16))) := (hF97 12).trans s95
    have s105 : F96 7 = .int .i64 (((k + 1 : Nat) : Int)) := (hF97 7).trans rfl
    clear hF97
    exact then_normal ⟨(16 - (k + 1)), by omega, k + 1, by omega, rfl, s98, s99, s100, s101, s102, s103, s105, K85, B84, (B82.next rfl)⟩
  · replace c80 := of_decide_eq_false c80
    refine wq_exit ?_
    refine then_exit ?_
    refine then_exit ?_
    have l106 : 16 = k := by omega
    subst l106
    have B107 : Blk w57 p25 24 (fun _ => n) := (B69.last)
    refine in_here ?_
    refine then_normal ?_
    refine wq_seq ?_
    refine wq_region ?_
    refine wl_v (blkV (a)) rfl rfl (y_load_blk blkT_arr rfl s74 B68 ⟨rfl, rfl⟩) ?_
    refine wl_call (R := fun v_ w_ => v_ = blkV (clB (32768) (a)) ∧ Kept (fun _ => False) w57 w_) rfl rfl (y_cs rfl rfl rfl (fun _ _ => by kernel_rfl) (ev_func _) (vsC rfl (vsC rfl vsN)) (law_clamped (a) (32768) _ (by omega)) (fun e_ w_ h_ => ⟨_, h_.1, rfl, h_.2⟩)) ?_
    rintro _ w108 ⟨rfl, k109⟩
    have B110 := B68.all k109 id
    have B111 := B107.all k109 id
    have K112 := K58.trans k109 (fun _ _ x => x)
    refine wl_alloc_blk rfl rfl rfl blkT_block.2.2 fun p113 w114 e117 B115 k116 => ?_
    have ne118 : p1 ≠ p113 := by have h_ := B110.lt; omega
    have ne119 : p25 ≠ p113 := by have h_ := B111.lt; omega
    have lp120 : w0.heap.size ≤ p113 := by have h_ := K112.size; omega
    clear e117
    have B121 := B110.all k116 id
    have B122 := B111.all k116 id
    have K123 := K112.trans k116 (fun _ _ x => x)
    refine wl_store_blk blkT_block rfl rfl rfl rfl rfl B115 fun w124 B125 k126 => ?_
    have B127 := B121.all k126 ne118
    have B128 := B122.all k126 ne119
    have K129 := K123.trans k126 (fun _ hi e => absurd (e ▸ hi) (Nat.not_lt.2 lp120))
    refine wl_nil fun F130 hF131 => ?_
    have s132 : F130 0 = .int .i16 (n) := (hF131 0).trans s72
    have s133 : F130 1 = blkV (a) := (hF131 1).trans s73
    have s134 : F130 3 = .pointer (some ⟨p1, 0, none⟩) := (hF131 3).trans s74
    have s135 : F130 4 = .bool false := (hF131 4).trans s75
    have s136 : F130 5 = .bool true := (hF131 5).trans s76
    have s137 : F130 6 = .pointer (some ⟨p25, 0, none⟩) := (hF131 6).trans s77
    have s138 : F130 7 = .int .i64 (((16 : Nat) : Int)) := (hF131 7).trans s78
    have s139 : F130 12 = .bool (decide ((((16 : Nat) : Int)) < (16))) := (hF131 12).trans s79
    have s140 : F130 8 = .pointer (some ⟨p113, 0, none⟩) := (hF131 8).trans rfl
    clear hF131
    refine then_normal ?_
    refine wq_seq ?_
    refine wq_said [some 21, some 22, some 23, some 24, some 25, some 26, some 27, some 28, some 29, some 30, some 31, some 32, some 33, some 34, some 35, some 36, some 37, some 38, some 39, some 40, some 41, some 4] [Pd.eq (.bool true), Pd.eq (.bool true), Pd.eq (blkV (fun _ => n)), Pd.eq (blkV (fwd (clB 1048576 (fun _ => n)))), Pd.eq (.int .i16 (n)), Pd.eq (.int .i64 (n)), Pd.eq (.int .i64 ((16) * (n))), Pd.eq (blkV (blL [(16) * (n)])), Pd.eq (.bool true), Pd.eq (.bool true), Pd.eq (.bool true), Pd.eq (blkV (fun _ => 0)), Pd.eq (blkV (clB (32768) (a))), Pd.eq (blkV (lessB (fun _ => 0) (clB (32768) (a)))), Pd.eq (blkV (fwd (clB 1048576 (lessB (fun _ => 0) (clB (32768) (a)))))), Pd.eq (blkV (fun _ => 0)), Pd.eq (blkV (clB (32768) (a))), Pd.eq (blkV (fwd (clB 1048576 (clB (32768) (a))))), Pd.eq (blkV (lessB (fun _ => 0) (fwd (clB 1048576 (clB (32768) (a)))))), Pd.eq (.bool true), Pd.eq (.bool true), Pd.eq (.bool true)] (by kernel_rfl) (by kernel_rfl) ?_ ?_
    · refine stepsF_cons ?_ ?_
      · refine StepF.one rfl fun F_ w_ hR hout hD => ?_
        exact (y_mov rfl ((hout 5 (by decide)).trans s136) ⟨rfl, Kept.refl _ _⟩)
      refine stepsF_cons ?_ ?_
      · refine StepF.one rfl fun F_ w_ hR hout hD => ?_
        have g21 : F_ 21 = .bool true := hD.get 0 rfl rfl rfl
        exact (y_mov rfl g21 ⟨rfl, Kept.refl _ _⟩)
      refine stepsF_cons ?_ ?_
      · refine StepF.when 1 true 22 rfl rfl fun F_ w_ hR hout hD => ?_
        have g22 : F_ 22 = .bool true := hD.get 0 rfl rfl rfl
        exact ⟨g22, (y_load_blk blkT_block rfl ((hout 6 (by decide)).trans s137) (B128.all hR id) ⟨rfl, Kept.refl _ _⟩)⟩
      refine stepsF_cons ?_ ?_
      · refine StepF.when 1 true 22 rfl rfl fun F_ w_ hR hout hD => ?_
        have g22 : F_ 22 = .bool true := hD.get 1 rfl rfl rfl
        have g23 : F_ 23 = blkV (fun _ => n) := hD.get 0 rfl rfl rfl
        exact ⟨g22, (y_cs rfl rfl rfl (fun _ _ => by kernel_rfl) (ev_func _) (vsC g23 vsN) (forward_any (fun _ => n) _ (hw.all (K129.trans hR (fun _ _ x => x)))) (fun e_ w_ h_ => ⟨_, h_.1, rfl, h_.2⟩))⟩
      refine stepsF_cons ?_ ?_
      · refine StepF.when 1 true 22 rfl rfl fun F_ w_ hR hout hD => ?_
        have g22 : F_ 22 = .bool true := hD.get 0 rfl rfl rfl
        exact ⟨g22, (y_mov rfl ((hout 0 (by decide)).trans s132) ⟨rfl, Kept.refl _ _⟩)⟩
      refine stepsF_cons ?_ ?_
      · refine StepF.when 1 true 22 rfl rfl fun F_ w_ hR hout hD => ?_
        have g22 : F_ 22 = .bool true := hD.get 1 rfl rfl rfl
        have g25 : F_ 25 = .int .i16 (n) := hD.get 0 rfl rfl rfl
        exact ⟨g22, (y_convR rfl g25 Tryd.underlying33 Tryd.underlying3 (i64_i rfl (by omega)) ⟨rfl, Kept.refl _ _⟩)⟩
      refine stepsF_cons ?_ ?_
      · refine StepF.when 1 true 22 rfl rfl fun F_ w_ hR hout hD => ?_
        have g22 : F_ 22 = .bool true := hD.get 1 rfl rfl rfl
        have g26 : F_ 26 = .int .i64 (n) := hD.get 0 rfl rfl rfl
        exact ⟨g22, (y_mul rfl rfl g26 (i64_i rfl (by omega)) ⟨rfl, Kept.refl _ _⟩)⟩
      refine stepsF_cons ?_ ?_
      · refine StepF.when 1 true 22 rfl rfl fun F_ w_ hR hout hD => ?_
        have g22 : F_ 22 = .bool true := hD.get 1 rfl rfl rfl
        have g27 : F_ 27 = .int .i64 ((16) * (n)) := hD.get 0 rfl rfl rfl
        exact ⟨g22, (y_buildL (l' := [(0, .int .i64 ((16) * (n)))]) (cells := (arrL 16 (blL [(16) * (n)])).toArray) rfl (bpC g27 bpN) (by kernel_rfl) rfl ⟨rfl, Kept.refl _ _⟩)⟩
      refine stepsF_cons ?_ ?_
      · refine StepF.when 1 true 22 rfl rfl fun F_ w_ hR hout hD => ?_
        have g22 : F_ 22 = .bool true := hD.get 2 rfl rfl rfl
        have g24 : F_ 24 = blkV (fwd (clB 1048576 (fun _ => n))) := hD.get 0 rfl rfl rfl
        have g28 : F_ 28 = blkV (blL [(16) * (n)]) := hD.get 1 rfl rfl rfl
        exact ⟨g22, (y_sameR rfl g24 g28 (flat_law n hn) ⟨rfl, Kept.refl _ _⟩)⟩
      refine stepsF_cons ?_ ?_
      · refine StepF.one rfl fun F_ w_ hR hout hD => ?_
        have g22 : F_ 22 = .bool true := hD.get 0 rfl rfl rfl
        have g29 : F_ 29 = .bool true := hD.get 1 rfl rfl rfl
        exact (y_pickT rfl g22 g29 ⟨rfl, Kept.refl _ _⟩)
      refine stepsF_cons ?_ ?_
      · refine StepF.one rfl fun F_ w_ hR hout hD => ?_
        have g30 : F_ 30 = .bool true := hD.get 0 rfl rfl rfl
        exact (y_mov rfl g30 ⟨rfl, Kept.refl _ _⟩)
      refine stepsF_cons ?_ ?_
      · refine StepF.when 10 true 31 rfl rfl fun F_ w_ hR hout hD => ?_
        have g31 : F_ 31 = .bool true := hD.get 0 rfl rfl rfl
        exact ⟨g31, (y_buildR (cells := (arrL 16 (fun _ => 0)).toArray) rfl (by kernel_rfl) rfl ⟨rfl, Kept.refl _ _⟩)⟩
      refine stepsF_cons ?_ ?_
      · refine StepF.when 10 true 31 rfl rfl fun F_ w_ hR hout hD => ?_
        have g31 : F_ 31 = .bool true := hD.get 0 rfl rfl rfl
        exact ⟨g31, (y_load_blk blkT_block rfl ((hout 8 (by decide)).trans s140) (B125.all hR id) ⟨rfl, Kept.refl _ _⟩)⟩
      refine stepsF_cons ?_ ?_
      · refine StepF.when 10 true 31 rfl rfl fun F_ w_ hR hout hD => ?_
        have g31 : F_ 31 = .bool true := hD.get 2 rfl rfl rfl
        have g32 : F_ 32 = blkV (fun _ => 0) := hD.get 0 rfl rfl rfl
        have g33 : F_ 33 = blkV (clB (32768) (a)) := hD.get 1 rfl rfl rfl
        exact ⟨g31, (y_cs rfl rfl rfl (fun _ _ => by kernel_rfl) (ev_func _) (vsC g32 (vsC g33 vsN)) (less_any (fun _ => 0) (clB (32768) (a)) _ ) (fun e_ w_ h_ => ⟨_, h_.1, rfl, h_.2⟩))⟩
      refine stepsF_cons ?_ ?_
      · refine StepF.when 10 true 31 rfl rfl fun F_ w_ hR hout hD => ?_
        have g31 : F_ 31 = .bool true := hD.get 2 rfl rfl rfl
        have g34 : F_ 34 = blkV (lessB (fun _ => 0) (clB (32768) (a))) := hD.get 0 rfl rfl rfl
        exact ⟨g31, (y_cs rfl rfl rfl (fun _ _ => by kernel_rfl) (ev_func _) (vsC g34 vsN) (forward_any (lessB (fun _ => 0) (clB (32768) (a))) _ (hw.all (K129.trans hR (fun _ _ x => x)))) (fun e_ w_ h_ => ⟨_, h_.1, rfl, h_.2⟩))⟩
      refine stepsF_cons ?_ ?_
      · refine StepF.when 10 true 31 rfl rfl fun F_ w_ hR hout hD => ?_
        have g31 : F_ 31 = .bool true := hD.get 0 rfl rfl rfl
        exact ⟨g31, (y_buildR (cells := (arrL 16 (fun _ => 0)).toArray) rfl (by kernel_rfl) rfl ⟨rfl, Kept.refl _ _⟩)⟩
      refine stepsF_cons ?_ ?_
      · refine StepF.when 10 true 31 rfl rfl fun F_ w_ hR hout hD => ?_
        have g31 : F_ 31 = .bool true := hD.get 0 rfl rfl rfl
        exact ⟨g31, (y_load_blk blkT_block rfl ((hout 8 (by decide)).trans s140) (B125.all hR id) ⟨rfl, Kept.refl _ _⟩)⟩
      refine stepsF_cons ?_ ?_
      · refine StepF.when 10 true 31 rfl rfl fun F_ w_ hR hout hD => ?_
        have g31 : F_ 31 = .bool true := hD.get 2 rfl rfl rfl
        have g37 : F_ 37 = blkV (clB (32768) (a)) := hD.get 0 rfl rfl rfl
        exact ⟨g31, (y_cs rfl rfl rfl (fun _ _ => by kernel_rfl) (ev_func _) (vsC g37 vsN) (forward_any (clB (32768) (a)) _ (hw.all (K129.trans hR (fun _ _ x => x)))) (fun e_ w_ h_ => ⟨_, h_.1, rfl, h_.2⟩))⟩
      refine stepsF_cons ?_ ?_
      · refine StepF.when 10 true 31 rfl rfl fun F_ w_ hR hout hD => ?_
        have g31 : F_ 31 = .bool true := hD.get 3 rfl rfl rfl
        have g36 : F_ 36 = blkV (fun _ => 0) := hD.get 0 rfl rfl rfl
        have g38 : F_ 38 = blkV (fwd (clB 1048576 (clB (32768) (a)))) := hD.get 1 rfl rfl rfl
        exact ⟨g31, (y_cs rfl rfl rfl (fun _ _ => by kernel_rfl) (ev_func _) (vsC g36 (vsC g38 vsN)) (less_any (fun _ => 0) (fwd (clB 1048576 (clB (32768) (a)))) _ ) (fun e_ w_ h_ => ⟨_, h_.1, rfl, h_.2⟩))⟩
      refine stepsF_cons ?_ ?_
      · refine StepF.when 10 true 31 rfl rfl fun F_ w_ hR hout hD => ?_
        have g31 : F_ 31 = .bool true := hD.get 2 rfl rfl rfl
        have g35 : F_ 35 = blkV (fwd (clB 1048576 (lessB (fun _ => 0) (clB (32768) (a))))) := hD.get 0 rfl rfl rfl
        have g39 : F_ 39 = blkV (lessB (fun _ => 0) (fwd (clB 1048576 (clB (32768) (a))))) := hD.get 1 rfl rfl rfl
        exact ⟨g31, (y_sameR rfl g35 g39 (turned_law a) ⟨rfl, Kept.refl _ _⟩)⟩
      refine stepsF_cons ?_ ?_
      · refine StepF.one rfl fun F_ w_ hR hout hD => ?_
        have g31 : F_ 31 = .bool true := hD.get 0 rfl rfl rfl
        have g40 : F_ 40 = .bool true := hD.get 1 rfl rfl rfl
        exact (y_pickT rfl g31 g40 ⟨rfl, Kept.refl _ _⟩)
      refine stepsF_cons ?_ ?_
      · refine StepF.one rfl fun F_ w_ hR hout hD => ?_
        have g41 : F_ 41 = .bool true := hD.get 0 rfl rfl rfl
        exact (y_asg rfl g41 ⟨rfl, Kept.refl _ _⟩)
      exact stepsF_nil
    intro v141 F142 w143 k144 G145 hF146
    have B147 := B127.all k144 id
    have B148 := B128.all k144 id
    have B149 := B125.all k144 id
    have K150 := K129.trans k144 (fun _ _ x => x)
    have s151 : F142 0 = .int .i16 (n) := (hF146 0).trans s132
    have s152 : F142 1 = blkV (a) := (hF146 1).trans s133
    have s153 : F142 3 = .pointer (some ⟨p1, 0, none⟩) := (hF146 3).trans s134
    have s154 : F142 5 = .bool true := (hF146 5).trans s136
    have s155 : F142 6 = .pointer (some ⟨p25, 0, none⟩) := (hF146 6).trans s137
    have s156 : F142 7 = .int .i64 (((16 : Nat) : Int)) := (hF146 7).trans s138
    have s157 : F142 12 = .bool (decide ((((16 : Nat) : Int)) < (16))) := (hF146 12).trans s139
    have s158 : F142 8 = .pointer (some ⟨p113, 0, none⟩) := (hF146 8).trans s140
    have s159 : F142 4 = .bool true := (hF146 4).trans (G145 21 (by decide))
    clear G145 hF146
    refine then_normal ?_
    refine wq_ret ?_
    exact end_tmp (v := .bool true) rfl s159 ⟨rfl, K150⟩
end Go.Proofs.YtjfbfkjmbegacaaDoor
