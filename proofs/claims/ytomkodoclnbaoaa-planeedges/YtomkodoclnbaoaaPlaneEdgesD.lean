/- What PlaneEdges reaches of my texts, part 4. -/
import Derived.Test.YtomkodoclnbaoaaPlaneEdgesC
namespace Go.Proofs.Ytomkodoclnbaoaa
open Go.RowKit

section
variable {N : Nat} {Q : (Exit → (Nat → Value) → World → Prop)} {F : Nat → Value} {w : World} {P : Program}
def StepR (N : Nat) (P : Program) (R : World → World → Prop) (D : List (Option Tmp)) (G : Nat → Value → World → Prop) (F0 : Nat → Value) (w0 : World) (i : Nat) (o : Oper) : Prop :=
  ∀ (F : Nat → Value) (w : World), R w0 w → (∀ t, Nat.blt t N = true → some t ∉ D → F t = F0 t) → DepsF D G F w o.after.toList → o.guard = none ∧ Yields P (ev F) o w (fun v w' => G i v w' ∧ R w w')
def StepsR (N : Nat) (P : Program) (R : World → World → Prop) (D : List (Option Tmp)) (G : Nat → Value → World → Prop) (F0 : Nat → Value) (w0 : World) : Nat → List Oper → Prop
  | _, [] => True
  | i, o :: r => StepR N P R D G F0 w0 i o ∧ StepsR N P R D G F0 w0 (i + 1) r
theorem StepR.step {R : World → World → Prop} {D : List (Option Tmp)} {G : Nat → Value → World → Prop} {w0 : World} {i : Nat} {o : Oper} {a0 : Act} (ha : Fr N F a0) (h : StepR N P R D G F w0 i o) : Step P R D G a0 w0 i o := by
  intro a w hR hout hD
  have h1 := h (fun t => a.tmps.getD t undef) w hR (fun t hb ht => by rw [← ha.at' t hb]; exact hout t ht) hD.toF
  rw [← eval_ev a] at h1
  unfold goes
  rw [h1.1]
  exact ⟨fun _ => h1.2, fun e => by cases e⟩
theorem StepsR.steps {R : World → World → Prop} {D : List (Option Tmp)} {G : Nat → Value → World → Prop} {w0 : World} {a0 : Act} (ha : Fr N F a0) : ∀ {os : List Oper} {i : Nat}, StepsR N P R D G F w0 i os → Steps P R D G a0 w0 i os := by
  intro os
  induction os with
  | nil => intro i _; exact trivial
  | cons o r ih => intro i h; exact ⟨h.1.step ha, ih h.2⟩
theorem stepsR_nil {R : World → World → Prop} {D : List (Option Tmp)} {G : Nat → Value → World → Prop} {F0 : Nat → Value} {w0 : World} {i : Nat} : StepsR N P R D G F0 w0 i [] := trivial
theorem stepsR_cons {R : World → World → Prop} {D : List (Option Tmp)} {G : Nat → Value → World → Prop} {F0 : Nat → Value} {w0 : World} {i : Nat} {o : Oper} {r : List Oper} (hg : o.guard = none)
    (h : ∀ (F : Nat → Value) (w : World), R w0 w → (∀ t, Nat.blt t N = true → some t ∉ D → F t = F0 t) → DepsF D G F w o.after.toList → Yields P (ev F) o w (fun v w' => G i v w' ∧ R w w')) (k : StepsR N P R D G F0 w0 (i + 1) r) : StepsR N P R D G F0 w0 i (o :: r) := ⟨fun F w h1 h2 h3 => ⟨hg, h F w h1 h2 h3⟩, k⟩
theorem wq_tailR {id : Nat} {ops : Array Oper} (n : Nat) (R : World → World → Prop) (D : List (Option Tmp)) (G : Nat → Value → World → Prop) (hm : P.follows .mixedOrders = true) (hta : tailed ops.toList n = true) (hpl : plain N 0 D (ops.toList.take n) = true)
    (hrf : ∀ a, R a a) (htr : ∀ a b c, R a b → R b c → R a c) (hdr : R w w.drew) (hst : ∀ i v w w', G i v w → R w w' → G i v w') (hsteps : StepsR N P R D G F w 0 (ops.toList.take n))
    (hend : ∀ (v : Nat → Value) (F' : Nat → Value) (w' : World), R w w' → (∀ i, i < n → G i (v i) w') → (∀ t, F' t = putsF v 0 D F t) → wl none P N ops Q (ops.toList.drop n) F' w') : wq none P N (.region id ops true) Q F w := by
  intro a ha
  refine wpIn_wide.2 ?_
  refine wp_region_any hm ?_
  have T := tailed_all hta
  have hno : ∀ j, (Array.replicate ops.size false).getD j false = false := by
    intro j
    by_cases h : j < ops.size <;> simp [Array.getD, h]
  refine wpAny_tail n T R D G (by rw [ha.size]; exact hpl) hrf htr hst (hsteps.steps ha) (fun v w' hk hG => hend v _ w' hk hG (fun _ => rfl) _ (putAll_fr v D 0 F a ha (plain_fits hpl))) ops.size _ (fun _ => undef) a _ ⟨rfl, by simp, rfl, hdr, fun _ _ => rfl, fun j _ hj => ?_, fun j hj => ?_⟩ ?_ ?_ ?_
  · rw [hno] at hj; cases hj
  · rw [hno] at hj; cases hj
  · intro k o _ hl; rw [hno] at hl; cases hl
  · intro j _; exact hno j
  · exact Nat.le_trans (List.countP_le_length) (by simp)
end

def repL (L : List Nat) (n k : Nat) : List Nat := L.take (0 + k) ++ ((((L.drop 0).take (n - 0)).drop 0).take (k - 0) |>.take (n - 0 - k) |> (· ++ L.drop (0 + k + min (n - 0 - k) (((((L.drop 0).take (n - 0)).drop 0).take (k - 0)).length))))
theorem repL_eq {L : List Nat} {n k : Nat} (hL : L.length = n) (hk : k ≤ n) : repL L n k = L.take k ++ (L.take (min (n - k) k) ++ L.drop (k + min (n - k) k)) := by
  unfold repL
  have e : ((((L.drop 0).take (n - 0)).drop 0).take (k - 0)) = L.take k := by simp; rw [← hL, List.take_length]
  rw [e]
  simp only [Nat.zero_add, Nat.sub_zero, List.take_take, List.length_take]
  rw [show min (n - k) (min k L.length) = min (n - k) k by omega]
theorem repL_length {L : List Nat} {n k : Nat} (hL : L.length = n) (hk : k ≤ n) : (repL L n k).length = n := by rw [repL_eq hL hk]; simp; omega
theorem repL_take {L : List Nat} {n k s : Nat} (hL : L.length = n) (hk : k ≤ n) (h : L.take k = List.replicate k s) : (repL L n k).take (k + min (n - k) k) = List.replicate (k + min (n - k) k) s := by
  rw [repL_eq hL hk, h, show L.take (min (n - k) k) = (L.take k).take (min (n - k) k) by rw [List.take_take]; congr 1; omega, h, List.take_replicate, show min (min (n - k) k) k = min (n - k) k by omega, ← List.append_assoc, List.replicate_append_replicate]
  rw [List.take_append_of_le_length (by simp), List.take_of_length_le (by simp)]
theorem repL_again {L : List Nat} {n k s : Nat} (hL : L.length = n) (hk : k ≤ n) (h : L.take k = List.replicate k s) : repL (repL L n k) n k = repL L n k := by
  have h2 := repL_length hL hk
  have h3 := repL_take hL hk h
  rw [repL_eq h2 hk]
  have e1 : (repL L n k).take k = List.replicate k s := by
    have : (repL L n k).take k = ((repL L n k).take (k + min (n - k) k)).take k := by rw [List.take_take]; congr 1; omega
    rw [this, h3, List.take_replicate]; congr 1; omega
  have e2 : (repL L n k).take (min (n - k) k) = List.replicate (min (n - k) k) s := by
    have : (repL L n k).take (min (n - k) k) = ((repL L n k).take (k + min (n - k) k)).take (min (n - k) k) := by rw [List.take_take]; congr 1; omega
    rw [this, h3, List.take_replicate]; congr 1; omega
  rw [e1, e2, ← List.append_assoc, List.replicate_append_replicate, ← h3, List.take_append_drop]
theorem rep_start {J l : List Nat} {n s : Nat} (hJ : J.length = n) (hn : 1 ≤ n) (hl : l.length = 1) (hs : l.getD 0 0 = s) : (J.take 0 ++ (l.take (n - 0) ++ J.drop (0 + min (n - 0) l.length))).length = n ∧ (J.take 0 ++ (l.take (n - 0) ++ J.drop (0 + min (n - 0) l.length))).take 1 = List.replicate 1 s := by
  obtain ⟨z, rfl⟩ : ∃ z, l = [z] := by
    match l, hl with
    | [z], _ => exact ⟨z, rfl⟩
  obtain rfl : z = s := by simpa using hs
  obtain ⟨m, rfl⟩ : ∃ m, n = m + 1 := ⟨n - 1, by omega⟩
  constructor
  · simp; omega
  · simp
theorem rep_done {L : List Nat} {n k s : Nat} (hk : k = n) (h : L.take k = List.replicate k s) : List.replicate n s = ((L.drop 0).take (n - 0)) := by
  subst hk; rw [List.drop_zero, Nat.sub_zero, h]

/-- What may become of the row, and of nothing else. -/
def RepR (T : Nat → Prop) (v : Value) (L L' : List Nat) (a b : World) : Prop := Kept T a b ∧ (Owb a T v L' → Owb b T v L') ∧ (Owb a T v L → Owb b T v L ∨ Owb b T v L')
theorem RepR.refl {T : Nat → Prop} {v : Value} {L L' : List Nat} (a : World) : RepR T v L L' a a := ⟨Kept.refl _ _, id, .inl⟩
theorem RepR.trans {T : Nat → Prop} {v : Value} {L L' : List Nat} {a b c : World} (h : RepR T v L L' a b) (k : RepR T v L L' b c) : RepR T v L L' a c :=
  ⟨h.1.trans k.1 (fun _ _ x => x), fun x => k.2.1 (h.2.1 x), fun x => (h.2.2 x).elim k.2.2 (fun y => .inr (k.2.1 y))⟩
theorem RepR.drew {T : Nat → Prop} {v : Value} {L L' : List Nat} (a : World) : RepR T v L L' a a.drew :=
  ⟨(Kept.refl _ _).drew, fun h => h.all (S := fun _ => False) (Kept.refl _ _).drew Apart.none, fun h => .inl (h.all (S := fun _ => False) (Kept.refl _ _).drew Apart.none)⟩
/-- What each operation answers. -/
def RepG (T : Nat → Prop) (v : Value) (L' : List Nat) (vs : List Value) (i : Nat) (x : Value) (w : World) : Prop := x = vs.getD i undef ∧ (i = 7 → Owb w T v L')
theorem RepG.stays {T : Nat → Prop} {v : Value} {L L' : List Nat} {vs : List Value} (i : Nat) (x : Value) (w w' : World) (h : RepG T v L' vs i x w) (k : RepR T v L L' w w') : RepG T v L' vs i x w' := ⟨h.1, fun e => k.2.1 (h.2 e)⟩
theorem Byt.of_eq {w : World} {T : Nat → Prop} {v : Value} {l m : List Nat} (e : m = l) (h : Byt w T v l) : Byt w T v m := e ▸ h
theorem Owb.len {w : World} {T : Nat → Prop} {v : Value} {L : List Nat} (h : Owb w T v L) : Byt w T v L := h.byt
theorem rep_turn {ρ : Operand → Value} {o : Oper} {w w0 : World} {T : Nat → Prop} {v : Value} {L : List Nat} {n k s : Nat} {c : Call} {x y : Operand} {vs : List Value} (ho : o.op = .call c) (hc : c = { callee := .builtin .copy, args := #[x, y], argTypes := #[22, 22] }) (hx : ρ x = subV (subV v 0 n n) k (n - 0) (n - 0)) (hy : ρ y = subV (subV v 0 n n) 0 k (n - 0))
    (hL : L.length = n) (hk : k ≤ n) (ht : L.take k = List.replicate k s) (h0 : Owb w0 T v L) (hR : RepR T v L (repL L n k) w0 w) (hvs : vs.getD 7 undef = .int .i64 ((min (n - k) k : Nat) : Int)) :
    Yields Try.prog ρ o w (fun r w' => RepG T v (repL L n k) vs 7 r w' ∧ RepR T v L (repL L n k) w w') := by
  have main : ∀ M : List Nat, Owb w T v M → M.length = n → repL M n k = repL L n k → Yields Try.prog ρ o w (fun r w' => RepG T v (repL L n k) vs 7 r w' ∧ RepR T v L (repL L n k) w w') := by
    intro M hM hMl he
    have hb : Byt w T (subV (subV v 0 n n) 0 k (n - 0)) ((((M.drop 0).take (n - 0)).drop 0).take (k - 0)) := by
      have h1 : Byt w T (subV v 0 n n) ((M.drop 0).take (n - 0)) := hM.byt.sub (by omega) (by omega) (by omega) (by have := hM.byt.cap; omega)
      have hcap : capV (subV v 0 n n) = n - 0 := by
        obtain ⟨a, e⟩ := sub_len hM.byt 0 n n
        rw [e]; rfl
      exact h1.sub (by omega) (by omega) (by simp; omega) (by rw [hcap]; omega)
    obtain ⟨w', hr, h1, h2⟩ := run_copyM (off := 0 + k) (n := n - 0 - k) ho hc (by rw [hx]; exact part_sub2 hM.byt (Nat.le_refl _) (Nat.le_refl _) rfl) hy hM hb (by omega)
    have h1' : Owb w' T v (repL L n k) := by rw [← he]; exact h1
    refine y_val hr ⟨⟨?_, fun _ => h1'⟩, h2, fun _ => h1', fun _ => .inr h1'⟩
    rw [hvs]
    congr 2
    simp; omega
  rcases hR.2.2 h0 with h | h
  · exact main L h hL rfl
  · exact main _ h (repL_length hL hk) (repL_again hL hk ht)
theorem rep_cutL {ρ : Operand → Value} {o : Oper} {w w0 : World} {R : Value → World → Prop} {T : Nat → Prop} {v : Value} {L : List Nat} {n k : Nat} {x lo : Operand} (ho : o.op = .slice 22 x (some lo) none none) (hx : ρ x = subV v 0 n n) (hl : ρ lo = .int .i64 (k : Int)) (hk : k ≤ n) (h0 : Owb w0 T v L) (hR : RepR T v L (repL L n k) w0 w) (h : R (subV (subV v 0 n n) k (n - 0) (n - 0)) w) : Yields Try.prog ρ o w R := by
  rcases hR.2.2 h0 with hb | hb
  · exact y_cut2L k ho hx hl rfl hb.byt (by omega) h
  · exact y_cut2L k ho hx hl rfl hb.byt (by omega) h
theorem rep_cutH {ρ : Operand → Value} {o : Oper} {w w0 : World} {R : Value → World → Prop} {T : Nat → Prop} {v : Value} {L : List Nat} {n k : Nat} {x hi : Operand} (ho : o.op = .slice 22 x none (some hi) none) (hx : ρ x = subV v 0 n n) (hl : ρ hi = .int .i64 (k : Int)) (hk : k ≤ n) (h0 : Owb w0 T v L) (hR : RepR T v L (repL L n k) w0 w) (h : R (subV (subV v 0 n n) 0 k (n - 0)) w) : Yields Try.prog ρ o w R := by
  rcases hR.2.2 h0 with hb | hb
  · exact y_cut2H k ho hx hl rfl hb.byt (by omega) h
  · exact y_cut2H k ho hx hl rfl hb.byt (by omega) h

theorem y_andR {P : Program} {ρ : Operand → Value} {o : Oper} {w : World} {R : Value → World → Prop} {t t' : TypeId} {k : IntKind} {x y : Operand} {m n r : Int} (ho : o.op = .binOp .and t x y t') (hx : ρ x = .int k m) (hy : ρ y = .int k n) (hr : bits .and k m n = r) (h : R (.int k r) w) : Yields P ρ o w R :=
  y_of (v := .int k (bits .and k m n)) (w' := w) (by simp [execOp, ho, hx, hy, go_sem]) (by rw [hr]; exact h)
theorem u64_small {n : Nat} (h : n < 18446744073709551616) : IntKind.u64.wrap ((n : Nat) : Int) = ((n : Nat) : Int) := by
  unfold IntKind.wrap; simp [IntKind.signed, IntKind.bits]; omega
theorem u64_mul {a b : Nat} (h : a * b < 18446744073709551616) : IntKind.u64.wrap ((a : Int) * (b : Int)) = ((a * b : Nat) : Int) := by rw [← Int.natCast_mul]; exact u64_small h
theorem and32 {n : Nat} (h : n < 4294967296) : bits .and .u64 ((n : Nat) : Int) 4294967295 = ((n : Nat) : Int) := by
  have e := u64_and_nat n 4294967295 (by omega) (by omega)
  rw [show ((4294967295 : Nat) : Int) = 4294967295 from rfl] at e
  rw [e, show (4294967295 : Nat) = 2 ^ 32 - 1 from rfl, Nat.and_two_pow_sub_one_eq_mod, Nat.mod_eq_of_lt (by simpa using h)]
theorem shr32 {n : Nat} (h : n < 4294967296) : ((n : Nat) : Int) / 2 ^ 32 = ((0 : Nat) : Int) := by
  have : (2 : Int) ^ 32 = 4294967296 := by decide
  rw [this]; omega
end Go.Proofs.Ytomkodoclnbaoaa
namespace Go.Proofs.Ytomkodoclnbaoaa
open Go.RowKit
set_option maxHeartbeats 4000000 in
set_option maxRecDepth 100000 in
theorem ps_mul64 (x y : Nat) (w0 : World) (hx : x < 4294967296) (hy : y < 4294967296) (hxy : x * y < 4294967296) :
    Calls Try.prog 44 #[.int .u64 (((x : Nat) : Int)), .int .u64 (((y : Nat) : Int))] w0 fun e w' => e = .returned (.tuple #[.int .u64 (((0 : Nat) : Int)), .int .u64 (((x * y : Nat) : Int))]) ∧ Kept (fun _ => False) w0 w' := by
  refine calls_wq (args := [.int .u64 (((x : Nat) : Int)), .int .u64 (((y : Nat) : Int))]) 51 Try.func44 rfl rfl (Nat.le_of_ble_eq_true rfl) ?_
  have K0 := Kept.refl (fun _ => False) w0
  refine wq_seq ?_
  refine wq_region ?_
  refine wl_v (.int .u64 (0)) rfl rfl (y_asg rfl rfl ⟨rfl, rfl⟩) ?_
  refine wl_v (.int .u64 (0)) rfl rfl (y_asg rfl rfl ⟨rfl, rfl⟩) ?_
  refine wl_nil fun F1 hF2 => ?_
  have s3 : F1 0 = .int .u64 (((x : Nat) : Int)) := (hF2 0).trans rfl
  have s4 : F1 1 = .int .u64 (((y : Nat) : Int)) := (hF2 1).trans rfl
  have s5 : F1 51 = undef := (hF2 51).trans rfl
  clear hF2
  refine then_normal ?_
  refine wq_seq ?_
  refine wq_region ?_
  refine wl_v (.int .u64 (((x : Nat) : Int))) rfl rfl (y_mov rfl s3 ⟨rfl, rfl⟩) ?_
  refine wl_v (.int .u64 (((x : Nat) : Int))) rfl rfl (y_andR rfl rfl rfl (and32 hx) ⟨rfl, rfl⟩) ?_
  refine wl_v (.int .u64 (((x : Nat) : Int))) rfl rfl (y_asg rfl rfl ⟨rfl, rfl⟩) ?_
  refine wl_nil fun F6 hF7 => ?_
  have s8 : F6 0 = .int .u64 (((x : Nat) : Int)) := (hF7 0).trans s3
  have s9 : F6 1 = .int .u64 (((y : Nat) : Int)) := (hF7 1).trans s4
  have s10 : F6 51 = undef := (hF7 51).trans s5
  have s11 : F6 6 = .int .u64 (((x : Nat) : Int)) := (hF7 6).trans rfl
  clear hF7
  refine then_normal ?_
  refine wq_seq ?_
  refine wq_region ?_
  refine wl_v (.int .u64 (((x : Nat) : Int))) rfl rfl (y_mov rfl s8 ⟨rfl, rfl⟩) ?_
  refine wl_v (.int .u64 (((0 : Nat) : Int))) rfl rfl (y_shrR 32 rfl rfl rfl (by decide) (shr32 hx) ⟨rfl, rfl⟩) ?_
  refine wl_v (.int .u64 (((0 : Nat) : Int))) rfl rfl (y_asg rfl rfl ⟨rfl, rfl⟩) ?_
  refine wl_nil fun F12 hF13 => ?_
  have s14 : F12 0 = .int .u64 (((x : Nat) : Int)) := (hF13 0).trans s8
  have s15 : F12 1 = .int .u64 (((y : Nat) : Int)) := (hF13 1).trans s9
  have s16 : F12 51 = undef := (hF13 51).trans s10
  have s17 : F12 6 = .int .u64 (((x : Nat) : Int)) := (hF13 6).trans s11
  have s18 : F12 7 = .int .u64 (((0 : Nat) : Int)) := (hF13 7).trans rfl
  clear hF13
  refine then_normal ?_
  refine wq_seq ?_
  refine wq_region ?_
  refine wl_v (.int .u64 (((y : Nat) : Int))) rfl rfl (y_mov rfl s15 ⟨rfl, rfl⟩) ?_
  refine wl_v (.int .u64 (((y : Nat) : Int))) rfl rfl (y_andR rfl rfl rfl (and32 hy) ⟨rfl, rfl⟩) ?_
  refine wl_v (.int .u64 (((y : Nat) : Int))) rfl rfl (y_asg rfl rfl ⟨rfl, rfl⟩) ?_
  refine wl_nil fun F19 hF20 => ?_
  have s21 : F19 0 = .int .u64 (((x : Nat) : Int)) := (hF20 0).trans s14
  have s22 : F19 1 = .int .u64 (((y : Nat) : Int)) := (hF20 1).trans s15
  have s23 : F19 51 = undef := (hF20 51).trans s16
  have s24 : F19 6 = .int .u64 (((x : Nat) : Int)) := (hF20 6).trans s17
  have s25 : F19 7 = .int .u64 (((0 : Nat) : Int)) := (hF20 7).trans s18
  have s26 : F19 8 = .int .u64 (((y : Nat) : Int)) := (hF20 8).trans rfl
  clear hF20
  refine then_normal ?_
  refine wq_seq ?_
  refine wq_region ?_
  refine wl_v (.int .u64 (((y : Nat) : Int))) rfl rfl (y_mov rfl s22 ⟨rfl, rfl⟩) ?_
  refine wl_v (.int .u64 (((0 : Nat) : Int))) rfl rfl (y_shrR 32 rfl rfl rfl (by decide) (shr32 hy) ⟨rfl, rfl⟩) ?_
  refine wl_v (.int .u64 (((0 : Nat) : Int))) rfl rfl (y_asg rfl rfl ⟨rfl, rfl⟩) ?_
  refine wl_nil fun F27 hF28 => ?_
  have s29 : F27 0 = .int .u64 (((x : Nat) : Int)) := (hF28 0).trans s21
  have s30 : F27 1 = .int .u64 (((y : Nat) : Int)) := (hF28 1).trans s22
  have s31 : F27 51 = undef := (hF28 51).trans s23
  have s32 : F27 6 = .int .u64 (((x : Nat) : Int)) := (hF28 6).trans s24
  have s33 : F27 7 = .int .u64 (((0 : Nat) : Int)) := (hF28 7).trans s25
  have s34 : F27 8 = .int .u64 (((y : Nat) : Int)) := (hF28 8).trans s26
  have s35 : F27 9 = .int .u64 (((0 : Nat) : Int)) := (hF28 9).trans rfl
  clear hF28
  refine then_normal ?_
  refine wq_seq ?_
  refine wq_region ?_
  refine wl_v (.int .u64 (((x : Nat) : Int))) rfl rfl (y_mov rfl s32 ⟨rfl, rfl⟩) ?_
  refine wl_v (.int .u64 (((y : Nat) : Int))) rfl rfl (y_mov rfl s34 ⟨rfl, rfl⟩) ?_
  refine wl_v (.int .u64 (((x * y : Nat) : Int))) rfl rfl (y_mul rfl rfl rfl (u64_mul (by omega)) ⟨rfl, rfl⟩) ?_
  refine wl_v (.int .u64 (((x * y : Nat) : Int))) rfl rfl (y_asg rfl rfl ⟨rfl, rfl⟩) ?_
  refine wl_nil fun F36 hF37 => ?_
  have s38 : F36 0 = .int .u64 (((x : Nat) : Int)) := (hF37 0).trans s29
  have s39 : F36 1 = .int .u64 (((y : Nat) : Int)) := (hF37 1).trans s30
  have s40 : F36 51 = undef := (hF37 51).trans s31
  have s41 : F36 6 = .int .u64 (((x : Nat) : Int)) := (hF37 6).trans s32
  have s42 : F36 7 = .int .u64 (((0 : Nat) : Int)) := (hF37 7).trans s33
  have s43 : F36 8 = .int .u64 (((y : Nat) : Int)) := (hF37 8).trans s34
  have s44 : F36 9 = .int .u64 (((0 : Nat) : Int)) := (hF37 9).trans s35
  have s45 : F36 10 = .int .u64 (((x * y : Nat) : Int)) := (hF37 10).trans rfl
  clear hF37
  refine then_normal ?_
  refine wq_seq ?_
  refine wq_region ?_
  refine wl_v (.int .u64 (((0 : Nat) : Int))) rfl rfl (y_mov rfl s42 ⟨rfl, rfl⟩) ?_
  refine wl_v (.int .u64 (((y : Nat) : Int))) rfl rfl (y_mov rfl s43 ⟨rfl, rfl⟩) ?_
  refine wl_v (.int .u64 (((0 : Nat) : Int))) rfl rfl (y_mul rfl rfl rfl (by rw [show (((0 : Nat) : Int)) * ((y : Nat) : Int) = ((0 : Nat) : Int) by simp]; rfl) ⟨rfl, rfl⟩) ?_
  refine wl_v (.int .u64 (((x * y : Nat) : Int))) rfl rfl (y_mov rfl s45 ⟨rfl, rfl⟩) ?_
  refine wl_v (.int .u64 (((0 : Nat) : Int))) rfl rfl (y_shrR 32 rfl rfl rfl (by decide) (shr32 hxy) ⟨rfl, rfl⟩) ?_
  refine wl_v (.int .u64 (((0 : Nat) : Int))) rfl rfl (y_add rfl rfl rfl (rfl) ⟨rfl, rfl⟩) ?_
  refine wl_v (.int .u64 (((0 : Nat) : Int))) rfl rfl (y_asg rfl rfl ⟨rfl, rfl⟩) ?_
  refine wl_nil fun F46 hF47 => ?_
  have s48 : F46 0 = .int .u64 (((x : Nat) : Int)) := (hF47 0).trans s38
  have s49 : F46 1 = .int .u64 (((y : Nat) : Int)) := (hF47 1).trans s39
  have s50 : F46 51 = undef := (hF47 51).trans s40
  have s51 : F46 6 = .int .u64 (((x : Nat) : Int)) := (hF47 6).trans s41
  have s52 : F46 7 = .int .u64 (((0 : Nat) : Int)) := (hF47 7).trans s42
  have s53 : F46 9 = .int .u64 (((0 : Nat) : Int)) := (hF47 9).trans s44
  have s54 : F46 11 = .int .u64 (((0 : Nat) : Int)) := (hF47 11).trans rfl
  clear hF47
  refine then_normal ?_
  refine wq_seq ?_
  refine wq_region ?_
  refine wl_v (.int .u64 (((0 : Nat) : Int))) rfl rfl (y_mov rfl s54 ⟨rfl, rfl⟩) ?_
  refine wl_v (.int .u64 (((0 : Nat) : Int))) rfl rfl (y_andR rfl rfl rfl (and32 (by decide)) ⟨rfl, rfl⟩) ?_
  refine wl_v (.int .u64 (((0 : Nat) : Int))) rfl rfl (y_asg rfl rfl ⟨rfl, rfl⟩) ?_
  refine wl_nil fun F55 hF56 => ?_
  have s57 : F55 0 = .int .u64 (((x : Nat) : Int)) := (hF56 0).trans s48
  have s58 : F55 1 = .int .u64 (((y : Nat) : Int)) := (hF56 1).trans s49
  have s59 : F55 51 = undef := (hF56 51).trans s50
  have s60 : F55 6 = .int .u64 (((x : Nat) : Int)) := (hF56 6).trans s51
  have s61 : F55 7 = .int .u64 (((0 : Nat) : Int)) := (hF56 7).trans s52
  have s62 : F55 9 = .int .u64 (((0 : Nat) : Int)) := (hF56 9).trans s53
  have s63 : F55 11 = .int .u64 (((0 : Nat) : Int)) := (hF56 11).trans s54
  have s64 : F55 12 = .int .u64 (((0 : Nat) : Int)) := (hF56 12).trans rfl
  clear hF56
  refine then_normal ?_
  refine wq_seq ?_
  refine wq_region ?_
  refine wl_v (.int .u64 (((0 : Nat) : Int))) rfl rfl (y_mov rfl s63 ⟨rfl, rfl⟩) ?_
  refine wl_v (.int .u64 (((0 : Nat) : Int))) rfl rfl (y_shrR 32 rfl rfl rfl (by decide) (shr32 (by decide)) ⟨rfl, rfl⟩) ?_
  refine wl_v (.int .u64 (((0 : Nat) : Int))) rfl rfl (y_asg rfl rfl ⟨rfl, rfl⟩) ?_
  refine wl_nil fun F65 hF66 => ?_
  have s67 : F65 0 = .int .u64 (((x : Nat) : Int)) := (hF66 0).trans s57
  have s68 : F65 1 = .int .u64 (((y : Nat) : Int)) := (hF66 1).trans s58
  have s69 : F65 51 = undef := (hF66 51).trans s59
  have s70 : F65 6 = .int .u64 (((x : Nat) : Int)) := (hF66 6).trans s60
  have s71 : F65 7 = .int .u64 (((0 : Nat) : Int)) := (hF66 7).trans s61
  have s72 : F65 9 = .int .u64 (((0 : Nat) : Int)) := (hF66 9).trans s62
  have s73 : F65 12 = .int .u64 (((0 : Nat) : Int)) := (hF66 12).trans s64
  have s74 : F65 13 = .int .u64 (((0 : Nat) : Int)) := (hF66 13).trans rfl
  clear hF66
  refine then_normal ?_
  refine wq_seq ?_
  refine wq_region ?_
  refine wl_v (.int .u64 (((0 : Nat) : Int))) rfl rfl (y_mov rfl s73 ⟨rfl, rfl⟩) ?_
  refine wl_v (.int .u64 (((x : Nat) : Int))) rfl rfl (y_mov rfl s70 ⟨rfl, rfl⟩) ?_
  refine wl_v (.int .u64 (((0 : Nat) : Int))) rfl rfl (y_mov rfl s72 ⟨rfl, rfl⟩) ?_
  refine wl_v (.int .u64 (((0 : Nat) : Int))) rfl rfl (y_mul rfl rfl rfl (by rw [show ((x : Nat) : Int) * (((0 : Nat) : Int)) = ((0 : Nat) : Int) by simp]; rfl) ⟨rfl, rfl⟩) ?_
  refine wl_v (.int .u64 (((0 : Nat) : Int))) rfl rfl (y_add rfl rfl rfl (rfl) ⟨rfl, rfl⟩) ?_
  refine wl_v (.int .u64 (((0 : Nat) : Int))) rfl rfl (y_asg rfl rfl ⟨rfl, rfl⟩) ?_
  refine wl_nil fun F75 hF76 => ?_
  have s77 : F75 0 = .int .u64 (((x : Nat) : Int)) := (hF76 0).trans s67
  have s78 : F75 1 = .int .u64 (((y : Nat) : Int)) := (hF76 1).trans s68
  have s79 : F75 51 = undef := (hF76 51).trans s69
  have s80 : F75 7 = .int .u64 (((0 : Nat) : Int)) := (hF76 7).trans s71
  have s81 : F75 9 = .int .u64 (((0 : Nat) : Int)) := (hF76 9).trans s72
  have s82 : F75 13 = .int .u64 (((0 : Nat) : Int)) := (hF76 13).trans s74
  have s83 : F75 12 = .int .u64 (((0 : Nat) : Int)) := (hF76 12).trans rfl
  clear hF76
  refine then_normal ?_
  refine wq_seq ?_
  refine wq_region ?_
  refine wl_v (.int .u64 (((0 : Nat) : Int))) rfl rfl (y_mov rfl s80 ⟨rfl, rfl⟩) ?_
  refine wl_v (.int .u64 (((0 : Nat) : Int))) rfl rfl (y_mov rfl s81 ⟨rfl, rfl⟩) ?_
  refine wl_v (.int .u64 (((0 : Nat) : Int))) rfl rfl (y_mul rfl rfl rfl (rfl) ⟨rfl, rfl⟩) ?_
  refine wl_v (.int .u64 (((0 : Nat) : Int))) rfl rfl (y_mov rfl s82 ⟨rfl, rfl⟩) ?_
  refine wl_v (.int .u64 (((0 : Nat) : Int))) rfl rfl (y_add rfl rfl rfl (rfl) ⟨rfl, rfl⟩) ?_
  refine wl_v (.int .u64 (((0 : Nat) : Int))) rfl rfl (y_mov rfl s83 ⟨rfl, rfl⟩) ?_
  refine wl_v (.int .u64 (((0 : Nat) : Int))) rfl rfl (y_shrR 32 rfl rfl rfl (by decide) (shr32 (by decide)) ⟨rfl, rfl⟩) ?_
  refine wl_v (.int .u64 (((0 : Nat) : Int))) rfl rfl (y_add rfl rfl rfl (rfl) ⟨rfl, rfl⟩) ?_
  refine wl_v (.int .u64 (((0 : Nat) : Int))) rfl rfl (y_asg rfl rfl ⟨rfl, rfl⟩) ?_
  refine wl_nil fun F84 hF85 => ?_
  have s86 : F84 0 = .int .u64 (((x : Nat) : Int)) := (hF85 0).trans s77
  have s87 : F84 1 = .int .u64 (((y : Nat) : Int)) := (hF85 1).trans s78
  have s88 : F84 51 = undef := (hF85 51).trans s79
  have s89 : F84 4 = .int .u64 (((0 : Nat) : Int)) := (hF85 4).trans rfl
  clear hF85
  refine then_normal ?_
  refine wq_seq ?_
  refine wq_region ?_
  refine wl_v (.int .u64 (((x : Nat) : Int))) rfl rfl (y_mov rfl s86 ⟨rfl, rfl⟩) ?_
  refine wl_v (.int .u64 (((y : Nat) : Int))) rfl rfl (y_mov rfl s87 ⟨rfl, rfl⟩) ?_
  refine wl_v (.int .u64 (((x * y : Nat) : Int))) rfl rfl (y_mul rfl rfl rfl (u64_mul (by omega)) ⟨rfl, rfl⟩) ?_
  refine wl_v (.int .u64 (((x * y : Nat) : Int))) rfl rfl (y_asg rfl rfl ⟨rfl, rfl⟩) ?_
  refine wl_nil fun F90 hF91 => ?_
  have s92 : F90 51 = undef := (hF91 51).trans s88
  have s93 : F90 4 = .int .u64 (((0 : Nat) : Int)) := (hF91 4).trans s89
  have s94 : F90 5 = .int .u64 (((x * y : Nat) : Int)) := (hF91 5).trans rfl
  clear hF91
  refine then_normal ?_
  refine wq_ret ?_
  exact end_2 s92 rfl (res_tmp (v := .int .u64 (((0 : Nat) : Int))) rfl s93) (res_tmp (v := .int .u64 (((x * y : Nat) : Int))) rfl s94) ⟨rfl, K0⟩
set_option maxHeartbeats 4000000 in
set_option maxRecDepth 100000 in
theorem ps_mul (x y : Nat) (w0 : World) (hx : x < 4294967296) (hy : y < 4294967296) (hxy : x * y < 4294967296) :
    Calls Try.prog 41 #[.int .u64 (((x : Nat) : Int)), .int .u64 (((y : Nat) : Int))] w0 fun e w' => e = .returned (.tuple #[.int .u64 (((0 : Nat) : Int)), .int .u64 (((x * y : Nat) : Int))]) ∧ Kept (fun _ => False) w0 w' := by
  refine calls_wq (args := [.int .u64 (((x : Nat) : Int)), .int .u64 (((y : Nat) : Int))]) 30 Try.func41 rfl rfl (Nat.le_of_ble_eq_true rfl) ?_
  have K0 := Kept.refl (fun _ => False) w0
  refine wq_seq ?_
  refine wq_region ?_
  refine wl_v (.int .u64 (0)) rfl rfl (y_asg rfl rfl ⟨rfl, rfl⟩) ?_
  refine wl_v (.int .u64 (0)) rfl rfl (y_asg rfl rfl ⟨rfl, rfl⟩) ?_
  refine wl_nil fun F1 hF2 => ?_
  have s3 : F1 0 = .int .u64 (((x : Nat) : Int)) := (hF2 0).trans rfl
  have s4 : F1 1 = .int .u64 (((y : Nat) : Int)) := (hF2 1).trans rfl
  have s5 : F1 30 = undef := (hF2 30).trans rfl
  clear hF2
  refine then_normal ?_
  refine wq_seq ?_
  refine wq_cond (t := false) rfl (fun e => by cases e) (fun _ => ?_)
  refine wq_skip ?_
  refine then_normal ?_
  refine wq_seq ?_
  refine wq_region ?_
  refine wl_v (.int .u64 (((x : Nat) : Int))) rfl rfl (y_mov rfl s3 ⟨rfl, rfl⟩) ?_
  refine wl_v (.int .u64 (((y : Nat) : Int))) rfl rfl (y_mov rfl s4 ⟨rfl, rfl⟩) ?_
  refine wl_call (R := fun v_ w_ => v_ = .tuple #[.int .u64 (((0 : Nat) : Int)), .int .u64 ((((x) * (y) : Nat) : Int))] ∧ Kept (fun _ => False) w0 w_) rfl rfl (y_cs rfl rfl rfl (fun _ _ => by kernel_rfl) (ev_func _) (vsC rfl (vsC rfl vsN)) (ps_mul64 (x) (y)  _ hx hy hxy  ) (fun e_ w_ h_ => ⟨_, h_.1, rfl, h_.2⟩)) ?_
  rintro _ w6 ⟨rfl, k7⟩
  have K8 := K0.trans k7 (fun _ _ x => x.elim)
  refine wl_v (.tuple #[.int .u64 (((0 : Nat) : Int)), .int .u64 ((((x) * (y) : Nat) : Int))]) rfl rfl (y_mov rfl rfl ⟨rfl, rfl⟩) ?_
  refine wl_v (.int .u64 (((0 : Nat) : Int))) rfl rfl (y_ext rfl rfl rfl ⟨rfl, rfl⟩) ?_
  refine wl_v (.int .u64 ((((x) * (y) : Nat) : Int))) rfl rfl (y_ext rfl rfl rfl ⟨rfl, rfl⟩) ?_
  refine wl_v (.int .u64 (((0 : Nat) : Int))) rfl rfl (y_asg rfl rfl ⟨rfl, rfl⟩) ?_
  refine wl_v (.int .u64 ((((x) * (y) : Nat) : Int))) rfl rfl (y_asg rfl rfl ⟨rfl, rfl⟩) ?_
  refine wl_nil fun F9 hF10 => ?_
  have s11 : F9 30 = undef := (hF10 30).trans s5
  have s12 : F9 8 = .int .u64 (((0 : Nat) : Int)) := (hF10 8).trans rfl
  have s13 : F9 9 = .int .u64 ((((x) * (y) : Nat) : Int)) := (hF10 9).trans rfl
  clear hF10
  refine then_normal ?_
  refine wq_seq ?_
  refine wq_region ?_
  refine wl_v (.int .u64 (((0 : Nat) : Int))) rfl rfl (y_mov rfl s12 ⟨rfl, rfl⟩) ?_
  refine wl_v (.int .u64 ((((x) * (y) : Nat) : Int))) rfl rfl (y_mov rfl s13 ⟨rfl, rfl⟩) ?_
  refine wl_v (.int .u64 (((0 : Nat) : Int))) rfl rfl (y_asg rfl rfl ⟨rfl, rfl⟩) ?_
  refine wl_v (.int .u64 ((((x) * (y) : Nat) : Int))) rfl rfl (y_asg rfl rfl ⟨rfl, rfl⟩) ?_
  refine wl_nil fun F14 hF15 => ?_
  have s16 : F14 30 = undef := (hF15 30).trans s11
  have s17 : F14 4 = .int .u64 (((0 : Nat) : Int)) := (hF15 4).trans rfl
  have s18 : F14 5 = .int .u64 ((((x) * (y) : Nat) : Int)) := (hF15 5).trans rfl
  clear hF15
  refine then_normal ?_
  refine wq_ret ?_
  exact end_2 s16 rfl (res_tmp (v := .int .u64 (((0 : Nat) : Int))) rfl s17) (res_tmp (v := .int .u64 ((((x) * (y) : Nat) : Int))) rfl s18) ⟨rfl, K8⟩
set_option maxHeartbeats 4000000 in
set_option maxRecDepth 100000 in
theorem ps_repeat (v : Value) (l : List Nat) (s n : Nat) (T_b : Nat → Prop) (w0 : World) (hl : l.length = 1) (hs : l.getD 0 0 = s) (hn : 1 ≤ n) (hn2 : n ≤ 64) (h_b : Byt w0 T_b v (l)) :
    Calls Try.prog 39 #[v, .int .i64 (((n : Nat) : Int))] w0 fun e w' => ∃ (v1 : Value) (T1 : Nat → Prop), e = .returned (v1) ∧ Kept (fun _ => False) w0 w' ∧ (Byt w' T1 v1 (List.replicate n s) ∧ Grew w0 noB T1) := by
  refine calls_wq (args := [v, .int .i64 (((n : Nat) : Int))]) 77 Try.func39 rfl rfl (Nat.le_of_ble_eq_true rfl) ?_
  have K0 := Kept.refl (fun _ => False) w0
  have g_b := Grew.refl w0 T_b
  refine wq_seq ?_
  refine wq_region ?_
  refine wl_v (.slice none 0 0) rfl rfl (y_asg rfl rfl ⟨rfl, rfl⟩) ?_
  refine wl_nil fun F1 hF2 => ?_
  have s3 : F1 0 = v := (hF2 0).trans rfl
  have s4 : F1 1 = .int .i64 (((n : Nat) : Int)) := (hF2 1).trans rfl
  have s5 : F1 77 = undef := (hF2 77).trans rfl
  clear hF2
  refine then_normal ?_
  refine wq_seq ?_
  refine wq_seq ?_
  refine wq_region ?_
  refine wl_v (.int .i64 (((n : Nat) : Int))) rfl rfl (y_mov rfl s4 ⟨rfl, rfl⟩) ?_
  refine wl_v (.bool (decide ((((n : Nat) : Int)) = (0)))) rfl rfl (y_eqlI rfl rfl rfl rfl ⟨rfl, rfl⟩) ?_
  refine wl_nil fun F6 hF7 => ?_
  have s8 : F6 0 = v := (hF7 0).trans s3
  have s9 : F6 1 = .int .i64 (((n : Nat) : Int)) := (hF7 1).trans s4
  have s10 : F6 77 = undef := (hF7 77).trans s5
  have s11 : F6 13 = .bool (decide ((((n : Nat) : Int)) = (0))) := (hF7 13).trans rfl
  clear hF7
  refine then_normal ?_
  refine wq_cond s11 (fun c12 => ?_) (fun c12 => ?_)
  · replace c12 := of_decide_eq_true c12
    refine wq_seq ?_
    exfalso; omega
  · replace c12 := of_decide_eq_false c12
    refine wq_skip ?_
    refine then_normal ?_
    refine wq_seq ?_
    refine wq_seq ?_
    refine wq_region ?_
    refine wl_v (.int .i64 (((n : Nat) : Int))) rfl rfl (y_mov rfl s9 ⟨rfl, rfl⟩) ?_
    refine wl_v (.bool (decide ((((n : Nat) : Int)) < (0)))) rfl rfl (y_lss rfl rfl rfl rfl ⟨rfl, rfl⟩) ?_
    refine wl_nil fun F13 hF14 => ?_
    have s15 : F13 0 = v := (hF14 0).trans s8
    have s16 : F13 1 = .int .i64 (((n : Nat) : Int)) := (hF14 1).trans s9
    have s17 : F13 77 = undef := (hF14 77).trans s10
    have s18 : F13 16 = .bool (decide ((((n : Nat) : Int)) < (0))) := (hF14 16).trans rfl
    clear hF14
    refine then_normal ?_
    refine wq_cond s18 (fun c19 => ?_) (fun c19 => ?_)
    · replace c19 := of_decide_eq_true c19
      exfalso; omega
    · replace c19 := of_decide_eq_false c19
      refine wq_skip ?_
      refine then_normal ?_
      refine wq_seq ?_
      refine wq_region ?_
      refine wl_v (v) rfl rfl (y_mov rfl s15 ⟨rfl, rfl⟩) ?_
      refine wl_v (.int .i64 ((((l).length : Nat) : Int))) rfl rfl (y_lenV rfl rfl rfl h_b ⟨rfl, rfl⟩) ?_
      refine wl_v (.int .u64 (((l.length : Nat) : Int))) rfl rfl (y_convR rfl rfl Try.underlying3 Try.underlying64 (u64_small (by omega)) ⟨rfl, rfl⟩) ?_
      refine wl_v (.int .i64 (((n : Nat) : Int))) rfl rfl (y_mov rfl s16 ⟨rfl, rfl⟩) ?_
      refine wl_v (.int .u64 (((n : Nat) : Int))) rfl rfl (y_convR rfl rfl Try.underlying3 Try.underlying64 (u64_small (by omega)) ⟨rfl, rfl⟩) ?_
      refine wl_call (R := fun v_ w_ => v_ = .tuple #[.int .u64 (((0 : Nat) : Int)), .int .u64 ((((l.length) * (n) : Nat) : Int))] ∧ Kept (fun _ => False) w0 w_) rfl rfl (y_cs rfl rfl rfl (fun _ _ => by kernel_rfl) (ev_func _) (vsC rfl (vsC rfl vsN)) (ps_mul (l.length) (n)  _ (by omega) (by omega) (by rw [hl]; omega)  ) (fun e_ w_ h_ => ⟨_, h_.1, rfl, h_.2⟩)) ?_
      rintro _ w20 ⟨rfl, k21⟩
      have B22 := h_b.all k21 Apart.none
      have K23 := K0.trans k21 (fun _ _ x => x.elim)
      refine wl_v (.tuple #[.int .u64 (((0 : Nat) : Int)), .int .u64 ((((l.length) * (n) : Nat) : Int))]) rfl rfl (y_mov rfl rfl ⟨rfl, rfl⟩) ?_
      refine wl_v (.int .u64 (((0 : Nat) : Int))) rfl rfl (y_ext rfl rfl rfl ⟨rfl, rfl⟩) ?_
      refine wl_v (.int .u64 ((((l.length) * (n) : Nat) : Int))) rfl rfl (y_ext rfl rfl rfl ⟨rfl, rfl⟩) ?_
      refine wl_v (.int .u64 (((0 : Nat) : Int))) rfl rfl (y_asg rfl rfl ⟨rfl, rfl⟩) ?_
      refine wl_v (.int .u64 ((((l.length) * (n) : Nat) : Int))) rfl rfl (y_asg rfl rfl ⟨rfl, rfl⟩) ?_
      refine wl_nil fun F24 hF25 => ?_
      have s26 : F24 0 = v := (hF25 0).trans s15
      have s27 : F24 77 = undef := (hF25 77).trans s17
      have s28 : F24 5 = .int .u64 (((0 : Nat) : Int)) := (hF25 5).trans rfl
      have s29 : F24 6 = .int .u64 ((((l.length) * (n) : Nat) : Int)) := (hF25 6).trans rfl
      clear hF25
      refine then_normal ?_
      refine wq_seq ?_
      refine wq_seq ?_
      have s30 : F24 6 = .int .u64 (((n : Nat) : Int)) := s29.trans (congrArg (Value.int .u64) (by rw [hl, Nat.one_mul]))
      refine wq_region ?_
      refine wl_v (.int .u64 (((0 : Nat) : Int))) rfl rfl (y_mov rfl s28 ⟨rfl, rfl⟩) ?_
      refine wl_v (.bool false) rfl rfl (y_gtr rfl rfl rfl rfl ⟨rfl, rfl⟩) ?_
      refine wl_v (.bool false) rfl rfl (y_mov rfl rfl ⟨rfl, rfl⟩) ?_
      refine wl_vw (.int .u64 (((n : Nat) : Int))) 2 false 29 rfl rfl rfl rfl rfl (y_mov rfl s30 ⟨rfl, rfl⟩) ?_
      refine wl_vw (.bool (decide ((9223372036854775807) < (((n : Nat) : Int))))) 2 false 29 rfl rfl rfl rfl rfl (y_gtr rfl rfl rfl rfl ⟨rfl, rfl⟩) ?_
      refine wl_v (.bool (decide ((9223372036854775807) < (((n : Nat) : Int))))) rfl rfl (y_pickF rfl rfl rfl ⟨rfl, rfl⟩) ?_
      refine wl_nil fun F31 hF32 => ?_
      have s33 : F31 0 = v := (hF32 0).trans s26
      have s34 : F31 77 = undef := (hF32 77).trans s27
      have s35 : F31 6 = .int .u64 (((n : Nat) : Int)) := (hF32 6).trans s30
      have s36 : F31 32 = .bool (decide ((9223372036854775807) < (((n : Nat) : Int)))) := (hF32 32).trans rfl
      clear hF32
      refine then_normal ?_
      refine wq_cond s36 (fun c37 => ?_) (fun c37 => ?_)
      · replace c37 := of_decide_eq_true c37
        exfalso; omega
      · replace c37 := of_decide_eq_false c37
        refine wq_skip ?_
        refine then_normal ?_
        refine wq_seq ?_
        refine wq_region ?_
        refine wl_v (.int .u64 (((n : Nat) : Int))) rfl rfl (y_mov rfl s35 ⟨rfl, rfl⟩) ?_
        refine wl_v (.int .i64 (((n : Nat) : Int))) rfl rfl (y_convR rfl rfl Try.underlying64 Try.underlying3 (i64_i rfl (by omega)) ⟨rfl, rfl⟩) ?_
        refine wl_v (.int .i64 (((n : Nat) : Int))) rfl rfl (y_asg rfl rfl ⟨rfl, rfl⟩) ?_
        refine wl_nil fun F38 hF39 => ?_
        have s40 : F38 0 = v := (hF39 0).trans s33
        have s41 : F38 77 = undef := (hF39 77).trans s34
        have s42 : F38 7 = .int .i64 (((n : Nat) : Int)) := (hF39 7).trans rfl
        clear hF39
        refine then_normal ?_
        refine wq_seq ?_
        refine wq_seq ?_
        refine wq_region ?_
        refine wl_v (v) rfl rfl (y_mov rfl s40 ⟨rfl, rfl⟩) ?_
        refine wl_v (.int .i64 ((((l).length : Nat) : Int))) rfl rfl (y_lenV rfl rfl rfl B22 ⟨rfl, rfl⟩) ?_
        refine wl_v (.bool (decide (((((l).length : Nat) : Int)) = (0)))) rfl rfl (y_eqlI rfl rfl rfl rfl ⟨rfl, rfl⟩) ?_
        refine wl_nil fun F43 hF44 => ?_
        have s45 : F43 0 = v := (hF44 0).trans s40
        have s46 : F43 77 = undef := (hF44 77).trans s41
        have s47 : F43 7 = .int .i64 (((n : Nat) : Int)) := (hF44 7).trans s42
        have s48 : F43 38 = .bool (decide (((((l).length : Nat) : Int)) = (0))) := (hF44 38).trans rfl
        clear hF44
        refine then_normal ?_
        refine wq_cond s48 (fun c49 => ?_) (fun c49 => ?_)
        · replace c49 := of_decide_eq_true c49
          refine wq_seq ?_
          exfalso; omega
        · replace c49 := of_decide_eq_false c49
          refine wq_skip ?_
          refine then_normal ?_
          refine wq_seq ?_
          refine wq_region ?_
          refine wl_v (.int .i64 (((n : Nat) : Int))) rfl rfl (y_mov rfl s47 ⟨rfl, rfl⟩) ?_
          refine wl_v (.int .i64 (((n : Nat) : Int))) rfl rfl (y_asg rfl rfl ⟨rfl, rfl⟩) ?_
          refine wl_nil fun F50 hF51 => ?_
          have s52 : F50 0 = v := (hF51 0).trans s45
          have s53 : F50 77 = undef := (hF51 77).trans s46
          have s54 : F50 7 = .int .i64 (((n : Nat) : Int)) := (hF51 7).trans s47
          have s55 : F50 8 = .int .i64 (((n : Nat) : Int)) := (hF51 8).trans rfl
          clear hF51
          refine then_normal ?_
          refine wq_seq ?_
          refine wq_seq ?_
          refine wq_region ?_
          refine wl_v (.int .i64 (((n : Nat) : Int))) rfl rfl (y_mov rfl s55 ⟨rfl, rfl⟩) ?_
          refine wl_v (.bool (decide ((8192) < (((n : Nat) : Int))))) rfl rfl (y_gtr rfl rfl rfl rfl ⟨rfl, rfl⟩) ?_
          refine wl_nil fun F56 hF57 => ?_
          have s58 : F56 0 = v := (hF57 0).trans s52
          have s59 : F56 77 = undef := (hF57 77).trans s53
          have s60 : F56 7 = .int .i64 (((n : Nat) : Int)) := (hF57 7).trans s54
          have s61 : F56 8 = .int .i64 (((n : Nat) : Int)) := (hF57 8).trans s55
          have s62 : F56 42 = .bool (decide ((8192) < (((n : Nat) : Int)))) := (hF57 42).trans rfl
          clear hF57
          refine then_normal ?_
          refine wq_cond s62 (fun c63 => ?_) (fun c63 => ?_)
          · replace c63 := of_decide_eq_true c63
            refine wq_seq ?_
            exfalso; omega
          · replace c63 := of_decide_eq_false c63
            refine wq_skip ?_
            refine then_normal ?_
            refine wq_seq ?_
            refine wq_region ?_
            refine wl_v (.int .i64 (((n : Nat) : Int))) rfl rfl (y_mov rfl s60 ⟨rfl, rfl⟩) ?_
            refine wl_mnz (n := n) rfl rfl rfl rfl rfl (by omega) (by omega) Try.func42 (by kernel_rfl) (by kernel_rfl) (by kernel_rfl) (by kernel_rfl) fun v64 w65 T69 J70 B67 hJ71 g68 k66 => ?_
            have gr72 : Grew w0 noB (T69) := Grew.new K23 g68
            have ap73 : Apart (T69) (T_b) := Apart.new g68 (B22).live
            have B74 := B22.all k66 Apart.none
            have K75 := K23.trans k66 (fun _ _ x => x.elim)
            refine wl_v (.int .i64 (((n : Nat) : Int))) rfl rfl (y_mov rfl s60 ⟨rfl, rfl⟩) ?_
            refine wl_v (.int .i64 (((n : Nat) : Int))) rfl rfl (y_mov rfl s60 ⟨rfl, rfl⟩) ?_
            refine wl_v (subV (v64) (0) (n) (n)) rfl rfl (y_cut3T (n) (n) rfl rfl rfl rfl (by omega) (by omega) (B67).byt (by omega) (by omega) ⟨rfl, rfl⟩) ?_
            refine wl_v (subV (v64) (0) (n) (n)) rfl rfl (y_asg rfl rfl ⟨rfl, rfl⟩) ?_
            refine wl_nil fun F76 hF77 => ?_
            have s78 : F76 0 = v := (hF77 0).trans s58
            have s79 : F76 77 = undef := (hF77 77).trans s59
            have s80 : F76 7 = .int .i64 (((n : Nat) : Int)) := (hF77 7).trans s60
            have s81 : F76 8 = .int .i64 (((n : Nat) : Int)) := (hF77 8).trans s61
            have s82 : F76 9 = subV (v64) (0) (n) (n) := (hF77 9).trans rfl
            clear hF77
            refine then_normal ?_
            refine wq_seq ?_
            refine wq_region ?_
            refine wl_v (subV (v64) (0) (n) (n)) rfl rfl (y_mov rfl s82 ⟨rfl, rfl⟩) ?_
            refine wl_v (v) rfl rfl (y_mov rfl s78 ⟨rfl, rfl⟩) ?_
            refine wl_copyM rfl rfl rfl rfl rfl (part_sub (B67).byt (by omega)) rfl B67 B74 (by omega) fun w84 B86 k85 => ?_
            have B89 := B74.all k85 (fun i h x => (((ap73).symm) i h x))
            have K90 := K75.trans k85 (Grew.ok (S := fun _ => False) gr72 noB_le)
            refine wl_v (.int .i64 (((min ((n) - (0)) (l).length : Nat) : Int))) rfl rfl (y_asg rfl rfl ⟨rfl, rfl⟩) ?_
            refine wl_nil fun F91 hF92 => ?_
            have s93 : F91 77 = undef := (hF92 77).trans s79
            have s94 : F91 7 = .int .i64 (((n : Nat) : Int)) := (hF92 7).trans s80
            have s95 : F91 8 = .int .i64 (((n : Nat) : Int)) := (hF92 8).trans s81
            have s96 : F91 9 = subV (v64) (0) (n) (n) := (hF92 9).trans s82
            have s97 : F91 10 = .int .i64 (((min ((n) - (0)) (l).length : Nat) : Int)) := (hF92 10).trans rfl
            clear hF92
            refine then_normal ?_
            refine wq_seq ?_
            refine wq_block ?_
            refine wq_loop (fun nn FF ww => ∃ (k : Nat), ∃ (L : List Nat), ∃ (T98 : Nat → Prop), (1 ≤ k ∧ k ≤ n) ∧ (L.length = n) ∧ (L.take k = List.replicate k s) ∧ nn = n - k ∧ FF 7 = .int .i64 (((n : Nat) : Int)) ∧ FF 8 = .int .i64 (((n : Nat) : Int)) ∧ FF 9 = subV (v64) (0) (n) (n) ∧ FF 77 = undef ∧ FF 10 = .int .i64 (((k : Nat) : Int)) ∧ Kept (fun _ => False) w0 ww ∧ Byt ww (T_b) v (l) ∧ Owb ww (T98) v64 (L) ∧ Grew w0 (noB) T98 ∧ Apart (T98) (T_b)) (n - (1)) ⟨1, _, T69, by omega, (rep_start (by assumption) hn hl hs).1, (rep_start (by assumption) hn hl hs).2, rfl, s94, s95, s96, s93, s97.trans (congrArg (Value.int .i64) (by omega)), K90, B89, B86, gr72, ap73⟩ ?_
            rintro n102 F99 w100 ⟨k, L, T98, i103, hLn, hT, hn102, s104, s105, s106, s107, s108, K101, B109, B110, gr111, ap112⟩
            refine wq_seq ?_
            refine wq_seq ?_
            refine wq_region ?_
            refine wl_v (.int .i64 (((k : Nat) : Int))) rfl rfl (y_mov rfl s108 ⟨rfl, rfl⟩) ?_
            refine wl_v (.int .i64 (((n : Nat) : Int))) rfl rfl (y_mov rfl s104 ⟨rfl, rfl⟩) ?_
            refine wl_v (.bool (decide ((((k : Nat) : Int)) < (((n : Nat) : Int))))) rfl rfl (y_lss rfl rfl rfl rfl ⟨rfl, rfl⟩) ?_
            refine wl_nil fun F113 hF114 => ?_
            have s115 : F113 7 = .int .i64 (((n : Nat) : Int)) := (hF114 7).trans s104
            have s116 : F113 8 = .int .i64 (((n : Nat) : Int)) := (hF114 8).trans s105
            have s117 : F113 9 = subV (v64) (0) (n) (n) := (hF114 9).trans s106
            have s118 : F113 77 = undef := (hF114 77).trans s107
            have s119 : F113 10 = .int .i64 (((k : Nat) : Int)) := (hF114 10).trans s108
            have s120 : F113 63 = .bool (decide ((((k : Nat) : Int)) < (((n : Nat) : Int)))) := (hF114 63).trans rfl
            clear hF114
            refine then_normal ?_
            refine wq_cond s120 (fun c121 => ?_) (fun c121 => ?_)
            · replace c121 := of_decide_eq_true c121
              refine wq_skip ?_
              refine then_normal ?_
              refine wq_block ?_
              refine wq_seq ?_
              refine wq_region ?_
              refine wl_v (.int .i64 (((k : Nat) : Int))) rfl rfl (y_mov rfl s119 ⟨rfl, rfl⟩) ?_
              refine wl_v (.int .i64 (((n : Nat) : Int))) rfl rfl (y_mov rfl s116 ⟨rfl, rfl⟩) ?_
              refine wl_v (.int .i64 (((k : Nat) : Int))) rfl rfl (y_minR rfl rfl rfl (by omega) ⟨rfl, rfl⟩) ?_
              refine wl_v (.int .i64 (((k : Nat) : Int))) rfl rfl (y_asg rfl rfl ⟨rfl, rfl⟩) ?_
              refine wl_nil fun F122 hF123 => ?_
              have s124 : F122 7 = .int .i64 (((n : Nat) : Int)) := (hF123 7).trans s115
              have s125 : F122 8 = .int .i64 (((n : Nat) : Int)) := (hF123 8).trans s116
              have s126 : F122 9 = subV (v64) (0) (n) (n) := (hF123 9).trans s117
              have s127 : F122 77 = undef := (hF123 77).trans s118
              have s128 : F122 10 = .int .i64 (((k : Nat) : Int)) := (hF123 10).trans s119
              have s129 : F122 11 = .int .i64 (((k : Nat) : Int)) := (hF123 11).trans rfl
              clear hF123
              refine then_normal ?_
              refine wq_tailR 9 (RepR (T98) v64 L (repL L n k)) [some 67, some 68, some 69, some 70, some 71, some 72, some 73, some 74, some 75] (RepG (T98) v64 (repL L n k) [.int .i64 (k : Int), subV v64 0 n n, .int .i64 (k : Int), subV (subV v64 0 n n) k (n - 0) (n - 0), subV v64 0 n n, .int .i64 (k : Int), subV (subV v64 0 n n) 0 k (n - 0), .int .i64 ((min (n - k) k : Nat) : Int), .int .i64 ((k + min (n - k) k : Nat) : Int)]) (by kernel_rfl) (by kernel_rfl) (by kernel_rfl) RepR.refl (fun _ _ _ h1 h2 => h1.trans h2) (RepR.drew _) RepG.stays ?_ ?_
              · refine stepsR_cons rfl (fun F_ w_ hR hout hD => ?_) ?_
                · exact y_mov rfl ((hout 10 rfl (by decide)).trans s128) ⟨⟨rfl, fun e => by cases e⟩, RepR.refl _⟩
                refine stepsR_cons rfl (fun F_ w_ hR hout hD => ?_) ?_
                · exact y_mov rfl ((hout 9 rfl (by decide)).trans s126) ⟨⟨rfl, fun e => by cases e⟩, RepR.refl _⟩
                refine stepsR_cons rfl (fun F_ w_ hR hout hD => ?_) ?_
                · exact y_mov rfl ((hout 10 rfl (by decide)).trans s128) ⟨⟨rfl, fun e => by cases e⟩, RepR.refl _⟩
                refine stepsR_cons rfl (fun F_ w_ hR hout hD => ?_) ?_
                · have g68 : F_ 68 = subV v64 0 n n := (hD.get 0 rfl rfl rfl).1
                  have g69 : F_ 69 = .int .i64 (k : Int) := (hD.get 1 rfl rfl rfl).1
                  exact rep_cutL rfl g68 g69 (by omega) B110 hR ⟨⟨rfl, fun e => by cases e⟩, RepR.refl _⟩
                refine stepsR_cons rfl (fun F_ w_ hR hout hD => ?_) ?_
                · exact y_mov rfl ((hout 9 rfl (by decide)).trans s126) ⟨⟨rfl, fun e => by cases e⟩, RepR.refl _⟩
                refine stepsR_cons rfl (fun F_ w_ hR hout hD => ?_) ?_
                · exact y_mov rfl ((hout 11 rfl (by decide)).trans s129) ⟨⟨rfl, fun e => by cases e⟩, RepR.refl _⟩
                refine stepsR_cons rfl (fun F_ w_ hR hout hD => ?_) ?_
                · have g71 : F_ 71 = subV v64 0 n n := (hD.get 0 rfl rfl rfl).1
                  have g72 : F_ 72 = .int .i64 (k : Int) := (hD.get 1 rfl rfl rfl).1
                  exact rep_cutH rfl g71 g72 (by omega) B110 hR ⟨⟨rfl, fun e => by cases e⟩, RepR.refl _⟩
                refine stepsR_cons rfl (fun F_ w_ hR hout hD => ?_) ?_
                · have g70 : F_ 70 = subV (subV v64 0 n n) k (n - 0) (n - 0) := (hD.get 0 rfl rfl rfl).1
                  have g73 : F_ 73 = subV (subV v64 0 n n) 0 k (n - 0) := (hD.get 1 rfl rfl rfl).1
                  exact rep_turn rfl rfl g70 g73 hLn (by omega) hT B110 hR rfl
                refine stepsR_cons rfl (fun F_ w_ hR hout hD => ?_) ?_
                · have g67 : F_ 67 = .int .i64 (k : Int) := (hD.get 0 rfl rfl rfl).1
                  have g74 : F_ 74 = .int .i64 ((min (n - k) k : Nat) : Int) := (hD.get 1 rfl rfl rfl).1
                  exact y_add rfl g67 g74 (i64_n (m := k + min (n - k) k) (by omega) (by omega)) ⟨⟨rfl, fun e => by cases e⟩, RepR.refl _⟩
                exact stepsR_nil
              intro v130 F131 w132 R133 G134 hF135
              have k136 := R133.1
              have B137 := (G134 7 (by decide)).2 rfl
              have B138 := B109.all k136 (fun i h x => (((ap112).symm) i h x))
              have K139 := K101.trans k136 (Grew.ok (S := fun _ => False) gr111 noB_le)
              have s140 : F131 7 = .int .i64 (((n : Nat) : Int)) := (hF135 7).trans s124
              have s141 : F131 8 = .int .i64 (((n : Nat) : Int)) := (hF135 8).trans s125
              have s142 : F131 9 = subV (v64) (0) (n) (n) := (hF135 9).trans s126
              have s143 : F131 77 = undef := (hF135 77).trans s127
              have s144 : F131 10 = .int .i64 (((k : Nat) : Int)) := (hF135 10).trans s128
              have s145 : F131 75 = .int .i64 (((k + min (n - k) k : Nat) : Int)) := (hF135 75).trans (G134 8 (by decide)).1
              clear R133 G134 hF135
              refine wl_v (.int .i64 (((k + min (n - k) k : Nat) : Int))) rfl rfl (y_asg rfl s145 ⟨rfl, rfl⟩) ?_
              refine wl_nil fun F146 hF147 => ?_
              have s148 : F146 7 = .int .i64 (((n : Nat) : Int)) := (hF147 7).trans s140
              have s149 : F146 8 = .int .i64 (((n : Nat) : Int)) := (hF147 8).trans s141
              have s150 : F146 9 = subV (v64) (0) (n) (n) := (hF147 9).trans s142
              have s151 : F146 77 = undef := (hF147 77).trans s143
              have s152 : F146 10 = .int .i64 (((k + min (n - k) k : Nat) : Int)) := (hF147 10).trans rfl
              clear hF147
              refine in_normal ?_
              exact then_normal ⟨(n - (k + min (n - k) k)), by omega, k + min (n - k) k, _, T98, by omega, repL_length hLn (by omega), repL_take hLn (by omega) hT, rfl, s148, s149, s150, s151, s152, K139, B138, B137, gr111, ap112⟩
            · replace c121 := of_decide_eq_false c121
              refine wq_exit ?_
              refine then_exit ?_
              refine then_exit ?_
              refine in_here ?_
              refine then_normal ?_
              refine wq_seq ?_
              refine wq_region ?_
              refine wl_v (subV (v64) (0) (n) (n)) rfl rfl (y_mov rfl s117 ⟨rfl, rfl⟩) ?_
              refine wl_v (subV (v64) (0) (n) (n)) rfl rfl (y_asg rfl rfl ⟨rfl, rfl⟩) ?_
              refine wl_nil fun F153 hF154 => ?_
              have s155 : F153 77 = undef := (hF154 77).trans s118
              have s156 : F153 4 = subV (v64) (0) (n) (n) := (hF154 4).trans rfl
              clear hF154
              refine then_normal ?_
              refine wq_ret ?_
              exact end_tmp (v := subV (v64) (0) (n) (n)) s155 rfl rfl s156 ⟨(subV (v64) (0) (n) (n)), T98, rfl, K101, ⟨(Byt.of_eq (rep_done (by omega) hT) (((B110).byt).sub (i := 0) (j := n) (m := n) (by omega) (by have hc_ := ((B110).byt).cap; omega) (by omega) (by have hc_ := ((B110).byt).cap; omega))), gr111⟩⟩
end Go.Proofs.Ytomkodoclnbaoaa
namespace Go.Proofs.Ytomkodoclnbaoaa
open Go.RowKit
def fillL (A s m : Nat) : List Nat := List.replicate m s ++ List.replicate (A - m) 0
theorem fill_length {A s m : Nat} (h : m ≤ A) : (fillL A s m).length = A := by unfold fillL; simp; omega
theorem fill_start {A s pw : Nat} {l : List Nat} (h : l = List.replicate A 0) : fillL A s (0 * pw) = l := by rw [h]; unfold fillL; simp
theorem fill_done {A s : Nat} {l : List Nat} (h : l = List.replicate A s) : l = fillL A s A := by rw [h]; unfold fillL; simp
theorem fill_next {A s a pw y : Nat} (hp : pw ≤ a) :
    fillL A s ((y + 1) * pw) = (fillL A s (y * pw)).take ((((y : Nat) : Int)) * (((pw : Nat) : Int))).toNat ++ ((List.replicate a s).take ((((((y : Nat) : Int)) * (((pw : Nat) : Int))) + (((pw : Nat) : Int))).toNat - ((((y : Nat) : Int)) * (((pw : Nat) : Int))).toNat) ++ (fillL A s (y * pw)).drop (((((y : Nat) : Int)) * (((pw : Nat) : Int))).toNat + min ((((((y : Nat) : Int)) * (((pw : Nat) : Int))) + (((pw : Nat) : Int))).toNat - ((((y : Nat) : Int)) * (((pw : Nat) : Int))).toNat) (List.replicate a s).length)) := by
  have e1 : ((((y : Nat) : Int)) * (((pw : Nat) : Int))).toNat = y * pw := by rw [← Int.natCast_mul, Int.toNat_natCast]
  have e2 : (((((y : Nat) : Int)) * (((pw : Nat) : Int))) + (((pw : Nat) : Int))).toNat = y * pw + pw := by rw [← Int.natCast_mul, ← Int.natCast_add, Int.toNat_natCast]
  rw [e1, e2, show y * pw + pw - y * pw = pw by omega, List.length_replicate, show min pw a = pw by omega, List.take_replicate, show min pw a = pw by omega, Nat.succ_mul]
  unfold fillL
  rw [List.take_append_of_le_length (by simp), List.take_of_length_le (by simp), List.drop_append]
  simp only [List.length_replicate, List.drop_replicate]
  rw [show y * pw - (y * pw + pw) = 0 by omega, show y * pw + pw - y * pw = pw by omega, show A - y * pw - pw = A - (y * pw + pw) by omega, List.replicate_zero, List.nil_append, ← List.append_assoc, List.replicate_append_replicate]
theorem new_planes {w h : Int} (s : Nat) (hsw : sideB w = true) (hsh : sideB h = true) {a b : Nat} (ha : (a : Int) = w) (hb : (b : Int) = h) : (newF w h s).p0 = List.replicate (b * a) s ∧ (newF w h s).p1 = List.replicate (b / 2 * (a / 2)) s ∧ (newF w h s).p2 = List.replicate (b / 2 * (a / 2)) s := by
  have h1 := (sideB_iff _).1 hsw
  have h2 := (sideB_iff _).1 hsh
  subst ha; subst hb
  rw [newF_yes s hsw hsh]
  have e0 : ((a : Int) * (b : Int)).toNat = b * a := by rw [← Int.natCast_mul, Int.toNat_natCast, Nat.mul_comm]
  have e1 : ((a : Int) * (b : Int) / 4).toNat = b / 2 * (a / 2) := by
    rw [← quarter h1.2.2 h2.2.2 (by omega) (by omega), tdiv2 (by omega), tdiv2 (by omega), show (a : Int) / 2 = ((a / 2 : Nat) : Int) by omega, show (b : Int) / 2 = ((b / 2 : Nat) : Int) by omega, ← Int.natCast_mul, Int.toNat_natCast, Nat.mul_comm]
  exact ⟨congrArg (List.replicate · s) e0, congrArg (List.replicate · s) e1, congrArg (List.replicate · s) e1⟩
theorem size_as {w h : Int} (hsw : sideB w = true) (hsh : sideB h = true) {g : FD} (hW : g.W = w) (hH : g.H = h) (h0 : g.p0.length = (newF w h 0).p0.length) (h1 : g.p1.length = (newF w h 0).p1.length) (h2 : g.p2.length = (newF w h 0).p2.length) (k : Nat) (hk : k ≤ 2) {a b : Nat} (ha : (a : Int) = w) (hb : (b : Int) = h) : sizeF g ((k : Nat) : Int) = (((pn2 a (a / 2) k : Nat) : Int), ((pn2 b (b / 2) k : Nat) : Int)) := by
  have hn := new_ok 0 hsw hsh
  have hg : okF g := ok_of hn (by rw [hW, (new_side 0 hsw hsh).1]) (by rw [hH, (new_side 0 hsw hsh).2]) h0 h1 h2
  have s1 := (sideB_iff _).1 hsw
  have s2 := (sideB_iff _).1 hsh
  cases k with
  | zero => show sizeF g 0 = _; rw [sizeF_first hg rfl, hW, hH, ← ha, ← hb]; rfl
  | succ k =>
    rw [sizeF_other hg (by omega) (by omega) (by omega), hW, hH, tdiv2 (by omega), tdiv2 (by omega)]
    simp only [pn2]
    congr 1 <;> omega
theorem size_fst {w h : Int} (hsw : sideB w = true) (hsh : sideB h = true) {g : FD} (hW : g.W = w) (hH : g.H = h) (h0 : g.p0.length = (newF w h 0).p0.length) (h1 : g.p1.length = (newF w h 0).p1.length) (h2 : g.p2.length = (newF w h 0).p2.length) (k : Nat) (hk : k ≤ 2) {a b : Nat} (ha : (a : Int) = w) (hb : (b : Int) = h) : (sizeF g ((k : Nat) : Int)).1 = ((pn2 a (a / 2) k : Nat) : Int) := by rw [size_as hsw hsh hW hH h0 h1 h2 k hk ha hb]
theorem size_snd {w h : Int} (hsw : sideB w = true) (hsh : sideB h = true) {g : FD} (hW : g.W = w) (hH : g.H = h) (h0 : g.p0.length = (newF w h 0).p0.length) (h1 : g.p1.length = (newF w h 0).p1.length) (h2 : g.p2.length = (newF w h 0).p2.length) (k : Nat) (hk : k ≤ 2) {a b : Nat} (ha : (a : Int) = w) (hb : (b : Int) = h) : (sizeF g ((k : Nat) : Int)).2 = ((pn2 b (b / 2) k : Nat) : Int) := by rw [size_as hsw hsh hW hH h0 h1 h2 k hk ha hb]
theorem row_fact {y pw ph : Nat} (h : y < ph) (hp : pw ≤ 64) (hh : ph ≤ 64) : y * pw + pw ≤ ph * pw ∧ 0 ≤ ((y : Nat) : Int) * ((pw : Nat) : Int) ∧ ((y : Nat) : Int) * ((pw : Nat) : Int) ≤ 4096 ∧ ((y : Nat) : Int) * ((pw : Nat) : Int) + ((pw : Nat) : Int) ≤ ((ph * pw : Nat) : Int) := by
  have h1 : (y + 1) * pw ≤ ph * pw := Nat.mul_le_mul_right _ h
  rw [Nat.succ_mul] at h1
  have h2 : y * pw ≤ 64 * 64 := Nat.mul_le_mul (by omega) hp
  rw [← Int.natCast_mul]
  omega
set_option maxHeartbeats 4000000 in
set_option maxRecDepth 100000 in
theorem pl_new (w h : Int) (s : Nat) (w0 : World) (hs : s < 256) :
    Calls Try.prog 26 #[.int .i64 (w), .int .i64 (h), .int .u8 (((s : Nat) : Int))] w0 fun e w' => ∃ (v1 : Value) (T1 : Nat → Prop) (v2 : Value) (T2 : Nat → Prop) (v3 : Value) (T3 : Nat → Prop), e = .returned (.tuple #[.agg #[.int .i64 ((newF w h s).W), .int .i64 ((newF w h s).H), v1, v2, v3], .int .i64 (newE w h)]) ∧ Kept (fun _ => False) w0 w' ∧ (Owb w' T1 v1 ((newF w h s).p0) ∧ Grew w0 noB T1) ∧ (Owb w' T2 v2 ((newF w h s).p1) ∧ Grew w0 noB T2) ∧ (Owb w' T3 v3 ((newF w h s).p2) ∧ Grew w0 noB T3) ∧ Apart T1 T2 ∧ Apart T1 T3 ∧ Apart T2 T3 := by
  refine calls_wq (args := [.int .i64 (w), .int .i64 (h), .int .u8 (((s : Nat) : Int))]) 55 Try.func26 rfl rfl (Nat.le_of_ble_eq_true rfl) ?_
  have K0 := Kept.refl (fun _ => False) w0
  refine wq_seq ?_
  refine wq_region ?_
  refine wl_alloc_stc (n := 5) (vs := [.int .i64 (0), .int .i64 (0), .slice none 0 0, .slice none 0 0, .slice none 0 0]) rfl rfl rfl (by kernel_rfl) fun p1 w2 B4 g5 k3 => ?_
  have gr6 : Grew w0 noB (onB p1) := Grew.new K0 g5
  have K7 := K0.trans k3 (fun _ _ x => x.elim)
  refine wl_v (.int .i64 (0)) rfl rfl (y_asg rfl rfl ⟨rfl, rfl⟩) ?_
  refine wl_nil fun F8 hF9 => ?_
  have s10 : F8 0 = .int .i64 (w) := (hF9 0).trans rfl
  have s11 : F8 1 = .int .i64 (h) := (hF9 1).trans rfl
  have s12 : F8 2 = .int .u8 (((s : Nat) : Int)) := (hF9 2).trans rfl
  have s13 : F8 55 = undef := (hF9 55).trans rfl
  have s14 : F8 6 = .pointer (some ⟨p1, 0, none⟩) := (hF9 6).trans rfl
  clear hF9
  refine then_normal ?_
  refine wq_seq ?_
  refine wq_seq ?_
  rcases Bool.eq_false_or_eq_true (sideB (w)) with d15 | d15
  · skip
    rcases Bool.eq_false_or_eq_true (sideB (h)) with d16 | d16
    · skip
      refine wq_region ?_
      refine wl_v (.int .i64 (w)) rfl rfl (y_mov rfl s10 ⟨rfl, rfl⟩) ?_
      refine wl_call (R := fun v_ w_ => v_ = .bool true ∧ Kept (fun _ => False) w2 w_) rfl rfl (y_cs rfl rfl rfl (fun _ _ => by kernel_rfl) (ev_func _) (vsC rfl vsN) (ps_side (w)  _   ) (fun e_ w_ h_ => ⟨_, h_.1, (congrArg Value.bool d15), h_.2⟩)) ?_
      rintro _ w17 ⟨rfl, k18⟩
      have B19 := B4.all k18 id
      have K20 := K7.trans k18 (fun _ _ x => x.elim)
      refine wl_v (.bool false) rfl rfl (y_not rfl rfl rfl ⟨rfl, rfl⟩) ?_
      refine wl_v (.bool false) rfl rfl (y_mov rfl rfl ⟨rfl, rfl⟩) ?_
      refine wl_vw (.int .i64 (h)) 3 false 17 rfl rfl rfl rfl rfl (y_mov rfl s11 ⟨rfl, rfl⟩) ?_
      refine wl_callw (R := fun v_ w_ => v_ = .bool true ∧ Kept (fun _ => False) w17 w_) 3 false 17 rfl rfl rfl rfl rfl (y_cs rfl rfl rfl (fun _ _ => by kernel_rfl) (ev_func _) (vsC rfl vsN) (ps_side (h)  _   ) (fun e_ w_ h_ => ⟨_, h_.1, (congrArg Value.bool d16), h_.2⟩)) ?_
      rintro _ w21 ⟨rfl, k22⟩
      have B23 := B19.all k22 id
      have K24 := K20.trans k22 (fun _ _ x => x.elim)
      refine wl_vw (.bool false) 3 false 17 rfl rfl rfl rfl rfl (y_not rfl rfl rfl ⟨rfl, rfl⟩) ?_
      refine wl_v (.bool false) rfl rfl (y_pickF rfl rfl rfl ⟨rfl, rfl⟩) ?_
      refine wl_nil fun F25 hF26 => ?_
      have s27 : F25 0 = .int .i64 (w) := (hF26 0).trans s10
      have s28 : F25 1 = .int .i64 (h) := (hF26 1).trans s11
      have s29 : F25 2 = .int .u8 (((s : Nat) : Int)) := (hF26 2).trans s12
      have s30 : F25 55 = undef := (hF26 55).trans s13
      have s31 : F25 6 = .pointer (some ⟨p1, 0, none⟩) := (hF26 6).trans s14
      have s32 : F25 21 = .bool false := (hF26 21).trans rfl
      clear hF26
      refine then_normal ?_
      refine wq_cond (t := false) s32 (fun e => by cases e) (fun _ => ?_)
      refine wq_skip ?_
      refine then_normal ?_
      refine wq_seq ?_
      have hsw : sideB w = true := by assumption
      have hsh : sideB h = true := by assumption
      have hws := (sideB_iff _).1 hsw
      have hhs := (sideB_iff _).1 hsh
      obtain ⟨a, ha⟩ : ∃ n : Nat, (n : Int) = w := ⟨w.toNat, by omega⟩
      obtain ⟨b, hb⟩ : ∃ n : Nat, (n : Int) = h := ⟨h.toNat, by omega⟩
      refine wq_region ?_
      refine wl_v (.int .i64 (w)) rfl rfl (y_mov rfl s27 ⟨rfl, rfl⟩) ?_
      refine wl_v (.int .i64 (h)) rfl rfl (y_mov rfl s28 ⟨rfl, rfl⟩) ?_
      refine wl_call (R := fun v_ w_ => ∃ (v33 : Value) (T38 : Nat → Prop) (v34 : Value) (T39 : Nat → Prop) (v35 : Value) (T40 : Nat → Prop), .agg #[.int .i64 ((newF (w) (h) 0).W), .int .i64 ((newF (w) (h) 0).H), v33, v34, v35] = v_ ∧ Kept (fun _ => False) w21 w_ ∧ (Owb w_ T38 v33 ((newF (w) (h) 0).p0) ∧ Grew w21 noB T38) ∧ (Owb w_ T39 v34 ((newF (w) (h) 0).p1) ∧ Grew w21 noB T39) ∧ (Owb w_ T40 v35 ((newF (w) (h) 0).p2) ∧ Grew w21 noB T40) ∧ Apart T38 T39 ∧ Apart T38 T40 ∧ Apart T39 T40) rfl rfl (y_cs rfl rfl rfl (fun _ _ => by kernel_rfl) (ev_func _) (vsC rfl (vsC rfl vsN)) (ps_blank (w) (h)  _ hsw hsh  ) (fun e_ w_ h_ => by obtain ⟨v33_, T38_, v34_, T39_, v35_, T40_, he_, hr_⟩ := h_; exact ⟨_, he_, v33_, T38_, v34_, T39_, v35_, T40_, rfl, hr_⟩)) ?_
      rintro _ w36 ⟨v33, T38, v34, T39, v35, T40, rfl, k37, ⟨B41, g44⟩, ⟨B42, g45⟩, ⟨B43, g46⟩, ap47, ap48, ap49⟩
      have B50 := B23.all k37 id
      have K51 := K24.trans k37 (fun _ _ x => x.elim)
      have gr52 : Grew w0 noB (T38) := Grew.new K24 g44
      have ap53 : Apart (T38) (onB p1) := Apart.new g44 (onB_live (B23).lt)
      have gr54 : Grew w0 noB (T39) := Grew.new K24 g45
      have ap55 : Apart (T39) (onB p1) := Apart.new g45 (onB_live (B23).lt)
      have gr56 : Grew w0 noB (T40) := Grew.new K24 g46
      have ap57 : Apart (T40) (onB p1) := Apart.new g46 (onB_live (B23).lt)
      refine wl_alloc_stc (n := 5) (vs := [.int .i64 (0), .int .i64 (0), .slice none 0 0, .slice none 0 0, .slice none 0 0]) rfl rfl rfl (by kernel_rfl) fun p58 w59 B61 g62 k60 => ?_
      have gr63 : Grew w0 noB (onB p58) := Grew.new K51 g62
      have ap64 : Apart (onB p58) (onB p1) := Apart.new g62 (onB_live (B50).lt)
      have ap65 : Apart (onB p58) (T38) := Apart.new g62 (B41).live
      have ap66 : Apart (onB p58) (T39) := Apart.new g62 (B42).live
      have ap67 : Apart (onB p58) (T40) := Apart.new g62 (B43).live
      have B68 := B50.all k60 id
      have B69 := B41.all k60 Apart.none
      have B70 := B42.all k60 Apart.none
      have B71 := B43.all k60 Apart.none
      have K72 := K51.trans k60 (fun _ _ x => x.elim)
      refine wl_store_stc (us := [.int .i64 ((newF (w) (h) 0).W), .int .i64 ((newF (w) (h) 0).H), v33, v34, v35]) stcT_frame rfl rfl rfl rfl rfl B61 rfl (oneI rfl (oneI rfl (oneI (B69).one (oneI (B70).one (oneI (B71).one oneN))))) fun w73 B74 k75 => ?_
      have B76 := B68.all k75 (fun x => (((ap64).symm) p1 rfl x))
      have B77 := B69.all k75 (fun i h x => (((ap65).symm) i h x))
      have B78 := B70.all k75 (fun i h x => (((ap66).symm) i h x))
      have B79 := B71.all k75 (fun i h x => (((ap67).symm) i h x))
      have K80 := K72.trans k75 (Grew.ok (S := fun _ => False) gr63 noB_le)
      refine wl_nil fun F81 hF82 => ?_
      have s83 : F81 0 = .int .i64 (w) := (hF82 0).trans s27
      have s84 : F81 2 = .int .u8 (((s : Nat) : Int)) := (hF82 2).trans s29
      have s85 : F81 55 = undef := (hF82 55).trans s30
      have s86 : F81 6 = .pointer (some ⟨p1, 0, none⟩) := (hF82 6).trans s31
      have s87 : F81 8 = .pointer (some ⟨p58, 0, none⟩) := (hF82 8).trans rfl
      clear hF82
      refine then_normal ?_
      refine wq_seq ?_
      have s88 : F81 0 = .int .i64 (((a : Nat) : Int)) := s83.trans (congrArg (Value.int .i64) (ha.symm))
      refine wq_region ?_
      refine wl_v (.int .u8 (((s : Nat) : Int))) rfl rfl (y_mov rfl s84 ⟨rfl, rfl⟩) ?_
      refine wl_builtB1 (n := s) rfl rfl rfl rfl (by omega) (by omega) fun v89 w90 T94 B92 g93 k91 => ?_
      have gr95 : Grew w0 noB (T94) := Grew.new K80 g93
      have ap96 : Apart (T94) (onB p1) := Apart.new g93 (onB_live (B76).lt)
      have ap97 : Apart (T94) (T38) := Apart.new g93 (B77).live
      have ap98 : Apart (T94) (T39) := Apart.new g93 (B78).live
      have ap99 : Apart (T94) (T40) := Apart.new g93 (B79).live
      have ap100 : Apart (T94) (onB p58) := Apart.new g93 (onB_live (B74).lt)
      have B101 := B76.all k91 id
      have B102 := B77.all k91 Apart.none
      have B103 := B78.all k91 Apart.none
      have B104 := B79.all k91 Apart.none
      have B105 := B74.all k91 id
      have K106 := K80.trans k91 (fun _ _ x => x.elim)
      refine wl_v (.int .i64 (((a : Nat) : Int))) rfl rfl (y_mov rfl s88 ⟨rfl, rfl⟩) ?_
      refine wl_call (R := fun v_ w_ => ∃ (v107 : Value) (T110 : Nat → Prop), v107 = v_ ∧ Kept (fun _ => False) w90 w_ ∧ (Byt w_ T110 v107 (List.replicate (a) (s)) ∧ Grew w90 noB T110)) rfl rfl (y_cs rfl rfl rfl (fun _ _ => by kernel_rfl) (ev_func _) (vsC rfl (vsC rfl vsN)) (ps_repeat (v89) ([s]) (s) (a) (T94) _ rfl rfl (by omega) (by omega) (B92).byt ) (fun e_ w_ h_ => by obtain ⟨v107_, T110_, he_, hr_⟩ := h_; exact ⟨_, he_, v107_, T110_, rfl, hr_⟩)) ?_
      rintro _ w108 ⟨v107, T110, rfl, k109, ⟨B111, g112⟩⟩
      have B113 := B101.all k109 id
      have B114 := B102.all k109 Apart.none
      have B115 := B103.all k109 Apart.none
      have B116 := B104.all k109 Apart.none
      have B117 := B105.all k109 id
      have B118 := B92.all k109 Apart.none
      have K119 := K106.trans k109 (fun _ _ x => x.elim)
      have gr120 : Grew w0 noB (T110) := Grew.new K106 g112
      have ap121 : Apart (T110) (onB p1) := Apart.new g112 (onB_live (B101).lt)
      have ap122 : Apart (T110) (T38) := Apart.new g112 (B102).live
      have ap123 : Apart (T110) (T39) := Apart.new g112 (B103).live
      have ap124 : Apart (T110) (T40) := Apart.new g112 (B104).live
      have ap125 : Apart (T110) (onB p58) := Apart.new g112 (onB_live (B105).lt)
      have ap126 : Apart (T110) (T94) := Apart.new g112 (B92).live
      refine wl_v (v107) rfl rfl (y_asg rfl rfl ⟨rfl, rfl⟩) ?_
      refine wl_nil fun F127 hF128 => ?_
      have s129 : F127 55 = undef := (hF128 55).trans s85
      have s130 : F127 6 = .pointer (some ⟨p1, 0, none⟩) := (hF128 6).trans s86
      have s131 : F127 8 = .pointer (some ⟨p58, 0, none⟩) := (hF128 8).trans s87
      have s132 : F127 9 = v107 := (hF128 9).trans rfl
      clear hF128
      refine then_normal ?_
      refine wq_seq ?_
      refine wq_seq ?_
      refine wq_region ?_
      refine wl_v (.int .i64 (0)) rfl rfl (y_mov rfl rfl ⟨rfl, rfl⟩) ?_
      refine wl_nil fun F133 hF134 => ?_
      have s135 : F133 55 = undef := (hF134 55).trans s129
      have s136 : F133 6 = .pointer (some ⟨p1, 0, none⟩) := (hF134 6).trans s130
      have s137 : F133 8 = .pointer (some ⟨p58, 0, none⟩) := (hF134 8).trans s131
      have s138 : F133 9 = v107 := (hF134 9).trans s132
      have s139 : F133 30 = .int .i64 (0) := (hF134 30).trans rfl
      clear hF134
      refine then_normal ?_
      refine wq_block ?_
      refine wq_rounds 4 ?_
      refine wqr_step ?_
      refine wq_seq ?_
      refine wq_region ?_
      refine wl_v (.bool true) rfl rfl (y_lss rfl s139 rfl rfl ⟨rfl, rfl⟩) ?_
      refine wl_nil fun F140 hF141 => ?_
      have s142 : F140 55 = undef := (hF141 55).trans s135
      have s143 : F140 6 = .pointer (some ⟨p1, 0, none⟩) := (hF141 6).trans s136
      have s144 : F140 8 = .pointer (some ⟨p58, 0, none⟩) := (hF141 8).trans s137
      have s145 : F140 9 = v107 := (hF141 9).trans s138
      have s146 : F140 30 = .int .i64 (0) := (hF141 30).trans s139
      have s147 : F140 31 = .bool true := (hF141 31).trans rfl
      clear hF141
      refine then_normal ?_
      refine wq_seq ?_
      refine wq_cond (t := true) s147 (fun _ => ?_) (fun e => by cases e)
      refine wq_skip ?_
      refine then_normal ?_
      refine wq_seq ?_
      refine wq_block ?_
      refine wq_seq ?_
      refine wq_region ?_
      refine wl_v (.int .i64 (0)) rfl rfl (y_mov rfl s146 ⟨rfl, rfl⟩) ?_
      refine wl_v (.int .i64 (0)) rfl rfl (y_asg rfl rfl ⟨rfl, rfl⟩) ?_
      refine wl_nil fun F148 hF149 => ?_
      have s150 : F148 55 = undef := (hF149 55).trans s142
      have s151 : F148 6 = .pointer (some ⟨p1, 0, none⟩) := (hF149 6).trans s143
      have s152 : F148 8 = .pointer (some ⟨p58, 0, none⟩) := (hF149 8).trans s144
      have s153 : F148 9 = v107 := (hF149 9).trans s145
      have s154 : F148 30 = .int .i64 (0) := (hF149 30).trans s146
      have s155 : F148 10 = .int .i64 (0) := (hF149 10).trans rfl
      clear hF149
      refine then_normal ?_
      refine wq_seq ?_
      refine wq_region ?_
      refine wl_v (.agg #[.int .i64 ((newF (w) (h) 0).W), .int .i64 ((newF (w) (h) 0).H), v33, v34, v35]) rfl rfl (y_load_stc stcT_frame rfl s152 B117 ⟨rfl, rfl⟩) ?_
      refine wl_v (.int .i64 (0)) rfl rfl (y_mov rfl s155 ⟨rfl, rfl⟩) ?_
      refine wl_call (R := fun v_ w_ => v_ = .tuple #[.int .i64 ((sizeF (newF (w) (h) 0) (0)).1), .int .i64 ((sizeF (newF (w) (h) 0) (0)).2)] ∧ Kept (fun _ => False) w108 w_) rfl rfl (y_cs rfl rfl rfl (fun _ _ => by kernel_rfl) (ev_func _) (vsC rfl (vsC rfl vsN)) (pl_size (0) (newF (w) (h) 0) (v33) (v34) (v35) (T38) (T39) (T40) _  (B114).byt (B115).byt (B116).byt ) (fun e_ w_ h_ => ⟨_, h_.1, rfl, h_.2⟩)) ?_
      rintro _ w156 ⟨rfl, k157⟩
      have B158 := B113.all k157 id
      have B159 := B114.all k157 Apart.none
      have B160 := B115.all k157 Apart.none
      have B161 := B116.all k157 Apart.none
      have B162 := B117.all k157 id
      have B163 := B118.all k157 Apart.none
      have B164 := B111.all k157 Apart.none
      have K165 := K119.trans k157 (fun _ _ x => x.elim)
      refine wl_v (.tuple #[.int .i64 ((sizeF (newF (w) (h) 0) (0)).1), .int .i64 ((sizeF (newF (w) (h) 0) (0)).2)]) rfl rfl (y_mov rfl rfl ⟨rfl, rfl⟩) ?_
      refine wl_v (.int .i64 ((sizeF (newF (w) (h) 0) (0)).1)) rfl rfl (y_ext rfl rfl rfl ⟨rfl, rfl⟩) ?_
      refine wl_v (.int .i64 ((sizeF (newF (w) (h) 0) (0)).2)) rfl rfl (y_ext rfl rfl rfl ⟨rfl, rfl⟩) ?_
      refine wl_v (.int .i64 ((sizeF (newF (w) (h) 0) (0)).1)) rfl rfl (y_asg rfl rfl ⟨rfl, rfl⟩) ?_
      refine wl_v (.int .i64 ((sizeF (newF (w) (h) 0) (0)).2)) rfl rfl (y_asg rfl rfl ⟨rfl, rfl⟩) ?_
      refine wl_nil fun F166 hF167 => ?_
      have s168 : F166 55 = undef := (hF167 55).trans s150
      have s169 : F166 6 = .pointer (some ⟨p1, 0, none⟩) := (hF167 6).trans s151
      have s170 : F166 8 = .pointer (some ⟨p58, 0, none⟩) := (hF167 8).trans s152
      have s171 : F166 9 = v107 := (hF167 9).trans s153
      have s172 : F166 30 = .int .i64 (0) := (hF167 30).trans s154
      have s173 : F166 10 = .int .i64 (0) := (hF167 10).trans s155
      have s174 : F166 11 = .int .i64 ((sizeF (newF (w) (h) 0) (0)).1) := (hF167 11).trans rfl
      have s175 : F166 12 = .int .i64 ((sizeF (newF (w) (h) 0) (0)).2) := (hF167 12).trans rfl
      clear hF167
      refine then_normal ?_
      refine wq_seq ?_
      obtain ⟨pw0, hpw0⟩ : ∃ q, q = pn2 a (a / 2) 0 := ⟨_, rfl⟩
      obtain ⟨ph0, hph0⟩ : ∃ q, q = pn2 b (b / 2) 0 := ⟨_, rfl⟩
      have hA0 : (newF w h 0).p0 = List.replicate (ph0 * pw0) 0 := by rw [hpw0, hph0]; first | exact (new_planes 0 hsw hsh ha hb).1 | exact (new_planes 0 hsw hsh ha hb).2.1 | exact (new_planes 0 hsw hsh ha hb).2.2
      have hE0 : (newF w h s).p0 = List.replicate (ph0 * pw0) s := by rw [hpw0, hph0]; first | exact (new_planes s hsw hsh ha hb).1 | exact (new_planes s hsw hsh ha hb).2.1 | exact (new_planes s hsw hsh ha hb).2.2
      have hB0 : pw0 ≤ a ∧ pw0 ≤ 64 ∧ ph0 ≤ 64 := by have e1 := pn2_le a (a / 2) 0; have e2 := pn2_le b (b / 2) 0; omega
      have s176 : F166 11 = .int .i64 (((pw0 : Nat) : Int)) := s174.trans (congrArg (Value.int .i64) (by rw [hpw0]; (refine size_fst hsw hsh ?_ ?_ ?_ ?_ ?_ 0 (by decide) ha hb <;> first | exact (new_side 0 hsw hsh).1 | exact (new_side 0 hsw hsh).2 | exact hl0 | exact hl1 | rfl)))
      have s177 : F166 12 = .int .i64 (((ph0 : Nat) : Int)) := s175.trans (congrArg (Value.int .i64) (by rw [hph0]; (refine size_snd hsw hsh ?_ ?_ ?_ ?_ ?_ 0 (by decide) ha hb <;> first | exact (new_side 0 hsw hsh).1 | exact (new_side 0 hsw hsh).2 | exact hl0 | exact hl1 | rfl)))
      refine wq_region ?_
      refine wl_v (.int .i64 (((ph0 : Nat) : Int))) rfl rfl (y_mov rfl s177 ⟨rfl, rfl⟩) ?_
      refine wl_v (.int .i64 (0)) rfl rfl (y_mov rfl rfl ⟨rfl, rfl⟩) ?_
      refine wl_nil fun F178 hF179 => ?_
      have s180 : F178 55 = undef := (hF179 55).trans s168
      have s181 : F178 6 = .pointer (some ⟨p1, 0, none⟩) := (hF179 6).trans s169
      have s182 : F178 8 = .pointer (some ⟨p58, 0, none⟩) := (hF179 8).trans s170
      have s183 : F178 9 = v107 := (hF179 9).trans s171
      have s184 : F178 30 = .int .i64 (0) := (hF179 30).trans s172
      have s185 : F178 10 = .int .i64 (0) := (hF179 10).trans s173
      have s186 : F178 11 = .int .i64 (((pw0 : Nat) : Int)) := (hF179 11).trans s176
      have s187 : F178 39 = .int .i64 (((ph0 : Nat) : Int)) := (hF179 39).trans rfl
      have s188 : F178 40 = .int .i64 (0) := (hF179 40).trans rfl
      clear hF179
      refine then_normal ?_
      refine wq_block ?_
      refine wq_loop (fun nn FF ww => ∃ (y : Nat), ∃ (T189 : Nat → Prop), (y ≤ ph0) ∧ nn = ph0 - y ∧ FF 6 = .pointer (some ⟨p1, 0, none⟩) ∧ FF 8 = .pointer (some ⟨p58, 0, none⟩) ∧ FF 9 = v107 ∧ FF 10 = .int .i64 (0) ∧ FF 11 = .int .i64 (((pw0 : Nat) : Int)) ∧ FF 30 = .int .i64 (0) ∧ FF 39 = .int .i64 (((ph0 : Nat) : Int)) ∧ FF 55 = undef ∧ FF 40 = .int .i64 (((y : Nat) : Int)) ∧ Kept (fun _ => False) w0 ww ∧ Stc ww p1 25 [.int .i64 (0), .int .i64 (0), .slice none 0 0, .slice none 0 0, .slice none 0 0] ∧ Owb ww (T189) v33 (fillL (ph0 * pw0) s (y * pw0)) ∧ Owb ww (T39) v34 ((newF (w) (h) 0).p1) ∧ Owb ww (T40) v35 ((newF (w) (h) 0).p2) ∧ Stc ww p58 25 [.int .i64 ((newF (w) (h) 0).W), .int .i64 ((newF (w) (h) 0).H), v33, v34, v35] ∧ Owb ww (T94) v89 ([s]) ∧ Byt ww (T110) v107 (List.replicate (a) (s)) ∧ Grew w0 (noB) T189 ∧ Apart (T189) (onB p1) ∧ Apart (T189) (T39) ∧ Apart (T189) (T40) ∧ Apart (T189) (onB p58) ∧ Apart (T189) (T94) ∧ Apart (T189) (T110)) (ph0 - (0)) ⟨0, T38, by omega, rfl, s181, s182, s183, s185, s186, s184, s187, s180, s188, K165, B158, Owb.of_eq (fill_start hA0) B159, B160, B161, B162, B163, B164, gr52, ap53, ap47, ap48, (ap65).symm, (ap97).symm, (ap122).symm⟩ ?_
      rintro n193 F190 w191 ⟨y, T189, i194, hn193, s195, s196, s197, s198, s199, s200, s201, s202, s203, K192, B204, B205, B206, B207, B208, B209, B210, gr211, ap212, ap213, ap214, ap215, ap216, ap217⟩
      refine wq_seq ?_
      refine wq_region ?_
      refine wl_v (.bool (decide ((((y : Nat) : Int)) < (((ph0 : Nat) : Int))))) rfl rfl (y_lss rfl s203 s201 rfl ⟨rfl, rfl⟩) ?_
      refine wl_nil fun F218 hF219 => ?_
      have s220 : F218 6 = .pointer (some ⟨p1, 0, none⟩) := (hF219 6).trans s195
      have s221 : F218 8 = .pointer (some ⟨p58, 0, none⟩) := (hF219 8).trans s196
      have s222 : F218 9 = v107 := (hF219 9).trans s197
      have s223 : F218 10 = .int .i64 (0) := (hF219 10).trans s198
      have s224 : F218 11 = .int .i64 (((pw0 : Nat) : Int)) := (hF219 11).trans s199
      have s225 : F218 30 = .int .i64 (0) := (hF219 30).trans s200
      have s226 : F218 39 = .int .i64 (((ph0 : Nat) : Int)) := (hF219 39).trans s201
      have s227 : F218 55 = undef := (hF219 55).trans s202
      have s228 : F218 40 = .int .i64 (((y : Nat) : Int)) := (hF219 40).trans s203
      have s229 : F218 41 = .bool (decide ((((y : Nat) : Int)) < (((ph0 : Nat) : Int)))) := (hF219 41).trans rfl
      clear hF219
      refine then_normal ?_
      refine wq_seq ?_
      refine wq_cond s229 (fun c230 => ?_) (fun c230 => ?_)
      · replace c230 := of_decide_eq_true c230
        refine wq_skip ?_
        refine then_normal ?_
        refine wq_seq ?_
        refine wq_block ?_
        refine wq_seq ?_
        refine wq_region ?_
        refine wl_v (.int .i64 (((y : Nat) : Int))) rfl rfl (y_mov rfl s228 ⟨rfl, rfl⟩) ?_
        refine wl_v (.int .i64 (((y : Nat) : Int))) rfl rfl (y_asg rfl rfl ⟨rfl, rfl⟩) ?_
        refine wl_nil fun F231 hF232 => ?_
        have s233 : F231 6 = .pointer (some ⟨p1, 0, none⟩) := (hF232 6).trans s220
        have s234 : F231 8 = .pointer (some ⟨p58, 0, none⟩) := (hF232 8).trans s221
        have s235 : F231 9 = v107 := (hF232 9).trans s222
        have s236 : F231 10 = .int .i64 (0) := (hF232 10).trans s223
        have s237 : F231 11 = .int .i64 (((pw0 : Nat) : Int)) := (hF232 11).trans s224
        have s238 : F231 30 = .int .i64 (0) := (hF232 30).trans s225
        have s239 : F231 39 = .int .i64 (((ph0 : Nat) : Int)) := (hF232 39).trans s226
        have s240 : F231 55 = undef := (hF232 55).trans s227
        have s241 : F231 40 = .int .i64 (((y : Nat) : Int)) := (hF232 40).trans s228
        have s242 : F231 13 = .int .i64 (((y : Nat) : Int)) := (hF232 13).trans rfl
        clear hF232
        refine then_normal ?_
        have hz := row_fact (y := y) (pw := pw0) (ph := ph0) (by omega) hB0.2.1 hB0.2.2
        have hfl : (fillL (ph0 * pw0) s (y * pw0)).length = ph0 * pw0 := fill_length (by omega)
        refine wq_region ?_
        refine wl_v (.int .i64 (0)) rfl rfl (y_mov rfl s236 ⟨rfl, rfl⟩) ?_
        refine wl_v (.pointer (some ⟨p58, 2, none⟩)) rfl rfl (y_fieldR (n := 3) rfl s234 Try.underlying25 rfl (by kernel_rfl) (by decide) rfl ⟨rfl, rfl⟩) ?_
        refine wl_v (.pointer (some ⟨p58, 2, none⟩)) rfl rfl (y_atR (0) (s := 1) rfl rfl rfl (by omega) Try.underlying23 (by omega) (by kernel_rfl) (by omega) ⟨rfl, rfl⟩) ?_
        refine wl_v (v33) rfl rfl (y_ld_stc rfl rfl Try.underlying22 B208 rfl rfl ⟨rfl, rfl⟩) ?_
        refine wl_v (.int .i64 (((pw0 : Nat) : Int))) rfl rfl (y_mov rfl s237 ⟨rfl, rfl⟩) ?_
        refine wl_v (.int .i64 (((y : Nat) : Int))) rfl rfl (y_mov rfl s242 ⟨rfl, rfl⟩) ?_
        refine wl_call (R := fun v_ w_ => v_ = subV (v33) (((((y : Nat) : Int)) * (((pw0 : Nat) : Int))).toNat) (((((y : Nat) : Int)) * (((pw0 : Nat) : Int)) + (((pw0 : Nat) : Int))).toNat) (((((y : Nat) : Int)) * (((pw0 : Nat) : Int)) + (((pw0 : Nat) : Int))).toNat) ∧ Kept (fun _ => False) w191 w_) rfl rfl (y_cs rfl rfl rfl (fun _ _ => by kernel_rfl) (ev_func _) (vsC rfl (vsC rfl (vsC rfl vsN))) (ps_row (v33) (fillL (ph0 * pw0) s (y * pw0)) (((pw0 : Nat) : Int)) (((y : Nat) : Int)) (T189) _ (by omega) (by omega) (by rw [hfl]; exact hz.2.2.2) (by omega) (B205).byt ) (fun e_ w_ h_ => ⟨_, h_.1, rfl, h_.2⟩)) ?_
        rintro _ w243 ⟨rfl, k244⟩
        have B245 := B204.all k244 id
        have B246 := B205.all k244 Apart.none
        have B247 := B206.all k244 Apart.none
        have B248 := B207.all k244 Apart.none
        have B249 := B208.all k244 id
        have B250 := B209.all k244 Apart.none
        have B251 := B210.all k244 Apart.none
        have K252 := K192.trans k244 (fun _ _ x => x.elim)
        refine wl_v (v107) rfl rfl (y_mov rfl s235 ⟨rfl, rfl⟩) ?_
        refine wl_copyM rfl rfl rfl rfl rfl (part_sub (B246).byt (by omega)) rfl B246 B251 (by rw [hfl]; omega) fun w254 B256 k255 => ?_
        have B259 := B245.all k255 (fun x => (((ap212).symm) p1 rfl x))
        have B260 := B247.all k255 (fun i h x => (((ap213).symm) i h x))
        have B261 := B248.all k255 (fun i h x => (((ap214).symm) i h x))
        have B262 := B249.all k255 (fun x => (((ap215).symm) p58 rfl x))
        have B263 := B250.all k255 (fun i h x => (((ap216).symm) i h x))
        have B264 := B251.all k255 (fun i h x => (((ap217).symm) i h x))
        have K265 := K252.trans k255 (Grew.ok (S := fun _ => False) gr211 noB_le)
        refine wl_nil fun F266 hF267 => ?_
        have s268 : F266 6 = .pointer (some ⟨p1, 0, none⟩) := (hF267 6).trans s233
        have s269 : F266 8 = .pointer (some ⟨p58, 0, none⟩) := (hF267 8).trans s234
        have s270 : F266 9 = v107 := (hF267 9).trans s235
        have s271 : F266 10 = .int .i64 (0) := (hF267 10).trans s236
        have s272 : F266 11 = .int .i64 (((pw0 : Nat) : Int)) := (hF267 11).trans s237
        have s273 : F266 30 = .int .i64 (0) := (hF267 30).trans s238
        have s274 : F266 39 = .int .i64 (((ph0 : Nat) : Int)) := (hF267 39).trans s239
        have s275 : F266 55 = undef := (hF267 55).trans s240
        have s276 : F266 40 = .int .i64 (((y : Nat) : Int)) := (hF267 40).trans s241
        clear hF267
        refine in_normal ?_
        refine then_normal ?_
        refine wq_region ?_
        refine wl_v (.int .i64 (((y + 1 : Nat) : Int))) rfl rfl (y_add rfl s276 rfl (i64_n (by omega) (by omega)) ⟨rfl, rfl⟩) ?_
        refine wl_v (.int .i64 (((y + 1 : Nat) : Int))) rfl rfl (y_mov rfl rfl ⟨rfl, rfl⟩) ?_
        refine wl_nil fun F277 hF278 => ?_
        have s279 : F277 6 = .pointer (some ⟨p1, 0, none⟩) := (hF278 6).trans s268
        have s280 : F277 8 = .pointer (some ⟨p58, 0, none⟩) := (hF278 8).trans s269
        have s281 : F277 9 = v107 := (hF278 9).trans s270
        have s282 : F277 10 = .int .i64 (0) := (hF278 10).trans s271
        have s283 : F277 11 = .int .i64 (((pw0 : Nat) : Int)) := (hF278 11).trans s272
        have s284 : F277 30 = .int .i64 (0) := (hF278 30).trans s273
        have s285 : F277 39 = .int .i64 (((ph0 : Nat) : Int)) := (hF278 39).trans s274
        have s286 : F277 55 = undef := (hF278 55).trans s275
        have s287 : F277 40 = .int .i64 (((y + 1 : Nat) : Int)) := (hF278 40).trans rfl
        clear hF278
        exact then_normal ⟨(ph0 - (y + 1)), by omega, y + 1, T189, by omega, rfl, s279, s280, s281, s282, s283, s284, s285, s286, s287, K265, B259, Owb.of_eq (fill_next hB0.1) B256, B260, B261, B262, B263, B264, gr211, ap212, ap213, ap214, ap215, ap216, ap217⟩
      · replace c230 := of_decide_eq_false c230
        refine wq_exit ?_
        refine then_exit ?_
        refine then_exit ?_
        have l288 : ph0 = y := by omega
        subst l288
        have hl0 : (fillL (ph0 * pw0) s (ph0 * pw0)).length = (newF w h 0).p0.length := by rw [fill_length (Nat.le_refl _), hA0, List.length_replicate]
        refine in_here ?_
        refine in_normal ?_
        refine then_normal ?_
        refine wq_region ?_
        refine wl_v (.int .i64 (((1 : Nat) : Int))) rfl rfl (y_add rfl s225 rfl (i64_n (by omega) (by omega)) ⟨rfl, rfl⟩) ?_
        refine wl_v (.int .i64 (((1 : Nat) : Int))) rfl rfl (y_mov rfl rfl ⟨rfl, rfl⟩) ?_
        refine wl_nil fun F289 hF290 => ?_
        have s291 : F289 6 = .pointer (some ⟨p1, 0, none⟩) := (hF290 6).trans s220
        have s292 : F289 8 = .pointer (some ⟨p58, 0, none⟩) := (hF290 8).trans s221
        have s293 : F289 9 = v107 := (hF290 9).trans s222
        have s294 : F289 55 = undef := (hF290 55).trans s227
        have s295 : F289 30 = .int .i64 (((1 : Nat) : Int)) := (hF290 30).trans rfl
        clear hF290
        refine then_normal ?_
        refine wqr_step ?_
        refine wq_seq ?_
        refine wq_region ?_
        refine wl_v (.bool true) rfl rfl (y_lss rfl s295 rfl rfl ⟨rfl, rfl⟩) ?_
        refine wl_nil fun F296 hF297 => ?_
        have s298 : F296 6 = .pointer (some ⟨p1, 0, none⟩) := (hF297 6).trans s291
        have s299 : F296 8 = .pointer (some ⟨p58, 0, none⟩) := (hF297 8).trans s292
        have s300 : F296 9 = v107 := (hF297 9).trans s293
        have s301 : F296 55 = undef := (hF297 55).trans s294
        have s302 : F296 30 = .int .i64 (((1 : Nat) : Int)) := (hF297 30).trans s295
        have s303 : F296 31 = .bool true := (hF297 31).trans rfl
        clear hF297
        refine then_normal ?_
        refine wq_seq ?_
        refine wq_cond (t := true) s303 (fun _ => ?_) (fun e => by cases e)
        refine wq_skip ?_
        refine then_normal ?_
        refine wq_seq ?_
        refine wq_block ?_
        refine wq_seq ?_
        refine wq_region ?_
        refine wl_v (.int .i64 (((1 : Nat) : Int))) rfl rfl (y_mov rfl s302 ⟨rfl, rfl⟩) ?_
        refine wl_v (.int .i64 (((1 : Nat) : Int))) rfl rfl (y_asg rfl rfl ⟨rfl, rfl⟩) ?_
        refine wl_nil fun F304 hF305 => ?_
        have s306 : F304 6 = .pointer (some ⟨p1, 0, none⟩) := (hF305 6).trans s298
        have s307 : F304 8 = .pointer (some ⟨p58, 0, none⟩) := (hF305 8).trans s299
        have s308 : F304 9 = v107 := (hF305 9).trans s300
        have s309 : F304 55 = undef := (hF305 55).trans s301
        have s310 : F304 30 = .int .i64 (((1 : Nat) : Int)) := (hF305 30).trans s302
        have s311 : F304 10 = .int .i64 (((1 : Nat) : Int)) := (hF305 10).trans rfl
        clear hF305
        refine then_normal ?_
        refine wq_seq ?_
        refine wq_region ?_
        refine wl_v (.agg #[.int .i64 ((newF (w) (h) 0).W), .int .i64 ((newF (w) (h) 0).H), v33, v34, v35]) rfl rfl (y_load_stc stcT_frame rfl s307 B208 ⟨rfl, rfl⟩) ?_
        refine wl_v (.int .i64 (((1 : Nat) : Int))) rfl rfl (y_mov rfl s311 ⟨rfl, rfl⟩) ?_
        refine wl_call (R := fun v_ w_ => v_ = .tuple #[.int .i64 ((sizeF (FD.mk ((newF (w) (h) 0).W) ((newF (w) (h) 0).H) (fillL (ph0 * pw0) s (ph0 * pw0)) ((newF (w) (h) 0).p1) ((newF (w) (h) 0).p2)) (((1 : Nat) : Int))).1), .int .i64 ((sizeF (FD.mk ((newF (w) (h) 0).W) ((newF (w) (h) 0).H) (fillL (ph0 * pw0) s (ph0 * pw0)) ((newF (w) (h) 0).p1) ((newF (w) (h) 0).p2)) (((1 : Nat) : Int))).2)] ∧ Kept (fun _ => False) w191 w_) rfl rfl (y_cs rfl rfl rfl (fun _ _ => by kernel_rfl) (ev_func _) (vsC rfl (vsC rfl vsN)) (pl_size (((1 : Nat) : Int)) (FD.mk ((newF (w) (h) 0).W) ((newF (w) (h) 0).H) (fillL (ph0 * pw0) s (ph0 * pw0)) ((newF (w) (h) 0).p1) ((newF (w) (h) 0).p2)) (v33) (v34) (v35) (T189) (T39) (T40) _  (B205).byt (B206).byt (B207).byt ) (fun e_ w_ h_ => ⟨_, h_.1, rfl, h_.2⟩)) ?_
        rintro _ w312 ⟨rfl, k313⟩
        have B314 := B204.all k313 id
        have B315 := B205.all k313 Apart.none
        have B316 := B206.all k313 Apart.none
        have B317 := B207.all k313 Apart.none
        have B318 := B208.all k313 id
        have B319 := B209.all k313 Apart.none
        have B320 := B210.all k313 Apart.none
        have K321 := K192.trans k313 (fun _ _ x => x.elim)
        refine wl_v (.tuple #[.int .i64 ((sizeF (FD.mk ((newF (w) (h) 0).W) ((newF (w) (h) 0).H) (fillL (ph0 * pw0) s (ph0 * pw0)) ((newF (w) (h) 0).p1) ((newF (w) (h) 0).p2)) (((1 : Nat) : Int))).1), .int .i64 ((sizeF (FD.mk ((newF (w) (h) 0).W) ((newF (w) (h) 0).H) (fillL (ph0 * pw0) s (ph0 * pw0)) ((newF (w) (h) 0).p1) ((newF (w) (h) 0).p2)) (((1 : Nat) : Int))).2)]) rfl rfl (y_mov rfl rfl ⟨rfl, rfl⟩) ?_
        refine wl_v (.int .i64 ((sizeF (FD.mk ((newF (w) (h) 0).W) ((newF (w) (h) 0).H) (fillL (ph0 * pw0) s (ph0 * pw0)) ((newF (w) (h) 0).p1) ((newF (w) (h) 0).p2)) (((1 : Nat) : Int))).1)) rfl rfl (y_ext rfl rfl rfl ⟨rfl, rfl⟩) ?_
        refine wl_v (.int .i64 ((sizeF (FD.mk ((newF (w) (h) 0).W) ((newF (w) (h) 0).H) (fillL (ph0 * pw0) s (ph0 * pw0)) ((newF (w) (h) 0).p1) ((newF (w) (h) 0).p2)) (((1 : Nat) : Int))).2)) rfl rfl (y_ext rfl rfl rfl ⟨rfl, rfl⟩) ?_
        refine wl_v (.int .i64 ((sizeF (FD.mk ((newF (w) (h) 0).W) ((newF (w) (h) 0).H) (fillL (ph0 * pw0) s (ph0 * pw0)) ((newF (w) (h) 0).p1) ((newF (w) (h) 0).p2)) (((1 : Nat) : Int))).1)) rfl rfl (y_asg rfl rfl ⟨rfl, rfl⟩) ?_
        refine wl_v (.int .i64 ((sizeF (FD.mk ((newF (w) (h) 0).W) ((newF (w) (h) 0).H) (fillL (ph0 * pw0) s (ph0 * pw0)) ((newF (w) (h) 0).p1) ((newF (w) (h) 0).p2)) (((1 : Nat) : Int))).2)) rfl rfl (y_asg rfl rfl ⟨rfl, rfl⟩) ?_
        refine wl_nil fun F322 hF323 => ?_
        have s324 : F322 6 = .pointer (some ⟨p1, 0, none⟩) := (hF323 6).trans s306
        have s325 : F322 8 = .pointer (some ⟨p58, 0, none⟩) := (hF323 8).trans s307
        have s326 : F322 9 = v107 := (hF323 9).trans s308
        have s327 : F322 55 = undef := (hF323 55).trans s309
        have s328 : F322 30 = .int .i64 (((1 : Nat) : Int)) := (hF323 30).trans s310
        have s329 : F322 10 = .int .i64 (((1 : Nat) : Int)) := (hF323 10).trans s311
        have s330 : F322 11 = .int .i64 ((sizeF (FD.mk ((newF (w) (h) 0).W) ((newF (w) (h) 0).H) (fillL (ph0 * pw0) s (ph0 * pw0)) ((newF (w) (h) 0).p1) ((newF (w) (h) 0).p2)) (((1 : Nat) : Int))).1) := (hF323 11).trans rfl
        have s331 : F322 12 = .int .i64 ((sizeF (FD.mk ((newF (w) (h) 0).W) ((newF (w) (h) 0).H) (fillL (ph0 * pw0) s (ph0 * pw0)) ((newF (w) (h) 0).p1) ((newF (w) (h) 0).p2)) (((1 : Nat) : Int))).2) := (hF323 12).trans rfl
        clear hF323
        refine then_normal ?_
        refine wq_seq ?_
        obtain ⟨pw1, hpw1⟩ : ∃ q, q = pn2 a (a / 2) 1 := ⟨_, rfl⟩
        obtain ⟨ph1, hph1⟩ : ∃ q, q = pn2 b (b / 2) 1 := ⟨_, rfl⟩
        have hA1 : (newF w h 0).p1 = List.replicate (ph1 * pw1) 0 := by rw [hpw1, hph1]; first | exact (new_planes 0 hsw hsh ha hb).1 | exact (new_planes 0 hsw hsh ha hb).2.1 | exact (new_planes 0 hsw hsh ha hb).2.2
        have hE1 : (newF w h s).p1 = List.replicate (ph1 * pw1) s := by rw [hpw1, hph1]; first | exact (new_planes s hsw hsh ha hb).1 | exact (new_planes s hsw hsh ha hb).2.1 | exact (new_planes s hsw hsh ha hb).2.2
        have hB1 : pw1 ≤ a ∧ pw1 ≤ 64 ∧ ph1 ≤ 64 := by have e1 := pn2_le a (a / 2) 1; have e2 := pn2_le b (b / 2) 1; omega
        have s332 : F322 11 = .int .i64 (((pw1 : Nat) : Int)) := s330.trans (congrArg (Value.int .i64) (by rw [hpw1]; (refine size_fst hsw hsh ?_ ?_ ?_ ?_ ?_ 1 (by decide) ha hb <;> first | exact (new_side 0 hsw hsh).1 | exact (new_side 0 hsw hsh).2 | exact hl0 | exact hl1 | rfl)))
        have s333 : F322 12 = .int .i64 (((ph1 : Nat) : Int)) := s331.trans (congrArg (Value.int .i64) (by rw [hph1]; (refine size_snd hsw hsh ?_ ?_ ?_ ?_ ?_ 1 (by decide) ha hb <;> first | exact (new_side 0 hsw hsh).1 | exact (new_side 0 hsw hsh).2 | exact hl0 | exact hl1 | rfl)))
        refine wq_region ?_
        refine wl_v (.int .i64 (((ph1 : Nat) : Int))) rfl rfl (y_mov rfl s333 ⟨rfl, rfl⟩) ?_
        refine wl_v (.int .i64 (0)) rfl rfl (y_mov rfl rfl ⟨rfl, rfl⟩) ?_
        refine wl_nil fun F334 hF335 => ?_
        have s336 : F334 6 = .pointer (some ⟨p1, 0, none⟩) := (hF335 6).trans s324
        have s337 : F334 8 = .pointer (some ⟨p58, 0, none⟩) := (hF335 8).trans s325
        have s338 : F334 9 = v107 := (hF335 9).trans s326
        have s339 : F334 55 = undef := (hF335 55).trans s327
        have s340 : F334 30 = .int .i64 (((1 : Nat) : Int)) := (hF335 30).trans s328
        have s341 : F334 10 = .int .i64 (((1 : Nat) : Int)) := (hF335 10).trans s329
        have s342 : F334 11 = .int .i64 (((pw1 : Nat) : Int)) := (hF335 11).trans s332
        have s343 : F334 39 = .int .i64 (((ph1 : Nat) : Int)) := (hF335 39).trans rfl
        have s344 : F334 40 = .int .i64 (0) := (hF335 40).trans rfl
        clear hF335
        refine then_normal ?_
        refine wq_block ?_
        refine wq_loop (fun nn FF ww => ∃ (y : Nat), ∃ (T345 : Nat → Prop), (y ≤ ph1) ∧ nn = ph1 - y ∧ FF 6 = .pointer (some ⟨p1, 0, none⟩) ∧ FF 8 = .pointer (some ⟨p58, 0, none⟩) ∧ FF 9 = v107 ∧ FF 10 = .int .i64 (((1 : Nat) : Int)) ∧ FF 11 = .int .i64 (((pw1 : Nat) : Int)) ∧ FF 30 = .int .i64 (((1 : Nat) : Int)) ∧ FF 39 = .int .i64 (((ph1 : Nat) : Int)) ∧ FF 55 = undef ∧ FF 40 = .int .i64 (((y : Nat) : Int)) ∧ Kept (fun _ => False) w0 ww ∧ Stc ww p1 25 [.int .i64 (0), .int .i64 (0), .slice none 0 0, .slice none 0 0, .slice none 0 0] ∧ Owb ww (T189) v33 (fillL (ph0 * pw0) s (ph0 * pw0)) ∧ Owb ww (T345) v34 (fillL (ph1 * pw1) s (y * pw1)) ∧ Owb ww (T40) v35 ((newF (w) (h) 0).p2) ∧ Stc ww p58 25 [.int .i64 ((newF (w) (h) 0).W), .int .i64 ((newF (w) (h) 0).H), v33, v34, v35] ∧ Owb ww (T94) v89 ([s]) ∧ Byt ww (T110) v107 (List.replicate (a) (s)) ∧ Grew w0 (noB) T345 ∧ Apart (T345) (onB p1) ∧ Apart (T345) (T189) ∧ Apart (T345) (T40) ∧ Apart (T345) (onB p58) ∧ Apart (T345) (T94) ∧ Apart (T345) (T110)) (ph1 - (0)) ⟨0, T39, by omega, rfl, s336, s337, s338, s341, s342, s340, s343, s339, s344, K321, B314, B315, Owb.of_eq (fill_start hA1) B316, B317, B318, B319, B320, gr54, ap55, (ap213).symm, ap49, (ap66).symm, (ap98).symm, (ap123).symm⟩ ?_
        rintro n349 F346 w347 ⟨y, T345, i350, hn349, s351, s352, s353, s354, s355, s356, s357, s358, s359, K348, B360, B361, B362, B363, B364, B365, B366, gr367, ap368, ap369, ap370, ap371, ap372, ap373⟩
        refine wq_seq ?_
        refine wq_region ?_
        refine wl_v (.bool (decide ((((y : Nat) : Int)) < (((ph1 : Nat) : Int))))) rfl rfl (y_lss rfl s359 s357 rfl ⟨rfl, rfl⟩) ?_
        refine wl_nil fun F374 hF375 => ?_
        have s376 : F374 6 = .pointer (some ⟨p1, 0, none⟩) := (hF375 6).trans s351
        have s377 : F374 8 = .pointer (some ⟨p58, 0, none⟩) := (hF375 8).trans s352
        have s378 : F374 9 = v107 := (hF375 9).trans s353
        have s379 : F374 10 = .int .i64 (((1 : Nat) : Int)) := (hF375 10).trans s354
        have s380 : F374 11 = .int .i64 (((pw1 : Nat) : Int)) := (hF375 11).trans s355
        have s381 : F374 30 = .int .i64 (((1 : Nat) : Int)) := (hF375 30).trans s356
        have s382 : F374 39 = .int .i64 (((ph1 : Nat) : Int)) := (hF375 39).trans s357
        have s383 : F374 55 = undef := (hF375 55).trans s358
        have s384 : F374 40 = .int .i64 (((y : Nat) : Int)) := (hF375 40).trans s359
        have s385 : F374 41 = .bool (decide ((((y : Nat) : Int)) < (((ph1 : Nat) : Int)))) := (hF375 41).trans rfl
        clear hF375
        refine then_normal ?_
        refine wq_seq ?_
        refine wq_cond s385 (fun c386 => ?_) (fun c386 => ?_)
        · replace c386 := of_decide_eq_true c386
          refine wq_skip ?_
          refine then_normal ?_
          refine wq_seq ?_
          refine wq_block ?_
          refine wq_seq ?_
          refine wq_region ?_
          refine wl_v (.int .i64 (((y : Nat) : Int))) rfl rfl (y_mov rfl s384 ⟨rfl, rfl⟩) ?_
          refine wl_v (.int .i64 (((y : Nat) : Int))) rfl rfl (y_asg rfl rfl ⟨rfl, rfl⟩) ?_
          refine wl_nil fun F387 hF388 => ?_
          have s389 : F387 6 = .pointer (some ⟨p1, 0, none⟩) := (hF388 6).trans s376
          have s390 : F387 8 = .pointer (some ⟨p58, 0, none⟩) := (hF388 8).trans s377
          have s391 : F387 9 = v107 := (hF388 9).trans s378
          have s392 : F387 10 = .int .i64 (((1 : Nat) : Int)) := (hF388 10).trans s379
          have s393 : F387 11 = .int .i64 (((pw1 : Nat) : Int)) := (hF388 11).trans s380
          have s394 : F387 30 = .int .i64 (((1 : Nat) : Int)) := (hF388 30).trans s381
          have s395 : F387 39 = .int .i64 (((ph1 : Nat) : Int)) := (hF388 39).trans s382
          have s396 : F387 55 = undef := (hF388 55).trans s383
          have s397 : F387 40 = .int .i64 (((y : Nat) : Int)) := (hF388 40).trans s384
          have s398 : F387 13 = .int .i64 (((y : Nat) : Int)) := (hF388 13).trans rfl
          clear hF388
          refine then_normal ?_
          have hz := row_fact (y := y) (pw := pw1) (ph := ph1) (by omega) hB1.2.1 hB1.2.2
          have hfl : (fillL (ph1 * pw1) s (y * pw1)).length = ph1 * pw1 := fill_length (by omega)
          refine wq_region ?_
          refine wl_v (.int .i64 (((1 : Nat) : Int))) rfl rfl (y_mov rfl s392 ⟨rfl, rfl⟩) ?_
          refine wl_v (.pointer (some ⟨p58, 2, none⟩)) rfl rfl (y_fieldR (n := 3) rfl s390 Try.underlying25 rfl (by kernel_rfl) (by decide) rfl ⟨rfl, rfl⟩) ?_
          refine wl_v (.pointer (some ⟨p58, 3, none⟩)) rfl rfl (y_atR (1) (s := 1) rfl rfl rfl (by omega) Try.underlying23 (by omega) (by kernel_rfl) (by omega) ⟨rfl, rfl⟩) ?_
          refine wl_v (v34) rfl rfl (y_ld_stc rfl rfl Try.underlying22 B364 rfl rfl ⟨rfl, rfl⟩) ?_
          refine wl_v (.int .i64 (((pw1 : Nat) : Int))) rfl rfl (y_mov rfl s393 ⟨rfl, rfl⟩) ?_
          refine wl_v (.int .i64 (((y : Nat) : Int))) rfl rfl (y_mov rfl s398 ⟨rfl, rfl⟩) ?_
          refine wl_call (R := fun v_ w_ => v_ = subV (v34) (((((y : Nat) : Int)) * (((pw1 : Nat) : Int))).toNat) (((((y : Nat) : Int)) * (((pw1 : Nat) : Int)) + (((pw1 : Nat) : Int))).toNat) (((((y : Nat) : Int)) * (((pw1 : Nat) : Int)) + (((pw1 : Nat) : Int))).toNat) ∧ Kept (fun _ => False) w347 w_) rfl rfl (y_cs rfl rfl rfl (fun _ _ => by kernel_rfl) (ev_func _) (vsC rfl (vsC rfl (vsC rfl vsN))) (ps_row (v34) (fillL (ph1 * pw1) s (y * pw1)) (((pw1 : Nat) : Int)) (((y : Nat) : Int)) (T345) _ (by omega) (by omega) (by rw [hfl]; exact hz.2.2.2) (by omega) (B362).byt ) (fun e_ w_ h_ => ⟨_, h_.1, rfl, h_.2⟩)) ?_
          rintro _ w399 ⟨rfl, k400⟩
          have B401 := B360.all k400 id
          have B402 := B361.all k400 Apart.none
          have B403 := B362.all k400 Apart.none
          have B404 := B363.all k400 Apart.none
          have B405 := B364.all k400 id
          have B406 := B365.all k400 Apart.none
          have B407 := B366.all k400 Apart.none
          have K408 := K348.trans k400 (fun _ _ x => x.elim)
          refine wl_v (v107) rfl rfl (y_mov rfl s391 ⟨rfl, rfl⟩) ?_
          refine wl_copyM rfl rfl rfl rfl rfl (part_sub (B403).byt (by omega)) rfl B403 B407 (by rw [hfl]; omega) fun w410 B412 k411 => ?_
          have B415 := B401.all k411 (fun x => (((ap368).symm) p1 rfl x))
          have B416 := B402.all k411 (fun i h x => (((ap369).symm) i h x))
          have B417 := B404.all k411 (fun i h x => (((ap370).symm) i h x))
          have B418 := B405.all k411 (fun x => (((ap371).symm) p58 rfl x))
          have B419 := B406.all k411 (fun i h x => (((ap372).symm) i h x))
          have B420 := B407.all k411 (fun i h x => (((ap373).symm) i h x))
          have K421 := K408.trans k411 (Grew.ok (S := fun _ => False) gr367 noB_le)
          refine wl_nil fun F422 hF423 => ?_
          have s424 : F422 6 = .pointer (some ⟨p1, 0, none⟩) := (hF423 6).trans s389
          have s425 : F422 8 = .pointer (some ⟨p58, 0, none⟩) := (hF423 8).trans s390
          have s426 : F422 9 = v107 := (hF423 9).trans s391
          have s427 : F422 10 = .int .i64 (((1 : Nat) : Int)) := (hF423 10).trans s392
          have s428 : F422 11 = .int .i64 (((pw1 : Nat) : Int)) := (hF423 11).trans s393
          have s429 : F422 30 = .int .i64 (((1 : Nat) : Int)) := (hF423 30).trans s394
          have s430 : F422 39 = .int .i64 (((ph1 : Nat) : Int)) := (hF423 39).trans s395
          have s431 : F422 55 = undef := (hF423 55).trans s396
          have s432 : F422 40 = .int .i64 (((y : Nat) : Int)) := (hF423 40).trans s397
          clear hF423
          refine in_normal ?_
          refine then_normal ?_
          refine wq_region ?_
          refine wl_v (.int .i64 (((y + 1 : Nat) : Int))) rfl rfl (y_add rfl s432 rfl (i64_n (by omega) (by omega)) ⟨rfl, rfl⟩) ?_
          refine wl_v (.int .i64 (((y + 1 : Nat) : Int))) rfl rfl (y_mov rfl rfl ⟨rfl, rfl⟩) ?_
          refine wl_nil fun F433 hF434 => ?_
          have s435 : F433 6 = .pointer (some ⟨p1, 0, none⟩) := (hF434 6).trans s424
          have s436 : F433 8 = .pointer (some ⟨p58, 0, none⟩) := (hF434 8).trans s425
          have s437 : F433 9 = v107 := (hF434 9).trans s426
          have s438 : F433 10 = .int .i64 (((1 : Nat) : Int)) := (hF434 10).trans s427
          have s439 : F433 11 = .int .i64 (((pw1 : Nat) : Int)) := (hF434 11).trans s428
          have s440 : F433 30 = .int .i64 (((1 : Nat) : Int)) := (hF434 30).trans s429
          have s441 : F433 39 = .int .i64 (((ph1 : Nat) : Int)) := (hF434 39).trans s430
          have s442 : F433 55 = undef := (hF434 55).trans s431
          have s443 : F433 40 = .int .i64 (((y + 1 : Nat) : Int)) := (hF434 40).trans rfl
          clear hF434
          exact then_normal ⟨(ph1 - (y + 1)), by omega, y + 1, T345, by omega, rfl, s435, s436, s437, s438, s439, s440, s441, s442, s443, K421, B415, B416, Owb.of_eq (fill_next hB1.1) B412, B417, B418, B419, B420, gr367, ap368, ap369, ap370, ap371, ap372, ap373⟩
        · replace c386 := of_decide_eq_false c386
          refine wq_exit ?_
          refine then_exit ?_
          refine then_exit ?_
          have l444 : ph1 = y := by omega
          subst l444
          have hl1 : (fillL (ph1 * pw1) s (ph1 * pw1)).length = (newF w h 0).p1.length := by rw [fill_length (Nat.le_refl _), hA1, List.length_replicate]
          refine in_here ?_
          refine in_normal ?_
          refine then_normal ?_
          refine wq_region ?_
          refine wl_v (.int .i64 (((2 : Nat) : Int))) rfl rfl (y_add rfl s381 rfl (i64_n (by omega) (by omega)) ⟨rfl, rfl⟩) ?_
          refine wl_v (.int .i64 (((2 : Nat) : Int))) rfl rfl (y_mov rfl rfl ⟨rfl, rfl⟩) ?_
          refine wl_nil fun F445 hF446 => ?_
          have s447 : F445 6 = .pointer (some ⟨p1, 0, none⟩) := (hF446 6).trans s376
          have s448 : F445 8 = .pointer (some ⟨p58, 0, none⟩) := (hF446 8).trans s377
          have s449 : F445 9 = v107 := (hF446 9).trans s378
          have s450 : F445 55 = undef := (hF446 55).trans s383
          have s451 : F445 30 = .int .i64 (((2 : Nat) : Int)) := (hF446 30).trans rfl
          clear hF446
          refine then_normal ?_
          refine wqr_step ?_
          refine wq_seq ?_
          refine wq_region ?_
          refine wl_v (.bool true) rfl rfl (y_lss rfl s451 rfl rfl ⟨rfl, rfl⟩) ?_
          refine wl_nil fun F452 hF453 => ?_
          have s454 : F452 6 = .pointer (some ⟨p1, 0, none⟩) := (hF453 6).trans s447
          have s455 : F452 8 = .pointer (some ⟨p58, 0, none⟩) := (hF453 8).trans s448
          have s456 : F452 9 = v107 := (hF453 9).trans s449
          have s457 : F452 55 = undef := (hF453 55).trans s450
          have s458 : F452 30 = .int .i64 (((2 : Nat) : Int)) := (hF453 30).trans s451
          have s459 : F452 31 = .bool true := (hF453 31).trans rfl
          clear hF453
          refine then_normal ?_
          refine wq_seq ?_
          refine wq_cond (t := true) s459 (fun _ => ?_) (fun e => by cases e)
          refine wq_skip ?_
          refine then_normal ?_
          refine wq_seq ?_
          refine wq_block ?_
          refine wq_seq ?_
          refine wq_region ?_
          refine wl_v (.int .i64 (((2 : Nat) : Int))) rfl rfl (y_mov rfl s458 ⟨rfl, rfl⟩) ?_
          refine wl_v (.int .i64 (((2 : Nat) : Int))) rfl rfl (y_asg rfl rfl ⟨rfl, rfl⟩) ?_
          refine wl_nil fun F460 hF461 => ?_
          have s462 : F460 6 = .pointer (some ⟨p1, 0, none⟩) := (hF461 6).trans s454
          have s463 : F460 8 = .pointer (some ⟨p58, 0, none⟩) := (hF461 8).trans s455
          have s464 : F460 9 = v107 := (hF461 9).trans s456
          have s465 : F460 55 = undef := (hF461 55).trans s457
          have s466 : F460 30 = .int .i64 (((2 : Nat) : Int)) := (hF461 30).trans s458
          have s467 : F460 10 = .int .i64 (((2 : Nat) : Int)) := (hF461 10).trans rfl
          clear hF461
          refine then_normal ?_
          refine wq_seq ?_
          refine wq_region ?_
          refine wl_v (.agg #[.int .i64 ((newF (w) (h) 0).W), .int .i64 ((newF (w) (h) 0).H), v33, v34, v35]) rfl rfl (y_load_stc stcT_frame rfl s463 B364 ⟨rfl, rfl⟩) ?_
          refine wl_v (.int .i64 (((2 : Nat) : Int))) rfl rfl (y_mov rfl s467 ⟨rfl, rfl⟩) ?_
          refine wl_call (R := fun v_ w_ => v_ = .tuple #[.int .i64 ((sizeF (FD.mk ((newF (w) (h) 0).W) ((newF (w) (h) 0).H) (fillL (ph0 * pw0) s (ph0 * pw0)) (fillL (ph1 * pw1) s (ph1 * pw1)) ((newF (w) (h) 0).p2)) (((2 : Nat) : Int))).1), .int .i64 ((sizeF (FD.mk ((newF (w) (h) 0).W) ((newF (w) (h) 0).H) (fillL (ph0 * pw0) s (ph0 * pw0)) (fillL (ph1 * pw1) s (ph1 * pw1)) ((newF (w) (h) 0).p2)) (((2 : Nat) : Int))).2)] ∧ Kept (fun _ => False) w347 w_) rfl rfl (y_cs rfl rfl rfl (fun _ _ => by kernel_rfl) (ev_func _) (vsC rfl (vsC rfl vsN)) (pl_size (((2 : Nat) : Int)) (FD.mk ((newF (w) (h) 0).W) ((newF (w) (h) 0).H) (fillL (ph0 * pw0) s (ph0 * pw0)) (fillL (ph1 * pw1) s (ph1 * pw1)) ((newF (w) (h) 0).p2)) (v33) (v34) (v35) (T189) (T345) (T40) _  (B361).byt (B362).byt (B363).byt ) (fun e_ w_ h_ => ⟨_, h_.1, rfl, h_.2⟩)) ?_
          rintro _ w468 ⟨rfl, k469⟩
          have B470 := B360.all k469 id
          have B471 := B361.all k469 Apart.none
          have B472 := B362.all k469 Apart.none
          have B473 := B363.all k469 Apart.none
          have B474 := B364.all k469 id
          have B475 := B365.all k469 Apart.none
          have B476 := B366.all k469 Apart.none
          have K477 := K348.trans k469 (fun _ _ x => x.elim)
          refine wl_v (.tuple #[.int .i64 ((sizeF (FD.mk ((newF (w) (h) 0).W) ((newF (w) (h) 0).H) (fillL (ph0 * pw0) s (ph0 * pw0)) (fillL (ph1 * pw1) s (ph1 * pw1)) ((newF (w) (h) 0).p2)) (((2 : Nat) : Int))).1), .int .i64 ((sizeF (FD.mk ((newF (w) (h) 0).W) ((newF (w) (h) 0).H) (fillL (ph0 * pw0) s (ph0 * pw0)) (fillL (ph1 * pw1) s (ph1 * pw1)) ((newF (w) (h) 0).p2)) (((2 : Nat) : Int))).2)]) rfl rfl (y_mov rfl rfl ⟨rfl, rfl⟩) ?_
          refine wl_v (.int .i64 ((sizeF (FD.mk ((newF (w) (h) 0).W) ((newF (w) (h) 0).H) (fillL (ph0 * pw0) s (ph0 * pw0)) (fillL (ph1 * pw1) s (ph1 * pw1)) ((newF (w) (h) 0).p2)) (((2 : Nat) : Int))).1)) rfl rfl (y_ext rfl rfl rfl ⟨rfl, rfl⟩) ?_
          refine wl_v (.int .i64 ((sizeF (FD.mk ((newF (w) (h) 0).W) ((newF (w) (h) 0).H) (fillL (ph0 * pw0) s (ph0 * pw0)) (fillL (ph1 * pw1) s (ph1 * pw1)) ((newF (w) (h) 0).p2)) (((2 : Nat) : Int))).2)) rfl rfl (y_ext rfl rfl rfl ⟨rfl, rfl⟩) ?_
          refine wl_v (.int .i64 ((sizeF (FD.mk ((newF (w) (h) 0).W) ((newF (w) (h) 0).H) (fillL (ph0 * pw0) s (ph0 * pw0)) (fillL (ph1 * pw1) s (ph1 * pw1)) ((newF (w) (h) 0).p2)) (((2 : Nat) : Int))).1)) rfl rfl (y_asg rfl rfl ⟨rfl, rfl⟩) ?_
          refine wl_v (.int .i64 ((sizeF (FD.mk ((newF (w) (h) 0).W) ((newF (w) (h) 0).H) (fillL (ph0 * pw0) s (ph0 * pw0)) (fillL (ph1 * pw1) s (ph1 * pw1)) ((newF (w) (h) 0).p2)) (((2 : Nat) : Int))).2)) rfl rfl (y_asg rfl rfl ⟨rfl, rfl⟩) ?_
          refine wl_nil fun F478 hF479 => ?_
          have s480 : F478 6 = .pointer (some ⟨p1, 0, none⟩) := (hF479 6).trans s462
          have s481 : F478 8 = .pointer (some ⟨p58, 0, none⟩) := (hF479 8).trans s463
          have s482 : F478 9 = v107 := (hF479 9).trans s464
          have s483 : F478 55 = undef := (hF479 55).trans s465
          have s484 : F478 30 = .int .i64 (((2 : Nat) : Int)) := (hF479 30).trans s466
          have s485 : F478 10 = .int .i64 (((2 : Nat) : Int)) := (hF479 10).trans s467
          have s486 : F478 11 = .int .i64 ((sizeF (FD.mk ((newF (w) (h) 0).W) ((newF (w) (h) 0).H) (fillL (ph0 * pw0) s (ph0 * pw0)) (fillL (ph1 * pw1) s (ph1 * pw1)) ((newF (w) (h) 0).p2)) (((2 : Nat) : Int))).1) := (hF479 11).trans rfl
          have s487 : F478 12 = .int .i64 ((sizeF (FD.mk ((newF (w) (h) 0).W) ((newF (w) (h) 0).H) (fillL (ph0 * pw0) s (ph0 * pw0)) (fillL (ph1 * pw1) s (ph1 * pw1)) ((newF (w) (h) 0).p2)) (((2 : Nat) : Int))).2) := (hF479 12).trans rfl
          clear hF479
          refine then_normal ?_
          refine wq_seq ?_
          obtain ⟨pw2, hpw2⟩ : ∃ q, q = pn2 a (a / 2) 2 := ⟨_, rfl⟩
          obtain ⟨ph2, hph2⟩ : ∃ q, q = pn2 b (b / 2) 2 := ⟨_, rfl⟩
          have hA2 : (newF w h 0).p2 = List.replicate (ph2 * pw2) 0 := by rw [hpw2, hph2]; first | exact (new_planes 0 hsw hsh ha hb).1 | exact (new_planes 0 hsw hsh ha hb).2.1 | exact (new_planes 0 hsw hsh ha hb).2.2
          have hE2 : (newF w h s).p2 = List.replicate (ph2 * pw2) s := by rw [hpw2, hph2]; first | exact (new_planes s hsw hsh ha hb).1 | exact (new_planes s hsw hsh ha hb).2.1 | exact (new_planes s hsw hsh ha hb).2.2
          have hB2 : pw2 ≤ a ∧ pw2 ≤ 64 ∧ ph2 ≤ 64 := by have e1 := pn2_le a (a / 2) 2; have e2 := pn2_le b (b / 2) 2; omega
          have s488 : F478 11 = .int .i64 (((pw2 : Nat) : Int)) := s486.trans (congrArg (Value.int .i64) (by rw [hpw2]; (refine size_fst hsw hsh ?_ ?_ ?_ ?_ ?_ 2 (by decide) ha hb <;> first | exact (new_side 0 hsw hsh).1 | exact (new_side 0 hsw hsh).2 | exact hl0 | exact hl1 | rfl)))
          have s489 : F478 12 = .int .i64 (((ph2 : Nat) : Int)) := s487.trans (congrArg (Value.int .i64) (by rw [hph2]; (refine size_snd hsw hsh ?_ ?_ ?_ ?_ ?_ 2 (by decide) ha hb <;> first | exact (new_side 0 hsw hsh).1 | exact (new_side 0 hsw hsh).2 | exact hl0 | exact hl1 | rfl)))
          refine wq_region ?_
          refine wl_v (.int .i64 (((ph2 : Nat) : Int))) rfl rfl (y_mov rfl s489 ⟨rfl, rfl⟩) ?_
          refine wl_v (.int .i64 (0)) rfl rfl (y_mov rfl rfl ⟨rfl, rfl⟩) ?_
          refine wl_nil fun F490 hF491 => ?_
          have s492 : F490 6 = .pointer (some ⟨p1, 0, none⟩) := (hF491 6).trans s480
          have s493 : F490 8 = .pointer (some ⟨p58, 0, none⟩) := (hF491 8).trans s481
          have s494 : F490 9 = v107 := (hF491 9).trans s482
          have s495 : F490 55 = undef := (hF491 55).trans s483
          have s496 : F490 30 = .int .i64 (((2 : Nat) : Int)) := (hF491 30).trans s484
          have s497 : F490 10 = .int .i64 (((2 : Nat) : Int)) := (hF491 10).trans s485
          have s498 : F490 11 = .int .i64 (((pw2 : Nat) : Int)) := (hF491 11).trans s488
          have s499 : F490 39 = .int .i64 (((ph2 : Nat) : Int)) := (hF491 39).trans rfl
          have s500 : F490 40 = .int .i64 (0) := (hF491 40).trans rfl
          clear hF491
          refine then_normal ?_
          refine wq_block ?_
          refine wq_loop (fun nn FF ww => ∃ (y : Nat), ∃ (T501 : Nat → Prop), (y ≤ ph2) ∧ nn = ph2 - y ∧ FF 6 = .pointer (some ⟨p1, 0, none⟩) ∧ FF 8 = .pointer (some ⟨p58, 0, none⟩) ∧ FF 9 = v107 ∧ FF 10 = .int .i64 (((2 : Nat) : Int)) ∧ FF 11 = .int .i64 (((pw2 : Nat) : Int)) ∧ FF 30 = .int .i64 (((2 : Nat) : Int)) ∧ FF 39 = .int .i64 (((ph2 : Nat) : Int)) ∧ FF 55 = undef ∧ FF 40 = .int .i64 (((y : Nat) : Int)) ∧ Kept (fun _ => False) w0 ww ∧ Stc ww p1 25 [.int .i64 (0), .int .i64 (0), .slice none 0 0, .slice none 0 0, .slice none 0 0] ∧ Owb ww (T189) v33 (fillL (ph0 * pw0) s (ph0 * pw0)) ∧ Owb ww (T345) v34 (fillL (ph1 * pw1) s (ph1 * pw1)) ∧ Owb ww (T501) v35 (fillL (ph2 * pw2) s (y * pw2)) ∧ Stc ww p58 25 [.int .i64 ((newF (w) (h) 0).W), .int .i64 ((newF (w) (h) 0).H), v33, v34, v35] ∧ Owb ww (T94) v89 ([s]) ∧ Byt ww (T110) v107 (List.replicate (a) (s)) ∧ Grew w0 (noB) T501 ∧ Apart (T501) (onB p1) ∧ Apart (T501) (T189) ∧ Apart (T501) (T345) ∧ Apart (T501) (onB p58) ∧ Apart (T501) (T94) ∧ Apart (T501) (T110)) (ph2 - (0)) ⟨0, T40, by omega, rfl, s492, s493, s494, s497, s498, s496, s499, s495, s500, K477, B470, B471, B472, Owb.of_eq (fill_start hA2) B473, B474, B475, B476, gr56, ap57, (ap214).symm, (ap370).symm, (ap67).symm, (ap99).symm, (ap124).symm⟩ ?_
          rintro n505 F502 w503 ⟨y, T501, i506, hn505, s507, s508, s509, s510, s511, s512, s513, s514, s515, K504, B516, B517, B518, B519, B520, B521, B522, gr523, ap524, ap525, ap526, ap527, ap528, ap529⟩
          refine wq_seq ?_
          refine wq_region ?_
          refine wl_v (.bool (decide ((((y : Nat) : Int)) < (((ph2 : Nat) : Int))))) rfl rfl (y_lss rfl s515 s513 rfl ⟨rfl, rfl⟩) ?_
          refine wl_nil fun F530 hF531 => ?_
          have s532 : F530 6 = .pointer (some ⟨p1, 0, none⟩) := (hF531 6).trans s507
          have s533 : F530 8 = .pointer (some ⟨p58, 0, none⟩) := (hF531 8).trans s508
          have s534 : F530 9 = v107 := (hF531 9).trans s509
          have s535 : F530 10 = .int .i64 (((2 : Nat) : Int)) := (hF531 10).trans s510
          have s536 : F530 11 = .int .i64 (((pw2 : Nat) : Int)) := (hF531 11).trans s511
          have s537 : F530 30 = .int .i64 (((2 : Nat) : Int)) := (hF531 30).trans s512
          have s538 : F530 39 = .int .i64 (((ph2 : Nat) : Int)) := (hF531 39).trans s513
          have s539 : F530 55 = undef := (hF531 55).trans s514
          have s540 : F530 40 = .int .i64 (((y : Nat) : Int)) := (hF531 40).trans s515
          have s541 : F530 41 = .bool (decide ((((y : Nat) : Int)) < (((ph2 : Nat) : Int)))) := (hF531 41).trans rfl
          clear hF531
          refine then_normal ?_
          refine wq_seq ?_
          refine wq_cond s541 (fun c542 => ?_) (fun c542 => ?_)
          · replace c542 := of_decide_eq_true c542
            refine wq_skip ?_
            refine then_normal ?_
            refine wq_seq ?_
            refine wq_block ?_
            refine wq_seq ?_
            refine wq_region ?_
            refine wl_v (.int .i64 (((y : Nat) : Int))) rfl rfl (y_mov rfl s540 ⟨rfl, rfl⟩) ?_
            refine wl_v (.int .i64 (((y : Nat) : Int))) rfl rfl (y_asg rfl rfl ⟨rfl, rfl⟩) ?_
            refine wl_nil fun F543 hF544 => ?_
            have s545 : F543 6 = .pointer (some ⟨p1, 0, none⟩) := (hF544 6).trans s532
            have s546 : F543 8 = .pointer (some ⟨p58, 0, none⟩) := (hF544 8).trans s533
            have s547 : F543 9 = v107 := (hF544 9).trans s534
            have s548 : F543 10 = .int .i64 (((2 : Nat) : Int)) := (hF544 10).trans s535
            have s549 : F543 11 = .int .i64 (((pw2 : Nat) : Int)) := (hF544 11).trans s536
            have s550 : F543 30 = .int .i64 (((2 : Nat) : Int)) := (hF544 30).trans s537
            have s551 : F543 39 = .int .i64 (((ph2 : Nat) : Int)) := (hF544 39).trans s538
            have s552 : F543 55 = undef := (hF544 55).trans s539
            have s553 : F543 40 = .int .i64 (((y : Nat) : Int)) := (hF544 40).trans s540
            have s554 : F543 13 = .int .i64 (((y : Nat) : Int)) := (hF544 13).trans rfl
            clear hF544
            refine then_normal ?_
            have hz := row_fact (y := y) (pw := pw2) (ph := ph2) (by omega) hB2.2.1 hB2.2.2
            have hfl : (fillL (ph2 * pw2) s (y * pw2)).length = ph2 * pw2 := fill_length (by omega)
            refine wq_region ?_
            refine wl_v (.int .i64 (((2 : Nat) : Int))) rfl rfl (y_mov rfl s548 ⟨rfl, rfl⟩) ?_
            refine wl_v (.pointer (some ⟨p58, 2, none⟩)) rfl rfl (y_fieldR (n := 3) rfl s546 Try.underlying25 rfl (by kernel_rfl) (by decide) rfl ⟨rfl, rfl⟩) ?_
            refine wl_v (.pointer (some ⟨p58, 4, none⟩)) rfl rfl (y_atR (2) (s := 1) rfl rfl rfl (by omega) Try.underlying23 (by omega) (by kernel_rfl) (by omega) ⟨rfl, rfl⟩) ?_
            refine wl_v (v35) rfl rfl (y_ld_stc rfl rfl Try.underlying22 B520 rfl rfl ⟨rfl, rfl⟩) ?_
            refine wl_v (.int .i64 (((pw2 : Nat) : Int))) rfl rfl (y_mov rfl s549 ⟨rfl, rfl⟩) ?_
            refine wl_v (.int .i64 (((y : Nat) : Int))) rfl rfl (y_mov rfl s554 ⟨rfl, rfl⟩) ?_
            refine wl_call (R := fun v_ w_ => v_ = subV (v35) (((((y : Nat) : Int)) * (((pw2 : Nat) : Int))).toNat) (((((y : Nat) : Int)) * (((pw2 : Nat) : Int)) + (((pw2 : Nat) : Int))).toNat) (((((y : Nat) : Int)) * (((pw2 : Nat) : Int)) + (((pw2 : Nat) : Int))).toNat) ∧ Kept (fun _ => False) w503 w_) rfl rfl (y_cs rfl rfl rfl (fun _ _ => by kernel_rfl) (ev_func _) (vsC rfl (vsC rfl (vsC rfl vsN))) (ps_row (v35) (fillL (ph2 * pw2) s (y * pw2)) (((pw2 : Nat) : Int)) (((y : Nat) : Int)) (T501) _ (by omega) (by omega) (by rw [hfl]; exact hz.2.2.2) (by omega) (B519).byt ) (fun e_ w_ h_ => ⟨_, h_.1, rfl, h_.2⟩)) ?_
            rintro _ w555 ⟨rfl, k556⟩
            have B557 := B516.all k556 id
            have B558 := B517.all k556 Apart.none
            have B559 := B518.all k556 Apart.none
            have B560 := B519.all k556 Apart.none
            have B561 := B520.all k556 id
            have B562 := B521.all k556 Apart.none
            have B563 := B522.all k556 Apart.none
            have K564 := K504.trans k556 (fun _ _ x => x.elim)
            refine wl_v (v107) rfl rfl (y_mov rfl s547 ⟨rfl, rfl⟩) ?_
            refine wl_copyM rfl rfl rfl rfl rfl (part_sub (B560).byt (by omega)) rfl B560 B563 (by rw [hfl]; omega) fun w566 B568 k567 => ?_
            have B571 := B557.all k567 (fun x => (((ap524).symm) p1 rfl x))
            have B572 := B558.all k567 (fun i h x => (((ap525).symm) i h x))
            have B573 := B559.all k567 (fun i h x => (((ap526).symm) i h x))
            have B574 := B561.all k567 (fun x => (((ap527).symm) p58 rfl x))
            have B575 := B562.all k567 (fun i h x => (((ap528).symm) i h x))
            have B576 := B563.all k567 (fun i h x => (((ap529).symm) i h x))
            have K577 := K564.trans k567 (Grew.ok (S := fun _ => False) gr523 noB_le)
            refine wl_nil fun F578 hF579 => ?_
            have s580 : F578 6 = .pointer (some ⟨p1, 0, none⟩) := (hF579 6).trans s545
            have s581 : F578 8 = .pointer (some ⟨p58, 0, none⟩) := (hF579 8).trans s546
            have s582 : F578 9 = v107 := (hF579 9).trans s547
            have s583 : F578 10 = .int .i64 (((2 : Nat) : Int)) := (hF579 10).trans s548
            have s584 : F578 11 = .int .i64 (((pw2 : Nat) : Int)) := (hF579 11).trans s549
            have s585 : F578 30 = .int .i64 (((2 : Nat) : Int)) := (hF579 30).trans s550
            have s586 : F578 39 = .int .i64 (((ph2 : Nat) : Int)) := (hF579 39).trans s551
            have s587 : F578 55 = undef := (hF579 55).trans s552
            have s588 : F578 40 = .int .i64 (((y : Nat) : Int)) := (hF579 40).trans s553
            clear hF579
            refine in_normal ?_
            refine then_normal ?_
            refine wq_region ?_
            refine wl_v (.int .i64 (((y + 1 : Nat) : Int))) rfl rfl (y_add rfl s588 rfl (i64_n (by omega) (by omega)) ⟨rfl, rfl⟩) ?_
            refine wl_v (.int .i64 (((y + 1 : Nat) : Int))) rfl rfl (y_mov rfl rfl ⟨rfl, rfl⟩) ?_
            refine wl_nil fun F589 hF590 => ?_
            have s591 : F589 6 = .pointer (some ⟨p1, 0, none⟩) := (hF590 6).trans s580
            have s592 : F589 8 = .pointer (some ⟨p58, 0, none⟩) := (hF590 8).trans s581
            have s593 : F589 9 = v107 := (hF590 9).trans s582
            have s594 : F589 10 = .int .i64 (((2 : Nat) : Int)) := (hF590 10).trans s583
            have s595 : F589 11 = .int .i64 (((pw2 : Nat) : Int)) := (hF590 11).trans s584
            have s596 : F589 30 = .int .i64 (((2 : Nat) : Int)) := (hF590 30).trans s585
            have s597 : F589 39 = .int .i64 (((ph2 : Nat) : Int)) := (hF590 39).trans s586
            have s598 : F589 55 = undef := (hF590 55).trans s587
            have s599 : F589 40 = .int .i64 (((y + 1 : Nat) : Int)) := (hF590 40).trans rfl
            clear hF590
            exact then_normal ⟨(ph2 - (y + 1)), by omega, y + 1, T501, by omega, rfl, s591, s592, s593, s594, s595, s596, s597, s598, s599, K577, B571, B572, B573, Owb.of_eq (fill_next hB2.1) B568, B574, B575, B576, gr523, ap524, ap525, ap526, ap527, ap528, ap529⟩
          · replace c542 := of_decide_eq_false c542
            refine wq_exit ?_
            refine then_exit ?_
            refine then_exit ?_
            have l600 : ph2 = y := by omega
            subst l600
            have hl2 : (fillL (ph2 * pw2) s (ph2 * pw2)).length = (newF w h 0).p2.length := by rw [fill_length (Nat.le_refl _), hA2, List.length_replicate]
            refine in_here ?_
            refine in_normal ?_
            refine then_normal ?_
            refine wq_region ?_
            refine wl_v (.int .i64 (((3 : Nat) : Int))) rfl rfl (y_add rfl s537 rfl (i64_n (by omega) (by omega)) ⟨rfl, rfl⟩) ?_
            refine wl_v (.int .i64 (((3 : Nat) : Int))) rfl rfl (y_mov rfl rfl ⟨rfl, rfl⟩) ?_
            refine wl_nil fun F601 hF602 => ?_
            have s603 : F601 6 = .pointer (some ⟨p1, 0, none⟩) := (hF602 6).trans s532
            have s604 : F601 8 = .pointer (some ⟨p58, 0, none⟩) := (hF602 8).trans s533
            have s605 : F601 9 = v107 := (hF602 9).trans s534
            have s606 : F601 55 = undef := (hF602 55).trans s539
            have s607 : F601 30 = .int .i64 (((3 : Nat) : Int)) := (hF602 30).trans rfl
            clear hF602
            refine then_normal ?_
            refine wqr_step ?_
            refine wq_seq ?_
            refine wq_region ?_
            refine wl_v (.bool false) rfl rfl (y_lss rfl s607 rfl rfl ⟨rfl, rfl⟩) ?_
            refine wl_nil fun F608 hF609 => ?_
            have s610 : F608 6 = .pointer (some ⟨p1, 0, none⟩) := (hF609 6).trans s603
            have s611 : F608 8 = .pointer (some ⟨p58, 0, none⟩) := (hF609 8).trans s604
            have s612 : F608 9 = v107 := (hF609 9).trans s605
            have s613 : F608 55 = undef := (hF609 55).trans s606
            have s614 : F608 30 = .int .i64 (((3 : Nat) : Int)) := (hF609 30).trans s607
            have s615 : F608 31 = .bool false := (hF609 31).trans rfl
            clear hF609
            refine then_normal ?_
            refine wq_seq ?_
            refine wq_cond (t := false) s615 (fun e => by cases e) (fun _ => ?_)
            refine wq_exit ?_
            refine then_exit ?_
            refine then_exit ?_
            refine in_here ?_
            refine then_normal ?_
            refine wq_seq ?_
            refine wq_region ?_
            refine wl_v (.agg #[.int .i64 ((newF (w) (h) 0).W), .int .i64 ((newF (w) (h) 0).H), v33, v34, v35]) rfl rfl (y_load_stc stcT_frame rfl s611 B520 ⟨rfl, rfl⟩) ?_
            refine wl_store_stc (us := [.int .i64 ((newF (w) (h) 0).W), .int .i64 ((newF (w) (h) 0).H), v33, v34, v35]) stcT_frame rfl rfl rfl s610 rfl B516 rfl (oneI rfl (oneI rfl (oneI (B517).one (oneI (B518).one (oneI (B519).one oneN))))) fun w616 B617 k618 => ?_
            have B619 := B517.all k618 (fun i h x => ((ap212) i h x))
            have B620 := B518.all k618 (fun i h x => ((ap368) i h x))
            have B621 := B519.all k618 (fun i h x => ((ap524) i h x))
            have B622 := B520.all k618 (fun x => ((ap64) p58 rfl x))
            have B623 := B521.all k618 (fun i h x => ((ap96) i h x))
            have B624 := B522.all k618 (fun i h x => ((ap121) i h x))
            have K625 := K504.trans k618 (Grew.ok (S := fun _ => False) gr6 noB_le)
            refine wl_v (.int .i64 (0)) rfl rfl (y_asg rfl rfl ⟨rfl, rfl⟩) ?_
            refine wl_nil fun F626 hF627 => ?_
            have s628 : F626 6 = .pointer (some ⟨p1, 0, none⟩) := (hF627 6).trans s610
            have s629 : F626 55 = undef := (hF627 55).trans s613
            have s630 : F626 7 = .int .i64 (0) := (hF627 7).trans rfl
            clear hF627
            refine then_normal ?_
            refine wq_ret ?_
            exact end_2 s629 rfl (res_stc (vs := [.int .i64 ((newF (w) (h) 0).W), .int .i64 ((newF (w) (h) 0).H), v33, v34, v35]) stcT_frame rfl s628 B617) (res_tmp (v := .int .i64 (0)) rfl s630) ⟨v33, T189, v34, T345, v35, T501, (by first | rw [(new_side s hsw hsh).1, (new_side s hsw hsh).2, (new_side 0 hsw hsh).1, (new_side 0 hsw hsh).2, newE_yes hsw hsh] | (rw [hN, newE_no hno]; rfl)), K625, ⟨(by first | exact Owb.of_eq (fill_done hE0) B619 | (rw [hN]; exact B619)), gr211⟩, ⟨(by first | exact Owb.of_eq (fill_done hE1) B620 | (rw [hN]; exact B620)), gr367⟩, ⟨(by first | exact Owb.of_eq (fill_done hE2) B621 | (rw [hN]; exact B621)), gr523⟩, (ap369).symm, (ap525).symm, (ap526).symm⟩
    · skip
      refine wq_region ?_
      refine wl_v (.int .i64 (w)) rfl rfl (y_mov rfl s10 ⟨rfl, rfl⟩) ?_
      refine wl_call (R := fun v_ w_ => v_ = .bool true ∧ Kept (fun _ => False) w2 w_) rfl rfl (y_cs rfl rfl rfl (fun _ _ => by kernel_rfl) (ev_func _) (vsC rfl vsN) (ps_side (w)  _   ) (fun e_ w_ h_ => ⟨_, h_.1, (congrArg Value.bool d15), h_.2⟩)) ?_
      rintro _ w631 ⟨rfl, k632⟩
      have B633 := B4.all k632 id
      have K634 := K7.trans k632 (fun _ _ x => x.elim)
      refine wl_v (.bool false) rfl rfl (y_not rfl rfl rfl ⟨rfl, rfl⟩) ?_
      refine wl_v (.bool false) rfl rfl (y_mov rfl rfl ⟨rfl, rfl⟩) ?_
      refine wl_vw (.int .i64 (h)) 3 false 17 rfl rfl rfl rfl rfl (y_mov rfl s11 ⟨rfl, rfl⟩) ?_
      refine wl_callw (R := fun v_ w_ => v_ = .bool false ∧ Kept (fun _ => False) w631 w_) 3 false 17 rfl rfl rfl rfl rfl (y_cs rfl rfl rfl (fun _ _ => by kernel_rfl) (ev_func _) (vsC rfl vsN) (ps_side (h)  _   ) (fun e_ w_ h_ => ⟨_, h_.1, (congrArg Value.bool d16), h_.2⟩)) ?_
      rintro _ w635 ⟨rfl, k636⟩
      have B637 := B633.all k636 id
      have K638 := K634.trans k636 (fun _ _ x => x.elim)
      refine wl_vw (.bool true) 3 false 17 rfl rfl rfl rfl rfl (y_not rfl rfl rfl ⟨rfl, rfl⟩) ?_
      refine wl_v (.bool true) rfl rfl (y_pickF rfl rfl rfl ⟨rfl, rfl⟩) ?_
      refine wl_nil fun F639 hF640 => ?_
      have s641 : F639 0 = .int .i64 (w) := (hF640 0).trans s10
      have s642 : F639 1 = .int .i64 (h) := (hF640 1).trans s11
      have s643 : F639 2 = .int .u8 (((s : Nat) : Int)) := (hF640 2).trans s12
      have s644 : F639 55 = undef := (hF640 55).trans s13
      have s645 : F639 6 = .pointer (some ⟨p1, 0, none⟩) := (hF640 6).trans s14
      have s646 : F639 21 = .bool true := (hF640 21).trans rfl
      clear hF640
      refine then_normal ?_
      refine wq_cond (t := true) s646 (fun _ => ?_) (fun e => by cases e)
      refine wq_seq ?_
      have hno : ¬ (sideB w = true ∧ sideB h = true) := by rintro ⟨h1, h2⟩; simp_all
      have hN := newF_no s hno
      refine wq_region ?_
      refine wl_v (.agg #[.int .i64 (0), .int .i64 (0), .slice none 0 0, .slice none 0 0, .slice none 0 0]) rfl rfl (y_buildL (l' := []) (cells := #[.int .i64 (0), .int .i64 (0), .slice none 0 0, .slice none 0 0, .slice none 0 0]) rfl bpN (by kernel_rfl) rfl ⟨rfl, rfl⟩) ?_
      refine wl_store_stc (us := [.int .i64 (0), .int .i64 (0), .slice none 0 0, .slice none 0 0, .slice none 0 0]) stcT_frame rfl rfl rfl s645 rfl B637 rfl (oneI rfl (oneI rfl (oneI rfl (oneI rfl (oneI rfl oneN))))) fun w647 B648 k649 => ?_
      have K650 := K638.trans k649 (Grew.ok (S := fun _ => False) gr6 noB_le)
      refine wl_v (.int .i64 (70)) rfl rfl (y_asg rfl rfl ⟨rfl, rfl⟩) ?_
      refine wl_nil fun F651 hF652 => ?_
      have s653 : F651 55 = undef := (hF652 55).trans s644
      have s654 : F651 6 = .pointer (some ⟨p1, 0, none⟩) := (hF652 6).trans s645
      have s655 : F651 7 = .int .i64 (70) := (hF652 7).trans rfl
      clear hF652
      refine then_normal ?_
      refine wq_ret ?_
      refine then_ret ?_
      exact end_2 s653 rfl (res_stc (vs := [.int .i64 (0), .int .i64 (0), .slice none 0 0, .slice none 0 0, .slice none 0 0]) stcT_frame rfl s654 B648) (res_tmp (v := .int .i64 (70)) rfl s655) ⟨(.slice none 0 0), noB, (.slice none 0 0), noB, (.slice none 0 0), noB, (by first | rw [(new_side s hsw hsh).1, (new_side s hsw hsh).2, (new_side 0 hsw hsh).1, (new_side 0 hsw hsh).2, newE_yes hsw hsh] | (rw [hN, newE_no hno]; rfl)), K650, ⟨(by first | exact Owb.of_eq (fill_done hE0) (Owb.nil _) | (rw [hN]; exact (Owb.nil _))), (Grew.refl _ _)⟩, ⟨(by first | exact Owb.of_eq (fill_done hE1) (Owb.nil _) | (rw [hN]; exact (Owb.nil _))), (Grew.refl _ _)⟩, ⟨(by first | exact Owb.of_eq (fill_done hE2) (Owb.nil _) | (rw [hN]; exact (Owb.nil _))), (Grew.refl _ _)⟩, Apart.none, Apart.none, Apart.none⟩
  · skip
    refine wq_region ?_
    refine wl_v (.int .i64 (w)) rfl rfl (y_mov rfl s10 ⟨rfl, rfl⟩) ?_
    refine wl_call (R := fun v_ w_ => v_ = .bool false ∧ Kept (fun _ => False) w2 w_) rfl rfl (y_cs rfl rfl rfl (fun _ _ => by kernel_rfl) (ev_func _) (vsC rfl vsN) (ps_side (w)  _   ) (fun e_ w_ h_ => ⟨_, h_.1, (congrArg Value.bool d15), h_.2⟩)) ?_
    rintro _ w656 ⟨rfl, k657⟩
    have B658 := B4.all k657 id
    have K659 := K7.trans k657 (fun _ _ x => x.elim)
    refine wl_v (.bool true) rfl rfl (y_not rfl rfl rfl ⟨rfl, rfl⟩) ?_
    refine wl_v (.bool true) rfl rfl (y_mov rfl rfl ⟨rfl, rfl⟩) ?_
    refine wl_unless 3 false 17 rfl rfl rfl (Or.inl rfl) rfl ?_
    refine wl_unless 3 false 17 rfl rfl rfl (Or.inl rfl) rfl ?_
    refine wl_unless 3 false 17 rfl rfl rfl (Or.inl rfl) rfl ?_
    refine wl_v (.bool true) rfl rfl (y_pickT rfl rfl rfl ⟨rfl, rfl⟩) ?_
    refine wl_nil fun F660 hF661 => ?_
    have s662 : F660 0 = .int .i64 (w) := (hF661 0).trans s10
    have s663 : F660 1 = .int .i64 (h) := (hF661 1).trans s11
    have s664 : F660 2 = .int .u8 (((s : Nat) : Int)) := (hF661 2).trans s12
    have s665 : F660 55 = undef := (hF661 55).trans s13
    have s666 : F660 6 = .pointer (some ⟨p1, 0, none⟩) := (hF661 6).trans s14
    have s667 : F660 21 = .bool true := (hF661 21).trans rfl
    clear hF661
    refine then_normal ?_
    refine wq_cond (t := true) s667 (fun _ => ?_) (fun e => by cases e)
    refine wq_seq ?_
    have hno : ¬ (sideB w = true ∧ sideB h = true) := by rintro ⟨h1, h2⟩; simp_all
    have hN := newF_no s hno
    refine wq_region ?_
    refine wl_v (.agg #[.int .i64 (0), .int .i64 (0), .slice none 0 0, .slice none 0 0, .slice none 0 0]) rfl rfl (y_buildL (l' := []) (cells := #[.int .i64 (0), .int .i64 (0), .slice none 0 0, .slice none 0 0, .slice none 0 0]) rfl bpN (by kernel_rfl) rfl ⟨rfl, rfl⟩) ?_
    refine wl_store_stc (us := [.int .i64 (0), .int .i64 (0), .slice none 0 0, .slice none 0 0, .slice none 0 0]) stcT_frame rfl rfl rfl s666 rfl B658 rfl (oneI rfl (oneI rfl (oneI rfl (oneI rfl (oneI rfl oneN))))) fun w668 B669 k670 => ?_
    have K671 := K659.trans k670 (Grew.ok (S := fun _ => False) gr6 noB_le)
    refine wl_v (.int .i64 (70)) rfl rfl (y_asg rfl rfl ⟨rfl, rfl⟩) ?_
    refine wl_nil fun F672 hF673 => ?_
    have s674 : F672 55 = undef := (hF673 55).trans s665
    have s675 : F672 6 = .pointer (some ⟨p1, 0, none⟩) := (hF673 6).trans s666
    have s676 : F672 7 = .int .i64 (70) := (hF673 7).trans rfl
    clear hF673
    refine then_normal ?_
    refine wq_ret ?_
    refine then_ret ?_
    exact end_2 s674 rfl (res_stc (vs := [.int .i64 (0), .int .i64 (0), .slice none 0 0, .slice none 0 0, .slice none 0 0]) stcT_frame rfl s675 B669) (res_tmp (v := .int .i64 (70)) rfl s676) ⟨(.slice none 0 0), noB, (.slice none 0 0), noB, (.slice none 0 0), noB, (by first | rw [(new_side s hsw hsh).1, (new_side s hsw hsh).2, (new_side 0 hsw hsh).1, (new_side 0 hsw hsh).2, newE_yes hsw hsh] | (rw [hN, newE_no hno]; rfl)), K671, ⟨(by first | exact Owb.of_eq (fill_done hE0) (Owb.nil _) | (rw [hN]; exact (Owb.nil _))), (Grew.refl _ _)⟩, ⟨(by first | exact Owb.of_eq (fill_done hE1) (Owb.nil _) | (rw [hN]; exact (Owb.nil _))), (Grew.refl _ _)⟩, ⟨(by first | exact Owb.of_eq (fill_done hE2) (Owb.nil _) | (rw [hN]; exact (Owb.nil _))), (Grew.refl _ _)⟩, Apart.none, Apart.none, Apart.none⟩
end Go.Proofs.Ytomkodoclnbaoaa
namespace Go.Proofs.Ytomkodoclnbaoaa
open Go.RowKit
theorem awake7 : newE 8 8 = 0 ∧ atF (newF 8 8 7) 0 (-3) 99 = 7 ∧ (sizeF (newF 8 8 7) 1).1 = 4 ∧ (sizeF (newF 8 8 7) 1).2 = 4 ∧ farF (newF 8 8 7) (newF 8 8 9) = 2 ∧ farF (newF 8 8 7) (FD.mk 0 0 [] [] []) = -1 ∧ newE 9 8 = 70 ∧ checkE (newF 8 8 7) = 0 ∧ getF (newF 8 8 7) 2 0 0 5 = 7 := by
  refine ⟨?_, ?_, ?_, ?_, ?_, ?_, ?_, ?_, ?_⟩ <;> decide +kernel
set_option maxHeartbeats 4000000 in
set_option maxRecDepth 100000 in
theorem fawake (w0 : World) :
    Calls Try.prog 9 #[] w0 fun e w' => e = .returned (.bool true) ∧ Kept (fun _ => False) w0 w' := by
  refine calls_wq (args := []) 74 Try.func9 rfl rfl (Nat.le_of_ble_eq_true rfl) ?_
  have K0 := Kept.refl (fun _ => False) w0
  have hf := Lib.hid awake7
  refine wq_seq ?_
  refine wq_region ?_
  refine wl_v (.bool false) rfl rfl (y_asg rfl rfl ⟨rfl, rfl⟩) ?_
  refine wl_nil fun F1 hF2 => ?_
  have s3 : F1 74 = undef := (hF2 74).trans rfl
  clear hF2
  refine then_normal ?_
  refine wq_seq ?_
  refine wq_region ?_
  refine wl_call (R := fun v_ w_ => ∃ (v4 : Value) (T9 : Nat → Prop) (v5 : Value) (T10 : Nat → Prop) (v6 : Value) (T11 : Nat → Prop), .tuple #[.agg #[.int .i64 ((newF (8) (8) (7)).W), .int .i64 ((newF (8) (8) (7)).H), v4, v5, v6], .int .i64 (newE (8) (8))] = v_ ∧ Kept (fun _ => False) w0 w_ ∧ (Owb w_ T9 v4 ((newF (8) (8) (7)).p0) ∧ Grew w0 noB T9) ∧ (Owb w_ T10 v5 ((newF (8) (8) (7)).p1) ∧ Grew w0 noB T10) ∧ (Owb w_ T11 v6 ((newF (8) (8) (7)).p2) ∧ Grew w0 noB T11) ∧ Apart T9 T10 ∧ Apart T9 T11 ∧ Apart T10 T11) rfl rfl (y_cs rfl rfl rfl (fun _ _ => by kernel_rfl) (ev_func _) (vsC rfl (vsC rfl (vsC rfl vsN))) (pl_new (8) (8) (7)  _ (by omega)  ) (fun e_ w_ h_ => by obtain ⟨v4_, T9_, v5_, T10_, v6_, T11_, he_, hr_⟩ := h_; exact ⟨_, he_, v4_, T9_, v5_, T10_, v6_, T11_, rfl, hr_⟩)) ?_
  rintro _ w7 ⟨v4, T9, v5, T10, v6, T11, rfl, k8, ⟨B12, g15⟩, ⟨B13, g16⟩, ⟨B14, g17⟩, ap18, ap19, ap20⟩
  have K21 := K0.trans k8 (fun _ _ x => x.elim)
  have gr22 : Grew w0 noB (T9) := Grew.new K0 g15
  have gr23 : Grew w0 noB (T10) := Grew.new K0 g16
  have gr24 : Grew w0 noB (T11) := Grew.new K0 g17
  refine wl_v (.tuple #[.agg #[.int .i64 ((newF (8) (8) (7)).W), .int .i64 ((newF (8) (8) (7)).H), v4, v5, v6], .int .i64 (newE (8) (8))]) rfl rfl (y_mov rfl rfl ⟨rfl, rfl⟩) ?_
  refine wl_v (.agg #[.int .i64 ((newF (8) (8) (7)).W), .int .i64 ((newF (8) (8) (7)).H), v4, v5, v6]) rfl rfl (y_ext rfl rfl rfl ⟨rfl, rfl⟩) ?_
  refine wl_v (.int .i64 (newE (8) (8))) rfl rfl (y_ext rfl rfl rfl ⟨rfl, rfl⟩) ?_
  refine wl_alloc_stc (n := 5) (vs := [.int .i64 (0), .int .i64 (0), .slice none 0 0, .slice none 0 0, .slice none 0 0]) rfl rfl rfl (by kernel_rfl) fun p25 w26 B28 g29 k27 => ?_
  have gr30 : Grew w0 noB (onB p25) := Grew.new K21 g29
  have ap31 : Apart (onB p25) (T9) := Apart.new g29 (B12).live
  have ap32 : Apart (onB p25) (T10) := Apart.new g29 (B13).live
  have ap33 : Apart (onB p25) (T11) := Apart.new g29 (B14).live
  have B34 := B12.all k27 Apart.none
  have B35 := B13.all k27 Apart.none
  have B36 := B14.all k27 Apart.none
  have K37 := K21.trans k27 (fun _ _ x => x.elim)
  refine wl_store_stc (us := [.int .i64 ((newF (8) (8) (7)).W), .int .i64 ((newF (8) (8) (7)).H), v4, v5, v6]) stcT_frame rfl rfl rfl rfl rfl B28 rfl (oneI rfl (oneI rfl (oneI (B34).one (oneI (B35).one (oneI (B36).one oneN))))) fun w38 B39 k40 => ?_
  have B41 := B34.all k40 (fun i h x => (((ap31).symm) i h x))
  have B42 := B35.all k40 (fun i h x => (((ap32).symm) i h x))
  have B43 := B36.all k40 (fun i h x => (((ap33).symm) i h x))
  have K44 := K37.trans k40 (Grew.ok (S := fun _ => False) gr30 noB_le)
  refine wl_v (.int .i64 (newE (8) (8))) rfl rfl (y_asg rfl rfl ⟨rfl, rfl⟩) ?_
  refine wl_nil fun F45 hF46 => ?_
  have s47 : F45 74 = undef := (hF46 74).trans s3
  have s48 : F45 1 = .pointer (some ⟨p25, 0, none⟩) := (hF46 1).trans rfl
  have s49 : F45 2 = .int .i64 (newE (8) (8)) := (hF46 2).trans rfl
  clear hF46
  refine then_normal ?_
  refine wq_seq ?_
  refine wq_region ?_
  refine wl_call (R := fun v_ w_ => ∃ (v50 : Value) (T55 : Nat → Prop) (v51 : Value) (T56 : Nat → Prop) (v52 : Value) (T57 : Nat → Prop), .tuple #[.agg #[.int .i64 ((newF (8) (8) (9)).W), .int .i64 ((newF (8) (8) (9)).H), v50, v51, v52], .int .i64 (newE (8) (8))] = v_ ∧ Kept (fun _ => False) w38 w_ ∧ (Owb w_ T55 v50 ((newF (8) (8) (9)).p0) ∧ Grew w38 noB T55) ∧ (Owb w_ T56 v51 ((newF (8) (8) (9)).p1) ∧ Grew w38 noB T56) ∧ (Owb w_ T57 v52 ((newF (8) (8) (9)).p2) ∧ Grew w38 noB T57) ∧ Apart T55 T56 ∧ Apart T55 T57 ∧ Apart T56 T57) rfl rfl (y_cs rfl rfl rfl (fun _ _ => by kernel_rfl) (ev_func _) (vsC rfl (vsC rfl (vsC rfl vsN))) (pl_new (8) (8) (9)  _ (by omega)  ) (fun e_ w_ h_ => by obtain ⟨v50_, T55_, v51_, T56_, v52_, T57_, he_, hr_⟩ := h_; exact ⟨_, he_, v50_, T55_, v51_, T56_, v52_, T57_, rfl, hr_⟩)) ?_
  rintro _ w53 ⟨v50, T55, v51, T56, v52, T57, rfl, k54, ⟨B58, g61⟩, ⟨B59, g62⟩, ⟨B60, g63⟩, ap64, ap65, ap66⟩
  have B67 := B41.all k54 Apart.none
  have B68 := B42.all k54 Apart.none
  have B69 := B43.all k54 Apart.none
  have B70 := B39.all k54 id
  have K71 := K44.trans k54 (fun _ _ x => x.elim)
  have gr72 : Grew w0 noB (T55) := Grew.new K44 g61
  have ap73 : Apart (T55) (T9) := Apart.new g61 (B41).live
  have ap74 : Apart (T55) (T10) := Apart.new g61 (B42).live
  have ap75 : Apart (T55) (T11) := Apart.new g61 (B43).live
  have ap76 : Apart (T55) (onB p25) := Apart.new g61 (onB_live (B39).lt)
  have gr77 : Grew w0 noB (T56) := Grew.new K44 g62
  have ap78 : Apart (T56) (T9) := Apart.new g62 (B41).live
  have ap79 : Apart (T56) (T10) := Apart.new g62 (B42).live
  have ap80 : Apart (T56) (T11) := Apart.new g62 (B43).live
  have ap81 : Apart (T56) (onB p25) := Apart.new g62 (onB_live (B39).lt)
  have gr82 : Grew w0 noB (T57) := Grew.new K44 g63
  have ap83 : Apart (T57) (T9) := Apart.new g63 (B41).live
  have ap84 : Apart (T57) (T10) := Apart.new g63 (B42).live
  have ap85 : Apart (T57) (T11) := Apart.new g63 (B43).live
  have ap86 : Apart (T57) (onB p25) := Apart.new g63 (onB_live (B39).lt)
  refine wl_v (.tuple #[.agg #[.int .i64 ((newF (8) (8) (9)).W), .int .i64 ((newF (8) (8) (9)).H), v50, v51, v52], .int .i64 (newE (8) (8))]) rfl rfl (y_mov rfl rfl ⟨rfl, rfl⟩) ?_
  refine wl_v (.agg #[.int .i64 ((newF (8) (8) (9)).W), .int .i64 ((newF (8) (8) (9)).H), v50, v51, v52]) rfl rfl (y_ext rfl rfl rfl ⟨rfl, rfl⟩) ?_
  refine wl_v (.int .i64 (newE (8) (8))) rfl rfl (y_ext rfl rfl rfl ⟨rfl, rfl⟩) ?_
  refine wl_alloc_stc (n := 5) (vs := [.int .i64 (0), .int .i64 (0), .slice none 0 0, .slice none 0 0, .slice none 0 0]) rfl rfl rfl (by kernel_rfl) fun p87 w88 B90 g91 k89 => ?_
  have gr92 : Grew w0 noB (onB p87) := Grew.new K71 g91
  have ap93 : Apart (onB p87) (T9) := Apart.new g91 (B67).live
  have ap94 : Apart (onB p87) (T10) := Apart.new g91 (B68).live
  have ap95 : Apart (onB p87) (T11) := Apart.new g91 (B69).live
  have ap96 : Apart (onB p87) (onB p25) := Apart.new g91 (onB_live (B70).lt)
  have ap97 : Apart (onB p87) (T55) := Apart.new g91 (B58).live
  have ap98 : Apart (onB p87) (T56) := Apart.new g91 (B59).live
  have ap99 : Apart (onB p87) (T57) := Apart.new g91 (B60).live
  have B100 := B67.all k89 Apart.none
  have B101 := B68.all k89 Apart.none
  have B102 := B69.all k89 Apart.none
  have B103 := B70.all k89 id
  have B104 := B58.all k89 Apart.none
  have B105 := B59.all k89 Apart.none
  have B106 := B60.all k89 Apart.none
  have K107 := K71.trans k89 (fun _ _ x => x.elim)
  refine wl_store_stc (us := [.int .i64 ((newF (8) (8) (9)).W), .int .i64 ((newF (8) (8) (9)).H), v50, v51, v52]) stcT_frame rfl rfl rfl rfl rfl B90 rfl (oneI rfl (oneI rfl (oneI (B104).one (oneI (B105).one (oneI (B106).one oneN))))) fun w108 B109 k110 => ?_
  have B111 := B100.all k110 (fun i h x => (((ap93).symm) i h x))
  have B112 := B101.all k110 (fun i h x => (((ap94).symm) i h x))
  have B113 := B102.all k110 (fun i h x => (((ap95).symm) i h x))
  have B114 := B103.all k110 (fun x => (((ap96).symm) p25 rfl x))
  have B115 := B104.all k110 (fun i h x => (((ap97).symm) i h x))
  have B116 := B105.all k110 (fun i h x => (((ap98).symm) i h x))
  have B117 := B106.all k110 (fun i h x => (((ap99).symm) i h x))
  have K118 := K107.trans k110 (Grew.ok (S := fun _ => False) gr92 noB_le)
  refine wl_v (.int .i64 (newE (8) (8))) rfl rfl (y_asg rfl rfl ⟨rfl, rfl⟩) ?_
  refine wl_nil fun F119 hF120 => ?_
  have s121 : F119 74 = undef := (hF120 74).trans s47
  have s122 : F119 1 = .pointer (some ⟨p25, 0, none⟩) := (hF120 1).trans s48
  have s123 : F119 2 = .int .i64 (newE (8) (8)) := (hF120 2).trans s49
  have s124 : F119 3 = .pointer (some ⟨p87, 0, none⟩) := (hF120 3).trans rfl
  clear hF120
  refine then_normal ?_
  refine wq_seq ?_
  refine wq_region ?_
  refine wl_v (.agg #[.int .i64 ((newF (8) (8) (7)).W), .int .i64 ((newF (8) (8) (7)).H), v4, v5, v6]) rfl rfl (y_load_stc stcT_frame rfl s122 B114 ⟨rfl, rfl⟩) ?_
  refine wl_call (R := fun v_ w_ => v_ = .tuple #[.int .i64 ((sizeF (newF (8) (8) (7)) (1)).1), .int .i64 ((sizeF (newF (8) (8) (7)) (1)).2)] ∧ Kept (fun _ => False) w108 w_) rfl rfl (y_cs rfl rfl rfl (fun _ _ => by kernel_rfl) (ev_func _) (vsC rfl (vsC rfl vsN)) (pl_size (1) (newF (8) (8) (7)) (v4) (v5) (v6) (T9) (T10) (T11) _  (B111).byt (B112).byt (B113).byt ) (fun e_ w_ h_ => ⟨_, h_.1, rfl, h_.2⟩)) ?_
  rintro _ w125 ⟨rfl, k126⟩
  have B127 := B111.all k126 Apart.none
  have B128 := B112.all k126 Apart.none
  have B129 := B113.all k126 Apart.none
  have B130 := B114.all k126 id
  have B131 := B115.all k126 Apart.none
  have B132 := B116.all k126 Apart.none
  have B133 := B117.all k126 Apart.none
  have B134 := B109.all k126 id
  have K135 := K118.trans k126 (fun _ _ x => x.elim)
  refine wl_v (.tuple #[.int .i64 ((sizeF (newF (8) (8) (7)) (1)).1), .int .i64 ((sizeF (newF (8) (8) (7)) (1)).2)]) rfl rfl (y_mov rfl rfl ⟨rfl, rfl⟩) ?_
  refine wl_v (.int .i64 ((sizeF (newF (8) (8) (7)) (1)).1)) rfl rfl (y_ext rfl rfl rfl ⟨rfl, rfl⟩) ?_
  refine wl_v (.int .i64 ((sizeF (newF (8) (8) (7)) (1)).2)) rfl rfl (y_ext rfl rfl rfl ⟨rfl, rfl⟩) ?_
  refine wl_v (.int .i64 ((sizeF (newF (8) (8) (7)) (1)).1)) rfl rfl (y_asg rfl rfl ⟨rfl, rfl⟩) ?_
  refine wl_v (.int .i64 ((sizeF (newF (8) (8) (7)) (1)).2)) rfl rfl (y_asg rfl rfl ⟨rfl, rfl⟩) ?_
  refine wl_nil fun F136 hF137 => ?_
  have s138 : F136 74 = undef := (hF137 74).trans s121
  have s139 : F136 1 = .pointer (some ⟨p25, 0, none⟩) := (hF137 1).trans s122
  have s140 : F136 2 = .int .i64 (newE (8) (8)) := (hF137 2).trans s123
  have s141 : F136 3 = .pointer (some ⟨p87, 0, none⟩) := (hF137 3).trans s124
  have s142 : F136 5 = .int .i64 ((sizeF (newF (8) (8) (7)) (1)).1) := (hF137 5).trans rfl
  have s143 : F136 6 = .int .i64 ((sizeF (newF (8) (8) (7)) (1)).2) := (hF137 6).trans rfl
  clear hF137
  refine then_normal ?_
  refine wq_seq ?_
  refine wq_region ?_
  refine wl_call (R := fun v_ w_ => ∃ (v144 : Value) (T149 : Nat → Prop) (v145 : Value) (T150 : Nat → Prop) (v146 : Value) (T151 : Nat → Prop), .tuple #[.agg #[.int .i64 ((newF (9) (8) (0)).W), .int .i64 ((newF (9) (8) (0)).H), v144, v145, v146], .int .i64 (newE (9) (8))] = v_ ∧ Kept (fun _ => False) w125 w_ ∧ (Owb w_ T149 v144 ((newF (9) (8) (0)).p0) ∧ Grew w125 noB T149) ∧ (Owb w_ T150 v145 ((newF (9) (8) (0)).p1) ∧ Grew w125 noB T150) ∧ (Owb w_ T151 v146 ((newF (9) (8) (0)).p2) ∧ Grew w125 noB T151) ∧ Apart T149 T150 ∧ Apart T149 T151 ∧ Apart T150 T151) rfl rfl (y_cs rfl rfl rfl (fun _ _ => by kernel_rfl) (ev_func _) (vsC rfl (vsC rfl (vsC rfl vsN))) (pl_new (9) (8) (0)  _ (by omega)  ) (fun e_ w_ h_ => by obtain ⟨v144_, T149_, v145_, T150_, v146_, T151_, he_, hr_⟩ := h_; exact ⟨_, he_, v144_, T149_, v145_, T150_, v146_, T151_, rfl, hr_⟩)) ?_
  rintro _ w147 ⟨v144, T149, v145, T150, v146, T151, rfl, k148, ⟨B152, g155⟩, ⟨B153, g156⟩, ⟨B154, g157⟩, ap158, ap159, ap160⟩
  have B161 := B127.all k148 Apart.none
  have B162 := B128.all k148 Apart.none
  have B163 := B129.all k148 Apart.none
  have B164 := B130.all k148 id
  have B165 := B131.all k148 Apart.none
  have B166 := B132.all k148 Apart.none
  have B167 := B133.all k148 Apart.none
  have B168 := B134.all k148 id
  have K169 := K135.trans k148 (fun _ _ x => x.elim)
  have gr170 : Grew w0 noB (T149) := Grew.new K135 g155
  have ap171 : Apart (T149) (T9) := Apart.new g155 (B127).live
  have ap172 : Apart (T149) (T10) := Apart.new g155 (B128).live
  have ap173 : Apart (T149) (T11) := Apart.new g155 (B129).live
  have ap174 : Apart (T149) (onB p25) := Apart.new g155 (onB_live (B130).lt)
  have ap175 : Apart (T149) (T55) := Apart.new g155 (B131).live
  have ap176 : Apart (T149) (T56) := Apart.new g155 (B132).live
  have ap177 : Apart (T149) (T57) := Apart.new g155 (B133).live
  have ap178 : Apart (T149) (onB p87) := Apart.new g155 (onB_live (B134).lt)
  have gr179 : Grew w0 noB (T150) := Grew.new K135 g156
  have ap180 : Apart (T150) (T9) := Apart.new g156 (B127).live
  have ap181 : Apart (T150) (T10) := Apart.new g156 (B128).live
  have ap182 : Apart (T150) (T11) := Apart.new g156 (B129).live
  have ap183 : Apart (T150) (onB p25) := Apart.new g156 (onB_live (B130).lt)
  have ap184 : Apart (T150) (T55) := Apart.new g156 (B131).live
  have ap185 : Apart (T150) (T56) := Apart.new g156 (B132).live
  have ap186 : Apart (T150) (T57) := Apart.new g156 (B133).live
  have ap187 : Apart (T150) (onB p87) := Apart.new g156 (onB_live (B134).lt)
  have gr188 : Grew w0 noB (T151) := Grew.new K135 g157
  have ap189 : Apart (T151) (T9) := Apart.new g157 (B127).live
  have ap190 : Apart (T151) (T10) := Apart.new g157 (B128).live
  have ap191 : Apart (T151) (T11) := Apart.new g157 (B129).live
  have ap192 : Apart (T151) (onB p25) := Apart.new g157 (onB_live (B130).lt)
  have ap193 : Apart (T151) (T55) := Apart.new g157 (B131).live
  have ap194 : Apart (T151) (T56) := Apart.new g157 (B132).live
  have ap195 : Apart (T151) (T57) := Apart.new g157 (B133).live
  have ap196 : Apart (T151) (onB p87) := Apart.new g157 (onB_live (B134).lt)
  refine wl_v (.tuple #[.agg #[.int .i64 ((newF (9) (8) (0)).W), .int .i64 ((newF (9) (8) (0)).H), v144, v145, v146], .int .i64 (newE (9) (8))]) rfl rfl (y_mov rfl rfl ⟨rfl, rfl⟩) ?_
  refine wl_v (.agg #[.int .i64 ((newF (9) (8) (0)).W), .int .i64 ((newF (9) (8) (0)).H), v144, v145, v146]) rfl rfl (y_ext rfl rfl rfl ⟨rfl, rfl⟩) ?_
  refine wl_v (.int .i64 (newE (9) (8))) rfl rfl (y_ext rfl rfl rfl ⟨rfl, rfl⟩) ?_
  refine wl_alloc_stc (n := 5) (vs := [.int .i64 (0), .int .i64 (0), .slice none 0 0, .slice none 0 0, .slice none 0 0]) rfl rfl rfl (by kernel_rfl) fun p197 w198 B200 g201 k199 => ?_
  have gr202 : Grew w0 noB (onB p197) := Grew.new K169 g201
  have ap203 : Apart (onB p197) (T9) := Apart.new g201 (B161).live
  have ap204 : Apart (onB p197) (T10) := Apart.new g201 (B162).live
  have ap205 : Apart (onB p197) (T11) := Apart.new g201 (B163).live
  have ap206 : Apart (onB p197) (onB p25) := Apart.new g201 (onB_live (B164).lt)
  have ap207 : Apart (onB p197) (T55) := Apart.new g201 (B165).live
  have ap208 : Apart (onB p197) (T56) := Apart.new g201 (B166).live
  have ap209 : Apart (onB p197) (T57) := Apart.new g201 (B167).live
  have ap210 : Apart (onB p197) (onB p87) := Apart.new g201 (onB_live (B168).lt)
  have ap211 : Apart (onB p197) (T149) := Apart.new g201 (B152).live
  have ap212 : Apart (onB p197) (T150) := Apart.new g201 (B153).live
  have ap213 : Apart (onB p197) (T151) := Apart.new g201 (B154).live
  have B214 := B161.all k199 Apart.none
  have B215 := B162.all k199 Apart.none
  have B216 := B163.all k199 Apart.none
  have B217 := B164.all k199 id
  have B218 := B165.all k199 Apart.none
  have B219 := B166.all k199 Apart.none
  have B220 := B167.all k199 Apart.none
  have B221 := B168.all k199 id
  have B222 := B152.all k199 Apart.none
  have B223 := B153.all k199 Apart.none
  have B224 := B154.all k199 Apart.none
  have K225 := K169.trans k199 (fun _ _ x => x.elim)
  refine wl_store_stc (us := [.int .i64 ((newF (9) (8) (0)).W), .int .i64 ((newF (9) (8) (0)).H), v144, v145, v146]) stcT_frame rfl rfl rfl rfl rfl B200 rfl (oneI rfl (oneI rfl (oneI (B222).one (oneI (B223).one (oneI (B224).one oneN))))) fun w226 B227 k228 => ?_
  have B229 := B214.all k228 (fun i h x => (((ap203).symm) i h x))
  have B230 := B215.all k228 (fun i h x => (((ap204).symm) i h x))
  have B231 := B216.all k228 (fun i h x => (((ap205).symm) i h x))
  have B232 := B217.all k228 (fun x => (((ap206).symm) p25 rfl x))
  have B233 := B218.all k228 (fun i h x => (((ap207).symm) i h x))
  have B234 := B219.all k228 (fun i h x => (((ap208).symm) i h x))
  have B235 := B220.all k228 (fun i h x => (((ap209).symm) i h x))
  have B236 := B221.all k228 (fun x => (((ap210).symm) p87 rfl x))
  have B237 := B222.all k228 (fun i h x => (((ap211).symm) i h x))
  have B238 := B223.all k228 (fun i h x => (((ap212).symm) i h x))
  have B239 := B224.all k228 (fun i h x => (((ap213).symm) i h x))
  have K240 := K225.trans k228 (Grew.ok (S := fun _ => False) gr202 noB_le)
  refine wl_v (.int .i64 (newE (9) (8))) rfl rfl (y_asg rfl rfl ⟨rfl, rfl⟩) ?_
  refine wl_nil fun F241 hF242 => ?_
  have s243 : F241 74 = undef := (hF242 74).trans s138
  have s244 : F241 1 = .pointer (some ⟨p25, 0, none⟩) := (hF242 1).trans s139
  have s245 : F241 2 = .int .i64 (newE (8) (8)) := (hF242 2).trans s140
  have s246 : F241 3 = .pointer (some ⟨p87, 0, none⟩) := (hF242 3).trans s141
  have s247 : F241 5 = .int .i64 ((sizeF (newF (8) (8) (7)) (1)).1) := (hF242 5).trans s142
  have s248 : F241 6 = .int .i64 ((sizeF (newF (8) (8) (7)) (1)).2) := (hF242 6).trans s143
  have s249 : F241 8 = .int .i64 (newE (9) (8)) := (hF242 8).trans rfl
  clear hF242
  refine then_normal ?_
  refine wq_seq ?_
  refine wq_region ?_
  refine wl_v (.int .i64 (newE (8) (8))) rfl rfl (y_mov rfl s245 ⟨rfl, rfl⟩) ?_
  refine wl_v (.bool true) rfl rfl (y_eqlI rfl rfl rfl (decide_eq_true hf.out.1) ⟨rfl, rfl⟩) ?_
  refine wl_v (.bool true) rfl rfl (y_mov rfl rfl ⟨rfl, rfl⟩) ?_
  refine wl_vw (.agg #[.int .i64 ((newF (8) (8) (7)).W), .int .i64 ((newF (8) (8) (7)).H), v4, v5, v6]) 2 true 28 rfl rfl rfl rfl rfl (y_load_stc stcT_frame rfl s244 B232 ⟨rfl, rfl⟩) ?_
  refine wl_callw (R := fun v_ w_ => v_ = .int .i64 (atF (newF (8) (8) (7)) (0) (-3) (99)) ∧ Kept (fun _ => False) w226 w_) 2 true 28 rfl rfl rfl rfl rfl (y_cs rfl rfl rfl (fun _ _ => by kernel_rfl) (ev_func _) (vsC rfl (vsC rfl (vsC rfl (vsC rfl vsN)))) (pl_at (0) (-3) (99) (newF (8) (8) (7)) (v4) (v5) (v6) (T9) (T10) (T11) _  (B229).byt (B230).byt (B231).byt ) (fun e_ w_ h_ => ⟨_, h_.1, rfl, h_.2⟩)) ?_
  rintro _ w250 ⟨rfl, k251⟩
  have B252 := B229.all k251 Apart.none
  have B253 := B230.all k251 Apart.none
  have B254 := B231.all k251 Apart.none
  have B255 := B232.all k251 id
  have B256 := B233.all k251 Apart.none
  have B257 := B234.all k251 Apart.none
  have B258 := B235.all k251 Apart.none
  have B259 := B236.all k251 id
  have B260 := B237.all k251 Apart.none
  have B261 := B238.all k251 Apart.none
  have B262 := B239.all k251 Apart.none
  have B263 := B227.all k251 id
  have K264 := K240.trans k251 (fun _ _ x => x.elim)
  refine wl_vw (.bool true) 2 true 28 rfl rfl rfl rfl rfl (y_eqlI rfl rfl rfl (decide_eq_true hf.out.2.1) ⟨rfl, rfl⟩) ?_
  refine wl_v (.bool true) rfl rfl (y_pickT rfl rfl rfl ⟨rfl, rfl⟩) ?_
  refine wl_v (.bool true) rfl rfl (y_mov rfl rfl ⟨rfl, rfl⟩) ?_
  refine wl_vw (.int .i64 ((sizeF (newF (8) (8) (7)) (1)).1)) 7 true 33 rfl rfl rfl rfl rfl (y_mov rfl s247 ⟨rfl, rfl⟩) ?_
  refine wl_vw (.bool true) 7 true 33 rfl rfl rfl rfl rfl (y_eqlI rfl rfl rfl (decide_eq_true hf.out.2.2.1) ⟨rfl, rfl⟩) ?_
  refine wl_v (.bool true) rfl rfl (y_pickT rfl rfl rfl ⟨rfl, rfl⟩) ?_
  refine wl_v (.bool true) rfl rfl (y_mov rfl rfl ⟨rfl, rfl⟩) ?_
  refine wl_vw (.int .i64 ((sizeF (newF (8) (8) (7)) (1)).2)) 11 true 37 rfl rfl rfl rfl rfl (y_mov rfl s248 ⟨rfl, rfl⟩) ?_
  refine wl_vw (.bool true) 11 true 37 rfl rfl rfl rfl rfl (y_eqlI rfl rfl rfl (decide_eq_true hf.out.2.2.2.1) ⟨rfl, rfl⟩) ?_
  refine wl_v (.bool true) rfl rfl (y_pickT rfl rfl rfl ⟨rfl, rfl⟩) ?_
  refine wl_v (.bool true) rfl rfl (y_mov rfl rfl ⟨rfl, rfl⟩) ?_
  refine wl_vw (.agg #[.int .i64 ((newF (8) (8) (7)).W), .int .i64 ((newF (8) (8) (7)).H), v4, v5, v6]) 15 true 41 rfl rfl rfl rfl rfl (y_load_stc stcT_frame rfl s244 B255 ⟨rfl, rfl⟩) ?_
  refine wl_vw (.agg #[.int .i64 ((newF (8) (8) (9)).W), .int .i64 ((newF (8) (8) (9)).H), v50, v51, v52]) 15 true 41 rfl rfl rfl rfl rfl (y_load_stc stcT_frame rfl s246 B259 ⟨rfl, rfl⟩) ?_
  refine wl_callw (R := fun v_ w_ => v_ = .int .i64 (farF (newF (8) (8) (7)) (newF (8) (8) (9))) ∧ Kept (fun _ => False) w250 w_) 15 true 41 rfl rfl rfl rfl rfl (y_cs rfl rfl rfl (fun _ _ => by kernel_rfl) (ev_func _) (vsC rfl (vsC rfl vsN)) (pl_far (newF (8) (8) (7)) (v4) (v5) (v6) (newF (8) (8) (9)) (v50) (v51) (v52) (T9) (T10) (T11) (T55) (T56) (T57) _  (B252).byt (B253).byt (B254).byt (B256).byt (B257).byt (B258).byt ) (fun e_ w_ h_ => ⟨_, h_.1, rfl, h_.2⟩)) ?_
  rintro _ w265 ⟨rfl, k266⟩
  have B267 := B252.all k266 Apart.none
  have B268 := B253.all k266 Apart.none
  have B269 := B254.all k266 Apart.none
  have B270 := B255.all k266 id
  have B271 := B256.all k266 Apart.none
  have B272 := B257.all k266 Apart.none
  have B273 := B258.all k266 Apart.none
  have B274 := B259.all k266 id
  have B275 := B260.all k266 Apart.none
  have B276 := B261.all k266 Apart.none
  have B277 := B262.all k266 Apart.none
  have B278 := B263.all k266 id
  have K279 := K264.trans k266 (fun _ _ x => x.elim)
  refine wl_vw (.bool true) 15 true 41 rfl rfl rfl rfl rfl (y_eqlI rfl rfl rfl (decide_eq_true hf.out.2.2.2.2.1) ⟨rfl, rfl⟩) ?_
  refine wl_v (.bool true) rfl rfl (y_pickT rfl rfl rfl ⟨rfl, rfl⟩) ?_
  refine wl_v (.bool true) rfl rfl (y_mov rfl rfl ⟨rfl, rfl⟩) ?_
  refine wl_vw (.agg #[.int .i64 ((newF (8) (8) (7)).W), .int .i64 ((newF (8) (8) (7)).H), v4, v5, v6]) 21 true 47 rfl rfl rfl rfl rfl (y_load_stc stcT_frame rfl s244 B270 ⟨rfl, rfl⟩) ?_
  refine wl_vw (.agg #[.int .i64 (0), .int .i64 (0), .slice none 0 0, .slice none 0 0, .slice none 0 0]) 21 true 47 rfl rfl rfl rfl rfl (y_buildL (l' := []) (cells := #[.int .i64 (0), .int .i64 (0), .slice none 0 0, .slice none 0 0, .slice none 0 0]) rfl bpN (by kernel_rfl) rfl ⟨rfl, rfl⟩) ?_
  refine wl_callw (R := fun v_ w_ => v_ = .int .i64 (farF (newF (8) (8) (7)) (FD.mk (0) (0) ([]) ([]) ([]))) ∧ Kept (fun _ => False) w265 w_) 21 true 47 rfl rfl rfl rfl rfl (y_cs rfl rfl rfl (fun _ _ => by kernel_rfl) (ev_func _) (vsC rfl (vsC rfl vsN)) (pl_far (newF (8) (8) (7)) (v4) (v5) (v6) (FD.mk (0) (0) ([]) ([]) ([])) (.slice none 0 0) (.slice none 0 0) (.slice none 0 0) (T9) (T10) (T11) (noB) (noB) (noB) _  (B267).byt (B268).byt (B269).byt (Byt.nil _) (Byt.nil _) (Byt.nil _) ) (fun e_ w_ h_ => ⟨_, h_.1, rfl, h_.2⟩)) ?_
  rintro _ w280 ⟨rfl, k281⟩
  have B282 := B267.all k281 Apart.none
  have B283 := B268.all k281 Apart.none
  have B284 := B269.all k281 Apart.none
  have B285 := B270.all k281 id
  have B286 := B271.all k281 Apart.none
  have B287 := B272.all k281 Apart.none
  have B288 := B273.all k281 Apart.none
  have B289 := B274.all k281 id
  have B290 := B275.all k281 Apart.none
  have B291 := B276.all k281 Apart.none
  have B292 := B277.all k281 Apart.none
  have B293 := B278.all k281 id
  have K294 := K279.trans k281 (fun _ _ x => x.elim)
  refine wl_vw (.bool true) 21 true 47 rfl rfl rfl rfl rfl (y_eqlI rfl rfl rfl (decide_eq_true hf.out.2.2.2.2.2.1) ⟨rfl, rfl⟩) ?_
  refine wl_v (.bool true) rfl rfl (y_pickT rfl rfl rfl ⟨rfl, rfl⟩) ?_
  refine wl_v (.bool true) rfl rfl (y_mov rfl rfl ⟨rfl, rfl⟩) ?_
  refine wl_vw (.int .i64 (newE (9) (8))) 27 true 53 rfl rfl rfl rfl rfl (y_mov rfl s249 ⟨rfl, rfl⟩) ?_
  refine wl_vw (.bool true) 27 true 53 rfl rfl rfl rfl rfl (y_eqlI rfl rfl rfl (decide_eq_true hf.out.2.2.2.2.2.2.1) ⟨rfl, rfl⟩) ?_
  refine wl_v (.bool true) rfl rfl (y_pickT rfl rfl rfl ⟨rfl, rfl⟩) ?_
  refine wl_v (.bool true) rfl rfl (y_mov rfl rfl ⟨rfl, rfl⟩) ?_
  refine wl_vw (.agg #[.int .i64 ((newF (8) (8) (7)).W), .int .i64 ((newF (8) (8) (7)).H), v4, v5, v6]) 31 true 57 rfl rfl rfl rfl rfl (y_load_stc stcT_frame rfl s244 B285 ⟨rfl, rfl⟩) ?_
  refine wl_callw (R := fun v_ w_ => v_ = .int .i64 (checkE (newF (8) (8) (7))) ∧ Kept (fun _ => False) w280 w_) 31 true 57 rfl rfl rfl rfl rfl (y_cs rfl rfl rfl (fun _ _ => by kernel_rfl) (ev_func _) (vsC rfl vsN) (pl_check (newF (8) (8) (7)) (v4) (v5) (v6) (T9) (T10) (T11) _  (B282).byt (B283).byt (B284).byt ) (fun e_ w_ h_ => ⟨_, h_.1, rfl, h_.2⟩)) ?_
  rintro _ w295 ⟨rfl, k296⟩
  have B297 := B282.all k296 Apart.none
  have B298 := B283.all k296 Apart.none
  have B299 := B284.all k296 Apart.none
  have B300 := B285.all k296 id
  have B301 := B286.all k296 Apart.none
  have B302 := B287.all k296 Apart.none
  have B303 := B288.all k296 Apart.none
  have B304 := B289.all k296 id
  have B305 := B290.all k296 Apart.none
  have B306 := B291.all k296 Apart.none
  have B307 := B292.all k296 Apart.none
  have B308 := B293.all k296 id
  have K309 := K294.trans k296 (fun _ _ x => x.elim)
  refine wl_vw (.bool true) 31 true 57 rfl rfl rfl rfl rfl (y_eqlI rfl rfl rfl (decide_eq_true hf.out.2.2.2.2.2.2.2.1) ⟨rfl, rfl⟩) ?_
  refine wl_v (.bool true) rfl rfl (y_pickT rfl rfl rfl ⟨rfl, rfl⟩) ?_
  refine wl_v (.bool true) rfl rfl (y_mov rfl rfl ⟨rfl, rfl⟩) ?_
  refine wl_v (.bool true) rfl rfl (y_pickT rfl rfl rfl ⟨rfl, rfl⟩) ?_
  refine wl_v (.bool true) rfl rfl (y_mov rfl rfl ⟨rfl, rfl⟩) ?_
  refine wl_v (.bool true) rfl rfl (y_pickT rfl rfl rfl ⟨rfl, rfl⟩) ?_
  refine wl_v (.bool true) rfl rfl (y_mov rfl rfl ⟨rfl, rfl⟩) ?_
  refine wl_v (.bool true) rfl rfl (y_pickT rfl rfl rfl ⟨rfl, rfl⟩) ?_
  refine wl_v (.bool true) rfl rfl (y_mov rfl rfl ⟨rfl, rfl⟩) ?_
  refine wl_vw (.agg #[.int .i64 ((newF (8) (8) (7)).W), .int .i64 ((newF (8) (8) (7)).H), v4, v5, v6]) 42 true 68 rfl rfl rfl rfl rfl (y_load_stc stcT_frame rfl s244 B300 ⟨rfl, rfl⟩) ?_
  refine wl_callw (R := fun v_ w_ => v_ = blkV (getF (newF (8) (8) (7)) (2) (0) (0)) ∧ Kept (fun _ => False) w295 w_) 42 true 68 rfl rfl rfl rfl rfl (y_cs rfl rfl rfl (fun _ _ => by kernel_rfl) (ev_func _) (vsC rfl (vsC rfl (vsC rfl (vsC rfl vsN)))) (pl_get (2) (0) (0) (newF (8) (8) (7)) (v4) (v5) (v6) (T9) (T10) (T11) _  (B297).byt (B298).byt (B299).byt ) (fun e_ w_ h_ => ⟨_, h_.1, rfl, h_.2⟩)) ?_
  rintro _ w310 ⟨rfl, k311⟩
  have B312 := B297.all k311 Apart.none
  have B313 := B298.all k311 Apart.none
  have B314 := B299.all k311 Apart.none
  have B315 := B300.all k311 id
  have B316 := B301.all k311 Apart.none
  have B317 := B302.all k311 Apart.none
  have B318 := B303.all k311 Apart.none
  have B319 := B304.all k311 id
  have B320 := B305.all k311 Apart.none
  have B321 := B306.all k311 Apart.none
  have B322 := B307.all k311 Apart.none
  have B323 := B308.all k311 id
  have K324 := K309.trans k311 (fun _ _ x => x.elim)
  refine wl_vw (.int .i64 ((getF (newF (8) (8) (7)) (2) (0) (0)) (5))) 42 true 68 rfl rfl rfl rfl rfl (y_look (5) blkT_block rfl rfl rfl (by omega) rfl ⟨rfl, rfl⟩) ?_
  refine wl_vw (.bool true) 42 true 68 rfl rfl rfl rfl rfl (y_eqlI rfl rfl rfl (decide_eq_true hf.out.2.2.2.2.2.2.2.2) ⟨rfl, rfl⟩) ?_
  refine wl_v (.bool true) rfl rfl (y_pickT rfl rfl rfl ⟨rfl, rfl⟩) ?_
  refine wl_v (.bool true) rfl rfl (y_asg rfl rfl ⟨rfl, rfl⟩) ?_
  refine wl_nil fun F325 hF326 => ?_
  have s327 : F325 74 = undef := (hF326 74).trans s243
  have s328 : F325 0 = .bool true := (hF326 0).trans rfl
  clear hF326
  refine then_normal ?_
  refine wq_ret ?_
  exact end_tmp (v := .bool true) s327 rfl rfl s328 ⟨rfl, K324⟩

end Go.Proofs.Ytomkodoclnbaoaa
namespace Go.Proofs.Ytomkodoclnbaoaa
open Go.RowKit

set_option maxHeartbeats 4000000 in
set_option maxRecDepth 100000 in
theorem fedges_walk (w h : Nat) (v : Value) (l : List Nat) (p : Nat) (x : Int) (m : Nat) (T_s : Nat → Prop) (w0 : World) (hw : w < 256) (hh : h < 256) (hp : p < 256) (hx : -32768 ≤ x ∧ x ≤ 32767) (hm : m < 65536) (h_s : Byt w0 T_s v (l)) :
    Calls Try.prog 6 #[.int .u8 (((w : Nat) : Int)), .int .u8 (((h : Nat) : Int)), v, .int .u8 (((p : Nat) : Int)), .int .i16 (x), .int .u16 (((m : Nat) : Int))] w0 fun e w' => e = .returned (.bool true) ∧ Kept (fun _ => False) w0 w' := by
  refine calls_wq (args := [.int .u8 (((w : Nat) : Int)), .int .u8 (((h : Nat) : Int)), v, .int .u8 (((p : Nat) : Int)), .int .i16 (x), .int .u16 (((m : Nat) : Int))]) 111 Try.func6 rfl rfl (Nat.le_of_ble_eq_true rfl) ?_
  have K0 := Kept.refl (fun _ => False) w0
  have hsb := size_bounds (mkF w h l) (((p % 3 : Nat) : Int))
  have hsp := size_pos (f := mkF w h l) (p := ((p % 3 : Nat) : Int)) ⟨mkF_ok w h l, by omega, by omega⟩
  have g_s := Grew.refl w0 T_s
  refine wq_seq ?_
  refine wq_region ?_
  refine wl_v (.bool false) rfl rfl (y_asg rfl rfl ⟨rfl, rfl⟩) ?_
  refine wl_nil fun F1 hF2 => ?_
  have s3 : F1 0 = .int .u8 (((w : Nat) : Int)) := (hF2 0).trans rfl
  have s4 : F1 1 = .int .u8 (((h : Nat) : Int)) := (hF2 1).trans rfl
  have s5 : F1 2 = v := (hF2 2).trans rfl
  have s6 : F1 3 = .int .u8 (((p : Nat) : Int)) := (hF2 3).trans rfl
  have s7 : F1 4 = .int .i16 (x) := (hF2 4).trans rfl
  have s8 : F1 5 = .int .u16 (((m : Nat) : Int)) := (hF2 5).trans rfl
  have s9 : F1 111 = undef := (hF2 111).trans rfl
  clear hF2
  refine then_normal ?_
  refine wq_seq ?_
  refine wq_region ?_
  refine wl_call (R := fun v_ w_ => v_ = .bool true ∧ Kept (fun _ => False) w0 w_) rfl rfl (y_cs rfl rfl rfl (fun _ _ => by kernel_rfl) (ev_func _) vsN (fawake   _   ) (fun e_ w_ h_ => ⟨_, h_.1, rfl, h_.2⟩)) ?_
  rintro _ w10 ⟨rfl, k11⟩
  have B12 := h_s.all k11 Apart.none
  have K13 := K0.trans k11 (fun _ _ x => x.elim)
  refine wl_v (.bool true) rfl rfl (y_asg rfl rfl ⟨rfl, rfl⟩) ?_
  refine wl_nil fun F14 hF15 => ?_
  have s16 : F14 0 = .int .u8 (((w : Nat) : Int)) := (hF15 0).trans s3
  have s17 : F14 1 = .int .u8 (((h : Nat) : Int)) := (hF15 1).trans s4
  have s18 : F14 2 = v := (hF15 2).trans s5
  have s19 : F14 3 = .int .u8 (((p : Nat) : Int)) := (hF15 3).trans s6
  have s20 : F14 4 = .int .i16 (x) := (hF15 4).trans s7
  have s21 : F14 5 = .int .u16 (((m : Nat) : Int)) := (hF15 5).trans s8
  have s22 : F14 111 = undef := (hF15 111).trans s9
  have s23 : F14 13 = .bool true := (hF15 13).trans rfl
  clear hF15
  refine then_normal ?_
  refine wq_seq ?_
  refine wq_seq ?_
  refine wq_region ?_
  refine wl_v (v) rfl rfl (y_mov rfl s18 ⟨rfl, rfl⟩) ?_
  refine wl_v (.int .i64 ((((l).length : Nat) : Int))) rfl rfl (y_lenV rfl rfl rfl B12 ⟨rfl, rfl⟩) ?_
  refine wl_v (.bool (decide ((300) < ((((l).length : Nat) : Int))))) rfl rfl (y_gtr rfl rfl rfl rfl ⟨rfl, rfl⟩) ?_
  refine wl_nil fun F24 hF25 => ?_
  have s26 : F24 0 = .int .u8 (((w : Nat) : Int)) := (hF25 0).trans s16
  have s27 : F24 1 = .int .u8 (((h : Nat) : Int)) := (hF25 1).trans s17
  have s28 : F24 2 = v := (hF25 2).trans s18
  have s29 : F24 3 = .int .u8 (((p : Nat) : Int)) := (hF25 3).trans s19
  have s30 : F24 4 = .int .i16 (x) := (hF25 4).trans s20
  have s31 : F24 5 = .int .u16 (((m : Nat) : Int)) := (hF25 5).trans s21
  have s32 : F24 111 = undef := (hF25 111).trans s22
  have s33 : F24 13 = .bool true := (hF25 13).trans s23
  have s34 : F24 23 = .bool (decide ((300) < ((((l).length : Nat) : Int)))) := (hF25 23).trans rfl
  clear hF25
  refine then_normal ?_
  refine wq_cond s34 (fun c35 => ?_) (fun c35 => ?_)
  · replace c35 := of_decide_eq_true c35
    refine wq_seq ?_
    refine wq_region ?_
    refine wl_v (.bool true) rfl rfl (y_mov rfl s33 ⟨rfl, rfl⟩) ?_
    refine wl_v (.bool true) rfl rfl (y_asg rfl rfl ⟨rfl, rfl⟩) ?_
    refine wl_nil fun F36 hF37 => ?_
    have s38 : F36 111 = undef := (hF37 111).trans s32
    have s39 : F36 12 = .bool true := (hF37 12).trans rfl
    clear hF37
    refine then_normal ?_
    refine wq_ret ?_
    refine then_ret ?_
    exact end_tmp (v := .bool true) s38 rfl rfl s39 ⟨rfl, K13⟩
  · replace c35 := of_decide_eq_false c35
    refine wq_skip ?_
    refine then_normal ?_
    refine wq_seq ?_
    refine wq_region ?_
    refine wl_v (.int .u8 (((w : Nat) : Int))) rfl rfl (y_mov rfl s26 ⟨rfl, rfl⟩) ?_
    refine wl_v (.int .u8 (((h : Nat) : Int))) rfl rfl (y_mov rfl s27 ⟨rfl, rfl⟩) ?_
    refine wl_v (v) rfl rfl (y_mov rfl s28 ⟨rfl, rfl⟩) ?_
    refine wl_call (R := fun v_ w_ => ∃ (v40 : Value) (T45 : Nat → Prop) (v41 : Value) (T46 : Nat → Prop) (v42 : Value) (T47 : Nat → Prop), .agg #[.int .i64 ((mkF (w) (h) (l)).W), .int .i64 ((mkF (w) (h) (l)).H), v40, v41, v42] = v_ ∧ Kept (fun _ => False) w10 w_ ∧ (Owb w_ T45 v40 ((mkF (w) (h) (l)).p0) ∧ Grew w10 noB T45) ∧ (Owb w_ T46 v41 ((mkF (w) (h) (l)).p1) ∧ Grew w10 noB T46) ∧ (Owb w_ T47 v42 ((mkF (w) (h) (l)).p2) ∧ Grew w10 noB T47) ∧ Apart T45 T46 ∧ Apart T45 T47 ∧ Apart T46 T47) rfl rfl (y_cs rfl rfl rfl (fun _ _ => by kernel_rfl) (ev_func _) (vsC rfl (vsC rfl (vsC rfl vsN))) (flaw_frame (w) (h) (v) (l) (T_s) _ (by omega) (by omega) B12 ) (fun e_ w_ h_ => by obtain ⟨v40_, T45_, v41_, T46_, v42_, T47_, he_, hr_⟩ := h_; exact ⟨_, he_, v40_, T45_, v41_, T46_, v42_, T47_, rfl, hr_⟩)) ?_
    rintro _ w43 ⟨v40, T45, v41, T46, v42, T47, rfl, k44, ⟨B48, g51⟩, ⟨B49, g52⟩, ⟨B50, g53⟩, ap54, ap55, ap56⟩
    have B57 := B12.all k44 Apart.none
    have K58 := K13.trans k44 (fun _ _ x => x.elim)
    have gr59 : Grew w0 noB (T45) := Grew.new K13 g51
    have ap60 : Apart (T45) (T_s) := Apart.new g51 (B12).live
    have gr61 : Grew w0 noB (T46) := Grew.new K13 g52
    have ap62 : Apart (T46) (T_s) := Apart.new g52 (B12).live
    have gr63 : Grew w0 noB (T47) := Grew.new K13 g53
    have ap64 : Apart (T47) (T_s) := Apart.new g53 (B12).live
    refine wl_alloc_stc (n := 5) (vs := [.int .i64 (0), .int .i64 (0), .slice none 0 0, .slice none 0 0, .slice none 0 0]) rfl rfl rfl (by kernel_rfl) fun p65 w66 B68 g69 k67 => ?_
    have gr70 : Grew w0 noB (onB p65) := Grew.new K58 g69
    have ap71 : Apart (onB p65) (T_s) := Apart.new g69 (B57).live
    have ap72 : Apart (onB p65) (T45) := Apart.new g69 (B48).live
    have ap73 : Apart (onB p65) (T46) := Apart.new g69 (B49).live
    have ap74 : Apart (onB p65) (T47) := Apart.new g69 (B50).live
    have B75 := B57.all k67 Apart.none
    have B76 := B48.all k67 Apart.none
    have B77 := B49.all k67 Apart.none
    have B78 := B50.all k67 Apart.none
    have K79 := K58.trans k67 (fun _ _ x => x.elim)
    refine wl_store_stc (us := [.int .i64 ((mkF (w) (h) (l)).W), .int .i64 ((mkF (w) (h) (l)).H), v40, v41, v42]) stcT_frame rfl rfl rfl rfl rfl B68 rfl (oneI rfl (oneI rfl (oneI (B76).one (oneI (B77).one (oneI (B78).one oneN))))) fun w80 B81 k82 => ?_
    have B83 := B75.all k82 (fun i h x => (((ap71).symm) i h x))
    have B84 := B76.all k82 (fun i h x => (((ap72).symm) i h x))
    have B85 := B77.all k82 (fun i h x => (((ap73).symm) i h x))
    have B86 := B78.all k82 (fun i h x => (((ap74).symm) i h x))
    have K87 := K79.trans k82 (Grew.ok (S := fun _ => False) gr70 noB_le)
    refine wl_nil fun F88 hF89 => ?_
    have s90 : F88 3 = .int .u8 (((p : Nat) : Int)) := (hF89 3).trans s29
    have s91 : F88 4 = .int .i16 (x) := (hF89 4).trans s30
    have s92 : F88 5 = .int .u16 (((m : Nat) : Int)) := (hF89 5).trans s31
    have s93 : F88 111 = undef := (hF89 111).trans s32
    have s94 : F88 13 = .bool true := (hF89 13).trans s33
    have s95 : F88 14 = .pointer (some ⟨p65, 0, none⟩) := (hF89 14).trans rfl
    clear hF89
    refine then_normal ?_
    refine wq_seq ?_
    refine wq_region ?_
    refine wl_v (.int .u8 (((p : Nat) : Int))) rfl rfl (y_mov rfl s90 ⟨rfl, rfl⟩) ?_
    refine wl_v (.int .i64 (((p : Nat) : Int))) rfl rfl (y_convR rfl rfl Try.underlying5 Try.underlying3 (i64_i rfl (by omega)) ⟨rfl, rfl⟩) ?_
    refine wl_v (.int .i64 ((((p % 3) : Nat) : Int))) rfl rfl (y_rem rfl rfl rfl (by first | decide | omega) (rem_nat p 3) ⟨rfl, rfl⟩) ?_
    refine wl_v (.int .i64 ((((p % 3) : Nat) : Int))) rfl rfl (y_asg rfl rfl ⟨rfl, rfl⟩) ?_
    refine wl_nil fun F96 hF97 => ?_
    have s98 : F96 4 = .int .i16 (x) := (hF97 4).trans s91
    have s99 : F96 5 = .int .u16 (((m : Nat) : Int)) := (hF97 5).trans s92
    have s100 : F96 111 = undef := (hF97 111).trans s93
    have s101 : F96 13 = .bool true := (hF97 13).trans s94
    have s102 : F96 14 = .pointer (some ⟨p65, 0, none⟩) := (hF97 14).trans s95
    have s103 : F96 15 = .int .i64 ((((p % 3) : Nat) : Int)) := (hF97 15).trans rfl
    clear hF97
    refine then_normal ?_
    refine wq_seq ?_
    refine wq_region ?_
    refine wl_v (.agg #[.int .i64 ((mkF (w) (h) (l)).W), .int .i64 ((mkF (w) (h) (l)).H), v40, v41, v42]) rfl rfl (y_load_stc stcT_frame rfl s102 B81 ⟨rfl, rfl⟩) ?_
    refine wl_v (.int .i64 ((((p % 3) : Nat) : Int))) rfl rfl (y_mov rfl s103 ⟨rfl, rfl⟩) ?_
    refine wl_call (R := fun v_ w_ => v_ = .tuple #[.int .i64 ((sizeF (mkF (w) (h) (l)) ((((p % 3) : Nat) : Int))).1), .int .i64 ((sizeF (mkF (w) (h) (l)) ((((p % 3) : Nat) : Int))).2)] ∧ Kept (fun _ => False) w80 w_) rfl rfl (y_cs rfl rfl rfl (fun _ _ => by kernel_rfl) (ev_func _) (vsC rfl (vsC rfl vsN)) (pl_size ((((p % 3) : Nat) : Int)) (mkF (w) (h) (l)) (v40) (v41) (v42) (T45) (T46) (T47) _  (B84).byt (B85).byt (B86).byt ) (fun e_ w_ h_ => ⟨_, h_.1, rfl, h_.2⟩)) ?_
    rintro _ w104 ⟨rfl, k105⟩
    have B106 := B83.all k105 Apart.none
    have B107 := B84.all k105 Apart.none
    have B108 := B85.all k105 Apart.none
    have B109 := B86.all k105 Apart.none
    have B110 := B81.all k105 id
    have K111 := K87.trans k105 (fun _ _ x => x.elim)
    refine wl_v (.tuple #[.int .i64 ((sizeF (mkF (w) (h) (l)) ((((p % 3) : Nat) : Int))).1), .int .i64 ((sizeF (mkF (w) (h) (l)) ((((p % 3) : Nat) : Int))).2)]) rfl rfl (y_mov rfl rfl ⟨rfl, rfl⟩) ?_
    refine wl_v (.int .i64 ((sizeF (mkF (w) (h) (l)) ((((p % 3) : Nat) : Int))).1)) rfl rfl (y_ext rfl rfl rfl ⟨rfl, rfl⟩) ?_
    refine wl_v (.int .i64 ((sizeF (mkF (w) (h) (l)) ((((p % 3) : Nat) : Int))).2)) rfl rfl (y_ext rfl rfl rfl ⟨rfl, rfl⟩) ?_
    refine wl_v (.int .i64 ((sizeF (mkF (w) (h) (l)) ((((p % 3) : Nat) : Int))).1)) rfl rfl (y_asg rfl rfl ⟨rfl, rfl⟩) ?_
    refine wl_v (.int .i64 ((sizeF (mkF (w) (h) (l)) ((((p % 3) : Nat) : Int))).2)) rfl rfl (y_asg rfl rfl ⟨rfl, rfl⟩) ?_
    refine wl_nil fun F112 hF113 => ?_
    have s114 : F112 4 = .int .i16 (x) := (hF113 4).trans s98
    have s115 : F112 5 = .int .u16 (((m : Nat) : Int)) := (hF113 5).trans s99
    have s116 : F112 111 = undef := (hF113 111).trans s100
    have s117 : F112 13 = .bool true := (hF113 13).trans s101
    have s118 : F112 14 = .pointer (some ⟨p65, 0, none⟩) := (hF113 14).trans s102
    have s119 : F112 15 = .int .i64 ((((p % 3) : Nat) : Int)) := (hF113 15).trans s103
    have s120 : F112 16 = .int .i64 ((sizeF (mkF (w) (h) (l)) ((((p % 3) : Nat) : Int))).1) := (hF113 16).trans rfl
    have s121 : F112 17 = .int .i64 ((sizeF (mkF (w) (h) (l)) ((((p % 3) : Nat) : Int))).2) := (hF113 17).trans rfl
    clear hF113
    refine then_normal ?_
    refine wq_seq ?_
    refine wq_region ?_
    refine wl_v (.int .u16 (((m : Nat) : Int))) rfl rfl (y_mov rfl s115 ⟨rfl, rfl⟩) ?_
    refine wl_v (.int .i64 (((m : Nat) : Int))) rfl rfl (y_convR rfl rfl Try.underlying44 Try.underlying3 (i64_i rfl (by omega)) ⟨rfl, rfl⟩) ?_
    refine wl_v (.int .i64 (((m : Nat) : Int))) rfl rfl (y_asg rfl rfl ⟨rfl, rfl⟩) ?_
    refine wl_nil fun F122 hF123 => ?_
    have s124 : F122 4 = .int .i16 (x) := (hF123 4).trans s114
    have s125 : F122 111 = undef := (hF123 111).trans s116
    have s126 : F122 13 = .bool true := (hF123 13).trans s117
    have s127 : F122 14 = .pointer (some ⟨p65, 0, none⟩) := (hF123 14).trans s118
    have s128 : F122 15 = .int .i64 ((((p % 3) : Nat) : Int)) := (hF123 15).trans s119
    have s129 : F122 16 = .int .i64 ((sizeF (mkF (w) (h) (l)) ((((p % 3) : Nat) : Int))).1) := (hF123 16).trans s120
    have s130 : F122 17 = .int .i64 ((sizeF (mkF (w) (h) (l)) ((((p % 3) : Nat) : Int))).2) := (hF123 17).trans s121
    have s131 : F122 18 = .int .i64 (((m : Nat) : Int)) := (hF123 18).trans rfl
    clear hF123
    refine then_normal ?_
    refine wq_seq ?_
    refine wq_seq ?_
    refine wq_region ?_
    refine wl_v (.int .i64 (0)) rfl rfl (y_asg rfl rfl ⟨rfl, rfl⟩) ?_
    refine wl_nil fun F132 hF133 => ?_
    have s134 : F132 4 = .int .i16 (x) := (hF133 4).trans s124
    have s135 : F132 111 = undef := (hF133 111).trans s125
    have s136 : F132 13 = .bool true := (hF133 13).trans s126
    have s137 : F132 14 = .pointer (some ⟨p65, 0, none⟩) := (hF133 14).trans s127
    have s138 : F132 15 = .int .i64 ((((p % 3) : Nat) : Int)) := (hF133 15).trans s128
    have s139 : F132 16 = .int .i64 ((sizeF (mkF (w) (h) (l)) ((((p % 3) : Nat) : Int))).1) := (hF133 16).trans s129
    have s140 : F132 17 = .int .i64 ((sizeF (mkF (w) (h) (l)) ((((p % 3) : Nat) : Int))).2) := (hF133 17).trans s130
    have s141 : F132 18 = .int .i64 (((m : Nat) : Int)) := (hF133 18).trans s131
    have s142 : F132 19 = .int .i64 (0) := (hF133 19).trans rfl
    clear hF133
    refine then_normal ?_
    refine wq_block ?_
    refine wq_loop (fun nn FF ww => ∃ (i : Nat), ((i : Int) ≤ (sizeF (mkF (w) (h) (l)) (((p % 3 : Nat) : Int))).2) ∧ nn = ((sizeF (mkF (w) (h) (l)) (((p % 3 : Nat) : Int))).2).toNat - i ∧ FF 4 = .int .i16 (x) ∧ FF 13 = .bool true ∧ FF 14 = .pointer (some ⟨p65, 0, none⟩) ∧ FF 15 = .int .i64 ((((p % 3) : Nat) : Int)) ∧ FF 16 = .int .i64 ((sizeF (mkF (w) (h) (l)) ((((p % 3) : Nat) : Int))).1) ∧ FF 17 = .int .i64 ((sizeF (mkF (w) (h) (l)) ((((p % 3) : Nat) : Int))).2) ∧ FF 18 = .int .i64 (((m : Nat) : Int)) ∧ FF 111 = undef ∧ FF 19 = .int .i64 (((i : Nat) : Int)) ∧ Kept (fun _ => False) w0 ww ∧ Byt ww (T_s) v (l) ∧ Owb ww (T45) v40 ((mkF (w) (h) (l)).p0) ∧ Owb ww (T46) v41 ((mkF (w) (h) (l)).p1) ∧ Owb ww (T47) v42 ((mkF (w) (h) (l)).p2) ∧ Stc ww p65 25 [.int .i64 ((mkF (w) (h) (l)).W), .int .i64 ((mkF (w) (h) (l)).H), v40, v41, v42]) (((sizeF (mkF (w) (h) (l)) (((p % 3 : Nat) : Int))).2).toNat - (0)) ⟨0, by omega, rfl, s134, s136, s137, s138, s139, s140, s141, s135, s142, K111, B106, B107, B108, B109, B110⟩ ?_
    rintro n146 F143 w144 ⟨i, i147, hn146, s148, s149, s150, s151, s152, s153, s154, s155, s156, K145, B157, B158, B159, B160, B161⟩
    refine wq_seq ?_
    refine wq_seq ?_
    refine wq_region ?_
    refine wl_v (.int .i64 (((i : Nat) : Int))) rfl rfl (y_mov rfl s156 ⟨rfl, rfl⟩) ?_
    refine wl_v (.int .i64 ((sizeF (mkF (w) (h) (l)) ((((p % 3) : Nat) : Int))).2)) rfl rfl (y_mov rfl s153 ⟨rfl, rfl⟩) ?_
    refine wl_v (.bool (decide ((((i : Nat) : Int)) < ((sizeF (mkF (w) (h) (l)) ((((p % 3) : Nat) : Int))).2)))) rfl rfl (y_lss rfl rfl rfl rfl ⟨rfl, rfl⟩) ?_
    refine wl_nil fun F162 hF163 => ?_
    have s164 : F162 4 = .int .i16 (x) := (hF163 4).trans s148
    have s165 : F162 13 = .bool true := (hF163 13).trans s149
    have s166 : F162 14 = .pointer (some ⟨p65, 0, none⟩) := (hF163 14).trans s150
    have s167 : F162 15 = .int .i64 ((((p % 3) : Nat) : Int)) := (hF163 15).trans s151
    have s168 : F162 16 = .int .i64 ((sizeF (mkF (w) (h) (l)) ((((p % 3) : Nat) : Int))).1) := (hF163 16).trans s152
    have s169 : F162 17 = .int .i64 ((sizeF (mkF (w) (h) (l)) ((((p % 3) : Nat) : Int))).2) := (hF163 17).trans s153
    have s170 : F162 18 = .int .i64 (((m : Nat) : Int)) := (hF163 18).trans s154
    have s171 : F162 111 = undef := (hF163 111).trans s155
    have s172 : F162 19 = .int .i64 (((i : Nat) : Int)) := (hF163 19).trans s156
    have s173 : F162 42 = .bool (decide ((((i : Nat) : Int)) < ((sizeF (mkF (w) (h) (l)) ((((p % 3) : Nat) : Int))).2))) := (hF163 42).trans rfl
    clear hF163
    refine then_normal ?_
    refine wq_cond s173 (fun c174 => ?_) (fun c174 => ?_)
    · replace c174 := of_decide_eq_true c174
      refine wq_skip ?_
      refine then_normal ?_
      refine wq_seq ?_
      refine wq_block ?_
      refine wq_seq ?_
      refine wq_said [some 45, some 46, some 47, some 48, some 49, some 50, some 51, some 52, some 53, some 54, some 55, some 56, some 57, some 58, some 59, some 60, some 61, some 62, some 63, some 64, some 65, some 66, some 67, some 68, some 69, some 70, some 71, some 72] [Pd.eq (.agg #[.int .i64 ((mkF (w) (h) (l)).W), .int .i64 ((mkF (w) (h) (l)).H), v40, v41, v42]), Pd.eq (.int .i64 ((((p % 3) : Nat) : Int))), Pd.eq (.int .i64 (((m : Nat) : Int))), Pd.eq (.int .i64 (-(((m : Nat) : Int)))), Pd.eq (.int .i64 (((i : Nat) : Int))), Pd.eq (.int .i64 (atF (mkF (w) (h) (l)) ((((p % 3) : Nat) : Int)) (-(((m : Nat) : Int))) (((i : Nat) : Int)))), Pd.eq (.agg #[.int .i64 ((mkF (w) (h) (l)).W), .int .i64 ((mkF (w) (h) (l)).H), v40, v41, v42]), Pd.eq (.int .i64 ((((p % 3) : Nat) : Int))), Pd.eq (.int .i64 (((i : Nat) : Int))), Pd.eq (.int .i64 (atF (mkF (w) (h) (l)) ((((p % 3) : Nat) : Int)) (0) (((i : Nat) : Int)))), Pd.eq (.bool false), Pd.eq (.bool false), Pd.eq (.agg #[.int .i64 ((mkF (w) (h) (l)).W), .int .i64 ((mkF (w) (h) (l)).H), v40, v41, v42]), Pd.eq (.int .i64 ((((p % 3) : Nat) : Int))), Pd.eq (.int .i64 ((sizeF (mkF (w) (h) (l)) ((((p % 3) : Nat) : Int))).1)), Pd.eq (.int .i64 (((sizeF (mkF (w) (h) (l)) ((((p % 3) : Nat) : Int))).1) - (1))), Pd.eq (.int .i64 (((m : Nat) : Int))), Pd.eq (.int .i64 ((((sizeF (mkF (w) (h) (l)) ((((p % 3) : Nat) : Int))).1) - (1)) + (((m : Nat) : Int)))), Pd.eq (.int .i64 (((i : Nat) : Int))), Pd.eq (.int .i64 (atF (mkF (w) (h) (l)) ((((p % 3) : Nat) : Int)) ((((sizeF (mkF (w) (h) (l)) ((((p % 3) : Nat) : Int))).1) - (1)) + (((m : Nat) : Int))) (((i : Nat) : Int)))), Pd.eq (.agg #[.int .i64 ((mkF (w) (h) (l)).W), .int .i64 ((mkF (w) (h) (l)).H), v40, v41, v42]), Pd.eq (.int .i64 ((((p % 3) : Nat) : Int))), Pd.eq (.int .i64 ((sizeF (mkF (w) (h) (l)) ((((p % 3) : Nat) : Int))).1)), Pd.eq (.int .i64 (((sizeF (mkF (w) (h) (l)) ((((p % 3) : Nat) : Int))).1) - (1))), Pd.eq (.int .i64 (((i : Nat) : Int))), Pd.eq (.int .i64 (atF (mkF (w) (h) (l)) ((((p % 3) : Nat) : Int)) (((sizeF (mkF (w) (h) (l)) ((((p % 3) : Nat) : Int))).1) - (1)) (((i : Nat) : Int)))), Pd.eq (.bool false), Pd.eq (.bool false)] (by kernel_rfl) (by kernel_rfl) ?_ ?_
      · refine stepsF_cons ?_ ?_
        · refine StepF.one rfl fun F_ w_ hR hout hD => ?_
          exact (y_load_stc stcT_frame rfl ((hout 14 rfl (by decide)).trans s166) (B161.all hR id) ⟨rfl, Kept.refl _ _⟩)
        refine stepsF_cons ?_ ?_
        · refine StepF.one rfl fun F_ w_ hR hout hD => ?_
          exact (y_mov rfl ((hout 15 rfl (by decide)).trans s167) ⟨rfl, Kept.refl _ _⟩)
        refine stepsF_cons ?_ ?_
        · refine StepF.one rfl fun F_ w_ hR hout hD => ?_
          exact (y_mov rfl ((hout 18 rfl (by decide)).trans s170) ⟨rfl, Kept.refl _ _⟩)
        refine stepsF_cons ?_ ?_
        · refine StepF.one rfl fun F_ w_ hR hout hD => ?_
          have g47 : F_ 47 = .int .i64 (((m : Nat) : Int)) := hD.get 0 rfl rfl rfl
          exact (y_neg rfl g47 (i64_i rfl (by omega)) ⟨rfl, Kept.refl _ _⟩)
        refine stepsF_cons ?_ ?_
        · refine StepF.one rfl fun F_ w_ hR hout hD => ?_
          exact (y_mov rfl ((hout 19 rfl (by decide)).trans s172) ⟨rfl, Kept.refl _ _⟩)
        refine stepsF_cons ?_ ?_
        · refine StepF.one rfl fun F_ w_ hR hout hD => ?_
          have g45 : F_ 45 = .agg #[.int .i64 ((mkF (w) (h) (l)).W), .int .i64 ((mkF (w) (h) (l)).H), v40, v41, v42] := hD.get 0 rfl rfl rfl
          have g46 : F_ 46 = .int .i64 ((((p % 3) : Nat) : Int)) := hD.get 1 rfl rfl rfl
          have g48 : F_ 48 = .int .i64 (-(((m : Nat) : Int))) := hD.get 2 rfl rfl rfl
          have g49 : F_ 49 = .int .i64 (((i : Nat) : Int)) := hD.get 3 rfl rfl rfl
          exact (y_cs rfl rfl rfl (fun _ _ => by kernel_rfl) (ev_func _) (vsC g45 (vsC g46 (vsC g48 (vsC g49 vsN)))) (pl_at ((((p % 3) : Nat) : Int)) (-(((m : Nat) : Int))) (((i : Nat) : Int)) (mkF (w) (h) (l)) (v40) (v41) (v42) (T45) (T46) (T47) _  ((B158.all hR Apart.none)).byt ((B159.all hR Apart.none)).byt ((B160.all hR Apart.none)).byt ) (fun e_ w_ h_ => ⟨_, h_.1, rfl, h_.2⟩))
        refine stepsF_cons ?_ ?_
        · refine StepF.one rfl fun F_ w_ hR hout hD => ?_
          exact (y_load_stc stcT_frame rfl ((hout 14 rfl (by decide)).trans s166) (B161.all hR id) ⟨rfl, Kept.refl _ _⟩)
        refine stepsF_cons ?_ ?_
        · refine StepF.one rfl fun F_ w_ hR hout hD => ?_
          exact (y_mov rfl ((hout 15 rfl (by decide)).trans s167) ⟨rfl, Kept.refl _ _⟩)
        refine stepsF_cons ?_ ?_
        · refine StepF.one rfl fun F_ w_ hR hout hD => ?_
          exact (y_mov rfl ((hout 19 rfl (by decide)).trans s172) ⟨rfl, Kept.refl _ _⟩)
        refine stepsF_cons ?_ ?_
        · refine StepF.one rfl fun F_ w_ hR hout hD => ?_
          have g51 : F_ 51 = .agg #[.int .i64 ((mkF (w) (h) (l)).W), .int .i64 ((mkF (w) (h) (l)).H), v40, v41, v42] := hD.get 0 rfl rfl rfl
          have g52 : F_ 52 = .int .i64 ((((p % 3) : Nat) : Int)) := hD.get 1 rfl rfl rfl
          have g53 : F_ 53 = .int .i64 (((i : Nat) : Int)) := hD.get 2 rfl rfl rfl
          exact (y_cs rfl rfl rfl (fun _ _ => by kernel_rfl) (ev_func _) (vsC g51 (vsC g52 (vsC rfl (vsC g53 vsN)))) (pl_at ((((p % 3) : Nat) : Int)) (0) (((i : Nat) : Int)) (mkF (w) (h) (l)) (v40) (v41) (v42) (T45) (T46) (T47) _  ((B158.all hR Apart.none)).byt ((B159.all hR Apart.none)).byt ((B160.all hR Apart.none)).byt ) (fun e_ w_ h_ => ⟨_, h_.1, rfl, h_.2⟩))
        refine stepsF_cons ?_ ?_
        · refine StepF.one rfl fun F_ w_ hR hout hD => ?_
          have g50 : F_ 50 = .int .i64 (atF (mkF (w) (h) (l)) ((((p % 3) : Nat) : Int)) (-(((m : Nat) : Int))) (((i : Nat) : Int))) := hD.get 0 rfl rfl rfl
          have g54 : F_ 54 = .int .i64 (atF (mkF (w) (h) (l)) ((((p % 3) : Nat) : Int)) (0) (((i : Nat) : Int))) := hD.get 1 rfl rfl rfl
          exact (y_neqI rfl g50 g54 (decide_eq_false (fun h => h (at_cong (by omega) rfl))) ⟨rfl, Kept.refl _ _⟩)
        refine stepsF_cons ?_ ?_
        · refine StepF.one rfl fun F_ w_ hR hout hD => ?_
          have g55 : F_ 55 = .bool false := hD.get 0 rfl rfl rfl
          exact (y_mov rfl g55 ⟨rfl, Kept.refl _ _⟩)
        refine stepsF_cons ?_ ?_
        · refine StepF.when 11 false 56 rfl rfl fun F_ w_ hR hout hD => ?_
          have g56 : F_ 56 = .bool false := hD.get 0 rfl rfl rfl
          exact ⟨g56, (y_load_stc stcT_frame rfl ((hout 14 rfl (by decide)).trans s166) (B161.all hR id) ⟨rfl, Kept.refl _ _⟩)⟩
        refine stepsF_cons ?_ ?_
        · refine StepF.when 11 false 56 rfl rfl fun F_ w_ hR hout hD => ?_
          have g56 : F_ 56 = .bool false := hD.get 0 rfl rfl rfl
          exact ⟨g56, (y_mov rfl ((hout 15 rfl (by decide)).trans s167) ⟨rfl, Kept.refl _ _⟩)⟩
        refine stepsF_cons ?_ ?_
        · refine StepF.when 11 false 56 rfl rfl fun F_ w_ hR hout hD => ?_
          have g56 : F_ 56 = .bool false := hD.get 0 rfl rfl rfl
          exact ⟨g56, (y_mov rfl ((hout 16 rfl (by decide)).trans s168) ⟨rfl, Kept.refl _ _⟩)⟩
        refine stepsF_cons ?_ ?_
        · refine StepF.when 11 false 56 rfl rfl fun F_ w_ hR hout hD => ?_
          have g56 : F_ 56 = .bool false := hD.get 1 rfl rfl rfl
          have g59 : F_ 59 = .int .i64 ((sizeF (mkF (w) (h) (l)) ((((p % 3) : Nat) : Int))).1) := hD.get 0 rfl rfl rfl
          exact ⟨g56, (y_sub rfl g59 rfl (i64_i rfl (by omega)) ⟨rfl, Kept.refl _ _⟩)⟩
        refine stepsF_cons ?_ ?_
        · refine StepF.when 11 false 56 rfl rfl fun F_ w_ hR hout hD => ?_
          have g56 : F_ 56 = .bool false := hD.get 0 rfl rfl rfl
          exact ⟨g56, (y_mov rfl ((hout 18 rfl (by decide)).trans s170) ⟨rfl, Kept.refl _ _⟩)⟩
        refine stepsF_cons ?_ ?_
        · refine StepF.when 11 false 56 rfl rfl fun F_ w_ hR hout hD => ?_
          have g56 : F_ 56 = .bool false := hD.get 2 rfl rfl rfl
          have g60 : F_ 60 = .int .i64 (((sizeF (mkF (w) (h) (l)) ((((p % 3) : Nat) : Int))).1) - (1)) := hD.get 0 rfl rfl rfl
          have g61 : F_ 61 = .int .i64 (((m : Nat) : Int)) := hD.get 1 rfl rfl rfl
          exact ⟨g56, (y_add rfl g60 g61 (i64_i rfl (by omega)) ⟨rfl, Kept.refl _ _⟩)⟩
        refine stepsF_cons ?_ ?_
        · refine StepF.when 11 false 56 rfl rfl fun F_ w_ hR hout hD => ?_
          have g56 : F_ 56 = .bool false := hD.get 0 rfl rfl rfl
          exact ⟨g56, (y_mov rfl ((hout 19 rfl (by decide)).trans s172) ⟨rfl, Kept.refl _ _⟩)⟩
        refine stepsF_cons ?_ ?_
        · refine StepF.when 11 false 56 rfl rfl fun F_ w_ hR hout hD => ?_
          have g56 : F_ 56 = .bool false := hD.get 4 rfl rfl rfl
          have g57 : F_ 57 = .agg #[.int .i64 ((mkF (w) (h) (l)).W), .int .i64 ((mkF (w) (h) (l)).H), v40, v41, v42] := hD.get 0 rfl rfl rfl
          have g58 : F_ 58 = .int .i64 ((((p % 3) : Nat) : Int)) := hD.get 1 rfl rfl rfl
          have g62 : F_ 62 = .int .i64 ((((sizeF (mkF (w) (h) (l)) ((((p % 3) : Nat) : Int))).1) - (1)) + (((m : Nat) : Int))) := hD.get 2 rfl rfl rfl
          have g63 : F_ 63 = .int .i64 (((i : Nat) : Int)) := hD.get 3 rfl rfl rfl
          exact ⟨g56, (y_cs rfl rfl rfl (fun _ _ => by kernel_rfl) (ev_func _) (vsC g57 (vsC g58 (vsC g62 (vsC g63 vsN)))) (pl_at ((((p % 3) : Nat) : Int)) ((((sizeF (mkF (w) (h) (l)) ((((p % 3) : Nat) : Int))).1) - (1)) + (((m : Nat) : Int))) (((i : Nat) : Int)) (mkF (w) (h) (l)) (v40) (v41) (v42) (T45) (T46) (T47) _  ((B158.all hR Apart.none)).byt ((B159.all hR Apart.none)).byt ((B160.all hR Apart.none)).byt ) (fun e_ w_ h_ => ⟨_, h_.1, rfl, h_.2⟩))⟩
        refine stepsF_cons ?_ ?_
        · refine StepF.when 11 false 56 rfl rfl fun F_ w_ hR hout hD => ?_
          have g56 : F_ 56 = .bool false := hD.get 0 rfl rfl rfl
          exact ⟨g56, (y_load_stc stcT_frame rfl ((hout 14 rfl (by decide)).trans s166) (B161.all hR id) ⟨rfl, Kept.refl _ _⟩)⟩
        refine stepsF_cons ?_ ?_
        · refine StepF.when 11 false 56 rfl rfl fun F_ w_ hR hout hD => ?_
          have g56 : F_ 56 = .bool false := hD.get 0 rfl rfl rfl
          exact ⟨g56, (y_mov rfl ((hout 15 rfl (by decide)).trans s167) ⟨rfl, Kept.refl _ _⟩)⟩
        refine stepsF_cons ?_ ?_
        · refine StepF.when 11 false 56 rfl rfl fun F_ w_ hR hout hD => ?_
          have g56 : F_ 56 = .bool false := hD.get 0 rfl rfl rfl
          exact ⟨g56, (y_mov rfl ((hout 16 rfl (by decide)).trans s168) ⟨rfl, Kept.refl _ _⟩)⟩
        refine stepsF_cons ?_ ?_
        · refine StepF.when 11 false 56 rfl rfl fun F_ w_ hR hout hD => ?_
          have g56 : F_ 56 = .bool false := hD.get 1 rfl rfl rfl
          have g67 : F_ 67 = .int .i64 ((sizeF (mkF (w) (h) (l)) ((((p % 3) : Nat) : Int))).1) := hD.get 0 rfl rfl rfl
          exact ⟨g56, (y_sub rfl g67 rfl (i64_i rfl (by omega)) ⟨rfl, Kept.refl _ _⟩)⟩
        refine stepsF_cons ?_ ?_
        · refine StepF.when 11 false 56 rfl rfl fun F_ w_ hR hout hD => ?_
          have g56 : F_ 56 = .bool false := hD.get 0 rfl rfl rfl
          exact ⟨g56, (y_mov rfl ((hout 19 rfl (by decide)).trans s172) ⟨rfl, Kept.refl _ _⟩)⟩
        refine stepsF_cons ?_ ?_
        · refine StepF.when 11 false 56 rfl rfl fun F_ w_ hR hout hD => ?_
          have g56 : F_ 56 = .bool false := hD.get 5 rfl rfl rfl
          have g65 : F_ 65 = .agg #[.int .i64 ((mkF (w) (h) (l)).W), .int .i64 ((mkF (w) (h) (l)).H), v40, v41, v42] := hD.get 0 rfl rfl rfl
          have g66 : F_ 66 = .int .i64 ((((p % 3) : Nat) : Int)) := hD.get 1 rfl rfl rfl
          have g68 : F_ 68 = .int .i64 (((sizeF (mkF (w) (h) (l)) ((((p % 3) : Nat) : Int))).1) - (1)) := hD.get 2 rfl rfl rfl
          have g69 : F_ 69 = .int .i64 (((i : Nat) : Int)) := hD.get 3 rfl rfl rfl
          exact ⟨g56, (y_cs rfl rfl rfl (fun _ _ => by kernel_rfl) (ev_func _) (vsC g65 (vsC g66 (vsC g68 (vsC g69 vsN)))) (pl_at ((((p % 3) : Nat) : Int)) (((sizeF (mkF (w) (h) (l)) ((((p % 3) : Nat) : Int))).1) - (1)) (((i : Nat) : Int)) (mkF (w) (h) (l)) (v40) (v41) (v42) (T45) (T46) (T47) _  ((B158.all hR Apart.none)).byt ((B159.all hR Apart.none)).byt ((B160.all hR Apart.none)).byt ) (fun e_ w_ h_ => ⟨_, h_.1, rfl, h_.2⟩))⟩
        refine stepsF_cons ?_ ?_
        · refine StepF.when 11 false 56 rfl rfl fun F_ w_ hR hout hD => ?_
          have g56 : F_ 56 = .bool false := hD.get 2 rfl rfl rfl
          have g64 : F_ 64 = .int .i64 (atF (mkF (w) (h) (l)) ((((p % 3) : Nat) : Int)) ((((sizeF (mkF (w) (h) (l)) ((((p % 3) : Nat) : Int))).1) - (1)) + (((m : Nat) : Int))) (((i : Nat) : Int))) := hD.get 0 rfl rfl rfl
          have g70 : F_ 70 = .int .i64 (atF (mkF (w) (h) (l)) ((((p % 3) : Nat) : Int)) (((sizeF (mkF (w) (h) (l)) ((((p % 3) : Nat) : Int))).1) - (1)) (((i : Nat) : Int))) := hD.get 1 rfl rfl rfl
          exact ⟨g56, (y_neqI rfl g64 g70 (decide_eq_false (fun h => h (at_cong (by omega) rfl))) ⟨rfl, Kept.refl _ _⟩)⟩
        refine stepsF_cons ?_ ?_
        · refine StepF.one rfl fun F_ w_ hR hout hD => ?_
          have g56 : F_ 56 = .bool false := hD.get 0 rfl rfl rfl
          have g71 : F_ 71 = .bool false := hD.get 1 rfl rfl rfl
          exact (y_pickF rfl g56 g71 ⟨rfl, Kept.refl _ _⟩)
        exact stepsF_nil
      intro v175 F176 w177 k178 G179 hF180
      have B182 := B157.all k178 Apart.none
      have B183 := B158.all k178 Apart.none
      have B184 := B159.all k178 Apart.none
      have B185 := B160.all k178 Apart.none
      have B186 := B161.all k178 id
      have K187 := K145.trans k178 (fun _ _ x => x.elim)
      have s188 : F176 4 = .int .i16 (x) := (hF180 4).trans s164
      have s189 : F176 13 = .bool true := (hF180 13).trans s165
      have s190 : F176 14 = .pointer (some ⟨p65, 0, none⟩) := (hF180 14).trans s166
      have s191 : F176 15 = .int .i64 ((((p % 3) : Nat) : Int)) := (hF180 15).trans s167
      have s192 : F176 16 = .int .i64 ((sizeF (mkF (w) (h) (l)) ((((p % 3) : Nat) : Int))).1) := (hF180 16).trans s168
      have s193 : F176 17 = .int .i64 ((sizeF (mkF (w) (h) (l)) ((((p % 3) : Nat) : Int))).2) := (hF180 17).trans s169
      have s194 : F176 18 = .int .i64 (((m : Nat) : Int)) := (hF180 18).trans s170
      have s195 : F176 111 = undef := (hF180 111).trans s171
      have s196 : F176 19 = .int .i64 (((i : Nat) : Int)) := (hF180 19).trans s172
      have s197 : F176 72 = .bool false := (hF180 72).trans (G179 27 (by decide))
      clear G179 hF180
      refine then_normal ?_
      refine wq_cond (t := false) s197 (fun e => by cases e) (fun _ => ?_)
      refine wq_skip ?_
      refine in_normal ?_
      refine then_normal ?_
      refine wq_region ?_
      refine wl_v (.int .i64 (((i : Nat) : Int))) rfl rfl (y_mov rfl s196 ⟨rfl, rfl⟩) ?_
      refine wl_v (.int .i64 (((i + 1 : Nat) : Int))) rfl rfl (y_add rfl rfl rfl (i64_n (by omega) (by omega)) ⟨rfl, rfl⟩) ?_
      refine wl_v (.int .i64 (((i + 1 : Nat) : Int))) rfl rfl (y_asg rfl rfl ⟨rfl, rfl⟩) ?_
      refine wl_nil fun F198 hF199 => ?_
      have s200 : F198 4 = .int .i16 (x) := (hF199 4).trans s188
      have s201 : F198 13 = .bool true := (hF199 13).trans s189
      have s202 : F198 14 = .pointer (some ⟨p65, 0, none⟩) := (hF199 14).trans s190
      have s203 : F198 15 = .int .i64 ((((p % 3) : Nat) : Int)) := (hF199 15).trans s191
      have s204 : F198 16 = .int .i64 ((sizeF (mkF (w) (h) (l)) ((((p % 3) : Nat) : Int))).1) := (hF199 16).trans s192
      have s205 : F198 17 = .int .i64 ((sizeF (mkF (w) (h) (l)) ((((p % 3) : Nat) : Int))).2) := (hF199 17).trans s193
      have s206 : F198 18 = .int .i64 (((m : Nat) : Int)) := (hF199 18).trans s194
      have s207 : F198 111 = undef := (hF199 111).trans s195
      have s208 : F198 19 = .int .i64 (((i + 1 : Nat) : Int)) := (hF199 19).trans rfl
      clear hF199
      exact then_normal ⟨(((sizeF (mkF (w) (h) (l)) (((p % 3 : Nat) : Int))).2).toNat - (i + 1)), by omega, i + 1, by omega, rfl, s200, s201, s202, s203, s204, s205, s206, s207, s208, K187, B182, B183, B184, B185, B186⟩
    · replace c174 := of_decide_eq_false c174
      refine wq_exit ?_
      refine then_exit ?_
      refine then_exit ?_
      refine in_here ?_
      refine then_normal ?_
      refine wq_seq ?_
      refine wq_said [some 73, some 74, some 75, some 76, some 77, some 78, some 79, some 80, some 81, some 82, some 83, some 84, some 85, some 86, some 87, some 88, some 89, some 90, some 91, some 92, some 93, some 94, some 95, some 96, some 97, some 98, some 99, some 100, some 101, some 102, some 103, some 104, some 105, some 106, some 107, some 108, some 109, some 110, some 12] [Pd.eq (.bool true), Pd.eq (.bool true), Pd.eq (.agg #[.int .i64 ((mkF (w) (h) (l)).W), .int .i64 ((mkF (w) (h) (l)).H), v40, v41, v42]), Pd.eq (.int .i64 ((((p % 3) : Nat) : Int))), Pd.eq (.int .i16 (x)), Pd.eq (.int .i64 (x)), Pd.eq (.int .i64 (((m : Nat) : Int))), Pd.eq (.int .i64 (-(((m : Nat) : Int)))), Pd.eq (.int .i64 (atF (mkF (w) (h) (l)) ((((p % 3) : Nat) : Int)) (x) (-(((m : Nat) : Int))))), Pd.eq (.agg #[.int .i64 ((mkF (w) (h) (l)).W), .int .i64 ((mkF (w) (h) (l)).H), v40, v41, v42]), Pd.eq (.int .i64 ((((p % 3) : Nat) : Int))), Pd.eq (.int .i16 (x)), Pd.eq (.int .i64 (x)), Pd.eq (.int .i64 (atF (mkF (w) (h) (l)) ((((p % 3) : Nat) : Int)) (x) (0))), Pd.eq (.bool true), Pd.eq (.bool true), Pd.eq (.bool true), Pd.eq (.agg #[.int .i64 ((mkF (w) (h) (l)).W), .int .i64 ((mkF (w) (h) (l)).H), v40, v41, v42]), Pd.eq (.int .i64 ((((p % 3) : Nat) : Int))), Pd.eq (.int .i16 (x)), Pd.eq (.int .i64 (x)), Pd.eq (.int .i64 ((sizeF (mkF (w) (h) (l)) ((((p % 3) : Nat) : Int))).2)), Pd.eq (.int .i64 (((m : Nat) : Int))), Pd.eq (.int .i64 (((sizeF (mkF (w) (h) (l)) ((((p % 3) : Nat) : Int))).2) + (((m : Nat) : Int)))), Pd.eq (.int .i64 (atF (mkF (w) (h) (l)) ((((p % 3) : Nat) : Int)) (x) (((sizeF (mkF (w) (h) (l)) ((((p % 3) : Nat) : Int))).2) + (((m : Nat) : Int))))), Pd.eq (.agg #[.int .i64 ((mkF (w) (h) (l)).W), .int .i64 ((mkF (w) (h) (l)).H), v40, v41, v42]), Pd.eq (.int .i64 ((((p % 3) : Nat) : Int))), Pd.eq (.int .i16 (x)), Pd.eq (.int .i64 (x)), Pd.eq (.int .i64 ((sizeF (mkF (w) (h) (l)) ((((p % 3) : Nat) : Int))).2)), Pd.eq (.int .i64 (((sizeF (mkF (w) (h) (l)) ((((p % 3) : Nat) : Int))).2) - (1))), Pd.eq (.int .i64 (atF (mkF (w) (h) (l)) ((((p % 3) : Nat) : Int)) (x) (((sizeF (mkF (w) (h) (l)) ((((p % 3) : Nat) : Int))).2) - (1)))), Pd.eq (.bool true), Pd.eq (.bool true), Pd.eq (.bool true), Pd.eq (.int .i64 ((sizeF (mkF (w) (h) (l)) ((((p % 3) : Nat) : Int))).1)), Pd.eq (.bool true), Pd.eq (.bool true), Pd.eq (.bool true)] (by kernel_rfl) (by kernel_rfl) ?_ ?_
      · refine stepsF_cons ?_ ?_
        · refine StepF.one rfl fun F_ w_ hR hout hD => ?_
          exact (y_mov rfl ((hout 13 rfl (by decide)).trans s165) ⟨rfl, Kept.refl _ _⟩)
        refine stepsF_cons ?_ ?_
        · refine StepF.one rfl fun F_ w_ hR hout hD => ?_
          have g73 : F_ 73 = .bool true := hD.get 0 rfl rfl rfl
          exact (y_mov rfl g73 ⟨rfl, Kept.refl _ _⟩)
        refine stepsF_cons ?_ ?_
        · refine StepF.when 1 true 74 rfl rfl fun F_ w_ hR hout hD => ?_
          have g74 : F_ 74 = .bool true := hD.get 0 rfl rfl rfl
          exact ⟨g74, (y_load_stc stcT_frame rfl ((hout 14 rfl (by decide)).trans s166) (B161.all hR id) ⟨rfl, Kept.refl _ _⟩)⟩
        refine stepsF_cons ?_ ?_
        · refine StepF.when 1 true 74 rfl rfl fun F_ w_ hR hout hD => ?_
          have g74 : F_ 74 = .bool true := hD.get 0 rfl rfl rfl
          exact ⟨g74, (y_mov rfl ((hout 15 rfl (by decide)).trans s167) ⟨rfl, Kept.refl _ _⟩)⟩
        refine stepsF_cons ?_ ?_
        · refine StepF.when 1 true 74 rfl rfl fun F_ w_ hR hout hD => ?_
          have g74 : F_ 74 = .bool true := hD.get 0 rfl rfl rfl
          exact ⟨g74, (y_mov rfl ((hout 4 rfl (by decide)).trans s164) ⟨rfl, Kept.refl _ _⟩)⟩
        refine stepsF_cons ?_ ?_
        · refine StepF.when 1 true 74 rfl rfl fun F_ w_ hR hout hD => ?_
          have g74 : F_ 74 = .bool true := hD.get 1 rfl rfl rfl
          have g77 : F_ 77 = .int .i16 (x) := hD.get 0 rfl rfl rfl
          exact ⟨g74, (y_convR rfl g77 Try.underlying47 Try.underlying3 (i64_i rfl (by omega)) ⟨rfl, Kept.refl _ _⟩)⟩
        refine stepsF_cons ?_ ?_
        · refine StepF.when 1 true 74 rfl rfl fun F_ w_ hR hout hD => ?_
          have g74 : F_ 74 = .bool true := hD.get 0 rfl rfl rfl
          exact ⟨g74, (y_mov rfl ((hout 18 rfl (by decide)).trans s170) ⟨rfl, Kept.refl _ _⟩)⟩
        refine stepsF_cons ?_ ?_
        · refine StepF.when 1 true 74 rfl rfl fun F_ w_ hR hout hD => ?_
          have g74 : F_ 74 = .bool true := hD.get 1 rfl rfl rfl
          have g79 : F_ 79 = .int .i64 (((m : Nat) : Int)) := hD.get 0 rfl rfl rfl
          exact ⟨g74, (y_neg rfl g79 (i64_i rfl (by omega)) ⟨rfl, Kept.refl _ _⟩)⟩
        refine stepsF_cons ?_ ?_
        · refine StepF.when 1 true 74 rfl rfl fun F_ w_ hR hout hD => ?_
          have g74 : F_ 74 = .bool true := hD.get 4 rfl rfl rfl
          have g75 : F_ 75 = .agg #[.int .i64 ((mkF (w) (h) (l)).W), .int .i64 ((mkF (w) (h) (l)).H), v40, v41, v42] := hD.get 0 rfl rfl rfl
          have g76 : F_ 76 = .int .i64 ((((p % 3) : Nat) : Int)) := hD.get 1 rfl rfl rfl
          have g78 : F_ 78 = .int .i64 (x) := hD.get 2 rfl rfl rfl
          have g80 : F_ 80 = .int .i64 (-(((m : Nat) : Int))) := hD.get 3 rfl rfl rfl
          exact ⟨g74, (y_cs rfl rfl rfl (fun _ _ => by kernel_rfl) (ev_func _) (vsC g75 (vsC g76 (vsC g78 (vsC g80 vsN)))) (pl_at ((((p % 3) : Nat) : Int)) (x) (-(((m : Nat) : Int))) (mkF (w) (h) (l)) (v40) (v41) (v42) (T45) (T46) (T47) _  ((B158.all hR Apart.none)).byt ((B159.all hR Apart.none)).byt ((B160.all hR Apart.none)).byt ) (fun e_ w_ h_ => ⟨_, h_.1, rfl, h_.2⟩))⟩
        refine stepsF_cons ?_ ?_
        · refine StepF.when 1 true 74 rfl rfl fun F_ w_ hR hout hD => ?_
          have g74 : F_ 74 = .bool true := hD.get 0 rfl rfl rfl
          exact ⟨g74, (y_load_stc stcT_frame rfl ((hout 14 rfl (by decide)).trans s166) (B161.all hR id) ⟨rfl, Kept.refl _ _⟩)⟩
        refine stepsF_cons ?_ ?_
        · refine StepF.when 1 true 74 rfl rfl fun F_ w_ hR hout hD => ?_
          have g74 : F_ 74 = .bool true := hD.get 0 rfl rfl rfl
          exact ⟨g74, (y_mov rfl ((hout 15 rfl (by decide)).trans s167) ⟨rfl, Kept.refl _ _⟩)⟩
        refine stepsF_cons ?_ ?_
        · refine StepF.when 1 true 74 rfl rfl fun F_ w_ hR hout hD => ?_
          have g74 : F_ 74 = .bool true := hD.get 0 rfl rfl rfl
          exact ⟨g74, (y_mov rfl ((hout 4 rfl (by decide)).trans s164) ⟨rfl, Kept.refl _ _⟩)⟩
        refine stepsF_cons ?_ ?_
        · refine StepF.when 1 true 74 rfl rfl fun F_ w_ hR hout hD => ?_
          have g74 : F_ 74 = .bool true := hD.get 1 rfl rfl rfl
          have g84 : F_ 84 = .int .i16 (x) := hD.get 0 rfl rfl rfl
          exact ⟨g74, (y_convR rfl g84 Try.underlying47 Try.underlying3 (i64_i rfl (by omega)) ⟨rfl, Kept.refl _ _⟩)⟩
        refine stepsF_cons ?_ ?_
        · refine StepF.when 1 true 74 rfl rfl fun F_ w_ hR hout hD => ?_
          have g74 : F_ 74 = .bool true := hD.get 4 rfl rfl rfl
          have g82 : F_ 82 = .agg #[.int .i64 ((mkF (w) (h) (l)).W), .int .i64 ((mkF (w) (h) (l)).H), v40, v41, v42] := hD.get 0 rfl rfl rfl
          have g83 : F_ 83 = .int .i64 ((((p % 3) : Nat) : Int)) := hD.get 1 rfl rfl rfl
          have g85 : F_ 85 = .int .i64 (x) := hD.get 2 rfl rfl rfl
          exact ⟨g74, (y_cs rfl rfl rfl (fun _ _ => by kernel_rfl) (ev_func _) (vsC g82 (vsC g83 (vsC g85 (vsC rfl vsN)))) (pl_at ((((p % 3) : Nat) : Int)) (x) (0) (mkF (w) (h) (l)) (v40) (v41) (v42) (T45) (T46) (T47) _  ((B158.all hR Apart.none)).byt ((B159.all hR Apart.none)).byt ((B160.all hR Apart.none)).byt ) (fun e_ w_ h_ => ⟨_, h_.1, rfl, h_.2⟩))⟩
        refine stepsF_cons ?_ ?_
        · refine StepF.when 1 true 74 rfl rfl fun F_ w_ hR hout hD => ?_
          have g74 : F_ 74 = .bool true := hD.get 2 rfl rfl rfl
          have g81 : F_ 81 = .int .i64 (atF (mkF (w) (h) (l)) ((((p % 3) : Nat) : Int)) (x) (-(((m : Nat) : Int)))) := hD.get 0 rfl rfl rfl
          have g86 : F_ 86 = .int .i64 (atF (mkF (w) (h) (l)) ((((p % 3) : Nat) : Int)) (x) (0)) := hD.get 1 rfl rfl rfl
          exact ⟨g74, (y_eqlI rfl g81 g86 (decide_eq_true (at_cong rfl (by omega))) ⟨rfl, Kept.refl _ _⟩)⟩
        refine stepsF_cons ?_ ?_
        · refine StepF.one rfl fun F_ w_ hR hout hD => ?_
          have g74 : F_ 74 = .bool true := hD.get 0 rfl rfl rfl
          have g87 : F_ 87 = .bool true := hD.get 1 rfl rfl rfl
          exact (y_pickT rfl g74 g87 ⟨rfl, Kept.refl _ _⟩)
        refine stepsF_cons ?_ ?_
        · refine StepF.one rfl fun F_ w_ hR hout hD => ?_
          have g88 : F_ 88 = .bool true := hD.get 0 rfl rfl rfl
          exact (y_mov rfl g88 ⟨rfl, Kept.refl _ _⟩)
        refine stepsF_cons ?_ ?_
        · refine StepF.when 16 true 89 rfl rfl fun F_ w_ hR hout hD => ?_
          have g89 : F_ 89 = .bool true := hD.get 0 rfl rfl rfl
          exact ⟨g89, (y_load_stc stcT_frame rfl ((hout 14 rfl (by decide)).trans s166) (B161.all hR id) ⟨rfl, Kept.refl _ _⟩)⟩
        refine stepsF_cons ?_ ?_
        · refine StepF.when 16 true 89 rfl rfl fun F_ w_ hR hout hD => ?_
          have g89 : F_ 89 = .bool true := hD.get 0 rfl rfl rfl
          exact ⟨g89, (y_mov rfl ((hout 15 rfl (by decide)).trans s167) ⟨rfl, Kept.refl _ _⟩)⟩
        refine stepsF_cons ?_ ?_
        · refine StepF.when 16 true 89 rfl rfl fun F_ w_ hR hout hD => ?_
          have g89 : F_ 89 = .bool true := hD.get 0 rfl rfl rfl
          exact ⟨g89, (y_mov rfl ((hout 4 rfl (by decide)).trans s164) ⟨rfl, Kept.refl _ _⟩)⟩
        refine stepsF_cons ?_ ?_
        · refine StepF.when 16 true 89 rfl rfl fun F_ w_ hR hout hD => ?_
          have g89 : F_ 89 = .bool true := hD.get 1 rfl rfl rfl
          have g92 : F_ 92 = .int .i16 (x) := hD.get 0 rfl rfl rfl
          exact ⟨g89, (y_convR rfl g92 Try.underlying47 Try.underlying3 (i64_i rfl (by omega)) ⟨rfl, Kept.refl _ _⟩)⟩
        refine stepsF_cons ?_ ?_
        · refine StepF.when 16 true 89 rfl rfl fun F_ w_ hR hout hD => ?_
          have g89 : F_ 89 = .bool true := hD.get 0 rfl rfl rfl
          exact ⟨g89, (y_mov rfl ((hout 17 rfl (by decide)).trans s169) ⟨rfl, Kept.refl _ _⟩)⟩
        refine stepsF_cons ?_ ?_
        · refine StepF.when 16 true 89 rfl rfl fun F_ w_ hR hout hD => ?_
          have g89 : F_ 89 = .bool true := hD.get 0 rfl rfl rfl
          exact ⟨g89, (y_mov rfl ((hout 18 rfl (by decide)).trans s170) ⟨rfl, Kept.refl _ _⟩)⟩
        refine stepsF_cons ?_ ?_
        · refine StepF.when 16 true 89 rfl rfl fun F_ w_ hR hout hD => ?_
          have g89 : F_ 89 = .bool true := hD.get 2 rfl rfl rfl
          have g94 : F_ 94 = .int .i64 ((sizeF (mkF (w) (h) (l)) ((((p % 3) : Nat) : Int))).2) := hD.get 0 rfl rfl rfl
          have g95 : F_ 95 = .int .i64 (((m : Nat) : Int)) := hD.get 1 rfl rfl rfl
          exact ⟨g89, (y_add rfl g94 g95 (i64_i rfl (by omega)) ⟨rfl, Kept.refl _ _⟩)⟩
        refine stepsF_cons ?_ ?_
        · refine StepF.when 16 true 89 rfl rfl fun F_ w_ hR hout hD => ?_
          have g89 : F_ 89 = .bool true := hD.get 4 rfl rfl rfl
          have g90 : F_ 90 = .agg #[.int .i64 ((mkF (w) (h) (l)).W), .int .i64 ((mkF (w) (h) (l)).H), v40, v41, v42] := hD.get 0 rfl rfl rfl
          have g91 : F_ 91 = .int .i64 ((((p % 3) : Nat) : Int)) := hD.get 1 rfl rfl rfl
          have g93 : F_ 93 = .int .i64 (x) := hD.get 2 rfl rfl rfl
          have g96 : F_ 96 = .int .i64 (((sizeF (mkF (w) (h) (l)) ((((p % 3) : Nat) : Int))).2) + (((m : Nat) : Int))) := hD.get 3 rfl rfl rfl
          exact ⟨g89, (y_cs rfl rfl rfl (fun _ _ => by kernel_rfl) (ev_func _) (vsC g90 (vsC g91 (vsC g93 (vsC g96 vsN)))) (pl_at ((((p % 3) : Nat) : Int)) (x) (((sizeF (mkF (w) (h) (l)) ((((p % 3) : Nat) : Int))).2) + (((m : Nat) : Int))) (mkF (w) (h) (l)) (v40) (v41) (v42) (T45) (T46) (T47) _  ((B158.all hR Apart.none)).byt ((B159.all hR Apart.none)).byt ((B160.all hR Apart.none)).byt ) (fun e_ w_ h_ => ⟨_, h_.1, rfl, h_.2⟩))⟩
        refine stepsF_cons ?_ ?_
        · refine StepF.when 16 true 89 rfl rfl fun F_ w_ hR hout hD => ?_
          have g89 : F_ 89 = .bool true := hD.get 0 rfl rfl rfl
          exact ⟨g89, (y_load_stc stcT_frame rfl ((hout 14 rfl (by decide)).trans s166) (B161.all hR id) ⟨rfl, Kept.refl _ _⟩)⟩
        refine stepsF_cons ?_ ?_
        · refine StepF.when 16 true 89 rfl rfl fun F_ w_ hR hout hD => ?_
          have g89 : F_ 89 = .bool true := hD.get 0 rfl rfl rfl
          exact ⟨g89, (y_mov rfl ((hout 15 rfl (by decide)).trans s167) ⟨rfl, Kept.refl _ _⟩)⟩
        refine stepsF_cons ?_ ?_
        · refine StepF.when 16 true 89 rfl rfl fun F_ w_ hR hout hD => ?_
          have g89 : F_ 89 = .bool true := hD.get 0 rfl rfl rfl
          exact ⟨g89, (y_mov rfl ((hout 4 rfl (by decide)).trans s164) ⟨rfl, Kept.refl _ _⟩)⟩
        refine stepsF_cons ?_ ?_
        · refine StepF.when 16 true 89 rfl rfl fun F_ w_ hR hout hD => ?_
          have g89 : F_ 89 = .bool true := hD.get 1 rfl rfl rfl
          have g100 : F_ 100 = .int .i16 (x) := hD.get 0 rfl rfl rfl
          exact ⟨g89, (y_convR rfl g100 Try.underlying47 Try.underlying3 (i64_i rfl (by omega)) ⟨rfl, Kept.refl _ _⟩)⟩
        refine stepsF_cons ?_ ?_
        · refine StepF.when 16 true 89 rfl rfl fun F_ w_ hR hout hD => ?_
          have g89 : F_ 89 = .bool true := hD.get 0 rfl rfl rfl
          exact ⟨g89, (y_mov rfl ((hout 17 rfl (by decide)).trans s169) ⟨rfl, Kept.refl _ _⟩)⟩
        refine stepsF_cons ?_ ?_
        · refine StepF.when 16 true 89 rfl rfl fun F_ w_ hR hout hD => ?_
          have g89 : F_ 89 = .bool true := hD.get 1 rfl rfl rfl
          have g102 : F_ 102 = .int .i64 ((sizeF (mkF (w) (h) (l)) ((((p % 3) : Nat) : Int))).2) := hD.get 0 rfl rfl rfl
          exact ⟨g89, (y_sub rfl g102 rfl (i64_i rfl (by omega)) ⟨rfl, Kept.refl _ _⟩)⟩
        refine stepsF_cons ?_ ?_
        · refine StepF.when 16 true 89 rfl rfl fun F_ w_ hR hout hD => ?_
          have g89 : F_ 89 = .bool true := hD.get 5 rfl rfl rfl
          have g98 : F_ 98 = .agg #[.int .i64 ((mkF (w) (h) (l)).W), .int .i64 ((mkF (w) (h) (l)).H), v40, v41, v42] := hD.get 0 rfl rfl rfl
          have g99 : F_ 99 = .int .i64 ((((p % 3) : Nat) : Int)) := hD.get 1 rfl rfl rfl
          have g101 : F_ 101 = .int .i64 (x) := hD.get 2 rfl rfl rfl
          have g103 : F_ 103 = .int .i64 (((sizeF (mkF (w) (h) (l)) ((((p % 3) : Nat) : Int))).2) - (1)) := hD.get 3 rfl rfl rfl
          exact ⟨g89, (y_cs rfl rfl rfl (fun _ _ => by kernel_rfl) (ev_func _) (vsC g98 (vsC g99 (vsC g101 (vsC g103 vsN)))) (pl_at ((((p % 3) : Nat) : Int)) (x) (((sizeF (mkF (w) (h) (l)) ((((p % 3) : Nat) : Int))).2) - (1)) (mkF (w) (h) (l)) (v40) (v41) (v42) (T45) (T46) (T47) _  ((B158.all hR Apart.none)).byt ((B159.all hR Apart.none)).byt ((B160.all hR Apart.none)).byt ) (fun e_ w_ h_ => ⟨_, h_.1, rfl, h_.2⟩))⟩
        refine stepsF_cons ?_ ?_
        · refine StepF.when 16 true 89 rfl rfl fun F_ w_ hR hout hD => ?_
          have g89 : F_ 89 = .bool true := hD.get 2 rfl rfl rfl
          have g97 : F_ 97 = .int .i64 (atF (mkF (w) (h) (l)) ((((p % 3) : Nat) : Int)) (x) (((sizeF (mkF (w) (h) (l)) ((((p % 3) : Nat) : Int))).2) + (((m : Nat) : Int)))) := hD.get 0 rfl rfl rfl
          have g104 : F_ 104 = .int .i64 (atF (mkF (w) (h) (l)) ((((p % 3) : Nat) : Int)) (x) (((sizeF (mkF (w) (h) (l)) ((((p % 3) : Nat) : Int))).2) - (1))) := hD.get 1 rfl rfl rfl
          exact ⟨g89, (y_eqlI rfl g97 g104 (decide_eq_true (at_cong rfl (by omega))) ⟨rfl, Kept.refl _ _⟩)⟩
        refine stepsF_cons ?_ ?_
        · refine StepF.one rfl fun F_ w_ hR hout hD => ?_
          have g89 : F_ 89 = .bool true := hD.get 0 rfl rfl rfl
          have g105 : F_ 105 = .bool true := hD.get 1 rfl rfl rfl
          exact (y_pickT rfl g89 g105 ⟨rfl, Kept.refl _ _⟩)
        refine stepsF_cons ?_ ?_
        · refine StepF.one rfl fun F_ w_ hR hout hD => ?_
          have g106 : F_ 106 = .bool true := hD.get 0 rfl rfl rfl
          exact (y_mov rfl g106 ⟨rfl, Kept.refl _ _⟩)
        refine stepsF_cons ?_ ?_
        · refine StepF.when 34 true 107 rfl rfl fun F_ w_ hR hout hD => ?_
          have g107 : F_ 107 = .bool true := hD.get 0 rfl rfl rfl
          exact ⟨g107, (y_mov rfl ((hout 16 rfl (by decide)).trans s168) ⟨rfl, Kept.refl _ _⟩)⟩
        refine stepsF_cons ?_ ?_
        · refine StepF.when 34 true 107 rfl rfl fun F_ w_ hR hout hD => ?_
          have g107 : F_ 107 = .bool true := hD.get 1 rfl rfl rfl
          have g108 : F_ 108 = .int .i64 ((sizeF (mkF (w) (h) (l)) ((((p % 3) : Nat) : Int))).1) := hD.get 0 rfl rfl rfl
          exact ⟨g107, (y_geq rfl g108 rfl (decide_eq_true (by omega)) ⟨rfl, Kept.refl _ _⟩)⟩
        refine stepsF_cons ?_ ?_
        · refine StepF.one rfl fun F_ w_ hR hout hD => ?_
          have g107 : F_ 107 = .bool true := hD.get 0 rfl rfl rfl
          have g109 : F_ 109 = .bool true := hD.get 1 rfl rfl rfl
          exact (y_pickT rfl g107 g109 ⟨rfl, Kept.refl _ _⟩)
        refine stepsF_cons ?_ ?_
        · refine StepF.one rfl fun F_ w_ hR hout hD => ?_
          have g110 : F_ 110 = .bool true := hD.get 0 rfl rfl rfl
          exact (y_asg rfl g110 ⟨rfl, Kept.refl _ _⟩)
        exact stepsF_nil
      intro v209 F210 w211 k212 G213 hF214
      have B216 := B157.all k212 Apart.none
      have B217 := B158.all k212 Apart.none
      have B218 := B159.all k212 Apart.none
      have B219 := B160.all k212 Apart.none
      have B220 := B161.all k212 id
      have K221 := K145.trans k212 (fun _ _ x => x.elim)
      have s222 : F210 111 = undef := (hF214 111).trans s171
      have s223 : F210 12 = .bool true := (hF214 12).trans (G213 38 (by decide))
      clear G213 hF214
      refine then_normal ?_
      refine wq_ret ?_
      exact end_tmp (v := .bool true) s222 rfl rfl s223 ⟨rfl, K221⟩

end Go.Proofs.Ytomkodoclnbaoaa
namespace Go.Proofs.Ytomkodoclnbaoaa
open Go.RowKit

theorem nat_u8 {n : Int} (h : (Lit.int .u8 n).wf = true) : ∃ m : Nat, n = (m : Int) ∧ m < 256 := by
  have := bounds_u8 h
  exact ⟨n.toNat, by omega, by omega⟩
end Go.Proofs.Ytomkodoclnbaoaa
namespace Go.Proofs.Ytomkodoclnbaoaa
open Go.RowKit

theorem int_i16 {n : Int} (h : (Lit.int .i16 n).wf = true) : -32768 ≤ n ∧ n ≤ 32767 := by
  simp [Lit.wf, IntKind.min, IntKind.max, IntKind.signed, IntKind.bits] at h; omega
theorem nat_u16 {n : Int} (h : (Lit.int .u16 n).wf = true) : ∃ m : Nat, n = (m : Int) ∧ m < 65536 := by
  simp [Lit.wf, IntKind.min, IntKind.max, IntKind.signed, IntKind.bits] at h
  exact ⟨n.toNat, by omega, by omega⟩
end Go.Proofs.Ytomkodoclnbaoaa
namespace Go.Proofs.Ytomkodoclnbaoaa
open Go.ChangeShapes Go.WideShapes Go.ChangeAt Go.RowKit

section
variable {H : Type} {enc : TypeId × Value → H} {w : World} {base : Nat} {spare : Nat → Bool} {held : Bool}

theorem BytesArg.of_row {a : Option Addr} {len cap : Nat} {zs : List Int}
    (h : (a = none ∧ len = 0 ∧ cap = 0 ∧ zs = []) ∨ ∃ x, a = some x ∧ len ≤ cap ∧ cap ≤ maxLen ∧ len ≤ zs.length ∧ (∀ i, i < zs.length → w.cell? (x.add i) = some (.int .u8 (zs.getD i 0))) ∧ ∀ n ∈ zs, (Lit.int .u8 n).wf = true) :
    ∃ l : List Nat, BytesArg w (.slice a len cap) l := by
  rcases h with ⟨rfl, rfl, rfl, rfl⟩ | ⟨x, rfl, hlc, hcm, hz, hcell, hwf⟩
  · exact ⟨[], BytesArg.nil w⟩
  · have hlen : ((zs.take len).map Int.toNat).length = len := by simp; omega
    refine ⟨(zs.take len).map Int.toNat, some x, cap, by rw [hlen], by rw [hlen]; exact hlc, hcm, by simp, ?_, ?_⟩
    · intro y hy
      obtain ⟨z, hz1, rfl⟩ := List.mem_map.1 hy
      have := bounds_u8 (hwf z (List.mem_of_mem_take hz1))
      omega
    · intro hpos
      rw [hlen] at hpos
      have hpos' : 0 < zs.length := by omega
      obtain ⟨b, off, rfl, hc⟩ := ints_at hcell hpos'
      refine ⟨b, off, rfl, World.block_lt_of_cell? w _ (hc 0 hpos'), fun i hi => ?_⟩
      rw [hlen] at hi
      have hi' : i < zs.length := by omega
      rw [hc i hi']
      have hwi := bounds_u8 (hwf zs[i] (List.getElem_mem hi'))
      simp [List.getD, hi', hi]
      omega

theorem bytes_open {fuel : Nat} {v : Value} {x : DataW H × List MemPlace}
    (h : DataW.trod enc Try.prog w base spare held fuel 22 [v] = some x) : ∃ l : List Nat, BytesArg w v l := by
  rcases open_ints Try.underlying22 Try.underlying5 (by kernel_rfl) h with ⟨hcs, _⟩ | ⟨a, len, cap, zs, hcs, _, hl, hm, hz, _, hcell, hwz⟩
  · simp at hcs
    subst hcs
    exact ⟨[], BytesArg.nil w⟩
  · simp at hcs
    subst hcs
    exact BytesArg.of_row (.inr ⟨a, rfl, hl, hm, by have := hz; split at this <;> omega, hcell, hwz⟩)

end
end Go.Proofs.Ytomkodoclnbaoaa
