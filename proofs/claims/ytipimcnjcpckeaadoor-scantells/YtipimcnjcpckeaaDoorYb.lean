/- What each kind of operation yields, of those that speak of no type of the program. No program in it. -/
import Derived.Test.YtipimcnjcpckeaaDoorRg
namespace Go.Proofs.YtipimcnjcpckeaaDoor
open Go.RowKit

section
variable {P : Program} {ρ : Operand → Value} {o : Oper} {w : World} {R : Value → World → Prop}

theorem y_val {v : Value} {w' : World} (h : (execOp ρ o).run P w = .ok (.value v) w') (hR : R v w') : Yields P ρ o w R := by
  unfold Yields; rw [h]; exact hR

theorem y_move {x : Operand} (ho : o.op = .move x) (h : R (ρ x) w) : Yields P ρ o w R := y_val (by simp [execOp, ho]) h
theorem y_assign {x : Operand} (ho : o.op = .assign x) (h : R (ρ x) w) : Yields P ρ o w R := y_val (by simp [execOp, ho]) h
theorem y_pick_true {c x y : Operand} (ho : o.op = .pick c x y) (hc : ρ c = .bool true) (h : R (ρ x) w) : Yields P ρ o w R := y_val (by simp [execOp, ho, hc, asBool]) h
theorem y_pick_false {c x y : Operand} (ho : o.op = .pick c x y) (hc : ρ c = .bool false) (h : R (ρ y) w) : Yields P ρ o w R := y_val (by simp [execOp, ho, hc, asBool]) h

theorem y_eql_int {t t' : TypeId} {k : IntKind} {x y : Operand} {m n : Int} (ho : o.op = .binOp .eql t x y t') (hx : ρ x = .int k m) (hy : ρ y = .int k n) (h : R (.bool (m == n)) w) : Yields P ρ o w R :=
  y_val (by simp [execOp, ho, hx, hy, go_sem]) h
theorem y_eql_text {t t' : TypeId} {x y : Operand} {m n : ByteArray} (ho : o.op = .binOp .eql t x y t') (hx : ρ x = .string m) (hy : ρ y = .string n) (h : R (.bool (m.toList == n.toList)) w) : Yields P ρ o w R :=
  y_val (by simp [execOp, ho, hx, hy, go_sem]) h
theorem y_call1 {a : Act} {c : Call} {f : FuncId} {x : Operand} (ho : o.op = .call c) (hc : c.callee = .value (.func f)) (hx : c.args = #[x]) (hf : ∀ args w, (callFunc f args).run P w = .ok (.enter f args) w)
    (h : Calls P f #[a.eval x] w (fun e w' => ∃ v, e = .returned v ∧ R v w')) : Yields P a.eval o w R := by
  obtain ⟨cl, xs, ts⟩ := c
  simp only at hc hx
  subst hc; subst hx
  unfold Yields
  have e : (execOp a.eval o).run P w = .ok (.enter f #[a.eval x]) w := by
    simp [execOp, ho, resolve, Act.eval, Deferred.ofValue, invoke, hf]
  rw [e]
  exact h

theorem y_call2 {a : Act} {c : Call} {f : FuncId} {x y : Operand} (ho : o.op = .call c) (hc : c.callee = .value (.func f)) (hx : c.args = #[x, y]) (hf : ∀ args w, (callFunc f args).run P w = .ok (.enter f args) w)
    (h : Calls P f #[a.eval x, a.eval y] w (fun e w' => ∃ v, e = .returned v ∧ R v w')) : Yields P a.eval o w R := by
  obtain ⟨cl, xs, ts⟩ := c
  simp only at hc hx
  subst hc; subst hx
  unfold Yields
  have e : (execOp a.eval o).run P w = .ok (.enter f #[a.eval x, a.eval y]) w := by
    simp [execOp, ho, resolve, Act.eval, Deferred.ofValue, invoke, hf]
  rw [e]
  exact h
end

section
variable {P : Program} {ρ : Operand → Value} {o : Oper} {w : World} {R : Value → World → Prop}

theorem y_call3 {a : Act} {c : Call} {f : FuncId} {x y z : Operand} (ho : o.op = .call c) (hc : c.callee = .value (.func f)) (hx : c.args = #[x, y, z]) (hf : ∀ args w, (callFunc f args).run P w = .ok (.enter f args) w)
    (h : Calls P f #[a.eval x, a.eval y, a.eval z] w (fun e w' => ∃ v, e = .returned v ∧ R v w')) : Yields P a.eval o w R := by
  obtain ⟨cl, xs, ts⟩ := c
  simp only at hc hx
  subst hc; subst hx
  unfold Yields
  have e : (execOp a.eval o).run P w = .ok (.enter f #[a.eval x, a.eval y, a.eval z]) w := by
    simp [execOp, ho, resolve, Act.eval, Deferred.ofValue, invoke, hf]
  rw [e]
  exact h

theorem y_call4 {a : Act} {c : Call} {f : FuncId} {x y z u : Operand} (ho : o.op = .call c) (hc : c.callee = .value (.func f)) (hx : c.args = #[x, y, z, u]) (hf : ∀ args w, (callFunc f args).run P w = .ok (.enter f args) w)
    (h : Calls P f #[a.eval x, a.eval y, a.eval z, a.eval u] w (fun e w' => ∃ v, e = .returned v ∧ R v w')) : Yields P a.eval o w R := by
  obtain ⟨cl, xs, ts⟩ := c
  simp only at hc hx
  subst hc; subst hx
  unfold Yields
  have e : (execOp a.eval o).run P w = .ok (.enter f #[a.eval x, a.eval y, a.eval z, a.eval u]) w := by
    simp [execOp, ho, resolve, Act.eval, Deferred.ofValue, invoke, hf]
  rw [e]
  exact h

/-- A call that answers one value, whatever becomes of the world behind. -/
theorem call_eq {f : FuncId} {args : Array Value} {V : Value} (h : Calls P f args w (fun e w' => e = .returned V ∧ Kept (fun _ => False) w w')) :
    Calls P f args w (fun e w' => ∃ v, e = .returned v ∧ v = V ∧ Kept (fun _ => False) w w') := h.mono fun _ _ ⟨he, hk⟩ => ⟨V, he, rfl, hk⟩
theorem call_eqJ {f : FuncId} {args : Array Value} {V : Value} {S : Nat → Prop} (h : Calls P f args w (fun e w' => e = .returned V ∧ Kept (fun _ => False) w w')) :
    Calls P f args w (fun e w' => ∃ v, e = .returned v ∧ (∀ w'', Kept S w' w'' → v = V) ∧ Kept (fun _ => False) w w') := h.mono fun _ _ ⟨he, hk⟩ => ⟨V, he, fun _ _ => rfl, hk⟩
theorem call_kept {f : FuncId} {args : Array Value} {V : Value} (h : Calls P f args w (fun e w' => e = .returned V ∧ w = w')) : Calls P f args w (fun e w' => e = .returned V ∧ Kept (fun _ => False) w w') :=
  h.mono fun _ _ ⟨he, hk⟩ => ⟨he, by rw [← hk]; exact Kept.refl _ _⟩

theorem y_eql_bool {t t' : TypeId} {x y : Operand} {m n : Bool} (ho : o.op = .binOp .eql t x y t') (hx : ρ x = .bool m) (hy : ρ y = .bool n) (hu : P.underlying t = some .bool) (h : R (.bool (m == n)) w) : Yields P ρ o w R :=
  y_val (by simp [execOp, ho, hx, hy, hu, go_sem]) h
theorem y_xor {t t' : TypeId} {k : IntKind} {x y : Operand} {m n : Int} (ho : o.op = .binOp .xor t x y t') (hx : ρ x = .int k m) (hy : ρ y = .int k n) (h : R (.int k (bits .xor k m n)) w) : Yields P ρ o w R :=
  y_val (by simp [execOp, ho, hx, hy, go_sem]) h
theorem y_shr {t t' : TypeId} {k k' : IntKind} {x y : Operand} {m : Int} {n : Nat} (ho : o.op = .binOp .shr t x y t') (hx : ρ x = .int k m) (hy : ρ y = .int k' (n : Int)) (hn : n ≤ k.bits) (h : R (.int k (m / 2 ^ n)) w) : Yields P ρ o w R :=
  y_val (by
    have h0 : ¬ ((n : Int) < 0) := by omega
    have hm : min n k.bits = n := by omega
    have hd : m.fdiv (2 ^ n) = m / 2 ^ n := Int.fdiv_eq_ediv_of_nonneg _ (Int.le_of_lt (Int.pow_pos (by decide)))
    simp only [execOp, ho, hx, hy, binOp_shr, Op.shift, if_neg h0, Int.toNat_natCast, hm, hd, eqGuard]
    rfl) h

theorem y_conv {src dst : TypeId} {x : Operand} {k k' : IntKind} {n : Int} {d : TypeDesc} (ho : o.op = .convert src dst x) (hx : ρ x = .int k n) (hs : P.underlying src = some d) (hd : P.underlying dst = some (.int k')) (h : R (.int k' (k'.wrap n)) w) : Yields P ρ o w R :=
  y_val (v := .int k' (k'.wrap n)) (w' := w) (by simp [execOp, ho, hx, convert, run_underlying hs, run_underlying hd, Conv.intToInt]) h

theorem y_idx {t e : TypeId} {n b j : Nat} {k : IntKind} {x ix : Operand} (ho : o.op = .indexAddr t x ix) (hx : ρ x = .pointer (some ⟨b, 0, none⟩)) (hi : ρ ix = .int k (j : Int)) (hu : P.underlying t = some (.array n e)) (hj : j < n) (hs : (P.info? e).map (·.size) = some 1)
    (h : R (.pointer (some ⟨b, j, none⟩)) w) : Yields P ρ o w R := by
  cases hq : P.info? e with
  | none => simp [hq] at hs
  | some i =>
    have hs' : i.size = 1 := by simpa [hq] using hs
    have hn : ¬ n ≤ j := by omega
    exact y_val (v := .pointer (some ⟨b, j, none⟩)) (w' := w) (by simp [execOp, ho, hx, hi, Instr.indexAt, run_underlying hu, Instr.sureAddr, asIntOf, sizeOf, typeInfo, hq, hs', hn, Addr.add_lit]) h

theorem y_ld {ty : TypeId} {x : Operand} {a : Addr} {v : Value} {k : IntKind} (ho : o.op = .load ty x) (hx : ρ x = .pointer (some a)) (hc : w.cell? a = some v) (hu : P.underlying ty = some (.int k)) (h : R v w) : Yields P ρ o w R :=
  y_val (v := v) (w' := w) (by simp [execOp, ho, hx, Instr.loadAt, Instr.sureAddr, loadVar, isAgg, run_underlying hu, hc]) h
end
end Go.Proofs.YtipimcnjcpckeaaDoor
