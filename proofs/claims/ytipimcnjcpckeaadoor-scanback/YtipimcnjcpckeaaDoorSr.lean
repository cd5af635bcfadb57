/- What each kind of operation yields, with the answer told. No program in it. -/
import Derived.Test.YtipimcnjcpckeaaDoorSq
import Derived.IntWalk
namespace Go.Proofs.YtipimcnjcpckeaaDoor
open Go.RowKit

theorem i64_n {x : Int} {m : Nat} (h : x = (m : Int)) (hm : m ≤ 9223372036854775807) : IntKind.i64.wrap x = (m : Int) := by subst h; exact IntWalk.i64_in _ (by omega)
theorem i64_i {x y : Int} (h : x = y) (hy : -9223372036854775808 ≤ y ∧ y ≤ 9223372036854775807) : IntKind.i64.wrap x = y := by subst h; exact IntWalk.i64_in _ hy

theorem y_of {P : Program} {ρ : Operand → Value} {o : Oper} {w : World} {R : Value → World → Prop} {v : Value} {w' : World} (h : (execOp ρ o).run P w = .ok (.value v) w') (hR : R v w') : Yields P ρ o w R := by
  unfold Yields; rw [h]; exact hR

section
variable {ro : Option Nat} {P : Program} {ρ : Operand → Value} {o : Oper} {w : World} {R : Value → World → Prop}

theorem y_mov {x : Operand} {v : Value} (ho : o.op = .move x) (hx : ρ x = v) (h : R v w) : Yields P ρ o w R := y_move ho (by rw [hx]; exact h)
theorem y_asg {x : Operand} {v : Value} (ho : o.op = .assign x) (hx : ρ x = v) (h : R v w) : Yields P ρ o w R := y_assign ho (by rw [hx]; exact h)
theorem y_pickT {c x y : Operand} {v : Value} (ho : o.op = .pick c x y) (hc : ρ c = .bool true) (hx : ρ x = v) (h : R v w) : Yields P ρ o w R := y_pick_true ho hc (by rw [hx]; exact h)
theorem y_pickF {c x y : Operand} {v : Value} (ho : o.op = .pick c x y) (hc : ρ c = .bool false) (hy : ρ y = v) (h : R v w) : Yields P ρ o w R := y_pick_false ho hc (by rw [hy]; exact h)
theorem y_pickB {c x y : Operand} {b : Bool} {v v' : Value} (ho : o.op = .pick c x y) (hc : ρ c = .bool b) (hx : ρ x = v) (hy : ρ y = v') (h : R (cond b v v') w) : Yields P ρ o w R := by
  cases b
  · exact y_pickF ho hc hy h
  · exact y_pickT ho hc hx h

theorem y_add {t t' : TypeId} {k : IntKind} {x y : Operand} {m n r : Int} (ho : o.op = .binOp .add t x y t') (hx : ρ x = .int k m) (hy : ρ y = .int k n) (hr : k.wrap (m + n) = r) (h : R (.int k r) w) : Yields P ρ o w R :=
  y_of (v := .int k (k.wrap (m + n))) (w' := w) (by simp [execOp, ho, hx, hy, go_sem]) (by rw [hr]; exact h)
theorem y_sub {t t' : TypeId} {k : IntKind} {x y : Operand} {m n r : Int} (ho : o.op = .binOp .sub t x y t') (hx : ρ x = .int k m) (hy : ρ y = .int k n) (hr : k.wrap (m - n) = r) (h : R (.int k r) w) : Yields P ρ o w R :=
  y_of (v := .int k (k.wrap (m - n))) (w' := w) (by simp [execOp, ho, hx, hy, go_sem]) (by rw [hr]; exact h)
theorem y_mul {t t' : TypeId} {k : IntKind} {x y : Operand} {m n r : Int} (ho : o.op = .binOp .mul t x y t') (hx : ρ x = .int k m) (hy : ρ y = .int k n) (hr : k.wrap (m * n) = r) (h : R (.int k r) w) : Yields P ρ o w R :=
  y_of (v := .int k (k.wrap (m * n))) (w' := w) (by simp [execOp, ho, hx, hy, go_sem]) (by rw [hr]; exact h)
theorem y_quo {t t' : TypeId} {k : IntKind} {x y : Operand} {m n r : Int} (ho : o.op = .binOp .quo t x y t') (hx : ρ x = .int k m) (hy : ρ y = .int k n) (hn : n ≠ 0) (hr : k.wrap (m.tdiv n) = r) (h : R (.int k r) w) : Yields P ρ o w R :=
  y_of (v := .int k (k.wrap (m.tdiv n))) (w' := w) (by simp [execOp, ho, hx, hy, hn, go_sem]) (by rw [hr]; exact h)
theorem y_rem {t t' : TypeId} {k : IntKind} {x y : Operand} {m n r : Int} (ho : o.op = .binOp .rem t x y t') (hx : ρ x = .int k m) (hy : ρ y = .int k n) (hn : n ≠ 0) (hr : m.tmod n = r) (h : R (.int k r) w) : Yields P ρ o w R :=
  y_of (v := .int k (m.tmod n)) (w' := w) (by simp [execOp, ho, hx, hy, hn, go_sem]) (by rw [hr]; exact h)
theorem y_neg {t : TypeId} {k : IntKind} {x : Operand} {m r : Int} (ho : o.op = .unOp .neg t x) (hx : ρ x = .int k m) (hr : k.wrap (-m) = r) (h : R (.int k r) w) : Yields P ρ o w R :=
  y_of (v := .int k (k.wrap (-m))) (w' := w) (by simp [execOp, ho, hx, go_sem]) (by rw [hr]; exact h)
theorem y_shrR {t t' : TypeId} {k k' : IntKind} {x y : Operand} {m r : Int} (n : Nat) (ho : o.op = .binOp .shr t x y t') (hx : ρ x = .int k m) (hy : ρ y = .int k' (n : Int)) (hn : n ≤ k.bits) (hr : m / 2 ^ n = r) (h : R (.int k r) w) : Yields P ρ o w R :=
  y_shr ho hx hy hn (by rw [hr]; exact h)
theorem y_convR {src dst : TypeId} {x : Operand} {k k' : IntKind} {n r : Int} {d : TypeDesc} (ho : o.op = .convert src dst x) (hx : ρ x = .int k n) (hs : P.underlying src = some d) (hd : P.underlying dst = some (.int k')) (hr : k'.wrap n = r) (h : R (.int k' r) w) : Yields P ρ o w R :=
  y_conv ho hx hs hd (by rw [hr]; exact h)
theorem y_lss {t t' : TypeId} {k : IntKind} {x y : Operand} {m n : Int} {b : Bool} (ho : o.op = .binOp .lss t x y t') (hx : ρ x = .int k m) (hy : ρ y = .int k n) (hr : decide (m < n) = b) (h : R (.bool b) w) : Yields P ρ o w R :=
  y_of (v := .bool (decide (m < n))) (w' := w) (by simp [execOp, ho, hx, hy, go_sem]) (by rw [hr]; exact h)
theorem y_leq {t t' : TypeId} {k : IntKind} {x y : Operand} {m n : Int} {b : Bool} (ho : o.op = .binOp .leq t x y t') (hx : ρ x = .int k m) (hy : ρ y = .int k n) (hr : decide (m ≤ n) = b) (h : R (.bool b) w) : Yields P ρ o w R :=
  y_of (v := .bool (decide (m ≤ n))) (w' := w) (by simp [execOp, ho, hx, hy, go_sem]) (by rw [hr]; exact h)
theorem y_gtr {t t' : TypeId} {k : IntKind} {x y : Operand} {m n : Int} {b : Bool} (ho : o.op = .binOp .gtr t x y t') (hx : ρ x = .int k m) (hy : ρ y = .int k n) (hr : decide (n < m) = b) (h : R (.bool b) w) : Yields P ρ o w R :=
  y_of (v := .bool (decide (n < m))) (w' := w) (by simp [execOp, ho, hx, hy, go_sem]) (by rw [hr]; exact h)
theorem y_geq {t t' : TypeId} {k : IntKind} {x y : Operand} {m n : Int} {b : Bool} (ho : o.op = .binOp .geq t x y t') (hx : ρ x = .int k m) (hy : ρ y = .int k n) (hr : decide (n ≤ m) = b) (h : R (.bool b) w) : Yields P ρ o w R :=
  y_of (v := .bool (decide (n ≤ m))) (w' := w) (by simp [execOp, ho, hx, hy, go_sem]) (by rw [hr]; exact h)
theorem y_eqlI {t t' : TypeId} {k : IntKind} {x y : Operand} {m n : Int} {b : Bool} (ho : o.op = .binOp .eql t x y t') (hx : ρ x = .int k m) (hy : ρ y = .int k n) (hr : decide (m = n) = b) (h : R (.bool b) w) : Yields P ρ o w R :=
  y_eql_int ho hx hy (by rw [show (m == n) = b from hr]; exact h)
theorem y_neqI {t t' : TypeId} {k : IntKind} {x y : Operand} {m n : Int} {b : Bool} (ho : o.op = .binOp .neq t x y t') (hx : ρ x = .int k m) (hy : ρ y = .int k n) (hr : decide (m ≠ n) = b) (h : R (.bool b) w) : Yields P ρ o w R := by
  refine y_of (v := .bool (m != n)) (w' := w) (by simp [execOp, ho, hx, hy, go_sem, bne]) ?_
  rw [show (m != n) = b by rw [← hr]; by_cases e : m = n <;> simp [bne, e]]; exact h
theorem y_not {t : TypeId} {x : Operand} {b c : Bool} (ho : o.op = .unOp .not t x) (hx : ρ x = .bool b) (hr : (!b) = c) (h : R (.bool c) w) : Yields P ρ o w R :=
  y_of (v := .bool (!b)) (w' := w) (by simp [execOp, ho, hx, go_sem]) (by rw [hr]; exact h)
theorem y_eqlB {t t' : TypeId} {x y : Operand} {m n b : Bool} (ho : o.op = .binOp .eql t x y t') (hx : ρ x = .bool m) (hy : ρ y = .bool n) (hu : P.underlying t = some .bool) (hr : (m == n) = b) (h : R (.bool b) w) : Yields P ρ o w R :=
  y_eql_bool ho hx hy hu (by rw [hr]; exact h)
theorem y_minR {ts : Array TypeId} {k : IntKind} {x y : Operand} {m n r : Int} (ho : o.op = .call { callee := .builtin .min, args := #[x, y], argTypes := ts }) (hx : ρ x = .int k m) (hy : ρ y = .int k n) (he : min m n = r) (h : R (.int k r) w) : Yields P ρ o w R := by
  have e : (if n < m then n else m) = min m n := by split <;> omega
  have hr := run_min_int2 (P := P) w ts o.type k k m n
  rw [e, he] at hr
  exact y_of (v := .int k r) (w' := w) (by simp only [execOp, ho, resolve, invoke, builtin, Sem.run_bind, Sem.run_pure, Result.andThen_ok, List.map_toArray, List.map_cons, List.map_nil, hx, hy, hr]) h
theorem y_maxR {ts : Array TypeId} {k : IntKind} {x y : Operand} {m n r : Int} (ho : o.op = .call { callee := .builtin .max, args := #[x, y], argTypes := ts }) (hx : ρ x = .int k m) (hy : ρ y = .int k n) (he : max m n = r) (h : R (.int k r) w) : Yields P ρ o w R := by
  have e : (if n > m then n else m) = max m n := by split <;> omega
  have hr := run_max_int2 (P := P) w ts o.type k k m n
  rw [e, he] at hr
  exact y_of (v := .int k r) (w' := w) (by simp only [execOp, ho, resolve, invoke, builtin, Sem.run_bind, Sem.run_pure, Result.andThen_ok, List.map_toArray, List.map_cons, List.map_nil, hx, hy, hr]) h

/-- The address of an element, wherever the array begins and however many cells an element takes. -/
theorem y_atR {t e : TypeId} {n b off off' s : Nat} {k : IntKind} {x ix : Operand} (j : Nat) {i : Int} (ho : o.op = .indexAddr t x ix) (hx : ρ x = .pointer (some ⟨b, off, none⟩)) (hi : ρ ix = .int k i) (hij : i = (j : Int)) (hu : P.underlying t = some (.array n e)) (hj : j < n) (hs : (P.info? e).map (·.size) = some s) (hoff : off + j * s = off')
    (h : R (.pointer (some ⟨b, off', none⟩)) w) : Yields P ρ o w R := by
  subst hij
  cases hq : P.info? e with
  | none => simp [hq] at hs
  | some i =>
    have hs' : i.size = s := by simpa [hq] using hs
    refine y_of (v := .pointer (some ⟨b, off + j * s, none⟩)) (w' := w) ?_ (by rw [hoff]; exact h)
    simp only [execOp, ho, hx, hi]
    by_cases h0 : j * s = 0
    · simp [Instr.indexAt, run_underlying hu, Instr.sureAddr, asIntOf, sizeOf, typeInfo, hq, hs', hj, Addr.add, h0]
    · simp [Instr.indexAt, run_underlying hu, Instr.sureAddr, asIntOf, sizeOf, typeInfo, hq, hs', hj, Addr.add, h0]

theorem y_buildR {t : TypeId} {parts : Array (Nat × Operand)} {cells : Array Value} {v : Value} (ho : o.op = .build t parts) (hc : P.built t (parts.map fun (i, x) => (i, ρ x)).toList = some cells) (hv : .agg cells = v) (h : R v w) : Yields P ρ o w R :=
  y_of (v := .agg cells) (w' := w) (by simp only [execOp, ho, Sem.run_bind, run_build w t _ cells hc, Result.andThen_ok, Sem.run_pure]) (by rw [hv]; exact h)

theorem y_ldR {ty : TypeId} {x : Operand} {a : Addr} {v : Value} {k : IntKind} (ho : o.op = .load ty x) (hx : ρ x = .pointer (some a)) (hu : P.underlying ty = some (.int k)) (hc : w.cell? a = some v) (h : R v w) : Yields P ρ o w R := y_ld ho hx hc hu h

theorem y_ext {x : Operand} {i : Nat} {vs : Array Value} {v : Value} (ho : o.op = .extract x i) (hx : ρ x = .tuple vs) (hi : vs[i]? = some v) (h : R v w) : Yields P ρ o w R :=
  y_of (v := v) (w' := w) (by simp [execOp, ho, hx, Instr.extract, hi]) h

/-! Calls. -/
theorem y_c0 {f : FuncId} {c : Call} {S : Ending → World → Prop} (ho : o.op = .call c) (hc : c.callee = .value (.func f)) (hx : c.args = #[]) (hf : ∀ args w, (callFunc f args).run P w = .ok (.enter f args) w)
    {ev0 : ∀ f, ρ (.func f) = .func (.func f) #[] #[]} (h : Calls P f #[] w S) (hS : ∀ e w', S e w' → ∃ v, e = .returned v ∧ R v w') : Yields P ρ o w R := by
  obtain ⟨cl, xs, ts⟩ := c
  simp only at hc hx
  subst hc; subst hx
  unfold Yields
  have e : (execOp ρ o).run P w = .ok (.enter f #[]) w := by simp [execOp, ho, resolve, ev0, Deferred.ofValue, invoke, hf]
  rw [e]
  exact h.mono hS
theorem y_cs {f : FuncId} {c : Call} {S : Ending → World → Prop} {xs : List Operand} {vs : List Value} (ho : o.op = .call c) (hc : c.callee = .value (.func f)) (hx : c.args = xs.toArray) (hf : ∀ args w, (callFunc f args).run P w = .ok (.enter f args) w)
    (ev0 : ∀ f, ρ (.func f) = .func (.func f) #[] #[]) (hv : xs.map ρ = vs) (h : Calls P f vs.toArray w S) (hS : ∀ e w', S e w' → ∃ v, e = .returned v ∧ R v w') : Yields P ρ o w R := by
  obtain ⟨cl, as, ts⟩ := c
  simp only at hc hx
  subst hc; subst hx; subst hv
  unfold Yields
  have e : (execOp ρ o).run P w = .ok (.enter f (xs.map ρ).toArray) w := by simp [execOp, ho, resolve, ev0, Deferred.ofValue, invoke, hf]
  rw [e]
  exact h.mono hS
/-- A call of a function that is a value. -/
theorem y_cv {f : FuncId} {c : Call} {S : Ending → World → Prop} {cx : Operand} {xs : List Operand} {vs : List Value} (ho : o.op = .call c) (hc : c.callee = .value cx) (hcx : ρ cx = .func (.func f) #[] #[]) (hx : c.args = xs.toArray) (hf : ∀ args w, (callFunc f args).run P w = .ok (.enter f args) w)
    (hv : xs.map ρ = vs) (h : Calls P f vs.toArray w S) (hS : ∀ e w', S e w' → ∃ v, e = .returned v ∧ R v w') : Yields P ρ o w R := by
  obtain ⟨cl, as, ts⟩ := c
  simp only at hc hx
  subst hc; subst hx; subst hv
  unfold Yields
  have e : (execOp ρ o).run P w = .ok (.enter f (xs.map ρ).toArray) w := by simp [execOp, ho, resolve, hcx, Deferred.ofValue, invoke, hf]
  rw [e]
  exact h.mono hS
end
theorem ev_func (F : Nat → Value) : ∀ f, ev F (.func f) = .func (.func f) #[] #[] := fun _ => rfl
theorem vs1 {ρ : Operand → Value} {x : Operand} {v : Value} (h : ρ x = v) : [x].map ρ = [v] := by simp [h]
theorem vs2 {ρ : Operand → Value} {x y : Operand} {v u : Value} (h : ρ x = v) (h2 : ρ y = u) : [x, y].map ρ = [v, u] := by simp [h, h2]
theorem vsN {ρ : Operand → Value} : ([] : List Operand).map ρ = [] := rfl
theorem vsC {ρ : Operand → Value} {x : Operand} {v : Value} {xs : List Operand} {vs : List Value} (h : ρ x = v) (h2 : xs.map ρ = vs) : (x :: xs).map ρ = v :: vs := by simp [h, ← h2]

section
variable {ro : Option Nat} {P : Program} {N : Nat} {Q : (Exit → (Nat → Value) → World → Prop)} {F : Nat → Value} {w : World}
/-- An operation that turns nothing, in a region in the text's order. -/
theorem wl_v {ops : Array Oper} {o : Oper} {rest : List Oper} (v : Value) (hg : o.guard = none) (hd : fits N o.dst = true) (hy : Yields P (ev (cutF N F)) o w (fun u w' => u = v ∧ w' = w)) (h : wl ro P N ops Q rest (putF F o.dst v) w) : wl ro P N ops Q (o :: rest) F w :=
  wl_call hg hd hy fun u w' ⟨h1, h2⟩ => by subst h1; subst h2; exact h
theorem wl_vw {ops : Array Oper} {o : Oper} {rest : List Oper} (v : Value) (j : Nat) (want : Bool) (d : Tmp) (hg : o.guard = some (j, want)) (hj : (ops[j]?).bind (·.dst) = some d) (hdn : Nat.blt d N = true) (hv : F d = .bool want) (hd : fits N o.dst = true)
    (hy : Yields P (ev (cutF N F)) o w (fun u w' => u = v ∧ w' = w)) (h : wl ro P N ops Q rest (putF F o.dst v) w) : wl ro P N ops Q (o :: rest) F w := by
  refine wl_when j want d hg hj hdn hv hd ?_
  revert hy
  unfold Yields
  generalize (execOp (ev (cutF N F)) o).run P w = r
  intro hy
  cases r with
  | ok n w' =>
    cases n <;> simp only at hy ⊢ <;> first
      | (obtain ⟨h1, h2⟩ := hy; subst h1; subst h2; exact h)
      | exact hy.elim
      | exact Calls.mono hy (fun e w'' ⟨u, he, h1, h2⟩ => ⟨u, he, by subst h1; subst h2; exact h⟩)
  | halt x w' => exact hy.elim
end
end Go.Proofs.YtipimcnjcpckeaaDoor
