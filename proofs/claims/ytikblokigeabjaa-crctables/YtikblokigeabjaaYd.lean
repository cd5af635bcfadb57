/- What each kind of operation yields. -/
import Derived.Test.YtikblokigeabjaaRg
import Derived.Test.YtikblokigeabjaaBw
namespace Go.Proofs.Ytikblokigeabjaa
open Go.RowKit

section
variable {P : Program} {ρ : Operand → Value} {o : Oper} {w : World} {R : Value → World → Prop}

theorem y_val {v : Value} {w' : World} (h : (execOp ρ o).run P w = .ok (.value v) w') (hR : R v w') : Yields P ρ o w R := by
  unfold Yields; rw [h]; exact hR

theorem y_move {x : Operand} (ho : o.op = .move x) (h : R (ρ x) w) : Yields P ρ o w R := y_val (by simp [execOp, ho]) h
theorem y_assign {x : Operand} (ho : o.op = .assign x) (h : R (ρ x) w) : Yields P ρ o w R := y_val (by simp [execOp, ho]) h
theorem y_pick_true {c x y : Operand} (ho : o.op = .pick c x y) (hc : ρ c = .bool true) (h : R (ρ x) w) : Yields P ρ o w R := y_val (by simp [execOp, ho, hc, asBool]) h
theorem y_pick_false {c x y : Operand} (ho : o.op = .pick c x y) (hc : ρ c = .bool false) (h : R (ρ y) w) : Yields P ρ o w R := y_val (by simp [execOp, ho, hc, asBool]) h

theorem y_eql_int {t t' : TypeId} {k : IntKind} {x y : Operand} {m n : Int} (ho : o.op = .binOp .eql t x y t') (hx : ρ x = .int k m) (hy : ρ y = .int k n) (h : R (.bool (m == n)) w) : Yields P ρ o w R :=
  y_val (by simp [execOp, ho, hx, hy, go_sem]) h
theorem y_eql_text {t t' : TypeId} {x y : Operand} {m n : ByteArray} (ho : o.op = .binOp .eql t x y t') (hx : ρ x = .string m) (hy : ρ y = .string n) (h : R (.bool (m.toList == n.toList)) w) : Yields P ρ o w R :=
  y_val (by simp [execOp, ho, hx, hy, go_sem]) h
theorem y_call1 {a : Act} {c : Call} {f : FuncId} {x : Operand} (ho : o.op = .call c) (hc : c.callee = .value (.func f)) (hx : c.args = #[x]) (hf : ∀ args w, (callFunc f args).run P w = .ok (.enter f args) w)
    (h : Calls P f #[a.eval x] w (fun e w' => ∃ v, e = .returned v ∧ R v w')) : Yields P a.eval o w R := by
  obtain ⟨cl, xs, ts⟩ := c
  simp only at hc hx
  subst hc; subst hx
  unfold Yields
  have e : (execOp a.eval o).run P w = .ok (.enter f #[a.eval x]) w := by
    simp [execOp, ho, resolve, Act.eval, Deferred.ofValue, invoke, hf]
  rw [e]
  exact h

theorem y_call2 {a : Act} {c : Call} {f : FuncId} {x y : Operand} (ho : o.op = .call c) (hc : c.callee = .value (.func f)) (hx : c.args = #[x, y]) (hf : ∀ args w, (callFunc f args).run P w = .ok (.enter f args) w)
    (h : Calls P f #[a.eval x, a.eval y] w (fun e w' => ∃ v, e = .returned v ∧ R v w')) : Yields P a.eval o w R := by
  obtain ⟨cl, xs, ts⟩ := c
  simp only at hc hx
  subst hc; subst hx
  unfold Yields
  have e : (execOp a.eval o).run P w = .ok (.enter f #[a.eval x, a.eval y]) w := by
    simp [execOp, ho, resolve, Act.eval, Deferred.ofValue, invoke, hf]
  rw [e]
  exact h
end

theorem y_text {ρ : Operand → Value} {o : Oper} {w : World} {R : Value → World → Prop} {x : Operand} {l : List Nat} (ho : o.op = .convert 23 9 x) (hx : BytesArg w (ρ x) l) (h : R (.string (textOf l)) w) : Yields Try.prog ρ o w R :=
  y_val (by simp [execOp, ho, hx.text]) h

theorem BytesArg.new (w : World) (l : List Nat) (hl : l.length ≤ maxLen) (h : ∀ x ∈ l, x < 256) : BytesArg (w.alloc (.cells (byteVals l).toArray 5)) (.slice (some ⟨w.heap.size, 0, none⟩) l.length l.length) l :=
  (Row.of_new (B := 0) (heap_alloc_new w _) (Nat.zero_le _) hl h).bytes

theorem y_len {ρ : Operand → Value} {o : Oper} {w : World} {R : Value → World → Prop} {c : Call} {x : Operand} {t e : TypeId} {a : Option Addr} {n cap : Nat} (ho : o.op = .call c) (hc : c.callee = .builtin .len) (hx : c.args = #[x]) (ht : c.argTypes = #[t]) (hu : Try.prog.underlying t = some (.slice e))
    (h1 : ρ x = .slice a n cap) (h : R (.int .i64 (n : Int)) w) : Yields Try.prog ρ o w R := by
  obtain ⟨cl, xs, ts⟩ := c
  simp only at hc hx ht
  subst hc; subst hx; subst ht
  exact y_val (v := .int .i64 (n : Int)) (w' := w) (by simp [execOp, ho, h1, resolve, invoke, builtin, run_underlying hu, Builtin.len_]; rfl) h

def Pd.bytes (l : List Nat) : Pd := ⟨fun v w => BytesArg w v l, fun _ _ _ h k => h.all k⟩

/-- What Same.. say of one way only: R holds, and nothing has turned. -/
theorem y_still {P : Program} {ρ : Operand → Value} {o : Oper} {w : World} {S : Value → World → Prop} (h : Yields P ρ o w (fun v w' => S v w' ∧ w' = w)) : Yields P ρ o w (fun v w' => S v w' ∧ Kept (fun _ => False) w w') := by
  revert h
  unfold Yields
  generalize (execOp ρ o).run P w = r
  intro h
  cases r with
  | ok n w' =>
    cases n <;> simp only at h ⊢ <;> first
      | exact ⟨h.1, by rw [h.2]; exact Kept.refl _ _⟩
      | exact h.elim
      | exact Calls.mono h (fun e w'' ⟨y, he, hk⟩ => ⟨y, he, hk.1, by rw [hk.2]; exact Kept.refl _ _⟩)
  | halt x w' => exact h.elim
end Go.Proofs.Ytikblokigeabjaa
