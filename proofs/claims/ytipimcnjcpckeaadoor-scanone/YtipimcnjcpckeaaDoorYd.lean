/- What each kind of operation yields. -/
import Derived.Test.YtipimcnjcpckeaaDoorYb
import Derived.Test.YtipimcnjcpckeaaDoorBw
namespace Go.Proofs.YtipimcnjcpckeaaDoor
open Go.RowKit

theorem y_text {ρ : Operand → Value} {o : Oper} {w : World} {R : Value → World → Prop} {x : Operand} {l : List Nat} (ho : o.op = .convert 25 9 x) (hx : BytesArg w (ρ x) l) (h : R (.string (textOf l)) w) : Yields Tryd.prog ρ o w R :=
  y_val (by simp [execOp, ho, hx.text]) h

theorem BytesArg.new (w : World) (l : List Nat) (hl : l.length ≤ maxLen) (h : ∀ x ∈ l, x < 256) : BytesArg (w.alloc (.cells (byteVals l).toArray 5)) (.slice (some ⟨w.heap.size, 0, none⟩) l.length l.length) l :=
  (Row.of_new (B := 0) (heap_alloc_new w _) (Nat.zero_le _) hl h).bytes

theorem y_len {ρ : Operand → Value} {o : Oper} {w : World} {R : Value → World → Prop} {c : Call} {x : Operand} {t e : TypeId} {a : Option Addr} {n cap : Nat} (ho : o.op = .call c) (hc : c.callee = .builtin .len) (hx : c.args = #[x]) (ht : c.argTypes = #[t]) (hu : Tryd.prog.underlying t = some (.slice e))
    (h1 : ρ x = .slice a n cap) (h : R (.int .i64 (n : Int)) w) : Yields Tryd.prog ρ o w R := by
  obtain ⟨cl, xs, ts⟩ := c
  simp only at hc hx ht
  subst hc; subst hx; subst ht
  exact y_val (v := .int .i64 (n : Int)) (w' := w) (by simp [execOp, ho, h1, resolve, invoke, builtin, run_underlying hu, Builtin.len_]; rfl) h

def Pd.bytes (l : List Nat) : Pd := ⟨fun v w => BytesArg w v l, fun _ _ _ h k => h.all k⟩

/-- What Same.. say of one way only: R holds, and nothing has turned. -/
theorem y_still {P : Program} {ρ : Operand → Value} {o : Oper} {w : World} {S : Value → World → Prop} (h : Yields P ρ o w (fun v w' => S v w' ∧ w' = w)) : Yields P ρ o w (fun v w' => S v w' ∧ Kept (fun _ => False) w w') := by
  revert h
  unfold Yields
  generalize (execOp ρ o).run P w = r
  intro h
  cases r with
  | ok n w' =>
    cases n <;> simp only at h ⊢ <;> first
      | exact ⟨h.1, by rw [h.2]; exact Kept.refl _ _⟩
      | exact h.elim
      | exact Calls.mono h (fun e w'' ⟨y, he, hk⟩ => ⟨y, he, hk.1, by rw [hk.2]; exact Kept.refl _ _⟩)
  | halt x w' => exact h.elim
end Go.Proofs.YtipimcnjcpckeaaDoor
