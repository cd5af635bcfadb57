/- What more kinds of operation yield: numbers, arrays' cells, calls that answer a number, new bytes, a part of bytes. -/
import Derived.Test.YtikblokigeabjaaYd
import Derived.Test.YtikblokigeabjaaRo
import Derived.Test.YtikblokigeabjaaAr
import Derived.Laws.MakeOwn
namespace Go.Proofs.Ytikblokigeabjaa
open Go.RowKit

section
variable {P : Program} {ρ : Operand → Value} {o : Oper} {w : World} {R : Value → World → Prop}

theorem y_call3 {a : Act} {c : Call} {f : FuncId} {x y z : Operand} (ho : o.op = .call c) (hc : c.callee = .value (.func f)) (hx : c.args = #[x, y, z]) (hf : ∀ args w, (callFunc f args).run P w = .ok (.enter f args) w)
    (h : Calls P f #[a.eval x, a.eval y, a.eval z] w (fun e w' => ∃ v, e = .returned v ∧ R v w')) : Yields P a.eval o w R := by
  obtain ⟨cl, xs, ts⟩ := c
  simp only at hc hx
  subst hc; subst hx
  unfold Yields
  have e : (execOp a.eval o).run P w = .ok (.enter f #[a.eval x, a.eval y, a.eval z]) w := by
    simp [execOp, ho, resolve, Act.eval, Deferred.ofValue, invoke, hf]
  rw [e]
  exact h

theorem y_call4 {a : Act} {c : Call} {f : FuncId} {x y z u : Operand} (ho : o.op = .call c) (hc : c.callee = .value (.func f)) (hx : c.args = #[x, y, z, u]) (hf : ∀ args w, (callFunc f args).run P w = .ok (.enter f args) w)
    (h : Calls P f #[a.eval x, a.eval y, a.eval z, a.eval u] w (fun e w' => ∃ v, e = .returned v ∧ R v w')) : Yields P a.eval o w R := by
  obtain ⟨cl, xs, ts⟩ := c
  simp only at hc hx
  subst hc; subst hx
  unfold Yields
  have e : (execOp a.eval o).run P w = .ok (.enter f #[a.eval x, a.eval y, a.eval z, a.eval u]) w := by
    simp [execOp, ho, resolve, Act.eval, Deferred.ofValue, invoke, hf]
  rw [e]
  exact h

/-- A call that answers one value, whatever becomes of the world behind. -/
theorem call_eq {f : FuncId} {args : Array Value} {V : Value} (h : Calls P f args w (fun e w' => e = .returned V ∧ Kept (fun _ => False) w w')) :
    Calls P f args w (fun e w' => ∃ v, e = .returned v ∧ v = V ∧ Kept (fun _ => False) w w') := h.mono fun _ _ ⟨he, hk⟩ => ⟨V, he, rfl, hk⟩
theorem call_eqJ {f : FuncId} {args : Array Value} {V : Value} {S : Nat → Prop} (h : Calls P f args w (fun e w' => e = .returned V ∧ Kept (fun _ => False) w w')) :
    Calls P f args w (fun e w' => ∃ v, e = .returned v ∧ (∀ w'', Kept S w' w'' → v = V) ∧ Kept (fun _ => False) w w') := h.mono fun _ _ ⟨he, hk⟩ => ⟨V, he, fun _ _ => rfl, hk⟩
theorem call_kept {f : FuncId} {args : Array Value} {V : Value} (h : Calls P f args w (fun e w' => e = .returned V ∧ w = w')) : Calls P f args w (fun e w' => e = .returned V ∧ Kept (fun _ => False) w w') :=
  h.mono fun _ _ ⟨he, hk⟩ => ⟨he, by rw [← hk]; exact Kept.refl _ _⟩

theorem y_eql_bool {t t' : TypeId} {x y : Operand} {m n : Bool} (ho : o.op = .binOp .eql t x y t') (hx : ρ x = .bool m) (hy : ρ y = .bool n) (hu : P.underlying t = some .bool) (h : R (.bool (m == n)) w) : Yields P ρ o w R :=
  y_val (by simp [execOp, ho, hx, hy, hu, go_sem]) h
theorem y_xor {t t' : TypeId} {k : IntKind} {x y : Operand} {m n : Int} (ho : o.op = .binOp .xor t x y t') (hx : ρ x = .int k m) (hy : ρ y = .int k n) (h : R (.int k (bits .xor k m n)) w) : Yields P ρ o w R :=
  y_val (by simp [execOp, ho, hx, hy, go_sem]) h
theorem y_shr {t t' : TypeId} {k k' : IntKind} {x y : Operand} {m : Int} {n : Nat} (ho : o.op = .binOp .shr t x y t') (hx : ρ x = .int k m) (hy : ρ y = .int k' (n : Int)) (hn : n ≤ k.bits) (h : R (.int k (m / 2 ^ n)) w) : Yields P ρ o w R :=
  y_val (by
    have h0 : ¬ ((n : Int) < 0) := by omega
    have hm : min n k.bits = n := by omega
    have hd : m.fdiv (2 ^ n) = m / 2 ^ n := Int.fdiv_eq_ediv_of_nonneg _ (Int.le_of_lt (Int.pow_pos (by decide)))
    simp only [execOp, ho, hx, hy, binOp_shr, Op.shift, if_neg h0, Int.toNat_natCast, hm, hd, eqGuard]
    rfl) h

theorem y_conv {src dst : TypeId} {x : Operand} {k k' : IntKind} {n : Int} {d : TypeDesc} (ho : o.op = .convert src dst x) (hx : ρ x = .int k n) (hs : P.underlying src = some d) (hd : P.underlying dst = some (.int k')) (h : R (.int k' (k'.wrap n)) w) : Yields P ρ o w R :=
  y_val (v := .int k' (k'.wrap n)) (w' := w) (by simp [execOp, ho, hx, convert, run_underlying hs, run_underlying hd, Conv.intToInt]) h

theorem y_idx {t e : TypeId} {n b j : Nat} {k : IntKind} {x ix : Operand} (ho : o.op = .indexAddr t x ix) (hx : ρ x = .pointer (some ⟨b, 0, none⟩)) (hi : ρ ix = .int k (j : Int)) (hu : P.underlying t = some (.array n e)) (hj : j < n) (hs : (P.info? e).map (·.size) = some 1)
    (h : R (.pointer (some ⟨b, j, none⟩)) w) : Yields P ρ o w R := by
  cases hq : P.info? e with
  | none => simp [hq] at hs
  | some i =>
    have hs' : i.size = 1 := by simpa [hq] using hs
    have hn : ¬ n ≤ j := by omega
    exact y_val (v := .pointer (some ⟨b, j, none⟩)) (w' := w) (by simp [execOp, ho, hx, hi, Instr.indexAt, run_underlying hu, Instr.sureAddr, asIntOf, sizeOf, typeInfo, hq, hs', hn, Addr.add_lit]) h

theorem y_ld {ty : TypeId} {x : Operand} {a : Addr} {v : Value} {k : IntKind} (ho : o.op = .load ty x) (hx : ρ x = .pointer (some a)) (hc : w.cell? a = some v) (hu : P.underlying ty = some (.int k)) (h : R v w) : Yields P ρ o w R :=
  y_val (v := v) (w' := w) (by simp [execOp, ho, hx, Instr.loadAt, Instr.sureAddr, loadVar, isAgg, run_underlying hu, hc]) h
end

theorem byteVals_zeros (n : Nat) : (madeCells (Value.int .u8 0).cells n).toList = byteVals (List.replicate n 0) := by
  unfold madeCells byteVals Value.cells
  rw [List.map_replicate]
  apply List.ext_getElem?
  intro i
  by_cases h : i < n
  · simp [h, Nat.mod_one]
  · simp [h]

theorem run_make_bytes (w : World) (kl kc : IntKind) (n : Nat) (hn : n < 1099511627776) :
    (Instr.makeSlice 23 (.int kl (n : Int)) (.int kc (n : Int))).run Try.prog w = .ok (.slice (some ⟨w.heap.size, 0, none⟩) n n) (w.alloc (.cells (byteVals (List.replicate n 0)).toArray 5)) := by
  obtain ⟨i0, hi, hz0, hz1, hz2⟩ := info_parts Try.info_u8
  have hr := run_make (P := Try.prog) w 23 5 i0 (.int .u8 0) Try.underlying23 hi hz0 kl kc n n (by omega) (Int.le_refl _) (by rw [hz2]; omega) (by omega)
  simp only [Int.toNat_natCast, hz1, Nat.mul_one] at hr
  rw [hr, ← byteVals_zeros]

theorem zeros_lt (n : Nat) : ∀ x ∈ List.replicate n 0, x < 256 := by intro x hx; have := (List.mem_replicate.1 hx).2; omega

/-- New bytes, all 0. -/
theorem row_zeros (w : World) (B n : Nat) (hB : B ≤ w.heap.size) (hn : n < 1099511627776) : Row (w.alloc (.cells (byteVals (List.replicate n 0)).toArray 5)) B (.slice (some ⟨w.heap.size, 0, none⟩) n n) (List.replicate n 0) := by
  have h := Row.of_new (B := B) (l := List.replicate n 0) (heap_alloc_new w _) hB (by rw [List.length_replicate]; unfold maxLen; omega) (zeros_lt n)
  rwa [List.length_replicate] at h

theorem y_make {ρ : Operand → Value} {o : Oper} {w : World} {R : Value → World → Prop} {x y : Operand} {kl kc : IntKind} {n : Nat} (ho : o.op = .makeSlice 23 x y) (hx : ρ x = .int kl (n : Int)) (hy : ρ y = .int kc (n : Int)) (hn : n < 1099511627776)
    (h : R (.slice (some ⟨w.heap.size, 0, none⟩) n n) (w.alloc (.cells (byteVals (List.replicate n 0)).toArray 5))) : Yields Try.prog ρ o w R :=
  y_val (by simp [execOp, ho, hx, hy, run_make_bytes w kl kc n hn]) h

theorem y_built1 {ρ : Operand → Value} {o : Oper} {w : World} {R : Value → World → Prop} {x : Operand} {c : Nat} (ho : o.op = .buildSlice 23 1 #[(0, x)]) (hx : ρ x = .int .u8 (c : Int))
    (h : R (.slice (some ⟨w.heap.size, 0, none⟩) 1 1) (w.alloc (.cells (byteVals [c]).toArray 5))) : Yields Try.prog ρ o w R :=
  y_val (v := .slice (some ⟨w.heap.size, 0, none⟩) 1 1) (w' := w.alloc (.cells (byteVals [c]).toArray 5)) (by simp [execOp, ho, hx, go_sem]; rfl) h

theorem y_built4 {ρ : Operand → Value} {o : Oper} {w : World} {R : Value → World → Prop} {x y z u : Operand} {c d e f : Nat} (ho : o.op = .buildSlice 23 4 #[(0, x), (1, y), (2, z), (3, u)]) (hx : ρ x = .int .u8 (c : Int)) (hy : ρ y = .int .u8 (d : Int)) (hz : ρ z = .int .u8 (e : Int)) (hu : ρ u = .int .u8 (f : Int))
    (h : R (.slice (some ⟨w.heap.size, 0, none⟩) 4 4) (w.alloc (.cells (byteVals [c, d, e, f]).toArray 5))) : Yields Try.prog ρ o w R :=
  y_val (v := .slice (some ⟨w.heap.size, 0, none⟩) 4 4) (w' := w.alloc (.cells (byteVals [c, d, e, f]).toArray 5)) (by simp [execOp, ho, hx, hy, hz, hu, go_sem]; rfl) h

/-- Bytes up to some place. -/
theorem BytesArg.upto {w : World} {v : Value} {l : List Nat} (h : BytesArg w v l) (j : Nat) (hj : j ≤ l.length) (k : IntKind) :
    ∃ v', (Instr.sliceAt 23 v none (some (.int k (j : Int))) none).run Try.prog w = .ok v' w ∧ BytesArg w v' (l.take j) := by
  obtain ⟨a, cap, rfl, h1, h2, h3, h256, hc⟩ := h
  have hb : ¬ cap < j := by omega
  have hb0 : BytesArg w (.slice a l.length cap) l := ⟨a, cap, rfl, h1, h2, h3, h256, hc⟩
  obtain ⟨i0, hi, hz0, hz1, hz2⟩ := info_parts Try.info_u8
  refine ⟨.slice a j cap, ?_, ?_⟩
  · cases a with
    | none => simp [Instr.sliceAt, Instr.slice, Instr.sliceBounds, Instr.sliceBound, asIntOf, run_underlying Try.underlying23, sizeOf, typeInfo, hi, hb]
    | some ad => simp [Instr.sliceAt, Instr.slice, Instr.sliceBounds, Instr.sliceBound, asIntOf, run_underlying Try.underlying23, sizeOf, typeInfo, hi, hb, Addr.add]
  · have := hb0.cut 0 j cap (Nat.zero_le _) hj (by omega) h2 a (fun _ => by cases a with | none => rfl | some ad => simp [Addr.add]) h3
    simpa using this

theorem y_upto {ρ : Operand → Value} {o : Oper} {w : World} {R : Value → World → Prop} {x y : Operand} {k : IntKind} {l : List Nat} {j : Nat} (ho : o.op = .slice 23 x none (some y) none) (hx : BytesArg w (ρ x) l) (hy : ρ y = .int k (j : Int)) (hj : j ≤ l.length)
    (h : ∀ v', BytesArg w v' (l.take j) → R v' w) : Yields Try.prog ρ o w R := by
  obtain ⟨v', hr, hb⟩ := hx.upto j hj k
  exact y_val (by simp [execOp, ho, hy, hr]) (h v' hb)
end Go.Proofs.Ytikblokigeabjaa
