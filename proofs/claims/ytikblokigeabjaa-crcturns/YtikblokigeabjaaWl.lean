/- Some operations ahead of the walk's own steps: the lesser of two numbers, new bytes. -/
import Derived.Test.YtikblokigeabjaaYn
namespace Go.Proofs.Ytikblokigeabjaa
open Go.RowKit

theorem wpList_min2 {P : Program} {ops : Array Oper} {rest : List Oper} {o : Oper} {a : Act} {w : World} {Q : Exit → Act → World → Prop} (hw : Region.wanted o (yielded ops a.tmps) = true) (x y : Operand) (ts : Array TypeId)
    (ho : o.op = .call { callee := .builtin .min, args := #[x, y], argTypes := ts }) (m n q : Nat) (hq : min m n = q) (hx : a.eval x = .int .i64 (m : Int)) (hy : a.eval y = .int .i64 (n : Int))
    (h : wpList P ops Q rest (a.put o.dst (.int .i64 (q : Int))) w) : wpList P ops Q (o :: rest) a w := by
  subst hq
  refine BigFrame.wpList_want hw fun K hK => ?_
  have e : (if (n : Int) < (m : Int) then (n : Int) else (m : Int)) = ((min m n : Nat) : Int) := by split <;> omega
  have hr := run_min_int2 (P := P) w ts o.type .i64 .i64 (m : Int) (n : Int)
  rw [e] at hr
  unfold Oper.wp execOp
  simp only [ho, resolve, invoke, builtin, Sem.run_bind, Sem.run_pure, Result.andThen_ok, List.map_toArray, List.map_cons, List.map_nil, hx, hy, hr]
  exact hK _ _ h

theorem wpList_shr {P : Program} {ops : Array Oper} {rest : List Oper} {o : Oper} {a : Act} {w : World} {Q : Exit → Act → World → Prop} (hw : Region.wanted o (yielded ops a.tmps) = true) (x y : Operand) (t t' : TypeId)
    (ho : o.op = .binOp .shr t x y t') (k k' : IntKind) (m n q : Nat) (hx : a.eval x = .int k (m : Int)) (hy : a.eval y = .int k' (n : Int)) (hn : n ≤ k.bits) (hq : m / 2 ^ n = q)
    (h : wpList P ops Q rest (a.put o.dst (.int k (q : Int))) w) : wpList P ops Q (o :: rest) a w := by
  subst hq
  refine BigFrame.wpList_want hw fun K hK => ?_
  have h0 : ¬ ((n : Int) < 0) := by omega
  have hm : min n k.bits = n := by omega
  have hd : (m : Int).fdiv (2 ^ n) = ((m / 2 ^ n : Nat) : Int) := by rw [Int.fdiv_eq_ediv_of_nonneg _ (Int.le_of_lt (Int.pow_pos (by decide)))]; simp
  have hr : (execOp a.eval o).run P w = .ok (.value (.int k ((m / 2 ^ n : Nat) : Int))) w := by
    simp only [execOp, ho, hx, hy, binOp_shr, Op.shift, if_neg h0, Int.toNat_natCast, hm, hd, eqGuard]
    rfl
  unfold Oper.wp
  rw [hr]
  exact hK _ _ h

theorem wpList_make_bytes {ops : Array Oper} {rest : List Oper} {o : Oper} {a : Act} {w : World} {Q : Exit → Act → World → Prop} (hw : Region.wanted o (yielded ops a.tmps) = true) (x y : Operand) (ho : o.op = .makeSlice 23 x y)
    (n : Nat) (hx : a.eval x = .int .i64 (n : Int)) (hy : a.eval y = .int .i64 (n : Int)) (hn : n < 1099511627776)
    (h : ∀ w', Row w' w.heap.size (.slice (some ⟨w.heap.size, 0, none⟩) n n) (List.replicate n 0) → Kept (fun _ => False) w w' → wpList Try.prog ops Q rest (a.put o.dst (.slice (some ⟨w.heap.size, 0, none⟩) n n)) w') : wpList Try.prog ops Q (o :: rest) a w := by
  refine BigFrame.wpList_want hw fun K hK => ?_
  have hr := run_make_bytes w .i64 .i64 n hn
  unfold Oper.wp execOp
  simp only [ho, Sem.run_bind, Sem.run_pure, Result.andThen_ok, hx, hy, hr]
  exact hK _ _ (h _ (row_zeros w _ n (Nat.le_refl _) hn) ((Kept.refl _ _).alloc _))
end Go.Proofs.Ytikblokigeabjaa
