/- Blocks of ints in a walk by slots. -/
import Derived.Test.YtipimcnjcpckeaaDoorSf
import Derived.Test.YtipimcnjcpckeaaDoorBk
namespace Go.Proofs.YtipimcnjcpckeaaDoor
open Go.RowKit

theorem Blk.ne {w : World} {p q : Nat} {t : TypeId} {b : Nat → Int} (h : Blk w p t b) (e : q = w.heap.size) : p ≠ q := by have := h.lt; omega

/-- A block of these numbers, and 0. -/
def blL (l : List Int) : Nat → Int := fun i => l.getD i 0

section
variable {ro : Option Nat} {P : Program} {N : Nat} {Q : (Exit → (Nat → Value) → World → Prop)} {F : Nat → Value} {w : World}
theorem wl_box_blk {ops : Array Oper} {o : Oper} {rest : List Oper} {t : TypeId} {x : Operand} {b : Nat → Int} (hg : o.guard = none) (hd : fits N o.dst = true) (ho : o.op = .box t x) (hx : ev (cutF N F) x = blkV b)
    (h : ∀ p w', p = w.heap.size → Blk w' p t b → Kept (fun _ => False) w w' → wl ro P N ops Q rest (putF F o.dst (.pointer (some ⟨p, 0, none⟩))) w') : wl ro P N ops Q (o :: rest) F w :=
  wl_op hg hd (y_of (v := .pointer (some ⟨w.heap.size, 0, none⟩)) (w' := w.alloc (.cells (arrL 16 b).toArray t)) (by simp [execOp, ho, hx, blkV, go_sem]) (h _ _ rfl (Blk.new w t b) ((Kept.refl _ _).alloc _)))
theorem wl_alloc_blk {ops : Array Oper} {o : Oper} {rest : List Oper} {t : TypeId} (hg : o.guard = none) (hd : fits N o.dst = true) (ho : o.op = .alloc t) (hz : ∀ w, (zeroValue t).run P w = .ok (.agg (arrL 16 (fun _ => 0)).toArray) w)
    (h : ∀ p w', p = w.heap.size → Blk w' p t (fun _ => 0) → Kept (fun _ => False) w w' → wl ro P N ops Q rest (putF F o.dst (.pointer (some ⟨p, 0, none⟩))) w') : wl ro P N ops Q (o :: rest) F w :=
  wl_op hg hd (y_of (v := .pointer (some ⟨w.heap.size, 0, none⟩)) (w' := w.alloc (.cells (arrL 16 (fun _ => 0)).toArray t)) (by simp [execOp, ho, hz, go_sem]) (h _ _ rfl (Blk.new w t _) ((Kept.refl _ _).alloc _)))
end

section
variable {ro : Option Nat} {N : Nat} {Q : (Exit → (Nat → Value) → World → Prop)} {F : Nat → Value} {w : World} {ρ : Operand → Value} {o : Oper} {R : Value → World → Prop}
theorem y_load_blk {ty t : TypeId} {x : Operand} {p : Nat} {b : Nat → Int} (hT : BlkT ty) (ho : o.op = .load ty x) (hx : ρ x = .pointer (some ⟨p, 0, none⟩)) (hB : Blk w p t b) (h : R (blkV b) w) : Yields Tryd.prog ρ o w R :=
  y_load_row ho p hx _ t (0, 0) _ hB hT.1 rfl (hT.size b) h
theorem wl_store_blk {ops : Array Oper} {rest : List Oper} {ty t : TypeId} {x y : Operand} {p : Nat} {b c : Nat → Int} (hT : BlkT ty) (hg : o.guard = none) (hdn : o.dst = none) (ho : o.op = .store ty x y) (hx : ev (cutF N F) x = .pointer (some ⟨p, 0, none⟩)) (hy : ev (cutF N F) y = blkV c) (hB : Blk w p t b)
    (h : ∀ w', Blk w' p t c → Kept (fun k => k = p) w w' → wl ro Tryd.prog N ops Q rest F w') : wl ro Tryd.prog N ops Q (o :: rest) F w := by
  refine wl_op hg (by rw [hdn]; rfl) (y_store_row ty x y ho p _ (arrL 16 c).toArray t hx hy hB (by rw [List.size_toArray, List.size_toArray, arrL_length, arrL_length]) (hT.size c) (all_oneCell_toArray (arrL_one _ _)) fun w' hw hk => ?_)
  rw [hdn]
  exact h w' hw hk
theorem wl_set_blk {ops : Array Oper} {rest : List Oper} {ty t : TypeId} {x y : Operand} {p k : Nat} {n : Int} {b : Nat → Int} (hg : o.guard = none) (hdn : o.dst = none) (ho : o.op = .store ty x y) (hx : ev (cutF N F) x = .pointer (some ⟨p, k, none⟩)) (hy : ev (cutF N F) y = .int .i64 n) (hB : Blk w p t b) (hk : k < 16)
    (hs : (Tryd.prog.info? ty).map (·.size) = some 1)
    (h : ∀ w', Blk w' p t (upd b k n) → Kept (fun k => k = p) w w' → wl ro Tryd.prog N ops Q rest F w') : wl ro Tryd.prog N ops Q (o :: rest) F w := by
  have hc := hB.cell hk
  have hf := hB.free k
  cases hq : Tryd.prog.info? ty with
  | none => simp [hq] at hs
  | some i =>
    have hs' : i.size = 1 := by simpa [hq] using hs
    refine wl_op hg (by rw [hdn]; rfl) ?_
    have e : (execOp (ev (cutF N F)) o).run Tryd.prog w = .ok .skip (w.setCell ⟨p, k, none⟩ (.int .i64 n)) ∨ (execOp (ev (cutF N F)) o).run Tryd.prog w = .ok (.value undef) (w.setCell ⟨p, k, none⟩ (.int .i64 n)) := by
      simp [execOp, ho, hx, hy, Instr.storeAt, Instr.sureAddr, storeVar, sizeOf, typeInfo, hq, hs', Value.cells, hc, hf, go_sem]
    unfold Yields
    rw [hdn]
    rcases e with e | e <;> rw [e] <;> exact h _ (hB.set k n) ((Kept.refl (fun k => k = p) w).setCell ⟨p, k, none⟩ (fun _ => rfl) _)
theorem end_blk {fn : Func} {p : Tmp} {ty t : TypeId} {q : Nat} {b : Nat → Int} {R : Ending → World → Prop} (hT : BlkT ty) (hm : F N = undef) (ht : Nat.blt p N = true) (h : fn.results = #[.cell p ty]) (hp : F p = .pointer (some ⟨q, 0, none⟩)) (hB : Blk w q t b) (hR : R (.returned (blkV b)) w) : endP Tryd.prog fn N R .ret F w :=
  ⟨hm, fun a ha => ⟨_, results_cell h _ _ q (by rw [ha.at' p ht]; exact hp) _ t (0, 0) _ hB hT.1 rfl (hT.size b), hR⟩⟩
theorem res_blk {p : Tmp} {ty t : TypeId} {q : Nat} {b : Nat → Int} (hT : BlkT ty) (ht : Nat.blt p N = true) (hp : F p = .pointer (some ⟨q, 0, none⟩)) (hB : Blk w q t b) : ResOk Tryd.prog N F w (.cell p ty) (blkV b) :=
  ⟨ht, _, hp, run_loadVar_whole w q t ty _ (0, 0) _ hB hT.1 rfl (hT.size b)⟩
theorem y_sameR {t' : TypeId} {x y : Operand} {a b : Nat → Int} {c : Bool} (ho : o.op = .binOp .eql 41 x y t') (hx : ρ x = blkV a) (hy : ρ y = blkV b) (hr : sameB a b = c) (h : R (.bool c) w) : Yields Tryd.prog ρ o w R :=
  y_of (v := .bool (sameB a b)) (w' := w) (by simp only [execOp, ho, hx, hy, Sem.run_bind, run_guard_blk, run_eql_blk _ blkT_block, Result.andThen_ok, Sem.run_pure]) (by rw [hr]; exact h)
theorem y_diffR {t' : TypeId} {x y : Operand} {a b : Nat → Int} {c : Bool} (ho : o.op = .binOp .neq 41 x y t') (hx : ρ x = blkV a) (hy : ρ y = blkV b) (hr : (!sameB a b) = c) (h : R (.bool c) w) : Yields Tryd.prog ρ o w R :=
  y_of (v := .bool (!sameB a b)) (w' := w) (by simp only [execOp, ho, hx, hy, Sem.run_bind, run_guardN_blk, run_neq_blk _ blkT_block, Result.andThen_ok, Sem.run_pure]) (by rw [hr]; exact h)
theorem y_sameA {t' : TypeId} {x y : Operand} {a b : Nat → Int} {c : Bool} (ho : o.op = .binOp .eql 22 x y t') (hx : ρ x = blkV a) (hy : ρ y = blkV b) (hr : sameB a b = c) (h : R (.bool c) w) : Yields Tryd.prog ρ o w R :=
  y_of (v := .bool (sameB a b)) (w' := w) (by simp only [execOp, ho, hx, hy, Sem.run_bind, run_guard_arr, run_eql_blk _ blkT_arr, Result.andThen_ok, Sem.run_pure]) (by rw [hr]; exact h)
theorem y_diffA {t' : TypeId} {x y : Operand} {a b : Nat → Int} {c : Bool} (ho : o.op = .binOp .neq 22 x y t') (hx : ρ x = blkV a) (hy : ρ y = blkV b) (hr : (!sameB a b) = c) (h : R (.bool c) w) : Yields Tryd.prog ρ o w R :=
  y_of (v := .bool (!sameB a b)) (w' := w) (by simp only [execOp, ho, hx, hy, Sem.run_bind, run_guard_arr, run_neq_blk _ blkT_arr, Result.andThen_ok, Sem.run_pure]) (by rw [hr]; exact h)
theorem y_look {t : TypeId} {x y : Operand} {k : IntKind} (j : Nat) {a : Nat → Int} {r : Int} (ht : BlkT t) (ho : o.op = .index t x y) (hx : ρ x = blkV a) (hy : ρ y = .int k (j : Int)) (hj : j < 16) (hr : a j = r) (h : R (.int .i64 r) w) : Yields Tryd.prog ρ o w R := by
  subst hr
  have h1 : (arrL 16 a).toArray[j]? = some (.int .i64 (a j)) := by rw [List.getElem?_toArray]; exact arrL_at hj
  cases hq : Tryd.prog.info? 3 with
  | none => have := Tryd.size_int; simp [hq] at this
  | some i =>
    have hs' : i.size = 1 := by have := Tryd.size_int; simpa [hq] using this
    have hp : (part 3 (arrL 16 a).toArray j).run Tryd.prog w = .ok (.int .i64 (a j)) w := by simp [part, isAgg, run_underlying Tryd.underlying3, h1]
    exact y_of (v := .int .i64 (a j)) (w' := w) (by simp [execOp, ho, hx, hy, Instr.index, blkV, run_underlying ht.1, asIntOf, sizeOf, typeInfo, hq, hs', hj, hp]) h
end
end Go.Proofs.YtipimcnjcpckeaaDoor
