/- Arrays of ints, of any length, in a walk by slots; literals of arrays. -/
import Derived.Test.YtipimcnjcpckeaaDoorSb
namespace Go.Proofs.YtipimcnjcpckeaaDoor
open Go.RowKit

def Arr (w : World) (p : Nat) (t : TypeId) (n : Nat) (b : Nat → Int) : Prop := w.heap[p]? = some (.cells (arrL n b).toArray t (0, 0))
def ArrT (t : TypeId) (n : Nat) : Prop := Tryd.prog.underlying t = some (.array n 3) ∧ (Tryd.prog.info? t).map (·.size) = some n ∧ ∀ w, (zeroValue t).run Tryd.prog w = .ok (.agg (arrL n (fun _ => 0)).toArray) w
theorem ArrT.of {t : TypeId} {n : Nat} (hu : Tryd.prog.underlying t = some (.array n 3)) (hi : (Tryd.prog.info? t).map (fun i => (i.zero, i.size)) = some (some (.agg (Array.replicate n (.int .i64 0))), n)) : ArrT t n :=
  ⟨hu, (zero_of_info hi).2, by rw [arrL_zero]; exact (zero_of_info hi).1⟩
theorem ArrT.size {t : TypeId} {n : Nat} (h : ArrT t n) (b : Nat → Int) : (Tryd.prog.info? t).map (·.size) = some (arrL n b).toArray.size := by rw [List.size_toArray, arrL_length]; exact h.2.1

section
variable {w w' : World} {p n : Nat} {t : TypeId} {b c : Nat → Int}
theorem Arr.all {S : Nat → Prop} (h : Arr w p t n b) (k : Kept S w w') (hn : ¬ S p) : Arr w' p t n b := k.at h hn
theorem Arr.congr (h : Arr w p t n b) (e : ∀ i, i < n → b i = c i) : Arr w p t n c := by unfold Arr at *; rw [← arrL_congr e]; exact h
theorem Arr.cell (h : Arr w p t n b) {i : Nat} (hi : i < n) : w.cell? ⟨p, i, none⟩ = some (.int .i64 (b i)) := by
  rw [cell_of_heap h, List.getElem?_toArray]; exact arrL_at hi
theorem Arr.free (h : Arr w p t n b) (i : Nat) : w.frozen? ⟨p, i, none⟩ = false := frozen_of_heap h
theorem Arr.lt (h : Arr w p t n b) : p < w.heap.size := lt_of_heap h
theorem Arr.set (h : Arr w p t n b) (k : Nat) (x : Int) : Arr (w.setCell ⟨p, k, none⟩ (.int .i64 x)) p t n (upd b k x) := by
  unfold Arr; rw [heap_setCell_same _ _ _ _ h, arrL_set]
theorem Arr.new (w : World) (t : TypeId) (n : Nat) (b : Nat → Int) : Arr (w.alloc (.cells (arrL n b).toArray t)) w.heap.size t n b := heap_alloc_new w _
end

section
variable {ro : Option Nat} {P : Program} {N : Nat} {Q : (Exit → (Nat → Value) → World → Prop)} {F : Nat → Value} {w : World} {n : Nat}
theorem wl_box_arr {ops : Array Oper} {o : Oper} {rest : List Oper} {t : TypeId} {x : Operand} {b : Nat → Int} (hg : o.guard = none) (hd : fits N o.dst = true) (ho : o.op = .box t x) (hx : ev (cutF N F) x = .agg (arrL n b).toArray)
    (h : ∀ p w', p = w.heap.size → Arr w' p t n b → Kept (fun _ => False) w w' → wl ro P N ops Q rest (putF F o.dst (.pointer (some ⟨p, 0, none⟩))) w') : wl ro P N ops Q (o :: rest) F w :=
  wl_op hg hd (y_of (v := .pointer (some ⟨w.heap.size, 0, none⟩)) (w' := w.alloc (.cells (arrL n b).toArray t)) (by simp [execOp, ho, hx, go_sem]) (h _ _ rfl (Arr.new w t n b) ((Kept.refl _ _).alloc _)))
theorem wl_alloc_arr {ops : Array Oper} {o : Oper} {rest : List Oper} {t : TypeId} (hg : o.guard = none) (hd : fits N o.dst = true) (ho : o.op = .alloc t) (hz : ∀ w, (zeroValue t).run P w = .ok (.agg (arrL n (fun _ => 0)).toArray) w)
    (h : ∀ p w', p = w.heap.size → Arr w' p t n (fun _ => 0) → Kept (fun _ => False) w w' → wl ro P N ops Q rest (putF F o.dst (.pointer (some ⟨p, 0, none⟩))) w') : wl ro P N ops Q (o :: rest) F w :=
  wl_op hg hd (y_of (v := .pointer (some ⟨w.heap.size, 0, none⟩)) (w' := w.alloc (.cells (arrL n (fun _ => 0)).toArray t)) (by simp [execOp, ho, hz, go_sem]) (h _ _ rfl (Arr.new w t n _) ((Kept.refl _ _).alloc _)))
end

section
variable {ro : Option Nat} {N : Nat} {Q : (Exit → (Nat → Value) → World → Prop)} {F : Nat → Value} {w : World} {ρ : Operand → Value} {o : Oper} {R : Value → World → Prop} {n : Nat}
theorem y_load_arr {ty t : TypeId} {x : Operand} {p : Nat} {b : Nat → Int} (hT : ArrT ty n) (ho : o.op = .load ty x) (hx : ρ x = .pointer (some ⟨p, 0, none⟩)) (hB : Arr w p t n b) (h : R (.agg (arrL n b).toArray) w) : Yields Tryd.prog ρ o w R :=
  y_load_row ho p hx _ t (0, 0) _ hB hT.1 rfl (hT.size b) h
theorem wl_store_arr {ops : Array Oper} {rest : List Oper} {ty t : TypeId} {x y : Operand} {p : Nat} {b c : Nat → Int} (hT : ArrT ty n) (hg : o.guard = none) (hdn : o.dst = none) (ho : o.op = .store ty x y) (hx : ev (cutF N F) x = .pointer (some ⟨p, 0, none⟩)) (hy : ev (cutF N F) y = .agg (arrL n c).toArray) (hB : Arr w p t n b)
    (h : ∀ w', Arr w' p t n c → Kept (fun k => k = p) w w' → wl ro Tryd.prog N ops Q rest F w') : wl ro Tryd.prog N ops Q (o :: rest) F w := by
  refine wl_op hg (by rw [hdn]; rfl) (y_store_row ty x y ho p _ (arrL n c).toArray t hx hy hB (by rw [List.size_toArray, List.size_toArray, arrL_length, arrL_length]) (hT.size c) (all_oneCell_toArray (arrL_one _ _)) fun w' hw hk => ?_)
  rw [hdn]
  exact h w' hw hk
theorem wl_set_arr {ops : Array Oper} {rest : List Oper} {ty t : TypeId} {x y : Operand} {p k : Nat} {m : Int} {b : Nat → Int} (hg : o.guard = none) (hdn : o.dst = none) (ho : o.op = .store ty x y) (hx : ev (cutF N F) x = .pointer (some ⟨p, k, none⟩)) (hy : ev (cutF N F) y = .int .i64 m) (hB : Arr w p t n b) (hk : k < n)
    (hs : (Tryd.prog.info? ty).map (·.size) = some 1)
    (h : ∀ w', Arr w' p t n (upd b k m) → Kept (fun k => k = p) w w' → wl ro Tryd.prog N ops Q rest F w') : wl ro Tryd.prog N ops Q (o :: rest) F w := by
  have hc := hB.cell hk
  have hf := hB.free k
  cases hq : Tryd.prog.info? ty with
  | none => simp [hq] at hs
  | some i =>
    have hs' : i.size = 1 := by simpa [hq] using hs
    refine wl_op hg (by rw [hdn]; rfl) ?_
    have e : (execOp (ev (cutF N F)) o).run Tryd.prog w = .ok .skip (w.setCell ⟨p, k, none⟩ (.int .i64 m)) ∨ (execOp (ev (cutF N F)) o).run Tryd.prog w = .ok (.value undef) (w.setCell ⟨p, k, none⟩ (.int .i64 m)) := by
      simp [execOp, ho, hx, hy, Instr.storeAt, Instr.sureAddr, storeVar, sizeOf, typeInfo, hq, hs', Value.cells, hc, hf, go_sem]
    unfold Yields
    rw [hdn]
    rcases e with e | e <;> rw [e] <;> exact h _ (hB.set k m) ((Kept.refl (fun k => k = p) w).setCell ⟨p, k, none⟩ (fun _ => rfl) _)
end

section
variable {ro : Option Nat} {P : Program} {ρ : Operand → Value} {o : Oper} {w : World} {R : Value → World → Prop}
theorem y_buildL {t : TypeId} {l : List (Nat × Operand)} {l' : List (Nat × Value)} {cells : Array Value} {v : Value} (ho : o.op = .build t l.toArray) (hl : l.map (fun p => (p.1, ρ p.2)) = l') (hc : P.built t l' = some cells) (hv : .agg cells = v) (h : R v w) : Yields P ρ o w R := by
  subst hl
  exact y_buildR ho (by rw [← hc]; congr 1; simp) hv h
theorem bpN : ([] : List (Nat × Operand)).map (fun p => (p.1, ρ p.2)) = [] := rfl
theorem bpC {i : Nat} {x : Operand} {v : Value} {xs : List (Nat × Operand)} {vs : List (Nat × Value)} (h : ρ x = v) (h2 : xs.map (fun p => (p.1, ρ p.2)) = vs) : ((i, x) :: xs).map (fun p => (p.1, ρ p.2)) = (i, v) :: vs := by simp [h, ← h2]
end
end Go.Proofs.YtipimcnjcpckeaaDoor
