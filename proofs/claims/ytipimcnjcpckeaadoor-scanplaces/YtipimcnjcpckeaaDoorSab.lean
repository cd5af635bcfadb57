/- Arrays of truths in a walk by slots. -/
import Derived.Test.YtipimcnjcpckeaaDoorSa
import Derived.Test.YtipimcnjcpckeaaDoorSs
namespace Go.Proofs.YtipimcnjcpckeaaDoor
open Go.RowKit

def boolL (n : Nat) (b : Nat → Bool) : List Value := (List.range n).map fun i => .bool (b i)
theorem boolL_length (n : Nat) (b : Nat → Bool) : (boolL n b).length = n := by simp [boolL]
theorem boolL_at {n : Nat} {b : Nat → Bool} {i : Nat} (h : i < n) : (boolL n b)[i]? = some (.bool (b i)) := by
  unfold boolL
  rw [List.getElem?_map, List.getElem?_range h]; rfl
theorem boolL_one (n : Nat) (b : Nat → Bool) : ∀ u ∈ boolL n b, u.oneCell' = true := by
  intro u hu
  obtain ⟨x, _, rfl⟩ := List.mem_map.1 hu
  rfl
theorem boolL_congr {n : Nat} {b c : Nat → Bool} (h : ∀ i, i < n → b i = c i) : boolL n b = boolL n c := by
  unfold boolL
  apply List.map_congr_left
  intro i hi
  rw [h i (by simpa using hi)]
def updb (b : Nat → Bool) (k : Nat) (x : Bool) : Nat → Bool := fun i => if i = k then x else b i
theorem boolL_set (n : Nat) (b : Nat → Bool) (k : Nat) (x : Bool) : (boolL n b).toArray.setIfInBounds k (.bool x) = (boolL n (updb b k x)).toArray := by
  rw [List.setIfInBounds_toArray]
  congr 1
  apply List.ext_getElem?
  intro i
  unfold boolL updb
  rw [List.getElem?_set]
  simp only [List.length_map, List.length_range, List.getElem?_map]
  by_cases h : k = i
  · subst h
    by_cases hk : k < n
    · simp [hk]
    · simp [hk]
  · rw [if_neg h]
    by_cases hi : i < n
    · rw [List.getElem?_range hi]
      simp [Ne.symm h]
    · rw [List.getElem?_eq_none (by simp; omega)]; rfl
theorem boolL_zero (n : Nat) : (boolL n (fun _ => false)).toArray = Array.replicate n (.bool false) := by
  unfold boolL
  apply Array.ext'
  rw [Array.toList_replicate]
  show List.map (fun _ => Value.bool false) (List.range n) = _
  rw [List.map_const', List.length_range]

def Arb (w : World) (p : Nat) (t : TypeId) (n : Nat) (b : Nat → Bool) : Prop := w.heap[p]? = some (.cells (boolL n b).toArray t (0, 0))
def ArbT (t : TypeId) (n : Nat) : Prop := Tryd.prog.underlying t = some (.array n 4) ∧ (Tryd.prog.info? t).map (·.size) = some n ∧ ∀ w, (zeroValue t).run Tryd.prog w = .ok (.agg (boolL n (fun _ => false)).toArray) w
theorem ArbT.of {t : TypeId} {n : Nat} (hu : Tryd.prog.underlying t = some (.array n 4)) (hi : (Tryd.prog.info? t).map (fun i => (i.zero, i.size)) = some (some (.agg (Array.replicate n (.bool false))), n)) : ArbT t n :=
  ⟨hu, (zero_of_info hi).2, by rw [boolL_zero]; exact (zero_of_info hi).1⟩
theorem ArbT.size {t : TypeId} {n : Nat} (h : ArbT t n) (b : Nat → Bool) : (Tryd.prog.info? t).map (·.size) = some (boolL n b).toArray.size := by rw [List.size_toArray, boolL_length]; exact h.2.1

section
variable {w w' : World} {p n : Nat} {t : TypeId} {b c : Nat → Bool}
theorem Arb.all {S : Nat → Prop} (h : Arb w p t n b) (k : Kept S w w') (hn : ¬ S p) : Arb w' p t n b := k.at h hn
theorem Arb.congr (h : Arb w p t n b) (e : ∀ i, i < n → b i = c i) : Arb w p t n c := by unfold Arb at *; rw [← boolL_congr e]; exact h
theorem Arb.cell (h : Arb w p t n b) {i : Nat} (hi : i < n) : w.cell? ⟨p, i, none⟩ = some (.bool (b i)) := by
  rw [cell_of_heap h, List.getElem?_toArray]; exact boolL_at hi
theorem Arb.free (h : Arb w p t n b) (i : Nat) : w.frozen? ⟨p, i, none⟩ = false := frozen_of_heap h
theorem Arb.lt (h : Arb w p t n b) : p < w.heap.size := lt_of_heap h
theorem Arb.set (h : Arb w p t n b) (k : Nat) (x : Bool) : Arb (w.setCell ⟨p, k, none⟩ (.bool x)) p t n (updb b k x) := by
  unfold Arb; rw [heap_setCell_same _ _ _ _ h, boolL_set]
theorem Arb.new (w : World) (t : TypeId) (n : Nat) (b : Nat → Bool) : Arb (w.alloc (.cells (boolL n b).toArray t)) w.heap.size t n b := heap_alloc_new w _
end

section
variable {ro : Option Nat} {P : Program} {N : Nat} {Q : (Exit → (Nat → Value) → World → Prop)} {F : Nat → Value} {w : World} {n : Nat}
theorem wl_box_arb {ops : Array Oper} {o : Oper} {rest : List Oper} {t : TypeId} {x : Operand} {b : Nat → Bool} (hg : o.guard = none) (hd : fits N o.dst = true) (ho : o.op = .box t x) (hx : ev (cutF N F) x = .agg (boolL n b).toArray)
    (h : ∀ p w', p = w.heap.size → Arb w' p t n b → Kept (fun _ => False) w w' → wl ro P N ops Q rest (putF F o.dst (.pointer (some ⟨p, 0, none⟩))) w') : wl ro P N ops Q (o :: rest) F w :=
  wl_op hg hd (y_of (v := .pointer (some ⟨w.heap.size, 0, none⟩)) (w' := w.alloc (.cells (boolL n b).toArray t)) (by simp [execOp, ho, hx, go_sem]) (h _ _ rfl (Arb.new w t n b) ((Kept.refl _ _).alloc _)))
theorem wl_alloc_arb {ops : Array Oper} {o : Oper} {rest : List Oper} {t : TypeId} (hg : o.guard = none) (hd : fits N o.dst = true) (ho : o.op = .alloc t) (hz : ∀ w, (zeroValue t).run P w = .ok (.agg (boolL n (fun _ => false)).toArray) w)
    (h : ∀ p w', p = w.heap.size → Arb w' p t n (fun _ => false) → Kept (fun _ => False) w w' → wl ro P N ops Q rest (putF F o.dst (.pointer (some ⟨p, 0, none⟩))) w') : wl ro P N ops Q (o :: rest) F w :=
  wl_op hg hd (y_of (v := .pointer (some ⟨w.heap.size, 0, none⟩)) (w' := w.alloc (.cells (boolL n (fun _ => false)).toArray t)) (by simp [execOp, ho, hz, go_sem]) (h _ _ rfl (Arb.new w t n _) ((Kept.refl _ _).alloc _)))
end

section
variable {ro : Option Nat} {N : Nat} {Q : (Exit → (Nat → Value) → World → Prop)} {F : Nat → Value} {w : World} {ρ : Operand → Value} {o : Oper} {R : Value → World → Prop} {n : Nat}
theorem y_load_arb {ty t : TypeId} {x : Operand} {p : Nat} {b : Nat → Bool} (hT : ArbT ty n) (ho : o.op = .load ty x) (hx : ρ x = .pointer (some ⟨p, 0, none⟩)) (hB : Arb w p t n b) (h : R (.agg (boolL n b).toArray) w) : Yields Tryd.prog ρ o w R :=
  y_load_row ho p hx _ t (0, 0) _ hB hT.1 rfl (hT.size b) h
theorem wl_store_arb {ops : Array Oper} {rest : List Oper} {ty t : TypeId} {x y : Operand} {p : Nat} {b c : Nat → Bool} (hT : ArbT ty n) (hg : o.guard = none) (hdn : o.dst = none) (ho : o.op = .store ty x y) (hx : ev (cutF N F) x = .pointer (some ⟨p, 0, none⟩)) (hy : ev (cutF N F) y = .agg (boolL n c).toArray) (hB : Arb w p t n b)
    (h : ∀ w', Arb w' p t n c → Kept (fun k => k = p) w w' → wl ro Tryd.prog N ops Q rest F w') : wl ro Tryd.prog N ops Q (o :: rest) F w := by
  refine wl_op hg (by rw [hdn]; rfl) (y_store_row ty x y ho p _ (boolL n c).toArray t hx hy hB (by rw [List.size_toArray, List.size_toArray, boolL_length, boolL_length]) (hT.size c) (all_oneCell_toArray (boolL_one _ _)) fun w' hw hk => ?_)
  rw [hdn]
  exact h w' hw hk
theorem wl_set_arb {ops : Array Oper} {rest : List Oper} {ty t : TypeId} {x y : Operand} {p k : Nat} {m : Bool} {b : Nat → Bool} (hg : o.guard = none) (hdn : o.dst = none) (ho : o.op = .store ty x y) (hx : ev (cutF N F) x = .pointer (some ⟨p, k, none⟩)) (hy : ev (cutF N F) y = .bool m) (hB : Arb w p t n b) (hk : k < n)
    (hs : (Tryd.prog.info? ty).map (·.size) = some 1)
    (h : ∀ w', Arb w' p t n (updb b k m) → Kept (fun k => k = p) w w' → wl ro Tryd.prog N ops Q rest F w') : wl ro Tryd.prog N ops Q (o :: rest) F w := by
  have hc := hB.cell hk
  have hf := hB.free k
  cases hq : Tryd.prog.info? ty with
  | none => simp [hq] at hs
  | some i =>
    have hs' : i.size = 1 := by simpa [hq] using hs
    refine wl_op hg (by rw [hdn]; rfl) ?_
    have e : (execOp (ev (cutF N F)) o).run Tryd.prog w = .ok .skip (w.setCell ⟨p, k, none⟩ (.bool m)) ∨ (execOp (ev (cutF N F)) o).run Tryd.prog w = .ok (.value undef) (w.setCell ⟨p, k, none⟩ (.bool m)) := by
      simp [execOp, ho, hx, hy, Instr.storeAt, Instr.sureAddr, storeVar, sizeOf, typeInfo, hq, hs', Value.cells, hc, hf, go_sem]
    unfold Yields
    rw [hdn]
    rcases e with e | e <;> rw [e] <;> exact h _ (hB.set k m) ((Kept.refl (fun k => k = p) w).setCell ⟨p, k, none⟩ (fun _ => rfl) _)
end
end Go.Proofs.YtipimcnjcpckeaaDoor
