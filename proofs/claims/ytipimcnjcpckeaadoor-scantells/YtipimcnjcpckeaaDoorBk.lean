/- Arrays of ints as values and in memory: an array is told by what it has at each place. -/
import Derived.Test.YtipimcnjcpckeaaDoorChecked
import Derived.Test.YtipimcnjcpckeaaDoorAr
import Derived.Laws.Tables
import Derived.ChangeKeysEq
namespace Go.Proofs.YtipimcnjcpckeaaDoor
open Go.RowKit

/-- An array's cells. -/
def arrL (n : Nat) (b : Nat → Int) : List Value := (List.range n).map fun i => .int .i64 (b i)

theorem arrL_length (n : Nat) (b : Nat → Int) : (arrL n b).length = n := by simp [arrL]

theorem arrL_at {n : Nat} {b : Nat → Int} {i : Nat} (h : i < n) : (arrL n b)[i]? = some (.int .i64 (b i)) := by
  unfold arrL
  rw [List.getElem?_map, List.getElem?_range h]; rfl

theorem arrL_one (n : Nat) (b : Nat → Int) : ∀ u ∈ arrL n b, u.oneCell' = true := by
  intro u hu
  obtain ⟨x, _, rfl⟩ := List.mem_map.1 hu
  rfl

theorem arrL_congr {n : Nat} {b c : Nat → Int} (h : ∀ i, i < n → b i = c i) : arrL n b = arrL n c := by
  unfold arrL
  apply List.map_congr_left
  intro i hi
  rw [h i (by simpa using hi)]

/-- One place told anew. -/
def upd (b : Nat → Int) (k : Nat) (x : Int) : Nat → Int := fun i => if i = k then x else b i

theorem arrL_set (n : Nat) (b : Nat → Int) (k : Nat) (x : Int) : (arrL n b).toArray.setIfInBounds k (.int .i64 x) = (arrL n (upd b k x)).toArray := by
  rw [List.setIfInBounds_toArray]
  congr 1
  apply List.ext_getElem?
  intro i
  unfold arrL upd
  rw [List.getElem?_set]
  simp only [List.length_map, List.length_range, List.getElem?_map]
  by_cases h : k = i
  · subst h
    by_cases hk : k < n
    · simp [hk]
    · simp [hk]
  · rw [if_neg h]
    by_cases hi : i < n
    · rw [List.getElem?_range hi]
      simp [Ne.symm h]
    · rw [List.getElem?_eq_none (by simp; omega)]; rfl

theorem arrL_zero (n : Nat) : (arrL n (fun _ => 0)).toArray = Array.replicate n (.int .i64 0) := by
  unfold arrL
  apply Array.ext'
  rw [Array.toList_replicate]
  show List.map (fun _ => Value.int .i64 0) (List.range n) = _
  rw [List.map_const', List.length_range]

/-- A block as a value. -/
def blkV (b : Nat → Int) : Value := .agg (arrL 16 b).toArray
theorem blkV_congr {b c : Nat → Int} (h : ∀ i, i < 16 → b i = c i) : blkV b = blkV c := by unfold blkV; rw [arrL_congr h]

/-- A block in memory. -/
def Blk (w : World) (p : Nat) (t : TypeId) (b : Nat → Int) : Prop := w.heap[p]? = some (.cells (arrL 16 b).toArray t (0, 0))

theorem Blk.all {w w' : World} {S : Nat → Prop} {p : Nat} {t : TypeId} {b : Nat → Int} (h : Blk w p t b) (k : Kept S w w') (hn : ¬ S p) : Blk w' p t b := k.at h hn
theorem Blk.congr {w : World} {p : Nat} {t : TypeId} {b c : Nat → Int} (h : Blk w p t b) (e : ∀ i, i < 16 → b i = c i) : Blk w p t c := by unfold Blk at *; rw [← arrL_congr e]; exact h
theorem Blk.cell {w : World} {p : Nat} {t : TypeId} {b : Nat → Int} (h : Blk w p t b) {i : Nat} (hi : i < 16) : w.cell? ⟨p, i, none⟩ = some (.int .i64 (b i)) := by
  rw [cell_of_heap h, List.getElem?_toArray]; exact arrL_at hi
theorem Blk.free {w : World} {p : Nat} {t : TypeId} {b : Nat → Int} (h : Blk w p t b) (i : Nat) : w.frozen? ⟨p, i, none⟩ = false := frozen_of_heap h
theorem Blk.lt {w : World} {p : Nat} {t : TypeId} {b : Nat → Int} (h : Blk w p t b) : p < w.heap.size := lt_of_heap h
theorem Blk.set {w : World} {p : Nat} {t : TypeId} {b : Nat → Int} (h : Blk w p t b) (k : Nat) (x : Int) : Blk (w.setCell ⟨p, k, none⟩ (.int .i64 x)) p t (upd b k x) := by
  unfold Blk; rw [heap_setCell_same _ _ _ _ h, arrL_set]
theorem Blk.other {w : World} {p q : Nat} {t : TypeId} {b : Nat → Int} (h : Blk w p t b) (k : Nat) (x : Value) (hq : p ≠ q) : Blk (w.setCell ⟨q, k, none⟩ x) p t b := by
  unfold Blk; rw [heap_setCell_other _ _ _ _ _ hq]; exact h
theorem Blk.new (w : World) (t : TypeId) (b : Nat → Int) : Blk (w.alloc (.cells (arrL 16 b).toArray t)) w.heap.size t b := heap_alloc_new w _
theorem Blk.alloc {w : World} {p : Nat} {t : TypeId} {b : Nat → Int} (h : Blk w p t b) (o : Obj) : Blk (w.alloc o) p t b := (Below.heap_alloc w o p h.lt).trans h

theorem Tryd.size_int : (Tryd.prog.info? 3).map (·.size) = some 1 := by kernel_rfl
theorem Tryd.info_blk : (Tryd.prog.info? 41).map (fun i => (i.zero, i.size)) = some (some (.agg (Array.replicate 16 (.int .i64 0))), 16) := by kernel_rfl
theorem Tryd.info_arr : (Tryd.prog.info? 22).map (fun i => (i.zero, i.size)) = some (some (.agg (Array.replicate 16 (.int .i64 0))), 16) := by kernel_rfl

/-- The two types of a block. -/
def BlkT (t : TypeId) : Prop := Tryd.prog.underlying t = some (.array 16 3) ∧ (Tryd.prog.info? t).map (·.size) = some 16 ∧ (∀ w, (zeroValue t).run Tryd.prog w = .ok (.agg (arrL 16 (fun _ => 0)).toArray) w)
theorem blkT_block : BlkT 41 := ⟨Tryd.underlying41, (zero_of_info Tryd.info_blk).2, by rw [arrL_zero]; exact (zero_of_info Tryd.info_blk).1⟩
theorem blkT_arr : BlkT 22 := ⟨Tryd.underlying22, (zero_of_info Tryd.info_arr).2, by rw [arrL_zero]; exact (zero_of_info Tryd.info_arr).1⟩
theorem BlkT.size {t : TypeId} (h : BlkT t) (b : Nat → Int) : (Tryd.prog.info? t).map (·.size) = some (arrL 16 b).toArray.size := by rw [List.size_toArray, arrL_length]; exact h.2.1

/-- Two blocks are held against each other. -/
theorem run_eqItems_ints {P : Program} {e : TypeId} (he : P.underlying e = some (.int .i64)) (hce : P.cellsOf e = 1) (w : World) (d n : Nat) (a b : Nat → Int) :
    ∀ (is : List Nat), (∀ i ∈ is, i < n) → (Op.eqItems (d + 1) e (P.cellsOf e) (arrL n a).toArray (arrL n b).toArray is).run P w = .ok (is.all fun i => a i == b i) w := by
  have hp : ∀ (c : Nat → Int) (i : Nat), i < n → (part e (arrL n c).toArray (i * P.cellsOf e)).run P w = .ok (.int .i64 (c i)) w := by
    intro c i hi
    have h1 : (arrL n c).toArray[i]? = some (.int .i64 (c i)) := by rw [List.getElem?_toArray]; exact arrL_at hi
    rw [hce, Nat.mul_one]
    simp [part, isAgg, run_underlying he, h1]
  intro is
  induction is with
  | nil => intro _; simp [Op.eqItems]
  | cons i is ih =>
    intro h
    have hi := h i (by simp)
    simp only [Op.eqItems, Sem.run_bind, hp a i hi, hp b i hi, Result.andThen_ok, run_equalIn_int w d e .i64 .i64 _ _ he]
    cases hab : a i == b i
    · simp [hab]
    · simp only [Bool.not_true, Bool.false_eq_true, if_false]
      rw [ih (fun j hj => h j (by simp [hj]))]
      simp [hab]

def sameB (a b : Nat → Int) : Bool := (List.range 16).all fun i => a i == b i
theorem sameB_iff {a b : Nat → Int} : sameB a b = true ↔ ∀ i, i < 16 → a i = b i := by
  unfold sameB
  rw [List.all_eq_true]
  constructor
  · intro h i hi; simpa using h i (by simpa using hi)
  · intro h i hi; simpa using h i (by simpa using hi)
theorem sameB_true {a b : Nat → Int} (h : ∀ i, i < 16 → a i = b i) : sameB a b = true := sameB_iff.2 h

theorem Tryd.cells_int : Tryd.prog.cellsOf 3 = 1 := by kernel_rfl
theorem run_eql_blk (t : TypeId) (ht : BlkT t) (w : World) (a b : Nat → Int) : (binOp .eql t (blkV a) (blkV b)).run Tryd.prog w = .ok (.bool (sameB a b)) w := by
  obtain ⟨i0, hi⟩ : ∃ i, Tryd.prog.info? 3 = some i := by
    have := Tryd.size_int
    cases h : Tryd.prog.info? 3 with
    | none => rw [h] at this; cases this
    | some i => exact ⟨i, rfl⟩
  unfold blkV
  rw [run_eql_struct, run_equalIn_array w 9999 _ _ ht.1 hi, run_eqItems_ints Tryd.underlying3 Tryd.cells_int w 9998 16 a b _ (fun i hi => by simpa using hi)]
  rfl

theorem Tryd.guard_blk : Tryd.prog.eqGuardType Tryd.prog.depth 41 = false := by kernel_rfl
theorem run_guard_blk (x y : Operand) (w : World) (a b : Nat → Int) : (eqGuard .eql 41 x y (blkV a) (blkV b)).run Tryd.prog w = .ok () w := run_eqGuard_agg w .eql _ x y _ _ Tryd.guard_blk
theorem run_neq_blk (t : TypeId) (ht : BlkT t) (w : World) (a b : Nat → Int) : (binOp .neq t (blkV a) (blkV b)).run Tryd.prog w = .ok (.bool (!sameB a b)) w := by
  obtain ⟨i0, hi⟩ : ∃ i, Tryd.prog.info? 3 = some i := by
    have := Tryd.size_int
    cases h : Tryd.prog.info? 3 with
    | none => rw [h] at this; cases this
    | some i => exact ⟨i, rfl⟩
  unfold blkV
  rw [run_neq_struct, run_equalIn_array w 9999 _ _ ht.1 hi, run_eqItems_ints Tryd.underlying3 Tryd.cells_int w 9998 16 a b _ (fun i hi => by simpa using hi)]
  rfl
theorem run_guardN_blk (x y : Operand) (w : World) (a b : Nat → Int) : (eqGuard .neq 41 x y (blkV a) (blkV b)).run Tryd.prog w = .ok () w := run_eqGuard_agg w .neq _ x y _ _ Tryd.guard_blk
theorem Tryd.guard_arr : Tryd.prog.eqGuardType Tryd.prog.depth 22 = false := by kernel_rfl
theorem run_guard_arr (op : BinOp) (x y : Operand) (w : World) (a b : Nat → Int) : (eqGuard op 22 x y (blkV a) (blkV b)).run Tryd.prog w = .ok () w := run_eqGuard_agg w op _ x y _ _ Tryd.guard_arr
end Go.Proofs.YtipimcnjcpckeaaDoor
