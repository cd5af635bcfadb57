/- The document's reader: what its Fixed answers. -/
import Derived.Test.YtipimcnjcpckeaaDoorRf2
import Derived.Test.YtipimcnjcpckeaaDoorArgs
namespace Go.Proofs.YtipimcnjcpckeaaDoor
open Go.RowKit

/-- All bits of bytes. -/
def bitsOf (l : List Nat) : List Bool := (List.range (8 * l.length)).map (bitAt l)

theorem bitsOf_length (l : List Nat) : (bitsOf l).length = 8 * l.length := by simp [bitsOf]
theorem bitsOf_getD (l : List Nat) (i : Nat) (h : i < 8 * l.length) : (bitsOf l).getD i false = bitAt l i := by simp [bitsOf, List.getD, h]

/-- At block x lies the document's reader. -/
def RfAt (w : World) (x : Nat) (l : List Nat) (a : Nat) (lost : Bool) : Prop :=
  w.heap[x]? = some (.cells #[.string (strOf (bitsOf l)), .int .i64 (a : Int), .bool lost] 40 (0, 0))

theorem RfAt.facts {w : World} {x : Nat} {l : List Nat} {a : Nat} {lost : Bool} (h : RfAt w x l a lost) :
    w.cell? ⟨x, 0, none⟩ = some (.string (strOf (bitsOf l))) ∧ w.cell? ⟨x, 1, none⟩ = some (.int .i64 (a : Int)) ∧ w.cell? ⟨x, 2, none⟩ = some (.bool lost) ∧ w.frozen? ⟨x, 1, none⟩ = false ∧ w.frozen? ⟨x, 2, none⟩ = false :=
  ⟨by rw [cell_of_heap h]; rfl, by rw [cell_of_heap h]; rfl, by rw [cell_of_heap h]; rfl, frozen_of_heap h, frozen_of_heap h⟩

theorem RfAt.setAt {w : World} {x : Nat} {l : List Nat} {a : Nat} {lost : Bool} (h : RfAt w x l a lost) (n : Nat) (y : Int) (hy : y = (n : Int)) : RfAt (w.setCell ⟨x, 1, none⟩ (.int .i64 y)) x l n lost := by
  subst hy; unfold RfAt; rw [heap_setCell_same _ x 1 _ h]; simp

theorem RfAt.setLost {w : World} {x : Nat} {l : List Nat} {a : Nat} {lost : Bool} (h : RfAt w x l a lost) (b : Bool) : RfAt (w.setCell ⟨x, 2, none⟩ (.bool b)) x l a b := by
  unfold RfAt; rw [heap_setCell_same _ x 2 _ h]; simp

theorem RfAt.kept {S : Nat → Prop} {w w' : World} {x : Nat} {l : List Nat} {a : Nat} {lost : Bool} (h : RfAt w x l a lost) (k : Kept S w w') (hx : ¬ S x) : RfAt w' x l a lost := k.at h hx

def RfIs (w : World) (x : Nat) (l : List Nat) (st : Option Nat) : Prop :=
  match st with
  | some a => a ≤ 8 * l.length ∧ RfAt w x l a false
  | none => ∃ a, a ≤ 8 * l.length ∧ RfAt w x l a true

/-- What a call of the document's reader leaves. -/
def RfDone (w : World) (x : Nat) (l : List Nat) (r : Int × Option Nat) (e : Ending) (w' : World) : Prop :=
  e = .returned (.int .i64 r.1) ∧ RfIs w' x l r.2 ∧ Kept (· = x) w w'

theorem chr_val (bs : List Bool) (i : Nat) (h : i < (strOf bs).size) : (((strOf bs)[i]'h).toNat : Int) = 48 + ((bs.getD i false).toNat : Int) := by
  have hi : i < bs.length := by rwa [strOf_size] at h
  have e : (strOf bs)[i]'h = chr bs[i] := by
    show ((bs.map chr).toArray)[i]'(by simpa using hi) = _
    simp
  rw [e]
  simp only [List.getD, List.getElem?_eq_getElem hi, Option.getD_some]
  cases bs[i] <;> rfl

set_option maxHeartbeats 1000000 in
theorem rf_fixed_lost (x : Nat) (l : List Nat) (a : Nat) (k : Int) (w : World) (ha : a ≤ 8 * l.length) (h : RfAt w x l a true) :
    Calls Tryd.prog 49 #[.pointer (some ⟨x, 0, none⟩), .int .i64 k] w (RfDone w x l (0, none)) := by
  obtain ⟨h0, h1, h2, f1, f2⟩ := h.facts
  have H0 := Lib.hid h; clear h h0 h1 f1
  go_enter Tryd.func49, Tryd.ntmps49
  go_wp2_with (fail)
  go_quiet (fail)
  go_wp2
  go_ret
  refine ⟨rfl, ⟨a, ha, ?_⟩, ?_⟩
  · exact (H0.out.kept ((Kept.refl (fun _ => False) _).drewN _) id).setLost true
  · exact ((Kept.refl (· = x) _).drewN _).setCell _ (fun _ => rfl) _

set_option maxHeartbeats 1000000 in
theorem rf_fixed_bad (x : Nat) (l : List Nat) (a : Nat) (k : Int) (w : World) (ha : a ≤ 8 * l.length) (hlen : l.length ≤ 1000) (h : RfAt w x l a false) (hk : k < 0 ∨ 32 < k ∨ 8 * (l.length : Int) < a + k) :
    Calls Tryd.prog 49 #[.pointer (some ⟨x, 0, none⟩), .int .i64 k] w (RfDone w x l (0, none)) := by
  obtain ⟨h0, h1, h2, f1, f2⟩ := h.facts
  have H0 := Lib.hid h; clear h f1
  have hsz : (strOf (bitsOf l)).size = 8 * l.length := by rw [strOf_size, bitsOf_length]
  generalize strOf (bitsOf l) = s at *
  by_cases k0 : k < 0
  · have d0 : decide (k < 0) = true := by simpa using k0
    go_enter Tryd.func49, Tryd.ntmps49
    go_wp2_with (fail)
    go_quiet (fail)
    go_wp2
    go_ret
    refine ⟨rfl, ⟨a, ha, ?_⟩, ?_⟩
    · exact (H0.out.kept ((Kept.refl (fun _ => False) _).drewN _) id).setLost true
    · exact ((Kept.refl (· = x) _).drewN _).setCell _ (fun _ => rfl) _
  have d0 : decide (k < 0) = false := by simpa using k0
  by_cases k1 : 32 < k
  · have d1 : decide (32 < k) = true := by simpa using k1
    go_enter Tryd.func49, Tryd.ntmps49
    go_wp2_with (fail)
    go_quiet (fail)
    go_wp2
    go_ret
    refine ⟨rfl, ⟨a, ha, ?_⟩, ?_⟩
    · exact (H0.out.kept ((Kept.refl (fun _ => False) _).drewN _) id).setLost true
    · exact ((Kept.refl (· = x) _).drewN _).setCell _ (fun _ => rfl) _
  have d1 : decide (32 < k) = false := by simpa using k1
  have hk2 : 8 * (l.length : Int) < a + k := by omega
  have d2 : decide (8 * (l.length : Int) < (a : Int) + k) = true := by simpa using hk2
  have hw : IntKind.i64.wrap ((a : Int) + k) = (a : Int) + k := by rw [IntKind.wrap_i64]; omega
  go_enter Tryd.func49, Tryd.ntmps49
  go_wp2_with (fail)
  go_quiet (fail)
  go_wp2
  go_ret
  refine ⟨rfl, ⟨a, ha, ?_⟩, ?_⟩
  · exact (H0.out.kept ((Kept.refl (fun _ => False) _).drewN _) id).setLost true
  · exact ((Kept.refl (· = x) _).drewN _).setCell _ (fun _ => rfl) _

end Go.Proofs.YtipimcnjcpckeaaDoor
