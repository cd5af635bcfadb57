/- Bytes that came in; a reader of the law's own. -/
import Derived.Test.YtipimcnjcpckeaaDoorWrB
import Derived.OpenShut
namespace Go.Proofs.YtipimcnjcpckeaaDoor
open Go.RowKit

theorem BytesArg.slice {w : World} {v : Value} {l : List Nat} (h : BytesArg w v l) : SliceOf w v l := by
  obtain ⟨a, cap, rfl, -, -, -, hl, hc⟩ := h
  refine ⟨a, cap, rfl, fun hpos => ?_⟩
  obtain ⟨b, off, rfl, hb, hcell⟩ := hc hpos
  refine ⟨⟨b, off, none⟩, rfl, fun j u hj => ?_⟩
  have hjl : j < l.length := by
    have := (List.getElem?_eq_some_iff.1 hj).1
    rwa [byteVals_length] at this
  rw [Addr.add_lit, hcell j hjl]
  rw [← hj]; simp [byteVals, List.getD, hjl]

theorem BytesArg.fair {w : World} {v : Value} {l : List Nat} (h : BytesArg w v l) (hl : l.length < 1099511627776) : Fair l := by
  exact ⟨h.lt256, hl⟩

/-- A reader that was made behind w0; of what was there in w0 nothing has turned. -/
def Rdr (w0 w : World) (p g : Nat) (l : List Nat) (st : Option Nat) : Prop := RdIs w p g l st ∧ w0.heap.size ≤ p ∧ w0.heap.size ≤ g ∧ Kept (fun _ => False) w0 w

theorem Rdr.done {w0 w w' : World} {p g : Nat} {l : List Nat} {st : Option Nat} {r : Int × Option Nat} {e : Ending} (h : Rdr w0 w p g l st) (hd : RdDone w p g l r e w') : e = .returned (.int .i64 r.1) ∧ Rdr w0 w' p g l r.2 := by
  obtain ⟨h1, h2, h3⟩ := hd
  exact ⟨h1, h2, h.2.1, h.2.2.1, h.2.2.2.trans h3 (fun i hi x => by have := h.2.1; omega)⟩

theorem Rdr.kept {w0 w w' : World} {p g : Nat} {l : List Nat} {st : Option Nat} (h : Rdr w0 w p g l st) (k : Kept (fun _ => False) w w') : Rdr w0 w' p g l st :=
  ⟨h.1.kept k id id, h.2.1, h.2.2.1, h.2.2.2.trans k (fun _ _ x => x)⟩

theorem rwhole_rdr {w0 w : World} {p g : Nat} {l : List Nat} {st : Option Nat} (m : Int) (hl : Fair l) (h : Rdr w0 w p g l st) :
    Calls Tryd.prog 26 #[.pointer (some ⟨p, 0, none⟩), .int .i64 m] w fun e w' => e = .returned (.int .i64 (rdStep (wholeRd l m) st).1) ∧ Rdr w0 w' p g l (rdStep (wholeRd l m) st).2 :=
  (rwhole_any p g l st m w hl h.1).mono fun _ _ hd => h.done hd

theorem rsigned_rdr {w0 w : World} {p g : Nat} {l : List Nat} {st : Option Nat} (m : Int) (hl : Fair l) (h : Rdr w0 w p g l st) :
    Calls Tryd.prog 33 #[.pointer (some ⟨p, 0, none⟩), .int .i64 m] w fun e w' => e = .returned (.int .i64 (rdStep (signedRd l m) st).1) ∧ Rdr w0 w' p g l (rdStep (signedRd l m) st).2 :=
  (rsigned_any p g l st m w hl h.1).mono fun _ _ hd => h.done hd

theorem done_rdr {w0 w : World} {p g : Nat} {l : List Nat} {st : Option Nat} (hl : Fair l) (h : Rdr w0 w p g l st) :
    Calls Tryd.prog 21 #[.pointer (some ⟨p, 0, none⟩)] w fun e w' => e = .returned (.int .i64 (doneOf l st)) ∧ Rdr w0 w' p g l st :=
  (done_any p g l st w hl h.1).mono fun _ _ ⟨a, n, b⟩ => ⟨a, by subst b; exact h.kept ((Kept.refl _ _).drewN n)⟩

theorem new_rdr {w0 w : World} {v : Value} {l : List Nat} (hl : l.length < 1099511627776) (hs : SliceOf w v l) (hk : Kept (fun _ => False) w0 w) :
    Calls Tryd.prog 17 #[v] w fun e w' => ∃ p g, e = .returned (.pointer (some ⟨p, 0, none⟩)) ∧ Rdr w0 w' p g l (some 0) ∧ w.heap.size ≤ p ∧ w.heap.size ≤ g ∧ Kept (fun _ => False) w w' :=
  (new_any v l w hl hs).mono fun _ _ ⟨p, g, a, b, c, d, k⟩ => ⟨p, g, a, ⟨b, by have := hk.size; omega, by have := hk.size; omega, hk.trans k (fun _ _ x => x)⟩, c, d, k⟩

theorem rdStep_next {l : List Nat} {a : Nat} (h : a < 8 * l.length) : rdStep (nextAt l) (some a) = (((bitAt l a).toNat : Int), some (a + 1)) := by
  simp [rdStep, nextAt, h]
theorem rdStep_next_end {l : List Nat} {a : Nat} (h : ¬ a < 8 * l.length) : rdStep (nextAt l) (some a) = (0, none) := by
  simp [rdStep, nextAt, h]

theorem bit_of_byte2 (x k : Nat) : bits BinOp.and IntKind.i64 ((x : Int) / 2 ^ k) 1 = ((x.testBit k).toNat : Int) := by
  rw [i64_and1]
  have e : ((x : Int) / 2 ^ k) = ((x / 2 ^ k : Nat) : Int) := by simp
  rw [e, Nat.toNat_testBit]; omega

end Go.Proofs.YtipimcnjcpckeaaDoor
