/- The closure that tells one unit a call. -/
import Derived.Test.YtjhghgdmjajekaaFd
namespace Go.Proofs.Ytjhghgdmjajekaa
open Go.RowKit

/-- The closure's own blocks: where it is, and the bytes. -/
def Cur (w : World) (pa pb : Nat) (v : Value) (p : Nat) : Prop := w.heap[pa]? = some (.cells #[.int .i64 (p : Int)] 3 (0, 0)) ∧ w.heap[pb]? = some (.cells #[v] 22 (0, 0))

theorem Cur.ne {w : World} {pa pb p : Nat} {v : Value} (h : Cur w pa pb v p) : pa ≠ pb := by
  rintro rfl
  have := h.1.symm.trans h.2
  simp at this

def Cl (w0 w : World) (pa pb : Nat) (v : Value) (p : Nat) : Prop := Cur w pa pb v p ∧ w0.heap.size ≤ pa ∧ w0.heap.size ≤ pb ∧ Kept (fun _ => False) w0 w

theorem Cl.all {w0 w w' : World} {pa pb p : Nat} {v : Value} (h : Cl w0 w pa pb v p) (k : Kept (fun _ => False) w w') : Cl w0 w' pa pb v p :=
  ⟨⟨k.at h.1.1 id, k.at h.1.2 id⟩, h.2.1, h.2.2.1, h.2.2.2.trans k (fun _ _ x => x)⟩

/-- The closure as a value. -/
def nextFn (pa pb : Nat) : Value := .func (.func 24) #[] #[.pointer (some ⟨pa, 0, none⟩), .pointer (some ⟨pb, 0, none⟩)]

theorem units_any (a : Option Addr) (n cap : Nat) (w : World) :
    Calls Try.prog 23 #[.slice a n cap] w fun e w' => e = .returned (nextFn (w.heap.size + 1) w.heap.size) ∧ Cl w w' (w.heap.size + 1) w.heap.size (.slice a n cap) 0 := by
  have hcl : Cl w ((w.alloc (.cells #[.slice a n cap] 22)).alloc (.cells #[.int .i64 0] 3)) (w.heap.size + 1) w.heap.size (.slice a n cap) 0 := by
    refine ⟨⟨?_, ?_⟩, by omega, Nat.le_refl _, ((Kept.refl _ _).alloc _).alloc _⟩
    · have e := heap_alloc_new (w.alloc (.cells #[.slice a n cap] 22)) (.cells #[.int .i64 0] 3)
      have es : (w.alloc (.cells #[.slice a n cap] 22)).heap.size = w.heap.size + 1 := by simp
      rw [es] at e
      exact e
    · have e := heap_alloc_new w (.cells #[.slice a n cap] 22)
      exact (Below.heap_alloc _ _ _ (by simp)).trans e
  have HCL := Lib.hid hcl; clear hcl
  go_enter Try.func23, Try.ntmps23
  go_wp2
  go_ret
  exact ⟨rfl, HCL.out⟩

theorem next_end (w0 : World) (pa pb : Nat) (a : Option Addr) (n cap : Nat) (w : World) (h : Cl w0 w pa pb (.slice a n cap) n) :
    Calls Try.prog 24 #[.pointer (some ⟨pa, 0, none⟩), .pointer (some ⟨pb, 0, none⟩)] w fun e w' => e = .returned (.tuple #[.slice none 0 0, .bool false]) ∧ w = w' := by
  have c1 : w.cell? ⟨pa, 0, none⟩ = some (.int .i64 (n : Int)) := by rw [cell_of_heap h.1.1]; rfl
  have c2 : w.cell? ⟨pb, 0, none⟩ = some (.slice a n cap) := by rw [cell_of_heap h.1.2]; rfl
  clear h
  go_enter Try.func24, Try.ntmps24
  go_wp2
  go_ret2
  exact ⟨rfl, rfl⟩

theorem Cl.moved {w0 w : World} {pa pb p q : Nat} {v : Value} (h : Cl w0 w pa pb v p) : Cl w0 (w.setCell ⟨pa, 0, none⟩ (.int .i64 (q : Int))) pa pb v q := by
  refine ⟨⟨?_, ?_⟩, h.2.1, h.2.2.1, h.2.2.2.setCell _ (fun hlt => by have := h.2.1; simp at hlt; omega) _⟩
  · rw [heap_setCell_same w pa 0 _ h.1.1]; rfl
  · rw [heap_setCell_other w pa 0 pb _ (Ne.symm h.1.ne)]; exact h.1.2

set_option maxHeartbeats 1000000 in
theorem next_some (w0 : World) (pa pb : Nat) (a : Option Addr) (n cap p : Nat) (l : List Nat) (w : World) (h : Cl w0 w pa pb (.slice a n cap) p) (hb : BytesArg w0 (.slice a n cap) l) (hp : p + 3 ≤ n) (hl : n < 68719476736) :
    Calls Try.prog 24 #[.pointer (some ⟨pa, 0, none⟩), .pointer (some ⟨pb, 0, none⟩)] w
      fun e w' => ∃ v, e = .returned (.tuple #[v, .bool true]) ∧ BytesArg w0 v ((l.drop (p + 3)).take (far (l.drop (p + 3)))) ∧ Cl w0 w' pa pb (.slice a n cap) (p + 3 + far (l.drop (p + 3))) ∧ Kept (fun k => k = pa) w w' := by
  have c1 : w.cell? ⟨pa, 0, none⟩ = some (.int .i64 (p : Int)) := by rw [cell_of_heap h.1.1]; rfl
  have c2 : w.cell? ⟨pb, 0, none⟩ = some (.slice a n cap) := by rw [cell_of_heap h.1.2]; rfl
  have hln : l.length = n := by obtain ⟨a2, cap2, e, _⟩ := hb; cases e; rfl
  have hfl : far (l.drop (p + 3)) ≤ n - (p + 3) := by have := far_le (l.drop (p + 3)); simp at this; omega
  have hne : (((p : Nat) : Int) == (n : Int)) = false := by simp; omega
  have H := Lib.hid h; clear h
  have HB := Lib.hid hb; clear hb
  have HN := Lib.hid hln; clear hln
  go_enter Try.func24, Try.ntmps24
  go_wp2_with (fail)
  have hfd := find_any _ l (p + 3) w (HB.out.all H.out.2.2.2) (by rw [HN.out]; exact hp) (by rw [HN.out]; exact hl)
  have HFD := Lib.hid hfd; clear hfd
  rw [show (((p + 3 : Nat)) : Int) = (p : Int) + 3 by omega] at HFD
  refine HFD.out.mono ?_
  rintro e w1 ⟨rfl, k1⟩
  generalize hF : far (l.drop (p + 3)) = F at *
  have HF := Lib.hid hF; clear hF HFD c1 c2
  have H1 := Lib.hid (H.out.all k1)
  have K1 := Lib.hid k1; clear k1
  have c1 : w1.cell? ⟨pa, 0, none⟩ = some (.int .i64 (p : Int)) := by rw [cell_of_heap H1.out.1.1]; rfl
  have f1 : w1.frozen? ⟨pa, 0, none⟩ = false := frozen_of_heap H1.out.1.1
  have hq1 : p + 3 ≤ p + 3 + F := by omega
  have hq2 : p + 3 + F ≤ n := by omega
  generalize hQ : p + 3 + F = q at *
  have HQ := Lib.hid hQ; clear hQ
  have H2 := Lib.hid (H1.out.moved (q := q))
  have c2 : (w1.setCell ⟨pa, 0, none⟩ (.int .i64 (q : Int))).cell? ⟨pa, 0, none⟩ = some (.int .i64 (q : Int)) := by rw [cell_of_heap H2.out.1.1]; rfl
  have c3 : (w1.setCell ⟨pa, 0, none⟩ (.int .i64 (q : Int))).cell? ⟨pb, 0, none⟩ = some (.slice a n cap) := by rw [cell_of_heap H2.out.1.2]; rfl
  go_wp2_with (fail)
  have hcut := cut_any _ l (p + 3) q w0 (w1.setCell ⟨pa, 0, none⟩ (.int .i64 (q : Int))) HB.out hq1 (by rw [HN.out]; exact hq2)
  have HCut := Lib.hid hcut; clear hcut
  rw [show (((p + 3 : Nat)) : Int) = (p : Int) + 3 by omega] at HCut
  refine HCut.out.mono ?_
  rintro e w2 ⟨v2, rfl, hb2, rfl⟩
  have HB2 := Lib.hid hb2; clear hb2 HCut
  go_wp2
  go_ret2
  refine ⟨v2, rfl, ?_, ?_, Kept.setCell (S := fun k => k = pa) (K1.out.mono (fun _ _ x => x.elim)) _ (fun _ => rfl) _⟩
  · have := HB2.out
    rw [show q - (p + 3) = F by have := HQ.out; omega] at this
    rw [HF.out]; exact this
  · rw [HF.out, HQ.out]; exact H2.out
end Go.Proofs.Ytjhghgdmjajekaa
