/- A reader's Done; New; and a reader's calls on none. -/
import Derived.Test.YtipimcnjcpckeaaDoorRd4
namespace Go.Proofs.YtipimcnjcpckeaaDoor
open Go.RowKit

/-- Whether the rest is a bit 1, and bits 0 up to the end of the last byte. -/
def endsAt (l : List Nat) (a : Nat) : Bool := decide (a / 8 + 1 = l.length ∧ l.getD (a / 8) 0 * 2 ^ (a % 8) % 256 = 128)

set_option maxHeartbeats 400000 in
theorem ended_rd (p g : Nat) (l : List Nat) (a : Nat) (w : World) (hl : Fair l) (h : RdAt w p g l a false) (ha : a ≤ 8 * l.length) :
    Calls Tryd.prog 37 #[.pointer (some ⟨p, 0, none⟩)] w fun e w' => e = .returned (.bool (endsAt l a)) ∧ ∃ n, w' = w.drewN n := by
  obtain ⟨h0, h1, -, -, -⟩ := h.facts
  have hlen := hl.2
  by_cases hq : a / 8 + 1 = l.length
  · have hx := h.byte (a / 8) (by omega)
    have hx256 := hl.getD (a / 8)
    have he : endsAt l a = (((l.getD (a / 8) 0 : Nat) : Int) * 2 ^ (a % 8) % 256 == 128) := by
      have e : ((l.getD (a / 8) 0 : Nat) : Int) * 2 ^ (a % 8) % 256 = ((l.getD (a / 8) 0 * 2 ^ (a % 8) % 256 : Nat) : Int) := by simp
      rw [e]
      unfold endsAt
      by_cases hh : l.getD (a / 8) 0 * 2 ^ (a % 8) % 256 = 128
      · rw [decide_eq_true ⟨hq, hh⟩, hh]; rfl
      · rw [decide_eq_false (fun x => hh x.2)]; exact (beq_eq_false_iff_ne.2 (by omega)).symm
    have HE := Lib.hid he; clear he
    clear h hl
    generalize hX : l.getD (a / 8) 0 = x at *
    have HX := Lib.hid hX; clear hX
    generalize hN : l.length = n at *
    have HN := Lib.hid hN; clear hN
    have hb : ((a : Int) / 8 == (n : Int) - 1) = true := by simp; omega
    have g1 : 0 ≤ (n : Int) - 1 := by omega
    have g2 : (n : Int) - 1 < n := by omega
    have g3 : ((n : Int) - 1).toNat = a / 8 := by omega
    have HQ := Lib.hid hq; clear hq
    go_enter Tryd.func37, Tryd.ntmps37
    go_wp2_with (fail)
    go_quiet (fail)
    go_wp2
    go_ret
    exact ⟨by rw [HE.out]; rfl, ⟨_, rfl⟩⟩
  · have he : endsAt l a = false := by unfold endsAt; exact decide_eq_false (fun x => hq x.1)
    have HE := Lib.hid he; clear he
    clear h hl
    generalize hN : l.length = n at *
    have HN := Lib.hid hN; clear hN
    have hb : ((a : Int) / 8 == (n : Int) - 1) = false := by simp; omega
    have HQ := Lib.hid hq; clear hq
    go_enter Tryd.func37, Tryd.ntmps37
    go_wp2_with (fail)
    go_quiet (fail)
    go_wp2
    go_ret
    exact ⟨by rw [HE.out]; rfl, ⟨_, rfl⟩⟩

def doneOf (l : List Nat) (st : Option Nat) : Int :=
  match st with
  | some a => if endsAt l a then 0 else 10
  | none => 10

set_option maxHeartbeats 400000 in
theorem done_any (p g : Nat) (l : List Nat) (st : Option Nat) (w : World) (hl : Fair l) (h : RdIs w p g l st) :
    Calls Tryd.prog 21 #[.pointer (some ⟨p, 0, none⟩)] w fun e w' => e = .returned (.int .i64 (doneOf l st)) ∧ ∃ n, w' = w.drewN n := by
  have HL := Lib.hid hl; clear hl
  cases st with
  | none =>
    obtain ⟨a, h⟩ := h
    obtain ⟨-, -, h2, -, -⟩ := h.facts
    clear h
    go_enter Tryd.func21, Tryd.ntmps21
    go_wp2_with (fail)
    go_ret
    exact ⟨rfl, ⟨0, rfl⟩⟩
  | some a =>
    obtain ⟨ha, h⟩ := h
    obtain ⟨-, -, h2, -, -⟩ := h.facts
    have H0 := Lib.hid h; clear h
    go_enter Tryd.func21, Tryd.ntmps21
    go_wp2_with (fail)
    refine (ended_rd p g l a _ HL.out H0.out ha).mono ?_
    rintro e w1 ⟨rfl, n, rfl⟩
    cases he : endsAt l a with
    | true =>
      have hd : doneOf l (some a) = 0 := by simp [doneOf, he]
      have HD := Lib.hid hd; clear hd he
      go_wp2
      go_ret
      exact ⟨by rw [HD.out]; rfl, ⟨_, rfl⟩⟩
    | false =>
      have hd : doneOf l (some a) = 10 := by simp [doneOf, he]
      have HD := Lib.hid hd; clear hd he
      go_wp2
      go_ret
      exact ⟨by rw [HD.out]; rfl, ⟨_, rfl⟩⟩

/-- A slice's bytes. -/
def SliceOf (w : World) (v : Value) (l : List Nat) : Prop :=
  ∃ a cap, v = .slice a l.length cap ∧ (0 < l.length → ∃ ad, a = some ad ∧ ∀ j u, (byteVals l)[j]? = some u → w.cell? (ad.add j) = some u)

set_option maxHeartbeats 400000 in
theorem new_any (v : Value) (l : List Nat) (w : World) (hl : l.length < 1099511627776) (hs : SliceOf w v l) :
    Calls Tryd.prog 17 #[v] w fun e w' => ∃ p g, e = .returned (.pointer (some ⟨p, 0, none⟩)) ∧ RdIs w' p g l (some 0) ∧ w.heap.size ≤ p ∧ w.heap.size ≤ g ∧ Kept (fun _ => False) w w' := by
  obtain ⟨a, cap, rfl, hsrc⟩ := hs
  have HS := Lib.hid hsrc; clear hsrc
  generalize hN : l.length = n at *
  have HN := Lib.hid hN; clear hN
  have hmk := fun wx : World => run_make_row' (P := Tryd.prog) 25 5 (.int .u8 0) 1 Tryd.underlying25 Tryd.info_u8 rfl .i64 .i64 n (by omega) (by omega) wx
  go_enter Tryd.func17, Tryd.ntmps17
  go_wp2_with (with_reducible refine wpList_copy_splice rfl (.tmp 7) (.tmp 8) 25 25 rfl 5 Tryd.underlying25 Tryd.size_u8 _ _ _ _ _ _ rfl rfl w.heap.size 0 (List.replicate n (.int .u8 0)) 5 ?hg (byteVals l) ?hn ?hpos ?hfit (oneCell_byteVals _) w.heap.size w ?hb (Nat.le_refl _) ?_)
  case hg => rw [madeCells_one]; exact heap_alloc_new w _
  case hn => rw [byteVals_length, HN.out]; simp
  case hpos =>
    intro h
    rw [byteVals_length, HN.out] at h
    obtain ⟨ad, rfl, hc⟩ := HS.out h
    refine ⟨ad, rfl, fun j u hj => ?_⟩
    have hc' := hc j u hj
    have hlt : (ad.add j).block < w.heap.size := World.block_lt_of_cell? w _ hc'
    rw [← hc']
    exact World.cell?_of_block (Below.heap_alloc _ _ _ hlt)
  case hfit => rw [byteVals_length, HN.out]; simp
  case hb => exact (Below.refl _ _).alloc (Nat.le_refl _) _
  intro w2 HG2 hB2
  have HB := Lib.hid hB2; clear hB2
  have hsz := lt_of_heap HG2.out
  go_wp2
  go_ret
  refine ⟨w2.heap.size, w.heap.size, rfl, ⟨Nat.zero_le _, ?_, ?_, by omega⟩, by omega, Nat.le_refl _, (Below.kept HB.out).alloc _⟩
  · rw [HN.out]; exact heap_alloc_new w2 _
  · rw [Below.heap_alloc _ _ _ hsz, HG2.out, splice_whole _ _ (by rw [byteVals_length, HN.out]; simp)]

/- The calls on none. -/

theorem attempt_nil (f : Value) (w : World) :
    Calls Tryd.prog 42 #[.pointer none, f] w fun e w' => e = .returned (.int .i64 0) ∧ Kept (fun _ => False) w w' := by
  go_enter_defers Tryd.func42, Tryd.ntmps42
  go_wp2_with (fail)
  refine (lost_nil _).mono ?_
  rintro e w1 ⟨rfl, rfl⟩
  go_wp2
  simp [bodyPostD, Leaves, results, Tryd.results42, go_sem]
  exact ((Kept.refl _ _).alloc _).alloc _

theorem rwhole_nil (m : Int) (w : World) : Calls Tryd.prog 26 #[.pointer none, .int .i64 m] w fun e w' => e = .returned (.int .i64 0) ∧ Kept (fun _ => False) w w' := by
  have hmf : ∀ (fn : Fn) (first cap : Array Value) (w : World), (Instr.makeFunc fn first cap).run Tryd.prog w = .ok (.func fn first cap) w := fun _ _ _ _ => rfl
  go_enter Tryd.func26, Tryd.ntmps26
  go_wp2_with (fail)
  refine (attempt_nil _ _).mono ?_
  rintro e w1 ⟨rfl, hk⟩
  have HK := Lib.hid ((((Kept.refl (fun _ => False) w).alloc _).alloc _).trans hk (fun _ _ x => x)); clear hk
  go_wp2
  go_ret
  exact ⟨rfl, HK.out⟩

theorem rsigned_nil (m : Int) (w : World) : Calls Tryd.prog 33 #[.pointer none, .int .i64 m] w fun e w' => e = .returned (.int .i64 0) ∧ Kept (fun _ => False) w w' := by
  have hmf : ∀ (fn : Fn) (first cap : Array Value) (w : World), (Instr.makeFunc fn first cap).run Tryd.prog w = .ok (.func fn first cap) w := fun _ _ _ _ => rfl
  go_enter Tryd.func33, Tryd.ntmps33
  go_wp2_with (fail)
  refine (attempt_nil _ _).mono ?_
  rintro e w1 ⟨rfl, hk⟩
  have HK := Lib.hid ((((Kept.refl (fun _ => False) w).alloc _).alloc _).trans hk (fun _ _ x => x)); clear hk
  go_wp2
  go_ret
  exact ⟨rfl, HK.out⟩

theorem done_nil (w : World) : Calls Tryd.prog 21 #[.pointer none] w fun e w' => e = .returned (.int .i64 1) ∧ w = w' := by
  go_enter Tryd.func21, Tryd.ntmps21
  go_wp2
  go_ret
  exact ⟨rfl, rfl⟩

theorem lost_any (p g : Nat) (l : List Nat) (st : Option Nat) (w : World) (h : RdIs w p g l st) :
    Calls Tryd.prog 32 #[.pointer (some ⟨p, 0, none⟩)] w fun e w' => e = .returned (.bool st.isNone) ∧ w = w' := by
  cases st with
  | none => obtain ⟨a, h⟩ := h; exact lost_rd p g l a true w h
  | some a => exact lost_rd p g l a false w h.2
end Go.Proofs.YtipimcnjcpckeaaDoor
