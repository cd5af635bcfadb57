/- A reader's calls: each attempt gives up by a panic that it recovers. -/
import Derived.Test.YtipimcnjcpckeaaDoorRd
import Derived.Defers
import Derived.Recover
namespace Go.Proofs.YtipimcnjcpckeaaDoor
open Go.RowKit

theorem lost_rd (p g : Nat) (l : List Nat) (a : Nat) (b : Bool) (w : World) (h : RdAt w p g l a b) :
    Calls Tryd.prog 32 #[.pointer (some ⟨p, 0, none⟩)] w fun e w' => e = .returned (.bool b) ∧ w = w' := by
  obtain ⟨-, -, h2, -, -⟩ := h.facts
  clear h
  go_enter Tryd.func32, Tryd.ntmps32
  go_wp2
  go_ret
  exact ⟨rfl, rfl⟩

theorem lost_nil (w : World) :
    Calls Tryd.prog 32 #[.pointer none] w fun e w' => e = .returned (.bool true) ∧ w = w' := by
  go_enter Tryd.func32, Tryd.ntmps32
  go_wp2
  go_ret
  exact ⟨rfl, rfl⟩

/-- The deferred function, where the reading has given up: 0 is answered, and the reader is lost. -/
theorem catch_panicking (pn pr : Addr) (p : Nat) (b : Bool) (u : TypeId) (pv : Value) (older : List PanicEntry) (w : World)
    (hn : w.cell? pn = some (.int .i64 0)) (fn : w.frozen? pn = false) (hr : w.cell? pr = some (.pointer (some ⟨p, 0, none⟩))) (hl : w.cell? ⟨p, 2, none⟩ = some (.bool b)) (fl : w.frozen? ⟨p, 2, none⟩ = false) (hne : ¬ pn.block = p) :
    CallsD Tryd.prog 50 #[.pointer (some pn), .pointer (some pr)] (.panicking ({ v := .iface u pv, recovered := false } :: older)) w fun e u' w' =>
      e = .returned (.tuple #[]) ∧ u' = .panicking ({ v := .iface u pv, recovered := true } :: older) ∧ w' = (w.setCell pn (.int .i64 0)).setCell ⟨p, 2, none⟩ (.bool true) := by
  refine callsD_of_wpS Tryd.func50 rfl fun c₀ cs hu => ?_
  apply wpS_seq
  apply wpS_region
  simp [wpOpsS, go_sem, recoverD, hu, Tryd.ntmps50, Exit.thenS]
  refine wpS_cond (t := true) (by simp [Act.eval, Array.replicate]) ?_
  simp only [if_true]
  apply wpS_region
  have hl2 : (w.setCell pn (.int .i64 0)).cell? ⟨p, 2, none⟩ = some (.bool b) := by
    rw [← hl]; exact World.cell?_of_block (Below.heap_setCell _ _ _ _ (fun e => hne e.symm))
  have fl2 : (w.setCell pn (.int .i64 0)).frozen? ⟨p, 2, none⟩ = false := by
    rw [← fl]; exact World.frozen?_of_block (Below.heap_setCell _ _ _ _ (fun e => hne e.symm))
  simp [wpOpsS, go_sem, hn, fn, hr, hl2, fl2, bodyPostS, results, Tryd.results50]

theorem catch_idle (pn pr : Addr) (w : World) :
    CallsD Tryd.prog 50 #[.pointer (some pn), .pointer (some pr)] .returning w fun e u' w' => e = .returned (.tuple #[]) ∧ u' = .returning ∧ w' = w := by
  refine callsD_of_wpS Tryd.func50 rfl fun c₀ cs hu => ?_
  apply wpS_seq
  apply wpS_region
  simp [wpOpsS, go_sem, recoverD, hu, Tryd.ntmps50, Exit.thenS]
  refine wpS_cond (t := false) (by simp [Act.eval, Array.replicate]) ?_
  simp only [Bool.false_eq_true, if_false]
  refine wpS_of_wp (wp_skip ?_)
  cases c₀
  simp_all [bodyPostS, results, Tryd.results50]

theorem RdAt.lt {w : World} {p g : Nat} {l : List Nat} {a : Nat} {b : Bool} (h : RdAt w p g l a b) : p < w.heap.size ∧ g < w.heap.size := ⟨lt_of_heap h.1, lt_of_heap h.2.1⟩

set_option maxHeartbeats 400000 in
theorem attempt_lost (p g : Nat) (l : List Nat) (a : Nat) (f : Value) (w : World) (h : RdAt w p g l a true) :
    Calls Tryd.prog 42 #[.pointer (some ⟨p, 0, none⟩), f] w fun e w' => e = .returned (.int .i64 0) ∧ Kept (fun _ => False) w w' := by
  have H0 := Lib.hid h; clear h
  go_enter_defers Tryd.func42, Tryd.ntmps42
  go_wp2_with (fail)
  refine (lost_rd p g l a true _ ?_).mono ?_
  · exact (H0.out.kept ((Kept.refl (fun _ => False) _).alloc _) id id).kept ((Kept.refl (fun _ => False) _).alloc _) id id
  rintro e w1 ⟨rfl, rfl⟩
  go_wp2
  simp [bodyPostD, Leaves, results, Tryd.results42, go_sem]
  exact ((Kept.refl _ _).alloc _).alloc _

theorem two_boxes (w : World) (x y : Value) (t t' : TypeId) :
    ((w.alloc (.cells #[x] t)).alloc (.cells #[y] t')).heap[w.heap.size]? = some (.cells #[x] t) ∧ ((w.alloc (.cells #[x] t)).alloc (.cells #[y] t')).heap[w.heap.size + 1]? = some (.cells #[y] t') := by
  constructor
  · rw [Below.heap_alloc _ _ _ (by simp)]; exact heap_alloc_new w _
  · have := heap_alloc_new (w.alloc (.cells #[x] t)) (.cells #[y] t')
    simpa using this

/-- What a reader's call leaves: a number, and the next bit's place; or 0, and the reader is lost. -/
def RdRes (w : World) (p g : Nat) (l : List Nat) (o : Option (Int × Nat)) (e : Ending) (w' : World) : Prop :=
  match o with
  | some (n, a) => e = .returned (.int .i64 n) ∧ RdAt w' p g l a false ∧ Kept (· = p) w w'
  | none => e = .returned (.int .i64 0) ∧ (∃ a, RdAt w' p g l a true) ∧ Kept (· = p) w w'

set_option maxHeartbeats 400000 in
theorem attempt_some (p g : Nat) (l : List Nat) (a : Nat) (f : FuncId) (first cap : Array Value) (n : Int) (a' : Nat) (w : World) (h : RdAt w p g l a false)
    (hcf : ∀ (A : Array Value) (w : World), (callFunc f A).run Tryd.prog w = .ok (.enter f A) w)
    (hcall : ∀ w1, Kept (fun _ => False) w w1 → Calls Tryd.prog f (first ++ cap) w1 (RdPost w1 p g l (some (n, a')))) :
    Calls Tryd.prog 42 #[.pointer (some ⟨p, 0, none⟩), .func (.func f) first cap] w (RdRes w p g l (some (n, a'))) := by
  have hmf : ∀ (fn : Fn) (first cap : Array Value) (w : World), (Instr.makeFunc fn first cap).run Tryd.prog w = .ok (.func fn first cap) w := fun _ _ _ _ => rfl
  have hpl := h.lt.1
  have hgl := h.lt.2
  have H0 := Lib.hid h; clear h
  have HC := Lib.hid hcall; clear hcall
  go_enter_defers Tryd.func42, Tryd.ntmps42
  go_wp2_with (fail)
  refine (lost_rd p g l a false _ ?_).mono ?_
  · exact (H0.out.kept ((Kept.refl (fun _ => False) _).alloc _) id id).kept ((Kept.refl (fun _ => False) _).alloc _) id id
  rintro e w1 ⟨rfl, rfl⟩
  go_wp2_with (fail)
  refine (HC.out _ (((Kept.refl _ _).alloc _).alloc _)).mono ?_
  rintro e w1 ⟨rfl, hr1, hk1⟩
  obtain ⟨b0, b1⟩ := two_boxes w (.pointer (some ⟨p, 0, none⟩)) (.int .i64 0) 35 3
  have hb1 := hk1.at b1 (by omega)
  have k1 : w1.cell? ⟨w.heap.size + 1, 0, none⟩ = some (.int .i64 0) := by rw [cell_of_heap hb1]; rfl
  have f1 : w1.frozen? ⟨w.heap.size + 1, 0, none⟩ = false := frozen_of_heap hb1
  have HB1 := Lib.hid hb1
  clear b0 b1 hb1
  have HR1 := Lib.hid hr1; clear hr1
  have HK1 := Lib.hid hk1; clear hk1
  go_wp2
  refine leaves_cons (f := 50) (args := #[.pointer (some ⟨w.heap.size + 1, 0, none⟩), .pointer (some ⟨w.heap.size, 0, none⟩)]) (by simp) (by simp [go_sem]) ?_
  refine (catch_idle ⟨w.heap.size + 1, 0, none⟩ ⟨w.heap.size, 0, none⟩ _).mono ?_
  rintro e u' w'' ⟨rfl, rfl, rfl⟩
  simp [Leaves, settle, results, Tryd.results42, go_sem]
  have hb1 := HB1.out
  have k2 : (w1.setCell ⟨w.heap.size + 1, 0, none⟩ (.int .i64 n)).cell? ⟨w.heap.size + 1, 0, none⟩ = some (.int .i64 n) := by
    rw [cell_of_heap (heap_setCell_same w1 (w.heap.size + 1) 0 (.int .i64 n) hb1)]; rfl
  rw [k2]
  refine ⟨_, rfl, rfl, ?_, ?_⟩
  · exact HR1.out.kept ((Kept.refl (· = w.heap.size + 1) _).setCell _ (fun _ => rfl) _) (by omega) (by omega)
  · refine ((((Kept.refl (· = p) w).alloc _).alloc _).trans HK1.out (fun _ _ x => x)).setCell _ (fun h => ?_) _
    exact absurd h (by simp)

set_option maxHeartbeats 400000 in
theorem attempt_none (p g : Nat) (l : List Nat) (a : Nat) (f : FuncId) (first cap : Array Value) (w : World) (h : RdAt w p g l a false)
    (hcf : ∀ (A : Array Value) (w : World), (callFunc f A).run Tryd.prog w = .ok (.enter f A) w)
    (hcall : ∀ w1, Kept (fun _ => False) w w1 → Calls Tryd.prog f (first ++ cap) w1 (RdPost w1 p g l none)) :
    Calls Tryd.prog 42 #[.pointer (some ⟨p, 0, none⟩), .func (.func f) first cap] w (RdRes w p g l none) := by
  have hmf : ∀ (fn : Fn) (first cap : Array Value) (w : World), (Instr.makeFunc fn first cap).run Tryd.prog w = .ok (.func fn first cap) w := fun _ _ _ _ => rfl
  have hpl := h.lt.1
  have hgl := h.lt.2
  have H0 := Lib.hid h; clear h
  have HC := Lib.hid hcall; clear hcall
  go_enter_defers Tryd.func42, Tryd.ntmps42
  go_wp2_with (fail)
  refine (lost_rd p g l a false _ ?_).mono ?_
  · exact (H0.out.kept ((Kept.refl (fun _ => False) _).alloc _) id id).kept ((Kept.refl (fun _ => False) _).alloc _) id id
  rintro e w1 ⟨rfl, rfl⟩
  go_wp2_with (fail)
  refine (HC.out _ (((Kept.refl _ _).alloc _).alloc _)).mono ?_
  rintro e w1 ⟨rfl, ⟨a', hr1⟩, hk1⟩
  obtain ⟨b0, b1⟩ := two_boxes w (.pointer (some ⟨p, 0, none⟩)) (.int .i64 0) 35 3
  have hb0 := hk1.at b0 (by omega)
  have hb1 := hk1.at b1 (by omega)
  have k0 : w1.cell? ⟨w.heap.size, 0, none⟩ = some (.pointer (some ⟨p, 0, none⟩)) := by rw [cell_of_heap hb0]; rfl
  have k1 : w1.cell? ⟨w.heap.size + 1, 0, none⟩ = some (.int .i64 0) := by rw [cell_of_heap hb1]; rfl
  have f1 : w1.frozen? ⟨w.heap.size + 1, 0, none⟩ = false := frozen_of_heap hb1
  obtain ⟨-, -, k2, -, f2⟩ := hr1.facts
  have HB1 := Lib.hid hb1
  clear b0 b1 hb0 hb1
  have HR1 := Lib.hid hr1; clear hr1
  have HK1 := Lib.hid hk1; clear hk1
  go_wp2
  refine leaves_cons (f := 50) (args := #[.pointer (some ⟨w.heap.size + 1, 0, none⟩), .pointer (some ⟨w.heap.size, 0, none⟩)]) (by simp) (by simp [go_sem]) ?_
  refine (catch_panicking ⟨w.heap.size + 1, 0, none⟩ ⟨w.heap.size, 0, none⟩ p false _ _ [] _ k1 f1 k0 k2 f2 (by simp; omega)).mono ?_
  rintro e u' w'' ⟨rfl, rfl, rfl⟩
  have hb1 := HB1.out
  have k3 : (w1.setCell ⟨w.heap.size + 1, 0, none⟩ (.int .i64 0)).cell? ⟨w.heap.size + 1, 0, none⟩ = some (.int .i64 0) := by
    rw [cell_of_heap (heap_setCell_same w1 (w.heap.size + 1) 0 (.int .i64 0) hb1)]; rfl
  simp [Leaves, settle, results, Tryd.results42, go_sem]
  rw [k3]
  refine ⟨_, rfl, rfl, ⟨a', ?_⟩, ?_⟩
  · exact (HR1.out.kept ((Kept.refl (· = w.heap.size + 1) _).setCell _ (fun _ => rfl) _) (by omega) (by omega)).setLost true
  · refine (((((Kept.refl (· = p) w).alloc _).alloc _).trans HK1.out (fun _ _ x => x)).setCell _ (fun h => ?_) _).setCell _ (fun _ => rfl) _
    exact absurd h (by simp)

/-- attempt, whatever the reading comes to. -/
theorem attempt_any (p g : Nat) (l : List Nat) (a : Nat) (f : FuncId) (first cap : Array Value) (o : Option (Int × Nat)) (w : World) (h : RdAt w p g l a false)
    (hcf : ∀ (A : Array Value) (w : World), (callFunc f A).run Tryd.prog w = .ok (.enter f A) w)
    (hcall : ∀ w1, Kept (fun _ => False) w w1 → Calls Tryd.prog f (first ++ cap) w1 (RdPost w1 p g l o)) :
    Calls Tryd.prog 42 #[.pointer (some ⟨p, 0, none⟩), .func (.func f) first cap] w (RdRes w p g l o) := by
  match o, hcall with
  | none, hcall => exact attempt_none p g l a f first cap w h hcf hcall
  | some (n, a'), hcall => exact attempt_some p g l a f first cap n a' w h hcf hcall

end Go.Proofs.YtipimcnjcpckeaaDoor
