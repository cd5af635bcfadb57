/- A reader's Fixed, Whole, Signed, Lost, Done; New; and all of them on none. -/
import Derived.Test.YtipimcnjcpckeaaDoorRd3
namespace Go.Proofs.YtipimcnjcpckeaaDoor
open Go.RowKit

set_option maxHeartbeats 400000 in
theorem rwhole_any (p g : Nat) (l : List Nat) (st : Option Nat) (m : Int) (w : World) (hl : Fair l) (h : RdIs w p g l st) :
    Calls Tryd.prog 26 #[.pointer (some ⟨p, 0, none⟩), .int .i64 m] w (RdDone w p g l (rdStep (wholeRd l m) st)) := by
  have hmf : ∀ (fn : Fn) (first cap : Array Value) (w : World), (Instr.makeFunc fn first cap).run Tryd.prog w = .ok (.func fn first cap) w := fun _ _ _ _ => rfl
  have hpl := h.lt.1
  have H0 := Lib.hid h; clear h
  have HL := Lib.hid hl; clear hl
  go_enter Tryd.func26, Tryd.ntmps26
  go_wp2_with (fail)
  have kk : Kept (fun _ => False) w ((w.alloc (.cells #[.pointer (some ⟨p, 0, none⟩)] 35)).alloc (.cells #[.int .i64 m] 3)) := ((Kept.refl _ _).alloc _).alloc _
  have HKK := Lib.hid kk; clear kk
  cases st with
  | none =>
    obtain ⟨a, h⟩ := H0.out
    refine (attempt_lost p g l a _ _ (h.kept HKK.out id id)).mono ?_
    rintro e w1 ⟨rfl, hk⟩
    have HK := Lib.hid (HKK.out.trans hk (fun _ _ x => x)); clear hk h
    go_wp2
    go_ret
    refine ⟨rfl, H0.out.kept HK.out id id, HK.out.mono (fun _ _ x => x.elim)⟩
  | some a =>
    obtain ⟨ha, h⟩ := H0.out
    have h1 := h.kept HKK.out id id
    refine (attempt_any p g l a 43 #[] #[.pointer (some ⟨w.heap.size, 0, none⟩), .pointer (some ⟨w.heap.size + 1, 0, none⟩)] (wholeRd l m a) _ h1 Tryd.enters_whole (fun w1 k => ?_)).mono ?_
    · obtain ⟨c0, c1⟩ := two_cells k
      exact whole_in p g l a m ⟨w.heap.size + 1, 0, none⟩ ⟨w.heap.size, 0, none⟩ w1 HL.out (h1.kept k id id) ha c1 c0 (by simp; omega)
    intro e w1 hres
    have hd := RdDone.of_res (wholeRd l m) a (wholeRd_le l m a) hres
    obtain ⟨rfl, h2, h3⟩ := hd
    have H2 := Lib.hid h2; clear h2
    have H3 := Lib.hid ((HKK.out.mono (S' := (· = p)) (fun _ _ x => x.elim)).trans h3 (fun _ _ x => x)); clear h3 hres h ha h1
    go_wp2
    go_ret
    exact ⟨rfl, H2.out, H3.out⟩

set_option maxHeartbeats 400000 in
theorem rsigned_any (p g : Nat) (l : List Nat) (st : Option Nat) (m : Int) (w : World) (hl : Fair l) (h : RdIs w p g l st) :
    Calls Tryd.prog 33 #[.pointer (some ⟨p, 0, none⟩), .int .i64 m] w (RdDone w p g l (rdStep (signedRd l m) st)) := by
  have hmf : ∀ (fn : Fn) (first cap : Array Value) (w : World), (Instr.makeFunc fn first cap).run Tryd.prog w = .ok (.func fn first cap) w := fun _ _ _ _ => rfl
  have hpl := h.lt.1
  have H0 := Lib.hid h; clear h
  have HL := Lib.hid hl; clear hl
  go_enter Tryd.func33, Tryd.ntmps33
  go_wp2_with (fail)
  have kk : Kept (fun _ => False) w ((w.alloc (.cells #[.pointer (some ⟨p, 0, none⟩)] 35)).alloc (.cells #[.int .i64 m] 3)) := ((Kept.refl _ _).alloc _).alloc _
  have HKK := Lib.hid kk; clear kk
  cases st with
  | none =>
    obtain ⟨a, h⟩ := H0.out
    refine (attempt_lost p g l a _ _ (h.kept HKK.out id id)).mono ?_
    rintro e w1 ⟨rfl, hk⟩
    have HK := Lib.hid (HKK.out.trans hk (fun _ _ x => x)); clear hk h
    go_wp2
    go_ret
    refine ⟨rfl, H0.out.kept HK.out id id, HK.out.mono (fun _ _ x => x.elim)⟩
  | some a =>
    obtain ⟨ha, h⟩ := H0.out
    have h1 := h.kept HKK.out id id
    refine (attempt_any p g l a 47 #[] #[.pointer (some ⟨w.heap.size, 0, none⟩), .pointer (some ⟨w.heap.size + 1, 0, none⟩)] (signedRd l m a) _ h1 Tryd.enters_signed (fun w1 k => ?_)).mono ?_
    · obtain ⟨c0, c1⟩ := two_cells k
      exact signed_in p g l a m ⟨w.heap.size + 1, 0, none⟩ ⟨w.heap.size, 0, none⟩ w1 HL.out (h1.kept k id id) ha c1 c0 (by simp; omega)
    intro e w1 hres
    have hd := RdDone.of_res (signedRd l m) a (signedRd_le l m a) hres
    obtain ⟨rfl, h2, h3⟩ := hd
    have H2 := Lib.hid h2; clear h2
    have H3 := Lib.hid ((HKK.out.mono (S' := (· = p)) (fun _ _ x => x.elim)).trans h3 (fun _ _ x => x)); clear h3 hres h ha h1
    go_wp2
    go_ret
    exact ⟨rfl, H2.out, H3.out⟩

end Go.Proofs.YtipimcnjcpckeaaDoor
