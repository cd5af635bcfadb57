/- awake: calls whose answers the document fixes: it answers true, and nothing that was there has turned. -/
import Derived.Test.YtbfmjomekkcpcaaRd5
namespace Go.Proofs.Ytbfmjomekkcpcaa
open Go.RowKit

theorem WrIs.new (w : World) : WrIs (w.alloc (.cells #[.slice none 0 0, .int .i64 0] 52)) w.heap.size none [] := by
  refine ⟨.slice none 0 0, heap_alloc_new w _, World.ownsRow_nil _ _ _ _, rfl, by simp⟩

/-- What is kept of all that was there ahead of a block of the call's own is kept. -/
theorem Kept.own {S : Nat → Prop} {w w' : World} {o : Obj} (h : Kept S (w.alloc o) w') (hs : ∀ k, k < w.heap.size → ¬ S k) : Kept (fun _ => False) w w' := by
  refine ⟨h.os, h.tape, h.output, ?_, fun k hk _ => ?_⟩
  · have := h.size; simp at this; omega
  · exact (h.block k (by simp; omega) (hs k hk)).trans (Below.heap_alloc w o k hk)

theorem SliceOf.of_new {w : World} {g : Nat} {l : List Nat} (h : w.heap[g]? = some (.cells (byteVals l).toArray 5 (0, 0))) : SliceOf w (.slice (some ⟨g, 0, none⟩) l.length l.length) l := by
  refine ⟨_, _, rfl, fun _ => ⟨⟨g, 0, none⟩, rfl, fun j u hj => ?_⟩⟩
  rw [Addr.add_lit, cell_of_heap h]
  simpa using hj

/-- The text of bytes. -/
def textOf (l : List Nat) : ByteArray := (l.map fun n : Nat => (n : Int)).foldl (fun r n => r.push (UInt8.ofNat n.toNat)) ByteArray.empty

theorem run_text {w : World} {g : Nat} {l : List Nat} (h : w.heap[g]? = some (.cells (byteVals l).toArray 5 (0, 0))) (cap : Nat) :
    (convert 30 9 (.slice (some ⟨g, 0, none⟩) l.length cap)).run Try.prog w = .ok (.string (textOf l)) w := by
  rw [run_convert_bytes_string w 30 9 5 _ _ _ Try.underlying30 Try.underlying5 Try.underlying9]
  have hl := run_loadCells_list (P := Try.prog) w ⟨g, 0, none⟩ (byteVals l) (by intro j v hj; rw [Addr.add_lit, cell_of_heap h]; simpa using hj)
  rw [byteVals_length] at hl
  have e : (byteVals l).toArray = ((l.map fun n : Nat => (n : Int)).map (Value.int .u8)).toArray := by simp [byteVals]
  rw [e] at hl
  exact run_bytesToString w ⟨g, 0, none⟩ l.length cap _ hl

def bsA : List Bool := wholeBits 0 ++ wholeBits 3 ++ signedBits (-1)
theorem bsA_eq : bsA = [true, false, false, true, false, false, false, true, true] := by decide +kernel
def bsB : List Bool := bsA ++ endBits bsA.length
theorem bsB_pack : pack bsB = [145, 192] := by decide +kernel
theorem bsB_len : bsB.length = 16 := by decide +kernel

def lA : List Nat := [145, 192]
theorem lA_fair : Fair lA := ⟨by decide, by decide⟩
theorem rdA1 : rdStep (wholeRd lA 9) (some 0) = (0, some 1) := by decide +kernel
theorem rdA2 : rdStep (wholeRd lA 9) (some 1) = (3, some 6) := by decide +kernel
theorem rdA3 : rdStep (signedRd lA 9) (some 6) = (-1, some 9) := by decide +kernel
theorem rdA4 : doneOf lA (some 9) = 0 := by decide +kernel
theorem rdA5 : rdStep (wholeRd lA 0) (some 0) = (0, some 1) := by decide +kernel
theorem rdA6 : rdStep (wholeRd lA 2) (some 1) = (0, none) := by decide +kernel
theorem rdA7 : doneOf lA none = 10 := rfl

set_option maxHeartbeats 1000000 in
set_option maxRecDepth 100000 in
theorem awake_any (w : World) :
    Calls Try.prog 11 #[] w fun e w' => e = .returned (.bool true) ∧ Kept (fun _ => False) w w' := by
  go_enter Try.func11, Try.ntmps11
  go_wp2_with (fail)
  have HN := Lib.hid (WrIs.new w)
  -- the writer
  refine (whole_any w.heap.size none [] 0 _ (by decide) HN.out).mono ?_
  rintro e w1 ⟨rfl, r1, i1, q1, k1⟩
  have I1 := Lib.hid i1; have Q1 := Lib.hid q1; have K1 := Lib.hid k1; clear i1 q1 k1
  go_wp2_with (fail)
  refine (whole_any w.heap.size r1 _ 3 _ (by decide +kernel) I1.out).mono ?_
  rintro e w2 ⟨rfl, h2⟩
  obtain ⟨r2, i2, q2, k2⟩ := Wrote.trans K1.out Q1.out h2
  have I2 := Lib.hid i2; have Q2 := Lib.hid q2; have K2 := Lib.hid k2; clear i2 q2 k2 h2 I1 Q1 K1
  go_wp2_with (fail)
  refine (signed_any w.heap.size r2 _ (-1) _ (by decide +kernel) I2.out).mono ?_
  rintro e w3 ⟨rfl, h3⟩
  obtain ⟨r3, i3, q3, k3⟩ := Wrote.trans K2.out Q2.out h3
  have I3 := Lib.hid i3; have Q3 := Lib.hid q3; have K3 := Lib.hid k3; clear i3 q3 k3 h3 I2 Q2 K2
  go_wp2_with (fail)
  refine (end_any w.heap.size r3 _ _ (by decide +kernel) I3.out).mono ?_
  rintro e w4 ⟨rfl, h4⟩
  obtain ⟨r4, i4, q4, k4⟩ := Wrote.trans K3.out Q3.out h4
  have i4' : WrIs w4 w.heap.size r4 bsB := i4
  have I4 := Lib.hid i4'; have K4 := Lib.hid (Kept.own k4 (fun k hk hf => by rcases hf with h | h <;> first | omega | cases h)); clear i4 i4' q4 k4 h4 I3 Q3 K3
  -- its bytes
  go_wp2_with (fail)
  refine (bytes_any w.heap.size r4 bsB _ (by decide +kernel) I4.out).mono ?_
  intro e w5 hb
  rw [bsB_pack] at hb
  obtain ⟨gb, rfl, hg5, hc5, k5⟩ := hb
  have I5 := Lib.hid (I4.out.kept k5 (fun _ _ x => x)); have C5 := Lib.hid hc5; have K5 := Lib.hid (K4.out.trans k5 (fun _ _ x => x)); clear hc5 k5 I4 K4 hg5
  -- the first reader
  go_wp2_with (fail)
  refine (new_any _ lA _ (by decide) (SliceOf.of_new C5.out)).mono ?_
  rintro e w6 ⟨p, g, rfl, hr6, hp6, hg6, k6⟩
  have hlt6 := hr6.lt
  have gb5 : gb < w5.heap.size := lt_of_heap C5.out
  have ps5 : w.heap.size ≤ w5.heap.size := K5.out.size
  have fp : ∀ i, WrFoot w.heap.size r4 i → i < w5.heap.size := fun i hi => I5.out.foot_lt hi
  have FP := Lib.hid fp; clear fp
  have I6 := Lib.hid (I5.out.kept k6 (fun _ _ x => x)); have C6 := Lib.hid (k6.at C5.out id); have K6 := Lib.hid (K5.out.trans k6 (fun _ _ x => x)); have R6 := Lib.hid hr6; clear k6 hr6 I5 C5 K5
  obtain ⟨lp6, lg6, ne6⟩ := hlt6
  go_wp2_with (fail)
  refine (rwhole_any p g lA _ 9 _ lA_fair R6.out).mono ?_
  rw [rdA1]
  rintro e w7 ⟨rfl, r7, k7⟩
  have R7 := Lib.hid r7
  have I7 := Lib.hid (I6.out.kept k7 (fun i hi x => by have := FP.out i hi; omega)); have C7 := Lib.hid (k7.at C6.out (by omega)); have K7 := Lib.hid (K6.out.trans k7 (fun i hi x => by omega)); have s7 := k7.size; clear k7 r7 I6 C6 K6 R6
  go_wp2_with (fail)
  refine (rwhole_any p g lA _ 9 _ lA_fair R7.out).mono ?_
  rw [rdA2]
  rintro e w8 ⟨rfl, r8, k8⟩
  have R8 := Lib.hid r8
  have I8 := Lib.hid (I7.out.kept k8 (fun i hi x => by have := FP.out i hi; omega)); have C8 := Lib.hid (k8.at C7.out (by omega)); have K8 := Lib.hid (K7.out.trans k8 (fun i hi x => by omega)); have s8 := k8.size; clear k8 r8 I7 C7 K7 R7
  go_wp2_with (fail)
  refine (rsigned_any p g lA _ 9 _ lA_fair R8.out).mono ?_
  rw [rdA3]
  rintro e w9 ⟨rfl, r9, k9⟩
  have R9 := Lib.hid r9
  have I9 := Lib.hid (I8.out.kept k9 (fun i hi x => by have := FP.out i hi; omega)); have C9 := Lib.hid (k9.at C8.out (by omega)); have K9 := Lib.hid (K8.out.trans k9 (fun i hi x => by omega)); have s9 := k9.size; clear k9 r9 I8 C8 K8 R8
  go_wp2_with (fail)
  refine (done_any p g lA _ _ lA_fair R9.out).mono ?_
  rw [rdA4]
  rintro e w10 ⟨rfl, n10, e10⟩
  have k10 : Kept (fun _ => False) w9 w10 := by subst e10; exact (Kept.refl _ _).drewN _
  have I10 := Lib.hid (I9.out.kept k10 (fun _ _ x => x)); have C10 := Lib.hid (k10.at C9.out id); have K10 := Lib.hid (K9.out.trans k10 (fun _ _ x => x)); have s10 := k10.size; clear k10 e10 I9 C9 K9 R9
  -- the second reader
  go_wp2_with (fail)
  refine (new_any _ lA _ (by decide) (SliceOf.of_new C10.out)).mono ?_
  rintro e w11 ⟨p', g', rfl, hr11, hp11, hg11, k11⟩
  obtain ⟨lp11, lg11, ne11⟩ := hr11.lt
  have R11 := Lib.hid hr11
  have I11 := Lib.hid (I10.out.kept k11 (fun _ _ x => x)); have C11 := Lib.hid (k11.at C10.out id); have K11 := Lib.hid (K10.out.trans k11 (fun _ _ x => x)); have s11 := k11.size; clear k11 hr11 I10 C10 K10
  go_wp2_with (fail)
  refine (rwhole_any p' g' lA _ 0 _ lA_fair R11.out).mono ?_
  rw [rdA5]
  rintro e w12 ⟨rfl, r12, k12⟩
  have R12 := Lib.hid r12
  have I12 := Lib.hid (I11.out.kept k12 (fun i hi x => by have := FP.out i hi; omega)); have C12 := Lib.hid (k12.at C11.out (by omega)); have K12 := Lib.hid (K11.out.trans k12 (fun i hi x => by omega)); have s12 := k12.size; clear k12 r12 I11 C11 K11 R11
  go_wp2_with (fail)
  refine (rwhole_any p' g' lA _ 2 _ lA_fair R12.out).mono ?_
  rw [rdA6]
  rintro e w13 ⟨rfl, r13, k13⟩
  have R13 := Lib.hid r13
  have I13 := Lib.hid (I12.out.kept k13 (fun i hi x => by have := FP.out i hi; omega)); have C13 := Lib.hid (k13.at C12.out (by omega)); have K13 := Lib.hid (K12.out.trans k13 (fun i hi x => by omega)); clear k13 r13 I12 C12 K12 R12
  -- the answer
  have hcv : (convert 30 9 (.slice (some ⟨gb, 0, none⟩) 2 2)).run Try.prog w13 = .ok (.string (textOf lA)) w13 := run_text (l := lA) C13.out 2
  have hcv2 : (convert 30 9 (.slice (some ⟨w13.heap.size, 0, none⟩) 2 2)).run Try.prog (w13.alloc (.cells #[.int .u8 145, .int .u8 192] 5)) = .ok (.string (textOf lA)) (w13.alloc (.cells #[.int .u8 145, .int .u8 192] 5)) :=
    run_text (l := lA) (heap_alloc_new w13 _) 2
  clear s7 s8 s9 s10 s11 s12
  go_wp2_with (fail)
  refine (many_any w.heap.size r4 bsB _ (I13.out.kept ((Kept.refl (fun _ => False) _).alloc _) (fun _ _ x => x))).mono ?_
  rw [bsB_len]
  rintro e w14 ⟨rfl, rfl⟩
  go_wp2_with (fail)
  refine (done_any p' g' lA _ _ lA_fair (R13.out.kept ((Kept.refl (fun _ => False) _).alloc _) id id)).mono ?_
  rw [rdA7]
  rintro e w15 ⟨rfl, n15, e15⟩
  have K15 := Lib.hid (show Kept (fun _ => False) w w15 by subst e15; exact (K13.out.alloc _).drewN _)
  clear e15
  go_wp2
  go_ret
  exact ⟨rfl, K15.out⟩
end Go.Proofs.Ytbfmjomekkcpcaa
