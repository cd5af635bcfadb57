/- What BlockStill reaches of my texts, part 8. -/
import Derived.Test.YtdcbabgcbkdlhaaDoorBlockStillG
set_option maxRecDepth 100000
set_option maxRecDepth 100000
namespace Go.Proofs.YtdcbabgcbkdlhaaDoor
open Go.ChangeShapes Go.WideShapes Go.ChangeAt Go.RowKit Go.Deep

def laysB : List (String × DataW Unit) := [("clapboard/quant.steps", Rows.laid_clapboard_quant_steps), ("clapboard/scan.order", Rows.laid_clapboard_scan_order), ("clapboard/wave.waves", Rows.laid_clapboard_wave_waves), ("clapboard/block.acts", Rows.laid_clapboard_block_acts)]
theorem Tryd.gActs : Tryd.prog.globalNamed "clapboard/block.acts" = some 0 := by kernel_rfl
theorem Tryd.tActs : (Tryd.prog.globals[0]?).map (·.type) = some 94 := by kernel_rfl
theorem Tryd.c21a : Tryd.prog.cellsOf 94 = 21 := by kernel_rfl
theorem Tryd.c3a : Tryd.prog.cellsOf 93 = 3 := by kernel_rfl
theorem Tryd.c1b : Tryd.prog.cellsOf 4 = 1 := by kernel_rfl
theorem laysB_met (os : Os) (args : Array Value) : laidMetH Tryd.prog laysB ((World.doorLaid Tryd.prog 400 os).forCall (fun _ _ => 0) ⟨#[], args, []⟩).memory :=
  laidMetH_of_parts3 (fuel := 8) (laidMet_of_run' 8 (by kernel_rfl) (by kernel_rfl)) (by kernel_rfl) (by kernel_rfl)
def actD {H : Type} (q : Int × Bool × Bool) : DataW H := .agg [.lit (.int .i64 q.1), .lit (.bool q.2.1), .lit (.bool q.2.2)]
def actQ : List (Int × Bool × Bool) := [(0, false, false), (0, false, false), (0, false, false), (0, false, false), (1, true, false), (2, false, true), (2, true, true)]
theorem acts_rows {W : World} {f : Nat} {l : List (Int × Bool × Bool)} {cs : List Value} {p : List MemPlace}
    (hd : DataW.trod (fun _ => ()) Tryd.prog W 0 (fun _ => true) false f 94 cs = some (.agg (l.map actD), p)) : cs.length = 21 ∧ ∀ u, u < 7 → ∃ q, l[u]? = some q ∧ cs[u * 3]? = some (.int .i64 q.1) ∧ cs[u * 3 + 1]? = some (.bool q.2.1) ∧ cs[u * 3 + 2]? = some (.bool q.2.2) := by
  obtain ⟨xs, k, rfl, hx, hl, hn, hel⟩ := DataW.trod_array Tryd.underlying94 hd
  rw [Tryd.c21a] at hl
  refine ⟨hl, fun u hu => ?_⟩
  simp only [Prod.mk.injEq, DataW.agg.injEq] at hx
  have h1 := hel u hu
  rw [Tryd.c3a, List.getElem?_eq_getElem (by omega)] at h1
  have e1 : (xs.map (·.1))[u]? = some xs[u].1 := by rw [List.getElem?_map, List.getElem?_eq_getElem (by omega)]; rfl
  rw [← hx.1, List.getElem?_map] at e1
  cases hq : l[u]? with
  | none => rw [hq] at e1; cases e1
  | some y =>
    rw [hq] at e1
    simp only [Option.map_some, Option.some.injEq] at e1
    obtain ⟨y0, y1, y2, n, hagg, hsz, h2, h3, h4⟩ := trod_struct3 Tryd.underlying93 h1
    simp only [Tryd.c1, Tryd.c1b] at h2 h3 h4
    obtain ⟨z0, hz0, hd0, _⟩ := DataW.trod_int Tryd.underlying3 h2
    obtain ⟨b1, hz1, hd1⟩ := DataW.trod_bool Tryd.underlying4 h3
    obtain ⟨b2, hz2, hd2⟩ := DataW.trod_bool Tryd.underlying4 h4
    rw [hagg] at e1
    simp only [actD, DataW.agg.injEq, List.cons.injEq, and_true] at e1
    rw [hd0, hd1, hd2] at e1
    simp only [DataW.lit.injEq, Lit.int.injEq, Lit.bool.injEq, true_and] at e1
    obtain ⟨r0, r1, r2⟩ := e1
    have g0 := congrArg (·[0]?) hz0
    have g1 := congrArg (·[0]?) hz1
    have g2 := congrArg (·[0]?) hz2
    refine ⟨y, rfl, ?_, ?_, ?_⟩
    · rw [r0]; simpa [List.getElem?_take, List.getElem?_drop] using g0
    · rw [r1]; simpa [List.getElem?_take, List.getElem?_drop] using g1
    · rw [r2]; simpa [List.getElem?_take, List.getElem?_drop] using g2
theorem acts_at {W : World} {f : Nat} {cs : Array Value} {p : List MemPlace} (hv : World.var? Tryd.prog W "clapboard/block.acts" = some cs)
    (hd : DataW.trod (fun _ => ()) Tryd.prog W 0 (fun _ => true) false f 94 cs.toList = some (Rows.laid_clapboard_block_acts, p)) (hs : 4 ≤ W.heap.size) : ActsIn W := by
  have key := (acts_rows (l := actQ) hd).2
  refine ⟨hs, fun i hi => ?_⟩
  rw [World.var?_cell Tryd.gActs hv i, show cs[i]? = cs.toList[i]? by simp]
  obtain ⟨q, hq, k0, k1, k2⟩ := key (i / 3) (by omega)
  have hc : i / 3 < 7 ∧ (i = i / 3 * 3 ∨ i = i / 3 * 3 + 1 ∨ i = i / 3 * 3 + 2) := by omega
  generalize i / 3 = u at *
  obtain ⟨hu, hi3⟩ := hc
  have hu7 : u = 0 ∨ u = 1 ∨ u = 2 ∨ u = 3 ∨ u = 4 ∨ u = 5 ∨ u = 6 := by omega
  rcases hu7 with rfl | rfl | rfl | rfl | rfl | rfl | rfl <;> obtain rfl := Option.some.inj hq <;> rcases hi3 with rfl | rfl | rfl <;> first | exact k0.trans rfl | exact k1.trans rfl | exact k2.trans rfl
theorem all_of {W : World} (h : laidMetH Tryd.prog laysB W) : StepsAt W ∧ ScanIn W ∧ Waves W ∧ ActsIn W := by
  rw [MakeChecks.laidMetH_plain _ _ _ (by kernel_rfl)] at h
  obtain ⟨ps, ⟨g0, t0, cs0, f0, p0, q0, hg0, ht0, hv0, hd0, ⟨g1, t1, cs1, f1, p1, q1, hg1, ht1, hv1, hd1, ⟨g2, t2, cs2, f2, p2, q2, hg2, ht2, hv2, hd2, ⟨g3, t3, cs3, f3, p3, q3, hg3, ht3, hv3, hd3, _, _⟩, _⟩, _⟩, _⟩, _, _⟩ := h
  obtain rfl := Option.some.inj (Tryd.gSteps.symm.trans hg0)
  obtain rfl := Option.some.inj (Tryd.tSteps.symm.trans ht0)
  obtain rfl := Option.some.inj (Tryd.gOrder.symm.trans hg1)
  obtain rfl := Option.some.inj (Tryd.tOrder.symm.trans ht1)
  obtain rfl := Option.some.inj (Tryd.gWaves.symm.trans hg2)
  obtain rfl := Option.some.inj (Tryd.tWaves.symm.trans ht2)
  obtain rfl := Option.some.inj (Tryd.gActs.symm.trans hg3)
  obtain rfl := Option.some.inj (Tryd.tActs.symm.trans ht3)
  have h0 := steps_at hv0 hd0
  have h1 := order_at hv1 hd1
  have h2 := waves_at hv2 hd2
  obtain ⟨t4, f4, h4⟩ := var_block Tryd.gActs hv3
  have s0 := h0.1
  have s1 := h1.pos
  have s2 := h2.1
  have s3 := lt_of_heap h4
  exact ⟨h0, h1, h2, acts_at hv3 hd3 (by omega)⟩
end Go.Proofs.YtdcbabgcbkdlhaaDoor
set_option maxRecDepth 100000
namespace Go.Proofs.YtdcbabgcbkdlhaaDoor
open Go.RowKit

section
variable {N : Nat} {Q : (Exit → (Nat → Value) → World → Prop)} {F : Nat → Value} {w : World} {P : Program}
def StepR (N : Nat) (P : Program) (R : World → World → Prop) (D : List (Option Tmp)) (G : Nat → Value → World → Prop) (F0 : Nat → Value) (w0 : World) (i : Nat) (o : Oper) : Prop :=
  ∀ (F : Nat → Value) (w : World), R w0 w → (∀ t, Nat.blt t N = true → some t ∉ D → F t = F0 t) → DepsF D G F w o.after.toList → o.guard = none ∧ Yields P (ev F) o w (fun v w' => G i v w' ∧ R w w')
def StepsR (N : Nat) (P : Program) (R : World → World → Prop) (D : List (Option Tmp)) (G : Nat → Value → World → Prop) (F0 : Nat → Value) (w0 : World) : Nat → List Oper → Prop
  | _, [] => True
  | i, o :: r => StepR N P R D G F0 w0 i o ∧ StepsR N P R D G F0 w0 (i + 1) r
theorem StepR.step {R : World → World → Prop} {D : List (Option Tmp)} {G : Nat → Value → World → Prop} {w0 : World} {i : Nat} {o : Oper} {a0 : Act} (ha : Fr N F a0) (h : StepR N P R D G F w0 i o) : Step P R D G a0 w0 i o := by
  intro a w hR hout hD
  have h1 := h (fun t => a.tmps.getD t undef) w hR (fun t hb ht => by rw [← ha.at' t hb]; exact hout t ht) hD.toF
  rw [← eval_ev a] at h1
  unfold goes
  rw [h1.1]
  exact ⟨fun _ => h1.2, fun e => by cases e⟩
theorem StepsR.steps {R : World → World → Prop} {D : List (Option Tmp)} {G : Nat → Value → World → Prop} {w0 : World} {a0 : Act} (ha : Fr N F a0) : ∀ {os : List Oper} {i : Nat}, StepsR N P R D G F w0 i os → Steps P R D G a0 w0 i os := by
  intro os
  induction os with
  | nil => intro i _; exact trivial
  | cons o r ih => intro i h; exact ⟨h.1.step ha, ih h.2⟩
end

/-- What may become of the row, and of nothing else. -/
def RepR (T : Nat → Prop) (v : Value) (L L' : List Nat) (a b : World) : Prop := Kept T a b ∧ (Owb a T v L' → Owb b T v L') ∧ (Owb a T v L → Owb b T v L ∨ Owb b T v L')
theorem RepR.refl {T : Nat → Prop} {v : Value} {L L' : List Nat} (a : World) : RepR T v L L' a a := ⟨Kept.refl _ _, id, .inl⟩
theorem RepR.trans {T : Nat → Prop} {v : Value} {L L' : List Nat} {a b c : World} (h : RepR T v L L' a b) (k : RepR T v L L' b c) : RepR T v L L' a c :=
  ⟨h.1.trans k.1 (fun _ _ x => x), fun x => k.2.1 (h.2.1 x), fun x => (h.2.2 x).elim k.2.2 (fun y => .inr (k.2.1 y))⟩
theorem RepR.drew {T : Nat → Prop} {v : Value} {L L' : List Nat} (a : World) : RepR T v L L' a a.drew :=
  ⟨(Kept.refl _ _).drew, fun h => h.all (S := fun _ => False) (Kept.refl _ _).drew Apart.none, fun h => .inl (h.all (S := fun _ => False) (Kept.refl _ _).drew Apart.none)⟩
/-- What each operation answers. -/
def RepG (T : Nat → Prop) (v : Value) (L' : List Nat) (vs : List Value) (i : Nat) (x : Value) (w : World) : Prop := x = vs.getD i undef ∧ (i = 7 → Owb w T v L')
theorem RepG.stays {T : Nat → Prop} {v : Value} {L L' : List Nat} {vs : List Value} (i : Nat) (x : Value) (w w' : World) (h : RepG T v L' vs i x w) (k : RepR T v L L' w w') : RepG T v L' vs i x w' := ⟨h.1, fun e => k.2.1 (h.2 e)⟩
theorem Owb.len {w : World} {T : Nat → Prop} {v : Value} {L : List Nat} (h : Owb w T v L) : Byt w T v L := h.byt
end Go.Proofs.YtdcbabgcbkdlhaaDoor
set_option maxRecDepth 100000
namespace Go.Proofs.YtdcbabgcbkdlhaaDoor
open Go.RowKit
theorem rem_bounds (q n : Nat) (h : 0 < n) : 0 ≤ Int.tmod (q : Int) (n : Int) ∧ Int.tmod (q : Int) (n : Int) < n := by
  rw [rem_nat]; have := Nat.mod_lt q h; omega
end Go.Proofs.YtdcbabgcbkdlhaaDoor
set_option maxRecDepth 100000
namespace Go.Proofs.YtdcbabgcbkdlhaaDoor
open Go.RowKit

def g9 : FD := putFr (newF 8 8 20) 0 (-3) 0 (blL [0, 0, 0, 10, 0, 0, 0, 20, 0, 0, 0, 20, 0, 0, 0, 20])
end Go.Proofs.YtdcbabgcbkdlhaaDoor
set_option maxRecDepth 100000
namespace Go.Proofs.YtdcbabgcbkdlhaaDoor
open Go.RowKit

theorem diff_no {a b : Nat → Int} (h : ∀ i, i < 16 → a i = b i) : (!sameB a b) = false := by rw [sameB_true h]; rfl

end Go.Proofs.YtdcbabgcbkdlhaaDoor
set_option maxRecDepth 100000
namespace Go.Proofs.YtdcbabgcbkdlhaaDoor
open Go.RowKit

def c12 : Ch := ⟨4, 2, 0, 0, 0, blL [3]⟩
set_option maxRecDepth 100000 in
theorem awake12 : chE 1 c12 = 0 ∧ chE 0 ⟨4, 0, 0, 0, 0, fun _ => 0⟩ = 120 ∧ chE 1 ⟨4, 0, 0, 0, 0, fun _ => 0⟩ = 0 ∧ buB (blL [100]) (blL [16]) 0 0 = 101 ∧ buB (blL [100]) (blL [16]) 0 5 = 1 ∧ ern 0 = 0 := by
  refine ⟨?_, ?_, ?_, ?_, ?_, ?_⟩ <;> decide +kernel
theorem awake12b : ∃ d, rdCh (pack (wrCh 1 c12 0 0 0 0)) 1 0 0 0 0 (some 0) = (d, 0, some (wrCh 1 c12 0 0 0 0).length) ∧ sameCh d c12 = true := by
  have h := awake12.1
  have e : wrCh 1 c12 0 0 0 0 = chBits c12 0 0 0 0 := if_pos h
  rw [e]
  have := ch_back (l := pack (chBits c12 0 0 0 0)) (a := 0) h (bitsAt_pack _)
  rwa [Nat.zero_add] at this

set_option maxHeartbeats 4000000 in
set_option maxRecDepth 100000 in
theorem bawake_any (w0 : World) (hA : ActsIn w0) (hO : ScanIn w0) (hs : StepsAt w0) (hw : Waves w0) :
  Calls Tryd.prog 9 #[] w0 fun e w' => e = .returned (.bool true) ∧ Kept (fun _ => False) w0 w' := by
 refine calls_wq (args := []) 98 Tryd.func9 rfl rfl (Nat.le_of_ble_eq_true rfl) ?_
 have K0 := Kept.refl (fun _ => False) w0
 have hf := Lib.hid awake12
 have hlen := wrCh_short 1 c12 0 0 0 0
 obtain ⟨d0, hd⟩ := awake12b
 obtain ⟨b0, hb0⟩ : ∃ b0, b0 = wrCh 1 c12 0 0 0 0 := ⟨_, rfl⟩
 rw [← hb0] at hd hlen
 have hd0 := Lib.hid hd
 clear hd
 refine wq_seq ?_
 refine wq_region ?_
 refine wl_v (.bool false) rfl rfl (y_asg rfl rfl ⟨rfl, rfl⟩) ?_
 refine wl_nil fun F1 hF2 => ?_
 have s3 : F1 98 = undef := (hF2 98).trans rfl
 clear hF2
 refine then_normal ?_
 refine wq_seq ?_
 refine wq_region ?_
 refine wl_call (R := fun v_ w_ => v_ = .tuple #[.bool (pastB (4)), .bool (nextB (4))] ∧ Kept (fun _ => False) w0 w_) rfl rfl (y_cs rfl rfl rfl (fun _ _ => by kernel_rfl) (ev_func _) (vsC rfl vsN) (bl_vectors (4)  _ (hA.all K0)  ) (fun e_ w_ h_ => ⟨_, h_.1, rfl, h_.2⟩)) ?_
 rintro _ w4 ⟨rfl, k5⟩
 have K6 := K0.trans k5 (fun _ _ x => x.elim)
 refine wl_v (.tuple #[.bool (pastB (4)), .bool (nextB (4))]) rfl rfl (y_mov rfl rfl ⟨rfl, rfl⟩) ?_
 refine wl_v (.bool (pastB (4))) rfl rfl (y_ext rfl rfl rfl ⟨rfl, rfl⟩) ?_
 refine wl_v (.bool (nextB (4))) rfl rfl (y_ext rfl rfl rfl ⟨rfl, rfl⟩) ?_
 refine wl_v (.bool (pastB (4))) rfl rfl (y_asg rfl rfl ⟨rfl, rfl⟩) ?_
 refine wl_v (.bool (nextB (4))) rfl rfl (y_asg rfl rfl ⟨rfl, rfl⟩) ?_
 refine wl_nil fun F7 hF8 => ?_
 have s9 := (hF8 98).trans s3
 have s10 : F7 1 = .bool (pastB (4)) := (hF8 1).trans rfl
 have s11 : F7 2 = .bool (nextB (4)) := (hF8 2).trans rfl
 clear hF8
 refine then_normal ?_
 refine wq_seq ?_
 refine wq_region ?_
 refine wl_call (R := fun v_ w_ => v_ = .tuple #[.bool (pastB (6)), .bool (nextB (6))] ∧ Kept (fun _ => False) w4 w_) rfl rfl (y_cs rfl rfl rfl (fun _ _ => by kernel_rfl) (ev_func _) (vsC rfl vsN) (bl_vectors (6)  _ (hA.all K6)  ) (fun e_ w_ h_ => ⟨_, h_.1, rfl, h_.2⟩)) ?_
 rintro _ w12 ⟨rfl, k13⟩
 have K14 := K6.trans k13 (fun _ _ x => x.elim)
 refine wl_v (.tuple #[.bool (pastB (6)), .bool (nextB (6))]) rfl rfl (y_mov rfl rfl ⟨rfl, rfl⟩) ?_
 refine wl_v (.bool (pastB (6))) rfl rfl (y_ext rfl rfl rfl ⟨rfl, rfl⟩) ?_
 refine wl_v (.bool (nextB (6))) rfl rfl (y_ext rfl rfl rfl ⟨rfl, rfl⟩) ?_
 refine wl_v (.bool (pastB (6))) rfl rfl (y_asg rfl rfl ⟨rfl, rfl⟩) ?_
 refine wl_v (.bool (nextB (6))) rfl rfl (y_asg rfl rfl ⟨rfl, rfl⟩) ?_
 refine wl_nil fun F15 hF16 => ?_
 have s17 := (hF16 98).trans s9
 have s18 := (hF16 1).trans s10
 have s19 := (hF16 2).trans s11
 have s20 : F15 3 = .bool (pastB (6)) := (hF16 3).trans rfl
 have s21 : F15 4 = .bool (nextB (6)) := (hF16 4).trans rfl
 clear hF16
 refine then_normal ?_
 refine wq_seq ?_
 refine wq_region ?_
 refine wl_v (.agg #[.slice none 0 0, .int .i64 0]) rfl rfl (y_buildR (cells := #[.slice none 0 0, .int .i64 0]) rfl (by kernel_rfl) rfl ⟨rfl, rfl⟩) ?_
 refine wl_box_wri rfl rfl rfl rfl fun p22 w23 T27 B26 g28 k24 => ?_
 have gr29 : Grew w0 noB (T27) := Grew.new K14 g28
 have K30 := K14.trans k24 (fun _ _ x => x.elim)
 refine wl_v (.pointer (some ⟨p22, 0, none⟩)) rfl rfl (y_asg rfl rfl ⟨rfl, rfl⟩) ?_
 refine wl_nil fun F31 hF32 => ?_
 have s33 := (hF32 98).trans s17
 have s34 := (hF32 1).trans s18
 have s35 := (hF32 2).trans s19
 have s36 := (hF32 3).trans s20
 have s37 := (hF32 4).trans s21
 have s38 : F31 5 = .pointer (some ⟨p22, 0, none⟩) := (hF32 5).trans rfl
 clear hF32
 refine then_normal ?_
 refine wq_seq ?_
 refine wq_region ?_
 refine wl_v (.agg #[.int .i64 (2), .int .i64 (0)]) rfl rfl (y_buildL (l' := [(0, .int .i64 (2))]) (cells := #[.int .i64 (2), .int .i64 (0)]) rfl (bpC rfl bpN) (by kernel_rfl) rfl ⟨rfl, rfl⟩) ?_
 refine wl_v (blkV (blL [3])) rfl rfl (y_buildR (cells := (arrL 16 (blL [3])).toArray) rfl (by kernel_rfl) rfl ⟨rfl, rfl⟩) ?_
 refine wl_v (.agg (chL 4 2 0 0 0 (blL [3])).toArray) rfl rfl (y_buildL (l' := [(0, .int .i64 (4)), (1, .agg #[.int .i64 (2), .int .i64 (0)]), (3, blkV (blL [3]))]) (cells := (chL 4 2 0 0 0 (blL [3])).toArray) rfl (bpC rfl (bpC rfl (bpC rfl bpN))) (by kernel_rfl) rfl ⟨rfl, rfl⟩) ?_
 refine wl_alloc_stc (n := 21) (vs := (chL 0 0 0 0 0 (fun _ => (0 : Int)))) rfl rfl rfl (by kernel_rfl) fun p39 w40 B42 g43 k41 => ?_
 have gr44 : Grew w0 noB (onB p39) := Grew.new K30 g43
 have ap45 : Apart (onB p39) (T27) := Apart.new g43 (B26).live
 have B46 := B26.all k41 Apart.none
 have K47 := K30.trans k41 (fun _ _ x => x.elim)
 refine wl_store_stc (us := (chL 4 2 0 0 0 (blL [3]))) stcT_choice rfl rfl rfl rfl rfl B42 rfl (oneI rfl (oneI rfl (oneI rfl (oneI rfl (oneI rfl (oneI rfl (oneI rfl (oneI rfl (oneI rfl (oneI rfl (oneI rfl (oneI rfl (oneI rfl (oneI rfl (oneI rfl (oneI rfl (oneI rfl (oneI rfl (oneI rfl (oneI rfl (oneI rfl oneN))))))))))))))))))))) fun w48 B49 k50 => ?_
 have B51 := B46.all k50 (fun i h x => (((ap45).symm) i h x))
 have K52 := K47.trans k50 (Grew.ok (S := fun _ => False) gr44 noB_le)
 refine wl_nil fun F53 hF54 => ?_
 have s55 := (hF54 98).trans s33
 have s56 := (hF54 1).trans s34
 have s57 := (hF54 2).trans s35
 have s58 := (hF54 3).trans s36
 have s59 := (hF54 4).trans s37
 have s60 := (hF54 5).trans s38
 have s61 : F53 6 = .pointer (some ⟨p39, 0, none⟩) := (hF54 6).trans rfl
 clear hF54
 refine then_normal ?_
 refine wq_seq ?_
 refine wq_region ?_
 refine wl_v (.pointer (some ⟨p22, 0, none⟩)) rfl rfl (y_mov rfl s60 ⟨rfl, rfl⟩) ?_
 refine wl_v (.agg (chL 4 2 0 0 0 (blL [3])).toArray) rfl rfl (y_load_stc stcT_choice rfl s61 B49 ⟨rfl, rfl⟩) ?_
 refine wl_v (.agg #[.int .i64 (0), .int .i64 (0)]) rfl rfl (y_buildL (l' := []) (cells := #[.int .i64 (0), .int .i64 (0)]) rfl bpN (by kernel_rfl) rfl ⟨rfl, rfl⟩) ?_
 refine wl_v (.agg #[.int .i64 (0), .int .i64 (0)]) rfl rfl (y_buildL (l' := []) (cells := #[.int .i64 (0), .int .i64 (0)]) rfl bpN (by kernel_rfl) rfl ⟨rfl, rfl⟩) ?_
 refine wl_call (R := fun v_ w_ => ∃ (T64 : Nat → Prop), .int .i64 (chE (1) (Ch.mk (4) (2) (0) (0) (0) (blL [3]))) = v_ ∧ Kept (T27) w48 w_ ∧ (Wri w_ T64 p22 ((([] : List Bool)) ++ wrCh (1) (Ch.mk (4) (2) (0) (0) (0) (blL [3])) (0) (0) (0) (0)) ∧ Grew w48 (T27) T64)) rfl rfl (y_cs rfl rfl rfl (fun _ _ => by kernel_rfl) (ev_func _) (vsC rfl (vsC rfl (vsC rfl (vsC rfl (vsC rfl vsN))))) (bl_write (p22) (([] : List Bool)) (1) (Ch.mk (4) (2) (0) (0) (0) (blL [3])) (0) (0) (0) (0) (T27) _ (hA.all K52) (hO.all K52) (aboveN gr29 hA) (by first | decide | (simp; omega) | simp) B51 ) (fun e_ w_ h_ => by obtain ⟨T64_, he_, hr_⟩ := h_; exact ⟨_, he_, T64_, rfl, hr_⟩)) ?_
 rintro _ w62 ⟨T64, rfl, k63, ⟨B65, g66⟩⟩
 have B67 := B49.all k63 (fun x => ((ap45) p39 rfl x))
 have K68 := K52.trans k63 (fun i hi x => ((Grew.ok (S := fun _ => False) gr29 noB_le) i hi x))
 refine wl_v (.int .i64 (chE (1) (Ch.mk (4) (2) (0) (0) (0) (blL [3])))) rfl rfl (y_asg rfl rfl ⟨rfl, rfl⟩) ?_
 refine wl_nil fun F71 hF72 => ?_
 have s73 := (hF72 98).trans s55
 have s74 := (hF72 1).trans s56
 have s75 := (hF72 2).trans s57
 have s76 := (hF72 3).trans s58
 have s77 := (hF72 4).trans s59
 have s78 := (hF72 5).trans s60
 have s79 := (hF72 6).trans s61
 have s80 : F71 7 = .int .i64 (chE (1) (Ch.mk (4) (2) (0) (0) (0) (blL [3]))) := (hF72 7).trans rfl
 clear hF72
 refine then_normal ?_
 refine wq_seq ?_
 have B81 : Wri w62 (T64) p22 (b0) := ((by rw [hb0]; exact B65))
 refine wq_region ?_
 refine wl_v (.pointer (some ⟨p22, 0, none⟩)) rfl rfl (y_mov rfl s78 ⟨rfl, rfl⟩) ?_
 refine wl_call (R := fun v_ w_ => ∃ (v82 : Value) (T85 : Nat → Prop), v82 = v_ ∧ Kept (fun _ => False) w62 w_ ∧ (Byt w_ T85 v82 (pack (b0)) ∧ Grew w62 noB T85)) rfl rfl (y_cs rfl rfl rfl (fun _ _ => by kernel_rfl) (ev_func _) (vsC rfl vsN) (t_bytes (p22) (b0) (T64) _ (by omega) B81 ) (fun e_ w_ h_ => by obtain ⟨v82_, T85_, he_, hr_⟩ := h_; exact ⟨_, he_, v82_, T85_, rfl, hr_⟩)) ?_
 rintro _ w83 ⟨v82, T85, rfl, k84, ⟨B86, g87⟩⟩
 have B89 := B67.all k84 id
 have K90 := K68.trans k84 (fun _ _ x => x.elim)
 refine wl_call (R := fun v_ w_ => ∃ (v94 : Nat) (T97 : Nat → Prop), .pointer (some ⟨v94, 0, none⟩) = v_ ∧ Kept (fun _ => False) w83 w_ ∧ (Rdi w_ T97 v94 ((pack (b0))) (some 0) ∧ Grew w83 noB T97)) rfl rfl (y_cs rfl rfl rfl (fun _ _ => by kernel_rfl) (ev_func _) (vsC rfl vsN) (t_new (v82) (pack (b0)) (T85) _ (by rw [pack_length]; unfold nbytes; omega) B86 ) (fun e_ w_ h_ => by obtain ⟨v94_, T97_, he_, hr_⟩ := h_; exact ⟨_, he_, v94_, T97_, rfl, hr_⟩)) ?_
 rintro _ w95 ⟨v94, T97, rfl, k96, ⟨B98, g99⟩⟩
 have B101 := B89.all k96 id
 have K103 := K90.trans k96 (fun _ _ x => x.elim)
 have gr104 : Grew w0 noB (T97) := Grew.new K90 g99
 have ap106 : Apart (T97) (onB p39) := Apart.new g99 (onB_live (B89).lt)
 refine wl_v (.agg #[.int .i64 (0), .int .i64 (0)]) rfl rfl (y_buildL (l' := []) (cells := #[.int .i64 (0), .int .i64 (0)]) rfl bpN (by kernel_rfl) rfl ⟨rfl, rfl⟩) ?_
 refine wl_v (.agg #[.int .i64 (0), .int .i64 (0)]) rfl rfl (y_buildL (l' := []) (cells := #[.int .i64 (0), .int .i64 (0)]) rfl bpN (by kernel_rfl) rfl ⟨rfl, rfl⟩) ?_
 refine wl_call (R := fun v_ w_ => ∃ (T110 : Nat → Prop), .tuple #[.agg (chW ((rdCh ((pack (b0))) (1) (0) (0) (0) (0) (some 0)).1)).toArray, .int .i64 ((rdCh ((pack (b0))) (1) (0) (0) (0) (0) (some 0)).2.1)] = v_ ∧ Kept (T97) w95 w_ ∧ (Rdi w_ T110 v94 (((pack (b0)))) (rdChT ((pack (b0))) (1) (0) (0) (0) (0) (some 0)) ∧ Grew w95 (T97) T110)) rfl rfl (y_cs rfl rfl rfl (fun _ _ => by kernel_rfl) (ev_func _) (vsC rfl (vsC rfl (vsC rfl (vsC rfl vsN)))) (bl_read (v94) ((pack (b0))) (some 0) (1) (0) (0) (0) (0) (T97) _ (hA.all K103) (hO.all K103) (aboveN gr104 hA) B98 ) (fun e_ w_ h_ => by obtain ⟨T110_, he_, hr_⟩ := h_; exact ⟨_, he_, T110_, rfl, hr_⟩)) ?_
 rintro _ w108 ⟨T110, rfl, k109, ⟨B111, g112⟩⟩
 have B114 := B101.all k109 (fun x => (((ap106).symm) p39 rfl x))
 have K116 := K103.trans k109 (fun i hi x => ((Grew.ok (S := fun _ => False) gr104 noB_le) i hi x))
 refine wl_v (.tuple #[.agg (chW ((rdCh ((pack (b0))) (1) (0) (0) (0) (0) (some 0)).1)).toArray, .int .i64 ((rdCh ((pack (b0))) (1) (0) (0) (0) (0) (some 0)).2.1)]) rfl rfl (y_mov rfl rfl ⟨rfl, rfl⟩) ?_
 refine wl_v (.agg (chW ((rdCh ((pack (b0))) (1) (0) (0) (0) (0) (some 0)).1)).toArray) rfl rfl (y_ext rfl rfl rfl ⟨rfl, rfl⟩) ?_
 refine wl_v (.int .i64 ((rdCh ((pack (b0))) (1) (0) (0) (0) (0) (some 0)).2.1)) rfl rfl (y_ext rfl rfl rfl ⟨rfl, rfl⟩) ?_
 refine wl_alloc_stc (n := 21) (vs := (chL 0 0 0 0 0 (fun _ => (0 : Int)))) rfl rfl rfl (by kernel_rfl) fun p121 w122 B124 g125 k123 => ?_
 have gr126 : Grew w0 noB (onB p121) := Grew.new K116 g125
 have ap128 : Apart (onB p121) (onB p39) := Apart.new g125 (onB_live (B114).lt)
 have B132 := B114.all k123 id
 have K135 := K116.trans k123 (fun _ _ x => x.elim)
 refine wl_store_stc (us := (chW ((rdCh ((pack (b0))) (1) (0) (0) (0) (0) (some 0)).1))) stcT_choice rfl rfl rfl rfl rfl B124 rfl (oneI rfl (oneI rfl (oneI rfl (oneI rfl (oneI rfl (oneI rfl (oneI rfl (oneI rfl (oneI rfl (oneI rfl (oneI rfl (oneI rfl (oneI rfl (oneI rfl (oneI rfl (oneI rfl (oneI rfl (oneI rfl (oneI rfl (oneI rfl (oneI rfl oneN))))))))))))))))))))) fun w136 B137 k138 => ?_
 have B140 := B132.all k138 (fun x => (((ap128).symm) p39 rfl x))
 have K143 := K135.trans k138 (Grew.ok (S := fun _ => False) gr126 noB_le)
 refine wl_v (.int .i64 ((rdCh ((pack (b0))) (1) (0) (0) (0) (0) (some 0)).2.1)) rfl rfl (y_asg rfl rfl ⟨rfl, rfl⟩) ?_
 refine wl_nil fun F144 hF145 => ?_
 have s146 := (hF145 98).trans s73
 have s147 := (hF145 1).trans s74
 have s148 := (hF145 2).trans s75
 have s149 := (hF145 3).trans s76
 have s150 := (hF145 4).trans s77
 have s151 := (hF145 6).trans s79
 have s152 := (hF145 7).trans s80
 have s153 : F144 8 = .pointer (some ⟨p121, 0, none⟩) := (hF145 8).trans rfl
 have s154 : F144 9 = .int .i64 ((rdCh ((pack (b0))) (1) (0) (0) (0) (0) (some 0)).2.1) := (hF145 9).trans rfl
 clear hF145
 refine then_normal ?_
 refine wq_seq ?_
 refine wq_region ?_
 refine wl_v (blkV (blL [100])) rfl rfl (y_buildR (cells := (arrL 16 (blL [100])).toArray) rfl (by kernel_rfl) rfl ⟨rfl, rfl⟩) ?_
 refine wl_v (blkV (blL [16])) rfl rfl (y_buildR (cells := (arrL 16 (blL [16])).toArray) rfl (by kernel_rfl) rfl ⟨rfl, rfl⟩) ?_
 refine wl_v (.agg (chL 0 0 0 0 0 (blL [16])).toArray) rfl rfl (y_buildL (l' := [(3, blkV (blL [16]))]) (cells := (chL 0 0 0 0 0 (blL [16])).toArray) rfl (bpC rfl bpN) (by kernel_rfl) rfl ⟨rfl, rfl⟩) ?_
 refine wl_call (R := fun v_ w_ => v_ = .tuple #[blkV (buB (blL [100]) (Ch.mk (0) (0) (0) (0) (0) (blL [16])).b (0)), .int .i64 (ern (0))] ∧ Kept (fun _ => False) w136 w_) rfl rfl (y_cs rfl rfl rfl (fun _ _ => by kernel_rfl) (ev_func _) (vsC rfl (vsC rfl (vsC rfl vsN))) (bl_build (blL [100]) (Ch.mk (0) (0) (0) (0) (0) (blL [16])) (0)  _ (hs.all K143) (hw.all K143)  ) (fun e_ w_ h_ => ⟨_, h_.1, rfl, h_.2⟩)) ?_
 rintro _ w155 ⟨rfl, k156⟩
 have B158 := B140.all k156 id
 have B161 := B137.all k156 id
 have K162 := K143.trans k156 (fun _ _ x => x.elim)
 refine wl_v (.tuple #[blkV (buB (blL [100]) (Ch.mk (0) (0) (0) (0) (0) (blL [16])).b (0)), .int .i64 (ern (0))]) rfl rfl (y_mov rfl rfl ⟨rfl, rfl⟩) ?_
 refine wl_v (blkV (buB (blL [100]) (Ch.mk (0) (0) (0) (0) (0) (blL [16])).b (0))) rfl rfl (y_ext rfl rfl rfl ⟨rfl, rfl⟩) ?_
 refine wl_v (.int .i64 (ern (0))) rfl rfl (y_ext rfl rfl rfl ⟨rfl, rfl⟩) ?_
 refine wl_alloc_blk rfl rfl rfl blkT_block.2.2 fun p163 w164 e167 B165 k166 => ?_
 have g168 := onB_new (Nat.le_of_eq e167.symm)
 have gr169 : Grew w0 noB (onB p163) := Grew.new K162 g168
 have ap171 : Apart (onB p163) (onB p39) := Apart.new g168 (onB_live (B158).lt)
 have ap174 : Apart (onB p163) (onB p121) := Apart.new g168 (onB_live (B161).lt)
 clear e167 g168
 have B176 := B158.all k166 id
 have B179 := B161.all k166 id
 have K180 := K162.trans k166 (fun _ _ x => x.elim)
 refine wl_store_blk blkT_block rfl rfl rfl rfl rfl B165 fun w181 B182 k183 => ?_
 have B185 := B176.all k183 (fun x => (((ap171).symm) p39 rfl x))
 have B188 := B179.all k183 (fun x => (((ap174).symm) p121 rfl x))
 have K189 := K180.trans k183 (Grew.ok (S := fun _ => False) gr169 noB_le)
 refine wl_v (.int .i64 (ern (0))) rfl rfl (y_asg rfl rfl ⟨rfl, rfl⟩) ?_
 refine wl_nil fun F190 hF191 => ?_
 have s192 := (hF191 98).trans s146
 have s193 := (hF191 1).trans s147
 have s194 := (hF191 2).trans s148
 have s195 := (hF191 3).trans s149
 have s196 := (hF191 4).trans s150
 have s197 := (hF191 6).trans s151
 have s198 := (hF191 7).trans s152
 have s199 := (hF191 8).trans s153
 have s200 := (hF191 9).trans s154
 have s201 : F190 10 = .pointer (some ⟨p163, 0, none⟩) := (hF191 10).trans rfl
 have s202 : F190 11 = .int .i64 (ern (0)) := (hF191 11).trans rfl
 clear hF191
 refine then_normal ?_
 refine wq_seq ?_
 have s203 : F190 1 = .bool true := s193.trans (congrArg Value.bool ((by decide)))
 have s204 : F190 2 = .bool false := s194.trans (congrArg Value.bool ((by decide)))
 have s205 : F190 3 = .bool true := s195.trans (congrArg Value.bool ((by decide)))
 have s206 : F190 4 = .bool true := s196.trans (congrArg Value.bool ((by decide)))
 refine wq_region ?_
 refine wl_v (.bool true) rfl rfl (y_mov rfl s203 ⟨rfl, rfl⟩) ?_
 refine wl_v (.bool true) rfl rfl (y_mov rfl rfl ⟨rfl, rfl⟩) ?_
 refine wl_vw (.bool false) 1 true 47 rfl rfl rfl rfl rfl (y_mov rfl s204 ⟨rfl, rfl⟩) ?_
 refine wl_vw (.bool true) 1 true 47 rfl rfl rfl rfl rfl (y_not rfl rfl rfl ⟨rfl, rfl⟩) ?_
 refine wl_v (.bool true) rfl rfl (y_pickT rfl rfl rfl ⟨rfl, rfl⟩) ?_
 refine wl_v (.bool true) rfl rfl (y_mov rfl rfl ⟨rfl, rfl⟩) ?_
 refine wl_vw (.bool true) 5 true 51 rfl rfl rfl rfl rfl (y_mov rfl s205 ⟨rfl, rfl⟩) ?_
 refine wl_v (.bool true) rfl rfl (y_pickT rfl rfl rfl ⟨rfl, rfl⟩) ?_
 refine wl_v (.bool true) rfl rfl (y_mov rfl rfl ⟨rfl, rfl⟩) ?_
 refine wl_vw (.bool true) 8 true 54 rfl rfl rfl rfl rfl (y_mov rfl s206 ⟨rfl, rfl⟩) ?_
 refine wl_v (.bool true) rfl rfl (y_pickT rfl rfl rfl ⟨rfl, rfl⟩) ?_
 refine wl_v (.bool true) rfl rfl (y_mov rfl rfl ⟨rfl, rfl⟩) ?_
 refine wl_vw (.agg (chL 4 0 0 0 0 (fun _ => (0 : Int))).toArray) 11 true 57 rfl rfl rfl rfl rfl (y_buildL (l' := [(0, .int .i64 (4))]) (cells := (chL 4 0 0 0 0 (fun _ => (0 : Int))).toArray) rfl (bpC rfl bpN) (by kernel_rfl) rfl ⟨rfl, rfl⟩) ?_
 refine wl_callw (R := fun v_ w_ => v_ = .int .i64 (chE (0) (Ch.mk (4) (0) (0) (0) (0) (fun _ => (0 : Int)))) ∧ Kept (fun _ => False) w181 w_) 11 true 57 rfl rfl rfl rfl rfl (y_cs rfl rfl rfl (fun _ _ => by kernel_rfl) (ev_func _) (vsC rfl (vsC rfl vsN)) (bl_check (0) (Ch.mk (4) (0) (0) (0) (0) (fun _ => (0 : Int)))  _ (hA.all K189)  ) (fun e_ w_ h_ => ⟨_, h_.1, rfl, h_.2⟩)) ?_
 rintro _ w207 ⟨rfl, k208⟩
 have B210 := B185.all k208 id
 have B213 := B188.all k208 id
 have B214 := B182.all k208 id
 have K215 := K189.trans k208 (fun _ _ x => x.elim)
 refine wl_vw (.bool true) 11 true 57 rfl rfl rfl rfl rfl (y_eqlI rfl rfl rfl (decide_eq_true hf.out.2.1) ⟨rfl, rfl⟩) ?_
 refine wl_v (.bool true) rfl rfl (y_pickT rfl rfl rfl ⟨rfl, rfl⟩) ?_
 refine wl_v (.bool true) rfl rfl (y_mov rfl rfl ⟨rfl, rfl⟩) ?_
 refine wl_vw (.agg (chL 4 0 0 0 0 (fun _ => (0 : Int))).toArray) 16 true 62 rfl rfl rfl rfl rfl (y_buildL (l' := [(0, .int .i64 (4))]) (cells := (chL 4 0 0 0 0 (fun _ => (0 : Int))).toArray) rfl (bpC rfl bpN) (by kernel_rfl) rfl ⟨rfl, rfl⟩) ?_
 refine wl_callw (R := fun v_ w_ => v_ = .int .i64 (chE (1) (Ch.mk (4) (0) (0) (0) (0) (fun _ => (0 : Int)))) ∧ Kept (fun _ => False) w207 w_) 16 true 62 rfl rfl rfl rfl rfl (y_cs rfl rfl rfl (fun _ _ => by kernel_rfl) (ev_func _) (vsC rfl (vsC rfl vsN)) (bl_check (1) (Ch.mk (4) (0) (0) (0) (0) (fun _ => (0 : Int)))  _ (hA.all K215)  ) (fun e_ w_ h_ => ⟨_, h_.1, rfl, h_.2⟩)) ?_
 rintro _ w216 ⟨rfl, k217⟩
 have B219 := B210.all k217 id
 have B222 := B213.all k217 id
 have B223 := B214.all k217 id
 have K224 := K215.trans k217 (fun _ _ x => x.elim)
 refine wl_vw (.bool true) 16 true 62 rfl rfl rfl rfl rfl (y_eqlI rfl rfl rfl (decide_eq_true hf.out.2.2.1) ⟨rfl, rfl⟩) ?_
 refine wl_v (.bool true) rfl rfl (y_pickT rfl rfl rfl ⟨rfl, rfl⟩) ?_
 refine wl_v (.bool true) rfl rfl (y_mov rfl rfl ⟨rfl, rfl⟩) ?_
 refine wl_vw (.int .i64 (chE (1) (Ch.mk (4) (2) (0) (0) (0) (blL [3])))) 21 true 67 rfl rfl rfl rfl rfl (y_mov rfl s198 ⟨rfl, rfl⟩) ?_
 refine wl_vw (.bool true) 21 true 67 rfl rfl rfl rfl rfl (y_eqlI rfl rfl rfl (decide_eq_true hf.out.1) ⟨rfl, rfl⟩) ?_
 refine wl_v (.bool true) rfl rfl (y_pickT rfl rfl rfl ⟨rfl, rfl⟩) ?_
 refine wl_v (.bool true) rfl rfl (y_mov rfl rfl ⟨rfl, rfl⟩) ?_
 refine wl_vw (.agg (chW ((rdCh ((pack (b0))) (1) (0) (0) (0) (0) (some 0)).1)).toArray) 25 true 71 rfl rfl rfl rfl rfl (y_load_stc stcT_choice rfl s199 B222 ⟨rfl, rfl⟩) ?_
 refine wl_vw (.agg (chL 4 2 0 0 0 (blL [3])).toArray) 25 true 71 rfl rfl rfl rfl rfl (y_load_stc stcT_choice rfl s197 B219 ⟨rfl, rfl⟩) ?_
 refine wl_vw (.bool true) 25 true 71 rfl rfl rfl rfl rfl (y_eqlCh (c := (rdCh ((pack (b0))) (1) (0) (0) (0) (0) (some 0)).1) (d := Ch.mk (4) (2) (0) (0) (0) (blL [3])) rfl rfl rfl ((by rw [hd0.out.1]; exact hd0.out.2)) ⟨rfl, rfl⟩) ?_
 refine wl_v (.bool true) rfl rfl (y_pickT rfl rfl rfl ⟨rfl, rfl⟩) ?_
 refine wl_v (.bool true) rfl rfl (y_mov rfl rfl ⟨rfl, rfl⟩) ?_
 refine wl_vw (.int .i64 ((rdCh ((pack (b0))) (1) (0) (0) (0) (0) (some 0)).2.1)) 30 true 76 rfl rfl rfl rfl rfl (y_mov rfl s200 ⟨rfl, rfl⟩) ?_
 refine wl_vw (.bool true) 30 true 76 rfl rfl rfl rfl rfl (y_eqlI rfl rfl rfl (decide_eq_true (by rw [hd0.out.1])) ⟨rfl, rfl⟩) ?_
 refine wl_v (.bool true) rfl rfl (y_pickT rfl rfl rfl ⟨rfl, rfl⟩) ?_
 refine wl_v (.bool true) rfl rfl (y_mov rfl rfl ⟨rfl, rfl⟩) ?_
 refine wl_vw (.pointer (some ⟨p163, 0, none⟩)) 34 true 80 rfl rfl rfl rfl rfl (y_atR (0) (s := 1) rfl s201 rfl (by omega) Tryd.underlying25 (by omega) (by kernel_rfl) (by omega) ⟨rfl, rfl⟩) ?_
 refine wl_vw (.int .i64 ((buB (blL [100]) (Ch.mk (0) (0) (0) (0) (0) (blL [16])).b (0)) (0))) 34 true 80 rfl rfl rfl rfl rfl (y_ldR rfl rfl Tryd.underlying3 ((B223).cell (by omega)) ⟨rfl, rfl⟩) ?_
 refine wl_vw (.bool true) 34 true 80 rfl rfl rfl rfl rfl (y_eqlI rfl rfl rfl (decide_eq_true hf.out.2.2.2.1) ⟨rfl, rfl⟩) ?_
 refine wl_v (.bool true) rfl rfl (y_pickT rfl rfl rfl ⟨rfl, rfl⟩) ?_
 refine wl_v (.bool true) rfl rfl (y_mov rfl rfl ⟨rfl, rfl⟩) ?_
 refine wl_vw (.pointer (some ⟨p163, 5, none⟩)) 39 true 85 rfl rfl rfl rfl rfl (y_atR (5) (s := 1) rfl s201 rfl (by omega) Tryd.underlying25 (by omega) (by kernel_rfl) (by omega) ⟨rfl, rfl⟩) ?_
 refine wl_vw (.int .i64 ((buB (blL [100]) (Ch.mk (0) (0) (0) (0) (0) (blL [16])).b (0)) (5))) 39 true 85 rfl rfl rfl rfl rfl (y_ldR rfl rfl Tryd.underlying3 ((B223).cell (by omega)) ⟨rfl, rfl⟩) ?_
 refine wl_vw (.bool true) 39 true 85 rfl rfl rfl rfl rfl (y_eqlI rfl rfl rfl (decide_eq_true hf.out.2.2.2.2.1) ⟨rfl, rfl⟩) ?_
 refine wl_v (.bool true) rfl rfl (y_pickT rfl rfl rfl ⟨rfl, rfl⟩) ?_
 refine wl_v (.bool true) rfl rfl (y_mov rfl rfl ⟨rfl, rfl⟩) ?_
 refine wl_vw (.int .i64 (ern (0))) 44 true 90 rfl rfl rfl rfl rfl (y_mov rfl s202 ⟨rfl, rfl⟩) ?_
 refine wl_vw (.bool true) 44 true 90 rfl rfl rfl rfl rfl (y_eqlI rfl rfl rfl (decide_eq_true hf.out.2.2.2.2.2) ⟨rfl, rfl⟩) ?_
 refine wl_v (.bool true) rfl rfl (y_pickT rfl rfl rfl ⟨rfl, rfl⟩) ?_
 refine wl_v (.bool true) rfl rfl (y_mov rfl rfl ⟨rfl, rfl⟩) ?_
 refine wl_v (.bool true) rfl rfl (y_pickT rfl rfl rfl ⟨rfl, rfl⟩) ?_
 refine wl_v (.bool true) rfl rfl (y_mov rfl rfl ⟨rfl, rfl⟩) ?_
 refine wl_v (.bool true) rfl rfl (y_pickT rfl rfl rfl ⟨rfl, rfl⟩) ?_
 refine wl_v (.bool true) rfl rfl (y_asg rfl rfl ⟨rfl, rfl⟩) ?_
 refine wl_nil fun F225 hF226 => ?_
 have s227 := (hF226 98).trans s192
 have s228 : F225 0 = .bool true := (hF226 0).trans rfl
 clear hF226
 refine then_normal ?_
 refine wq_ret ?_
 exact end_tmp (v := .bool true) s227 rfl rfl s228 ⟨rfl, K224⟩

def zFD : FD := FD.mk 0 0 [] [] []
theorem z_no (k x y : Int) : ¬ placeF zFD k x y := fun h => absurd h.1 (by decide)
theorem still_pure {F : FD} {K U V : Int} (hB : Bytes3 F) (hpl : placeF F K U V) : ∀ (m : Int) (f0 : FD) (b : Nat → Int), (m = 4 ∨ m = 5 ∨ m = 6) → (∀ i, i < 16 → cpB f0 F F K U V ⟨m, 0, 0, 0, 0, b⟩ i = getF F K U V i) ∧ cpE f0 F F K U V ⟨m, 0, 0, 0, 0, b⟩ = 0 := by
  have hv0 : vecOk 0 0 := by decide
  have hy := mv_yes hpl hv0
  have hs0 : ∀ i, i < 16 → mvB F K U V 0 0 i = getF F K U V i := fun i hi => by
    rw [hy.2]
    have e := mv_even (f := F) (k := K) (u := U) (t := V) (a := 0) (c := 0) ⟨hpl.2.2.2.1, hpl.2.2.2.2.1⟩ ⟨hpl.2.2.2.2.2.1, hpl.2.2.2.2.2.2⟩ (by omega) (by omega) i hi
    simpa using e
  intro m f0 b hm
  rcases hm with rfl | rfl | rfl
  · have h := cp_past (f := f0) (p := F) (n := F) (k := K) (x := U) (y := V) (c := ⟨4, 0, 0, 0, 0, b⟩) rfl
    exact ⟨fun i hi => by rw [h.1]; exact hs0 i hi, by rw [h.2]; exact hy.1⟩
  · have h := cp_next (f := f0) (p := F) (n := F) (k := K) (x := U) (y := V) (c := ⟨5, 0, 0, 0, 0, b⟩) rfl
    exact ⟨fun i hi => by rw [h.1]; exact hs0 i hi, by rw [h.2]; exact hy.1⟩
  · have h := cp_both (f := f0) (p := F) (n := F) (k := K) (x := U) (y := V) (c := ⟨6, 0, 0, 0, 0, b⟩) rfl hy.1 hy.1
    refine ⟨fun i hi => ?_, h.2⟩
    rw [h.1]
    show bothB (mvB F K U V 0 0) (mvB F K U V 0 0) i = _
    have e := hs0 i hi
    have hb : 0 ≤ mvB F K U V 0 0 i ∧ mvB F K U V 0 0 i ≤ 255 := by rw [e]; exact getF_le hB _ _ _ _
    rw [both_self _ i hb, e]
theorem still_two {F : FD} (k x y : Int) (b : Nat → Int) : cpE zFD F F k x y ⟨2, 0, 0, 0, 0, b⟩ = 70 :=
  (cp_own (f := zFD) (p := F) (n := F) (k := k) (x := x) (y := y) (c := ⟨2, 0, 0, 0, 0, b⟩) ⟨by show (0 : Int) ≤ 2; decide, by show (2 : Int) < 4; decide⟩).2.trans (pred_no (z_no k x y)).1
set_option maxHeartbeats 4000000 in
set_option maxRecDepth 100000 in
theorem bstill_walk (w h : Nat) (v : Value) (l : List Nat) (p x y : Nat) (T_s : Nat → Prop) (w0 : World) (hA : ActsIn w0) (hO : ScanIn w0) (hs : StepsAt w0) (hw : Waves w0) (hw2 : w < 256) (hh : h < 256) (hp : p < 256) (hx : x < 256) (hy : y < 256) (h_s : Byt w0 T_s v (l)) :
  Calls Tryd.prog 7 #[.int .u8 (((w : Nat) : Int)), .int .u8 (((h : Nat) : Int)), v, .int .u8 (((p : Nat) : Int)), .int .u8 (((x : Nat) : Int)), .int .u8 (((y : Nat) : Int))] w0 fun e w' => e = .returned (.bool true) ∧ Kept (fun _ => False) w0 w' := by
 refine calls_wq (args := [.int .u8 (((w : Nat) : Int)), .int .u8 (((h : Nat) : Int)), v, .int .u8 (((p : Nat) : Int)), .int .u8 (((x : Nat) : Int)), .int .u8 (((y : Nat) : Int))]) 86 Tryd.func7 rfl rfl (Nat.le_of_ble_eq_true rfl) ?_
 have K0 := Kept.refl (fun _ => False) w0
 obtain ⟨K, hK⟩ : ∃ K : Int, K = Int.tmod (p : Int) 3 := ⟨_, rfl⟩
 obtain ⟨U, hU⟩ : ∃ U : Int, U = Int.tmod (x : Int) 25 := ⟨_, rfl⟩
 obtain ⟨V, hV⟩ : ∃ V : Int, V = Int.tmod (y : Int) 25 := ⟨_, rfl⟩
 have hK2 : 0 ≤ K ∧ K < 3 := by rw [hK]; exact rem_bounds p 3 (by omega)
 have hU2 : 0 ≤ U ∧ U < 25 := by rw [hU]; exact rem_bounds x 25 (by omega)
 have hV2 : 0 ≤ V ∧ V < 25 := by rw [hV]; exact rem_bounds y 25 (by omega)
 have hpl : placeF (mkF w h l) K U V := ⟨mkF_ok w h l, by omega, by omega, by omega, by omega, by omega, by omega⟩
 have hst := still_pure (mkF_bytes w h l) hpl
 have g_s := Grew.refl w0 T_s
 refine wq_seq ?_
 refine wq_region ?_
 refine wl_v (.bool false) rfl rfl (y_asg rfl rfl ⟨rfl, rfl⟩) ?_
 refine wl_nil fun F1 hF2 => ?_
 have s3 : F1 0 = .int .u8 (((w : Nat) : Int)) := (hF2 0).trans rfl
 have s4 : F1 1 = .int .u8 (((h : Nat) : Int)) := (hF2 1).trans rfl
 have s5 : F1 2 = v := (hF2 2).trans rfl
 have s6 : F1 3 = .int .u8 (((p : Nat) : Int)) := (hF2 3).trans rfl
 have s7 : F1 4 = .int .u8 (((x : Nat) : Int)) := (hF2 4).trans rfl
 have s8 : F1 5 = .int .u8 (((y : Nat) : Int)) := (hF2 5).trans rfl
 have s9 : F1 86 = undef := (hF2 86).trans rfl
 clear hF2
 refine then_normal ?_
 refine wq_seq ?_
 refine wq_region ?_
 refine wl_call (R := fun v_ w_ => v_ = .bool true ∧ Kept (fun _ => False) w0 w_) rfl rfl (y_cs rfl rfl rfl (fun _ _ => by kernel_rfl) (ev_func _) vsN (bawake_any   _ (hA.all K0) (hO.all K0) (hs.all K0) (hw.all K0)  ) (fun e_ w_ h_ => ⟨_, h_.1, rfl, h_.2⟩)) ?_
 rintro _ w10 ⟨rfl, k11⟩
 have B12 := h_s.all k11 Apart.none
 have K13 := K0.trans k11 (fun _ _ x => x.elim)
 refine wl_v (.bool true) rfl rfl (y_asg rfl rfl ⟨rfl, rfl⟩) ?_
 refine wl_nil fun F14 hF15 => ?_
 have s16 := (hF15 0).trans s3
 have s17 := (hF15 1).trans s4
 have s18 := (hF15 2).trans s5
 have s19 := (hF15 3).trans s6
 have s20 := (hF15 4).trans s7
 have s21 := (hF15 5).trans s8
 have s22 := (hF15 86).trans s9
 have s23 : F14 13 = .bool true := (hF15 13).trans rfl
 clear hF15
 refine then_normal ?_
 refine wq_seq ?_
 refine wq_seq ?_
 refine wq_region ?_
 refine wl_v (v) rfl rfl (y_mov rfl s18 ⟨rfl, rfl⟩) ?_
 refine wl_v (.int .i64 ((((l).length : Nat) : Int))) rfl rfl (y_lenV rfl rfl rfl B12 ⟨rfl, rfl⟩) ?_
 refine wl_v (.bool (decide ((300) < ((((l).length : Nat) : Int))))) rfl rfl (y_gtr rfl rfl rfl rfl ⟨rfl, rfl⟩) ?_
 refine wl_nil fun F24 hF25 => ?_
 have s26 := (hF25 0).trans s16
 have s27 := (hF25 1).trans s17
 have s28 := (hF25 2).trans s18
 have s29 := (hF25 3).trans s19
 have s30 := (hF25 4).trans s20
 have s31 := (hF25 5).trans s21
 have s32 := (hF25 86).trans s22
 have s33 := (hF25 13).trans s23
 have s34 : F24 27 = .bool (decide ((300) < ((((l).length : Nat) : Int)))) := (hF25 27).trans rfl
 clear hF25
 refine then_normal ?_
 refine wq_cond s34 (fun c35 => ?_) (fun c35 => ?_)
 ·replace c35 := of_decide_eq_true c35
  refine wq_seq ?_
  refine wq_region ?_
  refine wl_v (.bool true) rfl rfl (y_mov rfl s33 ⟨rfl, rfl⟩) ?_
  refine wl_v (.bool true) rfl rfl (y_asg rfl rfl ⟨rfl, rfl⟩) ?_
  refine wl_nil fun F36 hF37 => ?_
  have s38 := (hF37 86).trans s32
  have s39 : F36 12 = .bool true := (hF37 12).trans rfl
  clear hF37
  refine then_normal ?_
  refine wq_ret ?_
  refine then_ret ?_
  exact end_tmp (v := .bool true) s38 rfl rfl s39 ⟨rfl, K13⟩
 ·replace c35 := of_decide_eq_false c35
  refine wq_skip ?_
  refine then_normal ?_
  refine wq_seq ?_
  refine wq_region ?_
  refine wl_v (.int .u8 (((w : Nat) : Int))) rfl rfl (y_mov rfl s26 ⟨rfl, rfl⟩) ?_
  refine wl_v (.int .u8 (((h : Nat) : Int))) rfl rfl (y_mov rfl s27 ⟨rfl, rfl⟩) ?_
  refine wl_v (v) rfl rfl (y_mov rfl s28 ⟨rfl, rfl⟩) ?_
  refine wl_call (R := fun v_ w_ => ∃ (v40 : Value) (T45 : Nat → Prop) (v41 : Value) (T46 : Nat → Prop) (v42 : Value) (T47 : Nat → Prop), .agg #[.int .i64 ((mkF (w) (h) (l)).W), .int .i64 ((mkF (w) (h) (l)).H), v40, v41, v42] = v_ ∧ Kept (fun _ => False) w10 w_ ∧ (Owb w_ T45 v40 ((mkF (w) (h) (l)).p0) ∧ Grew w10 noB T45) ∧ (Owb w_ T46 v41 ((mkF (w) (h) (l)).p1) ∧ Grew w10 noB T46) ∧ (Owb w_ T47 v42 ((mkF (w) (h) (l)).p2) ∧ Grew w10 noB T47) ∧ Apart T45 T46 ∧ Apart T45 T47 ∧ Apart T46 T47) rfl rfl (y_cs rfl rfl rfl (fun _ _ => by kernel_rfl) (ev_func _) (vsC rfl (vsC rfl (vsC rfl vsN))) (flaw_frame (w) (h) (v) (l) (T_s) _ (by omega) (by omega) B12 ) (fun e_ w_ h_ => by obtain ⟨v40_, T45_, v41_, T46_, v42_, T47_, he_, hr_⟩ := h_; exact ⟨_, he_, v40_, T45_, v41_, T46_, v42_, T47_, rfl, hr_⟩)) ?_
  rintro _ w43 ⟨v40, T45, v41, T46, v42, T47, rfl, k44, ⟨B48, g51⟩, ⟨B49, g52⟩, ⟨B50, g53⟩, ap54, ap55, ap56⟩
  have K58 := K13.trans k44 (fun _ _ x => x.elim)
  refine wl_alloc_stc (n := 5) (vs := [.int .i64 (0), .int .i64 (0), .slice none 0 0, .slice none 0 0, .slice none 0 0]) rfl rfl rfl (by kernel_rfl) fun p65 w66 B68 g69 k67 => ?_
  have gr70 : Grew w0 noB (onB p65) := Grew.new K58 g69
  have ap72 : Apart (onB p65) (T45) := Apart.new g69 (B48).live
  have ap73 : Apart (onB p65) (T46) := Apart.new g69 (B49).live
  have ap74 : Apart (onB p65) (T47) := Apart.new g69 (B50).live
  have B76 := B48.all k67 Apart.none
  have B77 := B49.all k67 Apart.none
  have B78 := B50.all k67 Apart.none
  have K79 := K58.trans k67 (fun _ _ x => x.elim)
  refine wl_store_stc (us := [.int .i64 ((mkF (w) (h) (l)).W), .int .i64 ((mkF (w) (h) (l)).H), v40, v41, v42]) stcT_frame rfl rfl rfl rfl rfl B68 rfl (oneI rfl (oneI rfl (oneI (B76).one (oneI (B77).one (oneI (B78).one oneN))))) fun w80 B81 k82 => ?_
  have B84 := B76.all k82 (fun i h x => (((ap72).symm) i h x))
  have B85 := B77.all k82 (fun i h x => (((ap73).symm) i h x))
  have B86 := B78.all k82 (fun i h x => (((ap74).symm) i h x))
  have K87 := K79.trans k82 (Grew.ok (S := fun _ => False) gr70 noB_le)
  refine wl_nil fun F88 hF89 => ?_
  have s90 := (hF89 3).trans s29
  have s91 := (hF89 4).trans s30
  have s92 := (hF89 5).trans s31
  have s93 := (hF89 86).trans s32
  have s94 := (hF89 13).trans s33
  have s95 : F88 14 = .pointer (some ⟨p65, 0, none⟩) := (hF89 14).trans rfl
  clear hF89
  refine then_normal ?_
  refine wq_seq ?_
  refine wq_region ?_
  refine wl_v (.int .u8 (((p : Nat) : Int))) rfl rfl (y_mov rfl s90 ⟨rfl, rfl⟩) ?_
  refine wl_v (.int .i64 (((p : Nat) : Int))) rfl rfl (y_convR rfl rfl Tryd.underlying5 Tryd.underlying3 (i64_i rfl (by omega)) ⟨rfl, rfl⟩) ?_
  refine wl_v (.int .i64 (K)) rfl rfl (y_rem rfl rfl rfl (by first | decide | omega) (hK.symm) ⟨rfl, rfl⟩) ?_
  refine wl_v (.int .i64 (K)) rfl rfl (y_asg rfl rfl ⟨rfl, rfl⟩) ?_
  refine wl_nil fun F96 hF97 => ?_
  have s98 := (hF97 4).trans s91
  have s99 := (hF97 5).trans s92
  have s100 := (hF97 86).trans s93
  have s101 := (hF97 13).trans s94
  have s102 := (hF97 14).trans s95
  have s103 : F96 15 = .int .i64 (K) := (hF97 15).trans rfl
  clear hF97
  refine then_normal ?_
  refine wq_seq ?_
  refine wq_region ?_
  refine wl_v (.int .u8 (((x : Nat) : Int))) rfl rfl (y_mov rfl s98 ⟨rfl, rfl⟩) ?_
  refine wl_v (.int .i64 (((x : Nat) : Int))) rfl rfl (y_convR rfl rfl Tryd.underlying5 Tryd.underlying3 (i64_i rfl (by omega)) ⟨rfl, rfl⟩) ?_
  refine wl_v (.int .i64 (U)) rfl rfl (y_rem rfl rfl rfl (by first | decide | omega) (hU.symm) ⟨rfl, rfl⟩) ?_
  refine wl_v (.int .i64 (U)) rfl rfl (y_asg rfl rfl ⟨rfl, rfl⟩) ?_
  refine wl_nil fun F104 hF105 => ?_
  have s106 := (hF105 5).trans s99
  have s107 := (hF105 86).trans s100
  have s108 := (hF105 13).trans s101
  have s109 := (hF105 14).trans s102
  have s110 := (hF105 15).trans s103
  have s111 : F104 16 = .int .i64 (U) := (hF105 16).trans rfl
  clear hF105
  refine then_normal ?_
  refine wq_seq ?_
  refine wq_region ?_
  refine wl_v (.int .u8 (((y : Nat) : Int))) rfl rfl (y_mov rfl s106 ⟨rfl, rfl⟩) ?_
  refine wl_v (.int .i64 (((y : Nat) : Int))) rfl rfl (y_convR rfl rfl Tryd.underlying5 Tryd.underlying3 (i64_i rfl (by omega)) ⟨rfl, rfl⟩) ?_
  refine wl_v (.int .i64 (V)) rfl rfl (y_rem rfl rfl rfl (by first | decide | omega) (hV.symm) ⟨rfl, rfl⟩) ?_
  refine wl_v (.int .i64 (V)) rfl rfl (y_asg rfl rfl ⟨rfl, rfl⟩) ?_
  refine wl_nil fun F112 hF113 => ?_
  have s114 := (hF113 86).trans s107
  have s115 := (hF113 13).trans s108
  have s116 := (hF113 14).trans s109
  have s117 := (hF113 15).trans s110
  have s118 := (hF113 16).trans s111
  have s119 : F112 17 = .int .i64 (V) := (hF113 17).trans rfl
  clear hF113
  refine then_normal ?_
  refine wq_seq ?_
  refine wq_region ?_
  refine wl_v (.agg #[.int .i64 ((mkF (w) (h) (l)).W), .int .i64 ((mkF (w) (h) (l)).H), v40, v41, v42]) rfl rfl (y_load_stc stcT_frame rfl s116 B81 ⟨rfl, rfl⟩) ?_
  refine wl_v (.int .i64 (K)) rfl rfl (y_mov rfl s117 ⟨rfl, rfl⟩) ?_
  refine wl_v (.int .i64 (U)) rfl rfl (y_mov rfl s118 ⟨rfl, rfl⟩) ?_
  refine wl_v (.int .i64 (V)) rfl rfl (y_mov rfl s119 ⟨rfl, rfl⟩) ?_
  refine wl_call (R := fun v_ w_ => v_ = blkV (getF (mkF (w) (h) (l)) (K) (U) (V)) ∧ Kept (fun _ => False) w80 w_) rfl rfl (y_cs rfl rfl rfl (fun _ _ => by kernel_rfl) (ev_func _) (vsC rfl (vsC rfl (vsC rfl (vsC rfl vsN)))) (pl_get (K) (U) (V) (mkF (w) (h) (l)) (v40) (v41) (v42) (T45) (T46) (T47) _  (B84).byt (B85).byt (B86).byt ) (fun e_ w_ h_ => ⟨_, h_.1, rfl, h_.2⟩)) ?_
  rintro _ w120 ⟨rfl, k121⟩
  have B123 := B84.all k121 Apart.none
  have B124 := B85.all k121 Apart.none
  have B125 := B86.all k121 Apart.none
  have B126 := B81.all k121 id
  have K127 := K87.trans k121 (fun _ _ x => x.elim)
  refine wl_alloc_blk rfl rfl rfl blkT_block.2.2 fun p128 w129 e132 B130 k131 => ?_
  have g133 := onB_new (Nat.le_of_eq e132.symm)
  have gr134 : Grew w0 noB (onB p128) := Grew.new K127 g133
  have ap136 : Apart (onB p128) (T45) := Apart.new g133 (B123).live
  have ap137 : Apart (onB p128) (T46) := Apart.new g133 (B124).live
  have ap138 : Apart (onB p128) (T47) := Apart.new g133 (B125).live
  have ap139 : Apart (onB p128) (onB p65) := Apart.new g133 (onB_live (B126).lt)
  clear e132 g133
  have B141 := B123.all k131 Apart.none
  have B142 := B124.all k131 Apart.none
  have B143 := B125.all k131 Apart.none
  have B144 := B126.all k131 id
  have K145 := K127.trans k131 (fun _ _ x => x.elim)
  refine wl_store_blk blkT_block rfl rfl rfl rfl rfl B130 fun w146 B147 k148 => ?_
  have B150 := B141.all k148 (fun i h x => (((ap136).symm) i h x))
  have B151 := B142.all k148 (fun i h x => (((ap137).symm) i h x))
  have B152 := B143.all k148 (fun i h x => (((ap138).symm) i h x))
  have B153 := B144.all k148 (fun x => (((ap139).symm) p65 rfl x))
  have K154 := K145.trans k148 (Grew.ok (S := fun _ => False) gr134 noB_le)
  refine wl_nil fun F155 hF156 => ?_
  have s157 := (hF156 86).trans s114
  have s158 := (hF156 13).trans s115
  have s159 := (hF156 14).trans s116
  have s160 := (hF156 15).trans s117
  have s161 := (hF156 16).trans s118
  have s162 := (hF156 17).trans s119
  have s163 : F155 18 = .pointer (some ⟨p128, 0, none⟩) := (hF156 18).trans rfl
  clear hF156
  refine then_normal ?_
  refine wq_seq ?_
  refine wq_seq ?_
  refine wq_region ?_
  refine wl_v (.int .i64 (4)) rfl rfl (y_asg rfl rfl ⟨rfl, rfl⟩) ?_
  refine wl_nil fun F164 hF165 => ?_
  have s166 := (hF165 86).trans s157
  have s167 := (hF165 13).trans s158
  have s168 := (hF165 14).trans s159
  have s169 := (hF165 15).trans s160
  have s170 := (hF165 16).trans s161
  have s171 := (hF165 17).trans s162
  have s172 := (hF165 18).trans s163
  have s173 : F164 19 = .int .i64 (4) := (hF165 19).trans rfl
  clear hF165
  refine then_normal ?_
  refine wq_block ?_
  refine wq_rounds 4 ?_
  refine wqr_step ?_
  refine wq_seq ?_
  refine wq_seq ?_
  refine wq_region ?_
  refine wl_v (.int .i64 (4)) rfl rfl (y_mov rfl s173 ⟨rfl, rfl⟩) ?_
  refine wl_v (.bool true) rfl rfl (y_lss rfl rfl rfl rfl ⟨rfl, rfl⟩) ?_
  refine wl_nil fun F174 hF175 => ?_
  have s176 := (hF175 86).trans s166
  have s177 := (hF175 13).trans s167
  have s178 := (hF175 14).trans s168
  have s179 := (hF175 15).trans s169
  have s180 := (hF175 16).trans s170
  have s181 := (hF175 17).trans s171
  have s182 := (hF175 18).trans s172
  have s183 := (hF175 19).trans s173
  have s184 : F174 48 = .bool true := (hF175 48).trans rfl
  clear hF175
  refine then_normal ?_
  refine wq_cond (t := true) s184 (fun _ => ?_) (fun e => by cases e)
  refine wq_skip ?_
  refine then_normal ?_
  refine wq_seq ?_
  refine wq_block ?_
  refine wq_seq ?_
  refine wq_region ?_
  refine wl_v (.agg #[.int .i64 (0), .int .i64 (0), .slice none 0 0, .slice none 0 0, .slice none 0 0]) rfl rfl (y_buildL (l' := []) (cells := #[.int .i64 (0), .int .i64 (0), .slice none 0 0, .slice none 0 0, .slice none 0 0]) rfl bpN (by kernel_rfl) rfl ⟨rfl, rfl⟩) ?_
  refine wl_v (.agg #[.int .i64 ((mkF (w) (h) (l)).W), .int .i64 ((mkF (w) (h) (l)).H), v40, v41, v42]) rfl rfl (y_load_stc stcT_frame rfl s178 B153 ⟨rfl, rfl⟩) ?_
  refine wl_v (.agg #[.int .i64 ((mkF (w) (h) (l)).W), .int .i64 ((mkF (w) (h) (l)).H), v40, v41, v42]) rfl rfl (y_load_stc stcT_frame rfl s178 B153 ⟨rfl, rfl⟩) ?_
  refine wl_v (.int .i64 (K)) rfl rfl (y_mov rfl s179 ⟨rfl, rfl⟩) ?_
  refine wl_v (.int .i64 (U)) rfl rfl (y_mov rfl s180 ⟨rfl, rfl⟩) ?_
  refine wl_v (.int .i64 (V)) rfl rfl (y_mov rfl s181 ⟨rfl, rfl⟩) ?_
  refine wl_v (.int .i64 (4)) rfl rfl (y_mov rfl s183 ⟨rfl, rfl⟩) ?_
  refine wl_v (.agg (chL 4 0 0 0 0 (fun _ => (0 : Int))).toArray) rfl rfl (y_buildL (l' := [(0, .int .i64 (4))]) (cells := (chL 4 0 0 0 0 (fun _ => (0 : Int))).toArray) rfl (bpC rfl bpN) (by kernel_rfl) rfl ⟨rfl, rfl⟩) ?_
  refine wl_call (R := fun v_ w_ => v_ = .tuple #[blkV (cpB (FD.mk (0) (0) ([]) ([]) ([])) (mkF (w) (h) (l)) (mkF (w) (h) (l)) (K) (U) (V) (Ch.mk (4) (0) (0) (0) (0) (fun _ => (0 : Int)))), .int .i64 (cpE (FD.mk (0) (0) ([]) ([]) ([])) (mkF (w) (h) (l)) (mkF (w) (h) (l)) (K) (U) (V) (Ch.mk (4) (0) (0) (0) (0) (fun _ => (0 : Int))))] ∧ Kept (fun _ => False) w146 w_) rfl rfl (y_cs rfl rfl rfl (fun _ _ => by kernel_rfl) (ev_func _) (vsC rfl (vsC rfl (vsC rfl (vsC rfl (vsC rfl (vsC rfl (vsC rfl vsN))))))) (bl_predict (K) (U) (V) (Ch.mk (4) (0) (0) (0) (0) (fun _ => (0 : Int))) (FD.mk (0) (0) ([]) ([]) ([])) (.slice none 0 0) (.slice none 0 0) (.slice none 0 0) (mkF (w) (h) (l)) (v40) (v41) (v42) (mkF (w) (h) (l)) (v40) (v41) (v42) (noB) (noB) (noB) (T45) (T46) (T47) (T45) (T46) (T47) _ (hA.all K154) (Byt.nil _) (Byt.nil _) (Byt.nil _) (B150).byt (B151).byt (B152).byt (B150).byt (B151).byt (B152).byt ) (fun e_ w_ h_ => ⟨_, h_.1, rfl, h_.2⟩)) ?_
  rintro _ w185 ⟨rfl, k186⟩
  have B188 := B150.all k186 Apart.none
  have B189 := B151.all k186 Apart.none
  have B190 := B152.all k186 Apart.none
  have B191 := B153.all k186 id
  have B192 := B147.all k186 id
  have K193 := K154.trans k186 (fun _ _ x => x.elim)
  refine wl_v (.tuple #[blkV (cpB (FD.mk (0) (0) ([]) ([]) ([])) (mkF (w) (h) (l)) (mkF (w) (h) (l)) (K) (U) (V) (Ch.mk (4) (0) (0) (0) (0) (fun _ => (0 : Int)))), .int .i64 (cpE (FD.mk (0) (0) ([]) ([]) ([])) (mkF (w) (h) (l)) (mkF (w) (h) (l)) (K) (U) (V) (Ch.mk (4) (0) (0) (0) (0) (fun _ => (0 : Int))))]) rfl rfl (y_mov rfl rfl ⟨rfl, rfl⟩) ?_
  refine wl_v (blkV (cpB (FD.mk (0) (0) ([]) ([]) ([])) (mkF (w) (h) (l)) (mkF (w) (h) (l)) (K) (U) (V) (Ch.mk (4) (0) (0) (0) (0) (fun _ => (0 : Int))))) rfl rfl (y_ext rfl rfl rfl ⟨rfl, rfl⟩) ?_
  refine wl_v (.int .i64 (cpE (FD.mk (0) (0) ([]) ([]) ([])) (mkF (w) (h) (l)) (mkF (w) (h) (l)) (K) (U) (V) (Ch.mk (4) (0) (0) (0) (0) (fun _ => (0 : Int))))) rfl rfl (y_ext rfl rfl rfl ⟨rfl, rfl⟩) ?_
  refine wl_alloc_blk rfl rfl rfl blkT_block.2.2 fun p194 w195 e198 B196 k197 => ?_
  have g199 := onB_new (Nat.le_of_eq e198.symm)
  have gr200 : Grew w0 noB (onB p194) := Grew.new K193 g199
  have ap202 : Apart (onB p194) (T45) := Apart.new g199 (B188).live
  have ap203 : Apart (onB p194) (T46) := Apart.new g199 (B189).live
  have ap204 : Apart (onB p194) (T47) := Apart.new g199 (B190).live
  have ap205 : Apart (onB p194) (onB p65) := Apart.new g199 (onB_live (B191).lt)
  have ap206 : Apart (onB p194) (onB p128) := Apart.new g199 (onB_live (B192).lt)
  clear e198 g199
  have B208 := B188.all k197 Apart.none
  have B209 := B189.all k197 Apart.none
  have B210 := B190.all k197 Apart.none
  have B211 := B191.all k197 id
  have B212 := B192.all k197 id
  have K213 := K193.trans k197 (fun _ _ x => x.elim)
  refine wl_store_blk blkT_block rfl rfl rfl rfl rfl B196 fun w214 B215 k216 => ?_
  have B218 := B208.all k216 (fun i h x => (((ap202).symm) i h x))
  have B219 := B209.all k216 (fun i h x => (((ap203).symm) i h x))
  have B220 := B210.all k216 (fun i h x => (((ap204).symm) i h x))
  have B221 := B211.all k216 (fun x => (((ap205).symm) p65 rfl x))
  have B222 := B212.all k216 (fun x => (((ap206).symm) p128 rfl x))
  have K223 := K213.trans k216 (Grew.ok (S := fun _ => False) gr200 noB_le)
  refine wl_v (.int .i64 (cpE (FD.mk (0) (0) ([]) ([]) ([])) (mkF (w) (h) (l)) (mkF (w) (h) (l)) (K) (U) (V) (Ch.mk (4) (0) (0) (0) (0) (fun _ => (0 : Int))))) rfl rfl (y_asg rfl rfl ⟨rfl, rfl⟩) ?_
  refine wl_nil fun F224 hF225 => ?_
  have s226 := (hF225 86).trans s176
  have s227 := (hF225 13).trans s177
  have s228 := (hF225 14).trans s178
  have s229 := (hF225 15).trans s179
  have s230 := (hF225 16).trans s180
  have s231 := (hF225 17).trans s181
  have s232 := (hF225 18).trans s182
  have s233 := (hF225 19).trans s183
  have s234 : F224 20 = .pointer (some ⟨p194, 0, none⟩) := (hF225 20).trans rfl
  have s235 : F224 21 = .int .i64 (cpE (FD.mk (0) (0) ([]) ([]) ([])) (mkF (w) (h) (l)) (mkF (w) (h) (l)) (K) (U) (V) (Ch.mk (4) (0) (0) (0) (0) (fun _ => (0 : Int)))) := (hF225 21).trans rfl
  clear hF225
  refine then_normal ?_
  refine wq_seq ?_
  refine wq_region ?_
  refine wl_v (blkV (cpB (FD.mk (0) (0) ([]) ([]) ([])) (mkF (w) (h) (l)) (mkF (w) (h) (l)) (K) (U) (V) (Ch.mk (4) (0) (0) (0) (0) (fun _ => (0 : Int))))) rfl rfl (y_load_blk blkT_block rfl s234 B215 ⟨rfl, rfl⟩) ?_
  refine wl_v (blkV (getF (mkF (w) (h) (l)) (K) (U) (V))) rfl rfl (y_load_blk blkT_block rfl s232 B222 ⟨rfl, rfl⟩) ?_
  refine wl_v (.bool false) rfl rfl (y_diffR rfl rfl rfl (diff_no fun i hi => (hst _ _ _ (by decide)).1 i hi) ⟨rfl, rfl⟩) ?_
  refine wl_v (.bool false) rfl rfl (y_mov rfl rfl ⟨rfl, rfl⟩) ?_
  refine wl_vw (.int .i64 (cpE (FD.mk (0) (0) ([]) ([]) ([])) (mkF (w) (h) (l)) (mkF (w) (h) (l)) (K) (U) (V) (Ch.mk (4) (0) (0) (0) (0) (fun _ => (0 : Int))))) 3 false 66 rfl rfl rfl rfl rfl (y_mov rfl s235 ⟨rfl, rfl⟩) ?_
  refine wl_vw (.bool false) 3 false 66 rfl rfl rfl rfl rfl (y_neqI rfl rfl rfl (decide_eq_false (fun z => z (hst _ _ _ (by decide)).2)) ⟨rfl, rfl⟩) ?_
  refine wl_v (.bool false) rfl rfl (y_pickF rfl rfl rfl ⟨rfl, rfl⟩) ?_
  refine wl_nil fun F236 hF237 => ?_
  have s238 := (hF237 86).trans s226
  have s239 := (hF237 13).trans s227
  have s240 := (hF237 14).trans s228
  have s241 := (hF237 15).trans s229
  have s242 := (hF237 16).trans s230
  have s243 := (hF237 17).trans s231
  have s244 := (hF237 18).trans s232
  have s245 := (hF237 19).trans s233
  have s246 : F236 69 = .bool false := (hF237 69).trans rfl
  clear hF237
  refine then_normal ?_
  refine wq_cond (t := false) s246 (fun e => by cases e) (fun _ => ?_)
  refine wq_skip ?_
  refine in_normal ?_
  refine then_normal ?_
  refine wq_region ?_
  refine wl_v (.int .i64 (4)) rfl rfl (y_mov rfl s245 ⟨rfl, rfl⟩) ?_
  refine wl_v (.int .i64 (((5 : Nat) : Int))) rfl rfl (y_add rfl rfl rfl (i64_n (by omega) (by omega)) ⟨rfl, rfl⟩) ?_
  refine wl_v (.int .i64 (((5 : Nat) : Int))) rfl rfl (y_asg rfl rfl ⟨rfl, rfl⟩) ?_
  refine wl_nil fun F247 hF248 => ?_
  have s249 := (hF248 86).trans s238
  have s250 := (hF248 13).trans s239
  have s251 := (hF248 14).trans s240
  have s252 := (hF248 15).trans s241
  have s253 := (hF248 16).trans s242
  have s254 := (hF248 17).trans s243
  have s255 := (hF248 18).trans s244
  have s256 : F247 19 = .int .i64 (((5 : Nat) : Int)) := (hF248 19).trans rfl
  clear hF248
  refine then_normal ?_
  refine wqr_step ?_
  refine wq_seq ?_
  refine wq_seq ?_
  refine wq_region ?_
  refine wl_v (.int .i64 (((5 : Nat) : Int))) rfl rfl (y_mov rfl s256 ⟨rfl, rfl⟩) ?_
  refine wl_v (.bool true) rfl rfl (y_lss rfl rfl rfl rfl ⟨rfl, rfl⟩) ?_
  refine wl_nil fun F257 hF258 => ?_
  have s259 := (hF258 86).trans s249
  have s260 := (hF258 13).trans s250
  have s261 := (hF258 14).trans s251
  have s262 := (hF258 15).trans s252
  have s263 := (hF258 16).trans s253
  have s264 := (hF258 17).trans s254
  have s265 := (hF258 18).trans s255
  have s266 := (hF258 19).trans s256
  have s267 : F257 48 = .bool true := (hF258 48).trans rfl
  clear hF258
  refine then_normal ?_
  refine wq_cond (t := true) s267 (fun _ => ?_) (fun e => by cases e)
  refine wq_skip ?_
  refine then_normal ?_
  refine wq_seq ?_
  refine wq_block ?_
  refine wq_seq ?_
  refine wq_region ?_
  refine wl_v (.agg #[.int .i64 (0), .int .i64 (0), .slice none 0 0, .slice none 0 0, .slice none 0 0]) rfl rfl (y_buildL (l' := []) (cells := #[.int .i64 (0), .int .i64 (0), .slice none 0 0, .slice none 0 0, .slice none 0 0]) rfl bpN (by kernel_rfl) rfl ⟨rfl, rfl⟩) ?_
  refine wl_v (.agg #[.int .i64 ((mkF (w) (h) (l)).W), .int .i64 ((mkF (w) (h) (l)).H), v40, v41, v42]) rfl rfl (y_load_stc stcT_frame rfl s261 B221 ⟨rfl, rfl⟩) ?_
  refine wl_v (.agg #[.int .i64 ((mkF (w) (h) (l)).W), .int .i64 ((mkF (w) (h) (l)).H), v40, v41, v42]) rfl rfl (y_load_stc stcT_frame rfl s261 B221 ⟨rfl, rfl⟩) ?_
  refine wl_v (.int .i64 (K)) rfl rfl (y_mov rfl s262 ⟨rfl, rfl⟩) ?_
  refine wl_v (.int .i64 (U)) rfl rfl (y_mov rfl s263 ⟨rfl, rfl⟩) ?_
  refine wl_v (.int .i64 (V)) rfl rfl (y_mov rfl s264 ⟨rfl, rfl⟩) ?_
  refine wl_v (.int .i64 (((5 : Nat) : Int))) rfl rfl (y_mov rfl s266 ⟨rfl, rfl⟩) ?_
  refine wl_v (.agg (chL (((5 : Nat) : Int)) 0 0 0 0 (fun _ => (0 : Int))).toArray) rfl rfl (y_buildL (l' := [(0, .int .i64 (((5 : Nat) : Int)))]) (cells := (chL (((5 : Nat) : Int)) 0 0 0 0 (fun _ => (0 : Int))).toArray) rfl (bpC rfl bpN) (by kernel_rfl) rfl ⟨rfl, rfl⟩) ?_
  refine wl_call (R := fun v_ w_ => v_ = .tuple #[blkV (cpB (FD.mk (0) (0) ([]) ([]) ([])) (mkF (w) (h) (l)) (mkF (w) (h) (l)) (K) (U) (V) (Ch.mk (((5 : Nat) : Int)) (0) (0) (0) (0) (fun _ => (0 : Int)))), .int .i64 (cpE (FD.mk (0) (0) ([]) ([]) ([])) (mkF (w) (h) (l)) (mkF (w) (h) (l)) (K) (U) (V) (Ch.mk (((5 : Nat) : Int)) (0) (0) (0) (0) (fun _ => (0 : Int))))] ∧ Kept (fun _ => False) w214 w_) rfl rfl (y_cs rfl rfl rfl (fun _ _ => by kernel_rfl) (ev_func _) (vsC rfl (vsC rfl (vsC rfl (vsC rfl (vsC rfl (vsC rfl (vsC rfl vsN))))))) (bl_predict (K) (U) (V) (Ch.mk (((5 : Nat) : Int)) (0) (0) (0) (0) (fun _ => (0 : Int))) (FD.mk (0) (0) ([]) ([]) ([])) (.slice none 0 0) (.slice none 0 0) (.slice none 0 0) (mkF (w) (h) (l)) (v40) (v41) (v42) (mkF (w) (h) (l)) (v40) (v41) (v42) (noB) (noB) (noB) (T45) (T46) (T47) (T45) (T46) (T47) _ (hA.all K223) (Byt.nil _) (Byt.nil _) (Byt.nil _) (B218).byt (B219).byt (B220).byt (B218).byt (B219).byt (B220).byt ) (fun e_ w_ h_ => ⟨_, h_.1, rfl, h_.2⟩)) ?_
  rintro _ w268 ⟨rfl, k269⟩
  have B271 := B218.all k269 Apart.none
  have B272 := B219.all k269 Apart.none
  have B273 := B220.all k269 Apart.none
  have B274 := B221.all k269 id
  have B275 := B222.all k269 id
  have K277 := K223.trans k269 (fun _ _ x => x.elim)
  refine wl_v (.tuple #[blkV (cpB (FD.mk (0) (0) ([]) ([]) ([])) (mkF (w) (h) (l)) (mkF (w) (h) (l)) (K) (U) (V) (Ch.mk (((5 : Nat) : Int)) (0) (0) (0) (0) (fun _ => (0 : Int)))), .int .i64 (cpE (FD.mk (0) (0) ([]) ([]) ([])) (mkF (w) (h) (l)) (mkF (w) (h) (l)) (K) (U) (V) (Ch.mk (((5 : Nat) : Int)) (0) (0) (0) (0) (fun _ => (0 : Int))))]) rfl rfl (y_mov rfl rfl ⟨rfl, rfl⟩) ?_
  refine wl_v (blkV (cpB (FD.mk (0) (0) ([]) ([]) ([])) (mkF (w) (h) (l)) (mkF (w) (h) (l)) (K) (U) (V) (Ch.mk (((5 : Nat) : Int)) (0) (0) (0) (0) (fun _ => (0 : Int))))) rfl rfl (y_ext rfl rfl rfl ⟨rfl, rfl⟩) ?_
  refine wl_v (.int .i64 (cpE (FD.mk (0) (0) ([]) ([]) ([])) (mkF (w) (h) (l)) (mkF (w) (h) (l)) (K) (U) (V) (Ch.mk (((5 : Nat) : Int)) (0) (0) (0) (0) (fun _ => (0 : Int))))) rfl rfl (y_ext rfl rfl rfl ⟨rfl, rfl⟩) ?_
  refine wl_alloc_blk rfl rfl rfl blkT_block.2.2 fun p278 w279 e282 B280 k281 => ?_
  have g283 := onB_new (Nat.le_of_eq e282.symm)
  have gr284 : Grew w0 noB (onB p278) := Grew.new K277 g283
  have ap286 : Apart (onB p278) (T45) := Apart.new g283 (B271).live
  have ap287 : Apart (onB p278) (T46) := Apart.new g283 (B272).live
  have ap288 : Apart (onB p278) (T47) := Apart.new g283 (B273).live
  have ap289 : Apart (onB p278) (onB p65) := Apart.new g283 (onB_live (B274).lt)
  have ap290 : Apart (onB p278) (onB p128) := Apart.new g283 (onB_live (B275).lt)
  clear e282 g283
  have B293 := B271.all k281 Apart.none
  have B294 := B272.all k281 Apart.none
  have B295 := B273.all k281 Apart.none
  have B296 := B274.all k281 id
  have B297 := B275.all k281 id
  have K299 := K277.trans k281 (fun _ _ x => x.elim)
  refine wl_store_blk blkT_block rfl rfl rfl rfl rfl B280 fun w300 B301 k302 => ?_
  have B304 := B293.all k302 (fun i h x => (((ap286).symm) i h x))
  have B305 := B294.all k302 (fun i h x => (((ap287).symm) i h x))
  have B306 := B295.all k302 (fun i h x => (((ap288).symm) i h x))
  have B307 := B296.all k302 (fun x => (((ap289).symm) p65 rfl x))
  have B308 := B297.all k302 (fun x => (((ap290).symm) p128 rfl x))
  have K310 := K299.trans k302 (Grew.ok (S := fun _ => False) gr284 noB_le)
  refine wl_v (.int .i64 (cpE (FD.mk (0) (0) ([]) ([]) ([])) (mkF (w) (h) (l)) (mkF (w) (h) (l)) (K) (U) (V) (Ch.mk (((5 : Nat) : Int)) (0) (0) (0) (0) (fun _ => (0 : Int))))) rfl rfl (y_asg rfl rfl ⟨rfl, rfl⟩) ?_
  refine wl_nil fun F311 hF312 => ?_
  have s313 := (hF312 86).trans s259
  have s314 := (hF312 13).trans s260
  have s315 := (hF312 14).trans s261
  have s316 := (hF312 15).trans s262
  have s317 := (hF312 16).trans s263
  have s318 := (hF312 17).trans s264
  have s319 := (hF312 18).trans s265
  have s320 := (hF312 19).trans s266
  have s321 : F311 20 = .pointer (some ⟨p278, 0, none⟩) := (hF312 20).trans rfl
  have s322 : F311 21 = .int .i64 (cpE (FD.mk (0) (0) ([]) ([]) ([])) (mkF (w) (h) (l)) (mkF (w) (h) (l)) (K) (U) (V) (Ch.mk (((5 : Nat) : Int)) (0) (0) (0) (0) (fun _ => (0 : Int)))) := (hF312 21).trans rfl
  clear hF312
  refine then_normal ?_
  refine wq_seq ?_
  refine wq_region ?_
  refine wl_v (blkV (cpB (FD.mk (0) (0) ([]) ([]) ([])) (mkF (w) (h) (l)) (mkF (w) (h) (l)) (K) (U) (V) (Ch.mk (((5 : Nat) : Int)) (0) (0) (0) (0) (fun _ => (0 : Int))))) rfl rfl (y_load_blk blkT_block rfl s321 B301 ⟨rfl, rfl⟩) ?_
  refine wl_v (blkV (getF (mkF (w) (h) (l)) (K) (U) (V))) rfl rfl (y_load_blk blkT_block rfl s319 B308 ⟨rfl, rfl⟩) ?_
  refine wl_v (.bool false) rfl rfl (y_diffR rfl rfl rfl (diff_no fun i hi => (hst _ _ _ (by decide)).1 i hi) ⟨rfl, rfl⟩) ?_
  refine wl_v (.bool false) rfl rfl (y_mov rfl rfl ⟨rfl, rfl⟩) ?_
  refine wl_vw (.int .i64 (cpE (FD.mk (0) (0) ([]) ([]) ([])) (mkF (w) (h) (l)) (mkF (w) (h) (l)) (K) (U) (V) (Ch.mk (((5 : Nat) : Int)) (0) (0) (0) (0) (fun _ => (0 : Int))))) 3 false 66 rfl rfl rfl rfl rfl (y_mov rfl s322 ⟨rfl, rfl⟩) ?_
  refine wl_vw (.bool false) 3 false 66 rfl rfl rfl rfl rfl (y_neqI rfl rfl rfl (decide_eq_false (fun z => z (hst _ _ _ (by decide)).2)) ⟨rfl, rfl⟩) ?_
  refine wl_v (.bool false) rfl rfl (y_pickF rfl rfl rfl ⟨rfl, rfl⟩) ?_
  refine wl_nil fun F323 hF324 => ?_
  have s325 := (hF324 86).trans s313
  have s326 := (hF324 13).trans s314
  have s327 := (hF324 14).trans s315
  have s328 := (hF324 15).trans s316
  have s329 := (hF324 16).trans s317
  have s330 := (hF324 17).trans s318
  have s331 := (hF324 18).trans s319
  have s332 := (hF324 19).trans s320
  have s333 : F323 69 = .bool false := (hF324 69).trans rfl
  clear hF324
  refine then_normal ?_
  refine wq_cond (t := false) s333 (fun e => by cases e) (fun _ => ?_)
  refine wq_skip ?_
  refine in_normal ?_
  refine then_normal ?_
  refine wq_region ?_
  refine wl_v (.int .i64 (((5 : Nat) : Int))) rfl rfl (y_mov rfl s332 ⟨rfl, rfl⟩) ?_
  refine wl_v (.int .i64 (((6 : Nat) : Int))) rfl rfl (y_add rfl rfl rfl (i64_n (by omega) (by omega)) ⟨rfl, rfl⟩) ?_
  refine wl_v (.int .i64 (((6 : Nat) : Int))) rfl rfl (y_asg rfl rfl ⟨rfl, rfl⟩) ?_
  refine wl_nil fun F334 hF335 => ?_
  have s336 := (hF335 86).trans s325
  have s337 := (hF335 13).trans s326
  have s338 := (hF335 14).trans s327
  have s339 := (hF335 15).trans s328
  have s340 := (hF335 16).trans s329
  have s341 := (hF335 17).trans s330
  have s342 := (hF335 18).trans s331
  have s343 : F334 19 = .int .i64 (((6 : Nat) : Int)) := (hF335 19).trans rfl
  clear hF335
  refine then_normal ?_
  refine wqr_step ?_
  refine wq_seq ?_
  refine wq_seq ?_
  refine wq_region ?_
  refine wl_v (.int .i64 (((6 : Nat) : Int))) rfl rfl (y_mov rfl s343 ⟨rfl, rfl⟩) ?_
  refine wl_v (.bool true) rfl rfl (y_lss rfl rfl rfl rfl ⟨rfl, rfl⟩) ?_
  refine wl_nil fun F344 hF345 => ?_
  have s346 := (hF345 86).trans s336
  have s347 := (hF345 13).trans s337
  have s348 := (hF345 14).trans s338
  have s349 := (hF345 15).trans s339
  have s350 := (hF345 16).trans s340
  have s351 := (hF345 17).trans s341
  have s352 := (hF345 18).trans s342
  have s353 := (hF345 19).trans s343
  have s354 : F344 48 = .bool true := (hF345 48).trans rfl
  clear hF345
  refine then_normal ?_
  refine wq_cond (t := true) s354 (fun _ => ?_) (fun e => by cases e)
  refine wq_skip ?_
  refine then_normal ?_
  refine wq_seq ?_
  refine wq_block ?_
  refine wq_seq ?_
  refine wq_region ?_
  refine wl_v (.agg #[.int .i64 (0), .int .i64 (0), .slice none 0 0, .slice none 0 0, .slice none 0 0]) rfl rfl (y_buildL (l' := []) (cells := #[.int .i64 (0), .int .i64 (0), .slice none 0 0, .slice none 0 0, .slice none 0 0]) rfl bpN (by kernel_rfl) rfl ⟨rfl, rfl⟩) ?_
  refine wl_v (.agg #[.int .i64 ((mkF (w) (h) (l)).W), .int .i64 ((mkF (w) (h) (l)).H), v40, v41, v42]) rfl rfl (y_load_stc stcT_frame rfl s348 B307 ⟨rfl, rfl⟩) ?_
  refine wl_v (.agg #[.int .i64 ((mkF (w) (h) (l)).W), .int .i64 ((mkF (w) (h) (l)).H), v40, v41, v42]) rfl rfl (y_load_stc stcT_frame rfl s348 B307 ⟨rfl, rfl⟩) ?_
  refine wl_v (.int .i64 (K)) rfl rfl (y_mov rfl s349 ⟨rfl, rfl⟩) ?_
  refine wl_v (.int .i64 (U)) rfl rfl (y_mov rfl s350 ⟨rfl, rfl⟩) ?_
  refine wl_v (.int .i64 (V)) rfl rfl (y_mov rfl s351 ⟨rfl, rfl⟩) ?_
  refine wl_v (.int .i64 (((6 : Nat) : Int))) rfl rfl (y_mov rfl s353 ⟨rfl, rfl⟩) ?_
  refine wl_v (.agg (chL (((6 : Nat) : Int)) 0 0 0 0 (fun _ => (0 : Int))).toArray) rfl rfl (y_buildL (l' := [(0, .int .i64 (((6 : Nat) : Int)))]) (cells := (chL (((6 : Nat) : Int)) 0 0 0 0 (fun _ => (0 : Int))).toArray) rfl (bpC rfl bpN) (by kernel_rfl) rfl ⟨rfl, rfl⟩) ?_
  refine wl_call (R := fun v_ w_ => v_ = .tuple #[blkV (cpB (FD.mk (0) (0) ([]) ([]) ([])) (mkF (w) (h) (l)) (mkF (w) (h) (l)) (K) (U) (V) (Ch.mk (((6 : Nat) : Int)) (0) (0) (0) (0) (fun _ => (0 : Int)))), .int .i64 (cpE (FD.mk (0) (0) ([]) ([]) ([])) (mkF (w) (h) (l)) (mkF (w) (h) (l)) (K) (U) (V) (Ch.mk (((6 : Nat) : Int)) (0) (0) (0) (0) (fun _ => (0 : Int))))] ∧ Kept (fun _ => False) w300 w_) rfl rfl (y_cs rfl rfl rfl (fun _ _ => by kernel_rfl) (ev_func _) (vsC rfl (vsC rfl (vsC rfl (vsC rfl (vsC rfl (vsC rfl (vsC rfl vsN))))))) (bl_predict (K) (U) (V) (Ch.mk (((6 : Nat) : Int)) (0) (0) (0) (0) (fun _ => (0 : Int))) (FD.mk (0) (0) ([]) ([]) ([])) (.slice none 0 0) (.slice none 0 0) (.slice none 0 0) (mkF (w) (h) (l)) (v40) (v41) (v42) (mkF (w) (h) (l)) (v40) (v41) (v42) (noB) (noB) (noB) (T45) (T46) (T47) (T45) (T46) (T47) _ (hA.all K310) (Byt.nil _) (Byt.nil _) (Byt.nil _) (B304).byt (B305).byt (B306).byt (B304).byt (B305).byt (B306).byt ) (fun e_ w_ h_ => ⟨_, h_.1, rfl, h_.2⟩)) ?_
  rintro _ w355 ⟨rfl, k356⟩
  have B358 := B304.all k356 Apart.none
  have B359 := B305.all k356 Apart.none
  have B360 := B306.all k356 Apart.none
  have B361 := B307.all k356 id
  have B362 := B308.all k356 id
  have K365 := K310.trans k356 (fun _ _ x => x.elim)
  refine wl_v (.tuple #[blkV (cpB (FD.mk (0) (0) ([]) ([]) ([])) (mkF (w) (h) (l)) (mkF (w) (h) (l)) (K) (U) (V) (Ch.mk (((6 : Nat) : Int)) (0) (0) (0) (0) (fun _ => (0 : Int)))), .int .i64 (cpE (FD.mk (0) (0) ([]) ([]) ([])) (mkF (w) (h) (l)) (mkF (w) (h) (l)) (K) (U) (V) (Ch.mk (((6 : Nat) : Int)) (0) (0) (0) (0) (fun _ => (0 : Int))))]) rfl rfl (y_mov rfl rfl ⟨rfl, rfl⟩) ?_
  refine wl_v (blkV (cpB (FD.mk (0) (0) ([]) ([]) ([])) (mkF (w) (h) (l)) (mkF (w) (h) (l)) (K) (U) (V) (Ch.mk (((6 : Nat) : Int)) (0) (0) (0) (0) (fun _ => (0 : Int))))) rfl rfl (y_ext rfl rfl rfl ⟨rfl, rfl⟩) ?_
  refine wl_v (.int .i64 (cpE (FD.mk (0) (0) ([]) ([]) ([])) (mkF (w) (h) (l)) (mkF (w) (h) (l)) (K) (U) (V) (Ch.mk (((6 : Nat) : Int)) (0) (0) (0) (0) (fun _ => (0 : Int))))) rfl rfl (y_ext rfl rfl rfl ⟨rfl, rfl⟩) ?_
  refine wl_alloc_blk rfl rfl rfl blkT_block.2.2 fun p366 w367 e370 B368 k369 => ?_
  have g371 := onB_new (Nat.le_of_eq e370.symm)
  have gr372 : Grew w0 noB (onB p366) := Grew.new K365 g371
  have ap374 : Apart (onB p366) (T45) := Apart.new g371 (B358).live
  have ap375 : Apart (onB p366) (T46) := Apart.new g371 (B359).live
  have ap376 : Apart (onB p366) (T47) := Apart.new g371 (B360).live
  have ap377 : Apart (onB p366) (onB p65) := Apart.new g371 (onB_live (B361).lt)
  have ap378 : Apart (onB p366) (onB p128) := Apart.new g371 (onB_live (B362).lt)
  clear e370 g371
  have B382 := B358.all k369 Apart.none
  have B383 := B359.all k369 Apart.none
  have B384 := B360.all k369 Apart.none
  have B385 := B361.all k369 id
  have B386 := B362.all k369 id
  have K389 := K365.trans k369 (fun _ _ x => x.elim)
  refine wl_store_blk blkT_block rfl rfl rfl rfl rfl B368 fun w390 B391 k392 => ?_
  have B394 := B382.all k392 (fun i h x => (((ap374).symm) i h x))
  have B395 := B383.all k392 (fun i h x => (((ap375).symm) i h x))
  have B396 := B384.all k392 (fun i h x => (((ap376).symm) i h x))
  have B397 := B385.all k392 (fun x => (((ap377).symm) p65 rfl x))
  have B398 := B386.all k392 (fun x => (((ap378).symm) p128 rfl x))
  have K401 := K389.trans k392 (Grew.ok (S := fun _ => False) gr372 noB_le)
  refine wl_v (.int .i64 (cpE (FD.mk (0) (0) ([]) ([]) ([])) (mkF (w) (h) (l)) (mkF (w) (h) (l)) (K) (U) (V) (Ch.mk (((6 : Nat) : Int)) (0) (0) (0) (0) (fun _ => (0 : Int))))) rfl rfl (y_asg rfl rfl ⟨rfl, rfl⟩) ?_
  refine wl_nil fun F402 hF403 => ?_
  have s404 := (hF403 86).trans s346
  have s405 := (hF403 13).trans s347
  have s406 := (hF403 14).trans s348
  have s407 := (hF403 15).trans s349
  have s408 := (hF403 16).trans s350
  have s409 := (hF403 17).trans s351
  have s410 := (hF403 18).trans s352
  have s411 := (hF403 19).trans s353
  have s412 : F402 20 = .pointer (some ⟨p366, 0, none⟩) := (hF403 20).trans rfl
  have s413 : F402 21 = .int .i64 (cpE (FD.mk (0) (0) ([]) ([]) ([])) (mkF (w) (h) (l)) (mkF (w) (h) (l)) (K) (U) (V) (Ch.mk (((6 : Nat) : Int)) (0) (0) (0) (0) (fun _ => (0 : Int)))) := (hF403 21).trans rfl
  clear hF403
  refine then_normal ?_
  refine wq_seq ?_
  refine wq_region ?_
  refine wl_v (blkV (cpB (FD.mk (0) (0) ([]) ([]) ([])) (mkF (w) (h) (l)) (mkF (w) (h) (l)) (K) (U) (V) (Ch.mk (((6 : Nat) : Int)) (0) (0) (0) (0) (fun _ => (0 : Int))))) rfl rfl (y_load_blk blkT_block rfl s412 B391 ⟨rfl, rfl⟩) ?_
  refine wl_v (blkV (getF (mkF (w) (h) (l)) (K) (U) (V))) rfl rfl (y_load_blk blkT_block rfl s410 B398 ⟨rfl, rfl⟩) ?_
  refine wl_v (.bool false) rfl rfl (y_diffR rfl rfl rfl (diff_no fun i hi => (hst _ _ _ (by decide)).1 i hi) ⟨rfl, rfl⟩) ?_
  refine wl_v (.bool false) rfl rfl (y_mov rfl rfl ⟨rfl, rfl⟩) ?_
  refine wl_vw (.int .i64 (cpE (FD.mk (0) (0) ([]) ([]) ([])) (mkF (w) (h) (l)) (mkF (w) (h) (l)) (K) (U) (V) (Ch.mk (((6 : Nat) : Int)) (0) (0) (0) (0) (fun _ => (0 : Int))))) 3 false 66 rfl rfl rfl rfl rfl (y_mov rfl s413 ⟨rfl, rfl⟩) ?_
  refine wl_vw (.bool false) 3 false 66 rfl rfl rfl rfl rfl (y_neqI rfl rfl rfl (decide_eq_false (fun z => z (hst _ _ _ (by decide)).2)) ⟨rfl, rfl⟩) ?_
  refine wl_v (.bool false) rfl rfl (y_pickF rfl rfl rfl ⟨rfl, rfl⟩) ?_
  refine wl_nil fun F414 hF415 => ?_
  have s416 := (hF415 86).trans s404
  have s417 := (hF415 13).trans s405
  have s418 := (hF415 14).trans s406
  have s419 := (hF415 15).trans s407
  have s420 := (hF415 16).trans s408
  have s421 := (hF415 17).trans s409
  have s423 := (hF415 19).trans s411
  have s424 : F414 69 = .bool false := (hF415 69).trans rfl
  clear hF415
  refine then_normal ?_
  refine wq_cond (t := false) s424 (fun e => by cases e) (fun _ => ?_)
  refine wq_skip ?_
  refine in_normal ?_
  refine then_normal ?_
  refine wq_region ?_
  refine wl_v (.int .i64 (((6 : Nat) : Int))) rfl rfl (y_mov rfl s423 ⟨rfl, rfl⟩) ?_
  refine wl_v (.int .i64 (((7 : Nat) : Int))) rfl rfl (y_add rfl rfl rfl (i64_n (by omega) (by omega)) ⟨rfl, rfl⟩) ?_
  refine wl_v (.int .i64 (((7 : Nat) : Int))) rfl rfl (y_asg rfl rfl ⟨rfl, rfl⟩) ?_
  refine wl_nil fun F425 hF426 => ?_
  have s427 := (hF426 86).trans s416
  have s428 := (hF426 13).trans s417
  have s429 := (hF426 14).trans s418
  have s430 := (hF426 15).trans s419
  have s431 := (hF426 16).trans s420
  have s432 := (hF426 17).trans s421
  have s434 : F425 19 = .int .i64 (((7 : Nat) : Int)) := (hF426 19).trans rfl
  clear hF426
  refine then_normal ?_
  refine wqr_step ?_
  refine wq_seq ?_
  refine wq_seq ?_
  refine wq_region ?_
  refine wl_v (.int .i64 (((7 : Nat) : Int))) rfl rfl (y_mov rfl s434 ⟨rfl, rfl⟩) ?_
  refine wl_v (.bool false) rfl rfl (y_lss rfl rfl rfl rfl ⟨rfl, rfl⟩) ?_
  refine wl_nil fun F435 hF436 => ?_
  have s437 := (hF436 86).trans s427
  have s438 := (hF436 13).trans s428
  have s439 := (hF436 14).trans s429
  have s440 := (hF436 15).trans s430
  have s441 := (hF436 16).trans s431
  have s442 := (hF436 17).trans s432
  have s445 : F435 48 = .bool false := (hF436 48).trans rfl
  clear hF436
  refine then_normal ?_
  refine wq_cond (t := false) s445 (fun e => by cases e) (fun _ => ?_)
  refine wq_exit ?_
  refine then_exit ?_
  refine then_exit ?_
  refine in_here ?_
  refine then_normal ?_
  refine wq_seq ?_
  refine wq_region ?_
  refine wl_v (.agg #[.int .i64 (0), .int .i64 (0), .slice none 0 0, .slice none 0 0, .slice none 0 0]) rfl rfl (y_buildL (l' := []) (cells := #[.int .i64 (0), .int .i64 (0), .slice none 0 0, .slice none 0 0, .slice none 0 0]) rfl bpN (by kernel_rfl) rfl ⟨rfl, rfl⟩) ?_
  refine wl_v (.agg #[.int .i64 ((mkF (w) (h) (l)).W), .int .i64 ((mkF (w) (h) (l)).H), v40, v41, v42]) rfl rfl (y_load_stc stcT_frame rfl s439 B397 ⟨rfl, rfl⟩) ?_
  refine wl_v (.agg #[.int .i64 ((mkF (w) (h) (l)).W), .int .i64 ((mkF (w) (h) (l)).H), v40, v41, v42]) rfl rfl (y_load_stc stcT_frame rfl s439 B397 ⟨rfl, rfl⟩) ?_
  refine wl_v (.int .i64 (K)) rfl rfl (y_mov rfl s440 ⟨rfl, rfl⟩) ?_
  refine wl_v (.int .i64 (U)) rfl rfl (y_mov rfl s441 ⟨rfl, rfl⟩) ?_
  refine wl_v (.int .i64 (V)) rfl rfl (y_mov rfl s442 ⟨rfl, rfl⟩) ?_
  refine wl_v (.agg (chL 2 0 0 0 0 (fun _ => (0 : Int))).toArray) rfl rfl (y_buildL (l' := [(0, .int .i64 (2))]) (cells := (chL 2 0 0 0 0 (fun _ => (0 : Int))).toArray) rfl (bpC rfl bpN) (by kernel_rfl) rfl ⟨rfl, rfl⟩) ?_
  refine wl_call (R := fun v_ w_ => v_ = .tuple #[blkV (cpB (FD.mk (0) (0) ([]) ([]) ([])) (mkF (w) (h) (l)) (mkF (w) (h) (l)) (K) (U) (V) (Ch.mk (2) (0) (0) (0) (0) (fun _ => (0 : Int)))), .int .i64 (cpE (FD.mk (0) (0) ([]) ([]) ([])) (mkF (w) (h) (l)) (mkF (w) (h) (l)) (K) (U) (V) (Ch.mk (2) (0) (0) (0) (0) (fun _ => (0 : Int))))] ∧ Kept (fun _ => False) w390 w_) rfl rfl (y_cs rfl rfl rfl (fun _ _ => by kernel_rfl) (ev_func _) (vsC rfl (vsC rfl (vsC rfl (vsC rfl (vsC rfl (vsC rfl (vsC rfl vsN))))))) (bl_predict (K) (U) (V) (Ch.mk (2) (0) (0) (0) (0) (fun _ => (0 : Int))) (FD.mk (0) (0) ([]) ([]) ([])) (.slice none 0 0) (.slice none 0 0) (.slice none 0 0) (mkF (w) (h) (l)) (v40) (v41) (v42) (mkF (w) (h) (l)) (v40) (v41) (v42) (noB) (noB) (noB) (T45) (T46) (T47) (T45) (T46) (T47) _ (hA.all K401) (Byt.nil _) (Byt.nil _) (Byt.nil _) (B394).byt (B395).byt (B396).byt (B394).byt (B395).byt (B396).byt ) (fun e_ w_ h_ => ⟨_, h_.1, rfl, h_.2⟩)) ?_
  rintro _ w446 ⟨rfl, k447⟩
  have K457 := K401.trans k447 (fun _ _ x => x.elim)
  refine wl_v (.tuple #[blkV (cpB (FD.mk (0) (0) ([]) ([]) ([])) (mkF (w) (h) (l)) (mkF (w) (h) (l)) (K) (U) (V) (Ch.mk (2) (0) (0) (0) (0) (fun _ => (0 : Int)))), .int .i64 (cpE (FD.mk (0) (0) ([]) ([]) ([])) (mkF (w) (h) (l)) (mkF (w) (h) (l)) (K) (U) (V) (Ch.mk (2) (0) (0) (0) (0) (fun _ => (0 : Int))))]) rfl rfl (y_mov rfl rfl ⟨rfl, rfl⟩) ?_
  refine wl_v (blkV (cpB (FD.mk (0) (0) ([]) ([]) ([])) (mkF (w) (h) (l)) (mkF (w) (h) (l)) (K) (U) (V) (Ch.mk (2) (0) (0) (0) (0) (fun _ => (0 : Int))))) rfl rfl (y_ext rfl rfl rfl ⟨rfl, rfl⟩) ?_
  refine wl_v (.int .i64 (cpE (FD.mk (0) (0) ([]) ([]) ([])) (mkF (w) (h) (l)) (mkF (w) (h) (l)) (K) (U) (V) (Ch.mk (2) (0) (0) (0) (0) (fun _ => (0 : Int))))) rfl rfl (y_ext rfl rfl rfl ⟨rfl, rfl⟩) ?_
  refine wl_alloc_blk rfl rfl rfl blkT_block.2.2 fun p458 w459 e462 B460 k461 => ?_
  have g463 := onB_new (Nat.le_of_eq e462.symm)
  have gr464 : Grew w0 noB (onB p458) := Grew.new K457 g463
  clear e462 g463
  have K483 := K457.trans k461 (fun _ _ x => x.elim)
  refine wl_store_blk blkT_block rfl rfl rfl rfl rfl B460 fun w484 B485 k486 => ?_
  have K496 := K483.trans k486 (Grew.ok (S := fun _ => False) gr464 noB_le)
  refine wl_v (.int .i64 (cpE (FD.mk (0) (0) ([]) ([]) ([])) (mkF (w) (h) (l)) (mkF (w) (h) (l)) (K) (U) (V) (Ch.mk (2) (0) (0) (0) (0) (fun _ => (0 : Int))))) rfl rfl (y_asg rfl rfl ⟨rfl, rfl⟩) ?_
  refine wl_nil fun F497 hF498 => ?_
  have s499 := (hF498 86).trans s437
  have s500 := (hF498 13).trans s438
  have s501 : F497 23 = .int .i64 (cpE (FD.mk (0) (0) ([]) ([]) ([])) (mkF (w) (h) (l)) (mkF (w) (h) (l)) (K) (U) (V) (Ch.mk (2) (0) (0) (0) (0) (fun _ => (0 : Int)))) := (hF498 23).trans rfl
  clear hF498
  refine then_normal ?_
  refine wq_seq ?_
  refine wq_region ?_
  refine wl_v (.bool true) rfl rfl (y_mov rfl s500 ⟨rfl, rfl⟩) ?_
  refine wl_v (.bool true) rfl rfl (y_mov rfl rfl ⟨rfl, rfl⟩) ?_
  refine wl_vw (.int .i64 (cpE (FD.mk (0) (0) ([]) ([]) ([])) (mkF (w) (h) (l)) (mkF (w) (h) (l)) (K) (U) (V) (Ch.mk (2) (0) (0) (0) (0) (fun _ => (0 : Int))))) 1 true 82 rfl rfl rfl rfl rfl (y_mov rfl s501 ⟨rfl, rfl⟩) ?_
  refine wl_vw (.bool true) 1 true 82 rfl rfl rfl rfl rfl (y_eqlI rfl rfl rfl (decide_eq_true (still_two _ _ _ _)) ⟨rfl, rfl⟩) ?_
  refine wl_v (.bool true) rfl rfl (y_pickT rfl rfl rfl ⟨rfl, rfl⟩) ?_
  refine wl_v (.bool true) rfl rfl (y_asg rfl rfl ⟨rfl, rfl⟩) ?_
  refine wl_nil fun F502 hF503 => ?_
  have s504 := (hF503 86).trans s499
  have s505 : F502 12 = .bool true := (hF503 12).trans rfl
  clear hF503
  refine then_normal ?_
  refine wq_ret ?_
  exact end_tmp (v := .bool true) s504 rfl rfl s505 ⟨rfl, K496⟩
end Go.Proofs.YtdcbabgcbkdlhaaDoor
set_option maxRecDepth 100000
namespace Go.Proofs.YtdcbabgcbkdlhaaDoor
open Go.ChangeShapes Go.WideShapes Go.ChangeAt Go.RowKit

section
variable {H : Type} {enc : TypeId × Value → H} {w : World} {base : Nat} {spare : Nat → Bool} {held : Bool}

theorem BytesArg.of_row {a : Option Addr} {len cap : Nat} {zs : List Int}
    (h : (a = none ∧ len = 0 ∧ cap = 0 ∧ zs = []) ∨ ∃ x, a = some x ∧ len ≤ cap ∧ cap ≤ maxLen ∧ len ≤ zs.length ∧ (∀ i, i < zs.length → w.cell? (x.add i) = some (.int .u8 (zs.getD i 0))) ∧ ∀ n ∈ zs, (Lit.int .u8 n).wf = true) :
    ∃ l : List Nat, BytesArg w (.slice a len cap) l := by
  rcases h with ⟨rfl, rfl, rfl, rfl⟩ | ⟨x, rfl, hlc, hcm, hz, hcell, hwf⟩
  · exact ⟨[], BytesArg.nil w⟩
  · have hlen : ((zs.take len).map Int.toNat).length = len := by simp; omega
    refine ⟨(zs.take len).map Int.toNat, some x, cap, by rw [hlen], by rw [hlen]; exact hlc, hcm, by simp, ?_, ?_⟩
    · intro y hy
      obtain ⟨z, hz1, rfl⟩ := List.mem_map.1 hy
      have := bounds_u8 (hwf z (List.mem_of_mem_take hz1))
      omega
    · intro hpos
      rw [hlen] at hpos
      have hpos' : 0 < zs.length := by omega
      obtain ⟨b, off, rfl, hc⟩ := ints_at hcell hpos'
      refine ⟨b, off, rfl, World.block_lt_of_cell? w _ (hc 0 hpos'), fun i hi => ?_⟩
      rw [hlen] at hi
      have hi' : i < zs.length := by omega
      rw [hc i hi']
      have hwi := bounds_u8 (hwf zs[i] (List.getElem_mem hi'))
      simp [List.getD, hi', hi]
      omega

theorem bytes_open {fuel : Nat} {v : Value} {x : DataW H × List MemPlace}
    (h : DataW.trod enc Tryd.prog w base spare held fuel 28 [v] = some x) : ∃ l : List Nat, BytesArg w v l := by
  rcases open_ints Tryd.underlying28 Tryd.underlying5 (by kernel_rfl) h with ⟨hcs, _⟩ | ⟨a, len, cap, zs, hcs, _, hl, hm, hz, _, hcell, hwz⟩
  · simp at hcs
    subst hcs
    exact ⟨[], BytesArg.nil w⟩
  · simp at hcs
    subst hcs
    exact BytesArg.of_row (.inr ⟨a, rfl, hl, hm, by have := hz; split at this <;> omega, hcell, hwz⟩)

end
end Go.Proofs.YtdcbabgcbkdlhaaDoor
set_option maxRecDepth 100000
namespace Go.Proofs.YtdcbabgcbkdlhaaDoor
open Go.RowKit

theorem nat_u8 {n : Int} (h : (Lit.int .u8 n).wf = true) : ∃ m : Nat, n = (m : Int) ∧ m < 256 := by
  have := bounds_u8 h
  exact ⟨n.toNat, by omega, by omega⟩
end Go.Proofs.YtdcbabgcbkdlhaaDoor
