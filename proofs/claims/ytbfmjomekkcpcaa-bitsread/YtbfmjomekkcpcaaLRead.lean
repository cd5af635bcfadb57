/- BitsRead's walk. -/
import Derived.Test.YtbfmjomekkcpcaaRfR5
import Derived.Test.YtbfmjomekkcpcaaParts
namespace Go.Proofs.Ytbfmjomekkcpcaa
open Go.RowKit

/-- Both readers, the program's and the document's, made behind w0, over the same bytes, in states of their own. -/
def Both (w0 w : World) (p g x : Nat) (l : List Nat) (s1 s2 : Option Nat) : Prop :=
  RdIs w p g l s1 ∧ RfIs w x l s2 ∧ w0.heap.size ≤ p ∧ w0.heap.size ≤ g ∧ w0.heap.size ≤ x ∧ x ≠ p ∧ x ≠ g ∧ Kept (fun _ => False) w0 w

theorem RfIs.kept {S : Nat → Prop} {w w' : World} {x : Nat} {l : List Nat} {st : Option Nat} (h : RfIs w x l st) (k : Kept S w w') (hx : ¬ S x) : RfIs w' x l st := by
  cases st with
  | none => obtain ⟨a, ha, h⟩ := h; exact ⟨a, ha, h.kept k hx⟩
  | some a => exact ⟨h.1, h.2.kept k hx⟩

theorem Both.left {w0 w w' : World} {p g x : Nat} {l : List Nat} {s1 s2 : Option Nat} {r : Int × Option Nat} {e : Ending} (h : Both w0 w p g x l s1 s2) (hd : RdDone w p g l r e w') :
    e = .returned (.int .i64 r.1) ∧ Both w0 w' p g x l r.2 s2 := by
  obtain ⟨h1, h2, h3, h4, h5, h6, h7, h8⟩ := h
  obtain ⟨d1, d2, d3⟩ := hd
  exact ⟨d1, d2, h2.kept d3 h6, h3, h4, h5, h6, h7, h8.trans d3 (fun i hi x => by omega)⟩

theorem Both.right {w0 w w' : World} {p g x : Nat} {l : List Nat} {s1 s2 : Option Nat} {r : Int × Option Nat} {e : Ending} (h : Both w0 w p g x l s1 s2) (hd : RfDone w x l r e w') :
    e = .returned (.int .i64 r.1) ∧ Both w0 w' p g x l s1 r.2 := by
  obtain ⟨h1, h2, h3, h4, h5, h6, h7, h8⟩ := h
  obtain ⟨d1, d2, d3⟩ := hd
  exact ⟨d1, h1.kept d3 (fun e => h6 e.symm) (fun e => h7 e.symm), d2, h3, h4, h5, h6, h7, h8.trans d3 (fun i hi x => by omega)⟩

theorem Both.kept {w0 w w' : World} {p g x : Nat} {l : List Nat} {s1 s2 : Option Nat} (h : Both w0 w p g x l s1 s2) (k : Kept (fun _ => False) w w') : Both w0 w' p g x l s1 s2 := by
  obtain ⟨h1, h2, h3, h4, h5, h6, h7, h8⟩ := h
  exact ⟨h1.kept k id id, h2.kept k id, h3, h4, h5, h6, h7, h8.trans k (fun _ _ x => x)⟩

theorem Both.all {w0 w : World} {p g x : Nat} {l : List Nat} {s1 s2 : Option Nat} (h : Both w0 w p g x l s1 s2) : Kept (fun _ => False) w0 w := h.2.2.2.2.2.2.2

theorem Both.lost {w0 w : World} {p g x : Nat} {l : List Nat} {s1 s2 : Option Nat} (h : Both w0 w p g x l s1 s2) : w.cell? ⟨x, 2, none⟩ = some (.bool s2.isNone) := by
  obtain ⟨h1, h2, -⟩ := h
  cases s2 with
  | none => obtain ⟨a, ha, h⟩ := h2; exact h.facts.2.2.1
  | some a => exact h2.2.facts.2.2.1

theorem b_bit {w0 w : World} {p g x : Nat} {l : List Nat} {s1 s2 : Option Nat} (hl : Fair l) (h : Both w0 w p g x l s1 s2) :
    Calls Try.prog 22 #[.pointer (some ⟨p, 0, none⟩)] w fun e w' => e = .returned (.int .i64 (rdStep (nextAt l) s1).1) ∧ Both w0 w' p g x l (rdStep (nextAt l) s1).2 s2 :=
  (rbit_any p g l s1 w hl h.1).mono fun _ _ hd => h.left hd
theorem b_fixed {w0 w : World} {p g x : Nat} {l : List Nat} {s1 s2 : Option Nat} (m : Int) (hl : Fair l) (h : Both w0 w p g x l s1 s2) :
    Calls Try.prog 24 #[.pointer (some ⟨p, 0, none⟩), .int .i64 m] w fun e w' => e = .returned (.int .i64 (rdStep (fixedRd l m) s1).1) ∧ Both w0 w' p g x l (rdStep (fixedRd l m) s1).2 s2 :=
  (rfixed_any p g l s1 m w hl h.1).mono fun _ _ hd => h.left hd
theorem b_whole {w0 w : World} {p g x : Nat} {l : List Nat} {s1 s2 : Option Nat} (m : Int) (hl : Fair l) (h : Both w0 w p g x l s1 s2) :
    Calls Try.prog 25 #[.pointer (some ⟨p, 0, none⟩), .int .i64 m] w fun e w' => e = .returned (.int .i64 (rdStep (wholeRd l m) s1).1) ∧ Both w0 w' p g x l (rdStep (wholeRd l m) s1).2 s2 :=
  (rwhole_any p g l s1 m w hl h.1).mono fun _ _ hd => h.left hd
theorem b_signed {w0 w : World} {p g x : Nat} {l : List Nat} {s1 s2 : Option Nat} (m : Int) (hl : Fair l) (h : Both w0 w p g x l s1 s2) :
    Calls Try.prog 27 #[.pointer (some ⟨p, 0, none⟩), .int .i64 m] w fun e w' => e = .returned (.int .i64 (rdStep (signedRd l m) s1).1) ∧ Both w0 w' p g x l (rdStep (signedRd l m) s1).2 s2 :=
  (rsigned_any p g l s1 m w hl h.1).mono fun _ _ hd => h.left hd
theorem b_rfixed {w0 w : World} {p g x : Nat} {l : List Nat} {s1 s2 : Option Nat} (m : Int) (hl : l.length ≤ 1000) (h : Both w0 w p g x l s1 s2) :
    Calls Try.prog 23 #[.pointer (some ⟨x, 0, none⟩), .int .i64 m] w fun e w' => e = .returned (.int .i64 (rdStep (fixedRd l m) s2).1) ∧ Both w0 w' p g x l s1 (rdStep (fixedRd l m) s2).2 :=
  (rf_fixed x l s2 m w hl h.2.1).mono fun _ _ hd => h.right hd
theorem b_rwhole {w0 w : World} {p g x : Nat} {l : List Nat} {s1 s2 : Option Nat} (m : Int) (hl : l.length ≤ 1000) (h : Both w0 w p g x l s1 s2) :
    Calls Try.prog 26 #[.pointer (some ⟨x, 0, none⟩), .int .i64 m] w fun e w' => e = .returned (.int .i64 (rdStep (wholeRd l m) s2).1) ∧ Both w0 w' p g x l s1 (rdStep (wholeRd l m) s2).2 :=
  (rf_whole x l s2 m w hl h.2.1).mono fun _ _ hd => h.right hd
theorem b_rsigned {w0 w : World} {p g x : Nat} {l : List Nat} {s1 s2 : Option Nat} (m : Int) (hl : l.length ≤ 1000) (h : Both w0 w p g x l s1 s2) :
    Calls Try.prog 28 #[.pointer (some ⟨x, 0, none⟩), .int .i64 m] w fun e w' => e = .returned (.int .i64 (rdStep (signedRd l m) s2).1) ∧ Both w0 w' p g x l s1 (rdStep (signedRd l m) s2).2 :=
  (rf_signed x l s2 m w hl h.2.1).mono fun _ _ hd => h.right hd
theorem b_lost {w0 w : World} {p g x : Nat} {l : List Nat} {s1 s2 : Option Nat} (h : Both w0 w p g x l s1 s2) :
    Calls Try.prog 29 #[.pointer (some ⟨p, 0, none⟩)] w fun e w' => e = .returned (.bool s1.isNone) ∧ w' = w :=
  (lost_any p g l s1 w h.1).mono fun _ _ ⟨a, b⟩ => ⟨a, b.symm⟩

/-- A cell of the parts is where it was. -/
theorem Both.cell {w0 w : World} {p g x : Nat} {l : List Nat} {s1 s2 : Option Nat} (h : Both w0 w p g x l s1 s2) {b off : Nat} {v : Value} (hb : b < w0.heap.size) (hc : w0.cell? ⟨b, off, none⟩ = some v) : w.cell? ⟨b, off, none⟩ = some v :=
  (World.cell?_of_block (a := ⟨b, off, none⟩) (h.all.block b hb id)).trans hc

set_option maxHeartbeats 8000000 in
set_option maxRecDepth 100000 in
theorem read_walk (v v2 : Value) (l : List Nat) (ps : List Pt) (w : World) (h : BytesArg w v l) (hl : l.length ≤ maxLen) (h2 : PartsArg w v2 ps) (hm : ps.length ≤ maxLen) :
    Calls Try.prog 5 #[v, v2] w fun e w' => e = .returned (.bool true) ∧ Below w.heap.size w w' := by
  unfold maxLen at hm hl
  have HA := Lib.hid h
  obtain ⟨a, cap, rfl, -, -⟩ := h
  obtain ⟨a2, cap2, rfl, hc⟩ := h2
  have HC := Lib.hid hc; clear hc
  generalize hN : ps.length = n at *
  have HN := Lib.hid hN; clear hN
  by_cases hbig : 300 < l.length ∨ 100 < n
  · rcases hbig with h3 | h3
    · have d1 : decide (300 < (l.length : Int)) = true := by simp; omega
      go_enter Try.func5, Try.ntmps5
      go_wp2_with (fail)
      refine (awake_any _).mono ?_
      rintro e w1 ⟨rfl, hk⟩
      have KA := Lib.hid hk; clear hk
      go_wp2
      go_ret
      exact ⟨rfl, KA.out.all⟩
    · by_cases h4 : 300 < l.length
      all_goals
        go_enter Try.func5, Try.ntmps5
        go_wp2_with (fail)
        refine (awake_any _).mono ?_
        rintro e w1 ⟨rfl, hk⟩
        have KA := Lib.hid hk; clear hk
        go_wp2
        go_ret
        exact ⟨rfl, KA.out.all⟩
  have d1 : decide (300 < (l.length : Int)) = false := by simp; omega
  have d2 : decide (100 < (n : Int)) = false := by simp; omega
  have hll : l.length ≤ 1000 := by omega
  have HF := Lib.hid (HA.out.fair (by omega))
  go_enter Try.func5, Try.ntmps5
  go_wp2_with (fail)
  refine (awake_any _).mono ?_
  rintro e w1 ⟨rfl, hk⟩
  have KA := Lib.hid hk; clear hk
  go_wp2_with (fail)
  refine (new_rdr (by omega) (HA.out.kept KA.out (fun _ _ x => x)).slice KA.out).mono ?_
  rintro e w2 ⟨p, g, rfl, hr, -, -, -⟩
  have HR := Lib.hid hr; clear hr
  obtain ⟨lp, lg, npg⟩ := HR.out.1.lt
  go_wp2_with (fail)
  refine (ref_bits _ l _ hll (HA.out.kept HR.out.2.2.2 (fun _ _ x => x))).mono ?_
  rintro e w3 ⟨rfl, rfl⟩
  have hB0 : Both w (w2.alloc (.cells #[.string (strOf (bitsOf l)), .int .i64 0, .bool false] 40)) p g w2.heap.size l (some 0) (some 0) := by
    have hk2 : Kept (fun _ => False) w2 (w2.alloc (.cells #[.string (strOf (bitsOf l)), .int .i64 0, .bool false] 40)) := (Kept.refl _ _).alloc _
    exact ⟨HR.out.1.kept hk2 id id, ⟨Nat.zero_le _, heap_alloc_new w2 _⟩, HR.out.2.1, HR.out.2.2.1, HR.out.2.2.2.size, by omega, by omega, HR.out.2.2.2.trans hk2 (fun _ _ x => x)⟩
  have B0 := Lib.hid hB0; clear hB0
  clear HR KA lp lg npg
  go_wp2_with (fail)
  generalize w2.heap.size = x at *
  go_loopg [8] n (fun gg s wr => ∃ (i : Nat) (st : Option Nat), i + gg = n ∧ s = .int .i64 (i : Int) ∧ Both w wr p g x l st st)
  case atStart => exact ⟨0, some 0, by omega, rfl, B0.out⟩
  case round =>
    obtain ⟨i, st, hi, rfl, hbo⟩ := hrel
    clear B0
    have B1 := Lib.hid hbo; clear hbo
    have HI := Lib.hid hi
    by_cases hlt : i < n
    · obtain ⟨b, off, rfl, hb, hcell⟩ := HC.out (by omega)
      obtain ⟨q, hq⟩ : ∃ q, ps[i]? = some q := ⟨ps[i]'(by rw [HN.out]; exact hlt), List.getElem?_eq_getElem _⟩
      obtain ⟨c0, c1, c2⟩ := hcell i (by omega) q hq
      have C2 := Lib.hid c2
      have k0 := B1.out.cell hb c0
      have k2 := B1.out.cell hb c2
      have hgk : 0 < gk := by omega
      clear c0 c1 c2 hcell hi hq
      obtain ⟨kd, nn, kk⟩ := q
      simp only at k0 k2
      by_cases e1 : kd = 1
      · subst e1
        go_wp2_with (fail)
        refine (b_bit HF.out B1.out).mono ?_
        rintro e w4 ⟨rfl, h4⟩
        have B2 := Lib.hid h4; clear h4
        go_wp2_with (fail)
        refine (b_rfixed 1 hll B2.out).mono ?_
        rw [fixedRd_one]
        rintro e w5 ⟨rfl, h5⟩
        generalize rdStep (nextAt l) st = r at *
        obtain ⟨r1, r2⟩ := r
        dsimp only at h5 ⊢
        have B3 := Lib.hid h5; clear h5
        have hlx := B3.out.lost
        have hbn : (r2.isNone != r2.isNone) = false := by simp
        go_wp2_with (fail)
        go_quiet ((go_at_call 29; exact Calls.quiet_of_same (b_lost (B3.out.kept ((Kept.refl _ _).drewN _)))))
        go_wp2
        go_roundg (gk - 1)
        case measure => omega
        case rel => exact ⟨i + 1, r2, by have := HI.out; omega, by go_num, B3.out.kept ((Kept.refl _ _).drewN _)⟩
      by_cases e2 : kd = 2
      · subst e2
        go_wp2_with (fail)
        go_region_with (first
          | (go_at_call 24; refine (b_fixed kk HF.out (B1.out.kept (Kept.refl _ _).drew)).mono ?_; rintro e w4 ⟨rfl, h4⟩; have k4 := h4.cell hb C2.out)
          | (go_at_call 23; refine (b_rfixed kk hll h4).mono ?_; rintro e w5 ⟨rfl, h5⟩; have k5 := h5.cell hb C2.out))
        all_goals
          generalize rdStep (fixedRd l kk) st = r at *
          obtain ⟨r1, r2⟩ := r
          dsimp only at h5 ⊢
          have B3 := Lib.hid h5; clear h5 h4 k4 k5
          have hlx := B3.out.lost
          have hbn : (r2.isNone != r2.isNone) = false := by simp
          go_wp2_with (fail)
          go_quiet ((go_at_call 29; exact Calls.quiet_of_same (b_lost (B3.out.kept ((Kept.refl _ _).drewN _)))))
          go_wp2
          go_roundg (gk - 1)
          case measure => omega
          case rel => exact ⟨i + 1, r2, by have := HI.out; omega, by go_num, B3.out.kept ((Kept.refl _ _).drewN _)⟩
      by_cases e3 : kd = 3
      · subst e3
        go_wp2_with (fail)
        go_region_with (first
          | (go_at_call 25; refine (b_whole kk HF.out (B1.out.kept (Kept.refl _ _).drew)).mono ?_; rintro e w4 ⟨rfl, h4⟩; have k4 := h4.cell hb C2.out)
          | (go_at_call 26; refine (b_rwhole kk hll h4).mono ?_; rintro e w5 ⟨rfl, h5⟩; have k5 := h5.cell hb C2.out))
        all_goals
          generalize rdStep (wholeRd l kk) st = r at *
          obtain ⟨r1, r2⟩ := r
          dsimp only at h5 ⊢
          have B3 := Lib.hid h5; clear h5 h4 k4 k5
          have hlx := B3.out.lost
          have hbn : (r2.isNone != r2.isNone) = false := by simp
          go_wp2_with (fail)
          go_quiet ((go_at_call 29; exact Calls.quiet_of_same (b_lost (B3.out.kept ((Kept.refl _ _).drewN _)))))
          go_wp2
          go_roundg (gk - 1)
          case measure => omega
          case rel => exact ⟨i + 1, r2, by have := HI.out; omega, by go_num, B3.out.kept ((Kept.refl _ _).drewN _)⟩
      by_cases e4 : kd = 4
      · subst e4
        go_wp2_with (fail)
        go_region_with (first
          | (go_at_call 27; refine (b_signed kk HF.out (B1.out.kept (Kept.refl _ _).drew)).mono ?_; rintro e w4 ⟨rfl, h4⟩; have k4 := h4.cell hb C2.out)
          | (go_at_call 28; refine (b_rsigned kk hll h4).mono ?_; rintro e w5 ⟨rfl, h5⟩; have k5 := h5.cell hb C2.out))
        all_goals
          generalize rdStep (signedRd l kk) st = r at *
          obtain ⟨r1, r2⟩ := r
          dsimp only at h5 ⊢
          have B3 := Lib.hid h5; clear h5 h4 k4 k5
          have hlx := B3.out.lost
          have hbn : (r2.isNone != r2.isNone) = false := by simp
          go_wp2_with (fail)
          go_quiet ((go_at_call 29; exact Calls.quiet_of_same (b_lost (B3.out.kept ((Kept.refl _ _).drewN _)))))
          go_wp2
          go_roundg (gk - 1)
          case measure => omega
          case rel => exact ⟨i + 1, r2, by have := HI.out; omega, by go_num, B3.out.kept ((Kept.refl _ _).drewN _)⟩
      · have b1 : (kd == 1) = false := by simpa using e1
        have b2 : (kd == 2) = false := by simpa using e2
        have b3 : (kd == 3) = false := by simpa using e3
        have b4 : (kd == 4) = false := by simpa using e4
        clear e1 e2 e3 e4
        have hlx := B1.out.lost
        have hbn : (st.isNone != st.isNone) = false := by simp
        go_wp2_with (fail)
        go_quiet ((go_at_call 29; exact Calls.quiet_of_same (b_lost (B1.out.kept ((Kept.refl _ _).drewN _)))))
        go_wp2
        go_roundg (gk - 1)
        case measure => omega
        case rel => exact ⟨i + 1, st, by have := HI.out; omega, by go_num, B1.out.kept ((Kept.refl _ _).drewN _)⟩
    · have ei : i = n := by omega
      clear HI hi
      subst ei
      go_wp2_with (fail)
      refine (done_any p g l st _ HF.out B1.out.1).mono ?_
      rintro e w4 ⟨rfl, n4, e4⟩
      have B2 := Lib.hid (show Both w w4 p g x l st st by subst e4; exact B1.out.kept ((Kept.refl _ _).drewN _)); clear e4
      go_wp2_with (fail)
      refine (rf_done x l st _ hll HF.out B2.out.2.1).mono ?_
      rintro e w5 ⟨rfl, n5, e5⟩
      have B3 := Lib.hid (show Both w w5 p g x l st st by subst e5; exact B2.out.kept ((Kept.refl _ _).drewN _)); clear e5
      generalize doneOf l st = d
      go_wp2
      go_ret
      exact ⟨rfl, B3.out.all.all⟩
end Go.Proofs.Ytbfmjomekkcpcaa
