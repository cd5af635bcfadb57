/- Split. -/
import Derived.Test.YtjhghgdmjajekaaUs
namespace Go.Proofs.Ytjhghgdmjajekaa
open Go.RowKit

/-- What is still to come, where the unit u has been told. -/
def still (l : List Nat) (p : Nat) (done : List (List Nat)) (u : List Nat) : Option (List (List Nat)) :=
  match unesc 0 u with
  | none => none
  | some x => (splits l.length (l.drop p)).map fun r => done ++ x :: r

theorem still_next (l : List Nat) (p : Nat) (done : List (List Nat)) (h : p < l.length) :
    still l (p + 3 + far (l.drop (p + 3))) done ((l.drop (p + 3)).take (far (l.drop (p + 3)))) = (splits l.length (l.drop p)).map (done ++ ·) := by
  rw [splits_step l p h]
  unfold still
  cases unesc 0 ((l.drop (p + 3)).take (far (l.drop (p + 3)))) with
  | none => rfl
  | some x => simp [Function.comp_def]

theorem still_some {l : List Nat} {p : Nat} {done : List (List Nat)} {u x : List Nat} (h : unesc 0 u = some x) : still l p done u = (splits l.length (l.drop p)).map ((done ++ [x]) ++ ·) := by
  unfold still; rw [h]; simp

theorem still_none {l : List Nat} {p : Nat} {done : List (List Nat)} {u : List Nat} (h : unesc 0 u = none) : still l p done u = none := by
  unfold still; rw [h]

theorem RowU.base {w : World} {B B' : Nat} {v : Value} {us : List (List Nat)} (h : RowU w B v us) (hb : B' ≤ B) : RowU w B' v us := by
  obtain ⟨ps, h1, h2, h3⟩ := h
  refine ⟨ps, h1, ⟨h2.1, ?_⟩, fun q hq => (h3 q hq).base hb⟩
  rcases h2.2 with hn | ⟨g, cap, cur, rfl, hb', rest⟩
  · exact .inl hn
  · exact .inr ⟨g, cap, cur, rfl, by omega, rest⟩

theorem Row.shape {w : World} {B : Nat} {v : Value} {l : List Nat} (h : Row w B v l) : ∃ a cap, v = .slice a l.length cap := by
  rcases h.1.2 with ⟨rfl, h0⟩ | ⟨g, cap, cur, rfl, _⟩
  · exact ⟨none, 0, by rw [h0]⟩
  · exact ⟨_, _, rfl⟩

/-- Split's own: the closure, and behind it the units. -/
def SpSt (w0 w : World) (B pa pb : Nat) (v : Value) (p : Nat) (o : Value) (us : List (List Nat)) : Prop :=
  Cl w0 w pa pb v p ∧ RowU w B o us ∧ pa < B ∧ pb < B ∧ w0.heap.size ≤ B ∧ B ≤ w.heap.size

theorem SpSt.all {w0 w w' : World} {B pa pb p : Nat} {v o : Value} {us : List (List Nat)} (h : SpSt w0 w B pa pb v p o us) (k : Kept (fun _ => False) w w') : SpSt w0 w' B pa pb v p o us :=
  ⟨h.1.all k, h.2.1.all k, h.2.2.1, h.2.2.2.1, h.2.2.2.2.1, Nat.le_trans h.2.2.2.2.2 k.size⟩

theorem SpSt.next {w0 w w' : World} {B pa pb p q : Nat} {v o : Value} {us : List (List Nat)} (h : SpSt w0 w B pa pb v p o us) (hc : Cl w0 w' pa pb v q) (k : Kept (fun k => k = pa) w w') : SpSt w0 w' B pa pb v q o us := by
  refine ⟨hc, h.2.1.kept k ?_, h.2.2.1, h.2.2.2.1, h.2.2.2.2.1, Nat.le_trans h.2.2.2.2.2 k.size⟩
  rintro g rfl c e f hg
  rw [h.1.1.1] at hg
  cases hg
  decide

theorem SpSt.grown {w0 w w' : World} {B pa pb p : Nat} {v o o' : Value} {us us' : List (List Nat)} (h : SpSt w0 w B pa pb v p o us) (h1 : RowU w' B o' us') (hg : w.grownBy w' o.ownBlock) : SpSt w0 w' B pa pb v p o' us' := by
  have hk : Kept (fun k => B ≤ k) w w' := (Kept.refl _ w).grown hg (fun k hk _ => (h.2.1.lt k hk).1)
  obtain ⟨hc, hr, ha, hb, h0, hB⟩ := h
  refine ⟨⟨⟨hk.at hc.1.1 (by omega), hk.at hc.1.2 (by omega)⟩, hc.2.1, hc.2.2.1, hc.2.2.2.trans hk (fun i hi x => by omega)⟩, h1, ha, hb, h0, Nat.le_trans hB hk.size⟩

theorem SpSt.own {w0 w : World} {B pa pb p : Nat} {v o : Value} {us : List (List Nat)} (h : SpSt w0 w B pa pb v p o us) : OwnU w0 w o us := ⟨h.2.1.base h.2.2.2.2.1, h.1.2.2.2⟩

/-- Where Split stands at the head of its loop. -/
def SpRel (w0 : World) (l : List Nat) (B pa pb : Nat) (v : Value) (res : Option (List (List Nat))) (gg : Nat) (o4 o6 o7 : Value) (wr : World) : Prop :=
  ∃ (p : Nat) (done : List (List Nat)), p ≤ l.length ∧ (l.drop p = [] ∨ isStart (l.drop p) = true) ∧ SpSt w0 wr B pa pb v p o4 done ∧
    ((o7 = .bool false ∧ res = some done) ∨ (o7 = .bool true ∧ gg = l.length - p + 1 ∧ done.length + 3 ≤ p ∧ ∃ u, BytesArg w0 o6 u ∧ u.length ≤ l.length ∧ res = still l p done u))

set_option maxHeartbeats 2000000 in
theorem split_any (v : Value) (l : List Nat) (w : World) (h : BytesArg w v l) (hl : l.length < 4294967296) :
    Calls Try.prog 14 #[v] w (MayU w (split l)) := by
  have HA := Lib.hid h
  obtain ⟨a, cap, rfl, h1, h2, h3, -, hc⟩ := h
  clear hc h1 h2 h3
  generalize hN : l.length = n at *
  have HN := Lib.hid hN; clear hN
  generalize hR : split l = res
  have HR := Lib.hid hR; clear hR
  go_enter Try.func14, Try.ntmps14
  go_wp2_with (fail)
  have hfd := find_any _ l 0 w HA.out (by omega) (by rw [HN.out]; omega)
  have HFD := Lib.hid hfd; clear hfd
  rw [show (((0 : Nat)) : Int) = 0 from rfl, Nat.zero_add, List.drop_zero] at HFD
  refine HFD.out.mono ?_
  rintro e w1 ⟨rfl, k1⟩
  have K1 := Lib.hid k1; clear k1 HFD
  by_cases hf : far l = 0
  · have hz := far_zero hf
    have hres : splits n l = res := by rw [← HR.out, split, if_pos hz, HN.out]
    have HRES := Lib.hid hres
    have HZ := Lib.hid hz
    rw [hf]
    clear hf hz hres HR
    have z0 : (((0 : Nat) : Int) != 0) = false := rfl
    rw [show (((0 : Nat)) : Int) = 0 from rfl]
    clear z0
    go_wp2_with (fail)
    refine (units_any a n cap _).mono ?_
    rintro e w2 ⟨rfl, hcl⟩
    unfold nextFn
    have hst : SpSt w w2 w2.heap.size (w1.heap.size + 1) w1.heap.size (.slice a n cap) 0 (.slice none 0 0) [] := by
      have e1 := lt_of_heap hcl.1.1
      have e2 := lt_of_heap hcl.1.2
      have e3 := K1.out.size
      refine ⟨⟨hcl.1, by omega, by omega, K1.out.trans hcl.2.2.2 (fun _ _ x => x)⟩, RowU.nil _ _, e1, e2, by omega, Nat.le_refl _⟩
    generalize w1.heap.size + 1 = pa at *
    generalize w1.heap.size = pb at *
    have HST := Lib.hid hst; clear hst hcl
    generalize hB : w2.heap.size = B at *
    clear hB
    by_cases hn0 : n = 0
    · subst hn0
      have hl0 : l = [] := List.eq_nil_of_length_eq_zero HN.out
      have hres : res = some [] := by rw [← HRES.out]; rfl
      have HF := Lib.hid hres
      clear hres hl0 HRES HZ
      go_wp2_with (fail)
      refine (next_end w pa pb a 0 cap _ HST.out.1).mono ?_
      rintro e w3 ⟨rfl, rfl⟩
      go_wp2_with (fail)
      refine wp_loop_rounds 1 ?_
      rw [rounds_succ]
      go_wp2
      go_ret2
      exact MayU.yes HF.out HST.out.own
    · have hroom : 0 + 3 ≤ l.length := start_room (p := 0) (by simpa using HZ.out) (by rw [HN.out]; omega)
      rw [HN.out] at hroom
      have hn3 : 0 + 3 ≤ n := hroom
      clear hroom
      go_wp2_with (fail)
      refine (next_some w pa pb a n cap 0 l _ HST.out.1 HA.out hn3 (by omega)).mono ?_
      rintro e w3 ⟨v3, rfl, hb3, hc3, k3⟩
      have hrel0 : SpRel w l B pa pb (.slice a n cap) res (n - (0 + 3 + far (l.drop (0 + 3))) + 1) (.slice none 0 0) v3 (.bool true) w3 := by
        have hfl := far_le (l.drop (0 + 3))
        rw [List.length_drop] at hfl
        have hn := HN.out
        refine ⟨0 + 3 + far (l.drop (0 + 3)), [], by omega, drop_stop l (0 + 3), HST.out.next hc3 k3, .inr ⟨rfl, by rw [hn], by simp, _, hb3, by simp; omega, ?_⟩⟩
        rw [still_next l 0 [] (by omega), ← HRES.out, hn]; simp
      have HREL := Lib.hid hrel0
      clear hrel0 hb3 hc3 k3 HST HRES HZ
      generalize n - (0 + 3 + far (l.drop (0 + 3))) + 1 = G0 at *
      go_wp2_with (fail)
      go_loopg [4, 6, 7] G0 (fun gg o4 o6 o7 wr => SpRel w l B pa pb (.slice a n cap) res gg o4 o6 o7 wr)
      case atStart => exact HREL.out
      case round =>
        clear HREL
        obtain ⟨p, done, hp, hstop, hst, hcase⟩ := hrel
        have HST := Lib.hid hst; clear hst
        have HSTOP := Lib.hid hstop; clear hstop
        rw [HN.out] at hp
        rcases hcase with ⟨rfl, hres⟩ | ⟨rfl, hgg, hdn, u, hbu, hul, hres⟩
        · have HF := Lib.hid hres; clear hres
          go_wp2
          go_ret2
          exact MayU.yes HF.out HST.out.own
        · rw [HN.out] at hgg hul
          have HG := Lib.hid hgg
          have hG1 : 1 ≤ gk := by omega
          clear hgg
          have HF := Lib.hid hres; clear hres
          have HBU := Lib.hid hbu; clear hbu
          go_wp2_with (fail)
          refine (unescape_any _ u _ (HBU.out.all HST.out.1.2.2.2) (by omega)).mono ?_
          cases hus : unesc 0 u with
          | none =>
            rintro e w4 ⟨v4, rfl, ho4⟩
            have K4 := Lib.hid ho4.2; clear ho4
            have hfin : res = none := by rw [HF.out, still_none hus]
            have HF2 := Lib.hid hfin; clear hfin hus
            rw [show code (none : Option (List Nat)) = 20 from rfl]
            go_wp2
            go_ret2
            exact MayU.no HF2.out (HST.out.1.2.2.2.trans K4.out (fun _ _ x => x))
          | some x =>
            rintro e w4 ⟨v4, rfl, ho4⟩
            obtain ⟨a4, c4, rfl⟩ := ho4.1.shape
            have HO4 := Lib.hid ho4; clear ho4
            have hfin : res = (splits l.length (l.drop p)).map ((done ++ [x]) ++ ·) := by rw [HF.out, still_some hus]
            have HF2 := Lib.hid hfin; clear hfin hus HF
            rw [show code (some x) = 0 from rfl]
            have S4 := Lib.hid (HST.out.all HO4.out.2)
            have hR4 : Row w4 B _ x := HO4.out.1.base HST.out.2.2.2.2.2
            have HR4 := Lib.hid hR4; clear hR4 HO4
            go_wp2_with (at_builtin; refine wpList_append_unit _ rfl (.tmp 34) (.tmp 36) rfl B _ _ (.slice a4 ((some x).getD []).length c4) done x rfl (S4.out.2.1.all ((Kept.refl _ _).alloc _)) (HR4.out.all ((Kept.refl _ _).alloc _)) ⟨w4.heap.size, 0, none⟩ rfl rfl (by simp) (by omega) (by have := S4.out.2.2.2.2.2; simp; omega) ?_)
            intro v5 w5 hr5 hg5
            have S5 := Lib.hid ((S4.out.all ((Kept.refl _ _).alloc _)).grown hr5 hg5)
            clear hr5 hg5 S4 HR4 HST
            by_cases hpn : p < n
            · have hroom := start_room HSTOP.out (by rw [HN.out]; exact hpn)
              rw [HN.out] at hroom
              go_wp2_with (fail)
              refine (next_some w pa pb a n cap p l _ S5.out.1 HA.out hroom (by omega)).mono ?_
              rintro e w6 ⟨v6, rfl, hb6, hc6, k6⟩
              have hrel1 : SpRel w l B pa pb (.slice a n cap) res (n - (p + 3 + far (l.drop (p + 3))) + 1) v5 v6 (.bool true) w6 := by
                have hfl := far_le (l.drop (p + 3))
                rw [List.length_drop] at hfl
                have hn := HN.out
                refine ⟨p + 3 + far (l.drop (p + 3)), done ++ [x], by omega, drop_stop l (p + 3), S5.out.next hc6 k6, .inr ⟨rfl, by rw [hn], by simp; omega, _, hb6, by simp; omega, ?_⟩⟩
                rw [still_next l p (done ++ [x]) (by omega)]; exact HF2.out
              have HREL := Lib.hid hrel1
              have hlt : n - (p + 3 + far (l.drop (p + 3))) + 1 < gk := by have := HG.out; omega
              clear hrel1 hb6 hc6 k6
              generalize n - (p + 3 + far (l.drop (p + 3))) + 1 = G1 at *
              go_wp2
              go_roundg G1
              case measure => exact hlt
              case rel => exact HREL.out
            · have epn : p = n := by omega
              subst epn
              have hres : res = some (done ++ [x]) := by
                have e := splits_end l
                rw [HN.out] at e
                rw [HF2.out, HN.out, e]; simp
              have hrel1 : SpRel w l B pa pb (.slice a p cap) res 0 v5 (.slice none 0 0) (.bool false) w5 := ⟨p, done ++ [x], by rw [HN.out]; exact Nat.le_refl _, HSTOP.out, S5.out, .inl ⟨rfl, hres⟩⟩
              have HREL := Lib.hid hrel1
              clear hrel1 hres
              go_wp2_with (fail)
              refine (next_end w pa pb a p cap _ S5.out.1).mono ?_
              rintro e w6 ⟨rfl, rfl⟩
              go_wp2
              go_roundg 0
              case measure => omega
              case rel => exact HREL.out
  · have hnz : (((far l : Nat) : Int) != 0) = true := by simp; omega
    have hres : res = none := by
      rw [← HR.out, split, if_neg]
      rintro (h | h)
      · subst h; exact hf rfl
      · exact hf (far_start h)
    have HRES := Lib.hid hres
    clear hf hres
    go_wp2
    go_ret2
    exact MayU.no HRES.out K1.out
end Go.Proofs.Ytjhghgdmjajekaa
