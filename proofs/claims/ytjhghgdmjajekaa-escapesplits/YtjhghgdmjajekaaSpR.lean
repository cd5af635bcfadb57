/- The document's Split. -/
import Derived.Test.YtjhghgdmjajekaaJnR
namespace Go.Proofs.Ytjhghgdmjajekaa
open Go.RowKit

/-- What is still to come from place p on, behind the units that were told. -/
def goesOn (l : List Nat) (p : Nat) (done : List (List Nat)) : Option (List (List Nat)) :=
  if l.drop p = [] ∨ isStart (l.drop p) = true then (splits l.length (l.drop p)).map (done ++ ·) else none

theorem goesOn_first (l : List Nat) : goesOn l 0 [] = split l := by
  unfold goesOn split
  simp

theorem goesOn_no {l : List Nat} {p : Nat} {done : List (List Nat)} (hp : p < l.length) (h : isStart (l.drop p) = false) : goesOn l p done = none := by
  unfold goesOn
  rw [if_neg]
  rintro (h1 | h1)
  · have := congrArg List.length h1; simp at this; omega
  · rw [h] at h1; cases h1

theorem goesOn_step {l : List Nat} {p : Nat} {done : List (List Nat)} (hp : p < l.length) (h : isStart (l.drop p) = true) :
    goesOn l p done = still l (p + 3 + far (l.drop (p + 3))) done ((l.drop (p + 3)).take (far (l.drop (p + 3)))) := by
  rw [still_next l p done hp]
  unfold goesOn
  rw [if_pos (.inr h)]

theorem goesOn_of {l : List Nat} {q : Nat} {done : List (List Nat)} (h : l.drop q = [] ∨ isStart (l.drop q) = true) : goesOn l q done = (splits l.length (l.drop q)).map (done ++ ·) := by
  unfold goesOn
  rw [if_pos h]

set_option maxHeartbeats 4000000 in
set_option maxRecDepth 100000 in
theorem ref_split (v : Value) (l : List Nat) (w : World) (h : BytesArg w v l) (hl : l.length < 4294967296) :
    Calls Try.prog 15 #[v] w (MayU w (split l)) := by
  have HA := Lib.hid h
  obtain ⟨a, cap, rfl, h1, h2, h3, -, hc⟩ := h
  have HC := Lib.hid hc; clear hc
  have H3 := Lib.hid h3; clear h3
  unfold maxLen at h2
  generalize hN : l.length = n at *
  have HN := Lib.hid hN; clear hN
  generalize hR : split l = res
  have HR := Lib.hid hR; clear hR
  go_enter Try.func15, Try.ntmps15
  go_wp2_with (fail)
  go_loopg [4, 5] n (fun gg o s wr => ∃ (p : Nat) (done : List (List Nat)), p + gg = n ∧ s = .int .i64 (p : Int) ∧ done.length ≤ p ∧ goesOn l p done = res ∧ OwnU w wr o done)
  case atStart => exact ⟨0, [], by omega, rfl, by simp, by rw [goesOn_first]; exact HR.out, RowU.nil _ _, Kept.refl _ _⟩
  case round =>
    obtain ⟨p, done, hp, rfl, hdl, hgo, ho⟩ := hrel
    have HP := Lib.hid hp
    have HGO := Lib.hid hgo; clear hgo
    have HO := Lib.hid ho; clear ho
    obtain ⟨G, hG⟩ : ∃ G, G = gk := ⟨_, rfl⟩
    subst hG
    by_cases hpn : p < n
    · have hG0 : 0 < G := by omega
      obtain ⟨b, off, rfl, hb, hcell⟩ := HC.out (by omega)
      have hcw : ∀ i, i < n → wr.cell? ⟨b, off + i, none⟩ = some (.int .u8 (l.getD i 0 : Nat)) := fun i hi => (World.cell?_of_block (a := ⟨b, off + i, none⟩) (HO.out.2.block b hb id)).trans (hcell i hi)
      have HCW := Lib.hid hcw; clear hcw hcell
      have hisa := isStart_at l p
      rw [HN.out] at hisa
      have HIS := Lib.hid hisa; clear hisa
      clear hp
      by_cases hst : isStart (l.drop p) = true
      · -- a start
        have hall : p + 3 ≤ n ∧ l.getD p 0 = 0 ∧ l.getD (p + 1) 0 = 0 ∧ l.getD (p + 2) 0 = 1 := by
          have := HIS.out; rw [hst] at this; exact of_decide_eq_true this.symm
        obtain ⟨hp3, x0, x1, x2⟩ := hall
        have c0 := HCW.out p (by omega)
        have c1 := HCW.out (p + 1) (by omega)
        have c2 := HCW.out (p + 2) (by omega)
        rw [x0] at c0
        rw [x1] at c1
        rw [x2] at c2
        have hstep := goesOn_step (done := done) (by rw [HN.out]; exact hpn) hst
        have HSTEP := Lib.hid hstep
        clear hstep hst x0 x1 x2
        have hd3 : decide ((n : Int) < (p : Int) + 3) = false := by simp; omega
        generalize hT : p + 3 + far (l.drop (p + 3)) = T at *
        have HT := Lib.hid hT; clear hT
        go_wp2_with (fail)
        clear c0 c1 c2
        go_loopg [6] (n - (p + 3)) (fun gg s w' => ∃ q : Nat, q + gg = n ∧ s = .int .i64 (q : Int) ∧ p + 3 ≤ q ∧ q + far (l.drop q) = T ∧ wr = w')
        case atStart => exact ⟨p + 3, by omega, by go_num, by omega, HT.out, rfl⟩
        case round =>
          obtain ⟨q, hq, rfl, hq3, hqT, rfl⟩ := hrel
          have HQ := Lib.hid hq
          have HQT := Lib.hid hqT; clear hqT
          have hisq := isStart_at l q
          rw [HN.out] at hisq
          have HISQ := Lib.hid hisq; clear hisq
          have hqn' : q ≤ n := by omega
          clear hq
          by_cases hgoon : q < n ∧ isStart (l.drop q) = false
          · obtain ⟨hqn, hns⟩ := hgoon
            have hfs := far_step l q (by rw [HN.out]; exact hqn) hns
            have hnext : q + 1 + far (l.drop (q + 1)) = T := by have := HQT.out; omega
            have HNX := Lib.hid hnext; clear hnext hfs
            have hgk : 0 < gk := by have := HQ.out; omega
            by_cases hq3n : q + 3 ≤ n
            · have c0 := HCW.out q (by omega)
              have c1 := HCW.out (q + 1) (by omega)
              have c2 := HCW.out (q + 2) (by omega)
              have hno : ¬ (l.getD q 0 = 0 ∧ l.getD (q + 1) 0 = 0 ∧ l.getD (q + 2) 0 = 1) := by
                intro hh
                have e := HISQ.out
                rw [hns] at e
                exact absurd e.symm (by simp only [decide_eq_false_iff_not, Classical.not_not]; exact ⟨hq3n, hh⟩)
              generalize l.getD q 0 = y0 at *
              generalize l.getD (q + 1) 0 = y1 at *
              generalize l.getD (q + 2) 0 = y2 at *
              clear hns
              by_cases b0 : y0 = 0
              · subst b0
                by_cases b1 : y1 = 0
                · subst b1
                  have b2 : (((y2 : Nat) : Int) == 1) = false := by simp; omega
                  clear hno
                  go_wp2
                  go_roundg (gk - 1)
                  case measure => omega
                  case rel => exact ⟨q + 1, by have := HQ.out; omega, by go_num, by omega, HNX.out, rfl⟩
                · have b1' : (((y1 : Nat) : Int) == 0) = false := by simp; omega
                  clear hno
                  go_wp2
                  go_roundg (gk - 1)
                  case measure => omega
                  case rel => exact ⟨q + 1, by have := HQ.out; omega, by go_num, by omega, HNX.out, rfl⟩
              · have b0' : (((y0 : Nat) : Int) == 0) = false := by simp; omega
                clear hno
                go_wp2
                go_roundg (gk - 1)
                case measure => omega
                case rel => exact ⟨q + 1, by have := HQ.out; omega, by go_num, by omega, HNX.out, rfl⟩
            · have hd3q : decide ((q : Int) + 3 ≤ (n : Int)) = false := by simp; omega
              clear hns
              go_wp2
              go_roundg (gk - 1)
              case measure => omega
              case rel => exact ⟨q + 1, by have := HQ.out; omega, by go_num, by omega, HNX.out, rfl⟩
          · -- the unit's end
            have hend : l.drop q = [] ∨ isStart (l.drop q) = true := by
              by_cases hqn : q < n
              · right
                cases hz : isStart (l.drop q) with
                | true => rfl
                | false => exact absurd ⟨hqn, hz⟩ hgoon
              · left; exact List.drop_eq_nil_of_le (by rw [HN.out]; omega)
            have hfar0 : far (l.drop q) = 0 := by
              rcases hend with e | e
              · rw [e]; rfl
              · exact far_start e
            have hqe : T = q := by have := HQT.out; omega
            subst hqe
            have HEND := Lib.hid hend
            have hfar : far (l.drop (p + 3)) = T - (p + 3) := by have := HT.out; omega
            rw [hfar] at HSTEP
            have hun : BytesArg w (.slice (if cap = p + 3 then some ⟨b, off, none⟩ else some ⟨b, off + (p + 3), none⟩) (T - (p + 3)) (cap - (p + 3))) ((l.drop (p + 3)).take (T - (p + 3))) := by
              refine HA.out.cut (p + 3) T (cap - (p + 3)) hq3 (by rw [HN.out]; exact hqn') (by omega) (by unfold maxLen; omega) _ ?_ ?_
              · intro hpos
                rw [if_neg (by omega)]; simp [Addr.add_lit]
              · intro hh; split at hh <;> cases hh
            generalize hUU : (l.drop (p + 3)).take (T - (p + 3)) = u at *
            have hul : u.length ≤ n := by rw [← hUU]; simp; omega
            have HUN := Lib.hid hun
            clear hUU hun hend hfar0 hfar HISQ HQT HQ hgoon
            have hcond : T < n → T + 3 ≤ n ∧ l.getD T 0 = 0 ∧ l.getD (T + 1) 0 = 0 ∧ l.getD (T + 2) 0 = 1 := by
              intro hTn
              have hs : isStart (l.drop T) = true := by
                rcases HEND.out with e | e
                · have := congrArg List.length e; have := HN.out; simp at *; omega
                · exact e
              have e := isStart_at l T
              rw [hs, HN.out] at e
              exact of_decide_eq_true e.symm
            have HCOND := Lib.hid hcond; clear hcond
            by_cases hTn : T < n
            · obtain ⟨hT3, y0, y1, y2⟩ := HCOND.out hTn
              have c0 := HCW.out T (by omega)
              have c1 := HCW.out (T + 1) (by omega)
              have c2 := HCW.out (T + 2) (by omega)
              rw [y0] at c0
              rw [y1] at c1
              rw [y2] at c2
              clear y0 y1 y2 HCOND
              rw [if_neg (show ¬ cap = p + 3 by omega)] at HUN
              have hcap : p + 3 < cap := by omega
              have hcne : ¬ cap = p + 3 := by omega
              go_wp2_with (fail)
              refine (ref_unescape _ u _ (HUN.out.all HO.out.2) (by omega)).mono ?_
              cases hus : unesc 0 u with
              | none =>
                rintro e w4 ⟨v4, rfl, ho4⟩
                have K4 := Lib.hid ho4.2; clear ho4
                have hfin : res = none := by rw [← HGO.out, HSTEP.out, still_none hus]
                have HF2 := Lib.hid hfin; clear hfin hus
                rw [show code (none : Option (List Nat)) = 20 from rfl]
                go_wp2
                go_ret2
                exact MayU.no HF2.out (HO.out.2.trans K4.out (fun _ _ x => x))
              | some x =>
                rintro e w4 ⟨v4, rfl, ho4⟩
                obtain ⟨a4, c4, rfl⟩ := ho4.1.shape
                have HO4 := Lib.hid ho4; clear ho4
                have hfin : goesOn l T (done ++ [x]) = res := by rw [← HGO.out, HSTEP.out, still_some hus, goesOn_of HEND.out]
                have HF2 := Lib.hid hfin; clear hfin hus
                rw [show code (some x) = 0 from rfl]
                have O4 := Lib.hid (HO.out.all HO4.out.2)
                have hR4 : Row w4 w.heap.size _ x := HO4.out.1.base HO.out.2.size
                have HR4 := Lib.hid hR4; clear hR4 HO4
                go_wp2_with (at_builtin; refine wpList_append_unit _ rfl (.tmp 92) (.tmp 94) rfl w.heap.size _ _ (.slice a4 ((some x).getD []).length c4) done x rfl (O4.out.1.all ((Kept.refl _ _).alloc _)) (HR4.out.all ((Kept.refl _ _).alloc _)) ⟨w4.heap.size, 0, none⟩ rfl rfl (by simp) (by omega) (by have := O4.out.2.size; simp; omega) ?_)
                intro v5 w5 hr5 hg5
                have O5 := Lib.hid ((O4.out.all ((Kept.refl _ _).alloc _)).grown hr5 hg5)
                clear hr5 hg5 O4 HR4
                go_wp2
                go_roundg (n - T)
                case measure => have := HP.out; omega
                case rel => exact ⟨T, done ++ [x], by omega, rfl, by simp; omega, HF2.out, O5.out⟩
            · by_cases hcap : cap = p + 3
              · subst hcap
                rw [if_pos rfl, show T - (p + 3) = 0 by omega, Nat.sub_self] at HUN
                have hTp : T ≤ p + 3 := by omega
                go_wp2_with (fail)
                refine (ref_unescape _ u _ (HUN.out.all HO.out.2) (by omega)).mono ?_
                cases hus : unesc 0 u with
                | none =>
                  rintro e w4 ⟨v4, rfl, ho4⟩
                  have K4 := Lib.hid ho4.2; clear ho4
                  have hfin : res = none := by rw [← HGO.out, HSTEP.out, still_none hus]
                  have HF2 := Lib.hid hfin; clear hfin hus
                  rw [show code (none : Option (List Nat)) = 20 from rfl]
                  go_wp2
                  go_ret2
                  exact MayU.no HF2.out (HO.out.2.trans K4.out (fun _ _ x => x))
                | some x =>
                  rintro e w4 ⟨v4, rfl, ho4⟩
                  obtain ⟨a4, c4, rfl⟩ := ho4.1.shape
                  have HO4 := Lib.hid ho4; clear ho4
                  have hfin : goesOn l T (done ++ [x]) = res := by rw [← HGO.out, HSTEP.out, still_some hus, goesOn_of HEND.out]
                  have HF2 := Lib.hid hfin; clear hfin hus
                  rw [show code (some x) = 0 from rfl]
                  have O4 := Lib.hid (HO.out.all HO4.out.2)
                  have hR4 : Row w4 w.heap.size _ x := HO4.out.1.base HO.out.2.size
                  have HR4 := Lib.hid hR4; clear hR4 HO4
                  go_wp2_with (at_builtin; refine wpList_append_unit _ rfl (.tmp 92) (.tmp 94) rfl w.heap.size _ _ (.slice a4 ((some x).getD []).length c4) done x rfl (O4.out.1.all ((Kept.refl _ _).alloc _)) (HR4.out.all ((Kept.refl _ _).alloc _)) ⟨w4.heap.size, 0, none⟩ rfl rfl (by simp) (by omega) (by have := O4.out.2.size; simp; omega) ?_)
                  intro v5 w5 hr5 hg5
                  have O5 := Lib.hid ((O4.out.all ((Kept.refl _ _).alloc _)).grown hr5 hg5)
                  clear hr5 hg5 O4 HR4
                  go_wp2
                  go_roundg (n - T)
                  case measure => have := HP.out; omega
                  case rel => exact ⟨T, done ++ [x], by omega, rfl, by simp; omega, HF2.out, O5.out⟩
              · rw [if_neg hcap] at HUN
                go_wp2_with (fail)
                refine (ref_unescape _ u _ (HUN.out.all HO.out.2) (by omega)).mono ?_
                cases hus : unesc 0 u with
                | none =>
                  rintro e w4 ⟨v4, rfl, ho4⟩
                  have K4 := Lib.hid ho4.2; clear ho4
                  have hfin : res = none := by rw [← HGO.out, HSTEP.out, still_none hus]
                  have HF2 := Lib.hid hfin; clear hfin hus
                  rw [show code (none : Option (List Nat)) = 20 from rfl]
                  go_wp2
                  go_ret2
                  exact MayU.no HF2.out (HO.out.2.trans K4.out (fun _ _ x => x))
                | some x =>
                  rintro e w4 ⟨v4, rfl, ho4⟩
                  obtain ⟨a4, c4, rfl⟩ := ho4.1.shape
                  have HO4 := Lib.hid ho4; clear ho4
                  have hfin : goesOn l T (done ++ [x]) = res := by rw [← HGO.out, HSTEP.out, still_some hus, goesOn_of HEND.out]
                  have HF2 := Lib.hid hfin; clear hfin hus
                  rw [show code (some x) = 0 from rfl]
                  have O4 := Lib.hid (HO.out.all HO4.out.2)
                  have hR4 : Row w4 w.heap.size _ x := HO4.out.1.base HO.out.2.size
                  have HR4 := Lib.hid hR4; clear hR4 HO4
                  go_wp2_with (at_builtin; refine wpList_append_unit _ rfl (.tmp 92) (.tmp 94) rfl w.heap.size _ _ (.slice a4 ((some x).getD []).length c4) done x rfl (O4.out.1.all ((Kept.refl _ _).alloc _)) (HR4.out.all ((Kept.refl _ _).alloc _)) ⟨w4.heap.size, 0, none⟩ rfl rfl (by simp) (by omega) (by have := O4.out.2.size; simp; omega) ?_)
                  intro v5 w5 hr5 hg5
                  have O5 := Lib.hid ((O4.out.all ((Kept.refl _ _).alloc _)).grown hr5 hg5)
                  clear hr5 hg5 O4 HR4
                  go_wp2
                  go_roundg (n - T)
                  case measure => have := HP.out; omega
                  case rel => exact ⟨T, done ++ [x], by omega, rfl, by simp; omega, HF2.out, O5.out⟩
      · -- none
        have hns : isStart (l.drop p) = false := by
          cases hz : isStart (l.drop p) with
          | true => exact absurd hz hst
          | false => rfl
        have hfin : res = none := by rw [← HGO.out, goesOn_no (by rw [HN.out]; exact hpn) hns]
        have HF := Lib.hid hfin
        clear hfin hst
        by_cases hp3 : p + 3 ≤ n
        · have hd3 : decide ((n : Int) < (p : Int) + 3) = false := by simp; omega
          have c0 := HCW.out p (by omega)
          have c1 := HCW.out (p + 1) (by omega)
          have c2 := HCW.out (p + 2) (by omega)
          have hno : ¬ (l.getD p 0 = 0 ∧ l.getD (p + 1) 0 = 0 ∧ l.getD (p + 2) 0 = 1) := by
            intro hh
            have e := HIS.out
            rw [hns] at e
            exact absurd e.symm (by simp only [decide_eq_false_iff_not, Classical.not_not]; exact ⟨hp3, hh⟩)
          generalize l.getD p 0 = y0 at *
          generalize l.getD (p + 1) 0 = y1 at *
          generalize l.getD (p + 2) 0 = y2 at *
          clear hns
          by_cases b0 : y0 = 0
          · subst b0
            by_cases b1 : y1 = 0
            · subst b1
              have b2 : (((y2 : Nat) : Int) != 1) = true := by simp; omega
              clear hno
              go_wp2
              go_ret2
              exact MayU.no HF.out HO.out.2
            · have b1' : (((y1 : Nat) : Int) != 0) = true := by simp; omega
              clear hno
              go_wp2
              go_ret2
              exact MayU.no HF.out HO.out.2
          · have b0' : (((y0 : Nat) : Int) != 0) = true := by simp; omega
            clear hno
            go_wp2
            go_ret2
            exact MayU.no HF.out HO.out.2
        · clear hns
          go_wp2
          go_ret2
          exact MayU.no HF.out HO.out.2
    · have epn : p = n := by omega
      subst epn
      have hfin : res = some done := by
        rw [← HGO.out, goesOn_of (.inl (List.drop_eq_nil_of_le (by rw [HN.out]; exact Nat.le_refl _)))]
        have e := splits_end l
        rw [HN.out] at e
        rw [HN.out, e]; simp
      have HF := Lib.hid hfin; clear hfin hp HP
      go_wp2
      go_ret2
      exact MayU.yes HF.out HO.out
end Go.Proofs.Ytjhghgdmjajekaa
