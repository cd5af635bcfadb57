/- EscapeJoined's walk. -/
import Derived.Test.YtjhghgdmjajekaaRowV
import Derived.Test.YtjhghgdmjajekaaRo
namespace Go.Proofs.Ytjhghgdmjajekaa
open Go.RowKit

/-- What the law has found out of one unit. -/
def shortAt (us : List (List Nat)) (i : Nat) : Prop := i < us.length → (us.getD i []).length ≤ 300

theorem short_all {us : List (List Nat)} (h : ∀ t, t < us.length → shortAt us t) : ∀ u ∈ us, u.length ≤ 300 :=
  all_short rfl fun t ht => h t ht ht

/-- A cell of a unit, if there is one. -/
def UnitCell (w : World) (a : Option Addr) (us : List (List Nat)) (i : Nat) : Prop := ∃ b off ax cx, a = some ⟨b, off, none⟩ ∧ w.cell? ⟨b, off + i, none⟩ = some (.slice ax (us.getD i []).length cx)

theorem UnitsArg.cell {w : World} {a : Option Addr} {n cap : Nat} {us : List (List Nat)} (h : UnitsArg w (.slice a n cap) us) (i : Nat) (hi : i < n) : UnitCell w a us i := by
  obtain ⟨b, off, rfl, hb, hc⟩ := h.cells (by omega)
  obtain ⟨ax, cx, h1, _⟩ := hc i hi
  exact ⟨b, off, ax, cx, rfl, h1⟩

set_option maxHeartbeats 8000000 in
set_option maxRecDepth 100000 in
theorem joined_walk (v : Value) (xs : List (List Nat)) (u : Value) (ys : List (List Nat)) (w : World) (ha : UnitsArg w v xs) (hb : UnitsArg w u ys) :
    Calls Try.prog 6 #[v, u] w fun e w' => e = .returned (.bool true) ∧ Below w.heap.size w w' := by
  have HA := Lib.hid ha
  have HB := Lib.hid hb
  obtain ⟨aa, ac, rfl, a1, a2, -⟩ := ha
  obtain ⟨ba, bc, rfl, b1, b2, -⟩ := hb
  unfold maxLen at a2 b2
  generalize hN : xs.length = na at *
  have HN := Lib.hid hN; clear hN
  generalize hM : ys.length = nb at *
  have HM := Lib.hid hM; clear hM
  by_cases h30 : 30 < na
  · go_enter Try.func6, Try.ntmps6
    go_wp2_with (fail)
    refine (awake_any _).mono ?_
    rintro e w1 ⟨rfl, hk⟩
    have KA := Lib.hid hk; clear hk
    go_wp2
    go_ret
    exact ⟨rfl, KA.out.fin⟩
  have hd30 : decide (30 < (na : Int)) = false := by simp; omega
  by_cases h30b : 30 < nb
  · go_enter Try.func6, Try.ntmps6
    go_wp2_with (fail)
    refine (awake_any _).mono ?_
    rintro e w1 ⟨rfl, hk⟩
    have KA := Lib.hid hk; clear hk
    go_wp2
    go_ret
    exact ⟨rfl, KA.out.fin⟩
  have hd30b : decide (30 < (nb : Int)) = false := by simp; omega
  obtain ⟨M, hMa, hMb, hM30, hc⟩ : ∃ M : Nat, na ≤ M ∧ nb ≤ M ∧ M ≤ 30 ∧ ((na < nb ∧ M ≤ nb) ∨ (na ≤ nb ∧ nb ≤ na ∧ M ≤ nb) ∨ (nb < na ∧ M ≤ na)) := ⟨max na nb, by omega⟩
  clear a1 a2 b1 b2 h30 h30b
  rcases hc with ⟨hc, hc2⟩ | ⟨hc, hc2, hc3⟩ | ⟨hc, hc2⟩
  all_goals
    go_enter Try.func6, Try.ntmps6
    go_wp2_with (fail)
    refine (awake_any _).mono ?_
    rintro e w1 ⟨rfl, hk⟩
    have KA := Lib.hid hk; clear hk
    have HA1 := Lib.hid (HA.out.all KA.out); have HB1 := Lib.hid (HB.out.all KA.out)
    go_wp2_with (fail)
    go_loopg [6] M (fun gg s wr => ∃ i : Nat, i + gg = M ∧ s = .int .i64 (i : Int) ∧ (∀ t, t < i → shortAt xs t ∧ shortAt ys t) ∧ w1 = wr)
    case atStart => exact ⟨0, by omega, rfl, by omega, rfl⟩
    case round =>
      obtain ⟨i, hi, rfl, hsh, rfl⟩ := hrel
      have HI := Lib.hid hi
      have HS := Lib.hid hsh; clear hsh
      by_cases hlt : i < M
      · have hgk : 0 < gk := by omega
        clear hi
        have key : ∀ (sa : shortAt xs i) (sb : shortAt ys i), ∀ t, t < i + 1 → shortAt xs t ∧ shortAt ys t := by
          intro sa sb t ht
          by_cases e : t = i
          · subst e; exact ⟨sa, sb⟩
          · exact HS.out t (by omega)
        have KEY := Lib.hid key; clear key
        by_cases hia : i < na
        · obtain ⟨b, off, ax, cx, rfl, hcx⟩ := HA1.out.cell i hia
          generalize hLA : (xs.getD i []).length = la at *
          have HLA := Lib.hid hLA; clear hLA
          by_cases hla : 300 < la
          · go_wp2
            go_ret
            exact ⟨rfl, KA.out.fin⟩
          · have hdla : decide (300 < (la : Int)) = false := by simp; omega
            have SA := Lib.hid (show shortAt xs i from fun _ => by rw [HLA.out]; omega)
            by_cases hib : i < nb
            · obtain ⟨b', off', ax', cx', rfl, hcx'⟩ := HB1.out.cell i hib
              generalize hLB : (ys.getD i []).length = lb at *
              have HLB := Lib.hid hLB; clear hLB
              by_cases hlb : 300 < lb
              · go_wp2
                go_ret
                exact ⟨rfl, KA.out.fin⟩
              · have hdlb : decide (300 < (lb : Int)) = false := by simp; omega
                have SB := Lib.hid (show shortAt ys i from fun _ => by rw [HLB.out]; omega)
                go_wp2
                go_roundg (gk - 1)
                case measure => omega
                case rel => exact ⟨i + 1, by have := HI.out; omega, by go_num, KEY.out SA.out SB.out, rfl⟩
            · try omega
              all_goals
                have hdib : decide ((i : Int) < (nb : Int)) = false := by simp; omega
                have SB := Lib.hid (show shortAt ys i from fun h => absurd h (by rw [HM.out]; exact hib))
                go_wp2
                go_roundg (gk - 1)
                case measure => omega
                case rel => exact ⟨i + 1, by have := HI.out; omega, by go_num, KEY.out SA.out SB.out, rfl⟩
        · try omega
          all_goals
            have hdia : decide ((i : Int) < (na : Int)) = false := by simp; omega
            have SA := Lib.hid (show shortAt xs i from fun h => absurd h (by rw [HN.out]; exact hia))
            have hib : i < nb := by omega
            obtain ⟨b', off', ax', cx', rfl, hcx'⟩ := HB1.out.cell i hib
            generalize hLB : (ys.getD i []).length = lb at *
            have HLB := Lib.hid hLB; clear hLB
            by_cases hlb : 300 < lb
            · go_wp2
              go_ret
              exact ⟨rfl, KA.out.fin⟩
            · have hdlb : decide (300 < (lb : Int)) = false := by simp; omega
              have SB := Lib.hid (show shortAt ys i from fun _ => by rw [HLB.out]; omega)
              go_wp2
              go_roundg (gk - 1)
              case measure => omega
              case rel => exact ⟨i + 1, by have := HI.out; omega, by go_num, KEY.out SA.out SB.out, rfl⟩
      · have eiM : i = M := by omega
        subst eiM
        clear hi HI
        have hsa := short_all (us := xs) (fun t ht => (HS.out t (by rw [HN.out] at ht; omega)).1)
        have hsb := short_all (us := ys) (fun t ht => (HS.out t (by rw [HM.out] at ht; omega)).2)
        have hja := join_length xs 300 hsa
        have hjb := join_length ys 300 hsb
        rw [HN.out] at hja
        rw [HM.out] at hjb
        have hja2 : (join xs).length ≤ 30 * (2 * 300 + 3) := Nat.le_trans hja (Nat.mul_le_mul_right _ (by omega))
        have hjb2 : (join ys).length ≤ 30 * (2 * 300 + 3) := Nat.le_trans hjb (Nat.mul_le_mul_right _ (by omega))
        have hjj : join (xs ++ ys) = join xs ++ join ys := join_append xs ys
        have hjl : (join (xs ++ ys)).length ≤ 100000 := by rw [hjj, List.length_append]; omega
        have hal : (xs ++ ys).length ≤ 60 := by rw [List.length_append, HN.out, HM.out]; omega
        have HJJ := Lib.hid hjj
        clear hja hjb hsa hsb HS hjj
        have HEM := Lib.hid (RowV.nil (w0 := w1) (Kept.refl _ w1))
        go_wp2_with (at_builtin; refine wpList_append_units w1 _ rfl (.tmp 57) (.tmp 58) rfl _ _ [] xs rfl HEM.out rfl HA1.out (by simp; have := HN.out; omega) ?_)
        intro v2 w2 hr2
        have HR2 := Lib.hid hr2; clear hr2 HEM
        go_wp2_with (at_builtin; refine wpList_append_units w1 _ rfl (.tmp 59) (.tmp 60) rfl _ _ xs ys rfl HR2.out rfl HB1.out (by simp at hal ⊢; omega) ?_)
        intro v3 w3 hr3
        have HR3 := Lib.hid hr3; clear hr3 HR2
        generalize hALL : xs ++ ys = al at *
        have HALL := Lib.hid hALL; clear hALL
        have U3 := Lib.hid HR3.out.units
        have K3 := Lib.hid (KA.out.trans HR3.out.2 (fun _ _ x => x)); clear HR3
        go_wp2_with (fail)
        refine (join_any _ al _ U3.out (by omega)).mono ?_
        rintro e w4 ⟨v4, rfl, ho4⟩
        have U4 := Lib.hid (U3.out.all ho4.2); have K4 := Lib.hid (K3.out.trans ho4.2 (fun _ _ x => x)); have B4 := Lib.hid ho4.1.bytes; clear ho4 U3 K3
        go_wp2_with (fail)
        refine (split_any _ (join al) _ B4.out (by omega)).mono ?_
        rw [split_join]
        rintro e w5 ⟨v5, rfl, ho5⟩
        rw [show code (some al) = 0 from rfl]
        rw [show (some al).getD [] = al from rfl] at ho5
        have U5 := Lib.hid (U4.out.all ho5.2); have K5 := Lib.hid (K4.out.trans ho5.2 (fun _ _ x => x)); have V5 := Lib.hid ho5.1.units; clear ho5 U4 K4 B4
        go_wp2_with (fail)
        refine (same_true _ _ al _ V5.out U5.out (by omega)).mono ?_
        rintro e w6 ⟨rfl, hk6⟩
        have U6 := Lib.hid (U5.out.all hk6); have K6 := Lib.hid (K5.out.trans hk6 (fun _ _ x => x)); clear hk6 U5 K5 V5
        go_wp2_with (fail)
        have hjja := HJJ.out
        refine wp_region_own [some 71, some 72, some 73, some 74, some 75, some 76, some 77, some 78, some 79, some 80, some 81, some 82, some 83, some 84, some 85, some 86, some 87, some 88, some 89, some 90, some 4] (fun _ => False) (0) (.slice none 0 0) ([]) [16, 13] (fun i => ([[], [], [], [], [], [], [], [], [], [], [], [], [], join xs, [], [], join xs ++ join ys] : List (List Nat)).getD i []) (Said [Pd.eq (.bool true), Pd.eq (.bool true), Pd.eq (.bool true), Pd.eq (.bool true), Pd.eq (.bool true), Pd.eq (.int .i64 0), Pd.eq (.bool true), Pd.eq (.bool true), Pd.eq (.bool true), Pd.units (al), Pd.bytes (join al), Pd.eq (.string (textOf (join al))), Pd.units (xs), Pd.any, Pd.units (ys), Pd.bytes (join ys), Pd.any, Pd.eq (.string (textOf (join xs ++ join ys))), Pd.eq (.bool true), Pd.eq (.bool true), Pd.eq (.bool true)]) (by kernel_rfl) (by kernel_rfl) (Row.nil _ _) (fun k h => by cases h) (fun k h => h.elim) ?_ (fun x hx => by cases hx; decide) ?_
        · refine stepsJ_cons ?_ ?_
          · refine StepJ.one (by decide) rfl fun S a w hlt hR hout hlate hD hrow => ?_
            exact y_move rfl ⟨fun w'' k => by have hR := hR w'' k; rw [hout 5 (by decide)]; exact rfl, Kept.refl _ _⟩
          refine stepsJ_cons ?_ ?_
          · refine StepJ.one (by decide) rfl fun S a w hlt hR hout hlate hD hrow => ?_
            have q71 : ∀ w', Kept S w w' → a.eval (.tmp 71) = .bool true := hD.get 0 rfl rfl rfl
            have g71 := q71 w (Kept.refl _ _)
            exact y_move rfl ⟨q71, Kept.refl _ _⟩
          refine stepsJ_cons ?_ ?_
          · refine StepJ.when (by decide) 1 true 72 rfl rfl fun S a w hlt hR hout hlate hD hrow => ?_
            have q72 : ∀ w', Kept S w w' → a.eval (.tmp 72) = .bool true := hD.get 0 rfl rfl rfl
            have g72 := q72 w (Kept.refl _ _)
            exact ⟨g72, y_move rfl ⟨fun w'' k => by have hR := hR w'' k; rw [hout 10 (by decide)]; exact rfl, Kept.refl _ _⟩⟩
          refine stepsJ_cons ?_ ?_
          · refine StepJ.one (by decide) rfl fun S a w hlt hR hout hlate hD hrow => ?_
            have q72 : ∀ w', Kept S w w' → a.eval (.tmp 72) = .bool true := hD.get 0 rfl rfl rfl
            have g72 := q72 w (Kept.refl _ _)
            have q73 : ∀ w', Kept S w w' → a.eval (.tmp 73) = .bool true := hD.get 1 rfl rfl rfl
            have g73 := q73 w (Kept.refl _ _)
            exact y_pick_true rfl g72 ⟨q73, Kept.refl _ _⟩
          refine stepsJ_cons ?_ ?_
          · refine StepJ.one (by decide) rfl fun S a w hlt hR hout hlate hD hrow => ?_
            have q74 : ∀ w', Kept S w w' → a.eval (.tmp 74) = .bool true := hD.get 0 rfl rfl rfl
            have g74 := q74 w (Kept.refl _ _)
            exact y_move rfl ⟨q74, Kept.refl _ _⟩
          refine stepsJ_cons ?_ ?_
          · refine StepJ.when (by decide) 4 true 75 rfl rfl fun S a w hlt hR hout hlate hD hrow => ?_
            have q75 : ∀ w', Kept S w w' → a.eval (.tmp 75) = .bool true := hD.get 0 rfl rfl rfl
            have g75 := q75 w (Kept.refl _ _)
            exact ⟨g75, y_move rfl ⟨fun w'' k => by have hR := hR w'' k; rw [hout 9 (by decide)]; exact rfl, Kept.refl _ _⟩⟩
          refine stepsJ_cons ?_ ?_
          · refine StepJ.when (by decide) 4 true 75 rfl rfl fun S a w hlt hR hout hlate hD hrow => ?_
            have q76 : ∀ w', Kept S w w' → a.eval (.tmp 76) = .int .i64 0 := hD.get 0 rfl rfl rfl
            have g76 := q76 w (Kept.refl _ _)
            have q75 : ∀ w', Kept S w w' → a.eval (.tmp 75) = .bool true := hD.get 1 rfl rfl rfl
            have g75 := q75 w (Kept.refl _ _)
            exact ⟨g75, y_eql_int rfl g76 rfl ⟨fun _ _ => by show Value.bool _ = _; exact congrArg Value.bool (by first | rfl | simp), Kept.refl _ _⟩⟩
          refine stepsJ_cons ?_ ?_
          · refine StepJ.one (by decide) rfl fun S a w hlt hR hout hlate hD hrow => ?_
            have q75 : ∀ w', Kept S w w' → a.eval (.tmp 75) = .bool true := hD.get 0 rfl rfl rfl
            have g75 := q75 w (Kept.refl _ _)
            have q77 : ∀ w', Kept S w w' → a.eval (.tmp 77) = .bool true := hD.get 1 rfl rfl rfl
            have g77 := q77 w (Kept.refl _ _)
            exact y_pick_true rfl g75 ⟨q77, Kept.refl _ _⟩
          refine stepsJ_cons ?_ ?_
          · refine StepJ.one (by decide) rfl fun S a w hlt hR hout hlate hD hrow => ?_
            have q78 : ∀ w', Kept S w w' → a.eval (.tmp 78) = .bool true := hD.get 0 rfl rfl rfl
            have g78 := q78 w (Kept.refl _ _)
            exact y_move rfl ⟨q78, Kept.refl _ _⟩
          refine stepsJ_cons ?_ ?_
          · refine StepJ.when (by decide) 8 true 79 rfl rfl fun S a w hlt hR hout hlate hD hrow => ?_
            have q79 : ∀ w', Kept S w w' → a.eval (.tmp 79) = .bool true := hD.get 0 rfl rfl rfl
            have g79 := q79 w (Kept.refl _ _)
            exact ⟨g79, y_move rfl ⟨fun w'' k => by have hR := hR w'' k; rw [hout 7 (by decide)]; exact U6.out.all hR, Kept.refl _ _⟩⟩
          refine stepsJ_cons ?_ ?_
          · refine StepJ.when (by decide) 8 true 79 rfl rfl fun S a w hlt hR hout hlate hD hrow => ?_
            have q80 : ∀ w', Kept S w w' → UnitsArg w' (a.eval (.tmp 80)) (al) := hD.get 0 rfl rfl rfl
            have g80 := q80 w (Kept.refl _ _)
            have q79 : ∀ w', Kept S w w' → a.eval (.tmp 79) = .bool true := hD.get 1 rfl rfl rfl
            have g79 := q79 w (Kept.refl _ _)
            exact ⟨g79, y_call1 rfl rfl rfl (fun _ _ => by kernel_rfl) (rob_call hlt (join_any _ al w g80 (by omega)))⟩
          refine stepsJ_cons ?_ ?_
          · refine StepJ.when (by decide) 8 true 79 rfl rfl fun S a w hlt hR hout hlate hD hrow => ?_
            have q81 : ∀ w', Kept S w w' → BytesArg w' (a.eval (.tmp 81)) (join al) := hD.get 0 rfl rfl rfl
            have g81 := q81 w (Kept.refl _ _)
            have q79 : ∀ w', Kept S w w' → a.eval (.tmp 79) = .bool true := hD.get 1 rfl rfl rfl
            have g79 := q79 w (Kept.refl _ _)
            exact ⟨g79, y_text rfl g81 ⟨fun _ _ => rfl, Kept.refl _ _⟩⟩
          refine stepsJ_cons ?_ ?_
          · refine StepJ.when (by decide) 8 true 79 rfl rfl fun S a w hlt hR hout hlate hD hrow => ?_
            have q79 : ∀ w', Kept S w w' → a.eval (.tmp 79) = .bool true := hD.get 0 rfl rfl rfl
            have g79 := q79 w (Kept.refl _ _)
            exact ⟨g79, y_move rfl ⟨fun w'' k => by have hR := hR w'' k; rw [hout 0 (by decide)]; exact HA.out.all (K6.out.trans hR (fun _ _ x => x)), Kept.refl _ _⟩⟩
          refine stepsJ_cons ?_ ?_
          · refine StepJ.own [16] [] rfl (by decide) (fun x hx => by cases hx) (fun _ _ => trivial) fun S a w hlt hR hout hlate hD p lp hpr hp => ?_
            have q83 : ∀ w', Kept S w w' → UnitsArg w' (a.eval (.tmp 83)) (xs) := hD.get 0 rfl rfl rfl
            have g83 := q83 w (Kept.refl _ _)
            have q79 : ∀ w', Kept S w w' → a.eval (.tmp 79) = .bool true := hD.get 2 rfl rfl rfl
            have g79 := q79 w (Kept.refl _ _)
            exact ⟨goes_of rfl rfl g79, y_call1 rfl rfl rfl (fun _ _ => by kernel_rfl) (own_call (join_any _ xs w g83 (by omega)))⟩
          refine stepsJ_cons ?_ ?_
          · refine StepJ.when (by decide) 8 true 79 rfl rfl fun S a w hlt hR hout hlate hD hrow => ?_
            have q79 : ∀ w', Kept S w w' → a.eval (.tmp 79) = .bool true := hD.get 0 rfl rfl rfl
            have g79 := q79 w (Kept.refl _ _)
            exact ⟨g79, y_move rfl ⟨fun w'' k => by have hR := hR w'' k; rw [hout 1 (by decide)]; exact HB.out.all (K6.out.trans hR (fun _ _ x => x)), Kept.refl _ _⟩⟩
          refine stepsJ_cons ?_ ?_
          · refine StepJ.when (by decide) 8 true 79 rfl rfl fun S a w hlt hR hout hlate hD hrow => ?_
            have q85 : ∀ w', Kept S w w' → UnitsArg w' (a.eval (.tmp 85)) (ys) := hD.get 0 rfl rfl rfl
            have g85 := q85 w (Kept.refl _ _)
            have q79 : ∀ w', Kept S w w' → a.eval (.tmp 79) = .bool true := hD.get 2 rfl rfl rfl
            have g79 := q79 w (Kept.refl _ _)
            exact ⟨g79, y_call1 rfl rfl rfl (fun _ _ => by kernel_rfl) (rob_call hlt (join_any _ ys w g85 (by omega)))⟩
          refine stepsJ_cons ?_ ?_
          · refine StepJ.own [] [13] rfl (by decide) (fun x hx => by cases hx; exact ⟨_, List.mem_of_getElem? (i := 0) rfl, rfl, rfl, _, rfl⟩) (fun _ _ => trivial) fun S a w hlt hR hout hlate hD p lp hpr hp => ?_
            have q86 : ∀ w', Kept S w w' → BytesArg w' (a.eval (.tmp 86)) (join ys) := hD.get 1 rfl rfl rfl
            have g86 := q86 w (Kept.refl _ _)
            have q79 : ∀ w', Kept S w w' → a.eval (.tmp 79) = .bool true := hD.get 3 rfl rfl rfl
            have g79 := q79 w (Kept.refl _ _)
            have e1 := hp.2 84 rfl; have e2 := hp.1; subst e1; rw [e2] at hpr; exact ⟨goes_of rfl rfl g79, y_append rfl rfl rfl rfl hpr g86 (by show (join xs).length + (join ys).length < _; omega) (Nat.zero_le _)⟩
          refine stepsJ_cons ?_ ?_
          · refine StepJ.when (by decide) 8 true 79 rfl rfl fun S a w hlt hR hout hlate hD hrow => ?_
            have g87 := (hrow 16 rfl _ (List.mem_of_getElem? (i := 0) rfl) rfl rfl 87 rfl).bytes
            have q79 : ∀ w', Kept S w w' → a.eval (.tmp 79) = .bool true := hD.get 1 rfl rfl rfl
            have g79 := q79 w (Kept.refl _ _)
            exact ⟨g79, y_text rfl g87 ⟨fun _ _ => rfl, Kept.refl _ _⟩⟩
          refine stepsJ_cons ?_ ?_
          · refine StepJ.when (by decide) 8 true 79 rfl rfl fun S a w hlt hR hout hlate hD hrow => ?_
            have q82 : ∀ w', Kept S w w' → a.eval (.tmp 82) = .string (textOf (join al)) := hD.get 0 rfl rfl rfl
            have g82 := q82 w (Kept.refl _ _)
            have q88 : ∀ w', Kept S w w' → a.eval (.tmp 88) = .string (textOf (join xs ++ join ys)) := hD.get 1 rfl rfl rfl
            have g88 := q88 w (Kept.refl _ _)
            have q79 : ∀ w', Kept S w w' → a.eval (.tmp 79) = .bool true := hD.get 2 rfl rfl rfl
            have g79 := q79 w (Kept.refl _ _)
            exact ⟨g79, y_eql_text rfl g82 g88 ⟨fun _ _ => by show Value.bool _ = _; exact congrArg Value.bool (by rw [hjja]; simp), Kept.refl _ _⟩⟩
          refine stepsJ_cons ?_ ?_
          · refine StepJ.one (by decide) rfl fun S a w hlt hR hout hlate hD hrow => ?_
            have q79 : ∀ w', Kept S w w' → a.eval (.tmp 79) = .bool true := hD.get 0 rfl rfl rfl
            have g79 := q79 w (Kept.refl _ _)
            have q89 : ∀ w', Kept S w w' → a.eval (.tmp 89) = .bool true := hD.get 1 rfl rfl rfl
            have g89 := q89 w (Kept.refl _ _)
            exact y_pick_true rfl g79 ⟨q89, Kept.refl _ _⟩
          refine stepsJ_cons ?_ ?_
          · refine StepJ.one (by decide) rfl fun S a w hlt hR hout hlate hD hrow => ?_
            have q90 : ∀ w', Kept S w w' → a.eval (.tmp 90) = .bool true := hD.get 0 rfl rfl rfl
            have g90 := q90 w (Kept.refl _ _)
            exact y_assign rfl ⟨q90, Kept.refl _ _⟩
          exact stepsJ_nil
        intro v wE hE hG hrow
        have r87 := hrow 16 rfl
        have e4 : v 20 = .bool true := hG 20 (by simp)
        clear hG hrow
        simp only [putAll, Act.put, List.setIfInBounds_toArray, List.set_cons_succ, List.set_cons_zero, Nat.reduceAdd, e4]
        have K7 := Lib.hid (K6.out.trans hE (fun _ _ x => x)); clear hE
        go_wp2
        go_ret
        exact ⟨rfl, K7.out.fin⟩
end Go.Proofs.Ytjhghgdmjajekaa
