/- EscapeSplits' walk. -/
import Derived.Test.YtjhghgdmjajekaaSpR
namespace Go.Proofs.Ytjhghgdmjajekaa
open Go.RowKit

theorem splits_units : ∀ (n : Nat) (l : List Nat) (us : List (List Nat)), splits n l = some us → us.length ≤ l.length := by
  intro n
  induction n with
  | zero => intro l us h; simp [splits] at h; subst h; simp
  | succ n ih =>
    intro l us h
    by_cases hl : l = []
    · subst hl; rw [splits_nil] at h; cases h; simp
    · have hp : 0 < l.length := List.length_pos_iff.2 hl
      rw [splits_cons n l hl] at h
      split at h
      · cases h
      · obtain ⟨r, hr, rfl⟩ := Option.map_eq_some_iff.1 h
        have := ih _ _ hr
        simp at this ⊢
        omega

theorem split_units {l : List Nat} : ((split l).getD []).length ≤ l.length := by
  cases h : split l with
  | none => simp
  | some us =>
    unfold split at h
    split at h
    · exact splits_units _ _ _ h
    · cases h

theorem refjoin_new {us : List (List Nat)} {m : List Nat} (v : Value) (w : World) (h : UnitsArg w v us) (hl : (join us).length < 68719476736) (he : join us = m) :
    Calls Try.prog 18 #[v] w (fun e w' => ∃ v', e = .returned v' ∧ BytesArg w' v' m ∧ Kept (fun _ => False) w w') := by
  subst he
  exact (ref_join v us w h hl).mono fun e w' ⟨v', he, ho⟩ => ⟨v', he, ho.1.bytes, ho.2⟩

set_option maxHeartbeats 4000000 in
set_option maxRecDepth 100000 in
theorem splits_walk (u : Value) (us : List (List Nat)) (v : Value) (l : List Nat) (w : World) (hu : UnitsArg w u us) (h : BytesArg w v l) :
    Calls Try.prog 4 #[u, v] w fun e w' => e = .returned (.bool true) ∧ Below w.heap.size w w' := by
  have HA := Lib.hid h
  have HU := Lib.hid hu
  obtain ⟨a, cap, rfl, h1, h2, -⟩ := h
  obtain ⟨ua, ucap, rfl, u1, u2, -⟩ := hu
  unfold maxLen at h2 u2
  generalize hN : l.length = n at *
  have HN := Lib.hid hN; clear hN
  generalize hM : us.length = nu at *
  have HM := Lib.hid hM; clear hM
  by_cases h30 : 30 < nu
  · go_enter Try.func4, Try.ntmps4
    go_wp2_with (fail)
    refine (awake_any _).mono ?_
    rintro e w1 ⟨rfl, hk⟩
    have KA := Lib.hid hk; clear hk
    go_wp2
    go_ret
    exact ⟨rfl, KA.out.fin⟩
  have hd30 : decide (30 < (nu : Int)) = false := by simp; omega
  by_cases h500 : 500 < n
  · go_enter Try.func4, Try.ntmps4
    go_wp2_with (fail)
    refine (awake_any _).mono ?_
    rintro e w1 ⟨rfl, hk⟩
    have KA := Lib.hid hk; clear hk
    go_wp2
    go_ret
    exact ⟨rfl, KA.out.fin⟩
  have hd500 : decide (500 < (n : Int)) = false := by simp; omega
  go_enter Try.func4, Try.ntmps4
  go_wp2_with (fail)
  refine (awake_any _).mono ?_
  rintro e w1 ⟨rfl, hk⟩
  have KA := Lib.hid hk; clear hk
  have HU1 := Lib.hid (HU.out.all KA.out)
  go_wp2_with (fail)
  go_loopg [6] nu (fun gg s wr => ∃ i : Nat, i + gg = nu ∧ s = .int .i64 (i : Int) ∧ (∀ t, t < i → (us.getD t []).length ≤ 300) ∧ w1 = wr)
  case atStart => exact ⟨0, by omega, rfl, by omega, rfl⟩
  case round =>
    obtain ⟨j, hj, rfl, hshort, rfl⟩ := hrel
    have HJ := Lib.hid hj
    have HSH := Lib.hid hshort; clear hshort
    by_cases hltj : j < nu
    · obtain ⟨b, off, rfl, hb, hc⟩ := HU1.out.cells (by omega)
      obtain ⟨ax, cx, hcx, hbx⟩ := hc j hltj
      have hgk : 0 < gk := by omega
      clear hc hj
      obtain ⟨xa, xc, xe, xl, xm, -⟩ := hbx
      cases xe
      unfold maxLen at xm
      generalize hLL : (us.getD j []).length = ll at *
      have HLL := Lib.hid hLL; clear hLL
      by_cases hll : 300 < ll
      · go_wp2
        go_ret
        exact ⟨rfl, KA.out.fin⟩
      · have hdl : decide (300 < (ll : Int)) = false := by simp; omega
        go_wp2
        go_roundg (gk - 1)
        case measure => omega
        case rel => exact ⟨j + 1, by have := HJ.out; omega, by go_num, fun t ht => by
          by_cases e : t = j
          · subst e; rw [HLL.out]; omega
          · exact HSH.out t (by omega), rfl⟩
    · have ejn : j = nu := by omega
      subst ejn
      clear hj HJ
      have hsh := all_short HM.out HSH.out
      have hjl := join_length us 300 hsh
      rw [HM.out] at hjl
      have hjl2 : (join us).length ≤ 30 * (2 * 300 + 3) := Nat.le_trans hjl (Nat.mul_le_mul_right _ (by omega))
      clear hsh hjl HSH
      have hln : l.length < 1000 := by rw [HN.out]; omega
      have hsu := split_units (l := l)
      rw [HN.out] at hsu
      have HLN := Lib.hid hln; clear hln
      go_wp2_with (fail)
      refine (split_any _ l _ (HA.out.all KA.out) (by have := HLN.out; omega)).mono ?_
      rintro e w2 ⟨v2, rfl, ho2⟩
      have K2 := Lib.hid (KA.out.trans ho2.2 (fun _ _ x => x)); have U2 := Lib.hid ho2.1.units; clear ho2
      go_wp2_with (fail)
      refine (ref_split _ l _ (HA.out.all K2.out) (by have := HLN.out; omega)).mono ?_
      rintro e w3 ⟨v3, rfl, ho3⟩
      have K3 := Lib.hid (K2.out.trans ho3.2 (fun _ _ x => x)); have U3 := Lib.hid (U2.out.all ho3.2); have V3 := Lib.hid ho3.1.units; clear ho3 K2 U2
      go_wp2_with (fail)
      refine (same_true _ _ ((split l).getD []) _ U3.out V3.out (by omega)).mono ?_
      rintro e w4 ⟨rfl, hk4⟩
      have K4 := Lib.hid (K3.out.trans hk4 (fun _ _ x => x)); clear hk4 K3 U3 V3
      go_wp2_with (fail)
      refine wp_region_said [some 48, some 49, some 50, some 51, some 52, some 53, some 54, some 55, some 56, some 57, some 58, some 59, some 60, some 61, some 62, some 63, some 64, some 65, some 4] [Pd.eq (.bool true), Pd.eq (.bool true), Pd.units (us), Pd.bytes (join us), Pd.eq (.string (textOf (join us))), Pd.units (us), Pd.bytes (join us), Pd.eq (.string (textOf (join us))), Pd.eq (.bool true), Pd.eq (.bool true), Pd.eq (.bool true), Pd.eq (.bool true), Pd.eq (.bool true), Pd.eq (.bool true), Pd.eq (.int .i64 (code (split l))), Pd.eq (.int .i64 (code (split l))), Pd.eq (.bool true), Pd.eq (.bool true), Pd.eq (.bool true)] (by kernel_rfl) (by kernel_rfl) ?_ ?_
      · refine steps_cons ?_ ?_
        · refine Step.one rfl fun a w hR hout hD => ?_
          exact y_move rfl ⟨by rw [hout 5 (by decide)]; exact rfl, Kept.refl _ _⟩
        refine steps_cons ?_ ?_
        · refine Step.one rfl fun a w hR hout hD => ?_
          have g48 : a.eval (.tmp 48) = .bool true := hD.get 0 rfl rfl rfl
          exact y_move rfl ⟨g48, Kept.refl _ _⟩
        refine steps_cons ?_ ?_
        · refine Step.when 1 true 49 rfl rfl fun a w hR hout hD => ?_
          have g49 : a.eval (.tmp 49) = .bool true := hD.get 0 rfl rfl rfl
          refine ⟨g49, ?_⟩
          exact y_move rfl ⟨by rw [hout 0 (by decide)]; exact HU.out.all (K4.out.trans hR (fun _ _ x => x)), Kept.refl _ _⟩
        refine steps_cons ?_ ?_
        · refine Step.when 1 true 49 rfl rfl fun a w hR hout hD => ?_
          have g50 : UnitsArg w (a.eval (.tmp 50)) (us) := hD.get 0 rfl rfl rfl
          have g49 : a.eval (.tmp 49) = .bool true := hD.get 1 rfl rfl rfl
          refine ⟨g49, ?_⟩
          exact y_call1 rfl rfl rfl (fun _ _ => by kernel_rfl) (join_new _ _ g50 (by omega) rfl)
        refine steps_cons ?_ ?_
        · refine Step.when 1 true 49 rfl rfl fun a w hR hout hD => ?_
          have g51 : BytesArg w (a.eval (.tmp 51)) (join us) := hD.get 0 rfl rfl rfl
          have g49 : a.eval (.tmp 49) = .bool true := hD.get 1 rfl rfl rfl
          refine ⟨g49, ?_⟩
          exact y_text rfl g51 ⟨rfl, Kept.refl _ _⟩
        refine steps_cons ?_ ?_
        · refine Step.when 1 true 49 rfl rfl fun a w hR hout hD => ?_
          have g49 : a.eval (.tmp 49) = .bool true := hD.get 0 rfl rfl rfl
          refine ⟨g49, ?_⟩
          exact y_move rfl ⟨by rw [hout 0 (by decide)]; exact HU.out.all (K4.out.trans hR (fun _ _ x => x)), Kept.refl _ _⟩
        refine steps_cons ?_ ?_
        · refine Step.when 1 true 49 rfl rfl fun a w hR hout hD => ?_
          have g53 : UnitsArg w (a.eval (.tmp 53)) (us) := hD.get 0 rfl rfl rfl
          have g49 : a.eval (.tmp 49) = .bool true := hD.get 2 rfl rfl rfl
          refine ⟨g49, ?_⟩
          exact y_call1 rfl rfl rfl (fun _ _ => by kernel_rfl) (refjoin_new _ _ g53 (by omega) rfl)
        refine steps_cons ?_ ?_
        · refine Step.when 1 true 49 rfl rfl fun a w hR hout hD => ?_
          have g54 : BytesArg w (a.eval (.tmp 54)) (join us) := hD.get 0 rfl rfl rfl
          have g49 : a.eval (.tmp 49) = .bool true := hD.get 1 rfl rfl rfl
          refine ⟨g49, ?_⟩
          exact y_text rfl g54 ⟨rfl, Kept.refl _ _⟩
        refine steps_cons ?_ ?_
        · refine Step.when 1 true 49 rfl rfl fun a w hR hout hD => ?_
          have g52 : a.eval (.tmp 52) = .string (textOf (join us)) := hD.get 0 rfl rfl rfl
          have g55 : a.eval (.tmp 55) = .string (textOf (join us)) := hD.get 1 rfl rfl rfl
          have g49 : a.eval (.tmp 49) = .bool true := hD.get 2 rfl rfl rfl
          refine ⟨g49, ?_⟩
          exact y_eql_text rfl g52 g55 ⟨by show Value.bool _ = _; exact congrArg Value.bool (by first | rfl | simp), Kept.refl _ _⟩
        refine steps_cons ?_ ?_
        · refine Step.one rfl fun a w hR hout hD => ?_
          have g49 : a.eval (.tmp 49) = .bool true := hD.get 0 rfl rfl rfl
          have g56 : a.eval (.tmp 56) = .bool true := hD.get 1 rfl rfl rfl
          exact y_pick_true rfl g49 ⟨g56, Kept.refl _ _⟩
        refine steps_cons ?_ ?_
        · refine Step.one rfl fun a w hR hout hD => ?_
          have g57 : a.eval (.tmp 57) = .bool true := hD.get 0 rfl rfl rfl
          exact y_move rfl ⟨g57, Kept.refl _ _⟩
        refine steps_cons ?_ ?_
        · refine Step.when 10 true 58 rfl rfl fun a w hR hout hD => ?_
          have g58 : a.eval (.tmp 58) = .bool true := hD.get 0 rfl rfl rfl
          refine ⟨g58, ?_⟩
          exact y_move rfl ⟨by rw [hout 11 (by decide)]; exact rfl, Kept.refl _ _⟩
        refine steps_cons ?_ ?_
        · refine Step.one rfl fun a w hR hout hD => ?_
          have g58 : a.eval (.tmp 58) = .bool true := hD.get 0 rfl rfl rfl
          have g59 : a.eval (.tmp 59) = .bool true := hD.get 1 rfl rfl rfl
          exact y_pick_true rfl g58 ⟨g59, Kept.refl _ _⟩
        refine steps_cons ?_ ?_
        · refine Step.one rfl fun a w hR hout hD => ?_
          have g60 : a.eval (.tmp 60) = .bool true := hD.get 0 rfl rfl rfl
          exact y_move rfl ⟨g60, Kept.refl _ _⟩
        refine steps_cons ?_ ?_
        · refine Step.when 13 true 61 rfl rfl fun a w hR hout hD => ?_
          have g61 : a.eval (.tmp 61) = .bool true := hD.get 0 rfl rfl rfl
          refine ⟨g61, ?_⟩
          exact y_move rfl ⟨by rw [hout 8 (by decide)]; exact rfl, Kept.refl _ _⟩
        refine steps_cons ?_ ?_
        · refine Step.when 13 true 61 rfl rfl fun a w hR hout hD => ?_
          have g61 : a.eval (.tmp 61) = .bool true := hD.get 0 rfl rfl rfl
          refine ⟨g61, ?_⟩
          exact y_move rfl ⟨by rw [hout 10 (by decide)]; exact rfl, Kept.refl _ _⟩
        refine steps_cons ?_ ?_
        · refine Step.when 13 true 61 rfl rfl fun a w hR hout hD => ?_
          have g62 : a.eval (.tmp 62) = .int .i64 (code (split l)) := hD.get 0 rfl rfl rfl
          have g63 : a.eval (.tmp 63) = .int .i64 (code (split l)) := hD.get 1 rfl rfl rfl
          have g61 : a.eval (.tmp 61) = .bool true := hD.get 2 rfl rfl rfl
          refine ⟨g61, ?_⟩
          exact y_eql_int rfl g62 g63 ⟨by show Value.bool _ = _; exact congrArg Value.bool (by first | rfl | simp), Kept.refl _ _⟩
        refine steps_cons ?_ ?_
        · refine Step.one rfl fun a w hR hout hD => ?_
          have g61 : a.eval (.tmp 61) = .bool true := hD.get 0 rfl rfl rfl
          have g64 : a.eval (.tmp 64) = .bool true := hD.get 1 rfl rfl rfl
          exact y_pick_true rfl g61 ⟨g64, Kept.refl _ _⟩
        refine steps_cons ?_ ?_
        · refine Step.one rfl fun a w hR hout hD => ?_
          have g65 : a.eval (.tmp 65) = .bool true := hD.get 0 rfl rfl rfl
          exact y_assign rfl ⟨g65, Kept.refl _ _⟩
        exact steps_nil
      intro v wE hE hG
      have e4 : v 18 = .bool true := hG 18 (by simp)
      clear hG
      simp only [putAll, Act.put, List.setIfInBounds_toArray, List.set_cons_succ, List.set_cons_zero, Nat.reduceAdd, e4]
      have K5 := Lib.hid (K4.out.trans hE (fun _ _ x => x)); clear hE
      go_wp2
      go_ret
      exact ⟨rfl, K5.out.fin⟩
end Go.Proofs.Ytjhghgdmjajekaa
