/- EscapePlain's walk. -/
import Derived.Test.YtjhghgdmjajekaaLEKeeps
namespace Go.Proofs.Ytjhghgdmjajekaa
open Go.RowKit

theorem UnitsArg.cells {w : World} {a : Option Addr} {n cap : Nat} {us : List (List Nat)} (h : UnitsArg w (.slice a n cap) us) :
    0 < n → ∃ b off, a = some ⟨b, off, none⟩ ∧ b < w.heap.size ∧ ∀ i, i < n → ∃ ax cx, w.cell? ⟨b, off + i, none⟩ = some (.slice ax (us.getD i []).length cx) ∧ BytesArg w (.slice ax (us.getD i []).length cx) (us.getD i []) := by
  obtain ⟨a2, cap2, e, _, _, _, hc⟩ := h
  cases e
  intro hp
  obtain ⟨b, off, rfl, hb, hx⟩ := hc hp
  refine ⟨b, off, rfl, hb, fun i hi => ?_⟩
  obtain ⟨x, hx1, hx2⟩ := hx i hi
  obtain ⟨ax, cx, rfl⟩ := hx2.shape
  exact ⟨ax, cx, hx1, hx2⟩

theorem all_short {us : List (List Nat)} {n m : Nat} (hn : us.length = n) (h : ∀ t, t < n → (us.getD t []).length ≤ m) : ∀ u ∈ us, u.length ≤ m := by
  intro u hu
  obtain ⟨t, ht, rfl⟩ := List.mem_iff_getElem.1 hu
  have := h t (by omega)
  simpa [List.getD, ht] using this

theorem all_getD {l : List Nat} {n : Nat} (hn : l.length = n) {P : Nat → Prop} (h : ∀ t, t < n → P (l.getD t 0)) : ∀ x ∈ l, P x := by
  intro x hx
  obtain ⟨t, ht, rfl⟩ := List.mem_iff_getElem.1 hx
  have := h t (by omega)
  simpa [List.getD, ht] using this

set_option maxHeartbeats 4000000 in
set_option maxRecDepth 100000 in
theorem plain_walk (v : Value) (l : List Nat) (u : Value) (us : List (List Nat)) (w : World) (h : BytesArg w v l) (hu : UnitsArg w u us) :
    Calls Try.prog 7 #[v, u] w fun e w' => e = .returned (.bool true) ∧ Below w.heap.size w w' := by
  have HA := Lib.hid h
  have HU := Lib.hid hu
  obtain ⟨a, cap, rfl, h1, h2, -⟩ := h
  obtain ⟨ua, ucap, rfl, u1, u2, -⟩ := hu
  unfold maxLen at h2 u2
  generalize hN : l.length = n at *
  have HN := Lib.hid hN; clear hN
  generalize hM : us.length = nu at *
  have HM := Lib.hid hM; clear hM
  by_cases h300 : 300 < n
  · go_enter Try.func7, Try.ntmps7
    go_wp2_with (fail)
    refine (awake_any _).mono ?_
    rintro e w1 ⟨rfl, hk⟩
    have KA := Lib.hid hk; clear hk
    go_wp2
    go_ret
    exact ⟨rfl, KA.out.fin⟩
  have hd300 : decide (300 < (n : Int)) = false := by simp; omega
  by_cases h30 : 30 < nu
  · go_enter Try.func7, Try.ntmps7
    go_wp2_with (fail)
    refine (awake_any _).mono ?_
    rintro e w1 ⟨rfl, hk⟩
    have KA := Lib.hid hk; clear hk
    go_wp2
    go_ret
    exact ⟨rfl, KA.out.fin⟩
  have hd30 : decide (30 < (nu : Int)) = false := by simp; omega
  go_enter Try.func7, Try.ntmps7
  go_wp2_with (fail)
  refine (awake_any _).mono ?_
  rintro e w1 ⟨rfl, hk⟩
  have KA := Lib.hid hk; clear hk
  have hempty : Row (w1.alloc (.cells #[] 5)) w1.heap.size (.slice (some ⟨w1.heap.size, 0, none⟩) 0 0) [] := Row.of_new (l := []) (heap_alloc_new w1 _) (Nat.le_refl _) (Nat.zero_le _) (by simp)
  have HEM := Lib.hid hempty; clear hempty
  go_wp2_with (at_builtin; refine wpList_append_bytes _ rfl (.tmp 22) (.tmp 23) rfl w1.heap.size _ _ [] l rfl HEM.out rfl (HA.out.all (KA.out.alloc _)) (by have := HN.out; simp; omega) (by simp) ?_)
  intro v2 w2 ha
  have ho2 : Own w1 w2 v2 l := Own.appended (v := .slice (some ⟨w1.heap.size, 0, none⟩) 0 0) (l := []) ⟨HEM.out, (Kept.refl _ _).alloc _⟩ (by simpa using ha)
  clear ha HEM
  obtain ⟨a2, c2, rfl⟩ := ho2.1.shape
  rw [HN.out] at ho2
  have e0 := HN.out
  simp only [e0]
  clear e0
  have HO2 := Lib.hid ho2; clear ho2
  go_wp2_with (fail)
  go_loopg [7] n (fun gg s wr => ∃ (i : Nat) (y : List Nat), i + gg = n ∧ s = .int .i64 (i : Int) ∧ y.length = n ∧ (∀ t, t < i → 4 ≤ y.getD t 0) ∧ Own w1 wr (.slice a2 n c2) y)
  case atStart => exact ⟨0, l, by omega, rfl, HN.out, by omega, HO2.out⟩
  case round =>
    clear HO2
    obtain ⟨i, y, hi, rfl, hyl, hy4, ho⟩ := hrel
    have HO := Lib.hid ho; clear ho
    have HI := Lib.hid hi
    have HYL := Lib.hid hyl; clear hyl
    have HY4 := Lib.hid hy4; clear hy4
    by_cases hlt : i < n
    · obtain ⟨b, cur, rfl, hg, hh, hc⟩ := HO.out.1.head (by omega)
      have hgk : 0 < gk := by omega
      have c0 := hc i hlt
      have hx256 := getD_lt HO.out.1.2 i
      have f0 : wr.frozen? ⟨b, i, none⟩ = false := frozen_of_heap hh
      generalize hyi : y.getD i 0 = yi at *
      have HYI := Lib.hid hyi; clear hyi
      have hfin : ∀ z : Nat, z < 256 → 4 ≤ z → (y.set i z).length = n ∧ (∀ t, t < i + 1 → 4 ≤ (y.set i z).getD t 0) ∧ Own w1 (wr.setCell ⟨b, i, none⟩ (.int .u8 (z : Int))) (.slice (some ⟨b, 0, none⟩) n c2) (y.set i z) := by
        intro z hz hz4
        refine ⟨by rw [List.length_set]; exact HYL.out, ?_, HO.out.1.stored HYL.out i z hz, HO.out.2.setCell ⟨b, i, none⟩ (fun hlt' => by exact absurd hlt' (by simpa using hg)) (.int .u8 (z : Int))⟩
        intro t ht
        by_cases e : t = i
        · subst e
          have : t < y.length := by rw [HYL.out]; exact hlt
          simp [List.getD, this]; omega
        · have := HY4.out t (by omega)
          simpa [List.getD, List.getElem?_set_ne (Ne.symm e)] using this
      have HFIN := Lib.hid hfin
      clear hc hh hi hfin
      rcases Nat.lt_trichotomy yi 4 with h4 | rfl | h4
      · obtain ⟨f1, f2, f3⟩ := HFIN.out 4 (by omega) (by omega)
        have F1 := Lib.hid f1; have F2 := Lib.hid f2; have F3 := Lib.hid f3; clear f1 f2 f3
        go_wp2
        go_roundg (gk - 1)
        case measure => omega
        case rel => exact ⟨i + 1, y.set i 4, by have := HI.out; omega, by go_num, F1.out, F2.out, F3.out⟩
      · obtain ⟨f1, f2, f3⟩ := HFIN.out 4 (by omega) (by omega)
        have F1 := Lib.hid f1; have F2 := Lib.hid f2; have F3 := Lib.hid f3; clear f1 f2 f3
        go_wp2
        go_roundg (gk - 1)
        case measure => omega
        case rel => exact ⟨i + 1, y.set i 4, by have := HI.out; omega, by go_num, F1.out, F2.out, F3.out⟩
      · obtain ⟨f1, f2, f3⟩ := HFIN.out yi (by omega) (by omega)
        have F1 := Lib.hid f1; have F2 := Lib.hid f2; have F3 := Lib.hid f3; clear f1 f2 f3
        go_wp2
        go_roundg (gk - 1)
        case measure => omega
        case rel => exact ⟨i + 1, y.set i yi, by have := HI.out; omega, by go_num, F1.out, F2.out, F3.out⟩
    · have ein : i = n := by omega
      subst ein
      clear hi HI
      have HESC := Lib.hid (esc_high y (all_getD HYL.out HY4.out))
      clear HY4
      have hks := (KA.out.trans HO.out.2 (fun _ _ x => x))
      have HK3 := Lib.hid hks
      have hUC := (HU.out.all hks).cells
      have HUC := Lib.hid hUC; clear hks hUC
      go_wp2_with (fail)
      go_loopg [8] nu (fun gg s w' => ∃ j : Nat, j + gg = nu ∧ s = .int .i64 (j : Int) ∧ (∀ t, t < j → (us.getD t []).length ≤ 300) ∧ wr = w')
      case atStart => exact ⟨0, by omega, rfl, by omega, rfl⟩
      case round =>
        obtain ⟨j, hj, rfl, hshort, rfl⟩ := hrel
        have HJ := Lib.hid hj
        have HSH := Lib.hid hshort; clear hshort
        by_cases hltj : j < nu
        · obtain ⟨b, off, rfl, hb, hc⟩ := HUC.out (by omega)
          obtain ⟨ax, cx, hcx, hbx⟩ := hc j hltj
          have hgk : 0 < gk := by omega
          clear hc hj
          obtain ⟨xa, xc, xe, xl, xm, -⟩ := hbx
          cases xe
          unfold maxLen at xm
          generalize hLL : (us.getD j []).length = ll at *
          have HLL := Lib.hid hLL; clear hLL
          by_cases hll : 300 < ll
          · go_wp2
            go_ret
            exact ⟨rfl, HK3.out.fin⟩
          · have hdl : decide (300 < (ll : Int)) = false := by simp; omega
            go_wp2
            go_roundg (gk - 1)
            case measure => omega
            case rel => exact ⟨j + 1, by have := HJ.out; omega, by go_num, fun t ht => by
              by_cases e : t = j
              · subst e; rw [HLL.out]; omega
              · exact HSH.out t (by omega), rfl⟩
        · have ejn : j = nu := by omega
          subst ejn
          clear hj HJ
          have hsh := all_short HM.out HSH.out
          have hjl := join_length us 300 hsh
          rw [HM.out] at hjl
          have hjl2 : (join us).length ≤ 30 * (2 * 300 + 3) := Nat.le_trans hjl (Nat.mul_le_mul_right _ (by omega))
          have hst := starts_join us
          rw [HM.out] at hst
          have HSJ := Lib.hid hst
          clear hst hsh hjl HSH
          go_wp2_with (fail)
          refine (join_any _ us _ (HU.out.all HK3.out) (by omega)).mono ?_
          rintro e w5 ⟨v5, rfl, ho5⟩
          obtain ⟨a5, c5, rfl⟩ := ho5.1.shape
          have hxc := ho5.1.bytes.cells
          generalize join us = xl at *
          have HXC := Lib.hid hxc
          have K5 := Lib.hid (HK3.out.trans ho5.2 (fun _ _ x => x))
          have HO5 := Lib.hid (HO.out.all ho5.2)
          clear hxc ho5 HUC
          generalize hX : xl.length = m at *
          have HX := Lib.hid hX; clear hX
          go_wp2_with (fail)
          go_loopg [10, 11] m (fun gg s10 s11 w' => ∃ (p q : Nat), p + gg = m ∧ s11 = .int .i64 (p : Int) ∧ s10 = .int .i64 (q : Int) ∧ q + starts (xl.drop p) = j ∧ w5 = w')
          case atStart => exact ⟨0, 0, by omega, rfl, rfl, by simpa using HSJ.out, rfl⟩
          case round =>
            obtain ⟨p, q, hp, rfl, rfl, hq, rfl⟩ := hrel
            have HP := Lib.hid hp
            have HQ := Lib.hid hq
            have hqj : q ≤ j := by omega
            clear hq
            by_cases hltp : p + 2 < m
            · obtain ⟨b, off, rfl, hb, hc⟩ := HXC.out (by omega)
              have c0 := hc p (by omega)
              have c1 := hc (p + 1) (by omega)
              have c2 := hc (p + 2) (by omega)
              have hsd := starts_drop xl p (by rw [HX.out]; omega)
              have hisa := isStart_at xl p
              rw [HX.out] at hisa
              generalize xl.getD p 0 = x0 at *
              generalize xl.getD (p + 1) 0 = x1 at *
              generalize xl.getD (p + 2) 0 = x2 at *
              have HSD := Lib.hid hsd; have HIS := Lib.hid hisa
              have hgk : 0 < gk := by omega
              clear hc hp hsd hisa
              by_cases hall : x0 = 0 ∧ x1 = 0 ∧ x2 = 1
              · obtain ⟨rfl, rfl, rfl⟩ := hall
                have hs : isStart (xl.drop p) = true := by rw [HIS.out]; simp; omega
                have hq2 : q + 1 + starts (xl.drop (p + 1)) = j := by have h1 := HQ.out; rw [HSD.out, hs] at h1; simp at h1; omega
                have HQ2 := Lib.hid hq2; clear hq2 hs
                have hqlt : q < j := by have := HQ2.out; omega
                go_wp2
                go_roundg (gk - 1)
                case measure => omega
                case rel => exact ⟨p + 1, q + 1, by have := HP.out; omega, by go_num, by go_num, HQ2.out, rfl⟩
              · have hs : isStart (xl.drop p) = false := by
                  rw [HIS.out, decide_eq_false_iff_not]
                  intro h; exact hall h.2
                have hq2 : q + starts (xl.drop (p + 1)) = j := by have h1 := HQ.out; rw [HSD.out, hs] at h1; simp at h1; omega
                have HQ2 := Lib.hid hq2; clear hq2 hs
                by_cases b0 : x0 = 0
                · subst b0
                  by_cases b1 : x1 = 0
                  · subst b1
                    have b2 : (((x2 : Nat) : Int) == 1) = false := by simp; omega
                    clear hall
                    go_wp2
                    go_roundg (gk - 1)
                    case measure => omega
                    case rel => exact ⟨p + 1, q, by have := HP.out; omega, by go_num, rfl, HQ2.out, rfl⟩
                  · have b1' : (((x1 : Nat) : Int) == 0) = false := by simp; omega
                    clear hall
                    go_wp2
                    go_roundg (gk - 1)
                    case measure => omega
                    case rel => exact ⟨p + 1, q, by have := HP.out; omega, by go_num, rfl, HQ2.out, rfl⟩
                · have b0' : (((x0 : Nat) : Int) == 0) = false := by simp; omega
                  clear hall
                  go_wp2
                  go_roundg (gk - 1)
                  case measure => omega
                  case rel => exact ⟨p + 1, q, by have := HP.out; omega, by go_num, rfl, HQ2.out, rfl⟩
            · have hpm : p ≤ m := by omega
              have hz := starts_short (l := xl.drop p) (by simp; have := HX.out; omega)
              have hqe : q = j := by have := HQ.out; omega
              subst hqe
              clear hz hp HP HQ
              go_wp2_with (fail)
              refine wp_region_said [some 84, some 85, some 86, some 87, some 88, some 89, some 90, some 91, some 92, some 93, some 94, some 95, some 96, some 97, some 98, some 4] [Pd.eq (.bool true), Pd.eq (.bool true), Pd.bytes (y), Pd.bytes (y), Pd.eq (.string (textOf (y))), Pd.bytes (y), Pd.eq (.string (textOf (y))), Pd.eq (.bool true), Pd.eq (.bool true), Pd.eq (.bool true), Pd.eq (.int .i64 ((us.length : Nat) : Int)), Pd.units (us), Pd.eq (.int .i64 (((us : List (List Nat)).length : Nat) : Int)), Pd.eq (.bool true), Pd.eq (.bool true), Pd.eq (.bool true)] (by kernel_rfl) (by kernel_rfl) ?_ ?_
              · refine steps_cons ?_ ?_
                · refine Step.one rfl fun a w hR hout hD => ?_
                  exact y_move rfl ⟨by rw [hout 5 (by decide)]; exact rfl, Kept.refl _ _⟩
                refine steps_cons ?_ ?_
                · refine Step.one rfl fun a w hR hout hD => ?_
                  have g84 : a.eval (.tmp 84) = .bool true := hD.get 0 rfl rfl rfl
                  exact y_move rfl ⟨g84, Kept.refl _ _⟩
                refine steps_cons ?_ ?_
                · refine Step.when 1 true 85 rfl rfl fun a w hR hout hD => ?_
                  have g85 : a.eval (.tmp 85) = .bool true := hD.get 0 rfl rfl rfl
                  refine ⟨g85, ?_⟩
                  exact y_move rfl ⟨by rw [hout 6 (by decide)]; exact HO5.out.1.bytes.all hR, Kept.refl _ _⟩
                refine steps_cons ?_ ?_
                · refine Step.when 1 true 85 rfl rfl fun a w hR hout hD => ?_
                  have g86 : BytesArg w (a.eval (.tmp 86)) (y) := hD.get 0 rfl rfl rfl
                  have g85 : a.eval (.tmp 85) = .bool true := hD.get 1 rfl rfl rfl
                  refine ⟨g85, ?_⟩
                  exact y_call1 rfl rfl rfl (fun _ _ => by kernel_rfl) (escape_new _ _ g86 (by have := HYL.out; omega) HESC.out)
                refine steps_cons ?_ ?_
                · refine Step.when 1 true 85 rfl rfl fun a w hR hout hD => ?_
                  have g87 : BytesArg w (a.eval (.tmp 87)) (y) := hD.get 0 rfl rfl rfl
                  have g85 : a.eval (.tmp 85) = .bool true := hD.get 1 rfl rfl rfl
                  refine ⟨g85, ?_⟩
                  exact y_text rfl g87 ⟨rfl, Kept.refl _ _⟩
                refine steps_cons ?_ ?_
                · refine Step.when 1 true 85 rfl rfl fun a w hR hout hD => ?_
                  have g85 : a.eval (.tmp 85) = .bool true := hD.get 0 rfl rfl rfl
                  refine ⟨g85, ?_⟩
                  exact y_move rfl ⟨by rw [hout 6 (by decide)]; exact HO5.out.1.bytes.all hR, Kept.refl _ _⟩
                refine steps_cons ?_ ?_
                · refine Step.when 1 true 85 rfl rfl fun a w hR hout hD => ?_
                  have g89 : BytesArg w (a.eval (.tmp 89)) (y) := hD.get 0 rfl rfl rfl
                  have g85 : a.eval (.tmp 85) = .bool true := hD.get 1 rfl rfl rfl
                  refine ⟨g85, ?_⟩
                  exact y_text rfl g89 ⟨rfl, Kept.refl _ _⟩
                refine steps_cons ?_ ?_
                · refine Step.when 1 true 85 rfl rfl fun a w hR hout hD => ?_
                  have g88 : a.eval (.tmp 88) = .string (textOf (y)) := hD.get 0 rfl rfl rfl
                  have g90 : a.eval (.tmp 90) = .string (textOf (y)) := hD.get 1 rfl rfl rfl
                  have g85 : a.eval (.tmp 85) = .bool true := hD.get 2 rfl rfl rfl
                  refine ⟨g85, ?_⟩
                  exact y_eql_text rfl g88 g90 ⟨by show Value.bool _ = _; exact congrArg Value.bool (by first | rfl | simp), Kept.refl _ _⟩
                refine steps_cons ?_ ?_
                · refine Step.one rfl fun a w hR hout hD => ?_
                  have g85 : a.eval (.tmp 85) = .bool true := hD.get 0 rfl rfl rfl
                  have g91 : a.eval (.tmp 91) = .bool true := hD.get 1 rfl rfl rfl
                  exact y_pick_true rfl g85 ⟨g91, Kept.refl _ _⟩
                refine steps_cons ?_ ?_
                · refine Step.one rfl fun a w hR hout hD => ?_
                  have g92 : a.eval (.tmp 92) = .bool true := hD.get 0 rfl rfl rfl
                  exact y_move rfl ⟨g92, Kept.refl _ _⟩
                refine steps_cons ?_ ?_
                · refine Step.when 9 true 93 rfl rfl fun a w hR hout hD => ?_
                  have g93 : a.eval (.tmp 93) = .bool true := hD.get 0 rfl rfl rfl
                  refine ⟨g93, ?_⟩
                  exact y_move rfl ⟨by rw [hout 10 (by decide)]; exact congrArg (fun x : Nat => Value.int .i64 (x : Int)) HM.out.symm, Kept.refl _ _⟩
                refine steps_cons ?_ ?_
                · refine Step.when 9 true 93 rfl rfl fun a w hR hout hD => ?_
                  have g93 : a.eval (.tmp 93) = .bool true := hD.get 0 rfl rfl rfl
                  refine ⟨g93, ?_⟩
                  exact y_move rfl ⟨by rw [hout 1 (by decide)]; exact (HU.out.all (K5.out.trans hR (fun _ _ x => x))), Kept.refl _ _⟩
                refine steps_cons ?_ ?_
                · refine Step.when 9 true 93 rfl rfl fun a w hR hout hD => ?_
                  have g95 : UnitsArg w (a.eval (.tmp 95)) (us) := hD.get 0 rfl rfl rfl
                  have g93 : a.eval (.tmp 93) = .bool true := hD.get 1 rfl rfl rfl
                  refine ⟨g93, ?_⟩
                  obtain ⟨xa, xc, xe⟩ := g95.shape; exact y_len rfl rfl rfl rfl Try.underlying29 xe ⟨rfl, Kept.refl _ _⟩
                refine steps_cons ?_ ?_
                · refine Step.when 9 true 93 rfl rfl fun a w hR hout hD => ?_
                  have g94 : a.eval (.tmp 94) = .int .i64 ((us.length : Nat) : Int) := hD.get 0 rfl rfl rfl
                  have g96 : a.eval (.tmp 96) = .int .i64 (((us : List (List Nat)).length : Nat) : Int) := hD.get 1 rfl rfl rfl
                  have g93 : a.eval (.tmp 93) = .bool true := hD.get 2 rfl rfl rfl
                  refine ⟨g93, ?_⟩
                  exact y_eql_int rfl g94 g96 ⟨by show Value.bool _ = _; exact congrArg Value.bool (by first | rfl | simp), Kept.refl _ _⟩
                refine steps_cons ?_ ?_
                · refine Step.one rfl fun a w hR hout hD => ?_
                  have g93 : a.eval (.tmp 93) = .bool true := hD.get 0 rfl rfl rfl
                  have g97 : a.eval (.tmp 97) = .bool true := hD.get 1 rfl rfl rfl
                  exact y_pick_true rfl g93 ⟨g97, Kept.refl _ _⟩
                refine steps_cons ?_ ?_
                · refine Step.one rfl fun a w hR hout hD => ?_
                  have g98 : a.eval (.tmp 98) = .bool true := hD.get 0 rfl rfl rfl
                  exact y_assign rfl ⟨g98, Kept.refl _ _⟩
                exact steps_nil
              intro v wE hE hG
              have e4 : v 15 = .bool true := hG 15 (by simp)
              clear hG
              simp only [putAll, Act.put, List.setIfInBounds_toArray, List.set_cons_succ, List.set_cons_zero, Nat.reduceAdd, e4]
              have K6 := Lib.hid (K5.out.trans hE (fun _ _ x => x)); clear hE
              go_wp2
              go_ret
              exact ⟨rfl, K6.out.fin⟩
end Go.Proofs.Ytjhghgdmjajekaa
