/- EscapeTells' walk. -/
import Derived.Test.YtjhghgdmjajekaaAw
namespace Go.Proofs.Ytjhghgdmjajekaa
open Go.RowKit

theorem Kept.fin {w w' : World} (h : Kept (fun _ => False) w w') : Below w.heap.size w w' := h.below (Nat.le_refl _) (fun _ _ x => x)

theorem BytesArg.cells {w : World} {a : Option Addr} {n cap : Nat} {l : List Nat} (h : BytesArg w (.slice a n cap) l) :
    0 < n → ∃ b off, a = some ⟨b, off, none⟩ ∧ b < w.heap.size ∧ ∀ i, i < n → w.cell? ⟨b, off + i, none⟩ = some (.int .u8 (l.getD i 0 : Nat)) := by
  obtain ⟨a2, cap2, e, _, _, _, _, hc⟩ := h
  cases e; exact hc

theorem refescape_new {l m : List Nat} (v : Value) (w : World) (h : BytesArg w v l) (hl : l.length < 68719476736) (he : esc 0 l = m) :
    Calls Try.prog 13 #[v] w (fun e w' => ∃ v', e = .returned v' ∧ BytesArg w' v' m ∧ Kept (fun _ => False) w w') := by
  subst he
  exact (ref_escape v l w h hl).mono fun e w' ⟨v', he, ho⟩ => ⟨v', he, ho.1.bytes, ho.2⟩

set_option maxHeartbeats 1000000 in
set_option maxRecDepth 100000 in
theorem tells_walk (v : Value) (l : List Nat) (w : World) (h : BytesArg w v l) :
    Calls Try.prog 3 #[v] w fun e w' => e = .returned (.bool true) ∧ Below w.heap.size w w' := by
  have HA := Lib.hid h
  obtain ⟨a, cap, rfl, h1, h2, -⟩ := h
  unfold maxLen at h2
  generalize hN : l.length = n at *
  have HN := Lib.hid hN; clear hN
  by_cases h500 : 500 < n
  · go_enter Try.func3, Try.ntmps3
    go_wp2_with (fail)
    refine (awake_any _).mono ?_
    rintro e w1 ⟨rfl, hk⟩
    have KA := Lib.hid hk; clear hk
    go_wp2
    go_ret
    exact ⟨rfl, KA.out.fin⟩
  have hd500 : decide (500 < (n : Int)) = false := by simp; omega
  have hl : l.length < 500000 := by rw [HN.out]; omega
  have HL := Lib.hid hl; clear hl
  go_enter Try.func3, Try.ntmps3
  go_wp2_with (fail)
  refine (awake_any _).mono ?_
  rintro e w1 ⟨rfl, hk⟩
  have KA := Lib.hid hk; clear hk
  go_wp2_with (fail)
  refine (unescape_any _ l _ (HA.out.all KA.out) (by have := HL.out; omega)).mono ?_
  rintro e w2 ⟨v2, rfl, ho2⟩
  have O2 := Lib.hid ho2.1; have K2 := Lib.hid (KA.out.trans ho2.2 (fun _ _ x => x)); clear ho2
  go_wp2_with (fail)
  refine (ref_unescape _ l _ (HA.out.all K2.out) (by have := HL.out; omega)).mono ?_
  rintro e w3 ⟨v3, rfl, ho3⟩
  have O3 := Lib.hid (O2.out.all ho3.2); have P3 := Lib.hid ho3.1; have K3 := Lib.hid (K2.out.trans ho3.2 (fun _ _ x => x)); clear ho3
  clear h1 h2 h500 hd500 KA O2 K2
  go_wp2_with (fail)
  refine wp_region_said [some 23, some 24, some 25, some 26, some 27, some 28, some 29, some 30, some 31, some 32, some 33, some 34, some 35, some 36, some 37, some 38, some 39, some 40, some 41, some 42, some 43, some 44, some 2] [Pd.eq (.bool true), Pd.eq (.bool true), Pd.bytes (l), Pd.bytes (esc 0 l), Pd.eq (.string (textOf (esc 0 l))), Pd.bytes (l), Pd.bytes (esc 0 l), Pd.eq (.string (textOf (esc 0 l))), Pd.eq (.bool true), Pd.eq (.bool true), Pd.eq (.bool true), Pd.bytes ((unesc 0 l).getD []), Pd.eq (.string (textOf ((unesc 0 l).getD []))), Pd.bytes ((unesc 0 l).getD []), Pd.eq (.string (textOf ((unesc 0 l).getD []))), Pd.eq (.bool true), Pd.eq (.bool true), Pd.eq (.bool true), Pd.eq (.int .i64 (code (unesc 0 l))), Pd.eq (.int .i64 (code (unesc 0 l))), Pd.eq (.bool true), Pd.eq (.bool true), Pd.eq (.bool true)] (by kernel_rfl) (by kernel_rfl) ?_ ?_
  · refine steps_cons ?_ ?_
    · refine Step.one rfl fun a w hR hout hD => ?_
      exact y_move rfl ⟨by rw [hout 3 (by decide)]; exact rfl, Kept.refl _ _⟩
    refine steps_cons ?_ ?_
    · refine Step.one rfl fun a w hR hout hD => ?_
      have g23 : a.eval (.tmp 23) = .bool true := hD.get 0 rfl rfl rfl
      exact y_move rfl ⟨g23, Kept.refl _ _⟩
    refine steps_cons ?_ ?_
    · refine Step.when 1 true 24 rfl rfl fun a w hR hout hD => ?_
      have g24 : a.eval (.tmp 24) = .bool true := hD.get 0 rfl rfl rfl
      refine ⟨g24, ?_⟩
      exact y_move rfl ⟨by rw [hout 0 (by decide)]; exact HA.out.all (K3.out.trans hR (fun _ _ x => x)), Kept.refl _ _⟩
    refine steps_cons ?_ ?_
    · refine Step.when 1 true 24 rfl rfl fun a w hR hout hD => ?_
      have g25 : BytesArg w (a.eval (.tmp 25)) (l) := hD.get 0 rfl rfl rfl
      have g24 : a.eval (.tmp 24) = .bool true := hD.get 1 rfl rfl rfl
      refine ⟨g24, ?_⟩
      exact y_call1 rfl rfl rfl (fun _ _ => by kernel_rfl) (escape_new _ _ g25 (by have := HL.out; omega) rfl)
    refine steps_cons ?_ ?_
    · refine Step.when 1 true 24 rfl rfl fun a w hR hout hD => ?_
      have g26 : BytesArg w (a.eval (.tmp 26)) (esc 0 l) := hD.get 0 rfl rfl rfl
      have g24 : a.eval (.tmp 24) = .bool true := hD.get 1 rfl rfl rfl
      refine ⟨g24, ?_⟩
      exact y_text rfl g26 ⟨rfl, Kept.refl _ _⟩
    refine steps_cons ?_ ?_
    · refine Step.when 1 true 24 rfl rfl fun a w hR hout hD => ?_
      have g24 : a.eval (.tmp 24) = .bool true := hD.get 0 rfl rfl rfl
      refine ⟨g24, ?_⟩
      exact y_move rfl ⟨by rw [hout 0 (by decide)]; exact HA.out.all (K3.out.trans hR (fun _ _ x => x)), Kept.refl _ _⟩
    refine steps_cons ?_ ?_
    · refine Step.when 1 true 24 rfl rfl fun a w hR hout hD => ?_
      have g28 : BytesArg w (a.eval (.tmp 28)) (l) := hD.get 0 rfl rfl rfl
      have g24 : a.eval (.tmp 24) = .bool true := hD.get 2 rfl rfl rfl
      refine ⟨g24, ?_⟩
      exact y_call1 rfl rfl rfl (fun _ _ => by kernel_rfl) (refescape_new _ _ g28 (by have := HL.out; omega) rfl)
    refine steps_cons ?_ ?_
    · refine Step.when 1 true 24 rfl rfl fun a w hR hout hD => ?_
      have g29 : BytesArg w (a.eval (.tmp 29)) (esc 0 l) := hD.get 0 rfl rfl rfl
      have g24 : a.eval (.tmp 24) = .bool true := hD.get 1 rfl rfl rfl
      refine ⟨g24, ?_⟩
      exact y_text rfl g29 ⟨rfl, Kept.refl _ _⟩
    refine steps_cons ?_ ?_
    · refine Step.when 1 true 24 rfl rfl fun a w hR hout hD => ?_
      have g27 : a.eval (.tmp 27) = .string (textOf (esc 0 l)) := hD.get 0 rfl rfl rfl
      have g30 : a.eval (.tmp 30) = .string (textOf (esc 0 l)) := hD.get 1 rfl rfl rfl
      have g24 : a.eval (.tmp 24) = .bool true := hD.get 2 rfl rfl rfl
      refine ⟨g24, ?_⟩
      exact y_eql_text rfl g27 g30 ⟨by show Value.bool _ = _; exact congrArg Value.bool (by first | rfl | simp), Kept.refl _ _⟩
    refine steps_cons ?_ ?_
    · refine Step.one rfl fun a w hR hout hD => ?_
      have g24 : a.eval (.tmp 24) = .bool true := hD.get 0 rfl rfl rfl
      have g31 : a.eval (.tmp 31) = .bool true := hD.get 1 rfl rfl rfl
      exact y_pick_true rfl g24 ⟨g31, Kept.refl _ _⟩
    refine steps_cons ?_ ?_
    · refine Step.one rfl fun a w hR hout hD => ?_
      have g32 : a.eval (.tmp 32) = .bool true := hD.get 0 rfl rfl rfl
      exact y_move rfl ⟨g32, Kept.refl _ _⟩
    refine steps_cons ?_ ?_
    · refine Step.when 10 true 33 rfl rfl fun a w hR hout hD => ?_
      have g33 : a.eval (.tmp 33) = .bool true := hD.get 0 rfl rfl rfl
      refine ⟨g33, ?_⟩
      exact y_move rfl ⟨by rw [hout 4 (by decide)]; exact O3.out.bytes.all hR, Kept.refl _ _⟩
    refine steps_cons ?_ ?_
    · refine Step.when 10 true 33 rfl rfl fun a w hR hout hD => ?_
      have g34 : BytesArg w (a.eval (.tmp 34)) ((unesc 0 l).getD []) := hD.get 0 rfl rfl rfl
      have g33 : a.eval (.tmp 33) = .bool true := hD.get 1 rfl rfl rfl
      refine ⟨g33, ?_⟩
      exact y_text rfl g34 ⟨rfl, Kept.refl _ _⟩
    refine steps_cons ?_ ?_
    · refine Step.when 10 true 33 rfl rfl fun a w hR hout hD => ?_
      have g33 : a.eval (.tmp 33) = .bool true := hD.get 0 rfl rfl rfl
      refine ⟨g33, ?_⟩
      exact y_move rfl ⟨by rw [hout 6 (by decide)]; exact P3.out.bytes.all hR, Kept.refl _ _⟩
    refine steps_cons ?_ ?_
    · refine Step.when 10 true 33 rfl rfl fun a w hR hout hD => ?_
      have g36 : BytesArg w (a.eval (.tmp 36)) ((unesc 0 l).getD []) := hD.get 0 rfl rfl rfl
      have g33 : a.eval (.tmp 33) = .bool true := hD.get 1 rfl rfl rfl
      refine ⟨g33, ?_⟩
      exact y_text rfl g36 ⟨rfl, Kept.refl _ _⟩
    refine steps_cons ?_ ?_
    · refine Step.when 10 true 33 rfl rfl fun a w hR hout hD => ?_
      have g35 : a.eval (.tmp 35) = .string (textOf ((unesc 0 l).getD [])) := hD.get 0 rfl rfl rfl
      have g37 : a.eval (.tmp 37) = .string (textOf ((unesc 0 l).getD [])) := hD.get 1 rfl rfl rfl
      have g33 : a.eval (.tmp 33) = .bool true := hD.get 2 rfl rfl rfl
      refine ⟨g33, ?_⟩
      exact y_eql_text rfl g35 g37 ⟨by show Value.bool _ = _; exact congrArg Value.bool (by first | rfl | simp), Kept.refl _ _⟩
    refine steps_cons ?_ ?_
    · refine Step.one rfl fun a w hR hout hD => ?_
      have g33 : a.eval (.tmp 33) = .bool true := hD.get 0 rfl rfl rfl
      have g38 : a.eval (.tmp 38) = .bool true := hD.get 1 rfl rfl rfl
      exact y_pick_true rfl g33 ⟨g38, Kept.refl _ _⟩
    refine steps_cons ?_ ?_
    · refine Step.one rfl fun a w hR hout hD => ?_
      have g39 : a.eval (.tmp 39) = .bool true := hD.get 0 rfl rfl rfl
      exact y_move rfl ⟨g39, Kept.refl _ _⟩
    refine steps_cons ?_ ?_
    · refine Step.when 17 true 40 rfl rfl fun a w hR hout hD => ?_
      have g40 : a.eval (.tmp 40) = .bool true := hD.get 0 rfl rfl rfl
      refine ⟨g40, ?_⟩
      exact y_move rfl ⟨by rw [hout 5 (by decide)]; exact rfl, Kept.refl _ _⟩
    refine steps_cons ?_ ?_
    · refine Step.when 17 true 40 rfl rfl fun a w hR hout hD => ?_
      have g40 : a.eval (.tmp 40) = .bool true := hD.get 0 rfl rfl rfl
      refine ⟨g40, ?_⟩
      exact y_move rfl ⟨by rw [hout 7 (by decide)]; exact rfl, Kept.refl _ _⟩
    refine steps_cons ?_ ?_
    · refine Step.when 17 true 40 rfl rfl fun a w hR hout hD => ?_
      have g41 : a.eval (.tmp 41) = .int .i64 (code (unesc 0 l)) := hD.get 0 rfl rfl rfl
      have g42 : a.eval (.tmp 42) = .int .i64 (code (unesc 0 l)) := hD.get 1 rfl rfl rfl
      have g40 : a.eval (.tmp 40) = .bool true := hD.get 2 rfl rfl rfl
      refine ⟨g40, ?_⟩
      exact y_eql_int rfl g41 g42 ⟨by show Value.bool _ = _; exact congrArg Value.bool (by first | rfl | simp), Kept.refl _ _⟩
    refine steps_cons ?_ ?_
    · refine Step.one rfl fun a w hR hout hD => ?_
      have g40 : a.eval (.tmp 40) = .bool true := hD.get 0 rfl rfl rfl
      have g43 : a.eval (.tmp 43) = .bool true := hD.get 1 rfl rfl rfl
      exact y_pick_true rfl g40 ⟨g43, Kept.refl _ _⟩
    refine steps_cons ?_ ?_
    · refine Step.one rfl fun a w hR hout hD => ?_
      have g44 : a.eval (.tmp 44) = .bool true := hD.get 0 rfl rfl rfl
      exact y_assign rfl ⟨g44, Kept.refl _ _⟩
    exact steps_nil
  intro v wE hE hG
  have e2 : v 22 = .bool true := hG 22 (by simp)
  clear hG
  simp only [putAll, Act.put, List.setIfInBounds_toArray, List.set_cons_succ, List.set_cons_zero, Nat.reduceAdd, e2]
  have K5 := Lib.hid (K3.out.trans hE (fun _ _ x => x)); clear hE
  go_wp2
  go_ret
  exact ⟨rfl, K5.out.fin⟩
end Go.Proofs.Ytjhghgdmjajekaa
