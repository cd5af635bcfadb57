/- awake: calls whose answers the document fixes: it answers true, and nothing that was there has turned. -/
import Derived.Test.YtjhghgdmjajekaaJn
import Derived.Test.YtjhghgdmjajekaaYd
namespace Go.Proofs.Ytjhghgdmjajekaa
open Go.RowKit

def lE1 : List Nat := [0, 0, 3, 1]
theorem lE1_un : unesc 0 [0, 0, 3, 1] = some [0, 0, 1] := by decide +kernel
theorem lE2_un : unesc 0 [0, 0, 1] = none := by decide +kernel
theorem lE3_sp : split [0, 0, 1, 5, 0, 0, 1] = some [[5], []] := by decide +kernel
theorem lE4 : esc 0 [0, 0, 1] = [0, 0, 3, 1] := by decide +kernel
theorem lE5 : esc 0 [0, 0, 0, 0] = [0, 0, 3, 0, 0, 3] := by decide +kernel
theorem lE6 : esc 0 [0, 0, 4] = [0, 0, 4] := by decide +kernel
theorem lE7 : join [[5], []] = [0, 0, 1, 5, 0, 0, 1] := by decide +kernel

theorem escape_new {l m : List Nat} (v : Value) (w : World) (h : BytesArg w v l) (hl : l.length < 68719476736) (he : esc 0 l = m) :
    Calls Try.prog 12 #[v] w (fun e w' => ∃ v', e = .returned v' ∧ BytesArg w' v' m ∧ Kept (fun _ => False) w w') := by
  subst he
  exact (escape_any v l w h hl).mono fun e w' ⟨v', he, ho⟩ => ⟨v', he, ho.1.bytes, ho.2⟩

theorem join_new {us : List (List Nat)} {m : List Nat} (v : Value) (w : World) (h : UnitsArg w v us) (hl : (join us).length < 68719476736) (he : join us = m) :
    Calls Try.prog 17 #[v] w (fun e w' => ∃ v', e = .returned v' ∧ BytesArg w' v' m ∧ Kept (fun _ => False) w w') := by
  subst he
  exact (join_any v us w h hl).mono fun e w' ⟨v', he, ho⟩ => ⟨v', he, ho.1.bytes, ho.2⟩

def Pd.units (us : List (List Nat)) : Pd := ⟨fun v w => UnitsArg w v us, fun _ _ _ h k => h.all k⟩

theorem UnitsArg.shape {w : World} {v : Value} {us : List (List Nat)} (h : UnitsArg w v us) : ∃ a cap, v = .slice a us.length cap := by
  obtain ⟨a, cap, rfl, _⟩ := h; exact ⟨a, cap, rfl⟩

set_option maxHeartbeats 1000000 in
set_option maxRecDepth 100000 in
theorem awake_any (w : World) :
    Calls Try.prog 9 #[] w fun e w' => e = .returned (.bool true) ∧ Kept (fun _ => False) w w' := by
  go_enter Try.func9, Try.ntmps9
  go_wp2_with (fail)
  refine (unescape_any _ [0, 0, 3, 1] _ (BytesArg.new w [0, 0, 3, 1] (by decide) (by decide)) (by decide)).mono ?_
  rw [lE1_un]
  rintro e w1 ⟨v1, rfl, ho1⟩
  obtain ⟨a1, c1, rfl⟩ := ho1.1.shape
  have O1 := Lib.hid ho1.1; have K1 := Lib.hid (((Kept.refl (fun _ => False) w).alloc _).trans ho1.2 (fun _ _ x => x)); clear ho1
  go_wp2_with (fail)
  refine (unescape_any _ [0, 0, 1] _ (BytesArg.new w1 [0, 0, 1] (by decide) (by decide)) (by decide)).mono ?_
  rw [lE2_un]
  rintro e w2 ⟨v2, rfl, ho2⟩
  have k2 := ((Kept.refl (fun _ => False) w1).alloc (.cells (byteVals [0, 0, 1]).toArray 5)).trans ho2.2 (fun _ _ x => x)
  have O2 := Lib.hid (O1.out.all k2); have K2 := Lib.hid (K1.out.trans k2 (fun _ _ x => x)); clear ho2 k2 O1 K1
  go_wp2_with (fail)
  refine (split_any _ [0, 0, 1, 5, 0, 0, 1] _ (BytesArg.new w2 [0, 0, 1, 5, 0, 0, 1] (by decide) (by decide)) (by decide)).mono ?_
  rw [lE3_sp]
  rintro e w3 ⟨v3, rfl, ho3⟩
  have k3 := ((Kept.refl (fun _ => False) w2).alloc (.cells (byteVals [0, 0, 1, 5, 0, 0, 1]).toArray 5)).trans ho3.2 (fun _ _ x => x)
  have O3 := Lib.hid (O2.out.all k3); have K3 := Lib.hid (K2.out.trans k3 (fun _ _ x => x)); have U3 := Lib.hid ho3.1; clear ho3 k3 O2 K2
  go_wp2_with (fail)
  refine wp_region_said [some 23, some 24, some 25, some 26, some 27, some 28, some 29, some 30, some 31, some 32, some 33, some 34, some 35, some 36, some 37, some 38, some 39, some 40, some 41, some 42, some 43, some 44, some 7] [Pd.bytes ([0, 0, 1]), Pd.bytes ([0, 0, 3, 1]), Pd.eq (.string (textOf ([0, 0, 3, 1]))), Pd.bytes ([0, 0, 3, 1]), Pd.eq (.string (textOf ([0, 0, 3, 1]))), Pd.eq (.bool true), Pd.eq (.bool true), Pd.bytes ([0, 0, 0, 0]), Pd.bytes ([0, 0, 3, 0, 0, 3]), Pd.eq (.string (textOf ([0, 0, 3, 0, 0, 3]))), Pd.bytes ([0, 0, 3, 0, 0, 3]), Pd.eq (.string (textOf ([0, 0, 3, 0, 0, 3]))), Pd.eq (.bool true), Pd.eq (.bool true), Pd.eq (.bool true), Pd.bytes ([0, 0, 4]), Pd.bytes ([0, 0, 4]), Pd.eq (.string (textOf ([0, 0, 4]))), Pd.bytes ([0, 0, 4]), Pd.eq (.string (textOf ([0, 0, 4]))), Pd.eq (.bool true), Pd.eq (.bool true), Pd.eq (.bool true)] (by kernel_rfl) (by kernel_rfl) ?_ ?_
  · refine steps_cons ?_ ?_
    · refine Step.one rfl fun a w hR hout hD => ?_
      exact y_val (by simp [execOp, go_sem]; rfl) ⟨BytesArg.new w [0, 0, 1] (by decide) (by decide), (Kept.refl _ _).alloc _⟩
    refine steps_cons ?_ ?_
    · refine Step.one rfl fun a w hR hout hD => ?_
      have g23 : BytesArg w (a.eval (.tmp 23)) ([0, 0, 1]) := hD.get 0 rfl rfl rfl
      exact y_call1 rfl rfl rfl (fun _ _ => by kernel_rfl) (escape_new _ _ g23 (by decide) lE4)
    refine steps_cons ?_ ?_
    · refine Step.one rfl fun a w hR hout hD => ?_
      have g24 : BytesArg w (a.eval (.tmp 24)) ([0, 0, 3, 1]) := hD.get 0 rfl rfl rfl
      exact y_text rfl g24 ⟨rfl, Kept.refl _ _⟩
    refine steps_cons ?_ ?_
    · refine Step.one rfl fun a w hR hout hD => ?_
      exact y_val (by simp [execOp, go_sem]; rfl) ⟨BytesArg.new w [0, 0, 3, 1] (by decide) (by decide), (Kept.refl _ _).alloc _⟩
    refine steps_cons ?_ ?_
    · refine Step.one rfl fun a w hR hout hD => ?_
      have g26 : BytesArg w (a.eval (.tmp 26)) ([0, 0, 3, 1]) := hD.get 0 rfl rfl rfl
      exact y_text rfl g26 ⟨rfl, Kept.refl _ _⟩
    refine steps_cons ?_ ?_
    · refine Step.one rfl fun a w hR hout hD => ?_
      have g25 : a.eval (.tmp 25) = .string (textOf ([0, 0, 3, 1])) := hD.get 0 rfl rfl rfl
      have g27 : a.eval (.tmp 27) = .string (textOf ([0, 0, 3, 1])) := hD.get 1 rfl rfl rfl
      exact y_eql_text rfl g25 g27 ⟨by show Value.bool _ = _; exact congrArg Value.bool (by first | rfl | simp), Kept.refl _ _⟩
    refine steps_cons ?_ ?_
    · refine Step.one rfl fun a w hR hout hD => ?_
      have g28 : a.eval (.tmp 28) = .bool true := hD.get 0 rfl rfl rfl
      exact y_move rfl ⟨g28, Kept.refl _ _⟩
    refine steps_cons ?_ ?_
    · refine Step.when 6 true 29 rfl rfl fun a w hR hout hD => ?_
      have g29 : a.eval (.tmp 29) = .bool true := hD.get 0 rfl rfl rfl
      refine ⟨g29, ?_⟩
      exact y_val (by simp [execOp, go_sem]; rfl) ⟨BytesArg.new w [0, 0, 0, 0] (by decide) (by decide), (Kept.refl _ _).alloc _⟩
    refine steps_cons ?_ ?_
    · refine Step.when 6 true 29 rfl rfl fun a w hR hout hD => ?_
      have g30 : BytesArg w (a.eval (.tmp 30)) ([0, 0, 0, 0]) := hD.get 0 rfl rfl rfl
      have g29 : a.eval (.tmp 29) = .bool true := hD.get 1 rfl rfl rfl
      refine ⟨g29, ?_⟩
      exact y_call1 rfl rfl rfl (fun _ _ => by kernel_rfl) (escape_new _ _ g30 (by decide) lE5)
    refine steps_cons ?_ ?_
    · refine Step.when 6 true 29 rfl rfl fun a w hR hout hD => ?_
      have g31 : BytesArg w (a.eval (.tmp 31)) ([0, 0, 3, 0, 0, 3]) := hD.get 0 rfl rfl rfl
      have g29 : a.eval (.tmp 29) = .bool true := hD.get 1 rfl rfl rfl
      refine ⟨g29, ?_⟩
      exact y_text rfl g31 ⟨rfl, Kept.refl _ _⟩
    refine steps_cons ?_ ?_
    · refine Step.when 6 true 29 rfl rfl fun a w hR hout hD => ?_
      have g29 : a.eval (.tmp 29) = .bool true := hD.get 0 rfl rfl rfl
      refine ⟨g29, ?_⟩
      exact y_val (by simp [execOp, go_sem]; rfl) ⟨BytesArg.new w [0, 0, 3, 0, 0, 3] (by decide) (by decide), (Kept.refl _ _).alloc _⟩
    refine steps_cons ?_ ?_
    · refine Step.when 6 true 29 rfl rfl fun a w hR hout hD => ?_
      have g33 : BytesArg w (a.eval (.tmp 33)) ([0, 0, 3, 0, 0, 3]) := hD.get 0 rfl rfl rfl
      have g29 : a.eval (.tmp 29) = .bool true := hD.get 1 rfl rfl rfl
      refine ⟨g29, ?_⟩
      exact y_text rfl g33 ⟨rfl, Kept.refl _ _⟩
    refine steps_cons ?_ ?_
    · refine Step.when 6 true 29 rfl rfl fun a w hR hout hD => ?_
      have g32 : a.eval (.tmp 32) = .string (textOf ([0, 0, 3, 0, 0, 3])) := hD.get 0 rfl rfl rfl
      have g34 : a.eval (.tmp 34) = .string (textOf ([0, 0, 3, 0, 0, 3])) := hD.get 1 rfl rfl rfl
      have g29 : a.eval (.tmp 29) = .bool true := hD.get 2 rfl rfl rfl
      refine ⟨g29, ?_⟩
      exact y_eql_text rfl g32 g34 ⟨by show Value.bool _ = _; exact congrArg Value.bool (by first | rfl | simp), Kept.refl _ _⟩
    refine steps_cons ?_ ?_
    · refine Step.one rfl fun a w hR hout hD => ?_
      have g29 : a.eval (.tmp 29) = .bool true := hD.get 0 rfl rfl rfl
      have g35 : a.eval (.tmp 35) = .bool true := hD.get 1 rfl rfl rfl
      exact y_pick_true rfl g29 ⟨g35, Kept.refl _ _⟩
    refine steps_cons ?_ ?_
    · refine Step.one rfl fun a w hR hout hD => ?_
      have g36 : a.eval (.tmp 36) = .bool true := hD.get 0 rfl rfl rfl
      exact y_move rfl ⟨g36, Kept.refl _ _⟩
    refine steps_cons ?_ ?_
    · refine Step.when 14 true 37 rfl rfl fun a w hR hout hD => ?_
      have g37 : a.eval (.tmp 37) = .bool true := hD.get 0 rfl rfl rfl
      refine ⟨g37, ?_⟩
      exact y_val (by simp [execOp, go_sem]; rfl) ⟨BytesArg.new w [0, 0, 4] (by decide) (by decide), (Kept.refl _ _).alloc _⟩
    refine steps_cons ?_ ?_
    · refine Step.when 14 true 37 rfl rfl fun a w hR hout hD => ?_
      have g38 : BytesArg w (a.eval (.tmp 38)) ([0, 0, 4]) := hD.get 0 rfl rfl rfl
      have g37 : a.eval (.tmp 37) = .bool true := hD.get 1 rfl rfl rfl
      refine ⟨g37, ?_⟩
      exact y_call1 rfl rfl rfl (fun _ _ => by kernel_rfl) (escape_new _ _ g38 (by decide) lE6)
    refine steps_cons ?_ ?_
    · refine Step.when 14 true 37 rfl rfl fun a w hR hout hD => ?_
      have g39 : BytesArg w (a.eval (.tmp 39)) ([0, 0, 4]) := hD.get 0 rfl rfl rfl
      have g37 : a.eval (.tmp 37) = .bool true := hD.get 1 rfl rfl rfl
      refine ⟨g37, ?_⟩
      exact y_text rfl g39 ⟨rfl, Kept.refl _ _⟩
    refine steps_cons ?_ ?_
    · refine Step.when 14 true 37 rfl rfl fun a w hR hout hD => ?_
      have g37 : a.eval (.tmp 37) = .bool true := hD.get 0 rfl rfl rfl
      refine ⟨g37, ?_⟩
      exact y_val (by simp [execOp, go_sem]; rfl) ⟨BytesArg.new w [0, 0, 4] (by decide) (by decide), (Kept.refl _ _).alloc _⟩
    refine steps_cons ?_ ?_
    · refine Step.when 14 true 37 rfl rfl fun a w hR hout hD => ?_
      have g41 : BytesArg w (a.eval (.tmp 41)) ([0, 0, 4]) := hD.get 0 rfl rfl rfl
      have g37 : a.eval (.tmp 37) = .bool true := hD.get 1 rfl rfl rfl
      refine ⟨g37, ?_⟩
      exact y_text rfl g41 ⟨rfl, Kept.refl _ _⟩
    refine steps_cons ?_ ?_
    · refine Step.when 14 true 37 rfl rfl fun a w hR hout hD => ?_
      have g40 : a.eval (.tmp 40) = .string (textOf ([0, 0, 4])) := hD.get 0 rfl rfl rfl
      have g42 : a.eval (.tmp 42) = .string (textOf ([0, 0, 4])) := hD.get 1 rfl rfl rfl
      have g37 : a.eval (.tmp 37) = .bool true := hD.get 2 rfl rfl rfl
      refine ⟨g37, ?_⟩
      exact y_eql_text rfl g40 g42 ⟨by show Value.bool _ = _; exact congrArg Value.bool (by first | rfl | simp), Kept.refl _ _⟩
    refine steps_cons ?_ ?_
    · refine Step.one rfl fun a w hR hout hD => ?_
      have g37 : a.eval (.tmp 37) = .bool true := hD.get 0 rfl rfl rfl
      have g43 : a.eval (.tmp 43) = .bool true := hD.get 1 rfl rfl rfl
      exact y_pick_true rfl g37 ⟨g43, Kept.refl _ _⟩
    refine steps_cons ?_ ?_
    · refine Step.one rfl fun a w hR hout hD => ?_
      have g44 : a.eval (.tmp 44) = .bool true := hD.get 0 rfl rfl rfl
      exact y_assign rfl ⟨g44, Kept.refl _ _⟩
    exact steps_nil
  intro v wE hE hG
  have e7 : v 22 = .bool true := hG 22 (by simp)
  clear hG
  simp only [putAll, Act.put, List.setIfInBounds_toArray, List.set_cons_succ, List.set_cons_zero, Nat.reduceAdd, e7]
  have O4 := Lib.hid (O3.out.all hE); have K4 := Lib.hid (K3.out.trans hE (fun _ _ x => x)); have U4 := Lib.hid (U3.out.all hE); clear hE O3 K3 U3
  clear e7
  go_wp2_with (fail)
  refine wp_region_said [some 45, some 46, some 47, some 48, some 49, some 50, some 51, some 52, some 53, some 54, some 55, some 56, some 57, some 58, some 59, some 60, some 61, some 62, some 63, some 64, some 65, some 66, some 67, some 68, some 69, some 70, some 71, some 72, some 73, some 74, some 75, some 76, some 77, some 78, some 79, some 0] [Pd.eq (.bool true), Pd.eq (.bool true), Pd.bytes ([0, 0, 1]), Pd.eq (.string (textOf ([0, 0, 1]))), Pd.bytes ([0, 0, 1]), Pd.eq (.string (textOf ([0, 0, 1]))), Pd.eq (.bool true), Pd.eq (.bool true), Pd.eq (.bool true), Pd.eq (.int .i64 0), Pd.eq (.bool true), Pd.eq (.bool true), Pd.eq (.bool true), Pd.eq (.int .i64 20), Pd.eq (.bool true), Pd.eq (.bool true), Pd.eq (.bool true), Pd.eq (.int .i64 0), Pd.eq (.bool true), Pd.eq (.bool true), Pd.eq (.bool true), Pd.units ([[5], []]), Pd.eq (.int .i64 ((([[5], []] : List (List Nat)).length : Nat) : Int)), Pd.eq (.bool true), Pd.eq (.bool true), Pd.eq (.bool true), Pd.eq (Value.bool true), Pd.eq (Value.bool true), Pd.units ([[5], []]), Pd.bytes ([0, 0, 1, 5, 0, 0, 1]), Pd.eq (.string (textOf ([0, 0, 1, 5, 0, 0, 1]))), Pd.bytes ([0, 0, 1, 5, 0, 0, 1]), Pd.eq (.string (textOf ([0, 0, 1, 5, 0, 0, 1]))), Pd.eq (.bool true), Pd.eq (.bool true), Pd.eq (.bool true)] (by kernel_rfl) (by kernel_rfl) ?_ ?_
  · refine steps_cons ?_ ?_
    · refine Step.one rfl fun a w hR hout hD => ?_
      exact y_move rfl ⟨by rw [hout 7 (by decide)]; exact rfl, Kept.refl _ _⟩
    refine steps_cons ?_ ?_
    · refine Step.one rfl fun a w hR hout hD => ?_
      have g45 : a.eval (.tmp 45) = .bool true := hD.get 0 rfl rfl rfl
      exact y_move rfl ⟨g45, Kept.refl _ _⟩
    refine steps_cons ?_ ?_
    · refine Step.when 1 true 46 rfl rfl fun a w hR hout hD => ?_
      have g46 : a.eval (.tmp 46) = .bool true := hD.get 0 rfl rfl rfl
      refine ⟨g46, ?_⟩
      exact y_move rfl ⟨by rw [hout 1 (by decide)]; exact O4.out.bytes.all hR, Kept.refl _ _⟩
    refine steps_cons ?_ ?_
    · refine Step.when 1 true 46 rfl rfl fun a w hR hout hD => ?_
      have g47 : BytesArg w (a.eval (.tmp 47)) ([0, 0, 1]) := hD.get 0 rfl rfl rfl
      have g46 : a.eval (.tmp 46) = .bool true := hD.get 1 rfl rfl rfl
      refine ⟨g46, ?_⟩
      exact y_text rfl g47 ⟨rfl, Kept.refl _ _⟩
    refine steps_cons ?_ ?_
    · refine Step.when 1 true 46 rfl rfl fun a w hR hout hD => ?_
      have g46 : a.eval (.tmp 46) = .bool true := hD.get 0 rfl rfl rfl
      refine ⟨g46, ?_⟩
      exact y_val (by simp [execOp, go_sem]; rfl) ⟨BytesArg.new w [0, 0, 1] (by decide) (by decide), (Kept.refl _ _).alloc _⟩
    refine steps_cons ?_ ?_
    · refine Step.when 1 true 46 rfl rfl fun a w hR hout hD => ?_
      have g49 : BytesArg w (a.eval (.tmp 49)) ([0, 0, 1]) := hD.get 0 rfl rfl rfl
      have g46 : a.eval (.tmp 46) = .bool true := hD.get 1 rfl rfl rfl
      refine ⟨g46, ?_⟩
      exact y_text rfl g49 ⟨rfl, Kept.refl _ _⟩
    refine steps_cons ?_ ?_
    · refine Step.when 1 true 46 rfl rfl fun a w hR hout hD => ?_
      have g48 : a.eval (.tmp 48) = .string (textOf ([0, 0, 1])) := hD.get 0 rfl rfl rfl
      have g50 : a.eval (.tmp 50) = .string (textOf ([0, 0, 1])) := hD.get 1 rfl rfl rfl
      have g46 : a.eval (.tmp 46) = .bool true := hD.get 2 rfl rfl rfl
      refine ⟨g46, ?_⟩
      exact y_eql_text rfl g48 g50 ⟨by show Value.bool _ = _; exact congrArg Value.bool (by first | rfl | simp), Kept.refl _ _⟩
    refine steps_cons ?_ ?_
    · refine Step.one rfl fun a w hR hout hD => ?_
      have g46 : a.eval (.tmp 46) = .bool true := hD.get 0 rfl rfl rfl
      have g51 : a.eval (.tmp 51) = .bool true := hD.get 1 rfl rfl rfl
      exact y_pick_true rfl g46 ⟨g51, Kept.refl _ _⟩
    refine steps_cons ?_ ?_
    · refine Step.one rfl fun a w hR hout hD => ?_
      have g52 : a.eval (.tmp 52) = .bool true := hD.get 0 rfl rfl rfl
      exact y_move rfl ⟨g52, Kept.refl _ _⟩
    refine steps_cons ?_ ?_
    · refine Step.when 8 true 53 rfl rfl fun a w hR hout hD => ?_
      have g53 : a.eval (.tmp 53) = .bool true := hD.get 0 rfl rfl rfl
      refine ⟨g53, ?_⟩
      exact y_move rfl ⟨by rw [hout 2 (by decide)]; exact rfl, Kept.refl _ _⟩
    refine steps_cons ?_ ?_
    · refine Step.when 8 true 53 rfl rfl fun a w hR hout hD => ?_
      have g54 : a.eval (.tmp 54) = .int .i64 0 := hD.get 0 rfl rfl rfl
      have g53 : a.eval (.tmp 53) = .bool true := hD.get 1 rfl rfl rfl
      refine ⟨g53, ?_⟩
      exact y_eql_int rfl g54 rfl ⟨by show Value.bool _ = _; exact congrArg Value.bool (by first | rfl | simp), Kept.refl _ _⟩
    refine steps_cons ?_ ?_
    · refine Step.one rfl fun a w hR hout hD => ?_
      have g53 : a.eval (.tmp 53) = .bool true := hD.get 0 rfl rfl rfl
      have g55 : a.eval (.tmp 55) = .bool true := hD.get 1 rfl rfl rfl
      exact y_pick_true rfl g53 ⟨g55, Kept.refl _ _⟩
    refine steps_cons ?_ ?_
    · refine Step.one rfl fun a w hR hout hD => ?_
      have g56 : a.eval (.tmp 56) = .bool true := hD.get 0 rfl rfl rfl
      exact y_move rfl ⟨g56, Kept.refl _ _⟩
    refine steps_cons ?_ ?_
    · refine Step.when 12 true 57 rfl rfl fun a w hR hout hD => ?_
      have g57 : a.eval (.tmp 57) = .bool true := hD.get 0 rfl rfl rfl
      refine ⟨g57, ?_⟩
      exact y_move rfl ⟨by rw [hout 4 (by decide)]; exact rfl, Kept.refl _ _⟩
    refine steps_cons ?_ ?_
    · refine Step.when 12 true 57 rfl rfl fun a w hR hout hD => ?_
      have g58 : a.eval (.tmp 58) = .int .i64 20 := hD.get 0 rfl rfl rfl
      have g57 : a.eval (.tmp 57) = .bool true := hD.get 1 rfl rfl rfl
      refine ⟨g57, ?_⟩
      exact y_eql_int rfl g58 rfl ⟨by show Value.bool _ = _; exact congrArg Value.bool (by first | rfl | simp), Kept.refl _ _⟩
    refine steps_cons ?_ ?_
    · refine Step.one rfl fun a w hR hout hD => ?_
      have g57 : a.eval (.tmp 57) = .bool true := hD.get 0 rfl rfl rfl
      have g59 : a.eval (.tmp 59) = .bool true := hD.get 1 rfl rfl rfl
      exact y_pick_true rfl g57 ⟨g59, Kept.refl _ _⟩
    refine steps_cons ?_ ?_
    · refine Step.one rfl fun a w hR hout hD => ?_
      have g60 : a.eval (.tmp 60) = .bool true := hD.get 0 rfl rfl rfl
      exact y_move rfl ⟨g60, Kept.refl _ _⟩
    refine steps_cons ?_ ?_
    · refine Step.when 16 true 61 rfl rfl fun a w hR hout hD => ?_
      have g61 : a.eval (.tmp 61) = .bool true := hD.get 0 rfl rfl rfl
      refine ⟨g61, ?_⟩
      exact y_move rfl ⟨by rw [hout 6 (by decide)]; exact rfl, Kept.refl _ _⟩
    refine steps_cons ?_ ?_
    · refine Step.when 16 true 61 rfl rfl fun a w hR hout hD => ?_
      have g62 : a.eval (.tmp 62) = .int .i64 0 := hD.get 0 rfl rfl rfl
      have g61 : a.eval (.tmp 61) = .bool true := hD.get 1 rfl rfl rfl
      refine ⟨g61, ?_⟩
      exact y_eql_int rfl g62 rfl ⟨by show Value.bool _ = _; exact congrArg Value.bool (by first | rfl | simp), Kept.refl _ _⟩
    refine steps_cons ?_ ?_
    · refine Step.one rfl fun a w hR hout hD => ?_
      have g61 : a.eval (.tmp 61) = .bool true := hD.get 0 rfl rfl rfl
      have g63 : a.eval (.tmp 63) = .bool true := hD.get 1 rfl rfl rfl
      exact y_pick_true rfl g61 ⟨g63, Kept.refl _ _⟩
    refine steps_cons ?_ ?_
    · refine Step.one rfl fun a w hR hout hD => ?_
      have g64 : a.eval (.tmp 64) = .bool true := hD.get 0 rfl rfl rfl
      exact y_move rfl ⟨g64, Kept.refl _ _⟩
    refine steps_cons ?_ ?_
    · refine Step.when 20 true 65 rfl rfl fun a w hR hout hD => ?_
      have g65 : a.eval (.tmp 65) = .bool true := hD.get 0 rfl rfl rfl
      refine ⟨g65, ?_⟩
      exact y_move rfl ⟨by rw [hout 5 (by decide)]; exact U4.out.units.all hR, Kept.refl _ _⟩
    refine steps_cons ?_ ?_
    · refine Step.when 20 true 65 rfl rfl fun a w hR hout hD => ?_
      have g66 : UnitsArg w (a.eval (.tmp 66)) ([[5], []]) := hD.get 0 rfl rfl rfl
      have g65 : a.eval (.tmp 65) = .bool true := hD.get 1 rfl rfl rfl
      refine ⟨g65, ?_⟩
      obtain ⟨xa, xc, xe⟩ := g66.shape; exact y_len rfl rfl rfl rfl Try.underlying29 xe ⟨rfl, Kept.refl _ _⟩
    refine steps_cons ?_ ?_
    · refine Step.when 20 true 65 rfl rfl fun a w hR hout hD => ?_
      have g67 : a.eval (.tmp 67) = .int .i64 ((([[5], []] : List (List Nat)).length : Nat) : Int) := hD.get 0 rfl rfl rfl
      have g65 : a.eval (.tmp 65) = .bool true := hD.get 1 rfl rfl rfl
      refine ⟨g65, ?_⟩
      exact y_eql_int rfl g67 rfl ⟨by show Value.bool _ = _; exact congrArg Value.bool (by first | rfl | simp), Kept.refl _ _⟩
    refine steps_cons ?_ ?_
    · refine Step.one rfl fun a w hR hout hD => ?_
      have g65 : a.eval (.tmp 65) = .bool true := hD.get 0 rfl rfl rfl
      have g68 : a.eval (.tmp 68) = .bool true := hD.get 1 rfl rfl rfl
      exact y_pick_true rfl g65 ⟨g68, Kept.refl _ _⟩
    refine steps_cons ?_ ?_
    · refine Step.one rfl fun a w hR hout hD => ?_
      have g69 : a.eval (.tmp 69) = .bool true := hD.get 0 rfl rfl rfl
      exact y_move rfl ⟨g69, Kept.refl _ _⟩
    refine steps_cons ?_ ?_
    · refine Step.one rfl fun a w hR hout hD => ?_
      have g70 : a.eval (.tmp 70) = .bool true := hD.get 0 rfl rfl rfl
      exact y_pick_true rfl g70 ⟨rfl, Kept.refl _ _⟩
    refine steps_cons ?_ ?_
    · refine Step.one rfl fun a w hR hout hD => ?_
      have g71 : a.eval (.tmp 71) = Value.bool true := hD.get 0 rfl rfl rfl
      exact y_move rfl ⟨g71, Kept.refl _ _⟩
    refine steps_cons ?_ ?_
    · refine Step.when 27 true 72 rfl rfl fun a w hR hout hD => ?_
      have g72 : a.eval (.tmp 72) = Value.bool true := hD.get 0 rfl rfl rfl
      refine ⟨g72, ?_⟩
      exact y_move rfl ⟨by rw [hout 5 (by decide)]; exact U4.out.units.all hR, Kept.refl _ _⟩
    refine steps_cons ?_ ?_
    · refine Step.when 27 true 72 rfl rfl fun a w hR hout hD => ?_
      have g73 : UnitsArg w (a.eval (.tmp 73)) ([[5], []]) := hD.get 0 rfl rfl rfl
      have g72 : a.eval (.tmp 72) = Value.bool true := hD.get 1 rfl rfl rfl
      refine ⟨g72, ?_⟩
      exact y_call1 rfl rfl rfl (fun _ _ => by kernel_rfl) (join_new _ _ g73 (by decide +kernel) lE7)
    refine steps_cons ?_ ?_
    · refine Step.when 27 true 72 rfl rfl fun a w hR hout hD => ?_
      have g74 : BytesArg w (a.eval (.tmp 74)) ([0, 0, 1, 5, 0, 0, 1]) := hD.get 0 rfl rfl rfl
      have g72 : a.eval (.tmp 72) = Value.bool true := hD.get 1 rfl rfl rfl
      refine ⟨g72, ?_⟩
      exact y_text rfl g74 ⟨rfl, Kept.refl _ _⟩
    refine steps_cons ?_ ?_
    · refine Step.when 27 true 72 rfl rfl fun a w hR hout hD => ?_
      have g72 : a.eval (.tmp 72) = Value.bool true := hD.get 0 rfl rfl rfl
      refine ⟨g72, ?_⟩
      exact y_val (by simp [execOp, go_sem]; rfl) ⟨BytesArg.new w [0, 0, 1, 5, 0, 0, 1] (by decide) (by decide), (Kept.refl _ _).alloc _⟩
    refine steps_cons ?_ ?_
    · refine Step.when 27 true 72 rfl rfl fun a w hR hout hD => ?_
      have g76 : BytesArg w (a.eval (.tmp 76)) ([0, 0, 1, 5, 0, 0, 1]) := hD.get 0 rfl rfl rfl
      have g72 : a.eval (.tmp 72) = Value.bool true := hD.get 1 rfl rfl rfl
      refine ⟨g72, ?_⟩
      exact y_text rfl g76 ⟨rfl, Kept.refl _ _⟩
    refine steps_cons ?_ ?_
    · refine Step.when 27 true 72 rfl rfl fun a w hR hout hD => ?_
      have g75 : a.eval (.tmp 75) = .string (textOf ([0, 0, 1, 5, 0, 0, 1])) := hD.get 0 rfl rfl rfl
      have g77 : a.eval (.tmp 77) = .string (textOf ([0, 0, 1, 5, 0, 0, 1])) := hD.get 1 rfl rfl rfl
      have g72 : a.eval (.tmp 72) = Value.bool true := hD.get 2 rfl rfl rfl
      refine ⟨g72, ?_⟩
      exact y_eql_text rfl g75 g77 ⟨by show Value.bool _ = _; exact congrArg Value.bool (by first | rfl | simp), Kept.refl _ _⟩
    refine steps_cons ?_ ?_
    · refine Step.one rfl fun a w hR hout hD => ?_
      have g72 : a.eval (.tmp 72) = Value.bool true := hD.get 0 rfl rfl rfl
      have g78 : a.eval (.tmp 78) = .bool true := hD.get 1 rfl rfl rfl
      exact y_pick_true rfl g72 ⟨g78, Kept.refl _ _⟩
    refine steps_cons ?_ ?_
    · refine Step.one rfl fun a w hR hout hD => ?_
      have g79 : a.eval (.tmp 79) = .bool true := hD.get 0 rfl rfl rfl
      exact y_assign rfl ⟨g79, Kept.refl _ _⟩
    exact steps_nil
  intro v wE hE hG
  have e0 : v 35 = .bool true := hG 35 (by simp)
  clear hG
  simp only [putAll, Act.put, List.setIfInBounds_toArray, List.set_cons_succ, List.set_cons_zero, Nat.reduceAdd, e0]
  have K5 := Lib.hid (K4.out.trans hE (fun _ _ x => x)); clear hE
  go_wp2
  go_ret
  exact ⟨rfl, K5.out⟩
end Go.Proofs.Ytjhghgdmjajekaa
