/- CrcTables' walk. -/
import Derived.Test.YtikblokigeabjaaCAw
namespace Go.Proofs.Ytikblokigeabjaa
open Go.RowKit

theorem TabAt.cell {w : World} {b poly : Nat} (h : TabAt w b poly) {j : Nat} (hj : j < 256) : w.cell? ⟨b, j, none⟩ = some (.int .u32 ((tab poly j : Nat) : Int)) := by
  unfold TabAt at h
  rw [cell_of_heap h, List.getElem?_toArray, tabL_at poly _ hj]

theorem eq_true {a b : Nat} (h : a = b) : (((a : Nat) : Int) == ((b : Nat) : Int)) = true := by subst h; simp

theorem wrap_u32 (n : Nat) (h : n < 4294967296) : IntKind.u32.wrap (n : Int) = (n : Int) := by
  simp [IntKind.wrap, IntKind.signed, IntKind.bits]; omega
theorem wrap_u8 (n : Nat) : IntKind.u8.wrap (n : Int) = ((n % 256 : Nat) : Int) := by
  simp [IntKind.wrap, IntKind.signed, IntKind.bits]

set_option maxHeartbeats 1000000 in
set_option maxRecDepth 100000 in
theorem tables_walk (poly x y : Nat) (w : World) (hp : poly < 4294967296) (ha : x < 256) (hb : y < 256) :
    Calls Try.prog 8 #[.int .u32 (poly : Int), .int .u8 (x : Int), .int .u8 (y : Int)] w fun e w' => e = .returned (.bool true) ∧ Below w.heap.size w w' := by
  obtain ⟨cs, z, hv, hzs, hone, hsz, hz, hat⟩ := tab_some poly
  have HV := Lib.hid hv; have HZS := Lib.hid hzs; have HO := Lib.hid hone; have HS := Lib.hid hsz; have HAt := Lib.hid hat; clear hv hzs hone hsz hat
  go_enter Try.func8, Try.ntmps8
  go_wp2_with (fail)
  refine (awake_any _).mono ?_
  rintro e w0 ⟨rfl, k0⟩
  have K0 := Lib.hid k0; clear k0
  go_wp2_with (fail)
  refine (make_any poly _ hp).mono ?_
  rw [HV.out]
  rintro e w1 ⟨rfl, k1⟩
  have K1 := Lib.hid (K0.out.trans k1 (fun _ _ x => x)); clear k1
  go_wp2_with (refine wpList_store_row rfl 26 (.tmp 8) (.tmp 11) rfl w1.heap.size z cs 26 rfl rfl (heap_alloc_new w1 _) HZS.out HS.out HO.out ?_)
  intro w2 t2 k2
  have T2 := Lib.hid ((HAt.out _ _).1 t2); have K2 := Lib.hid (K1.out.trans k2.laid (fun _ _ x => x)); clear t2 k2 hz K0 K1
  generalize w1.heap.size = tb at *
  go_wp2_with (fail)
  refine wp_region_said [some 12, some 13, some 14, some 15, some 16, some 17, some 18, some 19, some 20, some 21, some 22, some 23, some 24, some 25, some 26, some 27, some 28, some 29, some 30, some 31, some 32, some 33, some 34, some 35, some 36, some 37, some 38, some 6] [Pd.eq (.bool true), Pd.eq (.bool true), Pd.eq (.pointer (some ⟨tb, 0, none⟩)), Pd.eq (.int .u32 ((tab poly 0 : Nat) : Int)), Pd.eq (.bool true), Pd.eq (.bool true), Pd.eq (.bool true), Pd.eq (.int .u8 (x : Int)), Pd.eq (.int .u8 (y : Int)), Pd.eq (.int .u8 ((x ^^^ y : Nat) : Int)), Pd.eq (.pointer (some ⟨tb, x ^^^ y, none⟩)), Pd.eq (.int .u32 ((tab poly (x ^^^ y) : Nat) : Int)), Pd.eq (.int .u8 (x : Int)), Pd.eq (.pointer (some ⟨tb, x, none⟩)), Pd.eq (.int .u32 ((tab poly x : Nat) : Int)), Pd.eq (.int .u8 (y : Int)), Pd.eq (.pointer (some ⟨tb, y, none⟩)), Pd.eq (.int .u32 ((tab poly y : Nat) : Int)), Pd.eq (.int .u32 ((tab poly x ^^^ tab poly y : Nat) : Int)), Pd.eq (.bool true), Pd.eq (.bool true), Pd.eq (.bool true), Pd.eq (.pointer (some ⟨tb, 128, none⟩)), Pd.eq (.int .u32 ((tab poly 128 : Nat) : Int)), Pd.eq (.int .u32 (poly : Int)), Pd.eq (.bool true), Pd.eq (.bool true), Pd.eq (.bool true)] (by kernel_rfl) (by kernel_rfl) ?_ ?_
  · refine steps_cons ?_ ?_
    · refine Step.one rfl fun a w hR hout hD => ?_
      exact y_move rfl ⟨by rw [hout 7 (by decide)]; exact rfl, Kept.refl _ _⟩
    refine steps_cons ?_ ?_
    · refine Step.one rfl fun a w hR hout hD => ?_
      have g12 : a.eval (.tmp 12) = .bool true := hD.get 0 rfl rfl rfl
      exact y_move rfl ⟨g12, Kept.refl _ _⟩
    refine steps_cons ?_ ?_
    · refine Step.when 1 true 13 rfl rfl fun a w hR hout hD => ?_
      have hR0 := hR
      have g13 : a.eval (.tmp 13) = .bool true := hD.get 0 rfl rfl rfl
      refine ⟨g13, ?_⟩
      exact y_idx rfl (by rw [hout 8 (by decide)]; rfl) rfl Try.underlying26 (by decide) (by kernel_rfl) ⟨rfl, Kept.refl _ _⟩
    refine steps_cons ?_ ?_
    · refine Step.when 1 true 13 rfl rfl fun a w hR hout hD => ?_
      have hR0 := hR
      have g14 : a.eval (.tmp 14) = .pointer (some ⟨tb, 0, none⟩) := hD.get 0 rfl rfl rfl
      have g13 : a.eval (.tmp 13) = .bool true := hD.get 1 rfl rfl rfl
      refine ⟨g13, ?_⟩
      exact y_ld rfl g14 ((T2.out.all hR0).cell (by decide)) Try.underlying22 ⟨rfl, Kept.refl _ _⟩
    refine steps_cons ?_ ?_
    · refine Step.when 1 true 13 rfl rfl fun a w hR hout hD => ?_
      have g15 : a.eval (.tmp 15) = .int .u32 ((tab poly 0 : Nat) : Int) := hD.get 0 rfl rfl rfl
      have g13 : a.eval (.tmp 13) = .bool true := hD.get 1 rfl rfl rfl
      refine ⟨g13, ?_⟩
      exact y_eql_int rfl g15 rfl ⟨by show Value.bool _ = _; exact congrArg Value.bool (eq_true (b := 0) (tab_zero poly)), Kept.refl _ _⟩
    refine steps_cons ?_ ?_
    · refine Step.one rfl fun a w hR hout hD => ?_
      have g13 : a.eval (.tmp 13) = .bool true := hD.get 0 rfl rfl rfl
      have g16 : a.eval (.tmp 16) = .bool true := hD.get 1 rfl rfl rfl
      exact y_pick_true rfl g13 ⟨g16, Kept.refl _ _⟩
    refine steps_cons ?_ ?_
    · refine Step.one rfl fun a w hR hout hD => ?_
      have g17 : a.eval (.tmp 17) = .bool true := hD.get 0 rfl rfl rfl
      exact y_move rfl ⟨g17, Kept.refl _ _⟩
    refine steps_cons ?_ ?_
    · refine Step.when 6 true 18 rfl rfl fun a w hR hout hD => ?_
      have g18 : a.eval (.tmp 18) = .bool true := hD.get 0 rfl rfl rfl
      refine ⟨g18, ?_⟩
      exact y_move rfl ⟨by rw [hout 1 (by decide)]; exact rfl, Kept.refl _ _⟩
    refine steps_cons ?_ ?_
    · refine Step.when 6 true 18 rfl rfl fun a w hR hout hD => ?_
      have g18 : a.eval (.tmp 18) = .bool true := hD.get 0 rfl rfl rfl
      refine ⟨g18, ?_⟩
      exact y_move rfl ⟨by rw [hout 2 (by decide)]; exact rfl, Kept.refl _ _⟩
    refine steps_cons ?_ ?_
    · refine Step.when 6 true 18 rfl rfl fun a w hR hout hD => ?_
      have hR0 := hR
      have g19 : a.eval (.tmp 19) = .int .u8 (x : Int) := hD.get 0 rfl rfl rfl
      have g20 : a.eval (.tmp 20) = .int .u8 (y : Int) := hD.get 1 rfl rfl rfl
      have g18 : a.eval (.tmp 18) = .bool true := hD.get 2 rfl rfl rfl
      refine ⟨g18, ?_⟩
      exact y_xor rfl g19 g20 ⟨congrArg (Value.int _) (u8_xor_nat x y ha hb), Kept.refl _ _⟩
    refine steps_cons ?_ ?_
    · refine Step.when 6 true 18 rfl rfl fun a w hR hout hD => ?_
      have hR0 := hR
      have g21 : a.eval (.tmp 21) = .int .u8 ((x ^^^ y : Nat) : Int) := hD.get 0 rfl rfl rfl
      have g18 : a.eval (.tmp 18) = .bool true := hD.get 1 rfl rfl rfl
      refine ⟨g18, ?_⟩
      exact y_idx rfl (by rw [hout 8 (by decide)]; rfl) g21 Try.underlying26 (Nat.xor_lt_two_pow (n := 8) ha hb) (by kernel_rfl) ⟨rfl, Kept.refl _ _⟩
    refine steps_cons ?_ ?_
    · refine Step.when 6 true 18 rfl rfl fun a w hR hout hD => ?_
      have hR0 := hR
      have g22 : a.eval (.tmp 22) = .pointer (some ⟨tb, x ^^^ y, none⟩) := hD.get 0 rfl rfl rfl
      have g18 : a.eval (.tmp 18) = .bool true := hD.get 1 rfl rfl rfl
      refine ⟨g18, ?_⟩
      exact y_ld rfl g22 ((T2.out.all hR0).cell (Nat.xor_lt_two_pow (n := 8) ha hb)) Try.underlying22 ⟨rfl, Kept.refl _ _⟩
    refine steps_cons ?_ ?_
    · refine Step.when 6 true 18 rfl rfl fun a w hR hout hD => ?_
      have g18 : a.eval (.tmp 18) = .bool true := hD.get 0 rfl rfl rfl
      refine ⟨g18, ?_⟩
      exact y_move rfl ⟨by rw [hout 1 (by decide)]; exact rfl, Kept.refl _ _⟩
    refine steps_cons ?_ ?_
    · refine Step.when 6 true 18 rfl rfl fun a w hR hout hD => ?_
      have hR0 := hR
      have g24 : a.eval (.tmp 24) = .int .u8 (x : Int) := hD.get 0 rfl rfl rfl
      have g18 : a.eval (.tmp 18) = .bool true := hD.get 1 rfl rfl rfl
      refine ⟨g18, ?_⟩
      exact y_idx rfl (by rw [hout 8 (by decide)]; rfl) g24 Try.underlying26 (ha) (by kernel_rfl) ⟨rfl, Kept.refl _ _⟩
    refine steps_cons ?_ ?_
    · refine Step.when 6 true 18 rfl rfl fun a w hR hout hD => ?_
      have hR0 := hR
      have g25 : a.eval (.tmp 25) = .pointer (some ⟨tb, x, none⟩) := hD.get 0 rfl rfl rfl
      have g18 : a.eval (.tmp 18) = .bool true := hD.get 1 rfl rfl rfl
      refine ⟨g18, ?_⟩
      exact y_ld rfl g25 ((T2.out.all hR0).cell ha) Try.underlying22 ⟨rfl, Kept.refl _ _⟩
    refine steps_cons ?_ ?_
    · refine Step.when 6 true 18 rfl rfl fun a w hR hout hD => ?_
      have g18 : a.eval (.tmp 18) = .bool true := hD.get 0 rfl rfl rfl
      refine ⟨g18, ?_⟩
      exact y_move rfl ⟨by rw [hout 2 (by decide)]; exact rfl, Kept.refl _ _⟩
    refine steps_cons ?_ ?_
    · refine Step.when 6 true 18 rfl rfl fun a w hR hout hD => ?_
      have hR0 := hR
      have g27 : a.eval (.tmp 27) = .int .u8 (y : Int) := hD.get 0 rfl rfl rfl
      have g18 : a.eval (.tmp 18) = .bool true := hD.get 1 rfl rfl rfl
      refine ⟨g18, ?_⟩
      exact y_idx rfl (by rw [hout 8 (by decide)]; rfl) g27 Try.underlying26 (hb) (by kernel_rfl) ⟨rfl, Kept.refl _ _⟩
    refine steps_cons ?_ ?_
    · refine Step.when 6 true 18 rfl rfl fun a w hR hout hD => ?_
      have hR0 := hR
      have g28 : a.eval (.tmp 28) = .pointer (some ⟨tb, y, none⟩) := hD.get 0 rfl rfl rfl
      have g18 : a.eval (.tmp 18) = .bool true := hD.get 1 rfl rfl rfl
      refine ⟨g18, ?_⟩
      exact y_ld rfl g28 ((T2.out.all hR0).cell hb) Try.underlying22 ⟨rfl, Kept.refl _ _⟩
    refine steps_cons ?_ ?_
    · refine Step.when 6 true 18 rfl rfl fun a w hR hout hD => ?_
      have hR0 := hR
      have g26 : a.eval (.tmp 26) = .int .u32 ((tab poly x : Nat) : Int) := hD.get 0 rfl rfl rfl
      have g29 : a.eval (.tmp 29) = .int .u32 ((tab poly y : Nat) : Int) := hD.get 1 rfl rfl rfl
      have g18 : a.eval (.tmp 18) = .bool true := hD.get 2 rfl rfl rfl
      refine ⟨g18, ?_⟩
      exact y_xor rfl g26 g29 ⟨congrArg (Value.int _) (u32_xor_nat _ _ (tab_lt poly x hp (by omega)) (tab_lt poly y hp (by omega))), Kept.refl _ _⟩
    refine steps_cons ?_ ?_
    · refine Step.when 6 true 18 rfl rfl fun a w hR hout hD => ?_
      have g23 : a.eval (.tmp 23) = .int .u32 ((tab poly (x ^^^ y) : Nat) : Int) := hD.get 0 rfl rfl rfl
      have g30 : a.eval (.tmp 30) = .int .u32 ((tab poly x ^^^ tab poly y : Nat) : Int) := hD.get 1 rfl rfl rfl
      have g18 : a.eval (.tmp 18) = .bool true := hD.get 2 rfl rfl rfl
      refine ⟨g18, ?_⟩
      exact y_eql_int rfl g23 g30 ⟨by show Value.bool _ = _; exact congrArg Value.bool (eq_true (tab_xor poly x y)), Kept.refl _ _⟩
    refine steps_cons ?_ ?_
    · refine Step.one rfl fun a w hR hout hD => ?_
      have g18 : a.eval (.tmp 18) = .bool true := hD.get 0 rfl rfl rfl
      have g31 : a.eval (.tmp 31) = .bool true := hD.get 1 rfl rfl rfl
      exact y_pick_true rfl g18 ⟨g31, Kept.refl _ _⟩
    refine steps_cons ?_ ?_
    · refine Step.one rfl fun a w hR hout hD => ?_
      have g32 : a.eval (.tmp 32) = .bool true := hD.get 0 rfl rfl rfl
      exact y_move rfl ⟨g32, Kept.refl _ _⟩
    refine steps_cons ?_ ?_
    · refine Step.when 21 true 33 rfl rfl fun a w hR hout hD => ?_
      have hR0 := hR
      have g33 : a.eval (.tmp 33) = .bool true := hD.get 0 rfl rfl rfl
      refine ⟨g33, ?_⟩
      exact y_idx rfl (by rw [hout 8 (by decide)]; rfl) rfl Try.underlying26 (by decide) (by kernel_rfl) ⟨rfl, Kept.refl _ _⟩
    refine steps_cons ?_ ?_
    · refine Step.when 21 true 33 rfl rfl fun a w hR hout hD => ?_
      have hR0 := hR
      have g34 : a.eval (.tmp 34) = .pointer (some ⟨tb, 128, none⟩) := hD.get 0 rfl rfl rfl
      have g33 : a.eval (.tmp 33) = .bool true := hD.get 1 rfl rfl rfl
      refine ⟨g33, ?_⟩
      exact y_ld rfl g34 ((T2.out.all hR0).cell (by decide)) Try.underlying22 ⟨rfl, Kept.refl _ _⟩
    refine steps_cons ?_ ?_
    · refine Step.when 21 true 33 rfl rfl fun a w hR hout hD => ?_
      have g33 : a.eval (.tmp 33) = .bool true := hD.get 0 rfl rfl rfl
      refine ⟨g33, ?_⟩
      exact y_move rfl ⟨by rw [hout 0 (by decide)]; exact rfl, Kept.refl _ _⟩
    refine steps_cons ?_ ?_
    · refine Step.when 21 true 33 rfl rfl fun a w hR hout hD => ?_
      have g35 : a.eval (.tmp 35) = .int .u32 ((tab poly 128 : Nat) : Int) := hD.get 0 rfl rfl rfl
      have g36 : a.eval (.tmp 36) = .int .u32 (poly : Int) := hD.get 1 rfl rfl rfl
      have g33 : a.eval (.tmp 33) = .bool true := hD.get 2 rfl rfl rfl
      refine ⟨g33, ?_⟩
      exact y_eql_int rfl g35 g36 ⟨by show Value.bool _ = _; exact congrArg Value.bool (eq_true (tab_128 poly)), Kept.refl _ _⟩
    refine steps_cons ?_ ?_
    · refine Step.one rfl fun a w hR hout hD => ?_
      have g33 : a.eval (.tmp 33) = .bool true := hD.get 0 rfl rfl rfl
      have g37 : a.eval (.tmp 37) = .bool true := hD.get 1 rfl rfl rfl
      exact y_pick_true rfl g33 ⟨g37, Kept.refl _ _⟩
    refine steps_cons ?_ ?_
    · refine Step.one rfl fun a w hR hout hD => ?_
      have g38 : a.eval (.tmp 38) = .bool true := hD.get 0 rfl rfl rfl
      exact y_assign rfl ⟨g38, Kept.refl _ _⟩
    exact steps_nil
  intro v wE hE hG
  have e6 : v 27 = .bool true := hG 27 (by simp)
  clear hG
  simp only [putAll, Act.put, List.setIfInBounds_toArray, List.set_cons_succ, List.set_cons_zero, Nat.reduceAdd, e6]
  have K5 := Lib.hid (K2.out.trans hE (fun _ _ x => x)); clear hE
  go_wp2
  go_ret
  exact ⟨rfl, K5.out.fin⟩
end Go.Proofs.Ytikblokigeabjaa
