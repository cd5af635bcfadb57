/- CrcTells' walk. -/
import Derived.Test.YtikblokigeabjaaLCTables
namespace Go.Proofs.Ytikblokigeabjaa
open Go.RowKit

set_option maxHeartbeats 1000000 in
set_option maxRecDepth 100000 in
theorem ctells_walk (poly at' s : Nat) (v : Value) (l : List Nat) (w : World) (hp : poly < 4294967296) (ha : at' < 256) (hs : s < 4294967296) (h : BytesArg w v l) :
    Calls Try.prog 3 #[.int .u32 (poly : Int), .int .u8 (at' : Int), .int .u32 (s : Int), v] w fun e w' => e = .returned (.bool true) ∧ Below w.heap.size w w' := by
  have HA := Lib.hid h
  obtain ⟨a, cap, rfl, h1, h2, -⟩ := h
  unfold maxLen at h2
  generalize hN : l.length = n at *
  have HN := Lib.hid hN; clear hN
  by_cases h500 : 500 < n
  · go_enter Try.func3, Try.ntmps3
    go_wp2_with (fail)
    refine (awake_any _).mono ?_
    rintro e w1 ⟨rfl, hk⟩
    have KA := Lib.hid hk; clear hk
    go_wp2
    go_ret
    exact ⟨rfl, KA.out.fin⟩
  have hd500 : decide (500 < (n : Int)) = false := by simp; omega
  obtain ⟨cs, z, hv, hzs, hone, hsz, hz, hat⟩ := tab_some poly
  have HV := Lib.hid hv; have HZS := Lib.hid hzs; have HO := Lib.hid hone; have HS := Lib.hid hsz; have HAt := Lib.hid hat; clear hv hzs hone hsz hat
  go_enter Try.func3, Try.ntmps3
  go_wp2_with (fail)
  refine (awake_any _).mono ?_
  rintro e w0 ⟨rfl, k0⟩
  have K0 := Lib.hid k0; clear k0
  go_wp2_with (fail)
  refine (make_any poly _ hp).mono ?_
  rw [HV.out]
  rintro e w1 ⟨rfl, k1⟩
  have K1 := Lib.hid (K0.out.trans k1 (fun _ _ x => x)); clear k1
  go_wp2_with (refine wpList_store_row rfl 26 (.tmp 10) (.tmp 17) rfl w1.heap.size z cs 26 rfl rfl (heap_alloc_new w1 _) HZS.out HS.out HO.out ?_)
  intro w2 t2 k2
  have T2 := Lib.hid ((HAt.out _ _).1 t2); have K2 := Lib.hid (K1.out.trans k2.laid (fun _ _ x => x)); clear t2 k2 hz K0 K1
  generalize w1.heap.size = tb at *
  go_wp2_with (fail)
  refine wp_region_said [some 18, some 19, some 20, some 21, some 22, some 23, some 24, some 25, some 26, some 27, some 28, some 29, some 30, some 31, some 32, some 33, some 34, some 35, some 36, some 37, some 38, some 39, some 40, some 41, some 42, some 43, some 44, some 45, some 46, some 47, some 48, some 8] [Pd.eq (.bool true), Pd.eq (.bool true), Pd.eq (.int .u8 (at' : Int)), Pd.eq (.pointer (some ⟨tb, at', none⟩)), Pd.eq (.int .u32 ((tab poly at' : Nat) : Int)), Pd.eq (.int .u32 (poly : Int)), Pd.eq (.int .u8 (at' : Int)), Pd.eq (.int .u32 (at' : Int)), Pd.eq (.int .u32 ((tab poly at' : Nat) : Int)), Pd.eq (.bool true), Pd.eq (.bool true), Pd.eq (.bool true), Pd.eq (tabV poly), Pd.eq (.int .u32 (s : Int)), Pd.bytes (l), Pd.eq (.int .u32 ((more poly s l : Nat) : Int)), Pd.eq (.int .u32 (poly : Int)), Pd.eq (.int .u32 (s : Int)), Pd.bytes (l), Pd.eq (.int .u32 ((more poly s l : Nat) : Int)), Pd.eq (.bool true), Pd.eq (.bool true), Pd.eq (.bool true), Pd.eq (tabV poly), Pd.bytes (l), Pd.eq (.int .u32 ((more poly 0 l : Nat) : Int)), Pd.eq (.int .u32 (poly : Int)), Pd.bytes (l), Pd.eq (.int .u32 ((more poly 0 l : Nat) : Int)), Pd.eq (.bool true), Pd.eq (.bool true), Pd.eq (.bool true)] (by kernel_rfl) (by kernel_rfl) ?_ ?_
  · refine steps_cons ?_ ?_
    · refine Step.one rfl fun a w hR hout hD => ?_
      exact y_move rfl ⟨by rw [hout 9 (by decide)]; exact rfl, Kept.refl _ _⟩
    refine steps_cons ?_ ?_
    · refine Step.one rfl fun a w hR hout hD => ?_
      have g18 : a.eval (.tmp 18) = .bool true := hD.get 0 rfl rfl rfl
      exact y_move rfl ⟨g18, Kept.refl _ _⟩
    refine steps_cons ?_ ?_
    · refine Step.when 1 true 19 rfl rfl fun a w hR hout hD => ?_
      have g19 : a.eval (.tmp 19) = .bool true := hD.get 0 rfl rfl rfl
      refine ⟨g19, ?_⟩
      exact y_move rfl ⟨by rw [hout 1 (by decide)]; exact rfl, Kept.refl _ _⟩
    refine steps_cons ?_ ?_
    · refine Step.when 1 true 19 rfl rfl fun a w hR hout hD => ?_
      have hR0 := hR
      have g20 : a.eval (.tmp 20) = .int .u8 (at' : Int) := hD.get 0 rfl rfl rfl
      have g19 : a.eval (.tmp 19) = .bool true := hD.get 1 rfl rfl rfl
      refine ⟨g19, ?_⟩
      exact y_idx rfl (by rw [hout 10 (by decide)]; rfl) g20 Try.underlying26 (ha) (by kernel_rfl) ⟨rfl, Kept.refl _ _⟩
    refine steps_cons ?_ ?_
    · refine Step.when 1 true 19 rfl rfl fun a w hR hout hD => ?_
      have hR0 := hR
      have g21 : a.eval (.tmp 21) = .pointer (some ⟨tb, at', none⟩) := hD.get 0 rfl rfl rfl
      have g19 : a.eval (.tmp 19) = .bool true := hD.get 1 rfl rfl rfl
      refine ⟨g19, ?_⟩
      exact y_ld rfl g21 ((T2.out.all hR0).cell ha) Try.underlying22 ⟨rfl, Kept.refl _ _⟩
    refine steps_cons ?_ ?_
    · refine Step.when 1 true 19 rfl rfl fun a w hR hout hD => ?_
      have g19 : a.eval (.tmp 19) = .bool true := hD.get 0 rfl rfl rfl
      refine ⟨g19, ?_⟩
      exact y_move rfl ⟨by rw [hout 0 (by decide)]; exact rfl, Kept.refl _ _⟩
    refine steps_cons ?_ ?_
    · refine Step.when 1 true 19 rfl rfl fun a w hR hout hD => ?_
      have g19 : a.eval (.tmp 19) = .bool true := hD.get 0 rfl rfl rfl
      refine ⟨g19, ?_⟩
      exact y_move rfl ⟨by rw [hout 1 (by decide)]; exact rfl, Kept.refl _ _⟩
    refine steps_cons ?_ ?_
    · refine Step.when 1 true 19 rfl rfl fun a w hR hout hD => ?_
      have hR0 := hR
      have g24 : a.eval (.tmp 24) = .int .u8 (at' : Int) := hD.get 0 rfl rfl rfl
      have g19 : a.eval (.tmp 19) = .bool true := hD.get 1 rfl rfl rfl
      refine ⟨g19, ?_⟩
      exact y_conv rfl g24 Try.underlying5 Try.underlying22 ⟨congrArg (Value.int _) (wrap_u32 at' (by omega)), Kept.refl _ _⟩
    refine steps_cons ?_ ?_
    · refine Step.when 1 true 19 rfl rfl fun a w hR hout hD => ?_
      have hR0 := hR
      have g23 : a.eval (.tmp 23) = .int .u32 (poly : Int) := hD.get 0 rfl rfl rfl
      have g25 : a.eval (.tmp 25) = .int .u32 (at' : Int) := hD.get 1 rfl rfl rfl
      have g19 : a.eval (.tmp 19) = .bool true := hD.get 2 rfl rfl rfl
      refine ⟨g19, ?_⟩
      exact y_call2 rfl rfl rfl (fun _ _ => by kernel_rfl) (by rw [g23, g25]; exact call_eq (call_kept (ref_step poly at' w (by omega) hp)))
    refine steps_cons ?_ ?_
    · refine Step.when 1 true 19 rfl rfl fun a w hR hout hD => ?_
      have g22 : a.eval (.tmp 22) = .int .u32 ((tab poly at' : Nat) : Int) := hD.get 0 rfl rfl rfl
      have g26 : a.eval (.tmp 26) = .int .u32 ((tab poly at' : Nat) : Int) := hD.get 1 rfl rfl rfl
      have g19 : a.eval (.tmp 19) = .bool true := hD.get 2 rfl rfl rfl
      refine ⟨g19, ?_⟩
      exact y_eql_int rfl g22 g26 ⟨by show Value.bool _ = _; exact congrArg Value.bool (by first | rfl | simp), Kept.refl _ _⟩
    refine steps_cons ?_ ?_
    · refine Step.one rfl fun a w hR hout hD => ?_
      have g19 : a.eval (.tmp 19) = .bool true := hD.get 0 rfl rfl rfl
      have g27 : a.eval (.tmp 27) = .bool true := hD.get 1 rfl rfl rfl
      exact y_pick_true rfl g19 ⟨g27, Kept.refl _ _⟩
    refine steps_cons ?_ ?_
    · refine Step.one rfl fun a w hR hout hD => ?_
      have g28 : a.eval (.tmp 28) = .bool true := hD.get 0 rfl rfl rfl
      exact y_move rfl ⟨g28, Kept.refl _ _⟩
    refine steps_cons ?_ ?_
    · refine Step.when 11 true 29 rfl rfl fun a w hR hout hD => ?_
      have hR0 := hR
      have g29 : a.eval (.tmp 29) = .bool true := hD.get 0 rfl rfl rfl
      refine ⟨g29, ?_⟩
      exact y_load_row rfl _ (by rw [hout 10 (by decide)]; rfl) _ _ (0, 0) _ (T2.out.all hR0) Try.underlying26 rfl (tab_size poly) ⟨rfl, Kept.refl _ _⟩
    refine steps_cons ?_ ?_
    · refine Step.when 11 true 29 rfl rfl fun a w hR hout hD => ?_
      have g29 : a.eval (.tmp 29) = .bool true := hD.get 0 rfl rfl rfl
      refine ⟨g29, ?_⟩
      exact y_move rfl ⟨by rw [hout 2 (by decide)]; exact rfl, Kept.refl _ _⟩
    refine steps_cons ?_ ?_
    · refine Step.when 11 true 29 rfl rfl fun a w hR hout hD => ?_
      have g29 : a.eval (.tmp 29) = .bool true := hD.get 0 rfl rfl rfl
      refine ⟨g29, ?_⟩
      exact y_move rfl ⟨by rw [hout 3 (by decide)]; exact HA.out.all (K2.out.trans hR (fun _ _ x => x)), Kept.refl _ _⟩
    refine steps_cons ?_ ?_
    · refine Step.when 11 true 29 rfl rfl fun a w hR hout hD => ?_
      have hR0 := hR
      have g30 : a.eval (.tmp 30) = tabV poly := hD.get 0 rfl rfl rfl
      have g31 : a.eval (.tmp 31) = .int .u32 (s : Int) := hD.get 1 rfl rfl rfl
      have g32 : BytesArg w (a.eval (.tmp 32)) (l) := hD.get 2 rfl rfl rfl
      have g29 : a.eval (.tmp 29) = .bool true := hD.get 3 rfl rfl rfl
      refine ⟨g29, ?_⟩
      exact y_call3 rfl rfl rfl (fun _ _ => by kernel_rfl) (by rw [g30, g31]; exact call_eq (more_any poly s _ l w hp hs g32))
    refine steps_cons ?_ ?_
    · refine Step.when 11 true 29 rfl rfl fun a w hR hout hD => ?_
      have g29 : a.eval (.tmp 29) = .bool true := hD.get 0 rfl rfl rfl
      refine ⟨g29, ?_⟩
      exact y_move rfl ⟨by rw [hout 0 (by decide)]; exact rfl, Kept.refl _ _⟩
    refine steps_cons ?_ ?_
    · refine Step.when 11 true 29 rfl rfl fun a w hR hout hD => ?_
      have g29 : a.eval (.tmp 29) = .bool true := hD.get 0 rfl rfl rfl
      refine ⟨g29, ?_⟩
      exact y_move rfl ⟨by rw [hout 2 (by decide)]; exact rfl, Kept.refl _ _⟩
    refine steps_cons ?_ ?_
    · refine Step.when 11 true 29 rfl rfl fun a w hR hout hD => ?_
      have g29 : a.eval (.tmp 29) = .bool true := hD.get 0 rfl rfl rfl
      refine ⟨g29, ?_⟩
      exact y_move rfl ⟨by rw [hout 3 (by decide)]; exact HA.out.all (K2.out.trans hR (fun _ _ x => x)), Kept.refl _ _⟩
    refine steps_cons ?_ ?_
    · refine Step.when 11 true 29 rfl rfl fun a w hR hout hD => ?_
      have hR0 := hR
      have g34 : a.eval (.tmp 34) = .int .u32 (poly : Int) := hD.get 0 rfl rfl rfl
      have g35 : a.eval (.tmp 35) = .int .u32 (s : Int) := hD.get 1 rfl rfl rfl
      have g36 : BytesArg w (a.eval (.tmp 36)) (l) := hD.get 2 rfl rfl rfl
      have g29 : a.eval (.tmp 29) = .bool true := hD.get 4 rfl rfl rfl
      refine ⟨g29, ?_⟩
      exact y_call3 rfl rfl rfl (fun _ _ => by kernel_rfl) (by rw [g34, g35]; exact call_eq (call_kept (ref_more poly s _ l w hp hs g36)))
    refine steps_cons ?_ ?_
    · refine Step.when 11 true 29 rfl rfl fun a w hR hout hD => ?_
      have g33 : a.eval (.tmp 33) = .int .u32 ((more poly s l : Nat) : Int) := hD.get 0 rfl rfl rfl
      have g37 : a.eval (.tmp 37) = .int .u32 ((more poly s l : Nat) : Int) := hD.get 1 rfl rfl rfl
      have g29 : a.eval (.tmp 29) = .bool true := hD.get 2 rfl rfl rfl
      refine ⟨g29, ?_⟩
      exact y_eql_int rfl g33 g37 ⟨by show Value.bool _ = _; exact congrArg Value.bool (by first | rfl | simp), Kept.refl _ _⟩
    refine steps_cons ?_ ?_
    · refine Step.one rfl fun a w hR hout hD => ?_
      have g29 : a.eval (.tmp 29) = .bool true := hD.get 0 rfl rfl rfl
      have g38 : a.eval (.tmp 38) = .bool true := hD.get 1 rfl rfl rfl
      exact y_pick_true rfl g29 ⟨g38, Kept.refl _ _⟩
    refine steps_cons ?_ ?_
    · refine Step.one rfl fun a w hR hout hD => ?_
      have g39 : a.eval (.tmp 39) = .bool true := hD.get 0 rfl rfl rfl
      exact y_move rfl ⟨g39, Kept.refl _ _⟩
    refine steps_cons ?_ ?_
    · refine Step.when 22 true 40 rfl rfl fun a w hR hout hD => ?_
      have hR0 := hR
      have g40 : a.eval (.tmp 40) = .bool true := hD.get 0 rfl rfl rfl
      refine ⟨g40, ?_⟩
      exact y_load_row rfl _ (by rw [hout 10 (by decide)]; rfl) _ _ (0, 0) _ (T2.out.all hR0) Try.underlying26 rfl (tab_size poly) ⟨rfl, Kept.refl _ _⟩
    refine steps_cons ?_ ?_
    · refine Step.when 22 true 40 rfl rfl fun a w hR hout hD => ?_
      have g40 : a.eval (.tmp 40) = .bool true := hD.get 0 rfl rfl rfl
      refine ⟨g40, ?_⟩
      exact y_move rfl ⟨by rw [hout 3 (by decide)]; exact HA.out.all (K2.out.trans hR (fun _ _ x => x)), Kept.refl _ _⟩
    refine steps_cons ?_ ?_
    · refine Step.when 22 true 40 rfl rfl fun a w hR hout hD => ?_
      have hR0 := hR
      have g41 : a.eval (.tmp 41) = tabV poly := hD.get 0 rfl rfl rfl
      have g42 : BytesArg w (a.eval (.tmp 42)) (l) := hD.get 1 rfl rfl rfl
      have g40 : a.eval (.tmp 40) = .bool true := hD.get 2 rfl rfl rfl
      refine ⟨g40, ?_⟩
      exact y_call2 rfl rfl rfl (fun _ _ => by kernel_rfl) (by rw [g41]; exact call_eq (sum_any poly _ l w hp g42))
    refine steps_cons ?_ ?_
    · refine Step.when 22 true 40 rfl rfl fun a w hR hout hD => ?_
      have g40 : a.eval (.tmp 40) = .bool true := hD.get 0 rfl rfl rfl
      refine ⟨g40, ?_⟩
      exact y_move rfl ⟨by rw [hout 0 (by decide)]; exact rfl, Kept.refl _ _⟩
    refine steps_cons ?_ ?_
    · refine Step.when 22 true 40 rfl rfl fun a w hR hout hD => ?_
      have g40 : a.eval (.tmp 40) = .bool true := hD.get 0 rfl rfl rfl
      refine ⟨g40, ?_⟩
      exact y_move rfl ⟨by rw [hout 3 (by decide)]; exact HA.out.all (K2.out.trans hR (fun _ _ x => x)), Kept.refl _ _⟩
    refine steps_cons ?_ ?_
    · refine Step.when 22 true 40 rfl rfl fun a w hR hout hD => ?_
      have hR0 := hR
      have g44 : a.eval (.tmp 44) = .int .u32 (poly : Int) := hD.get 0 rfl rfl rfl
      have g45 : BytesArg w (a.eval (.tmp 45)) (l) := hD.get 1 rfl rfl rfl
      have g40 : a.eval (.tmp 40) = .bool true := hD.get 3 rfl rfl rfl
      refine ⟨g40, ?_⟩
      exact y_call3 rfl rfl rfl (fun _ _ => by kernel_rfl) (by rw [g44]; exact call_eq (call_kept (ref_more poly 0 _ l w hp (by omega) g45)))
    refine steps_cons ?_ ?_
    · refine Step.when 22 true 40 rfl rfl fun a w hR hout hD => ?_
      have g43 : a.eval (.tmp 43) = .int .u32 ((more poly 0 l : Nat) : Int) := hD.get 0 rfl rfl rfl
      have g46 : a.eval (.tmp 46) = .int .u32 ((more poly 0 l : Nat) : Int) := hD.get 1 rfl rfl rfl
      have g40 : a.eval (.tmp 40) = .bool true := hD.get 2 rfl rfl rfl
      refine ⟨g40, ?_⟩
      exact y_eql_int rfl g43 g46 ⟨by show Value.bool _ = _; exact congrArg Value.bool (by first | rfl | simp), Kept.refl _ _⟩
    refine steps_cons ?_ ?_
    · refine Step.one rfl fun a w hR hout hD => ?_
      have g40 : a.eval (.tmp 40) = .bool true := hD.get 0 rfl rfl rfl
      have g47 : a.eval (.tmp 47) = .bool true := hD.get 1 rfl rfl rfl
      exact y_pick_true rfl g40 ⟨g47, Kept.refl _ _⟩
    refine steps_cons ?_ ?_
    · refine Step.one rfl fun a w hR hout hD => ?_
      have g48 : a.eval (.tmp 48) = .bool true := hD.get 0 rfl rfl rfl
      exact y_assign rfl ⟨g48, Kept.refl _ _⟩
    exact steps_nil
  intro v wE hE hG
  have e8 : v 31 = .bool true := hG 31 (by simp)
  clear hG
  simp only [putAll, Act.put, List.setIfInBounds_toArray, List.set_cons_succ, List.set_cons_zero, Nat.reduceAdd, e8]
  have K5 := Lib.hid (K2.out.trans hE (fun _ _ x => x)); clear hE
  go_wp2
  go_ret
  exact ⟨rfl, K5.out.fin⟩
end Go.Proofs.Ytikblokigeabjaa
