/- CrcGoes' walk. -/
import Derived.Test.YtikblokigeabjaaLCTables
namespace Go.Proofs.Ytikblokigeabjaa
open Go.RowKit

set_option maxHeartbeats 1000000 in
set_option maxRecDepth 100000 in
theorem cgoes_walk (poly s : Nat) (v1 v2 : Value) (l1 l2 : List Nat) (w : World) (hp : poly < 4294967296) (hs : s < 4294967296) (h : BytesArg w v1 l1) (h' : BytesArg w v2 l2) :
    Calls Try.prog 4 #[.int .u32 (poly : Int), .int .u32 (s : Int), v1, v2] w fun e w' => e = .returned (.bool true) ∧ Below w.heap.size w w' := by
  have HA := Lib.hid h
  have HB := Lib.hid h'
  obtain ⟨a1, cap1, rfl, h1, h2, -⟩ := h
  obtain ⟨a2, cap2, rfl, h3, h4, -⟩ := h'
  unfold maxLen at h2 h4
  generalize hN : l1.length = n1 at *
  generalize hM : l2.length = n2 at *
  have HN := Lib.hid hN; have HM := Lib.hid hM; clear hN hM
  by_cases h500 : 500 < n1
  · go_enter Try.func4, Try.ntmps4
    go_wp2_with (fail)
    refine (awake_any _).mono ?_
    rintro e w1 ⟨rfl, hk⟩
    have KA := Lib.hid hk; clear hk
    go_wp2
    go_ret
    exact ⟨rfl, KA.out.fin⟩
  have hd500 : decide (500 < (n1 : Int)) = false := by simp; omega
  by_cases h501 : 500 < n2
  · go_enter Try.func4, Try.ntmps4
    go_wp2_with (fail)
    refine (awake_any _).mono ?_
    rintro e w1 ⟨rfl, hk⟩
    have KA := Lib.hid hk; clear hk
    go_wp2
    go_ret
    exact ⟨rfl, KA.out.fin⟩
  have hd501 : decide (500 < (n2 : Int)) = false := by simp; omega
  have hl : l1.length + l2.length ≤ 1000 := by rw [HN.out, HM.out]; omega
  have HL := Lib.hid hl; clear hl
  obtain ⟨cs, z, hv, hzs, hone, hsz, hz, hat⟩ := tab_some poly
  have HV := Lib.hid hv; have HZS := Lib.hid hzs; have HO := Lib.hid hone; have HS := Lib.hid hsz; have HAt := Lib.hid hat; clear hv hzs hone hsz hat
  go_enter Try.func4, Try.ntmps4
  go_wp2_with (fail)
  refine (awake_any _).mono ?_
  rintro e w0 ⟨rfl, k0⟩
  have K0 := Lib.hid k0; clear k0
  go_wp2_with (fail)
  refine (make_any poly _ hp).mono ?_
  rw [HV.out]
  rintro e w1 ⟨rfl, k1⟩
  have K1 := Lib.hid (K0.out.trans k1 (fun _ _ x => x)); clear k1
  go_wp2_with (refine wpList_store_row rfl 26 (.tmp 10) (.tmp 22) rfl w1.heap.size z cs 26 rfl rfl (heap_alloc_new w1 _) HZS.out HS.out HO.out ?_)
  intro w2 t2 k2
  have T2 := Lib.hid ((HAt.out _ _).1 t2); have K2 := Lib.hid (K1.out.trans k2.laid (fun _ _ x => x)); clear t2 k2 hz K0 K1
  generalize w1.heap.size = tb at *
  clear h1 h2 h3 h4 h500 h501 hd500 hd501
  go_wp2_with (fail)
  refine wp_region_own [some 23, some 24, some 25, some 26, some 27, some 28, some 29, some 30, some 31, some 32, some 33, some 34, some 35, some 36, some 37, some 38, some 39, some 40, some 41, some 8] (fun _ => False) (0) (.slice none 0 0) ([]) [15, 13, 11] (fun i => ([[], [], [], [], [], [], [], [], [], [], [], [], [], [] ++ l1, [], [] ++ l1 ++ l2] : List (List Nat)).getD i []) (Said [Pd.eq (.bool true), Pd.eq (.bool true), Pd.eq (tabV poly), Pd.eq (tabV poly), Pd.eq (.int .u32 (s : Int)), Pd.bytes (l1), Pd.eq (.int .u32 ((more poly s l1 : Nat) : Int)), Pd.bytes (l2), Pd.eq (.int .u32 ((more poly (more poly s l1) l2 : Nat) : Int)), Pd.eq (tabV poly), Pd.eq (.int .u32 (s : Int)), Pd.any, Pd.bytes (l1), Pd.any, Pd.bytes (l2), Pd.any, Pd.eq (.int .u32 ((more poly s ([] ++ l1 ++ l2) : Nat) : Int)), Pd.eq (.bool true), Pd.eq (.bool true), Pd.eq (.bool true)]) (by kernel_rfl) (by kernel_rfl) (Row.nil _ _) (fun k h => by cases h) (fun k h => h.elim) ?_ (fun x hx => by cases hx; decide) ?_
  · refine stepsJ_cons ?_ ?_
    · refine StepJ.one (by decide) rfl fun S a w hlt hR hout hlate hD hrow => ?_
      exact y_move rfl ⟨fun w'' k => by have hR := hR w'' k; rw [hout 9 (by decide)]; exact rfl, Kept.refl _ _⟩
    refine stepsJ_cons ?_ ?_
    · refine StepJ.one (by decide) rfl fun S a w hlt hR hout hlate hD hrow => ?_
      have q23 : ∀ w', Kept S w w' → a.eval (.tmp 23) = .bool true := hD.get 0 rfl rfl rfl
      have g23 := q23 w (Kept.refl _ _)
      exact y_move rfl ⟨q23, Kept.refl _ _⟩
    refine stepsJ_cons ?_ ?_
    · refine StepJ.when (by decide) 1 true 24 rfl rfl fun S a w hlt hR hout hlate hD hrow => ?_
      have hR0 := hR w (Kept.refl _ _)
      have q24 : ∀ w', Kept S w w' → a.eval (.tmp 24) = .bool true := hD.get 0 rfl rfl rfl
      have g24 := q24 w (Kept.refl _ _)
      exact ⟨g24, y_load_row rfl _ (by rw [hout 10 (by decide)]; rfl) _ _ (0, 0) _ (T2.out.all hR0) Try.underlying26 rfl (tab_size poly) ⟨fun _ _ => rfl, Kept.refl _ _⟩⟩
    refine stepsJ_cons ?_ ?_
    · refine StepJ.when (by decide) 1 true 24 rfl rfl fun S a w hlt hR hout hlate hD hrow => ?_
      have hR0 := hR w (Kept.refl _ _)
      have q24 : ∀ w', Kept S w w' → a.eval (.tmp 24) = .bool true := hD.get 0 rfl rfl rfl
      have g24 := q24 w (Kept.refl _ _)
      exact ⟨g24, y_load_row rfl _ (by rw [hout 10 (by decide)]; rfl) _ _ (0, 0) _ (T2.out.all hR0) Try.underlying26 rfl (tab_size poly) ⟨fun _ _ => rfl, Kept.refl _ _⟩⟩
    refine stepsJ_cons ?_ ?_
    · refine StepJ.when (by decide) 1 true 24 rfl rfl fun S a w hlt hR hout hlate hD hrow => ?_
      have q24 : ∀ w', Kept S w w' → a.eval (.tmp 24) = .bool true := hD.get 0 rfl rfl rfl
      have g24 := q24 w (Kept.refl _ _)
      exact ⟨g24, y_move rfl ⟨fun w'' k => by have hR := hR w'' k; rw [hout 1 (by decide)]; exact rfl, Kept.refl _ _⟩⟩
    refine stepsJ_cons ?_ ?_
    · refine StepJ.when (by decide) 1 true 24 rfl rfl fun S a w hlt hR hout hlate hD hrow => ?_
      have q24 : ∀ w', Kept S w w' → a.eval (.tmp 24) = .bool true := hD.get 0 rfl rfl rfl
      have g24 := q24 w (Kept.refl _ _)
      exact ⟨g24, y_move rfl ⟨fun w'' k => by have hR := hR w'' k; rw [hout 2 (by decide)]; exact HA.out.all (K2.out.trans hR (fun _ _ x => x)), Kept.refl _ _⟩⟩
    refine stepsJ_cons ?_ ?_
    · refine StepJ.when (by decide) 1 true 24 rfl rfl fun S a w hlt hR hout hlate hD hrow => ?_
      have hR0 := hR w (Kept.refl _ _)
      have q26 : ∀ w', Kept S w w' → a.eval (.tmp 26) = tabV poly := hD.get 0 rfl rfl rfl
      have g26 := q26 w (Kept.refl _ _)
      have q27 : ∀ w', Kept S w w' → a.eval (.tmp 27) = .int .u32 (s : Int) := hD.get 1 rfl rfl rfl
      have g27 := q27 w (Kept.refl _ _)
      have q28 : ∀ w', Kept S w w' → BytesArg w' (a.eval (.tmp 28)) (l1) := hD.get 2 rfl rfl rfl
      have g28 := q28 w (Kept.refl _ _)
      have q24 : ∀ w', Kept S w w' → a.eval (.tmp 24) = .bool true := hD.get 3 rfl rfl rfl
      have g24 := q24 w (Kept.refl _ _)
      exact ⟨g24, y_call3 rfl rfl rfl (fun _ _ => by kernel_rfl) (by rw [g26, g27]; exact call_eqJ (more_any poly s _ l1 w hp hs g28))⟩
    refine stepsJ_cons ?_ ?_
    · refine StepJ.when (by decide) 1 true 24 rfl rfl fun S a w hlt hR hout hlate hD hrow => ?_
      have q24 : ∀ w', Kept S w w' → a.eval (.tmp 24) = .bool true := hD.get 0 rfl rfl rfl
      have g24 := q24 w (Kept.refl _ _)
      exact ⟨g24, y_move rfl ⟨fun w'' k => by have hR := hR w'' k; rw [hout 3 (by decide)]; exact HB.out.all (K2.out.trans hR (fun _ _ x => x)), Kept.refl _ _⟩⟩
    refine stepsJ_cons ?_ ?_
    · refine StepJ.when (by decide) 1 true 24 rfl rfl fun S a w hlt hR hout hlate hD hrow => ?_
      have hR0 := hR w (Kept.refl _ _)
      have q25 : ∀ w', Kept S w w' → a.eval (.tmp 25) = tabV poly := hD.get 0 rfl rfl rfl
      have g25 := q25 w (Kept.refl _ _)
      have q29 : ∀ w', Kept S w w' → a.eval (.tmp 29) = .int .u32 ((more poly s l1 : Nat) : Int) := hD.get 1 rfl rfl rfl
      have g29 := q29 w (Kept.refl _ _)
      have q30 : ∀ w', Kept S w w' → BytesArg w' (a.eval (.tmp 30)) (l2) := hD.get 2 rfl rfl rfl
      have g30 := q30 w (Kept.refl _ _)
      have q24 : ∀ w', Kept S w w' → a.eval (.tmp 24) = .bool true := hD.get 4 rfl rfl rfl
      have g24 := q24 w (Kept.refl _ _)
      exact ⟨g24, y_call3 rfl rfl rfl (fun _ _ => by kernel_rfl) (by rw [g25, g29]; exact call_eqJ (more_any poly (more poly s l1) _ l2 w hp (more_lt poly s l1 hp hs HA.out.lt256) g30))⟩
    refine stepsJ_cons ?_ ?_
    · refine StepJ.when (by decide) 1 true 24 rfl rfl fun S a w hlt hR hout hlate hD hrow => ?_
      have hR0 := hR w (Kept.refl _ _)
      have q24 : ∀ w', Kept S w w' → a.eval (.tmp 24) = .bool true := hD.get 0 rfl rfl rfl
      have g24 := q24 w (Kept.refl _ _)
      exact ⟨g24, y_load_row rfl _ (by rw [hout 10 (by decide)]; rfl) _ _ (0, 0) _ (T2.out.all hR0) Try.underlying26 rfl (tab_size poly) ⟨fun _ _ => rfl, Kept.refl _ _⟩⟩
    refine stepsJ_cons ?_ ?_
    · refine StepJ.when (by decide) 1 true 24 rfl rfl fun S a w hlt hR hout hlate hD hrow => ?_
      have q24 : ∀ w', Kept S w w' → a.eval (.tmp 24) = .bool true := hD.get 0 rfl rfl rfl
      have g24 := q24 w (Kept.refl _ _)
      exact ⟨g24, y_move rfl ⟨fun w'' k => by have hR := hR w'' k; rw [hout 1 (by decide)]; exact rfl, Kept.refl _ _⟩⟩
    refine stepsJ_cons ?_ ?_
    · refine StepJ.own [15, 13] [] rfl (by decide) (fun x hx => by cases hx) (fun _ _ => trivial) fun S a w hlt hR hout hlate hD p lp hpr hp => ?_
      have q24 : ∀ w', Kept S w w' → a.eval (.tmp 24) = .bool true := hD.get 0 rfl rfl rfl
      have g24 := q24 w (Kept.refl _ _)
      exact ⟨goes_of rfl rfl g24, y_val (by simp [execOp, go_sem]; rfl) ⟨Row.of_new (l := []) (heap_alloc_new w _) (Nat.zero_le _) (by decide) (by simp), ((Kept.refl _ _).alloc _), .inr fun g hg => by cases hg; exact Nat.le_refl _⟩⟩
    refine stepsJ_cons ?_ ?_
    · refine StepJ.when (by decide) 1 true 24 rfl rfl fun S a w hlt hR hout hlate hD hrow => ?_
      have q24 : ∀ w', Kept S w w' → a.eval (.tmp 24) = .bool true := hD.get 0 rfl rfl rfl
      have g24 := q24 w (Kept.refl _ _)
      exact ⟨g24, y_move rfl ⟨fun w'' k => by have hR := hR w'' k; rw [hout 2 (by decide)]; exact HA.out.all (K2.out.trans hR (fun _ _ x => x)), Kept.refl _ _⟩⟩
    refine stepsJ_cons ?_ ?_
    · refine StepJ.own [15] [11] rfl (by decide) (fun x hx => by cases hx; exact ⟨_, List.mem_of_getElem? (i := 0) rfl, rfl, rfl, _, rfl⟩) (fun _ _ => trivial) fun S a w hlt hR hout hlate hD p lp hpr hp => ?_
      have q35 : ∀ w', Kept S w w' → BytesArg w' (a.eval (.tmp 35)) (l1) := hD.get 1 rfl rfl rfl
      have g35 := q35 w (Kept.refl _ _)
      have q24 : ∀ w', Kept S w w' → a.eval (.tmp 24) = .bool true := hD.get 3 rfl rfl rfl
      have g24 := q24 w (Kept.refl _ _)
      have e1 := hp.2 34 rfl; have e2 := hp.1; subst e1; rw [e2] at hpr; exact ⟨goes_of rfl rfl g24, y_append rfl rfl rfl rfl hpr g35 (by simp; have := HL.out; omega) (Nat.zero_le _)⟩
    refine stepsJ_cons ?_ ?_
    · refine StepJ.when (by decide) 1 true 24 rfl rfl fun S a w hlt hR hout hlate hD hrow => ?_
      have q24 : ∀ w', Kept S w w' → a.eval (.tmp 24) = .bool true := hD.get 0 rfl rfl rfl
      have g24 := q24 w (Kept.refl _ _)
      exact ⟨g24, y_move rfl ⟨fun w'' k => by have hR := hR w'' k; rw [hout 3 (by decide)]; exact HB.out.all (K2.out.trans hR (fun _ _ x => x)), Kept.refl _ _⟩⟩
    refine stepsJ_cons ?_ ?_
    · refine StepJ.own [] [13, 11] rfl (by decide) (fun x hx => by cases hx; exact ⟨_, List.mem_of_getElem? (i := 0) rfl, rfl, rfl, _, rfl⟩) (fun _ _ => trivial) fun S a w hlt hR hout hlate hD p lp hpr hp => ?_
      have q37 : ∀ w', Kept S w w' → BytesArg w' (a.eval (.tmp 37)) (l2) := hD.get 1 rfl rfl rfl
      have g37 := q37 w (Kept.refl _ _)
      have q24 : ∀ w', Kept S w w' → a.eval (.tmp 24) = .bool true := hD.get 3 rfl rfl rfl
      have g24 := q24 w (Kept.refl _ _)
      have e1 := hp.2 36 rfl; have e2 := hp.1; subst e1; rw [e2] at hpr; exact ⟨goes_of rfl rfl g24, y_append rfl rfl rfl rfl hpr g37 (by simp; have := HL.out; omega) (Nat.zero_le _)⟩
    refine stepsJ_cons ?_ ?_
    · refine StepJ.when (by decide) 1 true 24 rfl rfl fun S a w hlt hR hout hlate hD hrow => ?_
      have hR0 := hR w (Kept.refl _ _)
      have q32 : ∀ w', Kept S w w' → a.eval (.tmp 32) = tabV poly := hD.get 0 rfl rfl rfl
      have g32 := q32 w (Kept.refl _ _)
      have q33 : ∀ w', Kept S w w' → a.eval (.tmp 33) = .int .u32 (s : Int) := hD.get 1 rfl rfl rfl
      have g33 := q33 w (Kept.refl _ _)
      have g38 := (hrow 15 rfl _ (List.mem_of_getElem? (i := 2) rfl) rfl rfl 38 rfl).bytes
      have q24 : ∀ w', Kept S w w' → a.eval (.tmp 24) = .bool true := hD.get 4 rfl rfl rfl
      have g24 := q24 w (Kept.refl _ _)
      exact ⟨g24, y_call3 rfl rfl rfl (fun _ _ => by kernel_rfl) (by rw [g32, g33]; exact call_eqJ (more_any poly s _ _ w hp hs g38))⟩
    refine stepsJ_cons ?_ ?_
    · refine StepJ.when (by decide) 1 true 24 rfl rfl fun S a w hlt hR hout hlate hD hrow => ?_
      have q31 : ∀ w', Kept S w w' → a.eval (.tmp 31) = .int .u32 ((more poly (more poly s l1) l2 : Nat) : Int) := hD.get 0 rfl rfl rfl
      have g31 := q31 w (Kept.refl _ _)
      have q39 : ∀ w', Kept S w w' → a.eval (.tmp 39) = .int .u32 ((more poly s ([] ++ l1 ++ l2) : Nat) : Int) := hD.get 1 rfl rfl rfl
      have g39 := q39 w (Kept.refl _ _)
      have q24 : ∀ w', Kept S w w' → a.eval (.tmp 24) = .bool true := hD.get 2 rfl rfl rfl
      have g24 := q24 w (Kept.refl _ _)
      exact ⟨g24, y_eql_int rfl g31 g39 ⟨fun _ _ => by show Value.bool _ = _; exact congrArg Value.bool (eq_true (by rw [List.nil_append, more_append])), Kept.refl _ _⟩⟩
    refine stepsJ_cons ?_ ?_
    · refine StepJ.one (by decide) rfl fun S a w hlt hR hout hlate hD hrow => ?_
      have q24 : ∀ w', Kept S w w' → a.eval (.tmp 24) = .bool true := hD.get 0 rfl rfl rfl
      have g24 := q24 w (Kept.refl _ _)
      have q40 : ∀ w', Kept S w w' → a.eval (.tmp 40) = .bool true := hD.get 1 rfl rfl rfl
      have g40 := q40 w (Kept.refl _ _)
      exact y_pick_true rfl g24 ⟨q40, Kept.refl _ _⟩
    refine stepsJ_cons ?_ ?_
    · refine StepJ.one (by decide) rfl fun S a w hlt hR hout hlate hD hrow => ?_
      have q41 : ∀ w', Kept S w w' → a.eval (.tmp 41) = .bool true := hD.get 0 rfl rfl rfl
      have g41 := q41 w (Kept.refl _ _)
      exact y_assign rfl ⟨q41, Kept.refl _ _⟩
    exact stepsJ_nil
  intro v wE hE hG hrow
  have r38 := hrow 15 rfl
  have e8 : v 19 = .bool true := hG 19 (by simp)
  clear hG hrow
  simp only [putAll, Act.put, List.setIfInBounds_toArray, List.set_cons_succ, List.set_cons_zero, Nat.reduceAdd, e8]
  have K5 := Lib.hid (K2.out.trans hE (fun _ _ x => x)); clear hE
  go_wp2
  go_ret
  exact ⟨rfl, K5.out.fin⟩
end Go.Proofs.Ytikblokigeabjaa
