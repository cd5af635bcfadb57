/- CrcEnds' walk. -/
import Derived.Test.YtikblokigeabjaaLCTables
namespace Go.Proofs.Ytikblokigeabjaa
open Go.RowKit

/-- A number's four bytes, the lowest first. -/
def four (n : Nat) : List Nat := [n % 256, n / 2 ^ 8 % 256, n / 2 ^ 16 % 256, n / 2 ^ 24 % 256]

theorem four_lt (n : Nat) : ∀ x ∈ four n, x < 256 := by
  intro x hx
  unfold four at hx
  simp only [List.mem_cons, List.not_mem_nil, or_false] at hx
  omega

theorem low_four (n : Nat) (h : n < 2 ^ 32) : low (four n) = n := by
  have e : ∀ m, (m % 256) ^^^ (m / 256 * 2 ^ 8) = m := fun m => by rw [Nat.xor_comm]; exact (split256 m).symm
  have e3 : low [n / 2 ^ 24 % 256] = n / 2 ^ 24 := by
    show n / 2 ^ 24 % 256 ^^^ (0 * 2 ^ 8) = _
    rw [Nat.zero_mul, Nat.xor_zero]; omega
  have e2 : low [n / 2 ^ 16 % 256, n / 2 ^ 24 % 256] = n / 2 ^ 16 := by
    show n / 2 ^ 16 % 256 ^^^ (low [n / 2 ^ 24 % 256] * 2 ^ 8) = _
    rw [e3, show n / 2 ^ 24 = n / 2 ^ 16 / 256 by omega]; exact e _
  have e1 : low [n / 2 ^ 8 % 256, n / 2 ^ 16 % 256, n / 2 ^ 24 % 256] = n / 2 ^ 8 := by
    show n / 2 ^ 8 % 256 ^^^ (low [n / 2 ^ 16 % 256, n / 2 ^ 24 % 256] * 2 ^ 8) = _
    rw [e2, show n / 2 ^ 16 = n / 2 ^ 8 / 256 by omega]; exact e _
  show n % 256 ^^^ (low [n / 2 ^ 8 % 256, n / 2 ^ 16 % 256, n / 2 ^ 24 % 256] * 2 ^ 8) = _
  rw [e1, show n / 2 ^ 8 = n / 256 by omega]; exact e _

/-- Bytes with their own sum behind. -/
theorem more_ends (poly : Nat) (l : List Nat) (hp : poly < 2 ^ 32) (hl : ∀ x ∈ l, x < 256) : more poly 0 (l ++ four (more poly 0 l)) = more poly 0 (List.replicate 4 0) := by
  have hm := more_lt poly 0 l hp (by decide) hl
  have hlow := low_four _ hm
  have e1 : more poly 0 (l ++ four (more poly 0 l)) = run poly (run poly ones l) (four (more poly 0 l)) ^^^ ones := by
    show run poly (0 ^^^ ones) (l ++ four (more poly 0 l)) ^^^ ones = _
    rw [Nat.zero_xor, run_append]
  have e2 : more poly 0 (List.replicate 4 0) = run poly ones (List.replicate 4 0) ^^^ ones := by
    show run poly (0 ^^^ ones) _ ^^^ ones = _
    rw [Nat.zero_xor]
  have e3 : run poly ones l ^^^ more poly 0 l = ones := by
    show run poly ones l ^^^ (run poly (0 ^^^ ones) l ^^^ ones) = ones
    rw [Nat.zero_xor, ← Nat.xor_assoc, Nat.xor_self, Nat.zero_xor]
  rw [e1, e2, run_low poly (four _) _ (four_lt _), hlow, run_zeros, e3]
  rfl

theorem more_one_inj (poly a c x : Nat) (hp : poly < 2 ^ 32) (ht : poly.testBit 31 = true) (ha : a < 2 ^ 32) (hc : c < 2 ^ 32) (hx : x < 256) (h : more poly a [x] = more poly c [x]) : a = c := by
  have h1 : upd poly (a ^^^ ones) x = upd poly (c ^^^ ones) x := by
    have e : ∀ n, upd poly n x = run poly n [x] := fun n => rfl
    rw [e, e, ← xor_twice (run poly (a ^^^ ones) [x]) ones, ← xor_twice (run poly (c ^^^ ones) [x]) ones]
    exact congrArg (· ^^^ ones) h
  have h2 := upd_inj poly hp ht _ _ x (ones_not a ha) (ones_not c hc) hx h1
  rw [← xor_twice a ones, ← xor_twice c ones, h2]

theorem ieee_top : ieee.testBit 31 = true := by decide

theorem shr_nat (s k : Nat) : (s : Int) / 2 ^ k = ((s / 2 ^ k : Nat) : Int) := by simp

theorem eq_decide (a b : Nat) : (((a : Nat) : Int) == ((b : Nat) : Int)) = decide (a = b) := by
  by_cases h : a = b
  · simp [h]
  · have : ¬ ((a : Int) = (b : Int)) := by omega
    simp [h, this]

set_option maxHeartbeats 1000000 in
set_option maxRecDepth 100000 in
theorem cends_walk (v : Value) (l : List Nat) (A C x : Nat) (w : World) (h : BytesArg w v l) (hA : A < 4294967296) (hC : C < 4294967296) (hx : x < 256) :
    Calls Try.prog 7 #[v, .int .u32 (A : Int), .int .u32 (C : Int), .int .u8 (x : Int)] w fun e w' => e = .returned (.bool true) ∧ Below w.heap.size w w' := by
  have HA := Lib.hid h
  obtain ⟨a, cap, rfl, h1, h2, -⟩ := h
  unfold maxLen at h2
  generalize hN : l.length = n at *
  have HN := Lib.hid hN; clear hN
  by_cases h300 : 300 < n
  · go_enter Try.func7, Try.ntmps7
    go_wp2_with (fail)
    refine (awake_any _).mono ?_
    rintro e w1 ⟨rfl, hk⟩
    have KA := Lib.hid hk; clear hk
    go_wp2
    go_ret
    exact ⟨rfl, KA.out.fin⟩
  have hd300 : decide (300 < (n : Int)) = false := by simp; omega
  have hl : l.length ≤ 300 := by rw [HN.out]; omega
  have HL := Lib.hid hl; clear hl
  obtain ⟨cs, z, hv, hzs, hone, hsz, hz, hat⟩ := tab_some ieee
  have HV := Lib.hid hv; have HZS := Lib.hid hzs; have HO := Lib.hid hone; have HS := Lib.hid hsz; have HAt := Lib.hid hat; clear hv hzs hone hsz hat
  go_enter Try.func7, Try.ntmps7
  go_wp2_with (fail)
  refine (awake_any _).mono ?_
  rintro e w0 ⟨rfl, k0⟩
  have K0 := Lib.hid k0; clear k0
  go_wp2_with (fail)
  refine (make_any ieee _ ieee_lt).mono ?_
  rw [HV.out]
  rintro e w1 ⟨rfl, k1⟩
  have K1 := Lib.hid (K0.out.trans k1 (fun _ _ x => x)); clear k1
  go_wp2_with (refine wpList_store_row rfl 26 (.tmp 10) (.tmp 18) rfl w1.heap.size z cs 26 rfl rfl (heap_alloc_new w1 _) HZS.out HS.out HO.out ?_)
  intro w2 t2 k2
  have T2 := Lib.hid ((HAt.out _ _).1 t2); have TC := Lib.hid t2; have K2 := Lib.hid (K1.out.trans k2.laid (fun _ _ x => x)); clear t2 k2 hz K0 K1
  generalize w1.heap.size = tb at *
  clear h1 h2 h300 hd300
  go_wp2_with (refine wpList_load_row rfl 26 (.tmp 10) rfl tb rfl cs 26 (0, 0) _ TC.out Try.underlying26 rfl HS.out ?_)
  have c := sum_any ieee _ l w2 ieee_lt (HA.out.all K2.out)
  rw [HV.out] at c
  refine c.mono ?_
  rintro e w3 ⟨rfl, k3⟩
  have T3 := Lib.hid (T2.out.all k3); have K3 := Lib.hid (K2.out.trans k3 (fun _ _ x => x)); clear k3 T2 K2 TC c
  have hE0 := more_ends ieee l ieee_lt HA.out.lt256
  have HE := Lib.hid hE0; clear hE0
  have hSl := more_lt ieee 0 l ieee_lt (by decide) HA.out.lt256
  generalize more ieee 0 l = sm at *
  go_wp2_with (fail)
  refine wp_region_own [some 22, some 23, some 24, some 25, some 26, some 27, some 28, some 29, some 30, some 31, some 32, some 33, some 34, some 35, some 36, some 37, some 38, some 39, some 40, some 41, some 42, some 43, some 12] (fun _ => False) (0) (.slice none 0 0) ([]) [16, 3, 1] (fun i => ([[], [], [], [] ++ l, [], [], [], [], [], [], [], [], [], [], [], [], [] ++ l ++ [sm % 256, sm / 2 ^ 8 % 256, sm / 2 ^ 16 % 256, sm / 2 ^ 24 % 256]] : List (List Nat)).getD i []) (Said [Pd.eq (tabV ieee), Pd.any, Pd.bytes (l), Pd.any, Pd.eq (.int .u32 (sm : Int)), Pd.eq (.int .u8 ((sm % 256 : Nat) : Int)), Pd.eq (.int .u32 (sm : Int)), Pd.eq (.int .u32 ((sm / 2 ^ 8 : Nat) : Int)), Pd.eq (.int .u8 ((sm / 2 ^ 8 % 256 : Nat) : Int)), Pd.eq (.int .u32 (sm : Int)), Pd.eq (.int .u32 ((sm / 2 ^ 16 : Nat) : Int)), Pd.eq (.int .u8 ((sm / 2 ^ 16 % 256 : Nat) : Int)), Pd.eq (.int .u32 (sm : Int)), Pd.eq (.int .u32 ((sm / 2 ^ 24 : Nat) : Int)), Pd.eq (.int .u8 ((sm / 2 ^ 24 % 256 : Nat) : Int)), Pd.bytes ([sm % 256, sm / 2 ^ 8 % 256, sm / 2 ^ 16 % 256, sm / 2 ^ 24 % 256]), Pd.any, Pd.eq (.int .u32 ((more ieee 0 ([] ++ l ++ four sm) : Nat) : Int)), Pd.eq (tabV ieee), Pd.bytes (List.replicate 4 0), Pd.eq (.int .u32 ((more ieee 0 (List.replicate 4 0) : Nat) : Int)), Pd.eq (.bool true), Pd.eq (.bool true)]) (by kernel_rfl) (by kernel_rfl) (Row.nil _ _) (fun k h => by cases h) (fun k h => h.elim) ?_ (fun x hx => by cases hx; decide) ?_
  · refine stepsJ_cons ?_ ?_
    · refine StepJ.one (by decide) rfl fun S a w hlt hR hout hlate hD hrow => ?_
      have hR0 := hR w (Kept.refl _ _)
      exact y_load_row rfl _ (by rw [hout 10 (by decide)]; rfl) _ _ (0, 0) _ (T3.out.all hR0) Try.underlying26 rfl (tab_size ieee) ⟨fun _ _ => rfl, Kept.refl _ _⟩
    refine stepsJ_cons ?_ ?_
    · refine StepJ.own [16, 3] [] rfl (by decide) (fun x hx => by cases hx) (fun _ _ => trivial) fun S a w hlt hR hout hlate hD p lp hpr hp => ?_
      exact ⟨goes_one rfl, y_val (by simp [execOp, go_sem]; rfl) ⟨Row.of_new (l := []) (heap_alloc_new w _) (Nat.zero_le _) (by decide) (by simp), ((Kept.refl _ _).alloc _), .inr fun g hg => by cases hg; exact Nat.le_refl _⟩⟩
    refine stepsJ_cons ?_ ?_
    · refine StepJ.one (by decide) rfl fun S a w hlt hR hout hlate hD hrow => ?_
      exact y_move rfl ⟨fun w'' k => by have hR := hR w'' k; rw [hout 0 (by decide)]; exact HA.out.all (K3.out.trans hR (fun _ _ x => x)), Kept.refl _ _⟩
    refine stepsJ_cons ?_ ?_
    · refine StepJ.own [16] [1] rfl (by decide) (fun x hx => by cases hx; exact ⟨_, List.mem_of_getElem? (i := 0) rfl, rfl, rfl, _, rfl⟩) (fun _ _ => trivial) fun S a w hlt hR hout hlate hD p lp hpr hp => ?_
      have q24 : ∀ w', Kept S w w' → BytesArg w' (a.eval (.tmp 24)) (l) := hD.get 1 rfl rfl rfl
      have g24 := q24 w (Kept.refl _ _)
      have e1 := hp.2 23 rfl; have e2 := hp.1; subst e1; rw [e2] at hpr; exact ⟨goes_one rfl, y_append rfl rfl rfl rfl hpr g24 (by simp; have := HL.out; omega) (Nat.zero_le _)⟩
    refine stepsJ_cons ?_ ?_
    · refine StepJ.one (by decide) rfl fun S a w hlt hR hout hlate hD hrow => ?_
      exact y_move rfl ⟨fun w'' k => by have hR := hR w'' k; rw [hout 11 (by decide)]; exact rfl, Kept.refl _ _⟩
    refine stepsJ_cons ?_ ?_
    · refine StepJ.one (by decide) rfl fun S a w hlt hR hout hlate hD hrow => ?_
      have hR0 := hR w (Kept.refl _ _)
      have q26 : ∀ w', Kept S w w' → a.eval (.tmp 26) = .int .u32 (sm : Int) := hD.get 0 rfl rfl rfl
      have g26 := q26 w (Kept.refl _ _)
      exact y_conv rfl g26 Try.underlying22 Try.underlying5 ⟨fun _ _ => congrArg (Value.int _) (wrap_u8 sm), Kept.refl _ _⟩
    refine stepsJ_cons ?_ ?_
    · refine StepJ.one (by decide) rfl fun S a w hlt hR hout hlate hD hrow => ?_
      exact y_move rfl ⟨fun w'' k => by have hR := hR w'' k; rw [hout 11 (by decide)]; exact rfl, Kept.refl _ _⟩
    refine stepsJ_cons ?_ ?_
    · refine StepJ.one (by decide) rfl fun S a w hlt hR hout hlate hD hrow => ?_
      have hR0 := hR w (Kept.refl _ _)
      have q28 : ∀ w', Kept S w w' → a.eval (.tmp 28) = .int .u32 (sm : Int) := hD.get 0 rfl rfl rfl
      have g28 := q28 w (Kept.refl _ _)
      exact y_shr (n := 8) rfl g28 rfl (by decide) ⟨fun _ _ => congrArg (Value.int _) (shr_nat sm 8), Kept.refl _ _⟩
    refine stepsJ_cons ?_ ?_
    · refine StepJ.one (by decide) rfl fun S a w hlt hR hout hlate hD hrow => ?_
      have hR0 := hR w (Kept.refl _ _)
      have q29 : ∀ w', Kept S w w' → a.eval (.tmp 29) = .int .u32 ((sm / 2 ^ 8 : Nat) : Int) := hD.get 0 rfl rfl rfl
      have g29 := q29 w (Kept.refl _ _)
      exact y_conv rfl g29 Try.underlying22 Try.underlying5 ⟨fun _ _ => congrArg (Value.int _) (wrap_u8 _), Kept.refl _ _⟩
    refine stepsJ_cons ?_ ?_
    · refine StepJ.one (by decide) rfl fun S a w hlt hR hout hlate hD hrow => ?_
      exact y_move rfl ⟨fun w'' k => by have hR := hR w'' k; rw [hout 11 (by decide)]; exact rfl, Kept.refl _ _⟩
    refine stepsJ_cons ?_ ?_
    · refine StepJ.one (by decide) rfl fun S a w hlt hR hout hlate hD hrow => ?_
      have hR0 := hR w (Kept.refl _ _)
      have q31 : ∀ w', Kept S w w' → a.eval (.tmp 31) = .int .u32 (sm : Int) := hD.get 0 rfl rfl rfl
      have g31 := q31 w (Kept.refl _ _)
      exact y_shr (n := 16) rfl g31 rfl (by decide) ⟨fun _ _ => congrArg (Value.int _) (shr_nat sm 16), Kept.refl _ _⟩
    refine stepsJ_cons ?_ ?_
    · refine StepJ.one (by decide) rfl fun S a w hlt hR hout hlate hD hrow => ?_
      have hR0 := hR w (Kept.refl _ _)
      have q32 : ∀ w', Kept S w w' → a.eval (.tmp 32) = .int .u32 ((sm / 2 ^ 16 : Nat) : Int) := hD.get 0 rfl rfl rfl
      have g32 := q32 w (Kept.refl _ _)
      exact y_conv rfl g32 Try.underlying22 Try.underlying5 ⟨fun _ _ => congrArg (Value.int _) (wrap_u8 _), Kept.refl _ _⟩
    refine stepsJ_cons ?_ ?_
    · refine StepJ.one (by decide) rfl fun S a w hlt hR hout hlate hD hrow => ?_
      exact y_move rfl ⟨fun w'' k => by have hR := hR w'' k; rw [hout 11 (by decide)]; exact rfl, Kept.refl _ _⟩
    refine stepsJ_cons ?_ ?_
    · refine StepJ.one (by decide) rfl fun S a w hlt hR hout hlate hD hrow => ?_
      have hR0 := hR w (Kept.refl _ _)
      have q34 : ∀ w', Kept S w w' → a.eval (.tmp 34) = .int .u32 (sm : Int) := hD.get 0 rfl rfl rfl
      have g34 := q34 w (Kept.refl _ _)
      exact y_shr (n := 24) rfl g34 rfl (by decide) ⟨fun _ _ => congrArg (Value.int _) (shr_nat sm 24), Kept.refl _ _⟩
    refine stepsJ_cons ?_ ?_
    · refine StepJ.one (by decide) rfl fun S a w hlt hR hout hlate hD hrow => ?_
      have hR0 := hR w (Kept.refl _ _)
      have q35 : ∀ w', Kept S w w' → a.eval (.tmp 35) = .int .u32 ((sm / 2 ^ 24 : Nat) : Int) := hD.get 0 rfl rfl rfl
      have g35 := q35 w (Kept.refl _ _)
      exact y_conv rfl g35 Try.underlying22 Try.underlying5 ⟨fun _ _ => congrArg (Value.int _) (wrap_u8 _), Kept.refl _ _⟩
    refine stepsJ_cons ?_ ?_
    · refine StepJ.one (by decide) rfl fun S a w hlt hR hout hlate hD hrow => ?_
      have hR0 := hR w (Kept.refl _ _)
      have q27 : ∀ w', Kept S w w' → a.eval (.tmp 27) = .int .u8 ((sm % 256 : Nat) : Int) := hD.get 0 rfl rfl rfl
      have g27 := q27 w (Kept.refl _ _)
      have q30 : ∀ w', Kept S w w' → a.eval (.tmp 30) = .int .u8 ((sm / 2 ^ 8 % 256 : Nat) : Int) := hD.get 1 rfl rfl rfl
      have g30 := q30 w (Kept.refl _ _)
      have q33 : ∀ w', Kept S w w' → a.eval (.tmp 33) = .int .u8 ((sm / 2 ^ 16 % 256 : Nat) : Int) := hD.get 2 rfl rfl rfl
      have g33 := q33 w (Kept.refl _ _)
      have q36 : ∀ w', Kept S w w' → a.eval (.tmp 36) = .int .u8 ((sm / 2 ^ 24 % 256 : Nat) : Int) := hD.get 3 rfl rfl rfl
      have g36 := q36 w (Kept.refl _ _)
      exact y_built4 rfl g27 g30 g33 g36 ⟨rob_own hlt ⟨Row.of_new (l := [sm % 256, sm / 2 ^ 8 % 256, sm / 2 ^ 16 % 256, sm / 2 ^ 24 % 256]) (heap_alloc_new w _) (Nat.le_refl _) (by simp [maxLen]) (four_lt sm), (Kept.refl _ _).alloc _⟩, (Kept.refl _ _).alloc _⟩
    refine stepsJ_cons ?_ ?_
    · refine StepJ.own [] [3, 1] rfl (by decide) (fun x hx => by cases hx; exact ⟨_, List.mem_of_getElem? (i := 0) rfl, rfl, rfl, _, rfl⟩) (fun _ _ => trivial) fun S a w hlt hR hout hlate hD p lp hpr hp => ?_
      have q37 : ∀ w', Kept S w w' → BytesArg w' (a.eval (.tmp 37)) ([sm % 256, sm / 2 ^ 8 % 256, sm / 2 ^ 16 % 256, sm / 2 ^ 24 % 256]) := hD.get 1 rfl rfl rfl
      have g37 := q37 w (Kept.refl _ _)
      have e1 := hp.2 25 rfl; have e2 := hp.1; subst e1; rw [e2] at hpr; exact ⟨goes_one rfl, y_append rfl rfl rfl rfl hpr g37 (by simp; have := HL.out; omega) (Nat.zero_le _)⟩
    refine stepsJ_cons ?_ ?_
    · refine StepJ.one (by decide) rfl fun S a w hlt hR hout hlate hD hrow => ?_
      have hR0 := hR w (Kept.refl _ _)
      have q22 : ∀ w', Kept S w w' → a.eval (.tmp 22) = tabV ieee := hD.get 0 rfl rfl rfl
      have g22 := q22 w (Kept.refl _ _)
      have g38 := (hrow 16 rfl _ (List.mem_of_getElem? (i := 1) rfl) rfl rfl 38 rfl).bytes
      exact y_call2 rfl rfl rfl (fun _ _ => by kernel_rfl) (by rw [g22]; exact call_eqJ (sum_any ieee _ _ w ieee_lt g38))
    refine stepsJ_cons ?_ ?_
    · refine StepJ.one (by decide) rfl fun S a w hlt hR hout hlate hD hrow => ?_
      have hR0 := hR w (Kept.refl _ _)
      exact y_load_row rfl _ (by rw [hout 10 (by decide)]; rfl) _ _ (0, 0) _ (T3.out.all hR0) Try.underlying26 rfl (tab_size ieee) ⟨fun _ _ => rfl, Kept.refl _ _⟩
    refine stepsJ_cons ?_ ?_
    · refine StepJ.one (by decide) rfl fun S a w hlt hR hout hlate hD hrow => ?_
      have hR0 := hR w (Kept.refl _ _)
      exact y_make (n := 4) rfl rfl rfl (by decide) ⟨rob_own hlt ⟨row_zeros w _ _ (Nat.le_refl _) (by decide), (Kept.refl _ _).alloc _⟩, (Kept.refl _ _).alloc _⟩
    refine stepsJ_cons ?_ ?_
    · refine StepJ.one (by decide) rfl fun S a w hlt hR hout hlate hD hrow => ?_
      have hR0 := hR w (Kept.refl _ _)
      have q40 : ∀ w', Kept S w w' → a.eval (.tmp 40) = tabV ieee := hD.get 0 rfl rfl rfl
      have g40 := q40 w (Kept.refl _ _)
      have q41 : ∀ w', Kept S w w' → BytesArg w' (a.eval (.tmp 41)) (List.replicate 4 0) := hD.get 1 rfl rfl rfl
      have g41 := q41 w (Kept.refl _ _)
      exact y_call2 rfl rfl rfl (fun _ _ => by kernel_rfl) (by rw [g40]; exact call_eqJ (sum_any ieee _ _ w ieee_lt g41))
    refine stepsJ_cons ?_ ?_
    · refine StepJ.one (by decide) rfl fun S a w hlt hR hout hlate hD hrow => ?_
      have q39 : ∀ w', Kept S w w' → a.eval (.tmp 39) = .int .u32 ((more ieee 0 ([] ++ l ++ four sm) : Nat) : Int) := hD.get 0 rfl rfl rfl
      have g39 := q39 w (Kept.refl _ _)
      have q42 : ∀ w', Kept S w w' → a.eval (.tmp 42) = .int .u32 ((more ieee 0 (List.replicate 4 0) : Nat) : Int) := hD.get 1 rfl rfl rfl
      have g42 := q42 w (Kept.refl _ _)
      exact y_eql_int rfl g39 g42 ⟨fun _ _ => by show Value.bool _ = _; exact congrArg Value.bool (eq_true HE.out), Kept.refl _ _⟩
    refine stepsJ_cons ?_ ?_
    · refine StepJ.one (by decide) rfl fun S a w hlt hR hout hlate hD hrow => ?_
      have q43 : ∀ w', Kept S w w' → a.eval (.tmp 43) = .bool true := hD.get 0 rfl rfl rfl
      have g43 := q43 w (Kept.refl _ _)
      exact y_assign rfl ⟨q43, Kept.refl _ _⟩
    exact stepsJ_nil
  intro v wE hE hG hrow
  have r38 := hrow 16 rfl
  have e12 : v 22 = .bool true := hG 22 (by simp)
  clear hG hrow
  simp only [putAll, Act.put, List.setIfInBounds_toArray, List.set_cons_succ, List.set_cons_zero, Nat.reduceAdd, e12]
  have T4 := Lib.hid (T3.out.all hE); have K4 := Lib.hid (K3.out.trans hE (fun _ _ x => x)); clear hE T3 K3
  go_wp2_with (fail)
  refine wp_region_said [some 44, some 45, some 46, some 47, some 48, some 49, some 50, some 51, some 52, some 53, some 54, some 55, some 56, some 57, some 58, some 59, some 60, some 61, some 62, some 63, some 64, some 65, some 66, some 67, some 68, some 69, some 70, some 71, some 8] [Pd.eq (.bool true), Pd.eq (.bool true), Pd.eq (.bool true), Pd.eq (.bool true), Pd.eq (.bool true), Pd.eq (tabV ieee), Pd.eq (.int .u32 (A : Int)), Pd.eq (.int .u8 (x : Int)), Pd.bytes ([x]), Pd.eq (.int .u32 ((more ieee A [x] : Nat) : Int)), Pd.eq (tabV ieee), Pd.eq (.int .u32 (C : Int)), Pd.eq (.int .u8 (x : Int)), Pd.bytes ([x]), Pd.eq (.int .u32 ((more ieee C [x] : Nat) : Int)), Pd.eq (.bool (decide (A = C))), Pd.eq (.int .u32 (A : Int)), Pd.eq (.int .u32 (C : Int)), Pd.eq (.bool (decide (A = C))), Pd.eq (.bool true), Pd.eq (.bool true), Pd.eq (.bool true), Pd.eq (tabV ieee), Pd.eq (.int .u32 (A : Int)), Pd.eq (.int .u32 ((more ieee A [] : Nat) : Int)), Pd.eq (.int .u32 (A : Int)), Pd.eq (.bool true), Pd.eq (.bool true), Pd.eq (.bool true)] (by kernel_rfl) (by kernel_rfl) ?_ ?_
  · refine steps_cons ?_ ?_
    · refine Step.one rfl fun a w hR hout hD => ?_
      exact y_move rfl ⟨by rw [hout 9 (by decide)]; exact rfl, Kept.refl _ _⟩
    refine steps_cons ?_ ?_
    · refine Step.one rfl fun a w hR hout hD => ?_
      have g44 : a.eval (.tmp 44) = .bool true := hD.get 0 rfl rfl rfl
      exact y_move rfl ⟨g44, Kept.refl _ _⟩
    refine steps_cons ?_ ?_
    · refine Step.when 1 true 45 rfl rfl fun a w hR hout hD => ?_
      have g45 : a.eval (.tmp 45) = .bool true := hD.get 0 rfl rfl rfl
      refine ⟨g45, ?_⟩
      exact y_move rfl ⟨by rw [hout 12 (by decide)]; exact rfl, Kept.refl _ _⟩
    refine steps_cons ?_ ?_
    · refine Step.one rfl fun a w hR hout hD => ?_
      have g45 : a.eval (.tmp 45) = .bool true := hD.get 0 rfl rfl rfl
      have g46 : a.eval (.tmp 46) = .bool true := hD.get 1 rfl rfl rfl
      exact y_pick_true rfl g45 ⟨g46, Kept.refl _ _⟩
    refine steps_cons ?_ ?_
    · refine Step.one rfl fun a w hR hout hD => ?_
      have g47 : a.eval (.tmp 47) = .bool true := hD.get 0 rfl rfl rfl
      exact y_move rfl ⟨g47, Kept.refl _ _⟩
    refine steps_cons ?_ ?_
    · refine Step.when 4 true 48 rfl rfl fun a w hR hout hD => ?_
      have hR0 := hR
      have g48 : a.eval (.tmp 48) = .bool true := hD.get 0 rfl rfl rfl
      refine ⟨g48, ?_⟩
      exact y_load_row rfl _ (by rw [hout 10 (by decide)]; rfl) _ _ (0, 0) _ (T4.out.all hR0) Try.underlying26 rfl (tab_size ieee) ⟨rfl, Kept.refl _ _⟩
    refine steps_cons ?_ ?_
    · refine Step.when 4 true 48 rfl rfl fun a w hR hout hD => ?_
      have g48 : a.eval (.tmp 48) = .bool true := hD.get 0 rfl rfl rfl
      refine ⟨g48, ?_⟩
      exact y_move rfl ⟨by rw [hout 1 (by decide)]; exact rfl, Kept.refl _ _⟩
    refine steps_cons ?_ ?_
    · refine Step.when 4 true 48 rfl rfl fun a w hR hout hD => ?_
      have g48 : a.eval (.tmp 48) = .bool true := hD.get 0 rfl rfl rfl
      refine ⟨g48, ?_⟩
      exact y_move rfl ⟨by rw [hout 3 (by decide)]; exact rfl, Kept.refl _ _⟩
    refine steps_cons ?_ ?_
    · refine Step.when 4 true 48 rfl rfl fun a w hR hout hD => ?_
      have hR0 := hR
      have g51 : a.eval (.tmp 51) = .int .u8 (x : Int) := hD.get 0 rfl rfl rfl
      have g48 : a.eval (.tmp 48) = .bool true := hD.get 1 rfl rfl rfl
      refine ⟨g48, ?_⟩
      exact y_built1 rfl g51 ⟨BytesArg.new w ([x]) (by simp [maxLen]) (by simpa using hx), (Kept.refl _ _).alloc _⟩
    refine steps_cons ?_ ?_
    · refine Step.when 4 true 48 rfl rfl fun a w hR hout hD => ?_
      have hR0 := hR
      have g49 : a.eval (.tmp 49) = tabV ieee := hD.get 0 rfl rfl rfl
      have g50 : a.eval (.tmp 50) = .int .u32 (A : Int) := hD.get 1 rfl rfl rfl
      have g52 : BytesArg w (a.eval (.tmp 52)) ([x]) := hD.get 2 rfl rfl rfl
      have g48 : a.eval (.tmp 48) = .bool true := hD.get 3 rfl rfl rfl
      refine ⟨g48, ?_⟩
      exact y_call3 rfl rfl rfl (fun _ _ => by kernel_rfl) (by rw [g49, g50]; exact call_eq (more_any ieee A _ [x] w ieee_lt hA g52))
    refine steps_cons ?_ ?_
    · refine Step.when 4 true 48 rfl rfl fun a w hR hout hD => ?_
      have hR0 := hR
      have g48 : a.eval (.tmp 48) = .bool true := hD.get 0 rfl rfl rfl
      refine ⟨g48, ?_⟩
      exact y_load_row rfl _ (by rw [hout 10 (by decide)]; rfl) _ _ (0, 0) _ (T4.out.all hR0) Try.underlying26 rfl (tab_size ieee) ⟨rfl, Kept.refl _ _⟩
    refine steps_cons ?_ ?_
    · refine Step.when 4 true 48 rfl rfl fun a w hR hout hD => ?_
      have g48 : a.eval (.tmp 48) = .bool true := hD.get 0 rfl rfl rfl
      refine ⟨g48, ?_⟩
      exact y_move rfl ⟨by rw [hout 2 (by decide)]; exact rfl, Kept.refl _ _⟩
    refine steps_cons ?_ ?_
    · refine Step.when 4 true 48 rfl rfl fun a w hR hout hD => ?_
      have g48 : a.eval (.tmp 48) = .bool true := hD.get 0 rfl rfl rfl
      refine ⟨g48, ?_⟩
      exact y_move rfl ⟨by rw [hout 3 (by decide)]; exact rfl, Kept.refl _ _⟩
    refine steps_cons ?_ ?_
    · refine Step.when 4 true 48 rfl rfl fun a w hR hout hD => ?_
      have hR0 := hR
      have g56 : a.eval (.tmp 56) = .int .u8 (x : Int) := hD.get 0 rfl rfl rfl
      have g48 : a.eval (.tmp 48) = .bool true := hD.get 1 rfl rfl rfl
      refine ⟨g48, ?_⟩
      exact y_built1 rfl g56 ⟨BytesArg.new w ([x]) (by simp [maxLen]) (by simpa using hx), (Kept.refl _ _).alloc _⟩
    refine steps_cons ?_ ?_
    · refine Step.when 4 true 48 rfl rfl fun a w hR hout hD => ?_
      have hR0 := hR
      have g54 : a.eval (.tmp 54) = tabV ieee := hD.get 0 rfl rfl rfl
      have g55 : a.eval (.tmp 55) = .int .u32 (C : Int) := hD.get 1 rfl rfl rfl
      have g57 : BytesArg w (a.eval (.tmp 57)) ([x]) := hD.get 2 rfl rfl rfl
      have g48 : a.eval (.tmp 48) = .bool true := hD.get 4 rfl rfl rfl
      refine ⟨g48, ?_⟩
      exact y_call3 rfl rfl rfl (fun _ _ => by kernel_rfl) (by rw [g54, g55]; exact call_eq (more_any ieee C _ [x] w ieee_lt hC g57))
    refine steps_cons ?_ ?_
    · refine Step.when 4 true 48 rfl rfl fun a w hR hout hD => ?_
      have g53 : a.eval (.tmp 53) = .int .u32 ((more ieee A [x] : Nat) : Int) := hD.get 0 rfl rfl rfl
      have g58 : a.eval (.tmp 58) = .int .u32 ((more ieee C [x] : Nat) : Int) := hD.get 1 rfl rfl rfl
      have g48 : a.eval (.tmp 48) = .bool true := hD.get 2 rfl rfl rfl
      refine ⟨g48, ?_⟩
      exact y_eql_int rfl g53 g58 ⟨by show Value.bool _ = _; exact congrArg Value.bool (by rw [eq_decide]; exact decide_eq_decide.2 ⟨more_one_inj ieee A C x ieee_lt ieee_top hA hC hx, fun e => by rw [e]⟩), Kept.refl _ _⟩
    refine steps_cons ?_ ?_
    · refine Step.when 4 true 48 rfl rfl fun a w hR hout hD => ?_
      have g48 : a.eval (.tmp 48) = .bool true := hD.get 0 rfl rfl rfl
      refine ⟨g48, ?_⟩
      exact y_move rfl ⟨by rw [hout 1 (by decide)]; exact rfl, Kept.refl _ _⟩
    refine steps_cons ?_ ?_
    · refine Step.when 4 true 48 rfl rfl fun a w hR hout hD => ?_
      have g48 : a.eval (.tmp 48) = .bool true := hD.get 0 rfl rfl rfl
      refine ⟨g48, ?_⟩
      exact y_move rfl ⟨by rw [hout 2 (by decide)]; exact rfl, Kept.refl _ _⟩
    refine steps_cons ?_ ?_
    · refine Step.when 4 true 48 rfl rfl fun a w hR hout hD => ?_
      have g60 : a.eval (.tmp 60) = .int .u32 (A : Int) := hD.get 0 rfl rfl rfl
      have g61 : a.eval (.tmp 61) = .int .u32 (C : Int) := hD.get 1 rfl rfl rfl
      have g48 : a.eval (.tmp 48) = .bool true := hD.get 2 rfl rfl rfl
      refine ⟨g48, ?_⟩
      exact y_eql_int rfl g60 g61 ⟨by show Value.bool _ = _; exact congrArg Value.bool (eq_decide A C), Kept.refl _ _⟩
    refine steps_cons ?_ ?_
    · refine Step.when 4 true 48 rfl rfl fun a w hR hout hD => ?_
      have g59 : a.eval (.tmp 59) = .bool (decide (A = C)) := hD.get 0 rfl rfl rfl
      have g62 : a.eval (.tmp 62) = .bool (decide (A = C)) := hD.get 1 rfl rfl rfl
      have g48 : a.eval (.tmp 48) = .bool true := hD.get 2 rfl rfl rfl
      refine ⟨g48, ?_⟩
      exact y_eql_bool rfl g59 g62 Try.underlying4 ⟨by show Value.bool _ = _; exact congrArg Value.bool (by simp), Kept.refl _ _⟩
    refine steps_cons ?_ ?_
    · refine Step.one rfl fun a w hR hout hD => ?_
      have g48 : a.eval (.tmp 48) = .bool true := hD.get 0 rfl rfl rfl
      have g63 : a.eval (.tmp 63) = .bool true := hD.get 1 rfl rfl rfl
      exact y_pick_true rfl g48 ⟨g63, Kept.refl _ _⟩
    refine steps_cons ?_ ?_
    · refine Step.one rfl fun a w hR hout hD => ?_
      have g64 : a.eval (.tmp 64) = .bool true := hD.get 0 rfl rfl rfl
      exact y_move rfl ⟨g64, Kept.refl _ _⟩
    refine steps_cons ?_ ?_
    · refine Step.when 21 true 65 rfl rfl fun a w hR hout hD => ?_
      have hR0 := hR
      have g65 : a.eval (.tmp 65) = .bool true := hD.get 0 rfl rfl rfl
      refine ⟨g65, ?_⟩
      exact y_load_row rfl _ (by rw [hout 10 (by decide)]; rfl) _ _ (0, 0) _ (T4.out.all hR0) Try.underlying26 rfl (tab_size ieee) ⟨rfl, Kept.refl _ _⟩
    refine steps_cons ?_ ?_
    · refine Step.when 21 true 65 rfl rfl fun a w hR hout hD => ?_
      have g65 : a.eval (.tmp 65) = .bool true := hD.get 0 rfl rfl rfl
      refine ⟨g65, ?_⟩
      exact y_move rfl ⟨by rw [hout 1 (by decide)]; exact rfl, Kept.refl _ _⟩
    refine steps_cons ?_ ?_
    · refine Step.when 21 true 65 rfl rfl fun a w hR hout hD => ?_
      have hR0 := hR
      have g66 : a.eval (.tmp 66) = tabV ieee := hD.get 0 rfl rfl rfl
      have g67 : a.eval (.tmp 67) = .int .u32 (A : Int) := hD.get 1 rfl rfl rfl
      have g65 : a.eval (.tmp 65) = .bool true := hD.get 2 rfl rfl rfl
      refine ⟨g65, ?_⟩
      exact y_call3 rfl rfl rfl (fun _ _ => by kernel_rfl) (by rw [g66, g67]; exact call_eq (more_any ieee A _ [] w ieee_lt hA (BytesArg.nil w)))
    refine steps_cons ?_ ?_
    · refine Step.when 21 true 65 rfl rfl fun a w hR hout hD => ?_
      have g65 : a.eval (.tmp 65) = .bool true := hD.get 0 rfl rfl rfl
      refine ⟨g65, ?_⟩
      exact y_move rfl ⟨by rw [hout 1 (by decide)]; exact rfl, Kept.refl _ _⟩
    refine steps_cons ?_ ?_
    · refine Step.when 21 true 65 rfl rfl fun a w hR hout hD => ?_
      have g68 : a.eval (.tmp 68) = .int .u32 ((more ieee A [] : Nat) : Int) := hD.get 0 rfl rfl rfl
      have g69 : a.eval (.tmp 69) = .int .u32 (A : Int) := hD.get 1 rfl rfl rfl
      have g65 : a.eval (.tmp 65) = .bool true := hD.get 2 rfl rfl rfl
      refine ⟨g65, ?_⟩
      exact y_eql_int rfl g68 g69 ⟨by show Value.bool _ = _; exact congrArg Value.bool (eq_true (more_nil ieee A)), Kept.refl _ _⟩
    refine steps_cons ?_ ?_
    · refine Step.one rfl fun a w hR hout hD => ?_
      have g65 : a.eval (.tmp 65) = .bool true := hD.get 0 rfl rfl rfl
      have g70 : a.eval (.tmp 70) = .bool true := hD.get 1 rfl rfl rfl
      exact y_pick_true rfl g65 ⟨g70, Kept.refl _ _⟩
    refine steps_cons ?_ ?_
    · refine Step.one rfl fun a w hR hout hD => ?_
      have g71 : a.eval (.tmp 71) = .bool true := hD.get 0 rfl rfl rfl
      exact y_assign rfl ⟨g71, Kept.refl _ _⟩
    exact steps_nil
  intro v wE hE hG
  have e8 : v 28 = .bool true := hG 28 (by simp)
  clear hG
  simp only [putAll, Act.put, List.setIfInBounds_toArray, List.set_cons_succ, List.set_cons_zero, Nat.reduceAdd, e8]
  have K5 := Lib.hid (K4.out.trans hE (fun _ _ x => x)); clear hE
  go_wp2
  go_ret
  exact ⟨rfl, K5.out.fin⟩
end Go.Proofs.Ytikblokigeabjaa
