/- CrcTurns' walk. -/
import Derived.Test.YtikblokigeabjaaLCEnds
import Derived.Test.YtikblokigeabjaaWl
import Derived.Test.YtikblokigeabjaaCPb
namespace Go.Proofs.Ytikblokigeabjaa
open Go.RowKit

/-- Where the burst begins. -/
theorem at_nat (at' : Int) (n : Nat) (hn : 0 < n) : ∃ p : Nat, p < n ∧ ((at' < 0 ∧ decide (at' < 0) = true ∧ (at' + 1).tmod (n : Int) = -(p : Int)) ∨ (¬ at' < 0 ∧ decide (at' < 0) = false ∧ at'.tmod (n : Int) = (p : Int))) := by
  rcases Int.lt_or_le at' 0 with h | h
  · obtain ⟨m, hm⟩ : ∃ m : Nat, at' + 1 = -(m : Int) := ⟨(-(at' + 1)).toNat, by omega⟩
    refine ⟨m % n, Nat.mod_lt _ hn, .inl ⟨h, by simpa using h, ?_⟩⟩
    rw [hm, Int.neg_tmod]
    rfl
  · obtain ⟨m, rfl⟩ : ∃ m : Nat, at' = (m : Int) := ⟨at'.toNat, by omega⟩
    exact ⟨m % n, Nat.mod_lt _ hn, .inr ⟨by omega, by simp, rfl⟩⟩

/-- The bytes behind k rounds. -/
def Turned (l c d : List Nat) (p k : Nat) : Prop := c.length = l.length ∧ ∀ j, j < l.length → c.getD j 0 = l.getD j 0 ^^^ (if p ≤ j ∧ j < p + k then d.getD (j - p) 0 else 0)

theorem Turned.start (l d : List Nat) (p : Nat) : Turned l l d p 0 := ⟨rfl, fun j _ => by rw [if_neg (by omega), Nat.xor_zero]⟩

theorem Turned.next {l c d : List Nat} {p k : Nat} (h : Turned l c d p k) (hk : p + k < l.length) : Turned l (c.set (p + k) (c.getD (p + k) 0 ^^^ d.getD k 0)) d p (k + 1) := by
  refine ⟨by rw [List.length_set]; exact h.1, fun j hj => ?_⟩
  have hg : ∀ (i : Nat) (x : Nat), i < c.length → (c.set i x).getD j 0 = if j = i then x else c.getD j 0 := by
    intro i x hi
    rw [List.getD, List.getElem?_set]
    by_cases e : i = j
    · subst e; simp [hi]
    · rw [if_neg e, if_neg (fun e' => e e'.symm)]; rfl
  rw [hg _ _ (by rw [h.1]; exact hk)]
  by_cases e : j = p + k
  · subst e
    rw [if_pos rfl, h.2 _ hk, if_neg (by omega), if_pos (by omega), Nat.xor_zero, show p + k - p = k by omega]
  · rw [if_neg e, h.2 j hj]
    by_cases h1 : p ≤ j ∧ j < p + k
    · rw [if_pos h1, if_pos (by omega)]
    · rw [if_neg h1, if_neg (by omega)]

set_option maxHeartbeats 2000000 in
set_option maxRecDepth 100000 in
theorem cturns_walk (v : Value) (l : List Nat) (at' : Int) (by' : Nat) (w : World) (h : BytesArg w v l) (h0 : -9223372036854775808 ≤ at') (h1 : at' ≤ 9223372036854775807) :
    Calls Try.prog 6 #[v, .int .i64 at', .int .u32 (by' : Int)] w fun e w' => e = .returned (.bool true) ∧ Below w.heap.size w w' := by
  have HA := Lib.hid h
  obtain ⟨a, cap, rfl, h3, h4, -⟩ := h
  unfold maxLen at h4
  generalize hN : l.length = n at *
  have HN := Lib.hid hN; clear hN
  by_cases hz0 : n = 0
  · subst hz0
    go_enter Try.func6, Try.ntmps6
    go_wp2_with (fail)
    refine (awake_any _).mono ?_
    rintro e w1 ⟨rfl, hk⟩
    have KA := Lib.hid hk; clear hk
    go_wp2
    go_ret
    exact ⟨rfl, KA.out.fin⟩
  have hne : (((n : Nat) : Int) == 0) = false := by simp; omega
  by_cases h300 : 300 < n
  · go_enter Try.func6, Try.ntmps6
    go_wp2_with (fail)
    refine (awake_any _).mono ?_
    rintro e w1 ⟨rfl, hk⟩
    have KA := Lib.hid hk; clear hk
    go_wp2
    go_ret
    exact ⟨rfl, KA.out.fin⟩
  have hd300 : decide (300 < (n : Int)) = false := by simp; omega
  obtain ⟨p, hp, hcase⟩ := at_nat at' n (by omega)
  have HCase := Lib.hid hcase; clear hcase
  obtain ⟨cs, z, hv, hzs, hone, hsz, hz, hat⟩ := tab_some ieee
  have HV := Lib.hid hv; have HZS := Lib.hid hzs; have HO := Lib.hid hone; have HS := Lib.hid hsz; have HAt := Lib.hid hat; have HZ := Lib.hid hz; clear hv hzs hone hsz hat hz
  go_enter Try.func6, Try.ntmps6
  go_wp2_with (fail)
  refine (awake_any _).mono ?_
  rintro e w0 ⟨rfl, k0⟩
  have K0 := Lib.hid k0; clear k0
  have hB := K0.out.size
  have R0 := Lib.hid (Row.of_new (w := w0.alloc (.cells (byteVals []).toArray 5)) (B := w.heap.size) (l := []) (heap_alloc_new w0 _) hB (by decide) (by simp))
  have K00 := Lib.hid (K0.out.alloc (.cells (byteVals []).toArray 5))
  rcases HCase.out with ⟨hs, hsd, hq⟩ | ⟨hs, hsd, hq⟩
  all_goals
    go_wp2_with (at_builtin; refine wpList_append_bytes _ rfl (.tmp 30) (.tmp 31) rfl w.heap.size _ _ [] l rfl R0.out rfl (HA.out.all K00.out) (by rw [HN.out]; simp; omega) (by simp; omega) ?_)
    intro v1 w1 ha
    have O1 := Own.appended (w0 := w) ⟨R0.out, K00.out⟩ ha
    clear ha R0 K00
    obtain ⟨a1, c1, e1⟩ := O1.1.shape
    rw [HN.out] at e1
    subst e1
    obtain ⟨g, cur, rfl, hgB, -, -⟩ := O1.1.head (by omega)
    have HO1 := Lib.hid O1; clear O1
    clear hq
    go_wp2_with (fail)
    go_loopg [9] 4 (fun gg i wr => ∃ (k : Nat) (m : List Nat), k + gg = 4 ∧ i = .int .i64 (k : Int) ∧ Own w wr (.slice (some ⟨g, 0, none⟩) n c1) m ∧ Turned l m (four by') p k ∧ p + k ≤ n)
    case atStart => exact ⟨0, l, by omega, rfl, HO1.out, Turned.start l _ p, by omega⟩
    case round =>
      obtain ⟨k, m, hk, rfl, ho, htu, hpk⟩ := hrel
      have HOw := Lib.hid ho; have HT := Lib.hid htu; clear ho htu HO1
      by_cases hlt : k < 4 ∧ p + k < n
      · obtain ⟨hk4, hpn⟩ := hlt
        have hml : m.length = n := by rw [HT.out.1]; exact HN.out
        obtain ⟨g', cur, e1, -, hh, hcc⟩ := HOw.out.1.head (by omega)
        obtain rfl : g' = g := by cases e1; rfl
        have c3 := hcc (p + k) hpn
        have f3 : wr.frozen? ⟨g', p + k, none⟩ = false := frozen_of_heap hh
        have hnx := HT.out.next (by rw [HN.out]; exact hpn)
        have hdk : (four by').getD k 0 = by' / 2 ^ (8 * k) % 256 := by
          obtain rfl | rfl | rfl | rfl : k = 0 ∨ k = 1 ∨ k = 2 ∨ k = 3 := by omega
          all_goals simp [four]
        have x1 := getD_lt HOw.out.1.2 (p + k)
        have hx : bits .xor .u8 (m.getD (p + k) 0 : Nat) (((by' / 2 ^ (8 * k) : Nat) : Int) % 256) = ((m.getD (p + k) 0 ^^^ by' / 2 ^ (8 * k) % 256 : Nat) : Int) := u8_xor_nat _ _ x1 (Nat.mod_lt _ (by decide))
        have hst := HOw.out.1.stored hml (p + k) (m.getD (p + k) 0 ^^^ (four by').getD k 0) (by rw [hdk]; exact Nat.xor_lt_two_pow (n := 8) x1 (Nat.mod_lt _ (by decide)))
        rw [hdk] at hst hnx
        generalize m.getD (p + k) 0 = old at *
        generalize hqq : by' / 2 ^ (8 * k) = q at *
        have HQQ := Lib.hid hqq; clear hqq hdk
        generalize old ^^^ q % 256 = y at *
        have HST := Lib.hid hst; have HNX := Lib.hid hnx
        have HKS := Lib.hid (HOw.out.2.setCell ⟨g', p + k, none⟩ (fun hl => by simp only at hl; omega) (.int .u8 (y : Int)))
        clear hst hnx hcc hh e1
        go_wp2_with (refine wpList_shr rfl (.tmp 55) (.tmp 58) _ _ rfl .u32 .u64 by' (8 * k) q rfl rfl (by show 8 * k ≤ 32; omega) HQQ.out ?_)
        go_roundg (gk - 1)
        case measure => omega
        case rel => exact ⟨k + 1, _, by omega, by go_num, ⟨HST.out, HKS.out⟩, HNX.out, by omega⟩
      · have hiff := more_turns ieee ieee_lt ieee_top l m (four by') p k HA.out.lt256 (four_lt _) (by show k ≤ 4; omega) (by show 4 ≤ 4; omega) (by rw [HN.out]; exact hpk) HT.out.1 HT.out.2
        have HIff := Lib.hid hiff; clear hiff
        have hz := HZ.out
        have hcs : (k = 4 ∧ decide ((k : Int) < 4) = false) ∨ (k < 4 ∧ decide ((p : Int) + (k : Int) < (n : Int)) = false) := by
          by_cases h4 : k < 4
          · exact .inr ⟨h4, by simp; omega⟩
          · exact .inl ⟨by omega, by simp; omega⟩
        clear hlt
        rcases hcs with ⟨hk4, hkd⟩ | ⟨hk4, hkd⟩
        all_goals
          go_wp2_with (fail)
          refine (make_any ieee _ ieee_lt).mono ?_
          rw [HV.out]
          rintro e w2 ⟨rfl, k2⟩
          have R2 := Lib.hid (HOw.out.1.all k2); have K2 := Lib.hid (HOw.out.2.trans k2 (fun _ _ x => x)); clear k2 HOw
          go_wp2_with (refine wpList_store_row rfl 26 (.tmp 10) (.tmp 63) rfl w2.heap.size z cs 26 rfl rfl (heap_alloc_new w2 _) HZS.out HS.out HO.out ?_)
          intro w3 t3 k3
          have T3 := Lib.hid ((HAt.out _ _).1 t3); have K3 := Lib.hid (K2.out.trans k3.laid (fun _ _ x => x)); have R3 := Lib.hid (R2.out.all k3.laid); clear t3 k3 hz K2 R2
          generalize w2.heap.size = tb at *
          go_wp2_with (fail)
          refine wp_region_said [some 64, some 65, some 66, some 67, some 68, some 69, some 70, some 71, some 72, some 73, some 74, some 75, some 76, some 77, some 78, some 79, some 6] [Pd.eq (.bool true), Pd.eq (.bool true), Pd.eq (tabV ieee), Pd.bytes (m), Pd.eq (.int .u32 ((more ieee 0 m : Nat) : Int)), Pd.eq (tabV ieee), Pd.bytes (l), Pd.eq (.int .u32 ((more ieee 0 l : Nat) : Int)), Pd.eq (.bool (decide (m = l))), Pd.bytes (m), Pd.eq (.string (textOf (m))), Pd.bytes (l), Pd.eq (.string (textOf (l))), Pd.eq (.bool (decide (m = l))), Pd.eq (.bool true), Pd.eq (.bool true), Pd.eq (.bool true)] (by kernel_rfl) (by kernel_rfl) ?_ ?_
          · refine steps_cons ?_ ?_
            · refine Step.one rfl fun a w hR hout hD => ?_
              exact y_move rfl ⟨by rw [hout 7 (by decide)]; exact rfl, Kept.refl _ _⟩
            refine steps_cons ?_ ?_
            · refine Step.one rfl fun a w hR hout hD => ?_
              have g64 : a.eval (.tmp 64) = .bool true := hD.get 0 rfl rfl rfl
              exact y_move rfl ⟨g64, Kept.refl _ _⟩
            refine steps_cons ?_ ?_
            · refine Step.when 1 true 65 rfl rfl fun a w hR hout hD => ?_
              have hR0 := hR
              have g65 : a.eval (.tmp 65) = .bool true := hD.get 0 rfl rfl rfl
              refine ⟨g65, ?_⟩
              exact y_load_row rfl _ (by rw [hout 10 (by decide)]; rfl) _ _ (0, 0) _ (T3.out.all hR0) Try.underlying26 rfl (tab_size ieee) ⟨rfl, Kept.refl _ _⟩
            refine steps_cons ?_ ?_
            · refine Step.when 1 true 65 rfl rfl fun a w hR hout hD => ?_
              have g65 : a.eval (.tmp 65) = .bool true := hD.get 0 rfl rfl rfl
              refine ⟨g65, ?_⟩
              exact y_move rfl ⟨by rw [hout 8 (by decide)]; exact R3.out.bytes.all hR, Kept.refl _ _⟩
            refine steps_cons ?_ ?_
            · refine Step.when 1 true 65 rfl rfl fun a w hR hout hD => ?_
              have hR0 := hR
              have g66 : a.eval (.tmp 66) = tabV ieee := hD.get 0 rfl rfl rfl
              have g67 : BytesArg w (a.eval (.tmp 67)) (m) := hD.get 1 rfl rfl rfl
              have g65 : a.eval (.tmp 65) = .bool true := hD.get 2 rfl rfl rfl
              refine ⟨g65, ?_⟩
              exact y_call2 rfl rfl rfl (fun _ _ => by kernel_rfl) (by rw [g66]; exact call_eq (sum_any ieee _ _ w ieee_lt g67))
            refine steps_cons ?_ ?_
            · refine Step.when 1 true 65 rfl rfl fun a w hR hout hD => ?_
              have hR0 := hR
              have g65 : a.eval (.tmp 65) = .bool true := hD.get 0 rfl rfl rfl
              refine ⟨g65, ?_⟩
              exact y_load_row rfl _ (by rw [hout 10 (by decide)]; rfl) _ _ (0, 0) _ (T3.out.all hR0) Try.underlying26 rfl (tab_size ieee) ⟨rfl, Kept.refl _ _⟩
            refine steps_cons ?_ ?_
            · refine Step.when 1 true 65 rfl rfl fun a w hR hout hD => ?_
              have g65 : a.eval (.tmp 65) = .bool true := hD.get 0 rfl rfl rfl
              refine ⟨g65, ?_⟩
              exact y_move rfl ⟨by rw [hout 0 (by decide)]; exact HA.out.all (K3.out.trans hR (fun _ _ x => x)), Kept.refl _ _⟩
            refine steps_cons ?_ ?_
            · refine Step.when 1 true 65 rfl rfl fun a w hR hout hD => ?_
              have hR0 := hR
              have g69 : a.eval (.tmp 69) = tabV ieee := hD.get 0 rfl rfl rfl
              have g70 : BytesArg w (a.eval (.tmp 70)) (l) := hD.get 1 rfl rfl rfl
              have g65 : a.eval (.tmp 65) = .bool true := hD.get 3 rfl rfl rfl
              refine ⟨g65, ?_⟩
              exact y_call2 rfl rfl rfl (fun _ _ => by kernel_rfl) (by rw [g69]; exact call_eq (sum_any ieee _ _ w ieee_lt g70))
            refine steps_cons ?_ ?_
            · refine Step.when 1 true 65 rfl rfl fun a w hR hout hD => ?_
              have g68 : a.eval (.tmp 68) = .int .u32 ((more ieee 0 m : Nat) : Int) := hD.get 0 rfl rfl rfl
              have g71 : a.eval (.tmp 71) = .int .u32 ((more ieee 0 l : Nat) : Int) := hD.get 1 rfl rfl rfl
              have g65 : a.eval (.tmp 65) = .bool true := hD.get 2 rfl rfl rfl
              refine ⟨g65, ?_⟩
              exact y_eql_int rfl g68 g71 ⟨by show Value.bool _ = _; exact congrArg Value.bool (by rw [eq_decide]; exact decide_eq_decide.2 HIff.out), Kept.refl _ _⟩
            refine steps_cons ?_ ?_
            · refine Step.when 1 true 65 rfl rfl fun a w hR hout hD => ?_
              have g65 : a.eval (.tmp 65) = .bool true := hD.get 0 rfl rfl rfl
              refine ⟨g65, ?_⟩
              exact y_move rfl ⟨by rw [hout 8 (by decide)]; exact R3.out.bytes.all hR, Kept.refl _ _⟩
            refine steps_cons ?_ ?_
            · refine Step.when 1 true 65 rfl rfl fun a w hR hout hD => ?_
              have g73 : BytesArg w (a.eval (.tmp 73)) (m) := hD.get 0 rfl rfl rfl
              have g65 : a.eval (.tmp 65) = .bool true := hD.get 1 rfl rfl rfl
              refine ⟨g65, ?_⟩
              exact y_text rfl g73 ⟨rfl, Kept.refl _ _⟩
            refine steps_cons ?_ ?_
            · refine Step.when 1 true 65 rfl rfl fun a w hR hout hD => ?_
              have g65 : a.eval (.tmp 65) = .bool true := hD.get 0 rfl rfl rfl
              refine ⟨g65, ?_⟩
              exact y_move rfl ⟨by rw [hout 0 (by decide)]; exact HA.out.all (K3.out.trans hR (fun _ _ x => x)), Kept.refl _ _⟩
            refine steps_cons ?_ ?_
            · refine Step.when 1 true 65 rfl rfl fun a w hR hout hD => ?_
              have g75 : BytesArg w (a.eval (.tmp 75)) (l) := hD.get 0 rfl rfl rfl
              have g65 : a.eval (.tmp 65) = .bool true := hD.get 1 rfl rfl rfl
              refine ⟨g65, ?_⟩
              exact y_text rfl g75 ⟨rfl, Kept.refl _ _⟩
            refine steps_cons ?_ ?_
            · refine Step.when 1 true 65 rfl rfl fun a w hR hout hD => ?_
              have g74 : a.eval (.tmp 74) = .string (textOf (m)) := hD.get 0 rfl rfl rfl
              have g76 : a.eval (.tmp 76) = .string (textOf (l)) := hD.get 1 rfl rfl rfl
              have g65 : a.eval (.tmp 65) = .bool true := hD.get 2 rfl rfl rfl
              refine ⟨g65, ?_⟩
              exact y_eql_text rfl g74 g76 ⟨by show Value.bool _ = _; exact congrArg Value.bool (textOf_beq R3.out.2 HA.out.lt256), Kept.refl _ _⟩
            refine steps_cons ?_ ?_
            · refine Step.when 1 true 65 rfl rfl fun a w hR hout hD => ?_
              have g72 : a.eval (.tmp 72) = .bool (decide (m = l)) := hD.get 0 rfl rfl rfl
              have g77 : a.eval (.tmp 77) = .bool (decide (m = l)) := hD.get 1 rfl rfl rfl
              have g65 : a.eval (.tmp 65) = .bool true := hD.get 2 rfl rfl rfl
              refine ⟨g65, ?_⟩
              exact y_eql_bool rfl g72 g77 Try.underlying4 ⟨by show Value.bool _ = _; exact congrArg Value.bool (by simp), Kept.refl _ _⟩
            refine steps_cons ?_ ?_
            · refine Step.one rfl fun a w hR hout hD => ?_
              have g65 : a.eval (.tmp 65) = .bool true := hD.get 0 rfl rfl rfl
              have g78 : a.eval (.tmp 78) = .bool true := hD.get 1 rfl rfl rfl
              exact y_pick_true rfl g65 ⟨g78, Kept.refl _ _⟩
            refine steps_cons ?_ ?_
            · refine Step.one rfl fun a w hR hout hD => ?_
              have g79 : a.eval (.tmp 79) = .bool true := hD.get 0 rfl rfl rfl
              exact y_assign rfl ⟨g79, Kept.refl _ _⟩
            exact steps_nil
          intro v wE hE hG
          have e6 : v 16 = .bool true := hG 16 (by simp)
          clear hG
          simp only [putAll, Act.put, List.setIfInBounds_toArray, List.set_cons_succ, List.set_cons_zero, Nat.reduceAdd, e6]
          have K5 := Lib.hid (K3.out.trans hE (fun _ _ x => x)); clear hE
          go_wp2
          go_ret
          exact ⟨rfl, K5.out.fin⟩
end Go.Proofs.Ytikblokigeabjaa
