/- CrcAdds' walk. -/
import Derived.Test.YtikblokigeabjaaLCTables
import Derived.Test.YtikblokigeabjaaWl
import Derived.Test.YtikblokigeabjaaCPb
namespace Go.Proofs.Ytikblokigeabjaa
open Go.RowKit

set_option maxHeartbeats 1000000 in
set_option maxRecDepth 100000 in
theorem cadds_walk (v1 v2 : Value) (l1 l2 : List Nat) (w : World) (h : BytesArg w v1 l1) (h' : BytesArg w v2 l2) :
    Calls Try.prog 5 #[v1, v2] w fun e w' => e = .returned (.bool true) ∧ Below w.heap.size w w' := by
  have HA := Lib.hid h
  have HB := Lib.hid h'
  obtain ⟨a1, cap1, rfl, h1, h2, -⟩ := h
  obtain ⟨a2, cap2, rfl, h3, h4, -⟩ := h'
  unfold maxLen at h2 h4
  have C1 := Lib.hid HA.out.cells
  have C2 := Lib.hid HB.out.cells
  generalize hN : l1.length = n1 at *
  generalize hM : l2.length = n2 at *
  have HN := Lib.hid hN; have HM := Lib.hid hM; clear hN hM
  have hn1 : min n1 n2 ≤ n1 := Nat.min_le_left _ _
  have hn2 : min n1 n2 ≤ n2 := Nat.min_le_right _ _
  have hX := xorL_length l1 l2
  rw [HN.out, HM.out] at hX
  have hmin : min n1 n2 = min n1 n2 := rfl
  generalize hq : min n1 n2 = n at hn1 hn2 hX
  have HQ := Lib.hid hq; have HX := Lib.hid hX; clear hq hX hmin
  by_cases h300 : 300 < n
  · go_enter Try.func5, Try.ntmps5
    go_wp2_with (fail)
    refine (awake_any _).mono ?_
    rintro e w1 ⟨rfl, hk⟩
    have KA := Lib.hid hk; clear hk
    go_wp2_with (refine wpList_min2 rfl (.tmp 12) (.tmp 14) _ rfl n1 n2 n HQ.out rfl rfl ?_)
    go_ret
    exact ⟨rfl, KA.out.fin⟩
  have hd300 : decide (300 < (n : Int)) = false := by simp; omega
  obtain ⟨cs, z, hv, hzs, hone, hsz, hz, hat⟩ := tab_some ieee
  have HV := Lib.hid hv; have HZS := Lib.hid hzs; have HO := Lib.hid hone; have HS := Lib.hid hsz; have HAt := Lib.hid hat; have HZ := Lib.hid hz; clear hv hzs hone hsz hat hz
  go_enter Try.func5, Try.ntmps5
  go_wp2_with (fail)
  refine (awake_any _).mono ?_
  rintro e w0 ⟨rfl, k0⟩
  have K0 := Lib.hid k0; clear k0
  go_wp2_with (refine wpList_min2 rfl (.tmp 12) (.tmp 14) _ rfl n1 n2 n HQ.out rfl rfl ?_; go_wp2_with (refine wpList_make_bytes rfl (.tmp 19) (.tmp 19) rfl n rfl rfl (by omega) ?_))
  intro w1 hr k1
  have R1 := Lib.hid hr; have K1 := Lib.hid (K0.out.trans k1 (fun _ _ x => x))
  have hg : w.heap.size ≤ w0.heap.size := K0.out.size
  generalize w0.heap.size = g at *
  clear hr k1 K0
  go_wp2_with (fail)
  go_loopg [8] n (fun gg i wr => ∃ k : Nat, k + gg = n ∧ i = .int .i64 (k : Int) ∧ Row wr g (.slice (some ⟨g, 0, none⟩) n n) (fill (xorL l1 l2) k) ∧ Kept (fun _ => False) w wr)
  case atStart => exact ⟨0, by omega, rfl, by rw [fill_zero, HX.out]; exact R1.out, K1.out⟩
  case round =>
    obtain ⟨k, hk, rfl, hr, hkp⟩ := hrel
    have HR := Lib.hid hr; have HK := Lib.hid hkp; clear hr hkp R1 K1
    by_cases hlt : k < n
    · obtain ⟨b1, o1, rfl, hb1, hc1⟩ := C1.out (by omega)
      obtain ⟨b2, o2, rfl, hb2, hc2⟩ := C2.out (by omega)
      have c1 : wr.cell? ⟨b1, o1 + k, none⟩ = some (.int .u8 (l1.getD k 0 : Nat)) := (World.cell?_of_block (HK.out.block b1 hb1 id)).trans (hc1 k (by omega))
      have c2 : wr.cell? ⟨b2, o2 + k, none⟩ = some (.int .u8 (l2.getD k 0 : Nat)) := (World.cell?_of_block (HK.out.block b2 hb2 id)).trans (hc2 k (by omega))
      have x1 := getD_lt HA.out.lt256 k
      have x2 := getD_lt HB.out.lt256 k
      have hx := u8_xor_nat (l1.getD k 0) (l2.getD k 0) x1 x2
      have hxl := Nat.xor_lt_two_pow (n := 8) x1 x2
      have hxe := xorL_getD l1 l2 k (by rw [HN.out, HM.out, HQ.out]; exact hlt)
      have hst := HR.out.stored (by rw [fill_length _ _ (by rw [HX.out]; omega)]; exact HX.out) k ((xorL l1 l2).getD k 0) (by rw [hxe]; exact hxl)
      rw [fill_set _ _ (by rw [HX.out]; exact hlt)] at hst
      obtain ⟨g', cur, e1, hgg, hh, hcc⟩ := HR.out.head (by omega)
      obtain rfl : g' = g := by cases e1; rfl
      have c3 := hcc k hlt
      have f3 : wr.frozen? ⟨g', k, none⟩ = false := frozen_of_heap hh
      generalize (fill (xorL l1 l2) k).getD k 0 = old at *
      rw [hxe] at hst
      have HST := Lib.hid hst
      generalize l1.getD k 0 = y1 at *
      generalize l2.getD k 0 = y2 at *
      clear hst hxe hcc hc1 hc2 hh e1 hgg
      generalize y1 ^^^ y2 = y at *
      have HKS := Lib.hid (HK.out.setCell ⟨g', k, none⟩ (fun hl => by simp only at hl; omega) (.int .u8 (y : Int)))
      go_wp2_with (fail)
      go_region
      go_wp2
      go_roundg (gk - 1)
      case measure => omega
      case rel => exact ⟨k + 1, by omega, by go_num, HST.out, HKS.out.drew⟩
    · have ek : k = n := by omega
      subst ek
      have hf : fill (xorL l1 l2) k = xorL l1 l2 := by have := fill_all (xorL l1 l2); rwa [HX.out] at this
      rw [hf] at HR
      have hadd := more_adds ieee (l1.take k) (l2.take k) (by rw [List.length_take, List.length_take, HN.out, HM.out]; omega) (fun x hx => HA.out.lt256 x (List.mem_of_mem_take hx)) (fun x hx => HB.out.lt256 x (List.mem_of_mem_take hx))
      rw [xorL_take l1 l2 k (by rw [HN.out, HM.out, HQ.out]), List.length_take, HN.out, Nat.min_eq_left hn1] at hadd
      have HAdd := Lib.hid hadd
      have m1 := more_lt ieee 0 (l1.take k) ieee_lt (by decide) (fun x hx => HA.out.lt256 x (List.mem_of_mem_take hx))
      have m2 := more_lt ieee 0 (l2.take k) ieee_lt (by decide) (fun x hx => HB.out.lt256 x (List.mem_of_mem_take hx))
      have m3 := more_lt ieee 0 (List.replicate k 0) ieee_lt (by decide) (zeros_lt k)
      have M1 := Lib.hid m1; have M2 := Lib.hid m2; have M3 := Lib.hid m3
      clear hf hadd m1 m2 m3
      have hz := HZ.out
      go_wp2_with (fail)
      refine (make_any ieee _ ieee_lt).mono ?_
      rw [HV.out]
      rintro e w2 ⟨rfl, k2⟩
      have R2 := Lib.hid (HR.out.all k2); have K2 := Lib.hid (HK.out.trans k2 (fun _ _ x => x)); clear k2 HR HK
      go_wp2_with (refine wpList_store_row rfl 26 (.tmp 9) (.tmp 38) rfl w2.heap.size z cs 26 rfl rfl (heap_alloc_new w2 _) HZS.out HS.out HO.out ?_)
      intro w3 t3 k3
      have T3 := Lib.hid ((HAt.out _ _).1 t3); have K3 := Lib.hid (K2.out.trans k3.laid (fun _ _ x => x)); have R3 := Lib.hid (R2.out.all k3.laid); clear t3 k3 hz K2 R2
      generalize w2.heap.size = tb at *
      go_wp2_with (fail)
      refine wp_region_said [some 39, some 40, some 41, some 42, some 43, some 44, some 45, some 46, some 47, some 48, some 49, some 50, some 51, some 52, some 53, some 54, some 55, some 56, some 57, some 58, some 59, some 60, some 61, some 4] [Pd.eq (.bool true), Pd.eq (.bool true), Pd.eq (tabV ieee), Pd.bytes (xorL l1 l2), Pd.eq (.int .u32 ((more ieee 0 (xorL l1 l2) : Nat) : Int)), Pd.eq (tabV ieee), Pd.bytes (l1), Pd.eq (.int .i64 (k : Int)), Pd.bytes (l1.take k), Pd.eq (.int .u32 ((more ieee 0 (l1.take k) : Nat) : Int)), Pd.eq (tabV ieee), Pd.bytes (l2), Pd.eq (.int .i64 (k : Int)), Pd.bytes (l2.take k), Pd.eq (.int .u32 ((more ieee 0 (l2.take k) : Nat) : Int)), Pd.eq (.int .u32 ((more ieee 0 (l1.take k) ^^^ more ieee 0 (l2.take k) : Nat) : Int)), Pd.eq (tabV ieee), Pd.eq (.int .i64 (k : Int)), Pd.bytes (List.replicate k 0), Pd.eq (.int .u32 ((more ieee 0 (List.replicate k 0) : Nat) : Int)), Pd.eq (.int .u32 ((more ieee 0 (l1.take k) ^^^ more ieee 0 (l2.take k) ^^^ more ieee 0 (List.replicate k 0) : Nat) : Int)), Pd.eq (.bool true), Pd.eq (.bool true), Pd.eq (.bool true)] (by kernel_rfl) (by kernel_rfl) ?_ ?_
      · refine steps_cons ?_ ?_
        · refine Step.one rfl fun a w hR hout hD => ?_
          exact y_move rfl ⟨by rw [hout 5 (by decide)]; exact rfl, Kept.refl _ _⟩
        refine steps_cons ?_ ?_
        · refine Step.one rfl fun a w hR hout hD => ?_
          have g39 : a.eval (.tmp 39) = .bool true := hD.get 0 rfl rfl rfl
          exact y_move rfl ⟨g39, Kept.refl _ _⟩
        refine steps_cons ?_ ?_
        · refine Step.when 1 true 40 rfl rfl fun a w hR hout hD => ?_
          have hR0 := hR
          have g40 : a.eval (.tmp 40) = .bool true := hD.get 0 rfl rfl rfl
          refine ⟨g40, ?_⟩
          exact y_load_row rfl _ (by rw [hout 9 (by decide)]; rfl) _ _ (0, 0) _ (T3.out.all hR0) Try.underlying26 rfl (tab_size ieee) ⟨rfl, Kept.refl _ _⟩
        refine steps_cons ?_ ?_
        · refine Step.when 1 true 40 rfl rfl fun a w hR hout hD => ?_
          have g40 : a.eval (.tmp 40) = .bool true := hD.get 0 rfl rfl rfl
          refine ⟨g40, ?_⟩
          exact y_move rfl ⟨by rw [hout 7 (by decide)]; exact R3.out.bytes.all hR, Kept.refl _ _⟩
        refine steps_cons ?_ ?_
        · refine Step.when 1 true 40 rfl rfl fun a w hR hout hD => ?_
          have hR0 := hR
          have g41 : a.eval (.tmp 41) = tabV ieee := hD.get 0 rfl rfl rfl
          have g42 : BytesArg w (a.eval (.tmp 42)) (xorL l1 l2) := hD.get 1 rfl rfl rfl
          have g40 : a.eval (.tmp 40) = .bool true := hD.get 2 rfl rfl rfl
          refine ⟨g40, ?_⟩
          exact y_call2 rfl rfl rfl (fun _ _ => by kernel_rfl) (by rw [g41]; exact call_eq (sum_any ieee _ _ w ieee_lt g42))
        refine steps_cons ?_ ?_
        · refine Step.when 1 true 40 rfl rfl fun a w hR hout hD => ?_
          have hR0 := hR
          have g40 : a.eval (.tmp 40) = .bool true := hD.get 0 rfl rfl rfl
          refine ⟨g40, ?_⟩
          exact y_load_row rfl _ (by rw [hout 9 (by decide)]; rfl) _ _ (0, 0) _ (T3.out.all hR0) Try.underlying26 rfl (tab_size ieee) ⟨rfl, Kept.refl _ _⟩
        refine steps_cons ?_ ?_
        · refine Step.when 1 true 40 rfl rfl fun a w hR hout hD => ?_
          have g40 : a.eval (.tmp 40) = .bool true := hD.get 0 rfl rfl rfl
          refine ⟨g40, ?_⟩
          exact y_move rfl ⟨by rw [hout 0 (by decide)]; exact HA.out.all (K3.out.trans hR (fun _ _ x => x)), Kept.refl _ _⟩
        refine steps_cons ?_ ?_
        · refine Step.when 1 true 40 rfl rfl fun a w hR hout hD => ?_
          have g40 : a.eval (.tmp 40) = .bool true := hD.get 0 rfl rfl rfl
          refine ⟨g40, ?_⟩
          exact y_move rfl ⟨by rw [hout 6 (by decide)]; exact rfl, Kept.refl _ _⟩
        refine steps_cons ?_ ?_
        · refine Step.when 1 true 40 rfl rfl fun a w hR hout hD => ?_
          have hR0 := hR
          have g45 : BytesArg w (a.eval (.tmp 45)) (l1) := hD.get 0 rfl rfl rfl
          have g46 : a.eval (.tmp 46) = .int .i64 (k : Int) := hD.get 1 rfl rfl rfl
          have g40 : a.eval (.tmp 40) = .bool true := hD.get 2 rfl rfl rfl
          refine ⟨g40, ?_⟩
          exact y_upto rfl g45 g46 (by rw [HN.out]; exact hn1) (fun v' h' => ⟨h', Kept.refl _ _⟩)
        refine steps_cons ?_ ?_
        · refine Step.when 1 true 40 rfl rfl fun a w hR hout hD => ?_
          have hR0 := hR
          have g44 : a.eval (.tmp 44) = tabV ieee := hD.get 0 rfl rfl rfl
          have g47 : BytesArg w (a.eval (.tmp 47)) (l1.take k) := hD.get 1 rfl rfl rfl
          have g40 : a.eval (.tmp 40) = .bool true := hD.get 3 rfl rfl rfl
          refine ⟨g40, ?_⟩
          exact y_call2 rfl rfl rfl (fun _ _ => by kernel_rfl) (by rw [g44]; exact call_eq (sum_any ieee _ _ w ieee_lt g47))
        refine steps_cons ?_ ?_
        · refine Step.when 1 true 40 rfl rfl fun a w hR hout hD => ?_
          have hR0 := hR
          have g40 : a.eval (.tmp 40) = .bool true := hD.get 0 rfl rfl rfl
          refine ⟨g40, ?_⟩
          exact y_load_row rfl _ (by rw [hout 9 (by decide)]; rfl) _ _ (0, 0) _ (T3.out.all hR0) Try.underlying26 rfl (tab_size ieee) ⟨rfl, Kept.refl _ _⟩
        refine steps_cons ?_ ?_
        · refine Step.when 1 true 40 rfl rfl fun a w hR hout hD => ?_
          have g40 : a.eval (.tmp 40) = .bool true := hD.get 0 rfl rfl rfl
          refine ⟨g40, ?_⟩
          exact y_move rfl ⟨by rw [hout 1 (by decide)]; exact HB.out.all (K3.out.trans hR (fun _ _ x => x)), Kept.refl _ _⟩
        refine steps_cons ?_ ?_
        · refine Step.when 1 true 40 rfl rfl fun a w hR hout hD => ?_
          have g40 : a.eval (.tmp 40) = .bool true := hD.get 0 rfl rfl rfl
          refine ⟨g40, ?_⟩
          exact y_move rfl ⟨by rw [hout 6 (by decide)]; exact rfl, Kept.refl _ _⟩
        refine steps_cons ?_ ?_
        · refine Step.when 1 true 40 rfl rfl fun a w hR hout hD => ?_
          have hR0 := hR
          have g50 : BytesArg w (a.eval (.tmp 50)) (l2) := hD.get 0 rfl rfl rfl
          have g51 : a.eval (.tmp 51) = .int .i64 (k : Int) := hD.get 1 rfl rfl rfl
          have g40 : a.eval (.tmp 40) = .bool true := hD.get 2 rfl rfl rfl
          refine ⟨g40, ?_⟩
          exact y_upto rfl g50 g51 (by rw [HM.out]; exact hn2) (fun v' h' => ⟨h', Kept.refl _ _⟩)
        refine steps_cons ?_ ?_
        · refine Step.when 1 true 40 rfl rfl fun a w hR hout hD => ?_
          have hR0 := hR
          have g49 : a.eval (.tmp 49) = tabV ieee := hD.get 0 rfl rfl rfl
          have g52 : BytesArg w (a.eval (.tmp 52)) (l2.take k) := hD.get 1 rfl rfl rfl
          have g40 : a.eval (.tmp 40) = .bool true := hD.get 3 rfl rfl rfl
          refine ⟨g40, ?_⟩
          exact y_call2 rfl rfl rfl (fun _ _ => by kernel_rfl) (by rw [g49]; exact call_eq (sum_any ieee _ _ w ieee_lt g52))
        refine steps_cons ?_ ?_
        · refine Step.when 1 true 40 rfl rfl fun a w hR hout hD => ?_
          have hR0 := hR
          have g48 : a.eval (.tmp 48) = .int .u32 ((more ieee 0 (l1.take k) : Nat) : Int) := hD.get 0 rfl rfl rfl
          have g53 : a.eval (.tmp 53) = .int .u32 ((more ieee 0 (l2.take k) : Nat) : Int) := hD.get 1 rfl rfl rfl
          have g40 : a.eval (.tmp 40) = .bool true := hD.get 2 rfl rfl rfl
          refine ⟨g40, ?_⟩
          exact y_xor rfl g48 g53 ⟨congrArg (Value.int _) (u32_xor_nat _ _ M1.out M2.out), Kept.refl _ _⟩
        refine steps_cons ?_ ?_
        · refine Step.when 1 true 40 rfl rfl fun a w hR hout hD => ?_
          have hR0 := hR
          have g40 : a.eval (.tmp 40) = .bool true := hD.get 0 rfl rfl rfl
          refine ⟨g40, ?_⟩
          exact y_load_row rfl _ (by rw [hout 9 (by decide)]; rfl) _ _ (0, 0) _ (T3.out.all hR0) Try.underlying26 rfl (tab_size ieee) ⟨rfl, Kept.refl _ _⟩
        refine steps_cons ?_ ?_
        · refine Step.when 1 true 40 rfl rfl fun a w hR hout hD => ?_
          have g40 : a.eval (.tmp 40) = .bool true := hD.get 0 rfl rfl rfl
          refine ⟨g40, ?_⟩
          exact y_move rfl ⟨by rw [hout 6 (by decide)]; exact rfl, Kept.refl _ _⟩
        refine steps_cons ?_ ?_
        · refine Step.when 1 true 40 rfl rfl fun a w hR hout hD => ?_
          have hR0 := hR
          have g56 : a.eval (.tmp 56) = .int .i64 (k : Int) := hD.get 0 rfl rfl rfl
          have g40 : a.eval (.tmp 40) = .bool true := hD.get 2 rfl rfl rfl
          refine ⟨g40, ?_⟩
          exact y_make rfl g56 g56 (by omega) ⟨(row_zeros w 0 _ (Nat.zero_le _) (by omega)).bytes, (Kept.refl _ _).alloc _⟩
        refine steps_cons ?_ ?_
        · refine Step.when 1 true 40 rfl rfl fun a w hR hout hD => ?_
          have hR0 := hR
          have g55 : a.eval (.tmp 55) = tabV ieee := hD.get 0 rfl rfl rfl
          have g57 : BytesArg w (a.eval (.tmp 57)) (List.replicate k 0) := hD.get 1 rfl rfl rfl
          have g40 : a.eval (.tmp 40) = .bool true := hD.get 3 rfl rfl rfl
          refine ⟨g40, ?_⟩
          exact y_call2 rfl rfl rfl (fun _ _ => by kernel_rfl) (by rw [g55]; exact call_eq (sum_any ieee _ _ w ieee_lt g57))
        refine steps_cons ?_ ?_
        · refine Step.when 1 true 40 rfl rfl fun a w hR hout hD => ?_
          have hR0 := hR
          have g54 : a.eval (.tmp 54) = .int .u32 ((more ieee 0 (l1.take k) ^^^ more ieee 0 (l2.take k) : Nat) : Int) := hD.get 0 rfl rfl rfl
          have g58 : a.eval (.tmp 58) = .int .u32 ((more ieee 0 (List.replicate k 0) : Nat) : Int) := hD.get 1 rfl rfl rfl
          have g40 : a.eval (.tmp 40) = .bool true := hD.get 2 rfl rfl rfl
          refine ⟨g40, ?_⟩
          exact y_xor rfl g54 g58 ⟨congrArg (Value.int _) (u32_xor_nat _ _ (Nat.xor_lt_two_pow (n := 32) M1.out M2.out) M3.out), Kept.refl _ _⟩
        refine steps_cons ?_ ?_
        · refine Step.when 1 true 40 rfl rfl fun a w hR hout hD => ?_
          have g43 : a.eval (.tmp 43) = .int .u32 ((more ieee 0 (xorL l1 l2) : Nat) : Int) := hD.get 0 rfl rfl rfl
          have g59 : a.eval (.tmp 59) = .int .u32 ((more ieee 0 (l1.take k) ^^^ more ieee 0 (l2.take k) ^^^ more ieee 0 (List.replicate k 0) : Nat) : Int) := hD.get 1 rfl rfl rfl
          have g40 : a.eval (.tmp 40) = .bool true := hD.get 2 rfl rfl rfl
          refine ⟨g40, ?_⟩
          exact y_eql_int rfl g43 g59 ⟨by show Value.bool _ = _; exact congrArg Value.bool (eq_true HAdd.out), Kept.refl _ _⟩
        refine steps_cons ?_ ?_
        · refine Step.one rfl fun a w hR hout hD => ?_
          have g40 : a.eval (.tmp 40) = .bool true := hD.get 0 rfl rfl rfl
          have g60 : a.eval (.tmp 60) = .bool true := hD.get 1 rfl rfl rfl
          exact y_pick_true rfl g40 ⟨g60, Kept.refl _ _⟩
        refine steps_cons ?_ ?_
        · refine Step.one rfl fun a w hR hout hD => ?_
          have g61 : a.eval (.tmp 61) = .bool true := hD.get 0 rfl rfl rfl
          exact y_assign rfl ⟨g61, Kept.refl _ _⟩
        exact steps_nil
      intro v wE hE hG
      have e4 : v 23 = .bool true := hG 23 (by simp)
      clear hG
      simp only [putAll, Act.put, List.setIfInBounds_toArray, List.set_cons_succ, List.set_cons_zero, Nat.reduceAdd, e4]
      have K5 := Lib.hid (K3.out.trans hE (fun _ _ x => x)); clear hE
      go_wp2
      go_ret
      exact ⟨rfl, K5.out.fin⟩
end Go.Proofs.Ytikblokigeabjaa
