/- awake of layer 3: it answers true, and nothing that was there has turned. -/
import Derived.Test.YtikblokigeabjaaCm
import Derived.Test.YtikblokigeabjaaYn
import Derived.Lib.SlBytesConst
namespace Go.Proofs.Ytikblokigeabjaa
open Go.RowKit

theorem tab_size (poly : Nat) : (Try.prog.info? 26).map (·.size) = some (tabL poly 256).toArray.size := by rw [List.size_toArray, tabL_length]; exact Try.size_tab

theorem tab_zero_run (poly : Nat) : ∀ w, (zeroValue 26).run Try.prog w = .ok (.agg (tabL poly 0).toArray) w := by
  have hz := (zero_of_info Try.info_tab).1
  rw [← tabL_zero poly] at hz
  exact hz

/-- A table as cells of which nothing more is said. -/
theorem tab_some (poly : Nat) : ∃ cs z : Array Value, tabV poly = .agg cs ∧ z.size = cs.size ∧ cs.all (·.oneCell') = true ∧ (Try.prog.info? 26).map (·.size) = some cs.size ∧
    (∀ w, (zeroValue 26).run Try.prog w = .ok (.agg z) w) ∧ ∀ w b, w.heap[b]? = some (.cells cs 26 (0, 0)) ↔ TabAt w b poly :=
  ⟨(tabL poly 256).toArray, (tabL poly 0).toArray, rfl, by rw [List.size_toArray, List.size_toArray, tabL_length, tabL_length], all_oneCell_toArray (tabL_one poly 256), tab_size poly, tab_zero_run poly, fun _ _ => Iff.rfl⟩

def ieee : Nat := 3988292384
theorem ieee_lt : ieee < 4294967296 := by decide
def lC1 : List Nat := [49, 50, 51, 52, 53, 54, 55, 56, 57]
theorem sC1 : more ieee 0 [49, 50, 51, 52, 53, 54, 55, 56, 57] = 3421780262 := by decide +kernel

/-- The bytes of a text that stands in the program. -/
theorem BytesArg.const (w : World) (l : List Nat) (hl : l.length ≤ maxLen) (h : ∀ x ∈ l, x < 256) (fr : Nat × Nat) : BytesArg (w.alloc (.cells (byteVals l).toArray 5 fr)) (.slice (some ⟨w.heap.size, 0, none⟩) l.length l.length) l := by
  refine ⟨some ⟨w.heap.size, 0, none⟩, l.length, rfl, Nat.le_refl _, hl, by simp, h, fun _ => ⟨w.heap.size, 0, rfl, by simp, fun i hi => ?_⟩⟩
  rw [Nat.zero_add, cell_of_heap (heap_alloc_new w _), List.getElem?_toArray]
  exact byteVals_at l i hi

set_option maxHeartbeats 1000000 in
set_option maxRecDepth 100000 in
theorem awake_any (w : World) :
    Calls Try.prog 9 #[] w fun e w' => e = .returned (.bool true) ∧ Kept (fun _ => False) w w' := by
  obtain ⟨cs, z, hv, hzs, hone, hsz, hz, hat⟩ := tab_some ieee
  have HV := Lib.hid hv; have HZS := Lib.hid hzs; have HO := Lib.hid hone; have HS := Lib.hid hsz; have HAt := Lib.hid hat; clear hv hzs hone hsz hat
  have hcv := fun (w : World) (C : Array Value) (n c : Nat) => Lib.run_convert_bytes_const (P := Try.prog) w 23 5 C n c Try.underlying23 Try.underlying5
  go_enter Try.func9, Try.ntmps9
  go_wp2_with (fail)
  refine (make_any ieee _ ieee_lt).mono ?_
  rw [HV.out]
  rintro e w1 ⟨rfl, k1⟩
  have K1 := Lib.hid k1; clear k1
  go_wp2_with (refine wpList_store_row rfl 26 (.tmp 1) (.tmp 2) rfl w1.heap.size z cs 26 rfl rfl (heap_alloc_new w1 _) HZS.out HS.out HO.out ?_)
  intro w2 t2 k2
  have T2 := Lib.hid t2; have K2 := Lib.hid (K1.out.trans k2.laid (fun _ _ x => x)); clear t2 k2 hz K1
  generalize w1.heap.size = tb at *
  go_wp2_with (refine wpList_load_row rfl 26 (.tmp 1) rfl tb rfl cs 26 (0, 0) _ T2.out Try.underlying26 rfl HS.out ?_)
  have k3 := (Kept.refl (fun _ => False) w2).alloc (.cells (byteVals [49, 50, 51, 52, 53, 54, 55, 56, 57]).toArray 5 (9, 10))
  have c := sum_any ieee _ [49, 50, 51, 52, 53, 54, 55, 56, 57] _ ieee_lt (BytesArg.const w2 [49, 50, 51, 52, 53, 54, 55, 56, 57] (by decide) (by decide) (9, 10))
  rw [HV.out, sC1] at c
  refine c.mono ?_
  rintro e w4 ⟨rfl, k4⟩
  have k5 := k3.trans k4 (fun _ _ x => x)
  have T4 := Lib.hid (k5.at T2.out id); have K4 := Lib.hid (K2.out.trans k5 (fun _ _ x => x)); clear c k3 k4 k5 T2 K2
  go_wp2_with (refine wpList_load_row rfl 26 (.tmp 1) rfl tb rfl cs 26 (0, 0) _ T4.out Try.underlying26 rfl HS.out ?_)
  have c := sum_any ieee _ [] w4 ieee_lt (BytesArg.nil w4)
  rw [HV.out, more_nil] at c
  refine c.mono ?_
  rintro e w5 ⟨rfl, k5⟩
  have T5 := Lib.hid (k5.at T4.out id); have K5 := Lib.hid (K4.out.trans k5 (fun _ _ x => x)); clear c k5 T4 K4
  go_wp2_with (refine wpList_load_row rfl 26 (.tmp 1) rfl tb rfl cs 26 (0, 0) _ T5.out Try.underlying26 rfl HS.out ?_)
  have c := more_any ieee 7 _ [] w5 ieee_lt (by decide) (BytesArg.nil w5)
  rw [HV.out, more_nil] at c
  refine c.mono ?_
  rintro e w6 ⟨rfl, k6⟩
  have K6 := Lib.hid (K5.out.trans k6 (fun _ _ x => x)); clear c k6
  go_wp2
  go_ret
  exact ⟨rfl, K6.out⟩
end Go.Proofs.Ytikblokigeabjaa
