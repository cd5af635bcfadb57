/- What Make, More and Sum do, and the document's More: a table goes by value. -/
import Derived.Test.YtikblokigeabjaaCr
import Derived.Test.YtikblokigeabjaaAr
namespace Go.Proofs.Ytikblokigeabjaa
open Go.RowKit

/-- A table's cells while it is being made: the first k of them. -/
def tabL (poly k : Nat) : List Value := (List.range 256).map fun i : Nat => .int .u32 (((if i < k then tab poly i else 0 : Nat)) : Int)

theorem tabL_length (poly k : Nat) : (tabL poly k).length = 256 := by simp [tabL]

theorem tabL_zero (poly : Nat) : (tabL poly 0).toArray = Array.replicate 256 (.int .u32 0) := by
  unfold tabL
  apply Array.ext'
  rw [Array.toList_replicate, show (256 : Nat) = (List.range 256).length by simp, ← List.map_const']
  simp

theorem tabL_set (poly k : Nat) (hk : k < 256) : (tabL poly k).toArray.setIfInBounds k (.int .u32 ((tab poly k : Nat) : Int)) = (tabL poly (k + 1)).toArray := by
  rw [List.setIfInBounds_toArray]
  congr 1
  apply List.ext_getElem?
  intro i
  unfold tabL
  rw [List.getElem?_set]
  simp only [List.length_map, List.length_range, List.getElem?_map]
  by_cases h : k = i
  · subst h
    simp [hk]
  · rw [if_neg h]
    by_cases hi : i < 256
    · rw [List.getElem?_range hi]
      simp only [Option.map_some]
      have : (i < k) = (i < k + 1) := by apply propext; constructor <;> intro <;> omega
      simp only [this]
    · rw [List.getElem?_eq_none (by simp; omega)]; rfl

/-- A table as a value. -/
def tabV (poly : Nat) : Value := .agg (tabL poly 256).toArray

theorem tabL_at (poly i : Nat) (hi : i < 256) : (tabL poly 256)[i]? = some (.int .u32 ((tab poly i : Nat) : Int)) := by
  unfold tabL
  rw [List.getElem?_map, List.getElem?_range hi]
  simp [hi]

theorem tabL_one (poly k : Nat) : ∀ u ∈ tabL poly k, u.oneCell' = true := by
  intro u hu
  obtain ⟨x, _, rfl⟩ := List.mem_map.1 hu
  rfl

theorem Try.info_tab : (Try.prog.info? 26).map (fun i => (i.zero, i.size)) = some (some (.agg (Array.replicate 256 (.int .u32 0))), 256) := by kernel_rfl
theorem Try.size_tab : (Try.prog.info? 26).map (·.size) = some 256 := (zero_of_info Try.info_tab).2

/-- The blocks while a table is being made: the result's, the table's own, the polynomial's. -/
def Mk (w wr : World) (poly k : Nat) : Prop :=
  wr.heap[w.heap.size]? = some (.cells (tabL poly 0).toArray 26 (0, 0)) ∧ wr.heap[w.heap.size + 1]? = some (.cells (tabL poly k).toArray 26 (0, 0)) ∧
  wr.heap[w.heap.size + 2]? = some (.cells #[.int .u32 (poly : Int)] 22 (0, 0)) ∧ Kept (fun _ => False) w wr

theorem Mk.start (w : World) (poly : Nat) : Mk w (((w.alloc (.cells (tabL poly 0).toArray 26)).alloc (.cells (tabL poly 0).toArray 26)).alloc (.cells #[.int .u32 (poly : Int)] 22)) poly 0 := by
  have e0 := heap_alloc_new w (.cells (tabL poly 0).toArray 26)
  have s1 : (w.alloc (.cells (tabL poly 0).toArray 26)).heap.size = w.heap.size + 1 := by simp
  have e1 := heap_alloc_new (w.alloc (.cells (tabL poly 0).toArray 26)) (.cells (tabL poly 0).toArray 26)
  have s2 : ((w.alloc (.cells (tabL poly 0).toArray 26)).alloc (.cells (tabL poly 0).toArray 26)).heap.size = w.heap.size + 2 := by simp
  have e2 := heap_alloc_new ((w.alloc (.cells (tabL poly 0).toArray 26)).alloc (.cells (tabL poly 0).toArray 26)) (.cells #[.int .u32 (poly : Int)] 22)
  rw [s1] at e1
  rw [s2] at e2
  refine ⟨?_, ?_, e2, (((Kept.refl _ _).alloc _).alloc _).alloc _⟩
  · exact (Below.heap_alloc _ _ _ (by omega)).trans ((Below.heap_alloc _ _ _ (by omega)).trans e0)
  · exact (Below.heap_alloc _ _ _ (by omega)).trans e1

theorem Mk.set {w wr : World} {poly k : Nat} (h : Mk w wr poly k) (hk : k < 256) : Mk w (wr.setCell ⟨w.heap.size + 1, k, none⟩ (.int .u32 ((tab poly k : Nat) : Int))) poly (k + 1) := by
  refine ⟨?_, ?_, ?_, h.2.2.2.setCell _ (fun hlt => by simp only at hlt; omega) _⟩
  · rw [heap_setCell_other _ _ _ _ _ (by omega)]; exact h.1
  · rw [heap_setCell_same _ _ _ _ h.2.1, tabL_set poly k hk]
  · rw [heap_setCell_other _ _ _ _ _ (by omega)]; exact h.2.2.1

set_option maxHeartbeats 1000000 in
set_option maxRecDepth 100000 in
theorem make_any (poly : Nat) (w : World) (hp : poly < 4294967296) :
    Calls Try.prog 10 #[.int .u32 (poly : Int)] w fun e w' => e = .returned (tabV poly) ∧ Kept (fun _ => False) w w' := by
  have hz := (zero_of_info Try.info_tab).1
  rw [← tabL_zero poly] at hz
  have HS := Lib.hid (Mk.start w poly)
  go_enter Try.func10, Try.ntmps10
  go_wp2_with (fail)
  refine (steps_any poly _).mono ?_
  rintro e w1 ⟨rfl, rfl⟩
  clear hz
  unfold stepFn
  go_wp2_with (fail)
  go_loopg [8] 256 (fun gg i wr => ∃ k : Nat, k + gg = 256 ∧ i = .int .i64 (k : Int) ∧ Mk w wr poly k)
  case atStart => exact ⟨0, by omega, rfl, HS.out⟩
  case round =>
    obtain ⟨k, hk, rfl, hm⟩ := hrel
    have HM := Lib.hid hm; clear hm HS
    by_cases hlt : k < 256
    · go_wp2_with (fail)
      have c := step_any poly k (w.heap.size + 1 + 1) wr (by omega) hp HM.out.2.2.1
      refine c.mono ?_
      rintro e w3 ⟨rfl, rfl⟩
      have hc : wr.cell? ⟨w.heap.size + 1, k, none⟩ = some (.int .u32 0) := by rw [cell_of_heap HM.out.2.1]; simp [tabL, hlt]
      have hf : wr.frozen? ⟨w.heap.size + 1, k, none⟩ = false := frozen_of_heap HM.out.2.1
      have HM2 := Lib.hid (HM.out.set hlt)
      generalize tab poly k = x at *
      go_wp2
      go_roundg (gk - 1)
      case measure => omega
      case rel => exact ⟨k + 1, by omega, by go_num, HM2.out⟩
    · have ek : k = 256 := by omega
      subst ek
      obtain ⟨h1, h2, -, h4⟩ := HM.out
      have hl0 := tabL_length poly 0
      have hl1 := tabL_length poly 256
      have ho := tabL_one poly 256
      have hv : tabV poly = .agg (tabL poly 256).toArray := rfl
      generalize tabL poly 0 = c0 at *
      generalize tabL poly 256 = c at *
      have HV := Lib.hid hv; clear hv
      have H1 := Lib.hid h1; have H2 := Lib.hid h2; have H4 := Lib.hid h4; have HL0 := Lib.hid hl0; have HL1 := Lib.hid hl1; have HO := Lib.hid ho
      clear h1 h2 h4 hl0 hl1 ho HM
      go_wp2_with (refine wpList_load_row rfl 26 (.tmp 3) rfl (w.heap.size + 1) rfl c.toArray 26 (0, 0) _ H2.out Try.underlying26 rfl (by rw [List.size_toArray, HL1.out]; exact Try.size_tab) ?_; refine wpList_store_row rfl 26 (.tmp 2) (.tmp 18) rfl w.heap.size c0.toArray c.toArray 26 rfl rfl H1.out (by rw [List.size_toArray, List.size_toArray, HL1.out, HL0.out]) (by rw [List.size_toArray, HL1.out]; exact Try.size_tab) (all_oneCell_toArray HO.out) ?_)
      intro w2 hr k2
      have HR := Lib.hid hr; have K2 := Lib.hid k2; clear hr k2
      go_wp2
      refine bodyPost_ret (v := .agg c.toArray) ?_ rfl ⟨by rw [HV.out], H4.out.trans K2.out (fun _ hi e => by omega)⟩
      exact results_cell rfl _ _ w.heap.size rfl _ 26 (0, 0) _ HR.out Try.underlying26 rfl (by rw [List.size_toArray, HL1.out]; exact Try.size_tab)

/-- A table in a block, that may be read. -/
def TabAt (w : World) (b poly : Nat) : Prop := w.heap[b]? = some (.cells (tabL poly 256).toArray 26 (0, 0))

theorem TabAt.all {w w' : World} {b poly : Nat} (h : TabAt w b poly) (k : Kept (fun _ => False) w w') : TabAt w' b poly := k.at h id

theorem ones_not (n : Nat) (h : n < 4294967296) : n ^^^ ones < 4294967296 := Nat.xor_lt_two_pow (n := 32) h (by decide)

theorem mod_xor (m c : Nat) (hc : c < 256) : (m ^^^ c) % 256 = m % 256 ^^^ c := by
  have h := Nat.xor_mod_two_pow (a := m) (b := c) (n := 8)
  have e : c % 2 ^ 8 = c := Nat.mod_eq_of_lt hc
  rw [e] at h
  exact h

set_option maxHeartbeats 1000000 in
set_option maxRecDepth 100000 in
theorem more_any (poly s : Nat) (v : Value) (l : List Nat) (w : World) (hp : poly < 4294967296) (hs : s < 4294967296) (h : BytesArg w v l) :
    Calls Try.prog 12 #[tabV poly, .int .u32 (s : Int), v] w fun e w' => e = .returned (.int .u32 ((more poly s l : Nat) : Int)) ∧ Kept (fun _ => False) w w' := by
  have h256 := h.lt256
  obtain ⟨a, cap, rfl, h1, h2, h3, -, hc⟩ := h
  have hn : l.length ≤ 9223372036854775807 := by unfold maxLen at h2; omega
  have HC := Lib.hid hc; clear hc h1 h2 h3
  have H256 := Lib.hid h256; clear h256
  generalize hN : l.length = n at *
  have HN := Lib.hid hN; clear hN
  have HK := Lib.hid ((Kept.refl (fun _ => False) w).alloc (.cells (tabL poly 256).toArray 26))
  have ht : TabAt _ _ poly := heap_alloc_new w (.cells (tabL poly 256).toArray 26)
  have HT := Lib.hid ht; clear ht
  have hu : IntKind.u32.signed = false := rfl
  have hx : bits .xor .u32 IntKind.u32.max (s : Int) = ((s ^^^ ones : Nat) : Int) := by rw [Nat.xor_comm]; exact u32_xor_nat ones s (by decide) hs
  have hst := ones_not s hs
  have hm : run poly (s ^^^ ones) l ^^^ ones = more poly s l := rfl
  generalize more poly s l = r at *
  generalize s ^^^ ones = s1 at *
  have HM := Lib.hid hm; clear hm
  unfold tabV
  generalize hc : (tabL poly 256).toArray = cs at *
  have HCS := Lib.hid hc; clear hc
  go_enter Try.func12, Try.ntmps12
  go_wp2_with (fail)
  clear hx
  go_loopg [7, 14] n (fun gg x i wr => ∃ (k m : Nat), k + gg = n ∧ i = .int .i64 (k : Int) ∧ x = .int .u32 (m : Int) ∧ m < 4294967296 ∧ run poly m (l.drop k) = run poly s1 l ∧ wr = w.alloc (.cells cs 26))
  case atStart => exact ⟨0, s1, by omega, rfl, rfl, hst, by simp, rfl⟩
  case round =>
    obtain ⟨k, m, hk, rfl, rfl, hm, hr, rfl⟩ := hrel
    have HR := Lib.hid hr; clear hr
    by_cases hlt : k < n
    · obtain ⟨b, off, rfl, hb, hcell⟩ := HC.out (by omega)
      have hx := hcell k hlt
      have hx256 := getD_lt H256.out k
      have hdr := drop_at (l := l) (k := k) (by rw [HN.out]; exact hlt)
      generalize l.getD k 0 = c at *
      have HDR := Lib.hid hdr; clear hdr hcell
      have hcx : (w.alloc (.cells cs 26)).cell? ⟨b, off + k, none⟩ = some (.int .u8 (c : Int)) := (World.cell?_of_block (HK.out.block b hb id)).trans hx
      have hx8 : bits .xor .u8 ((m : Int) % 256) (c : Int) = ((m % 256 ^^^ c : Nat) : Int) := u8_xor_nat (m % 256) c (by omega) hx256
      have hj := mod_xor m c hx256
      have hjl : (m ^^^ c) % 256 < 256 := by omega
      have htl := tab_lt poly ((m ^^^ c) % 256) hp (by omega)
      have hup : tab poly ((m ^^^ c) % 256) ^^^ m / 256 = upd poly m c := rfl
      have hul := upd_lt poly m c hp hm hx256
      rw [← hj] at hx8
      have hct : (w.alloc (.cells cs 26)).cell? ⟨w.heap.size, (m ^^^ c) % 256, none⟩ = some (.int .u32 ((tab poly ((m ^^^ c) % 256) : Nat) : Int)) := by
        have := HT.out
        unfold TabAt at this
        rw [cell_of_heap this, List.getElem?_toArray, tabL_at poly _ hjl]
      generalize (m ^^^ c) % 256 = j at *
      have hxx : bits .xor .u32 ((tab poly j : Nat) : Int) ((m : Int) / 256) = ((upd poly m c : Nat) : Int) := by
        rw [← hup]; exact u32_xor_nat (tab poly j) (m / 256) htl (by omega)
      generalize tab poly j = tj at *
      have hst2 : run poly (upd poly m c) (l.drop (k + 1)) = run poly s1 l := by rw [← HR.out, HDR.out]; rfl
      generalize upd poly m c = m' at *
      have HS2 := Lib.hid hst2; clear hst2 hup hj hx
      go_wp2
      go_roundg (gk - 1)
      case measure => omega
      case rel => exact ⟨k + 1, m', by omega, by go_num, rfl, hul, HS2.out, rfl⟩
    · have ek : k = n := by omega
      subst ek
      have hdr : l.drop k = [] := List.drop_eq_nil_of_le (by rw [HN.out]; exact Nat.le_refl _)
      rw [hdr] at HR
      clear hdr
      have hx : bits .xor .u32 IntKind.u32.max (m : Int) = ((m ^^^ ones : Nat) : Int) := by rw [Nat.xor_comm]; exact u32_xor_nat ones m (by decide) hm
      go_wp2
      go_ret
      refine ⟨?_, HK.out⟩
      rw [← HM.out, ← HR.out]
      rfl

theorem sum_any (poly : Nat) (v : Value) (l : List Nat) (w : World) (hp : poly < 4294967296) (h : BytesArg w v l) :
    Calls Try.prog 14 #[tabV poly, v] w fun e w' => e = .returned (.int .u32 ((more poly 0 l : Nat) : Int)) ∧ Kept (fun _ => False) w w' := by
  have HB := Lib.hid h
  obtain ⟨a, cap, rfl, -⟩ := h
  have HK := Lib.hid ((Kept.refl (fun _ => False) w).alloc (.cells (tabL poly 256).toArray 26))
  have HT := Lib.hid (heap_alloc_new w (.cells (tabL poly 256).toArray 26))
  have HM := Lib.hid (fun w1 h => more_any poly 0 (.slice a l.length cap) l w1 hp (by omega) h)
  unfold tabV at HM ⊢
  have hl : (tabL poly 256).toArray.size = 256 := by rw [List.size_toArray, tabL_length]
  generalize (tabL poly 256).toArray = cs at *
  have HL := Lib.hid hl; clear hl
  go_enter Try.func14, Try.ntmps14
  go_wp2_with (refine wpList_load_row rfl 26 (.tmp 2) rfl w.heap.size rfl cs 26 (0, 0) _ HT.out Try.underlying26 rfl (by rw [HL.out]; exact Try.size_tab) ?_)
  refine (HM.out _ (HB.out.all HK.out)).mono ?_
  rintro e w1 ⟨rfl, k1⟩
  have K1 := Lib.hid (HK.out.trans k1 (fun _ _ x => x)); clear k1
  go_wp2
  go_ret
  exact ⟨rfl, K1.out⟩

set_option maxHeartbeats 1000000 in
theorem ref_more (poly s : Nat) (v : Value) (l : List Nat) (w : World) (hp : poly < 4294967296) (hs : s < 4294967296) (h : BytesArg w v l) :
    Calls Try.prog 13 #[.int .u32 (poly : Int), .int .u32 (s : Int), v] w fun e w' => e = .returned (.int .u32 ((more poly s l : Nat) : Int)) ∧ w = w' := by
  have h256 := h.lt256
  obtain ⟨a, cap, rfl, h1, h2, h3, -, hc⟩ := h
  have hn : l.length ≤ 9223372036854775807 := by unfold maxLen at h2; omega
  have HC := Lib.hid hc; clear hc h1 h2 h3
  have H256 := Lib.hid h256; clear h256
  generalize hN : l.length = n at *
  have HN := Lib.hid hN; clear hN
  have hx : bits .xor .u32 (s : Int) 4294967295 = ((s ^^^ ones : Nat) : Int) := u32_xor_nat s ones hs (by decide)
  have hst := ones_not s hs
  have hm : run poly (s ^^^ ones) l ^^^ ones = more poly s l := rfl
  generalize more poly s l = r at *
  generalize s ^^^ ones = s1 at *
  have HM := Lib.hid hm; clear hm
  go_enter Try.func13, Try.ntmps13
  go_wp2_with (fail)
  clear hx
  go_loopg [7, 8] n (fun gg x i wr => ∃ (k m : Nat), k + gg = n ∧ i = .int .i64 (k : Int) ∧ x = .int .u32 (m : Int) ∧ m < 4294967296 ∧ run poly m (l.drop k) = run poly s1 l ∧ wr = w)
  case atStart => exact ⟨0, s1, by omega, rfl, rfl, hst, by simp, rfl⟩
  case round =>
    obtain ⟨k, m, hk, rfl, rfl, hm, hr, rfl⟩ := hrel
    have HR := Lib.hid hr; clear hr
    by_cases hlt : k < n
    · obtain ⟨b, off, rfl, hb, hcell⟩ := HC.out (by omega)
      have hcx := hcell k hlt
      have hx256 := getD_lt H256.out k
      have hdr := drop_at (l := l) (k := k) (by rw [HN.out]; exact hlt)
      generalize l.getD k 0 = c at *
      have HDR := Lib.hid hdr; clear hdr hcell
      have hxl : m ^^^ c < 4294967296 := Nat.xor_lt_two_pow (n := 32) hm (by omega)
      have hx8 : bits .xor .u32 (m : Int) (c : Int) = ((m ^^^ c : Nat) : Int) := u32_xor_nat m c hm (by omega)
      have hjl : (m ^^^ c) % 256 < 256 := by omega
      have htl := tab_lt poly ((m ^^^ c) % 256) hp (by omega)
      have hup : tab poly ((m ^^^ c) % 256) ^^^ m / 256 = upd poly m c := rfl
      have hul := upd_lt poly m c hp hm hx256
      have hst2 : run poly (upd poly m c) (l.drop (k + 1)) = run poly s1 l := by rw [← HR.out, HDR.out]; rfl
      have hxx : bits .xor .u32 ((tab poly ((m ^^^ c) % 256) : Nat) : Int) ((m : Int) / 256) = ((upd poly m c : Nat) : Int) := by
        rw [← hup]; exact u32_xor_nat (tab poly ((m ^^^ c) % 256)) (m / 256) htl (by omega)
      have hcs := ref_step poly ((m ^^^ c) % 256) wr (by omega) hp
      rw [show (((m ^^^ c) % 256 : Nat) : Int) = ((m ^^^ c : Nat) : Int) % 256 by omega] at hcs
      generalize m ^^^ c = j at *
      have HCS := Lib.hid hcs; clear hcs
      generalize tab poly (j % 256) = tj at *
      generalize upd poly m c = m' at *
      have HS2 := Lib.hid hst2; clear hst2 hup
      go_wp2_with (fail)
      refine HCS.out.mono ?_
      rintro e w3 ⟨rfl, rfl⟩
      go_wp2
      go_roundg (gk - 1)
      case measure => omega
      case rel => exact ⟨k + 1, m', by omega, by go_num, rfl, hul, HS2.out, rfl⟩
    · have ek : k = n := by omega
      subst ek
      have hdr : l.drop k = [] := List.drop_eq_nil_of_le (by rw [HN.out]; exact Nat.le_refl _)
      rw [hdr] at HR
      clear hdr
      have hx : bits .xor .u32 (m : Int) 4294967295 = ((m ^^^ ones : Nat) : Int) := u32_xor_nat m ones hm (by decide)
      go_wp2
      go_ret
      refine ⟨?_, rfl⟩
      rw [← HM.out, ← HR.out]
      rfl
end Go.Proofs.Ytikblokigeabjaa
