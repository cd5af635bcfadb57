/- A writer's Signed, Bytes and Many; and all of a writer's calls on none. -/
import Derived.Test.YtipimcnjcpckeaaDoorWr2
namespace Go.Proofs.YtipimcnjcpckeaaDoor
open Go.RowKit

/-- A number, clamped to -2^30 to 2^30. -/
def clampSigned (n : Int) : Int := min (max n (-1073741824)) 1073741824

def signedBits (n : Int) : List Bool := if 0 < clampSigned n then wholeBits (2 * clampSigned n - 1) else wholeBits (-2 * clampSigned n)

set_option maxHeartbeats 400000 in
theorem signed_any (p : Nat) (r : Option Nat) (bs : List Bool) (n : Int) (w : World) (hm : bs.length + 64 < 1099511627776) (h : WrIs w p r bs) :
    Calls Tryd.prog 25 #[.pointer (some ⟨p, 0, none⟩), .int .i64 n] w fun e w' => e = .returned (.tuple #[]) ∧ Wrote w w' p r (bs ++ signedBits n) := by
  have H0 := Lib.hid h; clear h
  have hc0 : -1073741824 ≤ min (max n (-1073741824)) 1073741824 := by omega
  have hc1 : min (max n (-1073741824)) 1073741824 ≤ 1073741824 := by omega
  by_cases hpos : 0 < min (max n (-1073741824)) 1073741824
  · have hs : signedBits n = wholeBits (2 * min (max n (-1073741824)) 1073741824 - 1) := by unfold signedBits clampSigned; rw [if_pos hpos]
    have HS := Lib.hid hs; clear hs
    go_enter Tryd.func25, Tryd.ntmps25
    go_wp2_with (fail)
    refine (whole_any p r bs _ _ (by omega) H0.out).mono ?_
    rintro e w1 ⟨rfl, hw1⟩
    have HW := Lib.hid hw1; clear hw1
    go_wp2
    go_end0
    exact ⟨rfl, by rw [HS.out]; exact HW.out⟩
  · have hs : signedBits n = wholeBits (-2 * min (max n (-1073741824)) 1073741824) := by unfold signedBits clampSigned; rw [if_neg hpos]
    have HS := Lib.hid hs; clear hs
    go_enter Tryd.func25, Tryd.ntmps25
    go_wp2_with (fail)
    refine (whole_any p r bs _ _ (by omega) H0.out).mono ?_
    rintro e w1 ⟨rfl, hw1⟩
    have HW := Lib.hid hw1; clear hw1
    go_wp2
    go_end0
    refine ⟨rfl, ?_⟩
    rw [HS.out]
    have := HW.out
    first | exact this | simpa using this

theorem many_any (p : Nat) (r : Option Nat) (bs : List Bool) (w : World) (h : WrIs w p r bs) :
    Calls Tryd.prog 14 #[.pointer (some ⟨p, 0, none⟩)] w fun e w' => e = .returned (.int .i64 (bs.length : Int)) ∧ w = w' := by
  obtain ⟨v, hp, -, -, -⟩ := h
  have h1 : w.cell? ⟨p, 1, none⟩ = some (.int .i64 (bs.length : Int)) := by rw [cell_of_heap hp]; rfl
  clear hp
  go_enter Tryd.func14, Tryd.ntmps14
  go_wp2
  go_ret
  exact ⟨rfl, rfl⟩

/-- A new block of bytes, and nothing else has turned. -/
def NewBytes (w w' : World) (l : List Nat) (e : Ending) : Prop :=
  ∃ g, e = .returned (.slice (some ⟨g, 0, none⟩) l.length l.length) ∧ w.heap.size ≤ g ∧ w'.heap[g]? = some (.cells (byteVals l).toArray 5 (0, 0)) ∧ Kept (fun _ => False) w w'

theorem madeCells_one (z : Value) (n : Nat) : madeCells #[z] n = (List.replicate n z).toArray := by
  unfold madeCells
  apply Array.ext
  · simp
  · intro i h1 h2
    simp [Nat.mod_one]

theorem splice_whole {α : Type} (L cs : List α) (h : cs.length = L.length) : splice L 0 cs = cs := by
  unfold splice
  rw [List.take_zero, List.nil_append, Nat.zero_add, h, List.drop_length, List.append_nil]

theorem oneCell_byteVals (l : List Nat) : ∀ v ∈ byteVals l, v.oneCell' = true := by
  intro v hv
  obtain ⟨x, _, rfl⟩ := List.mem_map.1 hv
  rfl

theorem Tryd.size_u8 : (Tryd.prog.info? 5).map (·.size) = some 1 := by kernel_rfl

set_option maxHeartbeats 400000 in
theorem bytes_any (p : Nat) (r : Option Nat) (bs : List Bool) (w : World) (hm : bs.length < 1099511627776) (h : WrIs w p r bs) :
    Calls Tryd.prog 15 #[.pointer (some ⟨p, 0, none⟩)] w fun e w' => NewBytes w w' (pack bs) e := by
  have H0 := Lib.hid h
  obtain ⟨v, hp, hown, -, -⟩ := h
  have h0 : w.cell? ⟨p, 0, none⟩ = some v := by rw [cell_of_heap hp]; rfl
  have hnb : nbytes bs.length ≤ 1099511627776 := by unfold nbytes; omega
  have hpl : p < w.heap.size := lt_of_heap hp
  have hv : ∃ a cap, v = .slice a (nbytes bs.length) cap := by
    rcases hown.2 with ⟨rfl, h⟩ | ⟨g, cap, cur, rfl, _⟩
    · exact ⟨none, 0, by rw [h]⟩
    · exact ⟨_, cap, rfl⟩
  obtain ⟨a, cap, rfl⟩ := hv
  generalize hN : nbytes bs.length = n at *
  have HN := Lib.hid hN; clear hN
  have hmk := fun wx : World => run_make_row' (P := Tryd.prog) 25 5 (.int .u8 0) 1 Tryd.underlying25 Tryd.info_u8 rfl .i64 .i64 n (by omega) (by omega) wx
  have HO := Lib.hid hown; clear hown hp
  go_enter Tryd.func15, Tryd.ntmps15
  go_wp2_with (with_reducible refine wpList_copy_splice rfl (.tmp 12) (.tmp 16) 25 25 rfl 5 Tryd.underlying25 Tryd.size_u8 _ _ _ _ _ _ rfl rfl w.heap.size 0 (List.replicate n (.int .u8 0)) 5 ?hg (byteVals (pack bs)) ?hn ?hpos ?hfit (oneCell_byteVals _) w.heap.size w ?hb (Nat.le_refl _) ?_)
  case hg => rw [madeCells_one]; exact heap_alloc_new w _
  case hn => rw [byteVals_length, pack_length, HN.out]; simp
  case hpos =>
    intro h
    rw [byteVals_length, pack_length, HN.out] at h
    rcases HO.out.2 with ⟨_, h'⟩ | ⟨g, cap', cur, hv, _⟩
    · omega
    · cases hv
      refine ⟨⟨g, 0, none⟩, rfl, fun j v hj => ?_⟩
      have hc := HO.out.cells (g := g) rfl j v hj
      have hlt : g < w.heap.size := (HO.out.lt g rfl).2
      rw [Addr.add_lit] at hc ⊢
      rw [World.cell?_alloc_past _ _ _ hlt]; exact hc
  case hfit => rw [byteVals_length, pack_length, HN.out]; simp
  case hb => exact (Below.refl _ _).alloc (Nat.le_refl _) _
  intro w2 HG2 hB2
  have HB := Lib.hid hB2; clear hB2
  go_wp2
  go_ret
  refine ⟨w.heap.size, ?_, Nat.le_refl _, ?_, Below.kept HB.out⟩
  · have e : (pack bs).length = n := by rw [pack_length, HN.out]
    rw [e]; rfl
  · rw [HG2.out, splice_whole _ _ (by rw [byteVals_length, pack_length, HN.out]; simp)]

/- The calls on none. -/
theorem bit_nil (b : Int) (w : World) : Calls Tryd.prog 39 #[.pointer none, .int .i64 b] w fun e w' => e = .returned (.tuple #[]) ∧ w = w' := by
  go_enter Tryd.func39, Tryd.ntmps39
  go_wp2
  first | go_end0 | refine bodyPost_ret (results_none rfl _ _ _) rfl ?_
  exact ⟨rfl, rfl⟩

theorem many_nil (w : World) : Calls Tryd.prog 14 #[.pointer none] w fun e w' => e = .returned (.int .i64 0) ∧ w = w' := by
  go_enter Tryd.func14, Tryd.ntmps14
  go_wp2
  go_ret
  exact ⟨rfl, rfl⟩

theorem bytes_nil (w : World) : Calls Tryd.prog 15 #[.pointer none] w fun e w' => e = .returned (.slice none 0 0) ∧ w = w' := by
  go_enter Tryd.func15, Tryd.ntmps15
  go_wp2
  go_ret
  exact ⟨rfl, rfl⟩

theorem end_nil (w : World) : Calls Tryd.prog 23 #[.pointer none] w fun e w' => e = .returned (.tuple #[]) ∧ w = w' := by
  go_enter Tryd.func23, Tryd.ntmps23
  go_wp2
  first | go_end0 | refine bodyPost_ret (results_none rfl _ _ _) rfl ?_
  exact ⟨rfl, rfl⟩

set_option maxHeartbeats 400000 in
theorem fixed_nil (n k : Int) (w : World) : Calls Tryd.prog 41 #[.pointer none, .int .i64 n, .int .i64 k] w fun e w' => e = .returned (.tuple #[]) ∧ w = w' := by
  by_cases hk : k < 0 ∨ 32 < k
  · exact fixed_no _ n k w hk
  · obtain ⟨m, rfl⟩ := Int.eq_ofNat_of_zero_le (show 0 ≤ k by omega)
    have hm : m ≤ 32 := by omega
    clear hk
    go_enter Tryd.func41, Tryd.ntmps41
    go_wp2_with (fail)
    go_loopw [6] (fun i wr => ∃ (j : Nat), j ≤ m ∧ i = .int .i64 ((j : Int) - 1) ∧ w = wr) (fun i _ => (intOf i + 1).toNat)
    case atStart => exact ⟨m, Nat.le_refl _, rfl, rfl⟩
    case round =>
      obtain ⟨j, hj, rfl, rfl⟩ := hrel
      cases j with
      | zero =>
        go_wp2
        first | go_end0 | refine bodyPost_ret (results_none rfl _ _ _) rfl ?_
        exact ⟨rfl, rfl⟩
      | succ j =>
        go_wp2_with (fail)
        refine (bit_nil _ _).mono ?_
        rintro e w' ⟨rfl, rfl⟩
        go_wp2
        go_roundw
        case rel => first | exact ⟨j, by omega, by go_num, rfl⟩ | exact ⟨j, by omega, by go_num, trivial⟩
        case measure => simp [intOf]

theorem whole_nil (n : Int) (w : World) : Calls Tryd.prog 24 #[.pointer none, .int .i64 n] w fun e w' => e = .returned (.tuple #[]) ∧ w = w' := by
  go_enter Tryd.func24, Tryd.ntmps24
  go_wp2_with (fail)
  have hc0 : 0 ≤ min (max n 0) 2147483647 := by omega
  have hc1 : min (max n 0) 2147483647 ≤ 2147483647 := by omega
  generalize min (max n 0) 2147483647 = c at *
  refine (Tryd.len64_any (c + 1) _ (by omega) (by omega)).mono ?_
  rintro e w' ⟨rfl, rfl⟩
  have hb := bitLen_le32 (c + 1).toNat (by omega) (by omega)
  generalize Lib.bitLen (c + 1).toNat = k at *
  obtain ⟨hk1, hk2⟩ := hb
  go_wp2_with (fail)
  refine (fixed_nil _ _ _).mono ?_
  rintro e w' ⟨rfl, rfl⟩
  go_wp2_with (fail)
  refine (fixed_nil _ _ _).mono ?_
  rintro e w' ⟨rfl, rfl⟩
  go_wp2
  go_end0
  exact ⟨rfl, rfl⟩

theorem signed_nil (n : Int) (w : World) : Calls Tryd.prog 25 #[.pointer none, .int .i64 n] w fun e w' => e = .returned (.tuple #[]) ∧ w = w' := by
  by_cases hpos : 0 < min (max n (-1073741824)) 1073741824
  all_goals
    go_enter Tryd.func25, Tryd.ntmps25
    go_wp2_with (fail)
    refine (whole_nil _ _).mono ?_
    rintro e w' ⟨rfl, rfl⟩
    go_wp2
    go_end0
    exact ⟨rfl, rfl⟩
end Go.Proofs.YtipimcnjcpckeaaDoor
