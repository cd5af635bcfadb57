/- BitsWrite's walk. -/
import Derived.Test.YtbfmjomekkcpcaaParts
namespace Go.Proofs.Ytbfmjomekkcpcaa
open Go.RowKit

theorem run_text_row {w : World} {v : Value} {l : List Nat} (h : w.ownsRow 0 5 1 v l.length (byteVals l)) :
    (convert 30 9 v).run Try.prog w = .ok (.string (textOf l)) w := by
  rcases h.2 with ⟨rfl, h0⟩ | ⟨g, cap, cur, rfl, _, hg, _⟩
  · have hl : l = [] := List.eq_nil_of_length_eq_zero h0
    subst hl
    rw [run_convert_bytes_string w 30 9 5 _ _ _ Try.underlying30 Try.underlying5 Try.underlying9]
    simp [Conv.bytesToString, textOf]
  · rw [run_convert_bytes_string w 30 9 5 _ _ _ Try.underlying30 Try.underlying5 Try.underlying9]
    have hl := run_loadCells_list (P := Try.prog) w ⟨g, 0, none⟩ (byteVals l) (h.cells (g := g) rfl)
    rw [byteVals_length] at hl
    have e : (byteVals l).toArray = ((l.map fun n : Nat => (n : Int)).map (Value.int .u8)).toArray := by simp [byteVals]
    rw [e] at hl
    exact run_bytesToString w ⟨g, 0, none⟩ l.length cap _ hl

theorem fixedBits_one (n : Int) : fixedBits n 1 = [lowBit n] := by simp [fixedBits]

theorem ref_part1 (nn kk : Int) (len : Nat) (w : World) :
    Calls Try.prog 12 #[.int .i64 nn, .int .i64 1] w fun e w' => e = .returned (.string (strOf (partBits ⟨1, nn, kk⟩ len))) ∧ w = w' := by
  refine (ref_fixed_int nn 1 w (by omega) (by omega)).mono ?_
  rintro e w' ⟨rfl, rfl⟩
  refine ⟨?_, rfl⟩
  rw [show ((1 : Int).toNat) = 1 from rfl, fixedBits_one]; simp [partBits]

theorem ref_part2 (nn kk : Int) (len : Nat) (w : World) :
    Calls Try.prog 12 #[.int .i64 nn, .int .i64 kk] w fun e w' => e = .returned (.string (strOf (partBits ⟨2, nn, kk⟩ len))) ∧ w = w' := by
  by_cases hk : kk < 0 ∨ 32 < kk
  · have hp : partBits ⟨2, nn, kk⟩ len = [] := by simp [partBits, hk]
    rw [hp]; exact ref_fixed_no nn kk w hk
  · have hp : partBits ⟨2, nn, kk⟩ len = fixedBits nn kk.toNat := by simp [partBits, hk]
    rw [hp]; exact ref_fixed_int nn kk w (by omega) (by omega)

theorem ref_part3 (nn kk : Int) (len : Nat) (w : World) :
    Calls Try.prog 13 #[.int .i64 nn] w fun e w' => e = .returned (.string (strOf (partBits ⟨3, nn, kk⟩ len))) ∧ w = w' := ref_whole nn w

theorem ref_part4 (nn kk : Int) (len : Nat) (w : World) :
    Calls Try.prog 14 #[.int .i64 nn] w fun e w' => e = .returned (.string (strOf (partBits ⟨4, nn, kk⟩ len))) ∧ w = w' := ref_signed nn w

theorem ref_part5 (nn kk : Int) (len : Nat) (w : World) (h : len < 1099511627776) :
    Calls Try.prog 15 #[.int .i64 (len : Int)] w fun e w' => e = .returned (.string (strOf (partBits ⟨5, nn, kk⟩ len))) ∧ w = w' := ref_end len w h

theorem part_size (q : Pt) (len : Nat) : (strOf (partBits q len)).size ≤ 64 := by rw [strOf_size]; exact partBits_short _ _

set_option maxHeartbeats 8000000 in
set_option maxRecDepth 100000 in
theorem write_walk (v : Value) (ps : List Pt) (w : World) (h : PartsArg w v ps) (hm : ps.length ≤ maxLen) :
    Calls Try.prog 4 #[v] w fun e w' => e = .returned (.bool true) ∧ Below w.heap.size w w' := by
  unfold maxLen at hm
  have HA := Lib.hid h
  obtain ⟨a, cap, rfl, hc⟩ := h
  have HC := Lib.hid hc; clear hc
  generalize hN : ps.length = n at *
  have HN := Lib.hid hN; clear hN
  by_cases h100 : 100 < n
  · go_enter Try.func4, Try.ntmps4
    go_wp2_with (fail)
    refine (awake_any _).mono ?_
    rintro e w1 ⟨rfl, hk⟩
    have KA := Lib.hid hk; clear hk
    go_wp2
    go_ret
    exact ⟨rfl, KA.out.all⟩
  have hd100 : decide (100 < (n : Int)) = false := by simp; omega
  go_enter Try.func4, Try.ntmps4
  go_wp2_with (fail)
  refine (awake_any _).mono ?_
  rintro e w1 ⟨rfl, hk⟩
  have KA := Lib.hid hk; clear hk
  go_wp2_with (fail)
  go_loopg [4, 5] n (fun gg t s wr => ∃ i : Nat, i + gg = n ∧ s = .int .i64 (i : Int) ∧ t = .string (strOf (bitsUpto ps i)) ∧ Kept (fun _ => False) w wr)
  case atStart => exact ⟨0, by omega, rfl, rfl, KA.out⟩
  case round =>
    obtain ⟨i, hi, rfl, rfl, ho⟩ := hrel
    clear KA
    have HK := Lib.hid ho; clear ho
    have HI := Lib.hid hi
    by_cases hlt : i < n
    · obtain ⟨b, off, rfl, hb, hcell⟩ := HC.out (by omega)
      obtain ⟨q, hq⟩ : ∃ q, ps[i]? = some q := ⟨ps[i]'(by rw [HN.out]; exact hlt), List.getElem?_eq_getElem _⟩
      obtain ⟨c0, c1, c2⟩ := hcell i (by omega) q hq
      have hkk := HK.out
      have k0 := (World.cell?_of_block (a := ⟨b, off + i * 3, none⟩) (hkk.block b hb id)).trans c0
      have k1 := (World.cell?_of_block (a := ⟨b, off + i * 3 + 1, none⟩) (hkk.block b hb id)).trans c1
      have k2 := (World.cell?_of_block (a := ⟨b, off + i * 3 + 2, none⟩) (hkk.block b hb id)).trans c2
      have hsu := bitsUpto_succ ps i q hq
      have hsh := bitsUpto_short ps i
      have hgk : 0 < gk := by omega
      clear c0 c1 c2 hcell hkk hi
      have HQ := Lib.hid hq; clear hq
      obtain ⟨kd, nn, kk⟩ := q
      simp only at k0 k1 k2
      generalize hB : bitsUpto ps i = bs at *
      have HB := Lib.hid hB; clear hB
      have HSU := Lib.hid hsu; clear hsu
      have hlen : bs.length ≤ 6400 := by omega
      have hsz := strOf_size bs
      clear hsh
      by_cases e1 : kd = 1
      · subst e1
        go_wp2_with (fail)
        refine (ref_part1 nn kk bs.length _).mono ?_
        rintro e w2 ⟨rfl, rfl⟩
        have hs2 := part_size ⟨1, nn, kk⟩ bs.length
        change (strOf (partBits ⟨1, nn, kk⟩ bs.length)).size ≤ 64 at hs2
        generalize hX : strOf (partBits ⟨1, nn, kk⟩ bs.length) = X at *
        have HX := Lib.hid hX; clear hX
        go_wp2
        go_roundg (gk - 1)
        case measure => omega
        case rel => exact ⟨i + 1, by have := HI.out; omega, by go_num, by rw [HSU.out, ← strOf_append, HX.out], HK.out⟩
      by_cases e2 : kd = 2
      · subst e2
        have hs2 := part_size ⟨2, nn, kk⟩ bs.length
        go_wp2_with (fail)
        go_region_with (go_at_call 12; refine (ref_part2 nn kk bs.length _).mono ?_; rintro e w2 ⟨rfl, rfl⟩)
        all_goals
          go_wp2
          go_roundg (gk - 1)
          case measure => omega
          case rel => exact ⟨i + 1, by have := HI.out; omega, by go_num, by rw [HSU.out, ← strOf_append], HK.out.drew⟩
      by_cases e3 : kd = 3
      · subst e3
        go_wp2_with (fail)
        refine (ref_part3 nn kk bs.length _).mono ?_
        rintro e w2 ⟨rfl, rfl⟩
        have hs2 := part_size ⟨3, nn, kk⟩ bs.length
        change (strOf (partBits ⟨3, nn, kk⟩ bs.length)).size ≤ 64 at hs2
        generalize hX : strOf (partBits ⟨3, nn, kk⟩ bs.length) = X at *
        have HX := Lib.hid hX; clear hX
        go_wp2
        go_roundg (gk - 1)
        case measure => omega
        case rel => exact ⟨i + 1, by have := HI.out; omega, by go_num, by rw [HSU.out, ← strOf_append, HX.out], HK.out⟩
      by_cases e4 : kd = 4
      · subst e4
        go_wp2_with (fail)
        refine (ref_part4 nn kk bs.length _).mono ?_
        rintro e w2 ⟨rfl, rfl⟩
        have hs2 := part_size ⟨4, nn, kk⟩ bs.length
        change (strOf (partBits ⟨4, nn, kk⟩ bs.length)).size ≤ 64 at hs2
        generalize hX : strOf (partBits ⟨4, nn, kk⟩ bs.length) = X at *
        have HX := Lib.hid hX; clear hX
        go_wp2
        go_roundg (gk - 1)
        case measure => omega
        case rel => exact ⟨i + 1, by have := HI.out; omega, by go_num, by rw [HSU.out, ← strOf_append, HX.out], HK.out⟩
      by_cases e5 : kd = 5
      · subst e5
        go_wp2_with (fail)
        refine (ref_part5 nn kk bs.length _ (by omega)).mono ?_
        rintro e w2 ⟨rfl, rfl⟩
        have hs2 := part_size ⟨5, nn, kk⟩ bs.length
        change (strOf (partBits ⟨5, nn, kk⟩ bs.length)).size ≤ 64 at hs2
        generalize hX : strOf (partBits ⟨5, nn, kk⟩ bs.length) = X at *
        have HX := Lib.hid hX; clear hX
        go_wp2
        go_roundg (gk - 1)
        case measure => omega
        case rel => exact ⟨i + 1, by have := HI.out; omega, by go_num, by rw [HSU.out, ← strOf_append, HX.out], HK.out⟩
      · have hp : partBits ⟨kd, nn, kk⟩ bs.length = [] := by simp [partBits, e1, e2, e3, e4, e5]
        have HP := Lib.hid hp; clear hp
        have b1 : (kd == 1) = false := by simpa using e1
        have b2 : (kd == 2) = false := by simpa using e2
        have b3 : (kd == 3) = false := by simpa using e3
        have b4 : (kd == 4) = false := by simpa using e4
        have b5 : (kd == 5) = false := by simpa using e5
        clear e1 e2 e3 e4 e5
        go_wp2
        go_roundg (gk - 1)
        case measure => omega
        case rel => exact ⟨i + 1, by have := HI.out; omega, by go_num, by rw [HSU.out, HP.out, List.append_nil], HK.out⟩
    · have ei : i = n := by omega
      clear HI hi
      subst ei
      go_wp2_with (fail)
      have hl100 : ps.length ≤ 100 := by rw [HN.out]; omega
      have hpa : PartsArg wr (.slice a ps.length cap) ps := by
        obtain ⟨a2, cap2, e2, hc2⟩ := HA.out
        rw [HN.out]
        refine ⟨a, cap, by rw [HN.out], fun hpos => ?_⟩
        obtain ⟨b, off, rfl, hb, hcell⟩ := HC.out (by rw [← HN.out]; exact hpos)
        refine ⟨b, off, rfl, Nat.lt_of_lt_of_le hb HK.out.size, fun t ht q hq => ?_⟩
        obtain ⟨c0, c1, c2⟩ := hcell t (by rw [← HN.out]; exact ht) q hq
        exact ⟨(World.cell?_of_block (HK.out.block b hb id)).trans c0, (World.cell?_of_block (HK.out.block b hb id)).trans c1, (World.cell?_of_block (HK.out.block b hb id)).trans c2⟩
      have HW := Lib.hid (written_walk _ ps wr hpa hl100); clear hpa hl100
      rw [HN.out] at HW
      refine HW.out.mono ?_
      rintro e w2 ⟨rfl, h2⟩
      have hbl := bitsUpto_short ps i
      generalize hB : bitsUpto ps i = bs at *
      clear hB
      have hlen : bs.length ≤ 6400 := by omega
      have KK := Lib.hid (HK.out.trans h2.all (fun _ _ x => x))
      have O2 := Lib.hid h2; clear h2 hbl HW
      generalize wr.heap.size = p at *
      have hsz := strOf_size bs
      clear hm HA HC hd100 h100 hlt HN
      have hcv : ∀ (W : World) (g : Nat), W.heap[g]? = some (.cells (byteVals (pack bs)).toArray 5 (0, 0)) → (convert 30 9 (.slice (some ⟨g, 0, none⟩) (pack bs).length (pack bs).length)).run Try.prog W = .ok (.string (textOf (pack bs))) W :=
        fun W g h => run_text h _
      go_wp2_with (fail)
      go_region_with (first
        | (go_at_call 17; refine (bytes_one (O2.out.kept (Kept.refl _ _).drew) (by omega)).mono ?_; rintro e w3 ⟨gx, rfl, sx, cx, kx⟩)
        | (go_at_call 18; refine (ref_bytes bs _ (by omega)).mono ?_; rintro e w4 ⟨vv, rfl, ho, hf, ky⟩; have cx2 := ky.at cx id; have hcv2 := run_text_row ho)
        | (go_at_call 19; refine (many_one (((O2.out.kept (Kept.refl _ _).drew).kept kx).kept ky)).mono ?_; rintro e w5 ⟨rfl, rfl⟩))
      all_goals
        go_wp2
        go_ret
        exact ⟨rfl, (((KK.out.drew).trans kx (fun _ _ x => x)).trans ky (fun _ _ x => x)).all⟩
end Go.Proofs.Ytbfmjomekkcpcaa
