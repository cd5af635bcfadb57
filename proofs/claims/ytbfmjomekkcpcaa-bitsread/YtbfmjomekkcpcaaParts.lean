/- Parts that came in, and what a writer has of them. -/
import Derived.Test.YtbfmjomekkcpcaaRf2
import Derived.Deep.RegionWith
namespace Go.Proofs.Ytbfmjomekkcpcaa
open Go.RowKit

structure Pt where
  kind : Int
  n : Int
  k : Int

/-- A slice of parts that came in. -/
def PartsArg (w : World) (v : Value) (ps : List Pt) : Prop :=
  ∃ a cap, v = .slice a ps.length cap ∧ (0 < ps.length → ∃ b off, a = some ⟨b, off, none⟩ ∧ b < w.heap.size ∧ ∀ i, i < ps.length → ∀ q, ps[i]? = some q →
    w.cell? ⟨b, off + i * 3, none⟩ = some (.int .i64 q.kind) ∧ w.cell? ⟨b, off + i * 3 + 1, none⟩ = some (.int .i64 q.n) ∧ w.cell? ⟨b, off + i * 3 + 2, none⟩ = some (.int .i64 q.k))

/-- The bits of a part behind so many. -/
def partBits (q : Pt) (len : Nat) : List Bool :=
  if q.kind = 1 then [lowBit q.n]
  else if q.kind = 2 then (if q.k < 0 ∨ 32 < q.k then [] else fixedBits q.n q.k.toNat)
  else if q.kind = 3 then wholeBits q.n
  else if q.kind = 4 then signedBits q.n
  else if q.kind = 5 then endBits len
  else []

theorem partBits_short (q : Pt) (len : Nat) : (partBits q len).length ≤ 64 := by
  unfold partBits
  split
  · simp
  split
  · split
    · simp
    · rw [fixedBits_length]; omega
  split
  · have := wholeBits_short q.n; omega
  split
  · have := signedBits_short q.n; omega
  split
  · simp [endBits]; omega
  · simp

/-- The bits of the first parts. -/
def bitsUpto (ps : List Pt) : Nat → List Bool
  | 0 => []
  | i + 1 => bitsUpto ps i ++ (match ps[i]? with | some q => partBits q (bitsUpto ps i).length | none => [])

theorem bitsUpto_short (ps : List Pt) (i : Nat) : (bitsUpto ps i).length ≤ 64 * i := by
  induction i with
  | zero => simp [bitsUpto]
  | succ i ih =>
    simp only [bitsUpto, List.length_append]
    have h : (match ps[i]? with | some q => partBits q (bitsUpto ps i).length | none => []).length ≤ 64 := by
      split
      · exact partBits_short _ _
      · simp
    omega

theorem bitsUpto_succ (ps : List Pt) (i : Nat) (q : Pt) (h : ps[i]? = some q) : bitsUpto ps (i + 1) = bitsUpto ps i ++ partBits q (bitsUpto ps i).length := by
  simp only [bitsUpto, h]

set_option maxHeartbeats 4000000 in
theorem written_walk (v : Value) (ps : List Pt) (w : World) (h : PartsArg w v ps) (hl : ps.length ≤ 100) :
    Calls Try.prog 16 #[v] w fun e w' => e = .returned (.pointer (some ⟨w.heap.size, 0, none⟩)) ∧ One w w' w.heap.size (bitsUpto ps ps.length) := by
  obtain ⟨a, cap, rfl, hc⟩ := h
  have HC := Lib.hid hc; clear hc
  generalize hN : ps.length = n at *
  have HN := Lib.hid hN; clear hN
  have O0 := Lib.hid (One.new (Kept.refl (fun _ => False) w))
  go_enter Try.func16, Try.ntmps16
  go_wp2_with (fail)
  go_loopg [4] n (fun gg s wr => ∃ i : Nat, i + gg = n ∧ s = .int .i64 (i : Int) ∧ One w wr w.heap.size (bitsUpto ps i))
  case atStart => exact ⟨0, by omega, rfl, O0.out⟩
  case round =>
    obtain ⟨i, hi, rfl, ho⟩ := hrel
    clear O0
    have HO := Lib.hid ho; clear ho
    have HI := Lib.hid hi
    by_cases hlt : i < n
    · obtain ⟨b, off, rfl, hb, hcell⟩ := HC.out (by omega)
      obtain ⟨q, hq⟩ : ∃ q, ps[i]? = some q := ⟨ps[i]'(by rw [HN.out]; exact hlt), List.getElem?_eq_getElem _⟩
      obtain ⟨c0, c1, c2⟩ := hcell i (by omega) q hq
      have hkk := HO.out.all
      have k0 := (World.cell?_of_block (a := ⟨b, off + i * 3, none⟩) (hkk.block b hb id)).trans c0
      have k1 := (World.cell?_of_block (a := ⟨b, off + i * 3 + 1, none⟩) (hkk.block b hb id)).trans c1
      have k2 := (World.cell?_of_block (a := ⟨b, off + i * 3 + 2, none⟩) (hkk.block b hb id)).trans c2
      have hsu := bitsUpto_succ ps i q hq
      have hsh := bitsUpto_short ps i
      have hgk : 0 < gk := by omega
      clear c0 c1 c2 hcell hkk hi
      have HQ := Lib.hid hq; clear hq
      obtain ⟨kd, nn, kk⟩ := q
      simp only at k0 k1 k2
      generalize hB : bitsUpto ps i = bs at *
      have HB := Lib.hid hB; clear hB
      have HSU := Lib.hid hsu; clear hsu
      have hlen : bs.length ≤ 6400 := by omega
      clear hsh
      by_cases e1 : kd = 1
      · subst e1
        go_wp2_with (fail)
        refine (bit_one nn HO.out (by omega)).mono ?_
        rintro e w1 ⟨rfl, h1⟩
        have O1 := Lib.hid h1; clear h1
        go_wp2
        go_roundg (gk - 1)
        case measure => omega
        case rel => exact ⟨i + 1, by have := HI.out; omega, by go_num, by rw [HSU.out]; exact O1.out⟩
      by_cases e2 : kd = 2
      · subst e2
        by_cases hk : kk < 0 ∨ 32 < kk
        · have hp : partBits ⟨2, nn, kk⟩ bs.length = [] := by simp [partBits, hk]
          have HP := Lib.hid hp; clear hp
          go_wp2_with (fail)
          go_region_with (go_at_call 33; refine (fixed_no _ nn kk _ hk).mono ?_; rintro e w1 ⟨rfl, rfl⟩)
          all_goals
            go_wp2
            go_roundg (gk - 1)
            case measure => omega
            case rel => exact ⟨i + 1, by have := HI.out; omega, by go_num, by rw [HSU.out, HP.out, List.append_nil]; exact HO.out.kept (Kept.refl _ _).drew⟩
        · have hp : partBits ⟨2, nn, kk⟩ bs.length = fixedBits nn kk.toNat := by simp [partBits, hk]
          have HP := Lib.hid hp; clear hp
          go_wp2_with (fail)
          go_region_with (go_at_call 33; refine (fixed_one nn kk (HO.out.kept (Kept.refl _ _).drew) (by omega) (by omega) (by omega)).mono ?_; rintro e w1 ⟨rfl, h1⟩)
          all_goals
            have O1 := Lib.hid h1; clear h1
            go_wp2
            go_roundg (gk - 1)
            case measure => omega
            case rel => exact ⟨i + 1, by have := HI.out; omega, by go_num, by rw [HSU.out, HP.out]; exact O1.out⟩
      by_cases e3 : kd = 3
      · subst e3
        go_wp2_with (fail)
        refine (whole_one nn HO.out (by omega)).mono ?_
        rintro e w1 ⟨rfl, h1⟩
        have O1 := Lib.hid h1; clear h1
        go_wp2
        go_roundg (gk - 1)
        case measure => omega
        case rel => exact ⟨i + 1, by have := HI.out; omega, by go_num, by rw [HSU.out]; exact O1.out⟩
      by_cases e4 : kd = 4
      · subst e4
        go_wp2_with (fail)
        refine (signed_one nn HO.out (by omega)).mono ?_
        rintro e w1 ⟨rfl, h1⟩
        have O1 := Lib.hid h1; clear h1
        go_wp2
        go_roundg (gk - 1)
        case measure => omega
        case rel => exact ⟨i + 1, by have := HI.out; omega, by go_num, by rw [HSU.out]; exact O1.out⟩
      by_cases e5 : kd = 5
      · subst e5
        go_wp2_with (fail)
        refine (end_one HO.out (by omega)).mono ?_
        rintro e w1 ⟨rfl, h1⟩
        have O1 := Lib.hid h1; clear h1
        go_wp2
        go_roundg (gk - 1)
        case measure => omega
        case rel => exact ⟨i + 1, by have := HI.out; omega, by go_num, by rw [HSU.out]; exact O1.out⟩
      · have hp : partBits ⟨kd, nn, kk⟩ bs.length = [] := by simp [partBits, e1, e2, e3, e4, e5]
        have HP := Lib.hid hp; clear hp
        have b1 : (kd == 1) = false := by simpa using e1
        have b2 : (kd == 2) = false := by simpa using e2
        have b3 : (kd == 3) = false := by simpa using e3
        have b4 : (kd == 4) = false := by simpa using e4
        have b5 : (kd == 5) = false := by simpa using e5
        clear e1 e2 e3 e4 e5
        go_wp2
        go_roundg (gk - 1)
        case measure => omega
        case rel => exact ⟨i + 1, by have := HI.out; omega, by go_num, by rw [HSU.out, HP.out, List.append_nil]; exact HO.out⟩
    · have ei : i = n := by omega
      clear HI hi
      subst ei
      go_wp2
      go_ret
      exact ⟨rfl, HO.out⟩
end Go.Proofs.Ytbfmjomekkcpcaa
