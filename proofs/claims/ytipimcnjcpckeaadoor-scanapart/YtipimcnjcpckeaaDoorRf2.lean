/- The document's answer: the bytes of a text of bits. -/
import Derived.Test.YtipimcnjcpckeaaDoorRf
import Derived.Test.YtipimcnjcpckeaaDoorWrC
namespace Go.Proofs.YtipimcnjcpckeaaDoor
open Go.RowKit

/-- The number of the first bits. -/
def byteUpto (f : Nat → Bool) : Nat → Nat
  | 0 => 0
  | k + 1 => 2 * byteUpto f k + (f k).toNat

theorem byteUpto_eight (f : Nat → Bool) : byteUpto f 8 = byteOf f := by
  simp only [byteUpto, byteOf]; omega

theorem byteUpto_lt (f : Nat → Bool) (k : Nat) : byteUpto f k < 2 ^ k := by
  induction k with
  | zero => simp [byteUpto]
  | succ k ih => have := toNat_le_one (f k); simp only [byteUpto, Nat.pow_succ]; omega

theorem byteUpto_small (f : Nat → Bool) (k : Nat) (h : k ≤ 8) : byteUpto f k < 256 :=
  Nat.lt_of_lt_of_le (byteUpto_lt f k) (by have := Nat.pow_le_pow_right (n := 2) (by decide) h; simpa using this)

/-- A bit of a byte of bits. -/
def bitF (bs : List Bool) (q t : Nat) : Bool := bs.getD (8 * q + t) false
def byteTo (bs : List Bool) (q j : Nat) : Nat := byteUpto (bitF bs q) j

theorem chr_at (bs : List Bool) (i : Nat) (h : i < (strOf bs).size) : ((((strOf bs)[i]'h).toNat : Int) == 49) = bs.getD i false := by
  have hi : i < bs.length := by rwa [strOf_size] at h
  have e : (strOf bs)[i]'h = chr bs[i] := by
    show ((bs.map chr).toArray)[i]'(by simpa using hi) = _
    simp
  rw [e]
  simp only [List.getD, List.getElem?_eq_getElem hi, Option.getD_some]
  cases bs[i] <;> rfl

/-- A slice of the call's own, of which nothing was there in w. -/
def Fresh (w : World) (v : Value) : Prop := v.ownBlock = none ∨ ∃ g, v.ownBlock = some g ∧ w.heap.size ≤ g

theorem pack_take_succ (bs : List Bool) (q : Nat) (h : q < nbytes bs.length) : (pack bs).take (q + 1) = (pack bs).take q ++ [byteOf fun j => bs.getD (8 * q + j) false] := by
  rw [List.take_succ_eq_append_getElem (by rw [pack_length]; exact h)]
  congr 2
  simp [pack]

set_option maxHeartbeats 2000000 in
theorem ref_bytes (bs : List Bool) (w : World) (hm : bs.length < 1000000) :
    Calls Tryd.prog 16 #[.string (strOf bs)] w fun e w' => ∃ v, e = .returned v ∧ w'.ownsRow 0 5 1 v (pack bs).length (byteVals (pack bs)) ∧ Fresh w v ∧ Kept (fun _ => False) w w' := by
  obtain ⟨i0, hi, hz0, hz1, hz2⟩ := info_parts Tryd.info_u8
  have HI := Lib.hid hi; have HZ0 := Lib.hid hz0; have HZ1 := Lib.hid hz1; have HZ2 := Lib.hid hz2; clear hi hz0 hz1 hz2
  have hsz := strOf_size bs
  have hnb : nbytes bs.length ≤ 1000000 := by unfold nbytes; omega
  have hnb2 : ∀ q, 8 * q < bs.length ↔ q < nbytes bs.length := by intro q; unfold nbytes; omega
  have HNB := Lib.hid hnb2; clear hnb2
  go_enter Tryd.func16, Tryd.ntmps16
  go_wp2_with (fail)
  go_loopw [3, 4] (fun o i wr => ∃ q : Nat, q ≤ nbytes bs.length ∧ i = .int .i64 (8 * (q : Int)) ∧ wr.ownsRow 0 5 1 o q (byteVals ((pack bs).take q)) ∧ Fresh w o ∧ Kept (fun _ => False) w wr) (fun _ i _ => 9000000 - (intOf i).toNat)
  case atStart => exact ⟨0, by omega, rfl, World.ownsRow_nil _ _ _ _, .inl rfl, Kept.refl _ _⟩
  case round =>
    obtain ⟨q, hq, rfl, hown, hfr, hkp⟩ := hrel
    have HW := Lib.hid hown; have HF := Lib.hid hfr; have HK := Lib.hid hkp; clear hown hfr hkp
    have hq2 := HNB.out q
    by_cases hlt : q < nbytes bs.length
    · have h8 : 8 * q < bs.length := hq2.2 hlt
      clear hq2
      have hd : decide (8 * (q : Int) < (bs.length : Int)) = true := by simp; omega
      go_wp2_with (fail)
      go_loopg [5, 6] 8 (fun gg x k wx => wr = wx ∧ ∃ j : Nat, j + gg = 8 ∧ k = .int .i64 (j : Int) ∧ x = .int .i64 (byteTo bs q j : Int))
      case atStart => exact ⟨rfl, 0, by omega, rfl, rfl⟩
      case round =>
        obtain ⟨rfl, j, hj, rfl, rfl⟩ := hrel
        have hbu : byteTo bs q j < 256 := byteUpto_small (bitF bs q) j (by omega)
        have hsu : byteTo bs q (j + 1) = 2 * byteTo bs q j + (bitF bs q j).toNat := rfl
        have HSU := Lib.hid hsu; clear hsu
        have HJ := Lib.hid hj
        by_cases hj8 : j < 8
        · by_cases hin : 8 * q + j < bs.length
          · have hch := chr_at bs (8 * q + j) (by rw [hsz]; exact hin)
            have e0 : bs.getD (8 * q + j) false = bitF bs q j := rfl
            rw [e0] at hch
            clear e0 hj
            cases hb : bitF bs q j with
            | true =>
              rw [hb] at hch
              have HB := Lib.hid hb; clear hb
              go_wp2
              go_roundg (gk - 1)
              case measure => have := HJ.out; omega
              case rel => exact ⟨rfl, j + 1, by have := HJ.out; omega, by go_num, by rw [HSU.out, HB.out]; go_num⟩
            | false =>
              rw [hb] at hch
              have HB := Lib.hid hb; clear hb
              go_wp2
              go_roundg (gk - 1)
              case measure => have := HJ.out; omega
              case rel => exact ⟨rfl, j + 1, by have := HJ.out; omega, by go_num, by rw [HSU.out, HB.out]; go_num⟩
          · have hb : bitF bs q j = false := by unfold bitF; rw [List.getD, List.getElem?_eq_none (by omega)]; rfl
            have HB := Lib.hid hb; clear hb hj
            go_wp2
            go_roundg (gk - 1)
            case measure => have := HJ.out; omega
            case rel => exact ⟨rfl, j + 1, by have := HJ.out; omega, by go_num, by rw [HSU.out, HB.out]; go_num⟩
        · have ej : j = 8 := by omega
          clear HJ HSU hj
          subst ej
          have hb8 : byteTo bs q 8 = byteOf fun t => bs.getD (8 * q + t) false := byteUpto_eight (bitF bs q)
          have HB8 := Lib.hid hb8; clear hb8
          generalize byteTo bs q 8 = x at *
          go_wp2_with (at_builtin; refine wpList_append_whose _ rfl (.tmp 35) (.tmp 38) 25 rfl 5 i0 (.int .u8 0) 1 1 Tryd.underlying25 HI.out HZ0.out HZ1.out HZ2.out rfl (by decide) _ _ _ rfl (HW.out.alloc _) ⟨wr.heap.size, 0, none⟩ 1 1 [.int .u8 (x : Int)] rfl rfl ?c1 ?c2 ?b1 ?b2 ?_)
          case c1 => intro t u hj; match t, hj with | 0, hj => simp at hj; subst hj; simp [Addr.add]
          case c2 => intro u hu; simp at hu; subst hu; rfl
          case b1 => unfold maxLen; omega
          case b2 => omega
          intro v1 w1 hown hgr hwh
          have hk1 : Kept (fun _ => False) w w1 := (HK.out.alloc _).grown hgr (fun k hk hlt => by
            rcases HF.out with h | ⟨g, h, hg⟩
            · rw [h] at hk; cases hk
            · rw [h] at hk; cases hk; omega)
          have hf1 : Fresh w v1 := by
            rcases hwh with h | ⟨g, h, hg⟩
            · rcases HF.out with h2 | ⟨g2, h2, hg2⟩
              · exact .inl (h.trans h2)
              · exact .inr ⟨g2, h.trans h2, hg2⟩
            · have := HK.out.size; exact .inr ⟨g, h, by omega⟩
          have hro : w1.ownsRow 0 5 1 v1 (q + 1) (byteVals ((pack bs).take (q + 1))) := by
            rw [pack_take_succ bs q hlt, byteVals_append, ← HB8.out]; exact hown
          have RO := Lib.hid hro; have F1 := Lib.hid hf1; have K1 := Lib.hid hk1
          clear hro hf1 hk1 hown hgr hwh
          go_wp2
          go_roundw
          case rel => exact ⟨q + 1, by omega, by go_num, RO.out, F1.out, K1.out⟩
          case measure => simp [intOf]; omega
    · have h8 : bs.length ≤ 8 * q := by have := mt hq2.1 hlt; omega
      clear hq2
      go_wp2
      go_ret
      have eq : q = nbytes bs.length := by omega
      subst eq
      refine ⟨_, rfl, ?_, HF.out, HK.out⟩
      have e : (pack bs).take (nbytes bs.length) = pack bs := List.take_of_length_le (by rw [pack_length]; exact Nat.le_refl _)
      have := HW.out
      rw [e] at this
      rw [pack_length]; exact this
end Go.Proofs.YtipimcnjcpckeaaDoor
