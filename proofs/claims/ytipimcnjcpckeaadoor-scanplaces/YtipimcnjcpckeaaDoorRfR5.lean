/- The document's reader: Done; the bits of bytes. -/
import Derived.Test.YtipimcnjcpckeaaDoorRfR4
namespace Go.Proofs.YtipimcnjcpckeaaDoor
open Go.RowKit

theorem byte_end : ∀ x : Fin 256, ∀ r : Fin 8, (x.val * 2 ^ r.val % 256 = 128) ↔ ∀ j : Fin 8, j.val < 8 - r.val → x.val.testBit (7 - (r.val + j.val)) = decide (j.val = 0) := by decide +kernel

theorem endBits_length (n : Nat) : (endBits n).length = 8 - n % 8 := by simp [endBits]; omega
theorem endBits_getD (n j : Nat) : (endBits n)[j]? = if j < 8 - n % 8 then some (decide (j = 0)) else none := by
  cases j with
  | zero => simp [endBits]; omega
  | succ j =>
    simp only [endBits, List.getElem?_cons_succ, List.getElem?_replicate]
    by_cases h : j < 7 - n % 8
    · rw [if_pos h, if_pos (by omega)]; simp
    · rw [if_neg h, if_neg (by omega)]

theorem drop_end (l : List Nat) (a : Nat) (hf : Fair l) (ha : a ≤ 8 * l.length) : ((bitsOf l).drop a = endBits a) ↔ (a / 8 + 1 = l.length ∧ l.getD (a / 8) 0 * 2 ^ (a % 8) % 256 = 128) := by
  have hx := hf.getD (a / 8)
  have hb := byte_end ⟨l.getD (a / 8) 0, hx⟩ ⟨a % 8, Nat.mod_lt _ (by decide)⟩
  simp only at hb
  have hbit : ∀ j, j < 8 - a % 8 → bitAt l (a + j) = (l.getD (a / 8) 0).testBit (7 - (a % 8 + j)) := by
    intro j hj
    unfold bitAt
    rw [show (a + j) / 8 = a / 8 by omega, show (a + j) % 8 = a % 8 + j by omega]
  have hget : ∀ j, a + j < 8 * l.length → ((bitsOf l).drop a)[j]? = some (bitAt l (a + j)) := by
    intro j hj
    rw [List.getElem?_drop]; simp [bitsOf, hj]
  constructor
  · intro h
    have hlen := congrArg List.length h
    rw [List.length_drop, bitsOf_length, endBits_length] at hlen
    refine ⟨by omega, hb.2 fun j hj => ?_⟩
    have hj' : ((bitsOf l).drop a)[j.val]? = (endBits a)[j.val]? := by rw [h]
    rw [hget j.val (by omega), endBits_getD, if_pos hj] at hj'
    rw [← hbit j.val hj]
    exact Option.some.inj hj'
  · rintro ⟨h1, h2⟩
    have h3 := hb.1 h2
    refine List.ext_getElem? fun j => ?_
    rw [endBits_getD]
    by_cases hj : j < 8 - a % 8
    · rw [if_pos hj, hget j (by omega), hbit j hj, h3 ⟨j, by omega⟩ hj]
    · rw [if_neg hj, List.getElem?_eq_none (by rw [List.length_drop, bitsOf_length]; omega)]

theorem chr_inj (a b : List Bool) : a.map chr = b.map chr ↔ a = b := by
  constructor
  · intro h
    have hc : ∀ x y : Bool, chr x = chr y → x = y := by decide
    exact List.map_inj_right (fun x y hxy => hc x y hxy) |>.1 h
  · rintro rfl; rfl

theorem end_text (l : List Nat) (a : Nat) (hf : Fair l) (ha : a ≤ 8 * l.length) :
    (((strOf (bitsOf l)).extract a (8 * l.length)).toList == (strOf (endBits a)).toList) = endsAt l a := by
  have e1 : ((strOf (bitsOf l)).extract a (8 * l.length)).toList = ((bitsOf l).drop a).map chr := by
    rw [ByteArray.toList_eq, Lib.extract_data]
    show (((bitsOf l).map chr).drop a).take _ = _
    rw [List.take_of_length_le (by simp [bitsOf_length]), List.map_drop]
  have e2 : (strOf (endBits a)).toList = (endBits a).map chr := by rw [ByteArray.toList_eq]; rfl
  rw [e1, e2, Bool.eq_iff_iff, beq_iff_eq, chr_inj, drop_end l a hf ha]
  unfold endsAt; simp

theorem ref_end_q (n : Nat) (w : World) (hn : n < 1099511627776) :
    Calls Tryd.prog 38 #[.int .i64 (n : Int)] w fun e w' => e = .returned (.string (strOf (endBits n))) ∧ w' = w :=
  (ref_end n w hn).mono fun _ _ ⟨a, b⟩ => ⟨a, b.symm⟩

set_option maxHeartbeats 1000000 in
theorem rf_done (x : Nat) (l : List Nat) (st : Option Nat) (w : World) (hlen : l.length ≤ 1000) (hf : Fair l) (h : RfIs w x l st) :
    Calls Tryd.prog 22 #[.pointer (some ⟨x, 0, none⟩)] w fun e w' => e = .returned (.int .i64 (doneOf l st)) ∧ ∃ n, w' = w.drewN n := by
  cases st with
  | none =>
    obtain ⟨a, ha, h⟩ := h
    obtain ⟨h0, h1, h2, f1, f2⟩ := h.facts
    clear h
    go_enter Tryd.func22, Tryd.ntmps22
    go_wp2_with (fail)
    go_quiet (fail)
    go_wp2
    go_ret
    exact ⟨rfl, _, rfl⟩
  | some a =>
    obtain ⟨ha, h⟩ := h
    obtain ⟨h0, h1, h2, f1, f2⟩ := h.facts
    clear h
    have hsz : (strOf (bitsOf l)).size = 8 * l.length := by rw [strOf_size, bitsOf_length]
    have het := end_text l a hf ha
    generalize strOf (bitsOf l) = s at *
    have g1 : (a : Int) ≤ (s.size : Int) := by omega
    cases he : endsAt l a with
    | true =>
      rw [he] at het
      have hd : doneOf l (some a) = 0 := by simp [doneOf, he]
      have HD := Lib.hid hd; clear hd he
      go_enter Tryd.func22, Tryd.ntmps22
      go_wp2_with (fail)
      go_quiet ((go_at_call 38; exact Calls.quiet_of_same (ref_end_q a _ (by omega))))
      go_wp2
      go_ret
      exact ⟨by rw [HD.out]; rfl, _, rfl⟩
    | false =>
      rw [he] at het
      have hd : doneOf l (some a) = 10 := by simp [doneOf, he]
      have HD := Lib.hid hd; clear hd he
      go_enter Tryd.func22, Tryd.ntmps22
      go_wp2_with (fail)
      go_quiet ((go_at_call 38; exact Calls.quiet_of_same (ref_end_q a _ (by omega))))
      go_wp2
      go_ret
      exact ⟨by rw [HD.out]; rfl, _, rfl⟩

theorem fixedBits_byte (x : Fin 256) : fixedBits (x.val : Int) 8 = (List.range 8).map fun j => x.val.testBit (7 - j) := by
  revert x; decide +kernel

theorem bitsOf_take (l : List Nat) (i : Nat) (h : i < l.length) (hf : Fair l) : (bitsOf l).take (8 * (i + 1)) = (bitsOf l).take (8 * i) ++ fixedBits (l.getD i 0 : Nat) 8 := by
  rw [fixedBits_byte ⟨l.getD i 0, hf.getD i⟩]
  refine List.ext_getElem? fun j => ?_
  by_cases h1 : j < 8 * i
  · rw [List.getElem?_append_left (by simp [bitsOf]; omega)]
    simp [bitsOf, show j < 8 * (i + 1) by omega, h1]
  · rw [List.getElem?_append_right (by simp [bitsOf]; omega)]
    have el : ((bitsOf l).take (8 * i)).length = 8 * i := by simp [bitsOf]; omega
    rw [el]
    by_cases h2 : j < 8 * (i + 1)
    · rw [List.getElem?_take, if_pos h2]
      have h3 : j < 8 * l.length := by omega
      have h4 : j - 8 * i < 8 := by omega
      simp only [bitsOf, List.getElem?_map, List.getElem?_range h3, List.getElem?_range h4, Option.map_some]
      unfold bitAt
      rw [show j / 8 = i by omega, show j % 8 = j - 8 * i by omega]
    · rw [List.getElem?_eq_none (by simp [bitsOf]; omega), List.getElem?_eq_none (by simp; omega)]

set_option maxHeartbeats 1000000 in
theorem ref_bits (v : Value) (l : List Nat) (w : World) (hlen : l.length ≤ 1000) (h : BytesArg w v l) :
    Calls Tryd.prog 18 #[v] w fun e w' => e = .returned (.string (strOf (bitsOf l))) ∧ w = w' := by
  have HF := Lib.hid (h.fair (by omega))
  obtain ⟨a, cap, rfl, -, -, -, -, hc⟩ := h
  have HC := Lib.hid hc; clear hc
  generalize hN : l.length = n at *
  have HN := Lib.hid hN; clear hN
  go_enter Tryd.func18, Tryd.ntmps18
  go_wp2_with (fail)
  go_loopg [3, 4] n (fun gg t s wr => w = wr ∧ ∃ i : Nat, i + gg = n ∧ s = .int .i64 (i : Int) ∧ t = .string (strOf ((bitsOf l).take (8 * i))))
  case atStart => exact ⟨rfl, 0, by omega, rfl, by simp [strOf]⟩
  case round =>
    obtain ⟨rfl, i, hi, rfl, rfl⟩ := hrel
    have HI := Lib.hid hi
    by_cases hlt : i < n
    · obtain ⟨b, off, rfl, hb, hcell⟩ := HC.out (by omega)
      have hcx := hcell i hlt
      have hx256 := HF.out.getD i
      have hst := bitsOf_take l i (by rw [HN.out]; exact hlt) HF.out
      have HST := Lib.hid hst
      have hsz : (strOf ((bitsOf l).take (8 * i))).size ≤ 8000 := by rw [strOf_size, List.length_take, bitsOf_length]; omega
      clear hcell hst hi
      generalize l.getD i 0 = y at *
      go_wp2_with (fail)
      refine (ref_fixed_int _ 8 _ (by omega) (by omega)).mono ?_
      rintro e w' ⟨rfl, rfl⟩
      have h1 : (strOf (fixedBits (y : Int) (8 : Int).toNat)).size ≤ 40 := by rw [strOf_size, fixedBits_length]; decide
      generalize hX : strOf (fixedBits (y : Int) (8 : Int).toNat) = X at *
      have HX := Lib.hid hX; clear hX
      go_wp2
      go_roundg (gk - 1)
      case measure => have := HI.out; omega
      case rel => exact ⟨rfl, i + 1, by have := HI.out; omega, by go_num, by rw [HST.out, ← strOf_append, ← HX.out]; rfl⟩
    · have ei : i = n := by omega
      clear HI hi
      subst ei
      go_wp2
      go_ret
      refine ⟨?_, rfl⟩
      rw [List.take_of_length_le (by rw [bitsOf_length, HN.out]; exact Nat.le_refl _)]; rfl
end Go.Proofs.YtipimcnjcpckeaaDoor
