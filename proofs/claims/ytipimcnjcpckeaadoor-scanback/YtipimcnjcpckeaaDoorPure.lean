/- Bits as lists: bytes of bits, the bits of bytes, the numbers that they are. No program in it. -/
import Derived.WalkKit
namespace Go.Proofs.YtipimcnjcpckeaaDoor
open Go.RowKit

theorem toNat_le_one (x : Bool) : x.toNat ≤ 1 := by cases x <;> decide
theorem decide_toNat (x : Bool) (m : Nat) (h : m = x.toNat) : decide (m = 1) = x := by subst h; cases x <;> decide

/-- A byte of eight bits, the highest first. -/
def byteOf (b : Nat → Bool) : Nat :=
  (b 0).toNat * 128 + (b 1).toNat * 64 + (b 2).toNat * 32 + (b 3).toNat * 16 + (b 4).toNat * 8 + (b 5).toNat * 4 + (b 6).toNat * 2 + (b 7).toNat

theorem byteOf_lt (b : Nat → Bool) : byteOf b < 256 := by
  have := toNat_le_one (b 0); have := toNat_le_one (b 1); have := toNat_le_one (b 2); have := toNat_le_one (b 3)
  have := toNat_le_one (b 4); have := toNat_le_one (b 5); have := toNat_le_one (b 6); have := toNat_le_one (b 7)
  unfold byteOf; omega

theorem byteOf_bit (b : Nat → Bool) (j : Nat) (hj : j < 8) : (byteOf b).testBit (7 - j) = b j := by
  have := toNat_le_one (b 0); have := toNat_le_one (b 1); have := toNat_le_one (b 2); have := toNat_le_one (b 3)
  have := toNat_le_one (b 4); have := toNat_le_one (b 5); have := toNat_le_one (b 6); have := toNat_le_one (b 7)
  rw [Nat.testBit_eq_decide_div_mod_eq]
  refine decide_toNat _ _ ?_
  unfold byteOf
  match j, hj with
  | 0, _ => omega
  | 1, _ => omega
  | 2, _ => omega
  | 3, _ => omega
  | 4, _ => omega
  | 5, _ => omega
  | 6, _ => omega
  | 7, _ => omega

/-- One bit more in a byte whose bits from there on are 0. -/
theorem byteOf_set (b b' : Nat → Bool) (j : Nat) (hj : j < 8) (x : Bool) (h : ∀ i, i < 8 → b' i = if i = j then x else b i) (h0 : ∀ i, i < 8 → j ≤ i → b i = false) :
    byteOf b' = byteOf b + x.toNat * 2 ^ (7 - j) ∧ byteOf b % 2 ^ (8 - j) = 0 := by
  have := toNat_le_one (b 0); have := toNat_le_one (b 1); have := toNat_le_one (b 2); have := toNat_le_one (b 3)
  have := toNat_le_one (b 4); have := toNat_le_one (b 5); have := toNat_le_one (b 6); have := toNat_le_one (b 7)
  have g0 := h 0 (by omega); have g1 := h 1 (by omega); have g2 := h 2 (by omega); have g3 := h 3 (by omega)
  have g4 := h 4 (by omega); have g5 := h 5 (by omega); have g6 := h 6 (by omega); have g7 := h 7 (by omega)
  have z0 := h0 0 (by omega); have z1 := h0 1 (by omega); have z2 := h0 2 (by omega); have z3 := h0 3 (by omega)
  have z4 := h0 4 (by omega); have z5 := h0 5 (by omega); have z6 := h0 6 (by omega); have z7 := h0 7 (by omega)
  unfold byteOf
  rw [g0, g1, g2, g3, g4, g5, g6, g7]
  match j, hj with
  | 0, _ => simp at z0 z1 z2 z3 z4 z5 z6 z7; simp [z0, z1, z2, z3, z4, z5, z6, z7]
  | 1, _ => simp at z1 z2 z3 z4 z5 z6 z7; simp [z1, z2, z3, z4, z5, z6, z7]; try omega
  | 2, _ => simp at z2 z3 z4 z5 z6 z7; simp [z2, z3, z4, z5, z6, z7]; try omega
  | 3, _ => simp at z3 z4 z5 z6 z7; simp [z3, z4, z5, z6, z7]; try omega
  | 4, _ => simp at z4 z5 z6 z7; simp [z4, z5, z6, z7]; try omega
  | 5, _ => simp at z5 z6 z7; simp [z5, z6, z7]; try omega
  | 6, _ => simp at z6 z7; simp [z6, z7]; try omega
  | 7, _ => simp at z7; simp [z7]; try omega

theorem byteOf_congr {f g : Nat → Bool} (h : ∀ j, j < 8 → f j = g j) : byteOf f = byteOf g := by
  unfold byteOf
  rw [h 0 (by omega), h 1 (by omega), h 2 (by omega), h 3 (by omega), h 4 (by omega), h 5 (by omega), h 6 (by omega), h 7 (by omega)]

/-- How many bytes so many bits take. -/
def nbytes (n : Nat) : Nat := (n + 7) / 8

/-- The bytes of bits, with bits 0 up to the last byte's end. -/
def pack (bs : List Bool) : List Nat := (List.range (nbytes bs.length)).map fun i => byteOf fun j => bs.getD (8 * i + j) false

theorem pack_length (bs : List Bool) : (pack bs).length = nbytes bs.length := by simp [pack]

theorem pack_getD (bs : List Bool) (i : Nat) (h : i < nbytes bs.length) : (pack bs).getD i 0 = byteOf fun j => bs.getD (8 * i + j) false := by
  simp [pack, List.getD, h]

/-- The bit at a place of bytes. -/
def bitAt (l : List Nat) (i : Nat) : Bool := (l.getD (i / 8) 0).testBit (7 - i % 8)

theorem pack_bit (bs : List Bool) (i : Nat) (h : i < 8 * nbytes bs.length) : bitAt (pack bs) i = bs.getD i false := by
  unfold bitAt
  rw [pack_getD bs (i / 8) (by omega), byteOf_bit _ _ (Nat.mod_lt _ (by decide))]
  congr 1; omega

/-- The bytes that are there when a bit is put: one more, if none is open. -/
def pack0 (bs : List Bool) : List Nat := if bs.length % 8 = 0 then pack bs ++ [0] else pack bs

theorem pack0_length (bs : List Bool) : (pack0 bs).length = bs.length / 8 + 1 := by
  unfold pack0; split <;> simp [pack_length, nbytes] <;> omega

theorem pack_snoc (bs : List Bool) (b : Bool) :
    (pack0 bs).getD (bs.length / 8) 0 % 2 ^ (8 - bs.length % 8) = 0 ∧ (pack0 bs).getD (bs.length / 8) 0 < 256 ∧
    pack (bs ++ [b]) = (pack0 bs).set (bs.length / 8) ((pack0 bs).getD (bs.length / 8) 0 + b.toNat * 2 ^ (7 - bs.length % 8)) := by
  have hold : (pack0 bs).getD (bs.length / 8) 0 = byteOf fun j => bs.getD (8 * (bs.length / 8) + j) false := by
    unfold pack0
    split
    · rename_i h
      have e : (pack bs).length = bs.length / 8 := by rw [pack_length]; unfold nbytes; omega
      rw [← e]
      have z : ∀ j, bs.getD (8 * (pack bs).length + j) false = false := by
        intro j; rw [List.getD, List.getElem?_eq_none (by omega)]; rfl
      have e0 : (pack bs ++ [0]).getD (pack bs).length 0 = 0 := by simp [List.getD]
      rw [e0]
      simp only [byteOf, z]; rfl
    · exact pack_getD bs _ (by unfold nbytes; omega)
  have hset := byteOf_set (fun j => bs.getD (8 * (bs.length / 8) + j) false) (fun j => (bs ++ [b]).getD (8 * (bs.length / 8) + j) false) (bs.length % 8) (Nat.mod_lt _ (by decide)) b
    (by
      intro i hi
      simp only [List.getD]
      by_cases h1 : 8 * (bs.length / 8) + i < bs.length
      · rw [List.getElem?_append_left h1, if_neg (by omega)]
      · by_cases h2 : i = bs.length % 8
        · rw [if_pos h2, show 8 * (bs.length / 8) + i = bs.length by omega, List.getElem?_append_right (Nat.le_refl _)]; simp
        · rw [if_neg h2, List.getElem?_eq_none (by simp; omega), List.getElem?_eq_none (by omega)])
    (by intro i hi hle; simp only [List.getD]; rw [List.getElem?_eq_none (by omega)]; rfl)
  refine ⟨by rw [hold]; exact hset.2, by rw [hold]; exact byteOf_lt _, ?_⟩
  rw [hold, ← hset.1]
  refine List.ext_getElem? fun i => ?_
  by_cases hi : i < bs.length / 8 + 1
  · have l1 : i < (pack (bs ++ [b])).length := by rw [pack_length]; simp [nbytes]; omega
    have l2 : i < nbytes (bs ++ [b]).length := by rw [← pack_length]; exact l1
    have e1 : (pack (bs ++ [b]))[i]? = some (byteOf fun j => (bs ++ [b]).getD (8 * i + j) false) := by
      rw [List.getElem?_eq_getElem l1]; simp [pack]
    rw [e1]
    by_cases hq : i = bs.length / 8
    · subst hq
      rw [List.getElem?_set_self (by rw [pack0_length]; omega)]
    · rw [List.getElem?_set_ne (by omega)]
      have l3 : i < nbytes bs.length := by unfold nbytes; omega
      have e2 : (pack0 bs)[i]? = (pack bs)[i]? := by
        unfold pack0; split
        · rw [List.getElem?_append_left (by rw [pack_length]; exact l3)]
        · rfl
      rw [e2, List.getElem?_eq_getElem (by rw [pack_length]; exact l3)]
      simp only [pack, List.getElem_map, List.getElem_range, Option.some.injEq]
      refine byteOf_congr fun j hj => ?_
      simp only [List.getD]
      rw [List.getElem?_append_left (by omega)]
  · rw [List.getElem?_eq_none (by rw [pack_length]; simp [nbytes]; omega), List.getElem?_eq_none (by simp [pack0_length]; omega)]

end Go.Proofs.YtipimcnjcpckeaaDoor
