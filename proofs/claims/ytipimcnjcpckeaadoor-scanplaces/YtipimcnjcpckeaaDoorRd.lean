/- A reader's bits: what next, fixed and whole read, and where they give up. -/
import Derived.Test.YtipimcnjcpckeaaDoorWr3
import Derived.Deep.RegionWith
namespace Go.Proofs.YtipimcnjcpckeaaDoor
open Go.RowKit

/-- At block p lies a reader of the bytes l, which lie in block g, at the bit 'at_'. -/
def RdAt (w : World) (p g : Nat) (l : List Nat) (at_ : Nat) (lost : Bool) : Prop :=
  w.heap[p]? = some (.cells #[.slice (some ⟨g, 0, none⟩) l.length l.length, .int .i64 (at_ : Int), .bool lost] 65 (0, 0)) ∧
    w.heap[g]? = some (.cells (byteVals l).toArray 5 (0, 0)) ∧ g ≠ p

theorem RdAt.kept {S : Nat → Prop} {w w' : World} {p g : Nat} {l : List Nat} {at_ : Nat} {lost : Bool} (h : RdAt w p g l at_ lost) (k : Kept S w w') (hp : ¬ S p) (hg : ¬ S g) : RdAt w' p g l at_ lost :=
  ⟨k.at h.1 hp, k.at h.2.1 hg, h.2.2⟩

theorem RdAt.drew {w : World} {p g : Nat} {l : List Nat} {at_ : Nat} {lost : Bool} (h : RdAt w p g l at_ lost) : RdAt w.drew p g l at_ lost := h

theorem RdAt.facts {w : World} {p g : Nat} {l : List Nat} {at_ : Nat} {lost : Bool} (h : RdAt w p g l at_ lost) :
    w.cell? ⟨p, 0, none⟩ = some (.slice (some ⟨g, 0, none⟩) l.length l.length) ∧ w.cell? ⟨p, 1, none⟩ = some (.int .i64 (at_ : Int)) ∧ w.cell? ⟨p, 2, none⟩ = some (.bool lost) ∧
    w.frozen? ⟨p, 1, none⟩ = false ∧ w.frozen? ⟨p, 2, none⟩ = false := by
  refine ⟨by rw [cell_of_heap h.1]; rfl, by rw [cell_of_heap h.1]; rfl, by rw [cell_of_heap h.1]; rfl, frozen_of_heap h.1, frozen_of_heap h.1⟩

theorem RdAt.byte {w : World} {p g : Nat} {l : List Nat} {at_ : Nat} {lost : Bool} (h : RdAt w p g l at_ lost) (i : Nat) (hi : i < l.length) : w.cell? ⟨g, i, none⟩ = some (.int .u8 (l.getD i 0 : Nat)) := by
  rw [cell_of_heap h.2.1]; simp [byteVals, List.getD, hi]

theorem RdAt.setAt {w : World} {p g : Nat} {l : List Nat} {at_ : Nat} {lost : Bool} (h : RdAt w p g l at_ lost) (n : Nat) (x : Int) (hx : x = (n : Int)) : RdAt (w.setCell ⟨p, 1, none⟩ (.int .i64 x)) p g l n lost := by
  subst hx
  refine ⟨?_, (heap_setCell_other _ p 1 g _ h.2.2).trans h.2.1, h.2.2⟩
  rw [heap_setCell_same _ p 1 _ h.1]; simp

theorem RdAt.setLost {w : World} {p g : Nat} {l : List Nat} {at_ : Nat} {lost : Bool} (h : RdAt w p g l at_ lost) (b : Bool) : RdAt (w.setCell ⟨p, 2, none⟩ (.bool b)) p g l at_ b := by
  refine ⟨?_, (heap_setCell_other _ p 2 g _ h.2.2).trans h.2.1, h.2.2⟩
  rw [heap_setCell_same _ p 2 _ h.1]; simp

/-- What panics when a reader gives up. -/
def gaveUp : List PanicEntry := [{ v := .iface 42 (.int .i64 10), recovered := false }]

/-- What an inner reading leaves: a number, and the next bit's place; or it has given up. -/
def RdPost (w : World) (p g : Nat) (l : List Nat) (o : Option (Int × Nat)) (e : Ending) (w' : World) : Prop :=
  match o with
  | some (n, a) => e = .returned (.int .i64 n) ∧ RdAt w' p g l a false ∧ Kept (· = p) w w'
  | none => e = .panicked gaveUp ∧ (∃ a, RdAt w' p g l a false) ∧ Kept (· = p) w w'

def nextAt (l : List Nat) (a : Nat) : Option (Int × Nat) := if a < 8 * l.length then some (((bitAt l a).toNat : Int), a + 1) else none

/-- Bytes that are bytes, and not too many. -/
def Fair (l : List Nat) : Prop := (∀ x ∈ l, x < 256) ∧ l.length < 1099511627776

theorem Fair.getD {l : List Nat} (h : Fair l) (i : Nat) : l.getD i 0 < 256 := by
  rw [List.getD]
  cases hh : l[i]? with
  | none => simp
  | some x => simpa using h.1 x (List.mem_of_getElem? hh)

theorem giveUp_any (w : World) :
    Calls Tryd.prog 45 #[] w fun e w' => e = .panicked gaveUp ∧ w = w' := by
  go_enter Tryd.func45, Tryd.ntmps45
  go_wp2
  exact ⟨rfl, rfl, rfl⟩

theorem bit_of_byte (x k : Nat) (hx : x < 256) : wrap64 (bits BinOp.and IntKind.u8 ((x : Int) / 2 ^ k) 1) = ((x.testBit k).toNat : Int) := by
  have e : ((x : Int) / 2 ^ k) = ((x / 2 ^ k : Nat) : Int) := by simp
  have hle : x / 2 ^ k ≤ x := Nat.div_le_self _ _
  have := Nat.mod_lt (x / 2 ^ k) (show 0 < 2 by decide)
  rw [e, show (1 : Int) = ((1 : Nat) : Int) from rfl, u8_and_nat _ _ (by omega) (by omega), Nat.and_one_is_mod, Nat.toNat_testBit]
  unfold wrap64; omega

set_option maxHeartbeats 400000 in
theorem next_some (p g : Nat) (l : List Nat) (a : Nat) (w : World) (hl : Fair l) (h : RdAt w p g l a false) (ha : a < 8 * l.length) :
    Calls Tryd.prog 51 #[.pointer (some ⟨p, 0, none⟩)] w fun e w' => e = .returned (.int .i64 ((bitAt l a).toNat : Int)) ∧ RdAt w' p g l (a + 1) false ∧ Kept (· = p) w w' := by
  obtain ⟨h0, h1, -, f1, -⟩ := h.facts
  have hx := h.byte (a / 8) (by omega)
  have hx256 := hl.getD (a / 8)
  have hbit := bit_of_byte (l.getD (a / 8) 0) (7 - a % 8) hx256
  have HB := Lib.hid hbit; clear hbit
  have HA := Lib.hid h; clear h
  have hlen := hl.2
  clear hl
  generalize hX : l.getD (a / 8) 0 = x at *
  have HX := Lib.hid hX; clear hX
  generalize hN : l.length = n at *
  have HN := Lib.hid hN; clear hN
  have hq : (a : Int) / 8 < n := by omega
  have hq1 : 0 ≤ (a : Int) / 8 := by omega
  have hq2 : ((a : Int) / 8).toNat = a / 8 := by omega
  go_enter Tryd.func51, Tryd.ntmps51
  go_wp2_with (fail)
  go_quiet (fail)
  go_wp2
  go_ret
  refine ⟨?_, ?_, ?_⟩
  · unfold bitAt; rw [HX.out, ← HB.out]; rfl
  · exact (RdAt.setAt (HA.out.kept ((Kept.refl (fun _ => False) _).drewN _) id id) (a + 1) _ (by omega))
  · exact ((Kept.refl (· = p) _).drewN _).setCell _ (fun _ => rfl) _

set_option maxHeartbeats 400000 in
theorem next_none (p g : Nat) (l : List Nat) (a : Nat) (w : World) (hl : Fair l) (h : RdAt w p g l a false) (ha : 8 * l.length ≤ a) (ha2 : a < 8796093022208) :
    Calls Tryd.prog 51 #[.pointer (some ⟨p, 0, none⟩)] w fun e w' => e = .panicked gaveUp ∧ w = w' := by
  obtain ⟨h0, h1, -, -, -⟩ := h.facts
  clear h
  have hlen := hl.2
  clear hl
  generalize l.length = n at *
  have hq : (n : Int) ≤ (a : Int) / 8 := by omega
  go_enter Tryd.func51, Tryd.ntmps51
  go_wp2_with (go_at_call 45; refine (giveUp_any _).mono ?_; rintro e w' ⟨rfl, rfl⟩)
  exact ⟨rfl, rfl, rfl⟩

/-- The number of k bits. -/
def valAt (l : List Nat) (a : Nat) : Nat → Nat
  | 0 => 0
  | k + 1 => 2 * valAt l a k + (bitAt l (a + k)).toNat

theorem valAt_lt (l : List Nat) (a k : Nat) : valAt l a k < 2 ^ k := by
  induction k with
  | zero => simp [valAt]
  | succ k ih => have := toNat_le_one (bitAt l (a + k)); simp only [valAt, Nat.pow_succ]; omega

def fixedAt (l : List Nat) (a k : Nat) : Option (Int × Nat) := if a + k ≤ 8 * l.length then some ((valAt l a k : Int), a + k) else none

theorem or_next (x : Nat) (b : Bool) (hx : x < 2 ^ 33) : bits BinOp.or IntKind.i64 ((x : Int) * 2) (b.toNat : Int) = ((2 * x + b.toNat : Nat) : Int) := by
  have := toNat_le_one b
  rw [bits_join .i64 63 (by decide) (fun n h0 h1 => by rw [IntKind.wrap_i64]; omega) 1 ((x : Int) * 2) (b.toNat : Int) (by omega) (by omega) (by omega) (by omega) (by omega) (by omega)]
  omega

set_option maxHeartbeats 400000 in
theorem fixed_rd (p g : Nat) (l : List Nat) (a k : Nat) (w : World) (hl : Fair l) (hk : k ≤ 32) (h : RdAt w p g l a false) (ha : a ≤ 8 * l.length) :
    Calls Tryd.prog 52 #[.pointer (some ⟨p, 0, none⟩), .int .i64 (k : Int)] w (RdPost w p g l (fixedAt l a k)) := by
  have H0 := Lib.hid h; clear h
  have HL := Lib.hid hl
  have hlen := hl.2
  clear hl
  go_enter Tryd.func52, Tryd.ntmps52
  go_wp2_with (fail)
  go_loopw [5, 7] (fun s5 s7 wr => ∃ j : Nat, j ≤ k ∧ s7 = .int .i64 (j : Int) ∧ s5 = .int .i64 (valAt l a j : Int) ∧ a + j ≤ 8 * l.length ∧ RdAt wr p g l (a + j) false ∧ Kept (· = p) w wr) (fun _ i _ => k - (intOf i).toNat)
  case atStart => exact ⟨0, Nat.zero_le _, rfl, rfl, ha, H0.out, Kept.refl _ _⟩
  case round =>
    obtain ⟨j, hj, rfl, rfl, haj, hr, hkp⟩ := hrel
    have HR := Lib.hid hr; clear hr
    have HK := Lib.hid hkp; clear hkp
    have hv := valAt_lt l a j
    have hv32 : valAt l a j < 4294967296 := Nat.lt_of_lt_of_le hv (by have := Nat.pow_le_pow_right (n := 2) (by decide) (show j ≤ 32 by omega); simpa using this)
    clear hv
    by_cases hlt : j < k
    · by_cases hin : a + j < 8 * l.length
      · go_wp2_with (fail)
        refine (next_some p g l (a + j) _ HL.out HR.out hin).mono ?_
        rintro e w1 ⟨rfl, hr1, hk1⟩
        have HR1 := Lib.hid hr1; clear hr1
        have HK1 := Lib.hid (HK.out.trans hk1 (fun _ _ x => x)); clear hk1
        go_wp2
        go_roundw
        case rel =>
          refine ⟨j + 1, by omega, by go_num, ?_, by omega, HR1.out, HK1.out⟩
          rw [or_next _ _ (by omega)]; rfl
        case measure => simp [intOf]; omega
      · go_wp2_with (fail)
        refine (next_none p g l (a + j) _ HL.out HR.out (by omega) (by omega)).mono ?_
        rintro e w1 ⟨rfl, rfl⟩
        go_wp2
        refine ⟨rfl, ?_⟩
        have e : fixedAt l a k = none := by unfold fixedAt; rw [if_neg (by omega)]
        rw [e]
        exact ⟨rfl, ⟨_, HR.out⟩, HK.out⟩
    · go_wp2
      go_ret
      have ej : j = k := by omega
      subst ej
      have e : fixedAt l a j = some ((valAt l a j : Int), a + j) := by unfold fixedAt; rw [if_pos haj]
      rw [e]
      exact ⟨rfl, HR.out, HK.out⟩

theorem fixed_yes (p g : Nat) (l : List Nat) (a k : Nat) (w : World) (hl : Fair l) (hk : k ≤ 32) (h : RdAt w p g l a false) (ha : a + k ≤ 8 * l.length) :
    Calls Tryd.prog 52 #[.pointer (some ⟨p, 0, none⟩), .int .i64 (k : Int)] w fun e w' => e = .returned (.int .i64 (valAt l a k : Int)) ∧ RdAt w' p g l (a + k) false ∧ Kept (· = p) w w' := by
  refine (fixed_rd p g l a k w hl hk h (by omega)).mono fun e w' hp => ?_
  have e : fixedAt l a k = some ((valAt l a k : Int), a + k) := by unfold fixedAt; rw [if_pos ha]
  rw [e] at hp; exact hp

theorem fixed_stop (p g : Nat) (l : List Nat) (a k : Nat) (w : World) (hl : Fair l) (hk : k ≤ 32) (h : RdAt w p g l a false) (ha : a ≤ 8 * l.length) (ha2 : 8 * l.length < a + k) :
    Calls Tryd.prog 52 #[.pointer (some ⟨p, 0, none⟩), .int .i64 (k : Int)] w fun e w' => e = .panicked gaveUp ∧ (∃ a, RdAt w' p g l a false) ∧ Kept (· = p) w w' := by
  refine (fixed_rd p g l a k w hl hk h (by omega)).mono fun e w' hp => ?_
  have e : fixedAt l a k = none := by unfold fixedAt; rw [if_neg (by omega)]
  rw [e] at hp; exact hp

/-- The number that Whole wrote at a, if z bits 0 of it are read; with fuel for as many rounds. -/
def wholeFrom (l : List Nat) (a : Nat) : Nat → Nat → Option (Int × Nat)
  | 0, _ => none
  | f + 1, z => if a + z < 8 * l.length then (if bitAt l (a + z) then (if a + z + 1 + z ≤ 8 * l.length then some (((2 ^ z + valAt l (a + z + 1) z : Nat) : Int) - 1, a + z + 1 + z) else none) else (if 31 < z + 1 then none else wholeFrom l a f (z + 1))) else none

def wholeAt (l : List Nat) (a : Nat) : Option (Int × Nat) := wholeFrom l a 33 0

theorem or_top (x z : Nat) (hz : z ≤ 31) (hx : x < 2 ^ z) : bits BinOp.or IntKind.i64 ((2 : Int) ^ z) (x : Int) = ((2 ^ z + x : Nat) : Int) := by
  have hp : (2 : Nat) ^ z ≤ 2 ^ 31 := Nat.pow_le_pow_right (by decide) hz
  have e : (2 : Int) ^ z = ((2 ^ z : Nat) : Int) := by simp
  rw [e, bits_join .i64 63 (by decide) (fun n h0 h1 => by rw [IntKind.wrap_i64]; omega) z ((2 ^ z : Nat) : Int) (x : Int) (by omega) (by simp) (by omega) (by omega) (by exact_mod_cast hx) (by omega)]
  omega

set_option maxHeartbeats 1000000 in
theorem whole_rd (p g : Nat) (l : List Nat) (a : Nat) (w : World) (hl : Fair l) (h : RdAt w p g l a false) (ha : a ≤ 8 * l.length) :
    Calls Tryd.prog 44 #[.pointer (some ⟨p, 0, none⟩)] w (RdPost w p g l (wholeAt l a)) := by
  have H0 := Lib.hid h; clear h
  have HL := Lib.hid hl
  have hlen := hl.2
  clear hl
  go_enter Tryd.func44, Tryd.ntmps44
  go_wp2_with (fail)
  go_loopw [3] (fun s3 wr => ∃ z : Nat, z ≤ 31 ∧ s3 = .int .i64 (z : Int) ∧ a + z ≤ 8 * l.length ∧ wholeFrom l a (33 - z) z = wholeAt l a ∧ RdAt wr p g l (a + z) false ∧ Kept (· = p) w wr) (fun i _ => 32 - (intOf i).toNat)
  case atStart => exact ⟨0, by omega, rfl, ha, rfl, H0.out, Kept.refl _ _⟩
  case round =>
    obtain ⟨z, hz, rfl, haz, hwf, hr, hkp⟩ := hrel
    have HR := Lib.hid hr; clear hr
    have HK := Lib.hid hkp; clear hkp
    have HF := Lib.hid hwf; clear hwf
    have hfz : 33 - z = (32 - z) + 1 := by omega
    have hf2 := HF.out
    rw [hfz, wholeFrom] at hf2
    have HF2 := Lib.hid hf2; clear hf2 hfz
    by_cases hin : a + z < 8 * l.length
    · cases hb : bitAt l (a + z) with
      | true =>
        have hbt : ((((bitAt l (a + z)).toNat : Nat) : Int) == 0) = false := by rw [hb]; rfl
        have HB := Lib.hid hb; clear hb
        go_wp2_with (fail)
        refine (next_some p g l (a + z) _ HL.out HR.out hin).mono ?_
        rintro e w1 ⟨rfl, hr1, hk1⟩
        have HR1 := Lib.hid hr1; clear hr1
        have HK1 := Lib.hid (HK.out.trans hk1 (fun _ _ x => x)); clear hk1
        have hv := valAt_lt l (a + z + 1) z
        have hor := or_top (valAt l (a + z + 1) z) z hz hv
        have HO := Lib.hid hor; clear hor
        have hp31 : (2 : Nat) ^ z ≤ 2147483648 := by have := Nat.pow_le_pow_right (n := 2) (by decide) hz; simpa using this
        have hv32 : valAt l (a + z + 1) z < 2147483648 := by omega
        have hw2 : IntKind.i64.wrap (2 ^ z) = 2 ^ z := by
          have e : (2 : Int) ^ z = ((2 ^ z : Nat) : Int) := by simp
          rw [e, IntKind.wrap_i64]; omega
        clear hv hp31
        by_cases hfit : a + z + 1 + z ≤ 8 * l.length
        · go_wp2_with (fail)
          go_region_with (go_at_call 52; refine (fixed_yes p g l (a + z + 1) z _ HL.out (by omega) ?_ hfit).mono ?_; exact HR1.out.drew; rintro e w2 ⟨rfl, hr2, hk2⟩)
          have HR2 := Lib.hid hr2; clear hr2
          have HK2 := Lib.hid (HK1.out.drew.trans hk2 (fun _ _ x => x)); clear hk2
          have hlo : 0 ≤ bits BinOp.or IntKind.i64 (2 ^ z) ↑(valAt l (a + z + 1) z) ∧ bits BinOp.or IntKind.i64 (2 ^ z) ↑(valAt l (a + z + 1) z) < 4294967296 := by
            have hp31 : (2 : Nat) ^ z ≤ 2147483648 := by have := Nat.pow_le_pow_right (n := 2) (by decide) hz; simpa using this
            have hp0 : 0 < (2 : Nat) ^ z := Nat.two_pow_pos z
            rw [HO.out]; omega
          obtain ⟨hlo1, hlo2⟩ := hlo
          go_wp2
          go_ret
          have e : wholeAt l a = some (((2 ^ z + valAt l (a + z + 1) z : Nat) : Int) - 1, a + z + 1 + z) := by rw [← HF2.out, if_pos hin, HB.out, if_pos rfl, if_pos hfit]
          rw [e]
          refine ⟨?_, HR2.out, HK2.out⟩
          rw [← HO.out]; rfl
        · have e : wholeAt l a = none := by rw [← HF2.out, if_pos hin, HB.out, if_pos rfl, if_neg hfit]
          have HE := Lib.hid e; clear e
          go_wp2_with (fail)
          refine wp_region_any (by kernel_rfl) ?_
          change wpAny _ _ _ _ _ _ _ (World.drew _)
          refine wpAny_take (i := 0) (v := ?_) rfl (by kernel_rfl) (by kernel_rfl) (by kernel_rfl) (fun _ _ _ h => h) (Or.inl ⟨by rfl, ?_⟩) ?_
          rotate_left
          · intro w; go_simp; try with_reducible rfl
          rotate_left
          refine wpAny_take (i := 1) (v := ?_) rfl (by kernel_rfl) (by kernel_rfl) (by kernel_rfl) (fun _ _ _ h => h) (Or.inl ⟨by rfl, ?_⟩) ?_
          rotate_left
          · intro w; go_simp; try with_reducible rfl
          rotate_left
          refine wpAny_take (i := 2) (v := ?_) rfl (by kernel_rfl) (by kernel_rfl) (by kernel_rfl) (fun _ _ _ h => h) (Or.inl ⟨by rfl, ?_⟩) ?_
          rotate_left
          · intro w; go_simp; try with_reducible rfl
          rotate_left
          refine wpAny_take (i := 3) (v := ?_) rfl (by kernel_rfl) (by kernel_rfl) (by kernel_rfl) (fun _ _ _ h => h) (Or.inl ⟨by rfl, ?_⟩) ?_
          rotate_left
          · intro w; go_simp; try with_reducible rfl
          rotate_left
          refine wpAny_ready (rs := [4]) (by kernel_rfl) (by simp) ?_
          refine AllReady.cons rfl (fun K hK => ?_) AllReady.nil
          go_simp
          refine (fixed_stop p g l (a + z + 1) z _ HL.out (by omega) ?_ (by omega) (by omega)).mono ?_
          · exact HR1.out.drew
          rintro e w2 ⟨rfl, hr2, hk2⟩
          refine ⟨rfl, ?_⟩
          rw [HE.out]
          exact ⟨rfl, hr2, HK1.out.drew.trans hk2 (fun _ _ x => x)⟩
      | false =>
        have hbt : ((((bitAt l (a + z)).toNat : Nat) : Int) == 0) = true := by rw [hb]; rfl
        have HB := Lib.hid hb; clear hb
        go_wp2_with (fail)
        refine (next_some p g l (a + z) _ HL.out HR.out hin).mono ?_
        rintro e w1 ⟨rfl, hr1, hk1⟩
        have HR1 := Lib.hid hr1; clear hr1
        have HK1 := Lib.hid (HK.out.trans hk1 (fun _ _ x => x)); clear hk1
        by_cases h31 : 31 < z + 1
        · go_wp2_with (fail)
          refine (giveUp_any _).mono ?_
          rintro e w2 ⟨rfl, rfl⟩
          go_wp2
          refine ⟨rfl, ?_⟩
          have e : wholeAt l a = none := by rw [← HF2.out, if_pos hin, HB.out, if_pos h31]; rfl
          rw [e]
          exact ⟨rfl, ⟨_, HR1.out⟩, HK1.out⟩
        · go_wp2
          go_roundw
          case rel =>
            refine ⟨z + 1, by omega, by go_num, by omega, ?_, HR1.out, HK1.out⟩
            rw [← HF2.out, if_pos hin, HB.out, if_neg h31]
            simp
          case measure => simp [intOf]; omega
    · go_wp2_with (fail)
      refine (next_none p g l (a + z) _ HL.out HR.out (by omega) (by omega)).mono ?_
      rintro e w1 ⟨rfl, rfl⟩
      go_wp2
      refine ⟨rfl, ?_⟩
      have e : wholeAt l a = none := by rw [← HF2.out, if_neg hin]
      rw [e]
      exact ⟨rfl, ⟨_, HR.out⟩, HK.out⟩

end Go.Proofs.YtipimcnjcpckeaaDoor
