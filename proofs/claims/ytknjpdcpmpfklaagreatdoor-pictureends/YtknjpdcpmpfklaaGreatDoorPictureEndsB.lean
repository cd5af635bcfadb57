/- What PictureEnds reaches of my texts, part 2. -/
import Derived.Test.YtknjpdcpmpfklaaGreatDoorPictureEndsA
set_option maxRecDepth 100000
set_option maxHeartbeats 4000000
set_option maxRecDepth 100000
namespace Go.Proofs.YtknjpdcpmpfklaaGreatDoor
open Go.RowKit
def RdAt (w : World) (p g : Nat) (l : List Nat) (at_ : Nat) (lost : Bool) : Prop :=
  w.heap[p]? = some (.cells #[.slice (some ⟨g, 0, none⟩) l.length l.length, .int .i64 (at_ : Int), .bool lost] 106 (0, 0)) ∧
    w.heap[g]? = some (.cells (byteVals l).toArray 5 (0, 0)) ∧ g ≠ p
theorem RdAt.kept {S : Nat → Prop} {w w' : World} {p g : Nat} {l : List Nat} {at_ : Nat} {lost : Bool} (h : RdAt w p g l at_ lost) (k : Kept S w w') (hp : ¬ S p) (hg : ¬ S g) : RdAt w' p g l at_ lost :=
  ⟨k.at h.1 hp, k.at h.2.1 hg, h.2.2⟩
theorem RdAt.drew {w : World} {p g : Nat} {l : List Nat} {at_ : Nat} {lost : Bool} (h : RdAt w p g l at_ lost) : RdAt w.drew p g l at_ lost := h
theorem RdAt.facts {w : World} {p g : Nat} {l : List Nat} {at_ : Nat} {lost : Bool} (h : RdAt w p g l at_ lost) :
    w.cell? ⟨p, 0, none⟩ = some (.slice (some ⟨g, 0, none⟩) l.length l.length) ∧ w.cell? ⟨p, 1, none⟩ = some (.int .i64 (at_ : Int)) ∧ w.cell? ⟨p, 2, none⟩ = some (.bool lost) ∧
    w.frozen? ⟨p, 1, none⟩ = false ∧ w.frozen? ⟨p, 2, none⟩ = false := by
  refine ⟨by rw [cell_of_heap h.1]; rfl, by rw [cell_of_heap h.1]; rfl, by rw [cell_of_heap h.1]; rfl, frozen_of_heap h.1, frozen_of_heap h.1⟩
theorem RdAt.byte {w : World} {p g : Nat} {l : List Nat} {at_ : Nat} {lost : Bool} (h : RdAt w p g l at_ lost) (i : Nat) (hi : i < l.length) : w.cell? ⟨g, i, none⟩ = some (.int .u8 (l.getD i 0 : Nat)) := by
  rw [cell_of_heap h.2.1]; simp [byteVals, List.getD, hi]
theorem RdAt.setAt {w : World} {p g : Nat} {l : List Nat} {at_ : Nat} {lost : Bool} (h : RdAt w p g l at_ lost) (n : Nat) (x : Int) (hx : x = (n : Int)) : RdAt (w.setCell ⟨p, 1, none⟩ (.int .i64 x)) p g l n lost := by
  subst hx
  refine ⟨?_, (heap_setCell_other _ p 1 g _ h.2.2).trans h.2.1, h.2.2⟩
  rw [heap_setCell_same _ p 1 _ h.1]; simp
theorem RdAt.setLost {w : World} {p g : Nat} {l : List Nat} {at_ : Nat} {lost : Bool} (h : RdAt w p g l at_ lost) (b : Bool) : RdAt (w.setCell ⟨p, 2, none⟩ (.bool b)) p g l at_ b := by
  refine ⟨?_, (heap_setCell_other _ p 2 g _ h.2.2).trans h.2.1, h.2.2⟩
  rw [heap_setCell_same _ p 2 _ h.1]; simp
def gaveUp : List PanicEntry := [{ v := .iface 33 (.int .i64 10), recovered := false }]
def RdPost (w : World) (p g : Nat) (l : List Nat) (o : Option (Int × Nat)) (e : Ending) (w' : World) : Prop :=
  match o with
  | some (n, a) => e = .returned (.int .i64 n) ∧ RdAt w' p g l a false ∧ Kept (· = p) w w'
  | none => e = .panicked gaveUp ∧ (∃ a, RdAt w' p g l a false) ∧ Kept (· = p) w w'
def Fair (l : List Nat) : Prop := (∀ x ∈ l, x < 256) ∧ l.length < 1099511627776
theorem Fair.getD {l : List Nat} (h : Fair l) (i : Nat) : l.getD i 0 < 256 := by
  rw [List.getD]
  cases hh : l[i]? with
  | none => simp
  | some x => simpa using h.1 x (List.mem_of_getElem? hh)
theorem giveUp_any (w : World) :
    Calls Tryz.prog 130 #[] w fun e w' => e = .panicked gaveUp ∧ w = w' := by
  go_enter Tryz.func130, Tryz.ntmps130
  go_wp2
  exact ⟨rfl, rfl, rfl⟩
theorem bit_of_byte (x k : Nat) (hx : x < 256) : wrap64 (bits BinOp.and IntKind.u8 ((x : Int) / 2 ^ k) 1) = ((x.testBit k).toNat : Int) := by
  have e : ((x : Int) / 2 ^ k) = ((x / 2 ^ k : Nat) : Int) := by simp
  have hle : x / 2 ^ k ≤ x := Nat.div_le_self _ _
  have := Nat.mod_lt (x / 2 ^ k) (show 0 < 2 by decide)
  rw [e, show (1 : Int) = ((1 : Nat) : Int) from rfl, u8_and_nat _ _ (by omega) (by omega), Nat.and_one_is_mod, Nat.toNat_testBit]
  unfold wrap64; omega
set_option maxHeartbeats 400000 in
theorem next_some (p g : Nat) (l : List Nat) (a : Nat) (w : World) (hl : Fair l) (h : RdAt w p g l a false) (ha : a < 8 * l.length) :
    Calls Tryz.prog 152 #[.pointer (some ⟨p, 0, none⟩)] w fun e w' => e = .returned (.int .i64 ((bitAt l a).toNat : Int)) ∧ RdAt w' p g l (a + 1) false ∧ Kept (· = p) w w' := by
  obtain ⟨h0, h1, -, f1, -⟩ := h.facts
  have hx := h.byte (a / 8) (by omega)
  have hx256 := hl.getD (a / 8)
  have hbit := bit_of_byte (l.getD (a / 8) 0) (7 - a % 8) hx256
  have HB := Lib.hid hbit; clear hbit
  have HA := Lib.hid h; clear h
  have hlen := hl.2
  clear hl
  generalize hX : l.getD (a / 8) 0 = x at *
  have HX := Lib.hid hX; clear hX
  generalize hN : l.length = n at *
  have HN := Lib.hid hN; clear hN
  have hq : (a : Int) / 8 < n := by omega
  have hq1 : 0 ≤ (a : Int) / 8 := by omega
  have hq2 : ((a : Int) / 8).toNat = a / 8 := by omega
  go_enter Tryz.func152, Tryz.ntmps152
  go_wp2_with (fail)
  go_quiet (fail)
  go_wp2
  go_ret
  refine ⟨?_, ?_, ?_⟩
  · unfold bitAt; rw [HX.out, ← HB.out]; rfl
  · exact (RdAt.setAt (HA.out.kept ((Kept.refl (fun _ => False) _).drewN _) id id) (a + 1) _ (by omega))
  · exact ((Kept.refl (· = p) _).drewN _).setCell _ (fun _ => rfl) _
set_option maxHeartbeats 400000 in
theorem next_none (p g : Nat) (l : List Nat) (a : Nat) (w : World) (hl : Fair l) (h : RdAt w p g l a false) (ha : 8 * l.length ≤ a) (ha2 : a < 8796093022208) :
    Calls Tryz.prog 152 #[.pointer (some ⟨p, 0, none⟩)] w fun e w' => e = .panicked gaveUp ∧ w = w' := by
  obtain ⟨h0, h1, -, -, -⟩ := h.facts
  clear h
  have hlen := hl.2
  clear hl
  generalize l.length = n at *
  have hq : (n : Int) ≤ (a : Int) / 8 := by omega
  go_enter Tryz.func152, Tryz.ntmps152
  go_wp2_with (go_at_call 130; refine (giveUp_any _).mono ?_; rintro e w' ⟨rfl, rfl⟩)
  exact ⟨rfl, rfl, rfl⟩
def valAt (l : List Nat) (a : Nat) : Nat → Nat
  | 0 => 0
  | k + 1 => 2 * valAt l a k + (bitAt l (a + k)).toNat
theorem valAt_lt (l : List Nat) (a k : Nat) : valAt l a k < 2 ^ k := by
  induction k with
  | zero => simp [valAt]
  | succ k ih => have := toNat_le_one (bitAt l (a + k)); simp only [valAt, Nat.pow_succ]; omega
def fixedAt (l : List Nat) (a k : Nat) : Option (Int × Nat) := if a + k ≤ 8 * l.length then some ((valAt l a k : Int), a + k) else none
theorem or_next (x : Nat) (b : Bool) (hx : x < 2 ^ 33) : bits BinOp.or IntKind.i64 ((x : Int) * 2) (b.toNat : Int) = ((2 * x + b.toNat : Nat) : Int) := by
  have := toNat_le_one b
  rw [bits_join .i64 63 (by decide) (fun n h0 h1 => by rw [IntKind.wrap_i64]; omega) 1 ((x : Int) * 2) (b.toNat : Int) (by omega) (by omega) (by omega) (by omega) (by omega) (by omega)]
  omega
set_option maxHeartbeats 400000 in
theorem fixed_rd (p g : Nat) (l : List Nat) (a k : Nat) (w : World) (hl : Fair l) (hk : k ≤ 32) (h : RdAt w p g l a false) (ha : a ≤ 8 * l.length) :
    Calls Tryz.prog 153 #[.pointer (some ⟨p, 0, none⟩), .int .i64 (k : Int)] w (RdPost w p g l (fixedAt l a k)) := by
  have H0 := Lib.hid h; clear h
  have HL := Lib.hid hl
  have hlen := hl.2
  clear hl
  go_enter Tryz.func153, Tryz.ntmps153
  go_wp2_with (fail)
  go_loopw [5, 7] (fun s5 s7 wr => ∃ j : Nat, j ≤ k ∧ s7 = .int .i64 (j : Int) ∧ s5 = .int .i64 (valAt l a j : Int) ∧ a + j ≤ 8 * l.length ∧ RdAt wr p g l (a + j) false ∧ Kept (· = p) w wr) (fun _ i _ => k - (intOf i).toNat)
  case atStart => exact ⟨0, Nat.zero_le _, rfl, rfl, ha, H0.out, Kept.refl _ _⟩
  case round =>
    obtain ⟨j, hj, rfl, rfl, haj, hr, hkp⟩ := hrel
    have HR := Lib.hid hr; clear hr
    have HK := Lib.hid hkp; clear hkp
    have hv := valAt_lt l a j
    have hv32 : valAt l a j < 4294967296 := Nat.lt_of_lt_of_le hv (by have := Nat.pow_le_pow_right (n := 2) (by decide) (show j ≤ 32 by omega); simpa using this)
    clear hv
    by_cases hlt : j < k
    · by_cases hin : a + j < 8 * l.length
      · go_wp2_with (fail)
        refine (next_some p g l (a + j) _ HL.out HR.out hin).mono ?_
        rintro e w1 ⟨rfl, hr1, hk1⟩
        have HR1 := Lib.hid hr1; clear hr1
        have HK1 := Lib.hid (HK.out.trans hk1 (fun _ _ x => x)); clear hk1
        go_wp2
        go_roundw
        case rel =>
          refine ⟨j + 1, by omega, by go_num, ?_, by omega, HR1.out, HK1.out⟩
          rw [or_next _ _ (by omega)]; rfl
        case measure => simp [intOf]; omega
      · go_wp2_with (fail)
        refine (next_none p g l (a + j) _ HL.out HR.out (by omega) (by omega)).mono ?_
        rintro e w1 ⟨rfl, rfl⟩
        go_wp2
        refine ⟨rfl, ?_⟩
        have e : fixedAt l a k = none := by unfold fixedAt; rw [if_neg (by omega)]
        rw [e]
        exact ⟨rfl, ⟨_, HR.out⟩, HK.out⟩
    · go_wp2
      go_ret
      have ej : j = k := by omega
      subst ej
      have e : fixedAt l a j = some ((valAt l a j : Int), a + j) := by unfold fixedAt; rw [if_pos haj]
      rw [e]
      exact ⟨rfl, HR.out, HK.out⟩
theorem fixed_yes (p g : Nat) (l : List Nat) (a k : Nat) (w : World) (hl : Fair l) (hk : k ≤ 32) (h : RdAt w p g l a false) (ha : a + k ≤ 8 * l.length) :
    Calls Tryz.prog 153 #[.pointer (some ⟨p, 0, none⟩), .int .i64 (k : Int)] w fun e w' => e = .returned (.int .i64 (valAt l a k : Int)) ∧ RdAt w' p g l (a + k) false ∧ Kept (· = p) w w' := by
  refine (fixed_rd p g l a k w hl hk h (by omega)).mono fun e w' hp => ?_
  have e : fixedAt l a k = some ((valAt l a k : Int), a + k) := by unfold fixedAt; rw [if_pos ha]
  rw [e] at hp; exact hp
theorem fixed_stop (p g : Nat) (l : List Nat) (a k : Nat) (w : World) (hl : Fair l) (hk : k ≤ 32) (h : RdAt w p g l a false) (ha : a ≤ 8 * l.length) (ha2 : 8 * l.length < a + k) :
    Calls Tryz.prog 153 #[.pointer (some ⟨p, 0, none⟩), .int .i64 (k : Int)] w fun e w' => e = .panicked gaveUp ∧ (∃ a, RdAt w' p g l a false) ∧ Kept (· = p) w w' := by
  refine (fixed_rd p g l a k w hl hk h (by omega)).mono fun e w' hp => ?_
  have e : fixedAt l a k = none := by unfold fixedAt; rw [if_neg (by omega)]
  rw [e] at hp; exact hp
def wholeFrom (l : List Nat) (a : Nat) : Nat → Nat → Option (Int × Nat)
  | 0, _ => none
  | f + 1, z => if a + z < 8 * l.length then (if bitAt l (a + z) then (if a + z + 1 + z ≤ 8 * l.length then some (((2 ^ z + valAt l (a + z + 1) z : Nat) : Int) - 1, a + z + 1 + z) else none) else (if 31 < z + 1 then none else wholeFrom l a f (z + 1))) else none
def wholeAt (l : List Nat) (a : Nat) : Option (Int × Nat) := wholeFrom l a 33 0
theorem or_top (x z : Nat) (hz : z ≤ 31) (hx : x < 2 ^ z) : bits BinOp.or IntKind.i64 ((2 : Int) ^ z) (x : Int) = ((2 ^ z + x : Nat) : Int) := by
  have hp : (2 : Nat) ^ z ≤ 2 ^ 31 := Nat.pow_le_pow_right (by decide) hz
  have e : (2 : Int) ^ z = ((2 ^ z : Nat) : Int) := by simp
  rw [e, bits_join .i64 63 (by decide) (fun n h0 h1 => by rw [IntKind.wrap_i64]; omega) z ((2 ^ z : Nat) : Int) (x : Int) (by omega) (by simp) (by omega) (by omega) (by exact_mod_cast hx) (by omega)]
  omega
set_option maxHeartbeats 1000000 in
theorem whole_rd (p g : Nat) (l : List Nat) (a : Nat) (w : World) (hl : Fair l) (h : RdAt w p g l a false) (ha : a ≤ 8 * l.length) :
    Calls Tryz.prog 129 #[.pointer (some ⟨p, 0, none⟩)] w (RdPost w p g l (wholeAt l a)) := by
  have H0 := Lib.hid h; clear h
  have HL := Lib.hid hl
  have hlen := hl.2
  clear hl
  go_enter Tryz.func129, Tryz.ntmps129
  go_wp2_with (fail)
  go_loopw [3] (fun s3 wr => ∃ z : Nat, z ≤ 31 ∧ s3 = .int .i64 (z : Int) ∧ a + z ≤ 8 * l.length ∧ wholeFrom l a (33 - z) z = wholeAt l a ∧ RdAt wr p g l (a + z) false ∧ Kept (· = p) w wr) (fun i _ => 32 - (intOf i).toNat)
  case atStart => exact ⟨0, by omega, rfl, ha, rfl, H0.out, Kept.refl _ _⟩
  case round =>
    obtain ⟨z, hz, rfl, haz, hwf, hr, hkp⟩ := hrel
    have HR := Lib.hid hr; clear hr
    have HK := Lib.hid hkp; clear hkp
    have HF := Lib.hid hwf; clear hwf
    have hfz : 33 - z = (32 - z) + 1 := by omega
    have hf2 := HF.out
    rw [hfz, wholeFrom] at hf2
    have HF2 := Lib.hid hf2; clear hf2 hfz
    by_cases hin : a + z < 8 * l.length
    · cases hb : bitAt l (a + z) with
      | true =>
        have hbt : ((((bitAt l (a + z)).toNat : Nat) : Int) == 0) = false := by rw [hb]; rfl
        have HB := Lib.hid hb; clear hb
        go_wp2_with (fail)
        refine (next_some p g l (a + z) _ HL.out HR.out hin).mono ?_
        rintro e w1 ⟨rfl, hr1, hk1⟩
        have HR1 := Lib.hid hr1; clear hr1
        have HK1 := Lib.hid (HK.out.trans hk1 (fun _ _ x => x)); clear hk1
        have hv := valAt_lt l (a + z + 1) z
        have hor := or_top (valAt l (a + z + 1) z) z hz hv
        have HO := Lib.hid hor; clear hor
        have hp31 : (2 : Nat) ^ z ≤ 2147483648 := by have := Nat.pow_le_pow_right (n := 2) (by decide) hz; simpa using this
        have hv32 : valAt l (a + z + 1) z < 2147483648 := by omega
        have hw2 : IntKind.i64.wrap (2 ^ z) = 2 ^ z := by
          have e : (2 : Int) ^ z = ((2 ^ z : Nat) : Int) := by simp
          rw [e, IntKind.wrap_i64]; omega
        clear hv hp31
        by_cases hfit : a + z + 1 + z ≤ 8 * l.length
        · go_wp2_with (fail)
          go_region_with (go_at_call 153; refine (fixed_yes p g l (a + z + 1) z _ HL.out (by omega) ?_ hfit).mono ?_; exact HR1.out.drew; rintro e w2 ⟨rfl, hr2, hk2⟩)
          have HR2 := Lib.hid hr2; clear hr2
          have HK2 := Lib.hid (HK1.out.drew.trans hk2 (fun _ _ x => x)); clear hk2
          have hlo : 0 ≤ bits BinOp.or IntKind.i64 (2 ^ z) ↑(valAt l (a + z + 1) z) ∧ bits BinOp.or IntKind.i64 (2 ^ z) ↑(valAt l (a + z + 1) z) < 4294967296 := by
            have hp31 : (2 : Nat) ^ z ≤ 2147483648 := by have := Nat.pow_le_pow_right (n := 2) (by decide) hz; simpa using this
            have hp0 : 0 < (2 : Nat) ^ z := Nat.two_pow_pos z
            rw [HO.out]; omega
          obtain ⟨hlo1, hlo2⟩ := hlo
          go_wp2
          go_ret
          have e : wholeAt l a = some (((2 ^ z + valAt l (a + z + 1) z : Nat) : Int) - 1, a + z + 1 + z) := by rw [← HF2.out, if_pos hin, HB.out, if_pos rfl, if_pos hfit]
          rw [e]
          refine ⟨?_, HR2.out, HK2.out⟩
          rw [← HO.out]; rfl
        · have e : wholeAt l a = none := by rw [← HF2.out, if_pos hin, HB.out, if_pos rfl, if_neg hfit]
          have HE := Lib.hid e; clear e
          go_wp2_with (fail)
          refine wp_region_any (by kernel_rfl) ?_
          change wpAny _ _ _ _ _ _ _ (World.drew _)
          refine wpAny_take (i := 0) (v := ?_) rfl (by kernel_rfl) (by kernel_rfl) (by kernel_rfl) (fun _ _ _ h => h) (Or.inl ⟨by rfl, ?_⟩) ?_
          rotate_left
          · intro w; go_simp; try with_reducible rfl
          rotate_left
          refine wpAny_take (i := 1) (v := ?_) rfl (by kernel_rfl) (by kernel_rfl) (by kernel_rfl) (fun _ _ _ h => h) (Or.inl ⟨by rfl, ?_⟩) ?_
          rotate_left
          · intro w; go_simp; try with_reducible rfl
          rotate_left
          refine wpAny_take (i := 2) (v := ?_) rfl (by kernel_rfl) (by kernel_rfl) (by kernel_rfl) (fun _ _ _ h => h) (Or.inl ⟨by rfl, ?_⟩) ?_
          rotate_left
          · intro w; go_simp; try with_reducible rfl
          rotate_left
          refine wpAny_take (i := 3) (v := ?_) rfl (by kernel_rfl) (by kernel_rfl) (by kernel_rfl) (fun _ _ _ h => h) (Or.inl ⟨by rfl, ?_⟩) ?_
          rotate_left
          · intro w; go_simp; try with_reducible rfl
          rotate_left
          refine wpAny_ready (rs := [4]) (by kernel_rfl) (by simp) ?_
          refine AllReady.cons rfl (fun K hK => ?_) AllReady.nil
          go_simp
          refine (fixed_stop p g l (a + z + 1) z _ HL.out (by omega) ?_ (by omega) (by omega)).mono ?_
          · exact HR1.out.drew
          rintro e w2 ⟨rfl, hr2, hk2⟩
          refine ⟨rfl, ?_⟩
          rw [HE.out]
          exact ⟨rfl, hr2, HK1.out.drew.trans hk2 (fun _ _ x => x)⟩
      | false =>
        have hbt : ((((bitAt l (a + z)).toNat : Nat) : Int) == 0) = true := by rw [hb]; rfl
        have HB := Lib.hid hb; clear hb
        go_wp2_with (fail)
        refine (next_some p g l (a + z) _ HL.out HR.out hin).mono ?_
        rintro e w1 ⟨rfl, hr1, hk1⟩
        have HR1 := Lib.hid hr1; clear hr1
        have HK1 := Lib.hid (HK.out.trans hk1 (fun _ _ x => x)); clear hk1
        by_cases h31 : 31 < z + 1
        · go_wp2_with (fail)
          refine (giveUp_any _).mono ?_
          rintro e w2 ⟨rfl, rfl⟩
          go_wp2
          refine ⟨rfl, ?_⟩
          have e : wholeAt l a = none := by rw [← HF2.out, if_pos hin, HB.out, if_pos h31]; rfl
          rw [e]
          exact ⟨rfl, ⟨_, HR1.out⟩, HK1.out⟩
        · go_wp2
          go_roundw
          case rel =>
            refine ⟨z + 1, by omega, by go_num, by omega, ?_, HR1.out, HK1.out⟩
            rw [← HF2.out, if_pos hin, HB.out, if_neg h31]
            simp
          case measure => simp [intOf]; omega
    · go_wp2_with (fail)
      refine (next_none p g l (a + z) _ HL.out HR.out (by omega) (by omega)).mono ?_
      rintro e w1 ⟨rfl, rfl⟩
      go_wp2
      refine ⟨rfl, ?_⟩
      have e : wholeAt l a = none := by rw [← HF2.out, if_neg hin]
      rw [e]
      exact ⟨rfl, ⟨_, HR.out⟩, HK.out⟩
end Go.Proofs.YtknjpdcpmpfklaaGreatDoor
set_option maxRecDepth 100000
namespace Go.Proofs.YtknjpdcpmpfklaaGreatDoor
open Go.RowKit
theorem lost_rd (p g : Nat) (l : List Nat) (a : Nat) (b : Bool) (w : World) (h : RdAt w p g l a b) :
    Calls Tryz.prog 98 #[.pointer (some ⟨p, 0, none⟩)] w fun e w' => e = .returned (.bool b) ∧ w = w' := by
  obtain ⟨-, -, h2, -, -⟩ := h.facts
  clear h
  go_enter Tryz.func98, Tryz.ntmps98
  go_wp2
  go_ret
  exact ⟨rfl, rfl⟩
theorem catch_panicking (pn pr : Addr) (p : Nat) (b : Bool) (u : TypeId) (pv : Value) (older : List PanicEntry) (w : World)
    (hn : w.cell? pn = some (.int .i64 0)) (fn : w.frozen? pn = false) (hr : w.cell? pr = some (.pointer (some ⟨p, 0, none⟩))) (hl : w.cell? ⟨p, 2, none⟩ = some (.bool b)) (fl : w.frozen? ⟨p, 2, none⟩ = false) (hne : ¬ pn.block = p) :
    CallsD Tryz.prog 151 #[.pointer (some pn), .pointer (some pr)] (.panicking ({ v := .iface u pv, recovered := false } :: older)) w fun e u' w' =>
      e = .returned (.tuple #[]) ∧ u' = .panicking ({ v := .iface u pv, recovered := true } :: older) ∧ w' = (w.setCell pn (.int .i64 0)).setCell ⟨p, 2, none⟩ (.bool true) := by
  refine callsD_of_wpS Tryz.func151 rfl fun c₀ cs hu => ?_
  apply wpS_seq
  apply wpS_region
  simp [wpOpsS, go_sem, recoverD, hu, Tryz.ntmps151, Exit.thenS]
  refine wpS_cond (t := true) (by simp [Act.eval, Array.replicate]) ?_
  simp only [if_true]
  apply wpS_region
  have hl2 : (w.setCell pn (.int .i64 0)).cell? ⟨p, 2, none⟩ = some (.bool b) := by
    rw [← hl]; exact World.cell?_of_block (Below.heap_setCell _ _ _ _ (fun e => hne e.symm))
  have fl2 : (w.setCell pn (.int .i64 0)).frozen? ⟨p, 2, none⟩ = false := by
    rw [← fl]; exact World.frozen?_of_block (Below.heap_setCell _ _ _ _ (fun e => hne e.symm))
  simp [wpOpsS, go_sem, hn, fn, hr, hl2, fl2, bodyPostS, results, Tryz.results151]
theorem catch_idle (pn pr : Addr) (w : World) :
    CallsD Tryz.prog 151 #[.pointer (some pn), .pointer (some pr)] .returning w fun e u' w' => e = .returned (.tuple #[]) ∧ u' = .returning ∧ w' = w := by
  refine callsD_of_wpS Tryz.func151 rfl fun c₀ cs hu => ?_
  apply wpS_seq
  apply wpS_region
  simp [wpOpsS, go_sem, recoverD, hu, Tryz.ntmps151, Exit.thenS]
  refine wpS_cond (t := false) (by simp [Act.eval, Array.replicate]) ?_
  simp only [Bool.false_eq_true, if_false]
  refine wpS_of_wp (wp_skip ?_)
  cases c₀
  simp_all [bodyPostS, results, Tryz.results151]
theorem RdAt.lt {w : World} {p g : Nat} {l : List Nat} {a : Nat} {b : Bool} (h : RdAt w p g l a b) : p < w.heap.size ∧ g < w.heap.size := ⟨lt_of_heap h.1, lt_of_heap h.2.1⟩
set_option maxHeartbeats 400000 in
theorem attempt_lost (p g : Nat) (l : List Nat) (a : Nat) (f : Value) (w : World) (h : RdAt w p g l a true) :
    Calls Tryz.prog 127 #[.pointer (some ⟨p, 0, none⟩), f] w fun e w' => e = .returned (.int .i64 0) ∧ Kept (fun _ => False) w w' := by
  have H0 := Lib.hid h; clear h
  go_enter_defers Tryz.func127, Tryz.ntmps127
  go_wp2_with (fail)
  refine (lost_rd p g l a true _ ?_).mono ?_
  · exact (H0.out.kept ((Kept.refl (fun _ => False) _).alloc _) id id).kept ((Kept.refl (fun _ => False) _).alloc _) id id
  rintro e w1 ⟨rfl, rfl⟩
  go_wp2
  simp [bodyPostD, Leaves, results, Tryz.results127, go_sem]
  exact ((Kept.refl _ _).alloc _).alloc _
theorem two_boxes (w : World) (x y : Value) (t t' : TypeId) :
    ((w.alloc (.cells #[x] t)).alloc (.cells #[y] t')).heap[w.heap.size]? = some (.cells #[x] t) ∧ ((w.alloc (.cells #[x] t)).alloc (.cells #[y] t')).heap[w.heap.size + 1]? = some (.cells #[y] t') := by
  constructor
  · rw [Below.heap_alloc _ _ _ (by simp)]; exact heap_alloc_new w _
  · have := heap_alloc_new (w.alloc (.cells #[x] t)) (.cells #[y] t')
    simpa using this
def RdRes (w : World) (p g : Nat) (l : List Nat) (o : Option (Int × Nat)) (e : Ending) (w' : World) : Prop :=
  match o with
  | some (n, a) => e = .returned (.int .i64 n) ∧ RdAt w' p g l a false ∧ Kept (· = p) w w'
  | none => e = .returned (.int .i64 0) ∧ (∃ a, RdAt w' p g l a true) ∧ Kept (· = p) w w'
set_option maxHeartbeats 400000 in
theorem attempt_some (p g : Nat) (l : List Nat) (a : Nat) (f : FuncId) (first cap : Array Value) (n : Int) (a' : Nat) (w : World) (h : RdAt w p g l a false)
    (hcf : ∀ (A : Array Value) (w : World), (callFunc f A).run Tryz.prog w = .ok (.enter f A) w)
    (hcall : ∀ w1, Kept (fun _ => False) w w1 → Calls Tryz.prog f (first ++ cap) w1 (RdPost w1 p g l (some (n, a')))) :
    Calls Tryz.prog 127 #[.pointer (some ⟨p, 0, none⟩), .func (.func f) first cap] w (RdRes w p g l (some (n, a'))) := by
  have hmf : ∀ (fn : Fn) (first cap : Array Value) (w : World), (Instr.makeFunc fn first cap).run Tryz.prog w = .ok (.func fn first cap) w := fun _ _ _ _ => rfl
  have hpl := h.lt.1
  have hgl := h.lt.2
  have H0 := Lib.hid h; clear h
  have HC := Lib.hid hcall; clear hcall
  go_enter_defers Tryz.func127, Tryz.ntmps127
  go_wp2_with (fail)
  refine (lost_rd p g l a false _ ?_).mono ?_
  · exact (H0.out.kept ((Kept.refl (fun _ => False) _).alloc _) id id).kept ((Kept.refl (fun _ => False) _).alloc _) id id
  rintro e w1 ⟨rfl, rfl⟩
  go_wp2_with (fail)
  refine (HC.out _ (((Kept.refl _ _).alloc _).alloc _)).mono ?_
  rintro e w1 ⟨rfl, hr1, hk1⟩
  obtain ⟨b0, b1⟩ := two_boxes w (.pointer (some ⟨p, 0, none⟩)) (.int .i64 0) 54 3
  have hb1 := hk1.at b1 (by omega)
  have k1 : w1.cell? ⟨w.heap.size + 1, 0, none⟩ = some (.int .i64 0) := by rw [cell_of_heap hb1]; rfl
  have f1 : w1.frozen? ⟨w.heap.size + 1, 0, none⟩ = false := frozen_of_heap hb1
  have HB1 := Lib.hid hb1
  clear b0 b1 hb1
  have HR1 := Lib.hid hr1; clear hr1
  have HK1 := Lib.hid hk1; clear hk1
  go_wp2
  refine leaves_cons (f := 151) (args := #[.pointer (some ⟨w.heap.size + 1, 0, none⟩), .pointer (some ⟨w.heap.size, 0, none⟩)]) (by simp) (by simp [go_sem]) ?_
  refine (catch_idle ⟨w.heap.size + 1, 0, none⟩ ⟨w.heap.size, 0, none⟩ _).mono ?_
  rintro e u' w'' ⟨rfl, rfl, rfl⟩
  simp [Leaves, settle, results, Tryz.results127, go_sem]
  have hb1 := HB1.out
  have k2 : (w1.setCell ⟨w.heap.size + 1, 0, none⟩ (.int .i64 n)).cell? ⟨w.heap.size + 1, 0, none⟩ = some (.int .i64 n) := by
    rw [cell_of_heap (heap_setCell_same w1 (w.heap.size + 1) 0 (.int .i64 n) hb1)]; rfl
  rw [k2]
  refine ⟨_, rfl, rfl, ?_, ?_⟩
  · exact HR1.out.kept ((Kept.refl (· = w.heap.size + 1) _).setCell _ (fun _ => rfl) _) (by omega) (by omega)
  · refine ((((Kept.refl (· = p) w).alloc _).alloc _).trans HK1.out (fun _ _ x => x)).setCell _ (fun h => ?_) _
    exact absurd h (by simp)
set_option maxHeartbeats 400000 in
theorem attempt_none (p g : Nat) (l : List Nat) (a : Nat) (f : FuncId) (first cap : Array Value) (w : World) (h : RdAt w p g l a false)
    (hcf : ∀ (A : Array Value) (w : World), (callFunc f A).run Tryz.prog w = .ok (.enter f A) w)
    (hcall : ∀ w1, Kept (fun _ => False) w w1 → Calls Tryz.prog f (first ++ cap) w1 (RdPost w1 p g l none)) :
    Calls Tryz.prog 127 #[.pointer (some ⟨p, 0, none⟩), .func (.func f) first cap] w (RdRes w p g l none) := by
  have hmf : ∀ (fn : Fn) (first cap : Array Value) (w : World), (Instr.makeFunc fn first cap).run Tryz.prog w = .ok (.func fn first cap) w := fun _ _ _ _ => rfl
  have hpl := h.lt.1
  have hgl := h.lt.2
  have H0 := Lib.hid h; clear h
  have HC := Lib.hid hcall; clear hcall
  go_enter_defers Tryz.func127, Tryz.ntmps127
  go_wp2_with (fail)
  refine (lost_rd p g l a false _ ?_).mono ?_
  · exact (H0.out.kept ((Kept.refl (fun _ => False) _).alloc _) id id).kept ((Kept.refl (fun _ => False) _).alloc _) id id
  rintro e w1 ⟨rfl, rfl⟩
  go_wp2_with (fail)
  refine (HC.out _ (((Kept.refl _ _).alloc _).alloc _)).mono ?_
  rintro e w1 ⟨rfl, ⟨a', hr1⟩, hk1⟩
  obtain ⟨b0, b1⟩ := two_boxes w (.pointer (some ⟨p, 0, none⟩)) (.int .i64 0) 54 3
  have hb0 := hk1.at b0 (by omega)
  have hb1 := hk1.at b1 (by omega)
  have k0 : w1.cell? ⟨w.heap.size, 0, none⟩ = some (.pointer (some ⟨p, 0, none⟩)) := by rw [cell_of_heap hb0]; rfl
  have k1 : w1.cell? ⟨w.heap.size + 1, 0, none⟩ = some (.int .i64 0) := by rw [cell_of_heap hb1]; rfl
  have f1 : w1.frozen? ⟨w.heap.size + 1, 0, none⟩ = false := frozen_of_heap hb1
  obtain ⟨-, -, k2, -, f2⟩ := hr1.facts
  have HB1 := Lib.hid hb1
  clear b0 b1 hb0 hb1
  have HR1 := Lib.hid hr1; clear hr1
  have HK1 := Lib.hid hk1; clear hk1
  go_wp2
  refine leaves_cons (f := 151) (args := #[.pointer (some ⟨w.heap.size + 1, 0, none⟩), .pointer (some ⟨w.heap.size, 0, none⟩)]) (by simp) (by simp [go_sem]) ?_
  refine (catch_panicking ⟨w.heap.size + 1, 0, none⟩ ⟨w.heap.size, 0, none⟩ p false _ _ [] _ k1 f1 k0 k2 f2 (by simp; omega)).mono ?_
  rintro e u' w'' ⟨rfl, rfl, rfl⟩
  have hb1 := HB1.out
  have k3 : (w1.setCell ⟨w.heap.size + 1, 0, none⟩ (.int .i64 0)).cell? ⟨w.heap.size + 1, 0, none⟩ = some (.int .i64 0) := by
    rw [cell_of_heap (heap_setCell_same w1 (w.heap.size + 1) 0 (.int .i64 0) hb1)]; rfl
  simp [Leaves, settle, results, Tryz.results127, go_sem]
  rw [k3]
  refine ⟨_, rfl, rfl, ⟨a', ?_⟩, ?_⟩
  · exact (HR1.out.kept ((Kept.refl (· = w.heap.size + 1) _).setCell _ (fun _ => rfl) _) (by omega) (by omega)).setLost true
  · refine (((((Kept.refl (· = p) w).alloc _).alloc _).trans HK1.out (fun _ _ x => x)).setCell _ (fun h => ?_) _).setCell _ (fun _ => rfl) _
    exact absurd h (by simp)
theorem attempt_any (p g : Nat) (l : List Nat) (a : Nat) (f : FuncId) (first cap : Array Value) (o : Option (Int × Nat)) (w : World) (h : RdAt w p g l a false)
    (hcf : ∀ (A : Array Value) (w : World), (callFunc f A).run Tryz.prog w = .ok (.enter f A) w)
    (hcall : ∀ w1, Kept (fun _ => False) w w1 → Calls Tryz.prog f (first ++ cap) w1 (RdPost w1 p g l o)) :
    Calls Tryz.prog 127 #[.pointer (some ⟨p, 0, none⟩), .func (.func f) first cap] w (RdRes w p g l o) := by
  match o, hcall with
  | none, hcall => exact attempt_none p g l a f first cap w h hcf hcall
  | some (n, a'), hcall => exact attempt_some p g l a f first cap n a' w h hcf hcall
end Go.Proofs.YtknjpdcpmpfklaaGreatDoor
set_option maxRecDepth 100000
namespace Go.Proofs.YtknjpdcpmpfklaaGreatDoor
open Go.RowKit
def RdIs (w : World) (p g : Nat) (l : List Nat) (st : Option Nat) : Prop :=
  match st with
  | some a => a ≤ 8 * l.length ∧ RdAt w p g l a false
  | none => ∃ a, RdAt w p g l a true
theorem RdIs.kept {S : Nat → Prop} {w w' : World} {p g : Nat} {l : List Nat} {st : Option Nat} (h : RdIs w p g l st) (k : Kept S w w') (hp : ¬ S p) (hg : ¬ S g) : RdIs w' p g l st := by
  cases st with
  | none => obtain ⟨a, h⟩ := h; exact ⟨a, h.kept k hp hg⟩
  | some a => exact ⟨h.1, h.2.kept k hp hg⟩
theorem RdIs.lt {w : World} {p g : Nat} {l : List Nat} {st : Option Nat} (h : RdIs w p g l st) : p < w.heap.size ∧ g < w.heap.size ∧ g ≠ p := by
  cases st with
  | none => obtain ⟨a, h⟩ := h; exact ⟨h.lt.1, h.lt.2, h.2.2⟩
  | some a => exact ⟨h.2.lt.1, h.2.lt.2, h.2.2.2⟩
def rdStep (rd : Nat → Option (Int × Nat)) (st : Option Nat) : Int × Option Nat :=
  match st with
  | none => (0, none)
  | some a => match rd a with
    | some (n, a') => (n, some a')
    | none => (0, none)
def RdDone (w : World) (p g : Nat) (l : List Nat) (r : Int × Option Nat) (e : Ending) (w' : World) : Prop :=
  e = .returned (.int .i64 r.1) ∧ RdIs w' p g l r.2 ∧ Kept (· = p) w w'
theorem RdDone.of_res {w w' : World} {p g : Nat} {l : List Nat} {e : Ending} (rd : Nat → Option (Int × Nat)) (a : Nat) (hb : ∀ n a', rd a = some (n, a') → a' ≤ 8 * l.length) (h : RdRes w p g l (rd a) e w') :
    RdDone w p g l (rdStep rd (some a)) e w' := by
  cases ho : rd a with
  | none =>
    have e : rdStep rd (some a) = (0, none) := by simp [rdStep, ho]
    rw [e]
    rw [ho] at h
    exact ⟨h.1, h.2.1, h.2.2⟩
  | some na =>
    obtain ⟨n, a'⟩ := na
    have e : rdStep rd (some a) = (n, some a') := by simp [rdStep, ho]
    rw [e]
    rw [ho] at h
    exact ⟨h.1, ⟨hb n a' ho, h.2.1⟩, h.2.2⟩
theorem wholeFrom_le (l : List Nat) (a : Nat) (f z : Nat) (n : Int) (a' : Nat) (hz : z ≤ 31) (h : wholeFrom l a f z = some (n, a')) : a' ≤ 8 * l.length ∧ 0 ≤ n ∧ n < 4294967296 := by
  induction f generalizing z with
  | zero => cases h
  | succ f ih =>
    unfold wholeFrom at h
    split at h
    · split at h
      · split at h
        · simp only [Option.some.injEq, Prod.mk.injEq] at h
          obtain ⟨rfl, rfl⟩ := h
          have h1 := valAt_lt l (a + z + 1) z
          have h2 : (2 : Nat) ^ z ≤ 2147483648 := by have := Nat.pow_le_pow_right (n := 2) (by decide) hz; simpa using this
          have h3 : 0 < (2 : Nat) ^ z := Nat.two_pow_pos z
          omega
        · cases h
      · split at h
        · cases h
        · exact ih _ (by omega) h
    · cases h
theorem Tryz.enters_whole (A : Array Value) (w : World) : (callFunc 128 A).run Tryz.prog w = .ok (.enter 128 A) w := by
  exact MuLone.run_callFunc_enter Tryz.func128 (by kernel_rfl) rfl A w
theorem Tryz.enters_signed (A : Array Value) (w : World) : (callFunc 155 A).run Tryz.prog w = .ok (.enter 155 A) w := by
  exact MuLone.run_callFunc_enter Tryz.func155 (by kernel_rfl) rfl A w
def wholeRd (l : List Nat) (most : Int) (a : Nat) : Option (Int × Nat) :=
  match wholeAt l a with
  | some (n, a') => if most < n then none else some (n, a')
  | none => none
def unsign (n : Int) : Int := if n % 2 = 1 then (n + 1) / 2 else -(n / 2)
def signedRd (l : List Nat) (most : Int) (a : Nat) : Option (Int × Nat) :=
  match wholeAt l a with
  | some (n, a') => if most < unsign n ∨ most < -unsign n then none else some (unsign n, a')
  | none => none
theorem max_neg (n : Int) (h0 : -4294967296 ≤ n) (h1 : n ≤ 4294967296) (most : Int) : (most < max n (-n)) ↔ (most < n ∨ most < -n) := by omega
set_option maxHeartbeats 400000 in
theorem whole_in (p g : Nat) (l : List Nat) (a : Nat) (k : Int) (bk br : Addr) (w : World) (hl : Fair l) (h : RdAt w p g l a false) (ha : a ≤ 8 * l.length)
    (hk : w.cell? bk = some (.int .i64 k)) (hr : w.cell? br = some (.pointer (some ⟨p, 0, none⟩))) (hbk : ¬ bk.block = p) :
    Calls Tryz.prog 128 #[.pointer (some br), .pointer (some bk)] w (RdPost w p g l (wholeRd l k a)) := by
  have H0 := Lib.hid h; clear h
  have HL := Lib.hid hl; clear hl
  have hkl := World.block_lt_of_cell? w bk hk
  go_enter Tryz.func128, Tryz.ntmps128
  go_wp2_with (fail)
  refine (whole_rd p g l a _ HL.out H0.out ha).mono ?_
  intro e w1 hp
  cases ho : wholeAt l a with
  | none =>
    rw [ho] at hp
    obtain ⟨rfl, h2, h3⟩ := hp
    have he : wholeRd l k a = none := by simp [wholeRd, ho]
    rw [he]
    exact ⟨rfl, rfl, h2, h3⟩
  | some na =>
    obtain ⟨n, a'⟩ := na
    rw [ho] at hp
    obtain ⟨rfl, h2, h3⟩ := hp
    have hb := wholeFrom_le l a 33 0 n a' (by omega) ho
    obtain ⟨-, hn0, hn1⟩ := hb
    have hk1 : w1.cell? bk = some (.int .i64 k) := (World.cell?_of_block (h3.block bk.block hkl hbk)).trans hk
    have H2 := Lib.hid h2; clear h2
    have H3 := Lib.hid h3; clear h3
    have HO := Lib.hid ho; clear ho
    clear hk hr
    by_cases hm : k < n
    · have he : wholeRd l k a = none := by simp [wholeRd, HO.out, hm]
      have HE := Lib.hid he; clear he
      go_wp2_with (go_at_call 130; refine (giveUp_any _).mono ?_; rintro e w' ⟨rfl, rfl⟩)
      refine ⟨rfl, ?_⟩
      rw [HE.out]
      exact ⟨rfl, ⟨a', H2.out⟩, H3.out⟩
    · have he : wholeRd l k a = some (n, a') := by simp [wholeRd, HO.out, hm]
      have HE := Lib.hid he; clear he
      go_wp2
      go_ret
      rw [HE.out]
      exact ⟨rfl, H2.out, H3.out⟩
set_option maxHeartbeats 400000 in
theorem sign_rd (p g : Nat) (l : List Nat) (a : Nat) (w : World) (hl : Fair l) (h : RdAt w p g l a false) (ha : a ≤ 8 * l.length) :
    Calls Tryz.prog 156 #[.pointer (some ⟨p, 0, none⟩)] w (RdPost w p g l ((wholeAt l a).map fun x => (unsign x.1, x.2))) := by
  have H0 := Lib.hid h; clear h
  have HL := Lib.hid hl; clear hl
  go_enter Tryz.func156, Tryz.ntmps156
  go_wp2_with (fail)
  refine (whole_rd p g l a _ HL.out H0.out ha).mono ?_
  intro e w1 hp
  cases ho : wholeAt l a with
  | none =>
    rw [ho] at hp
    obtain ⟨rfl, h2, h3⟩ := hp
    refine ⟨rfl, ?_⟩
    rw [ho]
    exact ⟨rfl, h2, h3⟩
  | some na =>
    obtain ⟨n, a'⟩ := na
    rw [ho] at hp
    obtain ⟨rfl, h2, h3⟩ := hp
    have hb := wholeFrom_le l a 33 0 n a' (by omega) ho
    obtain ⟨-, hn0, hn1⟩ := hb
    have H2 := Lib.hid h2; clear h2
    have H3 := Lib.hid h3; clear h3
    have HO := Lib.hid ho; clear ho
    by_cases hm : n % 2 = 1
    · have hb : (n % 2 == 1) = true := by simpa using hm
      have hu : unsign n = (n + 1) / 2 := if_pos hm
      have HU := Lib.hid hu; clear hu hm
      go_wp2
      go_ret
      rw [HO.out]
      refine ⟨?_, H2.out, H3.out⟩
      rw [HU.out]; rfl
    · have hb : (n % 2 == 1) = false := by simpa using hm
      have hu : unsign n = -(n / 2) := if_neg hm
      have HU := Lib.hid hu; clear hu
      have HM := Lib.hid hm; clear hm
      go_wp2
      go_ret
      rw [HO.out]
      refine ⟨?_, H2.out, H3.out⟩
      have e : wrap64 (-n.tdiv 2) = unsign n := by
        rw [HU.out, Int.tdiv_eq_ediv_of_nonneg hn0]; unfold wrap64; omega
      show Ending.returned (.int .i64 (wrap64 (-n.tdiv 2))) = _
      rw [e]
theorem unsign_bounds (n : Int) (h0 : 0 ≤ n) (h1 : n < 4294967296) : -4294967296 ≤ unsign n ∧ unsign n ≤ 4294967296 := by unfold unsign; split <;> omega
set_option maxHeartbeats 400000 in
theorem signed_in (p g : Nat) (l : List Nat) (a : Nat) (k : Int) (bk br : Addr) (w : World) (hl : Fair l) (h : RdAt w p g l a false) (ha : a ≤ 8 * l.length)
    (hk : w.cell? bk = some (.int .i64 k)) (hr : w.cell? br = some (.pointer (some ⟨p, 0, none⟩))) (hbk : ¬ bk.block = p) :
    Calls Tryz.prog 155 #[.pointer (some br), .pointer (some bk)] w (RdPost w p g l (signedRd l k a)) := by
  have H0 := Lib.hid h; clear h
  have HL := Lib.hid hl; clear hl
  have hkl := World.block_lt_of_cell? w bk hk
  go_enter Tryz.func155, Tryz.ntmps155
  go_wp2_with (fail)
  refine (sign_rd p g l a _ HL.out H0.out ha).mono ?_
  intro e w1 hp
  cases ho : wholeAt l a with
  | none =>
    rw [ho] at hp
    obtain ⟨rfl, h2, h3⟩ := hp
    have he : signedRd l k a = none := by simp [signedRd, ho]
    rw [he]
    exact ⟨rfl, rfl, h2, h3⟩
  | some na =>
    obtain ⟨n0, a'⟩ := na
    rw [ho] at hp
    obtain ⟨rfl, h2, h3⟩ := hp
    have hb := wholeFrom_le l a 33 0 n0 a' (by omega) ho
    have hu := unsign_bounds n0 hb.2.1 hb.2.2
    have hk1 : w1.cell? bk = some (.int .i64 k) := (World.cell?_of_block (h3.block bk.block hkl hbk)).trans hk
    have H2 := Lib.hid h2; clear h2
    have H3 := Lib.hid h3; clear h3
    have HO := Lib.hid ho; clear ho
    clear hk hr hb
    have hs : signedRd l k a = if k < unsign n0 ∨ k < -unsign n0 then none else some (unsign n0, a') := by simp only [signedRd, HO.out]
    have HS := Lib.hid hs; clear hs
    dsimp only
    generalize unsign n0 = n at *
    obtain ⟨hn0, hn1⟩ := hu
    by_cases hm : k < max n (-n)
    · have he : signedRd l k a = none := by rw [HS.out, if_pos ((max_neg n hn0 hn1 k).1 hm)]
      have HE := Lib.hid he; clear he
      go_wp2_with (go_at_call 130; refine (giveUp_any _).mono ?_; rintro e w' ⟨rfl, rfl⟩)
      refine ⟨rfl, ?_⟩
      rw [HE.out]
      exact ⟨rfl, ⟨a', H2.out⟩, H3.out⟩
    · have he : signedRd l k a = some (n, a') := by rw [HS.out, if_neg (fun x => hm ((max_neg n hn0 hn1 k).2 x))]
      have HE := Lib.hid he; clear he
      go_wp2
      go_ret
      rw [HE.out]
      exact ⟨rfl, H2.out, H3.out⟩
theorem wholeRd_le (l : List Nat) (k : Int) (a : Nat) (n : Int) (a' : Nat) (h : wholeRd l k a = some (n, a')) : a' ≤ 8 * l.length := by
  unfold wholeRd at h
  split at h
  · rename_i m b ho
    split at h
    · cases h
    · cases h; exact (wholeFrom_le l a 33 0 _ _ (by omega) ho).1
  · cases h
theorem signedRd_le (l : List Nat) (k : Int) (a : Nat) (n : Int) (a' : Nat) (h : signedRd l k a = some (n, a')) : a' ≤ 8 * l.length := by
  unfold signedRd at h
  split at h
  · rename_i m b ho
    split at h
    · cases h
    · cases h; exact (wholeFrom_le l a 33 0 _ _ (by omega) ho).1
  · cases h
theorem two_cells {w w1 : World} {x y : Value} {t t' : TypeId} (k : Kept (fun _ => False) ((w.alloc (.cells #[x] t)).alloc (.cells #[y] t')) w1) :
    w1.cell? ⟨w.heap.size, 0, none⟩ = some x ∧ w1.cell? ⟨w.heap.size + 1, 0, none⟩ = some y := by
  obtain ⟨b0, b1⟩ := two_boxes w x y t t'
  exact ⟨by rw [cell_of_heap (k.at b0 id)]; rfl, by rw [cell_of_heap (k.at b1 id)]; rfl⟩
end Go.Proofs.YtknjpdcpmpfklaaGreatDoor
set_option maxRecDepth 100000
namespace Go.Proofs.YtknjpdcpmpfklaaGreatDoor
open Go.RowKit
set_option maxHeartbeats 400000 in
theorem rwhole_any (p g : Nat) (l : List Nat) (st : Option Nat) (m : Int) (w : World) (hl : Fair l) (h : RdIs w p g l st) :
    Calls Tryz.prog 96 #[.pointer (some ⟨p, 0, none⟩), .int .i64 m] w (RdDone w p g l (rdStep (wholeRd l m) st)) := by
  have hmf : ∀ (fn : Fn) (first cap : Array Value) (w : World), (Instr.makeFunc fn first cap).run Tryz.prog w = .ok (.func fn first cap) w := fun _ _ _ _ => rfl
  have hpl := h.lt.1
  have H0 := Lib.hid h; clear h
  have HL := Lib.hid hl; clear hl
  go_enter Tryz.func96, Tryz.ntmps96
  go_wp2_with (fail)
  have kk : Kept (fun _ => False) w ((w.alloc (.cells #[.pointer (some ⟨p, 0, none⟩)] 54)).alloc (.cells #[.int .i64 m] 3)) := ((Kept.refl _ _).alloc _).alloc _
  have HKK := Lib.hid kk; clear kk
  cases st with
  | none =>
    obtain ⟨a, h⟩ := H0.out
    refine (attempt_lost p g l a _ _ (h.kept HKK.out id id)).mono ?_
    rintro e w1 ⟨rfl, hk⟩
    have HK := Lib.hid (HKK.out.trans hk (fun _ _ x => x)); clear hk h
    go_wp2
    go_ret
    refine ⟨rfl, H0.out.kept HK.out id id, HK.out.mono (fun _ _ x => x.elim)⟩
  | some a =>
    obtain ⟨ha, h⟩ := H0.out
    have h1 := h.kept HKK.out id id
    refine (attempt_any p g l a 128 #[] #[.pointer (some ⟨w.heap.size, 0, none⟩), .pointer (some ⟨w.heap.size + 1, 0, none⟩)] (wholeRd l m a) _ h1 Tryz.enters_whole (fun w1 k => ?_)).mono ?_
    · obtain ⟨c0, c1⟩ := two_cells k
      exact whole_in p g l a m ⟨w.heap.size + 1, 0, none⟩ ⟨w.heap.size, 0, none⟩ w1 HL.out (h1.kept k id id) ha c1 c0 (by simp; omega)
    intro e w1 hres
    have hd := RdDone.of_res (wholeRd l m) a (wholeRd_le l m a) hres
    obtain ⟨rfl, h2, h3⟩ := hd
    have H2 := Lib.hid h2; clear h2
    have H3 := Lib.hid ((HKK.out.mono (S' := (· = p)) (fun _ _ x => x.elim)).trans h3 (fun _ _ x => x)); clear h3 hres h ha h1
    go_wp2
    go_ret
    exact ⟨rfl, H2.out, H3.out⟩
set_option maxHeartbeats 400000 in
theorem rsigned_any (p g : Nat) (l : List Nat) (st : Option Nat) (m : Int) (w : World) (hl : Fair l) (h : RdIs w p g l st) :
    Calls Tryz.prog 132 #[.pointer (some ⟨p, 0, none⟩), .int .i64 m] w (RdDone w p g l (rdStep (signedRd l m) st)) := by
  have hmf : ∀ (fn : Fn) (first cap : Array Value) (w : World), (Instr.makeFunc fn first cap).run Tryz.prog w = .ok (.func fn first cap) w := fun _ _ _ _ => rfl
  have hpl := h.lt.1
  have H0 := Lib.hid h; clear h
  have HL := Lib.hid hl; clear hl
  go_enter Tryz.func132, Tryz.ntmps132
  go_wp2_with (fail)
  have kk : Kept (fun _ => False) w ((w.alloc (.cells #[.pointer (some ⟨p, 0, none⟩)] 54)).alloc (.cells #[.int .i64 m] 3)) := ((Kept.refl _ _).alloc _).alloc _
  have HKK := Lib.hid kk; clear kk
  cases st with
  | none =>
    obtain ⟨a, h⟩ := H0.out
    refine (attempt_lost p g l a _ _ (h.kept HKK.out id id)).mono ?_
    rintro e w1 ⟨rfl, hk⟩
    have HK := Lib.hid (HKK.out.trans hk (fun _ _ x => x)); clear hk h
    go_wp2
    go_ret
    refine ⟨rfl, H0.out.kept HK.out id id, HK.out.mono (fun _ _ x => x.elim)⟩
  | some a =>
    obtain ⟨ha, h⟩ := H0.out
    have h1 := h.kept HKK.out id id
    refine (attempt_any p g l a 155 #[] #[.pointer (some ⟨w.heap.size, 0, none⟩), .pointer (some ⟨w.heap.size + 1, 0, none⟩)] (signedRd l m a) _ h1 Tryz.enters_signed (fun w1 k => ?_)).mono ?_
    · obtain ⟨c0, c1⟩ := two_cells k
      exact signed_in p g l a m ⟨w.heap.size + 1, 0, none⟩ ⟨w.heap.size, 0, none⟩ w1 HL.out (h1.kept k id id) ha c1 c0 (by simp; omega)
    intro e w1 hres
    have hd := RdDone.of_res (signedRd l m) a (signedRd_le l m a) hres
    obtain ⟨rfl, h2, h3⟩ := hd
    have H2 := Lib.hid h2; clear h2
    have H3 := Lib.hid ((HKK.out.mono (S' := (· = p)) (fun _ _ x => x.elim)).trans h3 (fun _ _ x => x)); clear h3 hres h ha h1
    go_wp2
    go_ret
    exact ⟨rfl, H2.out, H3.out⟩
end Go.Proofs.YtknjpdcpmpfklaaGreatDoor
set_option maxRecDepth 100000
namespace Go.Proofs.YtknjpdcpmpfklaaGreatDoor
open Go.RowKit
def endsAt (l : List Nat) (a : Nat) : Bool := decide (a / 8 + 1 = l.length ∧ l.getD (a / 8) 0 * 2 ^ (a % 8) % 256 = 128)
set_option maxHeartbeats 400000 in
theorem ended_rd (p g : Nat) (l : List Nat) (a : Nat) (w : World) (hl : Fair l) (h : RdAt w p g l a false) (ha : a ≤ 8 * l.length) :
    Calls Tryz.prog 64 #[.pointer (some ⟨p, 0, none⟩)] w fun e w' => e = .returned (.bool (endsAt l a)) ∧ ∃ n, w' = w.drewN n := by
  obtain ⟨h0, h1, -, -, -⟩ := h.facts
  have hlen := hl.2
  by_cases hq : a / 8 + 1 = l.length
  · have hx := h.byte (a / 8) (by omega)
    have hx256 := hl.getD (a / 8)
    have he : endsAt l a = (((l.getD (a / 8) 0 : Nat) : Int) * 2 ^ (a % 8) % 256 == 128) := by
      have e : ((l.getD (a / 8) 0 : Nat) : Int) * 2 ^ (a % 8) % 256 = ((l.getD (a / 8) 0 * 2 ^ (a % 8) % 256 : Nat) : Int) := by simp
      rw [e]
      unfold endsAt
      by_cases hh : l.getD (a / 8) 0 * 2 ^ (a % 8) % 256 = 128
      · rw [decide_eq_true ⟨hq, hh⟩, hh]; rfl
      · rw [decide_eq_false (fun x => hh x.2)]; exact (beq_eq_false_iff_ne.2 (by omega)).symm
    have HE := Lib.hid he; clear he
    clear h hl
    generalize hX : l.getD (a / 8) 0 = x at *
    have HX := Lib.hid hX; clear hX
    generalize hN : l.length = n at *
    have HN := Lib.hid hN; clear hN
    have hb : ((a : Int) / 8 == (n : Int) - 1) = true := by simp; omega
    have g1 : 0 ≤ (n : Int) - 1 := by omega
    have g2 : (n : Int) - 1 < n := by omega
    have g3 : ((n : Int) - 1).toNat = a / 8 := by omega
    have HQ := Lib.hid hq; clear hq
    go_enter Tryz.func64, Tryz.ntmps64
    go_wp2_with (fail)
    go_quiet (fail)
    go_wp2
    go_ret
    exact ⟨by rw [HE.out]; rfl, ⟨_, rfl⟩⟩
  · have he : endsAt l a = false := by unfold endsAt; exact decide_eq_false (fun x => hq x.1)
    have HE := Lib.hid he; clear he
    clear h hl
    generalize hN : l.length = n at *
    have HN := Lib.hid hN; clear hN
    have hb : ((a : Int) / 8 == (n : Int) - 1) = false := by simp; omega
    have HQ := Lib.hid hq; clear hq
    go_enter Tryz.func64, Tryz.ntmps64
    go_wp2_with (fail)
    go_quiet (fail)
    go_wp2
    go_ret
    exact ⟨by rw [HE.out]; rfl, ⟨_, rfl⟩⟩
def doneOf (l : List Nat) (st : Option Nat) : Int :=
  match st with
  | some a => if endsAt l a then 0 else 10
  | none => 10
set_option maxHeartbeats 400000 in
theorem done_any (p g : Nat) (l : List Nat) (st : Option Nat) (w : World) (hl : Fair l) (h : RdIs w p g l st) :
    Calls Tryz.prog 31 #[.pointer (some ⟨p, 0, none⟩)] w fun e w' => e = .returned (.int .i64 (doneOf l st)) ∧ ∃ n, w' = w.drewN n := by
  have HL := Lib.hid hl; clear hl
  cases st with
  | none =>
    obtain ⟨a, h⟩ := h
    obtain ⟨-, -, h2, -, -⟩ := h.facts
    clear h
    go_enter Tryz.func31, Tryz.ntmps31
    go_wp2_with (fail)
    go_ret
    exact ⟨rfl, ⟨0, rfl⟩⟩
  | some a =>
    obtain ⟨ha, h⟩ := h
    obtain ⟨-, -, h2, -, -⟩ := h.facts
    have H0 := Lib.hid h; clear h
    go_enter Tryz.func31, Tryz.ntmps31
    go_wp2_with (fail)
    refine (ended_rd p g l a _ HL.out H0.out ha).mono ?_
    rintro e w1 ⟨rfl, n, rfl⟩
    cases he : endsAt l a with
    | true =>
      have hd : doneOf l (some a) = 0 := by simp [doneOf, he]
      have HD := Lib.hid hd; clear hd he
      go_wp2
      go_ret
      exact ⟨by rw [HD.out]; rfl, ⟨_, rfl⟩⟩
    | false =>
      have hd : doneOf l (some a) = 10 := by simp [doneOf, he]
      have HD := Lib.hid hd; clear hd he
      go_wp2
      go_ret
      exact ⟨by rw [HD.out]; rfl, ⟨_, rfl⟩⟩
def SliceOf (w : World) (v : Value) (l : List Nat) : Prop :=
  ∃ a cap, v = .slice a l.length cap ∧ (0 < l.length → ∃ ad, a = some ad ∧ ∀ j u, (byteVals l)[j]? = some u → w.cell? (ad.add j) = some u)
set_option maxHeartbeats 400000 in
theorem new_any (v : Value) (l : List Nat) (w : World) (hl : l.length < 1099511627776) (hs : SliceOf w v l) :
    Calls Tryz.prog 27 #[v] w fun e w' => ∃ p g, e = .returned (.pointer (some ⟨p, 0, none⟩)) ∧ RdIs w' p g l (some 0) ∧ w.heap.size ≤ p ∧ w.heap.size ≤ g ∧ Kept (fun _ => False) w w' := by
  obtain ⟨a, cap, rfl, hsrc⟩ := hs
  have HS := Lib.hid hsrc; clear hsrc
  generalize hN : l.length = n at *
  have HN := Lib.hid hN; clear hN
  have hmk := fun wx : World => run_make_row' (P := Tryz.prog) 26 5 (.int .u8 0) 1 Tryz.underlying26 Tryz.info_u8 rfl .i64 .i64 n (by omega) (by omega) wx
  go_enter Tryz.func27, Tryz.ntmps27
  go_wp2_with (with_reducible refine wpList_copy_splice rfl (.tmp 7) (.tmp 8) 26 26 rfl 5 Tryz.underlying26 Tryz.size_u8 _ _ _ _ _ _ rfl rfl w.heap.size 0 (List.replicate n (.int .u8 0)) 5 ?hg (byteVals l) ?hn ?hpos ?hfit (oneCell_byteVals _) w.heap.size w ?hb (Nat.le_refl _) ?_)
  case hg => rw [madeCells_one]; exact heap_alloc_new w _
  case hn => rw [byteVals_length, HN.out]; simp
  case hpos =>
    intro h
    rw [byteVals_length, HN.out] at h
    obtain ⟨ad, rfl, hc⟩ := HS.out h
    refine ⟨ad, rfl, fun j u hj => ?_⟩
    have hc' := hc j u hj
    have hlt : (ad.add j).block < w.heap.size := World.block_lt_of_cell? w _ hc'
    rw [← hc']
    exact World.cell?_of_block (Below.heap_alloc _ _ _ hlt)
  case hfit => rw [byteVals_length, HN.out]; simp
  case hb => exact (Below.refl _ _).alloc (Nat.le_refl _) _
  intro w2 HG2 hB2
  have HB := Lib.hid hB2; clear hB2
  have hsz := lt_of_heap HG2.out
  go_wp2
  go_ret
  refine ⟨w2.heap.size, w.heap.size, rfl, ⟨Nat.zero_le _, ?_, ?_, by omega⟩, by omega, Nat.le_refl _, (Below.kept HB.out).alloc _⟩
  · rw [HN.out]; exact heap_alloc_new w2 _
  · rw [Below.heap_alloc _ _ _ hsz, HG2.out, splice_whole _ _ (by rw [byteVals_length, HN.out]; simp)]
theorem lost_any (p g : Nat) (l : List Nat) (st : Option Nat) (w : World) (h : RdIs w p g l st) :
    Calls Tryz.prog 98 #[.pointer (some ⟨p, 0, none⟩)] w fun e w' => e = .returned (.bool st.isNone) ∧ w = w' := by
  cases st with
  | none => obtain ⟨a, h⟩ := h; exact lost_rd p g l a true w h
  | some a => exact lost_rd p g l a false w h.2
end Go.Proofs.YtknjpdcpmpfklaaGreatDoor
set_option maxRecDepth 100000
namespace Go.Proofs.YtknjpdcpmpfklaaGreatDoor
open Go.RowKit
theorem Kept.own {S : Nat → Prop} {w w' : World} {o : Obj} (h : Kept S (w.alloc o) w') (hs : ∀ k, k < w.heap.size → ¬ S k) : Kept (fun _ => False) w w' := by
  refine ⟨h.os, h.tape, h.output, ?_, fun k hk _ => ?_⟩
  · have := h.size; simp at this; omega
  · exact (h.block k (by simp; omega) (hs k hk)).trans (Below.heap_alloc w o k hk)
theorem SliceOf.of_new {w : World} {g : Nat} {l : List Nat} (h : w.heap[g]? = some (.cells (byteVals l).toArray 5 (0, 0))) : SliceOf w (.slice (some ⟨g, 0, none⟩) l.length l.length) l := by
  refine ⟨_, _, rfl, fun _ => ⟨⟨g, 0, none⟩, rfl, fun j u hj => ?_⟩⟩
  rw [Addr.add_lit, cell_of_heap h]
  simpa using hj
theorem Kept.all {w w' : World} (h : Kept (fun _ => False) w w') : Below w.heap.size w w' := h.below (Nat.le_refl _) (fun _ _ x => x)
end Go.Proofs.YtknjpdcpmpfklaaGreatDoor
set_option maxRecDepth 100000
namespace Go.Proofs.YtknjpdcpmpfklaaGreatDoor
open Go.RowKit
theorem golomb_length (m : Nat) (h0 : m ≠ 0) (h : m ≤ 2147483648) : (golomb m).length = 2 * Lib.bitLen m - 1 := by
  have := bitLen_le32 m h0 h
  simp [golomb, fixedBits_length]; omega
theorem wholeBits_length (n : Int) : (wholeBits n).length = 2 * Lib.bitLen (clampWhole n + 1) - 1 := by
  have := clampWhole_le n
  exact golomb_length _ (by omega) (by omega)
theorem wholeBits_short (n : Int) : (wholeBits n).length ≤ 63 := by
  have := clampWhole_le n
  have := bitLen_le32 (clampWhole n + 1) (by omega) (by omega)
  rw [wholeBits_length]; omega
theorem signedBits_short (n : Int) : (signedBits n).length ≤ 63 := by
  unfold signedBits; split <;> exact wholeBits_short _
end Go.Proofs.YtknjpdcpmpfklaaGreatDoor
set_option maxRecDepth 100000
namespace Go.Proofs.YtknjpdcpmpfklaaGreatDoor
open Go.RowKit
def chr (b : Bool) : UInt8 := if b then 49 else 48
def strOf (bs : List Bool) : ByteArray := ⟨(bs.map chr).toArray⟩
theorem strOf_size (bs : List Bool) : (strOf bs).size = bs.length := by simp [strOf, ByteArray.size]
theorem strOf_append (a b : List Bool) : strOf a ++ strOf b = strOf (a ++ b) := by
  unfold strOf; rw [Go.ByteArray.mk_append_mk, List.map_append]
theorem strOf_nil (a : List Bool) : strOf a ++ { data := #[48] } = strOf (a ++ [false]) := strOf_append a [false]
set_option maxHeartbeats 400000 in
theorem ref_end (n : Nat) (w : World) (hn : n < 1099511627776) :
    Calls Tryz.prog 23 #[.int .i64 (n : Int)] w fun e w' => e = .returned (.string (strOf (endBits n))) ∧ w = w' := by
  go_enter Tryz.func23, Tryz.ntmps23
  go_wp2_with (fail)
  go_loopg [3] (7 - n % 8) (fun k s wr => w = wr ∧ ∃ j : Nat, j + k = 7 - n % 8 ∧ s = .string (strOf (true :: List.replicate j false)))
  case atStart => exact ⟨rfl, 0, by omega, rfl⟩
  case round =>
    obtain ⟨rfl, j, hj, rfl⟩ := hrel
    have hsz := strOf_size (true :: List.replicate j false)
    have hsz' : (strOf (true :: List.replicate j false)).size = j + 1 := by rw [hsz]; simp
    clear hsz
    have HJ := Lib.hid hj
    have hj7 : j ≤ 7 := by omega
    by_cases h8 : gk = 0
    · have hb : (((n : Int) + ((j : Int) + 1)) % 8 != 0) = false := by simp; omega
      clear hj
      go_wp2
      go_ret
      have ej : j = 7 - n % 8 := by have := HJ.out; omega
      subst ej
      exact ⟨rfl, rfl⟩
    · have hb : (((n : Int) + ((j : Int) + 1)) % 8 != 0) = true := by simp; omega
      clear hj
      go_wp2
      go_roundg (gk - 1)
      case measure => omega
      case rel => exact ⟨rfl, j + 1, by have := HJ.out; omega, by rw [strOf_nil, List.replicate_succ']; rfl⟩
end Go.Proofs.YtknjpdcpmpfklaaGreatDoor
set_option maxRecDepth 100000
namespace Go.Proofs.YtknjpdcpmpfklaaGreatDoor
open Go.RowKit
theorem BytesArg.slice {w : World} {v : Value} {l : List Nat} (h : BytesArg w v l) : SliceOf w v l := by
  obtain ⟨a, cap, rfl, -, -, -, hl, hc⟩ := h
  refine ⟨a, cap, rfl, fun hpos => ?_⟩
  obtain ⟨b, off, rfl, hb, hcell⟩ := hc hpos
  refine ⟨⟨b, off, none⟩, rfl, fun j u hj => ?_⟩
  have hjl : j < l.length := by
    have := (List.getElem?_eq_some_iff.1 hj).1
    rwa [byteVals_length] at this
  rw [Addr.add_lit, hcell j hjl]
  rw [← hj]; simp [byteVals, List.getD, hjl]
theorem BytesArg.fair {w : World} {v : Value} {l : List Nat} (h : BytesArg w v l) (hl : l.length < 1099511627776) : Fair l := by
  exact ⟨h.lt256, hl⟩
def Rdr (w0 w : World) (p g : Nat) (l : List Nat) (st : Option Nat) : Prop := RdIs w p g l st ∧ w0.heap.size ≤ p ∧ w0.heap.size ≤ g ∧ Kept (fun _ => False) w0 w
theorem Rdr.done {w0 w w' : World} {p g : Nat} {l : List Nat} {st : Option Nat} {r : Int × Option Nat} {e : Ending} (h : Rdr w0 w p g l st) (hd : RdDone w p g l r e w') : e = .returned (.int .i64 r.1) ∧ Rdr w0 w' p g l r.2 := by
  obtain ⟨h1, h2, h3⟩ := hd
  exact ⟨h1, h2, h.2.1, h.2.2.1, h.2.2.2.trans h3 (fun i hi x => by have := h.2.1; omega)⟩
theorem Rdr.kept {w0 w w' : World} {p g : Nat} {l : List Nat} {st : Option Nat} (h : Rdr w0 w p g l st) (k : Kept (fun _ => False) w w') : Rdr w0 w' p g l st :=
  ⟨h.1.kept k id id, h.2.1, h.2.2.1, h.2.2.2.trans k (fun _ _ x => x)⟩
end Go.Proofs.YtknjpdcpmpfklaaGreatDoor
set_option maxRecDepth 100000
namespace Go.Proofs.YtknjpdcpmpfklaaGreatDoor
open Go.RowKit
theorem pack_bytes (bs : List Bool) : ∀ x ∈ pack bs, x < 256 := by
  intro x hx
  obtain ⟨i, _, rfl⟩ := List.mem_map.1 hx
  exact byteOf_lt _
theorem SliceOf.of_row {w : World} {v : Value} {l : List Nat} (h : w.ownsRow 0 5 1 v l.length (byteVals l)) : SliceOf w v l := by
  rcases h.2 with ⟨rfl, h0⟩ | ⟨g, cap, cur, rfl, _, hg, _⟩
  · exact ⟨none, 0, by rw [h0], fun hp => by omega⟩
  · exact ⟨_, cap, rfl, fun _ => ⟨⟨g, 0, none⟩, rfl, fun j u hj => h.cells (g := g) rfl j u hj⟩⟩
end Go.Proofs.YtknjpdcpmpfklaaGreatDoor
set_option maxRecDepth 100000
namespace Go.Proofs.YtknjpdcpmpfklaaGreatDoor
open Go.RowKit
def byteUpto (f : Nat → Bool) : Nat → Nat
  | 0 => 0
  | k + 1 => 2 * byteUpto f k + (f k).toNat
theorem byteUpto_eight (f : Nat → Bool) : byteUpto f 8 = byteOf f := by
  simp only [byteUpto, byteOf]; omega
theorem byteUpto_lt (f : Nat → Bool) (k : Nat) : byteUpto f k < 2 ^ k := by
  induction k with
  | zero => simp [byteUpto]
  | succ k ih => have := toNat_le_one (f k); simp only [byteUpto, Nat.pow_succ]; omega
theorem byteUpto_small (f : Nat → Bool) (k : Nat) (h : k ≤ 8) : byteUpto f k < 256 :=
  Nat.lt_of_lt_of_le (byteUpto_lt f k) (by have := Nat.pow_le_pow_right (n := 2) (by decide) h; simpa using this)
def bitF (bs : List Bool) (q t : Nat) : Bool := bs.getD (8 * q + t) false
def byteTo (bs : List Bool) (q j : Nat) : Nat := byteUpto (bitF bs q) j
theorem chr_at (bs : List Bool) (i : Nat) (h : i < (strOf bs).size) : ((((strOf bs)[i]'h).toNat : Int) == 49) = bs.getD i false := by
  have hi : i < bs.length := by rwa [strOf_size] at h
  have e : (strOf bs)[i]'h = chr bs[i] := by
    show ((bs.map chr).toArray)[i]'(by simpa using hi) = _
    simp
  rw [e]
  simp only [List.getD, List.getElem?_eq_getElem hi, Option.getD_some]
  cases bs[i] <;> rfl
def Fresh (w : World) (v : Value) : Prop := v.ownBlock = none ∨ ∃ g, v.ownBlock = some g ∧ w.heap.size ≤ g
theorem pack_take_succ (bs : List Bool) (q : Nat) (h : q < nbytes bs.length) : (pack bs).take (q + 1) = (pack bs).take q ++ [byteOf fun j => bs.getD (8 * q + j) false] := by
  rw [List.take_succ_eq_append_getElem (by rw [pack_length]; exact h)]
  congr 2
  simp [pack]
set_option maxHeartbeats 2000000 in
theorem ref_bytes (bs : List Bool) (w : World) (hm : bs.length < 1000000) :
    Calls Tryz.prog 22 #[.string (strOf bs)] w fun e w' => ∃ v, e = .returned v ∧ w'.ownsRow 0 5 1 v (pack bs).length (byteVals (pack bs)) ∧ Fresh w v ∧ Kept (fun _ => False) w w' := by
  obtain ⟨i0, hi, hz0, hz1, hz2⟩ := info_parts Tryz.info_u8
  have HI := Lib.hid hi; have HZ0 := Lib.hid hz0; have HZ1 := Lib.hid hz1; have HZ2 := Lib.hid hz2; clear hi hz0 hz1 hz2
  have hsz := strOf_size bs
  have hnb : nbytes bs.length ≤ 1000000 := by unfold nbytes; omega
  have hnb2 : ∀ q, 8 * q < bs.length ↔ q < nbytes bs.length := by intro q; unfold nbytes; omega
  have HNB := Lib.hid hnb2; clear hnb2
  go_enter Tryz.func22, Tryz.ntmps22
  go_wp2_with (fail)
  go_loopw [3, 4] (fun o i wr => ∃ q : Nat, q ≤ nbytes bs.length ∧ i = .int .i64 (8 * (q : Int)) ∧ wr.ownsRow 0 5 1 o q (byteVals ((pack bs).take q)) ∧ Fresh w o ∧ Kept (fun _ => False) w wr) (fun _ i _ => 9000000 - (intOf i).toNat)
  case atStart => exact ⟨0, by omega, rfl, World.ownsRow_nil _ _ _ _, .inl rfl, Kept.refl _ _⟩
  case round =>
    obtain ⟨q, hq, rfl, hown, hfr, hkp⟩ := hrel
    have HW := Lib.hid hown; have HF := Lib.hid hfr; have HK := Lib.hid hkp; clear hown hfr hkp
    have hq2 := HNB.out q
    by_cases hlt : q < nbytes bs.length
    · have h8 : 8 * q < bs.length := hq2.2 hlt
      clear hq2
      have hd : decide (8 * (q : Int) < (bs.length : Int)) = true := by simp; omega
      go_wp2_with (fail)
      go_loopg [5, 6] 8 (fun gg x k wx => wr = wx ∧ ∃ j : Nat, j + gg = 8 ∧ k = .int .i64 (j : Int) ∧ x = .int .i64 (byteTo bs q j : Int))
      case atStart => exact ⟨rfl, 0, by omega, rfl, rfl⟩
      case round =>
        obtain ⟨rfl, j, hj, rfl, rfl⟩ := hrel
        have hbu : byteTo bs q j < 256 := byteUpto_small (bitF bs q) j (by omega)
        have hsu : byteTo bs q (j + 1) = 2 * byteTo bs q j + (bitF bs q j).toNat := rfl
        have HSU := Lib.hid hsu; clear hsu
        have HJ := Lib.hid hj
        by_cases hj8 : j < 8
        · by_cases hin : 8 * q + j < bs.length
          · have hch := chr_at bs (8 * q + j) (by rw [hsz]; exact hin)
            have e0 : bs.getD (8 * q + j) false = bitF bs q j := rfl
            rw [e0] at hch
            clear e0 hj
            cases hb : bitF bs q j with
            | true =>
              rw [hb] at hch
              have HB := Lib.hid hb; clear hb
              go_wp2
              go_roundg (gk - 1)
              case measure => have := HJ.out; omega
              case rel => exact ⟨rfl, j + 1, by have := HJ.out; omega, by go_num, by rw [HSU.out, HB.out]; go_num⟩
            | false =>
              rw [hb] at hch
              have HB := Lib.hid hb; clear hb
              go_wp2
              go_roundg (gk - 1)
              case measure => have := HJ.out; omega
              case rel => exact ⟨rfl, j + 1, by have := HJ.out; omega, by go_num, by rw [HSU.out, HB.out]; go_num⟩
          · have hb : bitF bs q j = false := by unfold bitF; rw [List.getD, List.getElem?_eq_none (by omega)]; rfl
            have HB := Lib.hid hb; clear hb hj
            go_wp2
            go_roundg (gk - 1)
            case measure => have := HJ.out; omega
            case rel => exact ⟨rfl, j + 1, by have := HJ.out; omega, by go_num, by rw [HSU.out, HB.out]; go_num⟩
        · have ej : j = 8 := by omega
          clear HJ HSU hj
          subst ej
          have hb8 : byteTo bs q 8 = byteOf fun t => bs.getD (8 * q + t) false := byteUpto_eight (bitF bs q)
          have HB8 := Lib.hid hb8; clear hb8
          generalize byteTo bs q 8 = x at *
          go_wp2_with (at_builtin; refine wpList_append_whose _ rfl (.tmp 35) (.tmp 38) 26 rfl 5 i0 (.int .u8 0) 1 1 Tryz.underlying26 HI.out HZ0.out HZ1.out HZ2.out rfl (by decide) _ _ _ rfl (HW.out.alloc _) ⟨wr.heap.size, 0, none⟩ 1 1 [.int .u8 (x : Int)] rfl rfl ?c1 ?c2 ?b1 ?b2 ?_)
          case c1 => intro t u hj; match t, hj with | 0, hj => simp at hj; subst hj; simp [Addr.add]
          case c2 => intro u hu; simp at hu; subst hu; rfl
          case b1 => unfold maxLen; omega
          case b2 => omega
          intro v1 w1 hown hgr hwh
          have hk1 : Kept (fun _ => False) w w1 := (HK.out.alloc _).grown hgr (fun k hk hlt => by
            rcases HF.out with h | ⟨g, h, hg⟩
            · rw [h] at hk; cases hk
            · rw [h] at hk; cases hk; omega)
          have hf1 : Fresh w v1 := by
            rcases hwh with h | ⟨g, h, hg⟩
            · rcases HF.out with h2 | ⟨g2, h2, hg2⟩
              · exact .inl (h.trans h2)
              · exact .inr ⟨g2, h.trans h2, hg2⟩
            · have := HK.out.size; exact .inr ⟨g, h, by omega⟩
          have hro : w1.ownsRow 0 5 1 v1 (q + 1) (byteVals ((pack bs).take (q + 1))) := by
            rw [pack_take_succ bs q hlt, byteVals_append, ← HB8.out]; exact hown
          have RO := Lib.hid hro; have F1 := Lib.hid hf1; have K1 := Lib.hid hk1
          clear hro hf1 hk1 hown hgr hwh
          go_wp2
          go_roundw
          case rel => exact ⟨q + 1, by omega, by go_num, RO.out, F1.out, K1.out⟩
          case measure => simp [intOf]; omega
    · have h8 : bs.length ≤ 8 * q := by have := mt hq2.1 hlt; omega
      clear hq2
      go_wp2
      go_ret
      have eq : q = nbytes bs.length := by omega
      subst eq
      refine ⟨_, rfl, ?_, HF.out, HK.out⟩
      have e : (pack bs).take (nbytes bs.length) = pack bs := List.take_of_length_le (by rw [pack_length]; exact Nat.le_refl _)
      have := HW.out
      rw [e] at this
      rw [pack_length]; exact this
end Go.Proofs.YtknjpdcpmpfklaaGreatDoor
set_option maxRecDepth 100000
namespace Go.Proofs.YtknjpdcpmpfklaaGreatDoor
open Go.RowKit
def bitsOf (l : List Nat) : List Bool := (List.range (8 * l.length)).map (bitAt l)
def RfAt (w : World) (x : Nat) (l : List Nat) (a : Nat) (lost : Bool) : Prop :=
  w.heap[x]? = some (.cells #[.string (strOf (bitsOf l)), .int .i64 (a : Int), .bool lost] 80 (0, 0))
theorem RfAt.facts {w : World} {x : Nat} {l : List Nat} {a : Nat} {lost : Bool} (h : RfAt w x l a lost) :
    w.cell? ⟨x, 0, none⟩ = some (.string (strOf (bitsOf l))) ∧ w.cell? ⟨x, 1, none⟩ = some (.int .i64 (a : Int)) ∧ w.cell? ⟨x, 2, none⟩ = some (.bool lost) ∧ w.frozen? ⟨x, 1, none⟩ = false ∧ w.frozen? ⟨x, 2, none⟩ = false :=
  ⟨by rw [cell_of_heap h]; rfl, by rw [cell_of_heap h]; rfl, by rw [cell_of_heap h]; rfl, frozen_of_heap h, frozen_of_heap h⟩
theorem RfAt.setAt {w : World} {x : Nat} {l : List Nat} {a : Nat} {lost : Bool} (h : RfAt w x l a lost) (n : Nat) (y : Int) (hy : y = (n : Int)) : RfAt (w.setCell ⟨x, 1, none⟩ (.int .i64 y)) x l n lost := by
  subst hy; unfold RfAt; rw [heap_setCell_same _ x 1 _ h]; simp
theorem RfAt.setLost {w : World} {x : Nat} {l : List Nat} {a : Nat} {lost : Bool} (h : RfAt w x l a lost) (b : Bool) : RfAt (w.setCell ⟨x, 2, none⟩ (.bool b)) x l a b := by
  unfold RfAt; rw [heap_setCell_same _ x 2 _ h]; simp
theorem RfAt.kept {S : Nat → Prop} {w w' : World} {x : Nat} {l : List Nat} {a : Nat} {lost : Bool} (h : RfAt w x l a lost) (k : Kept S w w') (hx : ¬ S x) : RfAt w' x l a lost := k.at h hx
def RfIs (w : World) (x : Nat) (l : List Nat) (st : Option Nat) : Prop :=
  match st with
  | some a => a ≤ 8 * l.length ∧ RfAt w x l a false
  | none => ∃ a, a ≤ 8 * l.length ∧ RfAt w x l a true
end Go.Proofs.YtknjpdcpmpfklaaGreatDoor
set_option maxRecDepth 100000
namespace Go.Proofs.YtknjpdcpmpfklaaGreatDoor
def BitsAt (l : List Nat) (a : Nat) (bs : List Bool) : Prop := a + bs.length ≤ 8 * l.length ∧ ∀ i, i < bs.length → bitAt l (a + i) = bs.getD i false
theorem BitsAt.left {l : List Nat} {a : Nat} {x y : List Bool} (h : BitsAt l a (x ++ y)) : BitsAt l a x := by
  refine ⟨by have := h.1; simp at this; omega, fun i hi => ?_⟩
  rw [h.2 i (by simp; omega), List.getD_eq_getElem?_getD, List.getD_eq_getElem?_getD, List.getElem?_append_left hi]
theorem BitsAt.right {l : List Nat} {a : Nat} {x y : List Bool} (h : BitsAt l a (x ++ y)) : BitsAt l (a + x.length) y := by
  refine ⟨by have := h.1; simp at this; omega, fun i hi => ?_⟩
  rw [Nat.add_assoc, h.2 (x.length + i) (by simp; omega), List.getD_eq_getElem?_getD, List.getD_eq_getElem?_getD, List.getElem?_append_right (by omega), Nat.add_sub_cancel_left]
def ordl : List Nat := [0, 1, 4, 8, 5, 2, 3, 6, 9, 12, 13, 10, 7, 11, 14, 15]
def ord (i : Nat) : Nat := ordl.getD i 0
def ordB : Nat → Int := fun i => (ord i : Int)
theorem ord_lt : ∀ i, i < 16 → ord i < 16 := by decide
def lvl (b : Nat → Int) (i : Nat) : Int := cl 1048576 (b (ord i))
def lvls (b : Nat → Int) : List Int := (List.range 16).map (lvl b)
def runs : Nat → List Int → List (Nat × Int)
  | _, [] => []
  | z, x :: xs => if x = 0 then runs (z + 1) xs else (z, x) :: runs 0 xs
def runBits : List (Nat × Int) → List Bool
  | [] => []
  | p :: r => wholeBits p.1 ++ signedBits p.2 ++ runBits r
def scanBits (b : Nat → Int) : List Bool := wholeBits (runs 0 (lvls b)).length ++ runBits (runs 0 (lvls b))
theorem runs_length (xs : List Int) : ∀ z, (runs z xs).length ≤ xs.length := by
  induction xs with
  | nil => intro z; simp [runs]
  | cons x xs ih =>
    intro z
    unfold runs
    split
    · have := ih (z + 1); simp; omega
    · have := ih 0; simp; omega
theorem runBits_length (r : List (Nat × Int)) : (runBits r).length ≤ 126 * r.length := by
  induction r with
  | nil => simp [runBits]
  | cons p r ih =>
    have h1 := wholeBits_short p.1
    have h2 := signedBits_short p.2
    simp only [runBits, List.length_append, List.length_cons]
    omega
theorem scanBits_length (b : Nat → Int) : (scanBits b).length ≤ 2079 := by
  have h1 := wholeBits_short ((runs 0 (lvls b)).length : Nat)
  have h2 := runBits_length (runs 0 (lvls b))
  have h3 := runs_length (lvls b) 0
  have h4 : (lvls b).length = 16 := by simp [lvls]
  unfold scanBits
  rw [List.length_append]; omega
def rdOne (l : List Nat) (at_ : Nat) (st : Option Nat) : Nat × Int × Option Nat :=
  (at_ + (rdStep (wholeRd l 15) st).1.toNat, rdStep (signedRd l 1048576) (rdStep (wholeRd l 15) st).2)
def rdBad (r : Nat × Int × Option Nat) : Prop := r.2.2.isNone = true ∨ 15 < r.1 ∨ r.2.1 = 0
instance (r : Nat × Int × Option Nat) : Decidable (rdBad r) := by unfold rdBad; infer_instance
def rdRest (l : List Nat) : Nat → Nat → (Nat → Int) → Option Nat → (Nat → Int) × Int × Option Nat
  | 0, _, b, st => if st.isNone = true then (fun _ => 0, 60, st) else (b, 0, st)
  | k + 1, at_, b, st => if rdBad (rdOne l at_ st) then (fun _ => 0, 60, (rdOne l at_ st).2.2) else rdRest l k ((rdOne l at_ st).1 + 1) (upd b (ord (rdOne l at_ st).1) (rdOne l at_ st).2.1) (rdOne l at_ st).2.2
def scanRd (l : List Nat) (st : Option Nat) : (Nat → Int) × Int × Option Nat := rdRest l (rdStep (wholeRd l 16) st).1.toNat 0 (fun _ => 0) (rdStep (wholeRd l 16) st).2
theorem rdStep_whole_le (l : List Nat) (most : Int) (hm : 0 ≤ most) (st : Option Nat) : 0 ≤ (rdStep (wholeRd l most) st).1 ∧ (rdStep (wholeRd l most) st).1 ≤ most := by
  cases st with
  | none => simp [rdStep]; omega
  | some a =>
    cases h : wholeAt l a with
    | none =>
      have e : rdStep (wholeRd l most) (some a) = (0, none) := by simp [rdStep, wholeRd, h]
      rw [e]; simp only; omega
    | some p =>
      obtain ⟨n, a'⟩ := p
      have h2 := wholeFrom_le l a 33 0 n a' (by omega) h
      by_cases hc : most < n
      · have e : rdStep (wholeRd l most) (some a) = (0, none) := by simp [rdStep, wholeRd, h, hc]
        rw [e]; simp only; omega
      · have e : rdStep (wholeRd l most) (some a) = (n, some a') := by simp [rdStep, wholeRd, h, hc]
        rw [e]; simp only; omega
theorem rdStep_signed_le (l : List Nat) (most : Int) (hm : 0 ≤ most) (st : Option Nat) : -most ≤ (rdStep (signedRd l most) st).1 ∧ (rdStep (signedRd l most) st).1 ≤ most := by
  cases st with
  | none => simp [rdStep]; omega
  | some a =>
    cases h : wholeAt l a with
    | none =>
      have e : rdStep (signedRd l most) (some a) = (0, none) := by simp [rdStep, signedRd, h]
      rw [e]; simp only; omega
    | some p =>
      obtain ⟨n, a'⟩ := p
      by_cases hc : most < unsign n ∨ most < -unsign n
      · have e : rdStep (signedRd l most) (some a) = (0, none) := by simp [rdStep, signedRd, h, hc]
        rw [e]; simp only; omega
      · have e : rdStep (signedRd l most) (some a) = (unsign n, some a') := by simp [rdStep, signedRd, h, hc]
        rw [e]; simp only; omega
end Go.Proofs.YtknjpdcpmpfklaaGreatDoor
set_option maxRecDepth 100000
namespace Go.Proofs.YtknjpdcpmpfklaaGreatDoor
open Go.RowKit
def Byt (w : World) (T : Nat → Prop) (v : Value) (l : List Nat) : Prop := BytesArg w v l ∧ Live w T ∧ (0 < l.length → ∀ a n c, v = .slice (some a) n c → T a.block)
theorem Byt.live {w : World} {T : Nat → Prop} {v : Value} {l : List Nat} (h : Byt w T v l) : Live w T := h.2.1
theorem Byt.all {S : Nat → Prop} {w w' : World} {T : Nat → Prop} {v : Value} {l : List Nat} (h : Byt w T v l) (k : Kept S w w') (ha : Apart T S) : Byt w' T v l := by
  refine ⟨?_, h.2.1.mono k, h.2.2⟩
  obtain ⟨⟨a, cap, rfl, h1, h2, h3, hl, hc⟩, hL, hT⟩ := h
  refine ⟨a, cap, rfl, h1, h2, h3, hl, fun hpos => ?_⟩
  obtain ⟨b, off, rfl, hb, hcell⟩ := hc hpos
  exact ⟨b, off, rfl, Nat.lt_of_lt_of_le hb k.size, fun i hi => (World.cell?_of_block (k.block b hb (ha b (hT hpos _ _ _ rfl)))).trans (hcell i hi)⟩
def bytB (v : Value) (l : List Nat) : Nat → Prop := fun i => 0 < l.length ∧ ∃ a n c, v = .slice (some a) n c ∧ i = a.block
theorem Byt.arg {w : World} {v : Value} {l : List Nat} (h : BytesArg w v l) : Byt w (bytB v l) v l := by
  refine ⟨h, fun i hi => ?_, fun hp a n c e => ⟨hp, a, n, c, e, rfl⟩⟩
  obtain ⟨hp, a, n, c, rfl, rfl⟩ := hi
  obtain ⟨a', cap, e, h1, h2, h3, hl, hc⟩ := h
  obtain ⟨b, off, rfl, hb, _⟩ := hc hp
  cases e; exact hb
theorem Byt.new {w : World} {g : Nat} {l : List Nat} (h : w.heap[g]? = some (.cells (byteVals l).toArray 5 (0, 0))) (hm : l.length ≤ maxLen) (h256 : ∀ x ∈ l, x < 256) : Byt w (onB g) (.slice (some ⟨g, 0, none⟩) l.length l.length) l := by
  refine ⟨(Row.of_new (B := 0) h (Nat.zero_le _) hm h256).bytes, onB_live (lt_of_heap h), fun _ a n c e => ?_⟩
  cases e; rfl
theorem Byt.nil (w : World) : Byt w noB (.slice none 0 0) [] := ⟨BytesArg.nil w, fun _ h => h.elim, fun h => absurd h (Nat.lt_irrefl 0)⟩
def Rdi (w : World) (T : Nat → Prop) (p : Nat) (l : List Nat) (st : Option Nat) : Prop := Fair l ∧ ∃ g, T = (fun i => i = p ∨ i = g) ∧ RdIs w p g l st
theorem Rdi.live {w : World} {T : Nat → Prop} {p : Nat} {l : List Nat} {st : Option Nat} (h : Rdi w T p l st) : Live w T := by
  obtain ⟨_, g, rfl, h⟩ := h
  have := h.lt
  intro i hi
  rcases hi with rfl | rfl
  · exact this.1
  · exact this.2.1
theorem Rdi.all {S : Nat → Prop} {w w' : World} {T : Nat → Prop} {p : Nat} {l : List Nat} {st : Option Nat} (h : Rdi w T p l st) (k : Kept S w w') (ha : Apart T S) : Rdi w' T p l st := by
  obtain ⟨hf, g, rfl, h⟩ := h; exact ⟨hf, g, rfl, h.kept k (ha p (.inl rfl)) (ha g (.inr rfl))⟩
def Rfi (w : World) (T : Nat → Prop) (p : Nat) (l : List Nat) (st : Option Nat) : Prop := Fair l ∧ l.length ≤ 1000 ∧ T = onB p ∧ RfIs w p l st
theorem Rfi.live {w : World} {T : Nat → Prop} {p : Nat} {l : List Nat} {st : Option Nat} (h : Rfi w T p l st) : Live w T := by
  obtain ⟨_, _, rfl, h⟩ := h
  cases st with
  | none => obtain ⟨a, _, h⟩ := h; exact onB_live (lt_of_heap h)
  | some a => exact onB_live (lt_of_heap h.2)
theorem Rfi.all {S : Nat → Prop} {w w' : World} {T : Nat → Prop} {p : Nat} {l : List Nat} {st : Option Nat} (h : Rfi w T p l st) (k : Kept S w w') (ha : Apart T S) : Rfi w' T p l st := by
  obtain ⟨hf, h1, rfl, h⟩ := h
  refine ⟨hf, h1, rfl, ?_⟩
  cases st with
  | none => obtain ⟨a, h0, h⟩ := h; exact ⟨a, h0, h.kept k (ha p rfl)⟩
  | some a => exact ⟨h.1, h.2.kept k (ha p rfl)⟩
theorem t_new (v : Value) (l : List Nat) (T_b : Nat → Prop) (w0 : World) (hm : l.length < 1099511627776) (h_b : Byt w0 T_b v l) :
    Calls Tryz.prog 27 #[v] w0 fun e w' => ∃ (v1 : Nat) (T1 : Nat → Prop), e = .returned (.pointer (some ⟨v1, 0, none⟩)) ∧ Kept (fun _ => False) w0 w' ∧ (Rdi w' T1 v1 l (some 0) ∧ Grew w0 noB T1) := by
  refine (new_any v l w0 hm h_b.1.slice).mono fun _ _ ⟨p, g, e, hr, h1, h2, k⟩ => ?_
  exact ⟨p, _, e, k, ⟨h_b.1.fair hm, g, rfl, hr⟩, fun i hi => .inr (by rcases hi with rfl | rfl <;> assumption)⟩
theorem t_done (p : Nat) (l : List Nat) (st : Option Nat) (T_r : Nat → Prop) (w0 : World) (h_r : Rdi w0 T_r p l st) :
    Calls Tryz.prog 31 #[.pointer (some ⟨p, 0, none⟩)] w0 fun e w' => e = .returned (.int .i64 (doneOf l st)) ∧ Kept (fun _ => False) w0 w' := by
  obtain ⟨hf, g, rfl, h⟩ := h_r
  exact (done_any p g l st w0 hf h).mono fun _ _ ⟨e, n, hw⟩ => by subst hw; exact ⟨e, (Kept.refl _ _).drewN n⟩
theorem t_refbytes (bs : List Bool) (w0 : World) (hm : bs.length < 1000000) : Calls Tryz.prog 22 #[.string (strOf bs)] w0 fun e w' => ∃ (v1 : Value) (T1 : Nat → Prop), e = .returned v1 ∧ Kept (fun _ => False) w0 w' ∧ (Byt w' T1 v1 (pack bs) ∧ Grew w0 noB T1) := by
  refine (ref_bytes bs w0 hm).mono fun _ w' ⟨v, e, ho, hf, k⟩ => ?_
  have hR : Row w' 0 v (pack bs) := ⟨ho, pack_bytes bs⟩
  refine ⟨v, fun i => v.ownBlock = some i, e, k, ⟨hR.bytes, fun i hi => (hR.lt i hi).2, fun hp a n c e => ?_⟩, fun i hi => ?_⟩
  · subst e; rfl
  · rcases hf with h | ⟨g, h, hg⟩
    · rw [h] at hi; cases hi
    · rw [h] at hi; cases hi; exact .inr hg
end Go.Proofs.YtknjpdcpmpfklaaGreatDoor
set_option maxRecDepth 100000
namespace Go.Proofs.YtknjpdcpmpfklaaGreatDoor
open Go.RowKit
theorem Kept.fin {w w' : World} (h : Kept (fun _ => False) w w') : Below w.heap.size w w' := h.below (Nat.le_refl _) (fun _ _ x => x)
theorem BytesArg.cells {w : World} {a : Option Addr} {n cap : Nat} {l : List Nat} (h : BytesArg w (.slice a n cap) l) :
    0 < n → ∃ b off, a = some ⟨b, off, none⟩ ∧ b < w.heap.size ∧ ∀ i, i < n → w.cell? ⟨b, off + i, none⟩ = some (.int .u8 (l.getD i 0 : Nat)) := by
  obtain ⟨a2, cap2, e, _, _, _, _, hc⟩ := h
  cases e; exact hc
theorem BytesArg.shape {w : World} {v : Value} {l : List Nat} (h : BytesArg w v l) : ∃ a cap, v = .slice a l.length cap := by
  obtain ⟨a, cap, rfl, _⟩ := h; exact ⟨a, cap, rfl⟩
theorem Row.shape {w : World} {B : Nat} {v : Value} {l : List Nat} (h : Row w B v l) : ∃ a cap, v = .slice a l.length cap := by
  rcases h.1.2 with ⟨rfl, h0⟩ | ⟨g, cap, cur, rfl, _⟩
  · exact ⟨none, 0, by rw [h0]⟩
  · exact ⟨_, _, rfl⟩
theorem BytesArg.cut {w : World} {a : Option Addr} {len cap : Nat} {l : List Nat} (h : BytesArg w (.slice a len cap) l) (i j cap' : Nat) (hi : i ≤ j) (hj : j ≤ l.length) (hc : j - i ≤ cap') (hm : cap' ≤ maxLen) (a' : Option Addr)
    (ha : 0 < j - i → a' = a.map (·.add i)) (h0 : a' = none → cap' = 0) : BytesArg w (.slice a' (j - i) cap') ((l.drop i).take (j - i)) := by
  obtain ⟨a2, cap2, e, h1, h2, h3, h256, hcell⟩ := h
  cases e
  have hl : ((l.drop i).take (j - i)).length = j - i := by simp; omega
  refine ⟨a', cap', by rw [hl], by rw [hl]; exact hc, hm, h0, fun x hx => h256 x (List.mem_of_mem_drop (List.mem_of_mem_take hx)), fun hpos => ?_⟩
  rw [hl] at hpos
  obtain ⟨b, off, rfl, hb, hx⟩ := hcell (by omega)
  refine ⟨b, off + i, by rw [ha hpos]; simp [Addr.add_lit], hb, fun t ht => ?_⟩
  rw [hl] at ht
  have e1 := hx (i + t) (by omega)
  rw [Nat.add_assoc, e1]
  have ht2 : t < j - i := ht
  simp [List.getD, ht2]
theorem Row.head {w : World} {B n c : Nat} {a : Option Addr} {l : List Nat} (h : Row w B (.slice a n c) l) (hp : 0 < n) :
    ∃ g cur, a = some ⟨g, 0, none⟩ ∧ B ≤ g ∧ w.heap[g]? = some (.cells cur 5 (0, 0)) ∧ ∀ i, i < n → w.cell? ⟨g, i, none⟩ = some (.int .u8 (l.getD i 0 : Nat)) := by
  obtain ⟨b, off, e3, hb, hc⟩ := h.bytes.cells hp
  rcases h.1.2 with ⟨e4, _⟩ | ⟨g, cap4, cur, e4, hg, hh, _⟩
  · cases e4; cases e3
  · cases e4
    cases e3
    exact ⟨b, cur, rfl, hg, hh, fun i hi => by have := hc i hi; rwa [Nat.zero_add] at this⟩
end Go.Proofs.YtknjpdcpmpfklaaGreatDoor
set_option maxRecDepth 100000
namespace Go.Proofs.YtknjpdcpmpfklaaGreatDoor
open Go.RowKit
theorem y_text {ρ : Operand → Value} {o : Oper} {w : World} {R : Value → World → Prop} {x : Operand} {l : List Nat} (ho : o.op = .convert 26 9 x) (hx : BytesArg w (ρ x) l) (h : R (.string (textOf l)) w) : Yields Tryz.prog ρ o w R :=
  y_val (by simp [execOp, ho, hx.text]) h
theorem BytesArg.new (w : World) (l : List Nat) (hl : l.length ≤ maxLen) (h : ∀ x ∈ l, x < 256) : BytesArg (w.alloc (.cells (byteVals l).toArray 5)) (.slice (some ⟨w.heap.size, 0, none⟩) l.length l.length) l :=
  (Row.of_new (B := 0) (heap_alloc_new w _) (Nat.zero_le _) hl h).bytes
theorem y_len {ρ : Operand → Value} {o : Oper} {w : World} {R : Value → World → Prop} {c : Call} {x : Operand} {t e : TypeId} {a : Option Addr} {n cap : Nat} (ho : o.op = .call c) (hc : c.callee = .builtin .len) (hx : c.args = #[x]) (ht : c.argTypes = #[t]) (hu : Tryz.prog.underlying t = some (.slice e))
    (h1 : ρ x = .slice a n cap) (h : R (.int .i64 (n : Int)) w) : Yields Tryz.prog ρ o w R := by
  obtain ⟨cl, xs, ts⟩ := c
  simp only at hc hx ht
  subst hc; subst hx; subst ht
  exact y_val (v := .int .i64 (n : Int)) (w' := w) (by simp [execOp, ho, h1, resolve, invoke, builtin, run_underlying hu, Builtin.len_]; rfl) h
def Pd.bytes (l : List Nat) : Pd := ⟨fun v w => BytesArg w v l, fun _ _ _ h k => h.all k⟩
end Go.Proofs.YtknjpdcpmpfklaaGreatDoor
set_option maxRecDepth 100000
namespace Go.Proofs.YtknjpdcpmpfklaaGreatDoor
open Go.RowKit
def Cel (w : World) (p : Nat) (t : TypeId) (v : Value) : Prop := w.heap[p]? = some (.cells #[v] t (0, 0))
theorem Cel.all {S : Nat → Prop} {w w' : World} {p : Nat} {t : TypeId} {v : Value} (h : Cel w p t v) (k : Kept S w w') (hn : ¬ S p) : Cel w' p t v := k.at h hn
theorem Cel.lt {w : World} {p : Nat} {t : TypeId} {v : Value} (h : Cel w p t v) : p < w.heap.size := lt_of_heap h
theorem Cel.cell {w : World} {p : Nat} {t : TypeId} {v : Value} (h : Cel w p t v) : w.cell? ⟨p, 0, none⟩ = some v := by rw [cell_of_heap h]; rfl
def oneC : Value → Bool
  | .int _ _ | .bool _ | .pointer _ | .slice _ _ _ | .string _ => true
  | _ => false
def plainD : TypeDesc → Bool
  | .struct _ | .array _ _ => false
  | _ => true
section
variable {ro : Option Nat} {P : Program} {ρ : Operand → Value} {o : Oper} {w : World} {R : Value → World → Prop}
theorem y_ldA {ty : TypeId} {x : Operand} {a : Addr} {v : Value} {d : TypeDesc} (ho : o.op = .load ty x) (hx : ρ x = .pointer (some a)) (hu : P.underlying ty = some d) (hd : plainD d = true) (hc : w.cell? a = some v) (h : R v w) : Yields P ρ o w R := by
  have hA : (isAgg ty).run P w = .ok false w := by
    cases d <;> first | (simp [plainD] at hd; done) | simp [isAgg, run_underlying hu]
  exact y_val (v := v) (w' := w) (by simp [execOp, ho, hx, Instr.loadAt, Instr.sureAddr, loadVar, hA, hc]) h
theorem y_load_cel {ty t : TypeId} {x : Operand} {p : Nat} {v : Value} {d : TypeDesc} (ho : o.op = .load ty x) (hx : ρ x = .pointer (some ⟨p, 0, none⟩)) (hu : P.underlying ty = some d) (hB : Cel w p t v) (hd : plainD d = true := by rfl) (h : R v w) : Yields P ρ o w R := y_ldA ho hx hu hd hB.cell h
theorem y_nilc {x : Operand} {a : Addr} (ho : o.op = .nilCheck x) (hx : ρ x = .pointer (some a)) (h : R (.pointer (some a)) w) : Yields P ρ o w R :=
  y_val (by simp [execOp, ho, hx]) h
theorem y_fieldR {s : TypeId} {x : Operand} {fs : Array Field} {i b off off' n : Nat} {f : Field} (ho : o.op = .fieldAddr s x i) (hx : ρ x = .pointer (some ⟨b, off, none⟩)) (hu : P.underlying s = some (.struct fs)) (hf : fs[i]? = some f) (hs : (P.info? f.type).map (·.size) = some n) (hn : n ≠ 0) (hoff : off + f.offset = off')
    (h : R (.pointer (some ⟨b, off', none⟩)) w) : Yields P ρ o w R := by
  cases hq : P.info? f.type with
  | none => simp [hq] at hs
  | some j =>
    have hs' : j.size = n := by simpa [hq] using hs
    exact y_val (v := .pointer (some ⟨b, off', none⟩)) (w' := w) (by simp [execOp, ho, hx, Instr.fieldAt, run_underlying hu, hf, Instr.sureAddr, fieldPlace, sizeOf, typeInfo, hq, hs', hn, Addr.add_lit, hoff]) h
theorem y_catR {t t' : TypeId} {x y : Operand} {m n r : ByteArray} (ho : o.op = .binOp .add t x y t') (hx : ρ x = .string m) (hy : ρ y = .string n) (hz : m.size + n.size ≤ 9223372036854775807) (hr : m ++ n = r) (h : R (.string r) w) : Yields P ρ o w R :=
  y_val (v := .string (m ++ n)) (w' := w) (by simp [execOp, ho, hx, hy, go_sem, Nat.not_lt.2 hz]) (by rw [hr]; exact h)
theorem y_eqlS {t t' : TypeId} {x y : Operand} {m n : ByteArray} {b : Bool} (ho : o.op = .binOp .eql t x y t') (hx : ρ x = .string m) (hy : ρ y = .string n) (hr : (m.toList == n.toList) = b) (h : R (.bool b) w) : Yields P ρ o w R :=
  y_eql_text ho hx hy (by rw [hr]; exact h)
end
section
variable {ρ : Operand → Value} {o : Oper} {w : World} {R : Value → World → Prop}
theorem y_lenT {c : Call} {x : Operand} {l : List Bool} (ho : o.op = .call c) (hc : c = { callee := .builtin .len, args := #[x], argTypes := #[9] }) (hx : ρ x = .string (strOf l)) (h : R (.int .i64 ((l.length : Nat) : Int)) w) : Yields Tryz.prog ρ o w R := by
  subst hc
  refine y_val (v := .int .i64 ((l.length : Nat) : Int)) (w' := w) ?_ h
  rw [← strOf_size l]
  simp [execOp, ho, hx, resolve, invoke, builtin, run_underlying Tryz.underlying9, Builtin.len_]
  rfl
theorem y_lenV {c : Call} {x : Operand} {T : Nat → Prop} {v : Value} {l : List Nat} (ho : o.op = .call c) (hc : c = { callee := .builtin .len, args := #[x], argTypes := #[26] }) (hx : ρ x = v) (hb : Byt w T v l) (h : R (.int .i64 ((l.length : Nat) : Int)) w) : Yields Tryz.prog ρ o w R := by
  subst hc
  obtain ⟨⟨a, cap, rfl, _⟩, _⟩ := hb
  exact y_len ho rfl rfl rfl Tryz.underlying26 hx h
theorem bytes_at {x : Operand} {T : Nat → Prop} {v : Value} {l : List Nat} (hx : ρ x = v) (hb : Byt w T v l) : BytesArg w (ρ x) l := by rw [hx]; exact hb.1
end
section
variable {ro : Option Nat} {N : Nat} {Q : (Exit → (Nat → Value) → World → Prop)} {F : Nat → Value} {w : World} {o : Oper} {P : Program}
theorem wl_box_cel {ops : Array Oper} {rest : List Oper} {t : TypeId} {x : Operand} {v : Value} (hg : o.guard = none) (hd : fits N o.dst = true) (ho : o.op = .box t x) (hx : ev (cutF N F) x = v) (hv : oneC v = true)
    (h : ∀ p w', Cel w' p t v → Grew w noB (onB p) → Kept (fun _ => False) w w' → wl ro P N ops Q rest (putF F o.dst (.pointer (some ⟨p, 0, none⟩))) w') : wl ro P N ops Q (o :: rest) F w :=
  wl_op hg hd (y_of (v := .pointer (some ⟨w.heap.size, 0, none⟩)) (w' := w.alloc (.cells #[v] t)) (by simp [execOp, ho, hx, go_sem]; cases v <;> first | rfl | (simp [oneC] at hv; done)) (h _ _ (heap_alloc_new w _) (onB_new (Nat.le_refl _)) ((Kept.refl _ _).alloc _)))
theorem wl_alloc_cel {ops : Array Oper} {rest : List Oper} {t : TypeId} {v : Value} (hg : o.guard = none) (hd : fits N o.dst = true) (ho : o.op = .alloc t) (hi : (P.info? t).map (fun i => (i.zero, i.size)) = some (some v, 1)) (hv : oneC v = true)
    (h : ∀ p w', Cel w' p t v → Grew w noB (onB p) → Kept (fun _ => False) w w' → wl ro P N ops Q rest (putF F o.dst (.pointer (some ⟨p, 0, none⟩))) w') : wl ro P N ops Q (o :: rest) F w :=
  wl_op hg hd (y_of (v := .pointer (some ⟨w.heap.size, 0, none⟩)) (w' := w.alloc (.cells #[v] t)) (by simp [execOp, ho, (zero_of_info hi).1, go_sem]; cases v <;> first | rfl | (simp [oneC] at hv; done)) (h _ _ (heap_alloc_new w _) (onB_new (Nat.le_refl _)) ((Kept.refl _ _).alloc _)))
theorem wl_store_cel {ops : Array Oper} {rest : List Oper} {ty t : TypeId} {x y : Operand} {p : Nat} {v v' : Value} (hg : o.guard = none) (hdn : o.dst = none) (ho : o.op = .store ty x y) (hx : ev (cutF N F) x = .pointer (some ⟨p, 0, none⟩)) (hy : ev (cutF N F) y = v') (hB : Cel w p t v) (hv : oneC v' = true)
    (hs : (P.info? ty).map (·.size) = some 1)
    (h : ∀ w', Cel w' p t v' → Kept (fun k => k = p) w w' → wl ro P N ops Q rest F w') : wl ro P N ops Q (o :: rest) F w := by
  have hc := hB.cell
  have hf : w.frozen? ⟨p, 0, none⟩ = false := frozen_of_heap hB
  cases hq : P.info? ty with
  | none => simp [hq] at hs
  | some i =>
    have hs' : i.size = 1 := by simpa [hq] using hs
    refine wl_op hg (by rw [hdn]; rfl) ?_
    have e : (execOp (ev (cutF N F)) o).run P w = .ok .skip (w.setCell ⟨p, 0, none⟩ v') ∨ (execOp (ev (cutF N F)) o).run P w = .ok (.value undef) (w.setCell ⟨p, 0, none⟩ v') := by
      cases v' <;> first | (simp [oneC] at hv; done) | simp [execOp, ho, hx, hy, Instr.storeAt, Instr.sureAddr, storeVar, sizeOf, typeInfo, hq, hs', Value.cells, hc, hf, go_sem]
    have hn : Cel (w.setCell ⟨p, 0, none⟩ v') p t v' := by unfold Cel; rw [heap_setCell_same _ _ _ _ hB]; rfl
    unfold Yields
    rw [hdn]
    rcases e with e | e <;> rw [e] <;> exact h _ hn ((Kept.refl (fun k => k = p) w).setCell ⟨p, 0, none⟩ (fun _ => rfl) _)
end
end Go.Proofs.YtknjpdcpmpfklaaGreatDoor
set_option maxRecDepth 100000
namespace Go.Proofs.YtknjpdcpmpfklaaGreatDoor
def gBig : Int := 9223372036854775807
def gOne (l : List Nat) (a : Nat) (s : Option Nat) : Nat × Int × Option Nat := (a + (rdStep (wholeRd l gBig) s).1.toNat, rdStep (signedRd l gBig) (rdStep (wholeRd l gBig) s).2)
def gRest (l : List Nat) : Nat → Nat → (Nat → Int) → Option Nat → (Nat → Int) × Int × Option Nat
  | 0, _, b, s => (b, 0, s)
  | k + 1, a, b, s => if 16 ≤ (gOne l a s).1 then (fun _ => 0, 60, (rdStep (wholeRd l gBig) s).2)
    else if (gOne l a s).2.1 = 0 ∨ (gOne l a s).2.1 ≠ cl 1048576 (gOne l a s).2.1 then (fun _ => 0, 60, (gOne l a s).2.2)
    else gRest l k ((gOne l a s).1 + 1) (upd b (ord (gOne l a s).1) (gOne l a s).2.1) (gOne l a s).2.2
def gRd (l : List Nat) (s : Option Nat) : (Nat → Int) × Int × Option Nat :=
  if (rdStep (wholeRd l gBig) s).2.isNone = true ∨ 16 < (rdStep (wholeRd l gBig) s).1 then (fun _ => 0, 60, (rdStep (wholeRd l gBig) s).2)
  else gRest l (rdStep (wholeRd l gBig) s).1.toNat 0 (fun _ => 0) (rdStep (wholeRd l gBig) s).2
theorem gw_bounds (l : List Nat) (a : Nat) (n : Int) (a' : Nat) (h : wholeAt l a = some (n, a')) : 0 ≤ n ∧ n ≤ 8589934592 := by
  have := wholeFrom_le l a 33 0 n a' (by omega) h
  omega
theorem gBig_whole (l : List Nat) (s : Option Nat) : 0 ≤ (rdStep (wholeRd l gBig) s).1 ∧ (rdStep (wholeRd l gBig) s).1 ≤ 8589934592 := by
  cases s with
  | none => simp [rdStep]
  | some a =>
    cases h : wholeAt l a with
    | none => simp [rdStep, wholeRd, h]
    | some p =>
      obtain ⟨n, a'⟩ := p
      have hb := gw_bounds l a n a' h
      have e : rdStep (wholeRd l gBig) (some a) = (n, some a') := by
        have : ¬ gBig < n := by unfold gBig; omega
        simp [rdStep, wholeRd, h, this]
      rw [e]; exact hb
theorem gBig_at (l : List Nat) (a : Nat) (s : Option Nat) : (a : Int) + (rdStep (wholeRd l gBig) s).1 = (((gOne l a s).1 : Nat) : Int) ∧ (gOne l a s).1 ≤ a + 8589934592 := by
  have h := gBig_whole l s
  unfold gOne
  simp only
  omega
def Alike (r r' : (Nat → Int) × Int × Option Nat) : Prop := r.1 = r'.1 ∧ r.2.1 = r'.2.1 ∧ (r'.2.1 = 0 → r = r')
theorem Alike.bad (s s' : Option Nat) : Alike (fun _ => 0, 60, s) (fun _ => 0, 60, s') := ⟨rfl, rfl, fun h => absurd (show (60 : Int) = 0 from h) (by decide)⟩
theorem cl_id20 (n : Int) : cl 1048576 n = n ↔ (-1048576 ≤ n ∧ n ≤ 1048576) := by unfold cl; omega
theorem gw_big (l : List Nat) (a : Nat) (n : Int) (a' : Nat) (h : wholeAt l a = some (n, a')) : rdStep (wholeRd l gBig) (some a) = (n, some a') := by
  have hb := gw_bounds l a n a' h
  have : ¬ gBig < n := by unfold gBig; omega
  simp [rdStep, wholeRd, h, this]
theorem gw_lost (l : List Nat) (m : Int) (a : Nat) (h : wholeAt l a = none) : rdStep (wholeRd l m) (some a) = (0, none) := by simp [rdStep, wholeRd, h]
theorem gw_far (l : List Nat) (m : Int) (a : Nat) (n : Int) (a' : Nat) (h : wholeAt l a = some (n, a')) (hm : m < n) : rdStep (wholeRd l m) (some a) = (0, none) := by simp [rdStep, wholeRd, h, hm]
theorem gw_near (l : List Nat) (m : Int) (a : Nat) (n : Int) (a' : Nat) (h : wholeAt l a = some (n, a')) (hm : ¬ m < n) : rdStep (wholeRd l m) (some a) = (n, some a') := by simp [rdStep, wholeRd, h, hm]
theorem gs_lost (l : List Nat) (m : Int) (a : Nat) (h : wholeAt l a = none) : rdStep (signedRd l m) (some a) = (0, none) := by simp [rdStep, signedRd, h]
theorem gs_big (l : List Nat) (a : Nat) (n : Int) (a' : Nat) (h : wholeAt l a = some (n, a')) : rdStep (signedRd l gBig) (some a) = (unsign n, some a') := by
  have hb := gw_bounds l a n a' h
  have : ¬ (gBig < unsign n ∨ gBig < -unsign n) := by
    unfold gBig unsign
    split <;> omega
  simp only [rdStep, signedRd, h, if_neg this]
theorem gs_far (l : List Nat) (m : Int) (a : Nat) (n : Int) (a' : Nat) (h : wholeAt l a = some (n, a')) (hm : m < unsign n ∨ m < -unsign n) : rdStep (signedRd l m) (some a) = (0, none) := by simp only [rdStep, signedRd, h, if_pos hm]
theorem gs_near (l : List Nat) (m : Int) (a : Nat) (n : Int) (a' : Nat) (h : wholeAt l a = some (n, a')) (hm : ¬ (m < unsign n ∨ m < -unsign n)) : rdStep (signedRd l m) (some a) = (unsign n, some a') := by simp only [rdStep, signedRd, h, if_neg hm]
theorem gRest_alike (l : List Nat) : ∀ (k a : Nat) (b : Nat → Int) (s : Nat), Alike (gRest l k a b (some s)) (rdRest l k a b (some s)) := by
  intro k
  induction k with
  | zero => intro a b s; exact ⟨rfl, rfl, fun _ => rfl⟩
  | succ k ih =>
    intro a b s
    rw [gRest, rdRest]
    cases hw : wholeAt l s with
    | none =>
      have e1 : (rdOne l a (some s)) = (a, 0, none) := by
        unfold rdOne; rw [gw_lost l 15 s hw]; simp [rdStep]
      have e2 : (gOne l a (some s)) = (a, 0, none) := by
        unfold gOne; rw [gw_lost l gBig s hw]; simp [rdStep]
      rw [e1, e2, if_pos (show rdBad (a, 0, none) from .inl rfl)]
      split
      · exact Alike.bad _ _
      · rw [if_pos (.inl rfl)]; exact Alike.bad _ _
    | some p =>
      obtain ⟨n, s1⟩ := p
      have hb := gw_bounds l s n s1 hw
      have eg : gOne l a (some s) = (a + n.toNat, rdStep (signedRd l gBig) (some s1)) := by unfold gOne; rw [gw_big l s n s1 hw]
      by_cases hf : 15 < n
      · have e1 : rdOne l a (some s) = (a, 0, none) := by
          unfold rdOne; rw [gw_far l 15 s n s1 hw hf]; simp [rdStep]
        rw [e1, if_pos (show rdBad (a, 0, none) from .inl rfl), eg, if_pos (show 16 ≤ a + n.toNat by omega)]
        exact Alike.bad _ _
      · have e1 : rdOne l a (some s) = (a + n.toNat, rdStep (signedRd l 1048576) (some s1)) := by unfold rdOne; rw [gw_near l 15 s n s1 hw hf]
        rw [e1, eg]
        by_cases h16 : 16 ≤ a + n.toNat
        · rw [if_pos h16, if_pos (show rdBad _ from .inr (.inl (by simp only; omega)))]
          exact Alike.bad _ _
        · rw [if_neg h16]
          cases hw2 : wholeAt l s1 with
          | none =>
            rw [gs_lost l gBig s1 hw2, gs_lost l 1048576 s1 hw2, if_pos (.inl rfl), if_pos (show rdBad _ from .inl rfl)]
            exact Alike.bad _ _
          | some q =>
            obtain ⟨m, s2⟩ := q
            rw [gs_big l s1 m s2 hw2]
            by_cases hfar : (1048576 : Int) < unsign m ∨ (1048576 : Int) < -unsign m
            · rw [gs_far l 1048576 s1 m s2 hw2 hfar, if_pos (show rdBad _ from .inl rfl), if_pos (.inr (fun h => by have := (cl_id20 (unsign m)).1 h.symm; omega))]
              exact Alike.bad _ _
            · rw [gs_near l 1048576 s1 m s2 hw2 hfar]
              have hc : unsign m = cl 1048576 (unsign m) := ((cl_id20 _).2 (by omega)).symm
              by_cases h0 : unsign m = 0
              · rw [if_pos (.inl h0), if_pos (show rdBad _ from .inr (.inr h0))]
                exact Alike.bad _ _
              · have hn1 : ¬ (unsign m = 0 ∨ unsign m ≠ cl 1048576 (unsign m)) := by
                  rintro (h | h)
                  · exact h0 h
                  · exact h hc
                have hn2 : ¬ rdBad (a + n.toNat, unsign m, some s2) := by
                  rintro (h | h | h)
                  · cases h
                  · simp only at h; omega
                  · exact h0 h
                rw [if_neg hn1, if_neg hn2]
                exact ih _ _ _
theorem gRd_alike (l : List Nat) (st : Option Nat) : Alike (gRd l st) (scanRd l st) := by
  unfold gRd scanRd
  cases st with
  | none =>
    have e1 : ∀ m, rdStep (wholeRd l m) none = (0, none) := fun m => rfl
    rw [e1, e1, if_pos (.inl rfl)]
    exact Alike.bad _ _
  | some s =>
    cases hw : wholeAt l s with
    | none =>
      rw [gw_lost l gBig s hw, gw_lost l 16 s hw, if_pos (.inl rfl)]
      exact Alike.bad _ _
    | some p =>
      obtain ⟨n, s1⟩ := p
      rw [gw_big l s n s1 hw]
      by_cases hf : 16 < n
      · rw [if_pos (.inr hf), gw_far l 16 s n s1 hw hf]
        exact Alike.bad _ _
      · rw [gw_near l 16 s n s1 hw hf, if_neg (by rintro (h | h); cases h; exact hf h)]
        exact gRest_alike l _ _ _ _
def rdSt (l : List Nat) (st : Option Nat) : Option Nat := (gRd l st).2.2
theorem rdSt_ok {l : List Nat} {st : Option Nat} (h : (scanRd l st).2.1 = 0) : rdSt l st = (scanRd l st).2.2 := by unfold rdSt; rw [(gRd_alike l st).2.2 h]
theorem g_far {l : List Nat} {M i a : Nat} {b : Nat → Int} {s : Option Nat} {R : (Nat → Int) × Int × Option Nat} (hi : i < M) (h : gRest l (M - i) a b s = R) (hb : 16 ≤ (gOne l a s).1) : R = (fun _ => 0, 60, (rdStep (wholeRd l gBig) s).2) := by
  obtain ⟨k, hk⟩ : ∃ k, M - i = k + 1 := ⟨M - i - 1, by omega⟩
  rw [hk, gRest, if_pos hb] at h
  exact h.symm
theorem g_bad {l : List Nat} {M i a : Nat} {b : Nat → Int} {s : Option Nat} {R : (Nat → Int) × Int × Option Nat} (hi : i < M) (h : gRest l (M - i) a b s = R) (ha : ¬ 16 ≤ (gOne l a s).1) (hb : (gOne l a s).2.1 = 0 ∨ (gOne l a s).2.1 ≠ cl 1048576 (gOne l a s).2.1) : R = (fun _ => 0, 60, (gOne l a s).2.2) := by
  obtain ⟨k, hk⟩ : ∃ k, M - i = k + 1 := ⟨M - i - 1, by omega⟩
  rw [hk, gRest, if_neg ha, if_pos hb] at h
  exact h.symm
theorem g_ok {l : List Nat} {M i a : Nat} {b : Nat → Int} {s : Option Nat} {R : (Nat → Int) × Int × Option Nat} (hi : i < M) (h : gRest l (M - i) a b s = R) (ha : ¬ 16 ≤ (gOne l a s).1) (hb : ¬ ((gOne l a s).2.1 = 0 ∨ (gOne l a s).2.1 ≠ cl 1048576 (gOne l a s).2.1)) :
    gRest l (M - (i + 1)) ((gOne l a s).1 + 1) (upd b (ord (gOne l a s).1) (gOne l a s).2.1) (gOne l a s).2.2 = R := by
  obtain ⟨k, hk⟩ : ∃ k, M - i = k + 1 := ⟨M - i - 1, by omega⟩
  rw [hk, gRest, if_neg ha, if_neg hb] at h
  rw [show M - (i + 1) = k by omega]
  exact h
theorem g_done {l : List Nat} {M i a : Nat} {b : Nat → Int} {s : Option Nat} {R : (Nat → Int) × Int × Option Nat} (hi : ¬ i < M) (h : gRest l (M - i) a b s = R) : R = (b, 0, s) := by
  rw [show M - i = 0 by omega, gRest] at h
  exact h.symm
theorem g_none {l : List Nat} {s : Option Nat} (h : (rdStep (wholeRd l gBig) s).2.isNone = true ∨ 16 < (rdStep (wholeRd l gBig) s).1) : gRd l s = (fun _ => 0, 60, (rdStep (wholeRd l gBig) s).2) := by unfold gRd; rw [if_pos h]
theorem g_start {l : List Nat} {s : Option Nat} {M : Nat} (h1 : (rdStep (wholeRd l gBig) s).2.isNone = false) (h2 : ¬ 16 < (rdStep (wholeRd l gBig) s).1) (hM : M = (rdStep (wholeRd l gBig) s).1.toNat) : gRest l (M - 0) 0 (fun _ => 0) (rdStep (wholeRd l gBig) s).2 = gRd l s := by
  unfold gRd
  rw [if_neg (by rintro (h | h); rw [h1] at h; cases h; exact h2 h), ← hM]; rfl
theorem told_as {l : List Nat} {s : Option Nat} {b : Nat → Int} {n : Int} {t : Option Nat} (h : gRd l s = (b, n, t)) : b = (scanRd l s).1 ∧ n = (scanRd l s).2.1 ∧ rdSt l s = t := by
  have ha := gRd_alike l s
  have hs : rdSt l s = (gRd l s).2.2 := rfl
  rw [h] at ha hs
  exact ⟨ha.1, ha.2.1, hs⟩
end Go.Proofs.YtknjpdcpmpfklaaGreatDoor
set_option maxRecDepth 100000
namespace Go.Proofs.YtknjpdcpmpfklaaGreatDoor
open Go.RowKit
def jumpP (J : Nat → (Nat → Value) → World → Prop) (Q : (Exit → (Nat → Value) → World → Prop)) : (Exit → (Nat → Value) → World → Prop)
  | .goto l, F, w => J l F w
  | e, F, w => Q e F w
def stayP (Q : (Exit → (Nat → Value) → World → Prop)) : (Exit → (Nat → Value) → World → Prop)
  | .goto _, _, _ => False
  | e, F, w => Q e F w
theorem wp_scope_ahead {P : Program} {a : Act} {w : World} {Q : Exit → Act → World → Prop} {c : Code} (J : Nat → Act → World → Prop)
    (first : c.wp P (fun e a w => match e with | .goto l => J l a w | e => Q e a w) a w)
    (pass : ∀ l a w, J l a w → ∃ rest, findLabel c l = some rest ∧ rest.wp P (Exit.noGoto Q) a w) : (Code.scope c).wp P Q a w := by
  intro b k cs
  obtain ⟨e, a₁, w₁, hq, harr⟩ := first b (.inScope c :: k) cs
  cases e with
  | normal => exact ⟨.normal, a₁, w₁, hq, .head step_scope (Steps.trans harr (.one step_inScope))⟩
  | exit id => exact ⟨.exit id, a₁, w₁, hq, fun k' hk => .head step_scope (harr k' (by simp [exitTo, hk]))⟩
  | goto l =>
    obtain ⟨rest, hf, hr⟩ := pass l a₁ w₁ hq
    have hg : gotoIn l (.inScope c :: k) = some (.code rest :: .inScope c :: k) := by simp [gotoIn, hf]
    obtain ⟨e₂, a₂, w₂, hq₂, harr₂⟩ := hr b (.inScope c :: k) cs
    have hs : Go.Steps P (lone (b.at a (.code (.scope c) :: k)) cs w) (lone (b.at a₁ (.code rest :: .inScope c :: k)) cs w₁) := .head step_scope (harr _ hg)
    cases e₂ with
    | normal => exact ⟨.normal, a₂, w₂, hq₂, Steps.trans hs (Steps.trans harr₂ (.one step_inScope))⟩
    | exit id => exact ⟨.exit id, a₂, w₂, hq₂, fun k' hk => Steps.trans hs (harr₂ k' (by simp [exitTo, hk]))⟩
    | goto l' => exact hq₂.elim
    | ret => exact ⟨_, a₂, w₂, hq₂, .of_steps hs harr₂⟩
    | panic ch => exact ⟨_, a₂, w₂, hq₂, .of_steps hs harr₂⟩
    | outgrown => exact ⟨_, a₂, w₂, hq₂, .of_steps hs harr₂⟩
  | ret => exact ⟨_, a₁, w₁, hq, .of_steps (.one step_scope) harr⟩
  | panic ch => exact ⟨_, a₁, w₁, hq, .of_steps (.one step_scope) harr⟩
  | outgrown => exact ⟨_, a₁, w₁, hq, .of_steps (.one step_scope) harr⟩
section
variable {ro : Option Nat} {P : Program} {N : Nat} {Q : (Exit → (Nat → Value) → World → Prop)} {F : Nat → Value} {w : World}
theorem wq_scope {c : Code} (h : wq none P N c (jumpP (fun l F w => ∃ rest, findLabel c l = some rest ∧ wq none P N rest (stayP Q) F w) Q) F w) : wq none P N (.scope c) Q F w := by
  intro a ha
  refine wpIn_wide.2 ?_
  refine wp_scope_ahead (fun l a w => ∃ F, Fr N F a ∧ ∃ rest, findLabel c l = some rest ∧ wq none P N rest (stayP Q) F w) (wp_mono (wpIn_wide.1 (h a ha)) ?_) ?_
  · rintro e a' w' ⟨F', hF, hq⟩
    cases e <;> exact ⟨F', hF, hq⟩
  · rintro l a' w' ⟨F', hF, rest, hf, hr⟩
    refine ⟨rest, hf, wp_mono (wpIn_wide.1 (hr a' hF)) ?_⟩
    rintro e a'' w'' ⟨F'', hF'', hq⟩
    cases e <;> first | exact ⟨F'', hF'', hq⟩ | exact hq.elim
theorem wq_goto {l : Nat} (h : Q (.goto l) F w) : wq ro P N (.goto l) Q F w := fun _ ha => wpIn_goto ⟨F, ha, h⟩
theorem then_goto {next : (Nat → Value) → World → Prop} {l : Nat} (h : Q (.goto l) F w) : thenP next Q (.goto l) F w := h
theorem in_goto {id l : Nat} (h : Q (.goto l) F w) : inP id Q (.goto l) F w := h
theorem jump_ret {J : Nat → (Nat → Value) → World → Prop} (h : Q .ret F w) : jumpP J Q .ret F w := h
theorem jump_goto {J : Nat → (Nat → Value) → World → Prop} {l : Nat} (h : J l F w) : jumpP J Q (.goto l) F w := h
theorem stay_ret (h : Q .ret F w) : stayP Q .ret F w := h
end
def BlkG (w : World) (p : Nat) (b : Nat → Int) : Prop := ∃ t f, w.heap[p]? = some (.cells (arrL 16 b).toArray t f)
theorem BlkG.all {S : Nat → Prop} {w w' : World} {p : Nat} {b : Nat → Int} (h : BlkG w p b) (k : Kept S w w') (hn : ¬ S p) : BlkG w' p b := by
  obtain ⟨t, f, h⟩ := h; exact ⟨t, f, k.at h hn⟩
theorem BlkG.lt {w : World} {p : Nat} {b : Nat → Int} (h : BlkG w p b) : p < w.heap.size := by obtain ⟨t, f, h⟩ := h; exact lt_of_heap h
theorem BlkG.cell {w : World} {p : Nat} {b : Nat → Int} (h : BlkG w p b) {i : Nat} (hi : i < 16) : w.cell? ⟨p, i, none⟩ = some (.int .i64 (b i)) := by
  obtain ⟨t, f, h⟩ := h
  rw [cell_of_heap h, List.getElem?_toArray]; exact arrL_at hi
end Go.Proofs.YtknjpdcpmpfklaaGreatDoor
set_option maxRecDepth 100000
namespace Go.Proofs.YtknjpdcpmpfklaaGreatDoor
open Go.RowKit
def shut : List Nat → World → World
  | [], w => w
  | D :: ms, w => shut ms (w.putObj D (.deferred none))
def Opens : List Nat → World → Prop
  | [], _ => True
  | D :: ms, w => w.heap[D]? = some (.deferred (some [])) ∧ Opens ms (w.putObj D (.deferred none))
def endM (P : Program) (fn : Func) (N : Nat) (R : Ending → World → Prop) : (Exit → (Nat → Value) → World → Prop)
  | .normal, F, w | .ret, F, w => ∃ ms, F N = markV ms ∧ Opens ms w ∧ ∀ a, Fr N F a → ∃ v, (results fn a.tmps).run P (shut ms w) = .ok v (shut ms w) ∧ R (.returned v) (shut ms w)
  | _, _, _ => False
theorem leaves_marks {P : Program} {fn : Func} {tmps : Array Value} {R : Ending → World → Prop} : ∀ (ms : List Nat) (w : World), Opens ms w → (∃ v, (results fn tmps).run P (shut ms w) = .ok v (shut ms w) ∧ R (.returned v) (shut ms w)) →
    LeavesInM Fence.wide 0 P fn tmps R (ms.map fun D => { target := .collected D, args := #[] }) .returning w := by
  intro ms
  induction ms with
  | nil =>
    intro w _ h
    exact h
  | cons D ms ih =>
    intro w ho h
    exact ⟨by simp, .inl ⟨D, _, rfl, run_takeDeferred ho.1, ih _ ho.2 h⟩⟩
theorem calls_wm {P : Program} {f : FuncId} {fn : Func} {c : Code} {args : List Value} {w : World} {R : Ending → World → Prop} (N : Nat) (hf : P.funcs[f]? = some fn) (hb : fn.body = some c) (hn : fn.ntmps = N) (hl : args.length ≤ N)
    (h : wq none P N c (endM P fn N R) (argF args) w) : Calls P f args.toArray w R := by
  refine callsIn_wide (n := 0).1 ?_
  refine callsIn_of_wp_marks hf hb trivial ?_
  subst hn
  have hs : (args.toArray ++ Array.replicate (fn.ntmps - args.toArray.size) undef).size = fn.ntmps := by simp; omega
  have hu : argF args fn.ntmps = undef := by
    unfold argF
    rw [List.getD_eq_getElem?_getD, List.getElem?_eq_none hl]; rfl
  refine wpIn_mono (h _ ⟨hs, by rw [hu]; rfl, fun t _ => ?_⟩) ?_
  · unfold argF
    simp only [Array.getD_eq_getD_getElem?, List.getD_eq_getElem?_getD]
    by_cases h1 : t < args.length
    · rw [Array.getElem?_append_left (by simpa using h1)]; simp
    · rw [Array.getElem?_append_right (by simp; omega), List.getElem?_eq_none (by omega)]
      by_cases h2 : t < fn.ntmps
      · rw [Array.getElem?_replicate]; split <;> rfl
      · rw [Array.getElem?_eq_none (by simp; omega)]
  · rintro e a' w' ⟨F', hF, hq⟩
    cases e <;> first
      | (obtain ⟨ms, hm, ho, hr⟩ := hq
         show LeavesInM Fence.wide 0 P fn a'.tmps R a'.defers .returning w'
         rw [hF.defers, hm, marked, marksOf_markV]
         exact leaves_marks ms w' ho (hr a' hF))
      | exact hq.elim
end Go.Proofs.YtknjpdcpmpfklaaGreatDoor
set_option maxRecDepth 100000
namespace Go.Proofs.YtknjpdcpmpfklaaGreatDoor
open Go.RowKit
theorem up_same (F : Nat → Value) (d : Nat) (v : Value) : up F d v d = v := by
  unfold up
  cases hb : Nat.beq d d with
  | true => rfl
  | false => exact absurd rfl (Nat.ne_of_beq_eq_false hb)
theorem up_other (F : Nat → Value) (d : Nat) (v : Value) {t : Nat} (h : t ≠ d) : up F d v t = F t := by
  unfold up
  cases hb : Nat.beq t d with
  | false => rfl
  | true => exact absurd (Nat.eq_of_beq_eq_true hb) h
theorem Fr.last {N : Nat} {F : Nat → Value} {a : Act} (h : Fr N F a) (v : Value) (ds : List Deferred) (hd : ds = marked v) : Fr N (up F N v) { tmps := a.tmps, defers := ds } := by
  refine ⟨h.size, ?_, fun t ht => ?_⟩
  · show ds = marked (up F N v N)
    rw [up_same, hd]
  · have hlt : t < N := by simpa [Nat.blt_eq] using ht
    show a.tmps.getD t undef = up F N v t
    rw [up_other F N v (Nat.ne_of_lt hlt)]
    exact h.at' t ht
theorem Fr.mark {N : Nat} {F : Nat → Value} {a : Act} (h : Fr N F a) (D : Nat) : Fr N (up F N (markV (D :: marksOf (F N)))) { a with defers := { target := .collected D, args := #[] } :: a.defers } := by
  refine h.last _ _ ?_
  rw [h.defers]
  unfold marked
  rw [marksOf_markV]; rfl
theorem Fr.rounds {N : Nat} : ∀ (l : List (Tmp × Value)) (F : Nat → Value) (a : Act), Fr N F a → (l.all fun p => Nat.blt p.1 N) = true → Fr N (l.foldl (fun F p => up F p.1 p.2) F) { tmps := l.foldl (fun t p => t.setIfInBounds p.1 p.2) a.tmps, defers := a.defers } := by
  intro l
  induction l with
  | nil => intro F a h _; exact h
  | cons p l ih =>
    intro F a h hl
    simp only [List.all_cons, Bool.and_eq_true] at hl
    exact ih (up F p.1 p.2) (a.put (some p.1) p.2) (h.put (d := some p.1) hl.1 p.2) hl.2
def loopF (N : Nat) (F : Nat → Value) (l : List (Tmp × Value)) : Nat → Value := l.foldl (fun F p => up F p.1 p.2) (up F N undef)
theorem all_zip {N : Nat} : ∀ (pl : List Tmp) (vs : List Value), (pl.all fun p => Nat.blt p N) = true → ((pl.zip vs).all fun p => Nat.blt p.1 N) = true := by
  intro pl
  induction pl with
  | nil => intro vs _; simp
  | cons p pl ih =>
    intro vs h
    cases vs with
    | nil => simp
    | cons v vs =>
      simp only [List.all_cons, Bool.and_eq_true] at h
      simp only [List.zip_cons_cons, List.all_cons, Bool.and_eq_true]
      exact ⟨h.1, ih vs h.2⟩
section
variable {P : Program} {N : Nat} {Q : (Exit → (Nat → Value) → World → Prop)} {F : Nat → Value} {w : World}
theorem wl_yield {ops : Array Oper} {o : Oper} {rest : List Oper} {R : Ending → World → Prop} {l : Nat} {c : Call} {cx : Operand} {xs : List Operand} {vs : List Value} (hg : o.guard = none) (hd : fits N o.dst = true) (ho : o.op = .call c) (hc : c.callee = .value cx) (hcx : ev (cutF N F) cx = .func (.yield l) #[] #[])
    (hx : c.args = xs.toArray) (hv : xs.map (ev (cutF N F)) = vs) (hY : YieldAt Fence.wide 0 P l vs.toArray w R)
    (h : ∀ e w', R e w' → ∃ v, e = .returned v ∧ wl (some 0) P N ops Q rest (putF F o.dst v) w') : wl (some 0) P N ops Q (o :: rest) F w := by
  intro a ha
  show wpListIn Fence.wide 0 P ops (Fp N Q) (o :: rest) a w
  refine wpListIn_step fun K hK => ?_
  rw [if_pos (by unfold Region.wanted; rw [hg])]
  refine ⟨fun f _ => trivial, ?_⟩
  have hnd : ∀ c, o.op ≠ .defer c := fun c' e => by rw [ho] at e; cases e
  rw [Oper.semAt_eq _ _ _ hnd]
  obtain ⟨cl, ars, ts⟩ := c
  simp only at hc hx
  subst hc; subst hx; subst hv
  obtain ⟨fn, tmps, assign, body, hy, hR⟩ := hY
  have e : (execOp a.eval o).run P w = .ok (.round l fn tmps assign body) w := by
    rw [ha.eval, ← hy]
    simp [execOp, ho, resolve, hcx, Deferred.ofValue, invoke]
  rw [e]
  refine ⟨fun e => (by cases e), hR.mono ?_⟩
  intro e' w' hr
  obtain ⟨v, rfl, hk⟩ := h e' w' hr
  exact hK _ _ (hk _ (ha.put hd v))
end
def Jat {α : Type} (w : World) (_U : Nat → Prop) (J : List α → World → Prop) (pre : List α) : Prop := J pre w ∧ AbidesFrom w.heap.size J
theorem Jat.all {α : Type} {w w' : World} {U : Nat → Prop} {J : List α → World → Prop} {pre : List α} (h : Jat w U J pre) (k : Kept (fun _ => False) w w') (_ : Apart U (fun _ => False)) : Jat w' U J pre :=
  ⟨h.2 _ _ _ none h.1 ⟨k.os, k.tape, k.output, k.size, fun i hi _ => k.block i hi id⟩ (fun _ e => by cases e),
   fun s W W' row hs hg hr => h.2 s W W' row hs hg (fun r e => ⟨Nat.le_trans k.size (hr r e).1, (hr r e).2⟩)⟩
theorem Jat.next {α : Type} {w w' : World} {U : Nat → Prop} {J : List α → World → Prop} {pre xs : List α} (h : Jat w U J pre) (hs : w.heap.size ≤ w'.heap.size) (hj : J xs w') : Jat w' U J xs :=
  ⟨hj, fun s W W' row hs' hg hr => h.2 s W W' row hs' hg (fun r e => ⟨Nat.le_trans hs (hr r e).1, (hr r e).2⟩)⟩
def RowNew (B : Nat) (A : World) (row : Option Nat) : Prop := ∀ r, row = some r → B ≤ r ∧ ∃ o : Obj, A.heap[r]? = some o ∧ o.isCells = false
def Cells (A : World) (T : Nat → Prop) : Prop := ∀ i, T i → ∃ o : Obj, A.heap[i]? = some o ∧ o.isCells = true
theorem kept_row {A B : World} {row : Option Nat} (hg : A.grownBy B row) : Kept (fun k => some k = row) A B := ⟨hg.os, hg.tape, hg.output, hg.size, fun k hk hn => hg.block k hk hn⟩
theorem Cells.apart {A : World} {T : Nat → Prop} {row : Option Nat} {n : Nat} (h : Cells A T) (hr : RowNew n A row) : Apart T (fun k => some k = row) := fun i hi e => by
  obtain ⟨o, ho, hc⟩ := h i hi
  obtain ⟨_, o', ho', hc'⟩ := hr i e.symm
  rw [ho] at ho'; cases ho'; rw [hc] at hc'; cases hc'
theorem Kept.row {S : Nat → Prop} {w0 A B : World} {row : Option Nat} {n : Nat} (h : Kept S w0 A) (hg : A.grownBy B row) (hr : RowNew n A row) (hn : w0.heap.size ≤ n) : Kept S w0 B := h.grown hg (fun k e hk => absurd (hr k e).1 (by omega))
theorem Cells.keeps {W W' : World} {S : Nat → Prop} (hc : Cells W S) (k : Kept S W W') (B : Nat) : KeepsFrom B W W' := ⟨k.size, fun i o _ hi ho => by
  have hlt := (Array.getElem?_eq_some_iff.1 hi).1
  refine (k.block i hlt fun hs => ?_).trans hi
  obtain ⟨o', h1, h2⟩ := hc i hs
  rw [hi] at h1; cases h1; rw [ho] at h2; cases h2⟩
theorem Cells.or {A : World} {T U : Nat → Prop} (h : Cells A T) (k : Cells A U) : Cells A (fun i => T i ∨ U i) := fun i hi => hi.elim (h i) (k i)
theorem Cells.no {A : World} : Cells A (fun _ => False) := fun _ h => h.elim
theorem cells_of_heap {A : World} {p : Nat} {c : Array Value} {t : TypeId} {z : Nat × Nat} (h : A.heap[p]? = some (.cells c t z)) : Cells A (onB p) := fun i hi => by
  cases hi; exact ⟨_, h, rfl⟩
theorem Blk.cells {w : World} {p : Nat} {t : TypeId} {b : Nat → Int} (h : Blk w p t b) : Cells w (onB p) := cells_of_heap h
theorem Cel.cells {w : World} {p : Nat} {t : TypeId} {v : Value} (h : Cel w p t v) : Cells w (onB p) := cells_of_heap h
theorem Blk.row {A B : World} {row : Option Nat} {n p : Nat} {t : TypeId} {b : Nat → Int} (h : Blk A p t b) (hg : A.grownBy B row) (hr : RowNew n A row) : Blk B p t b := h.all (kept_row hg) (h.cells.apart hr p rfl)
theorem Cel.row {A B : World} {row : Option Nat} {n p : Nat} {t : TypeId} {v : Value} (h : Cel A p t v) (hg : A.grownBy B row) (hr : RowNew n A row) : Cel B p t v := h.all (kept_row hg) (h.cells.apart hr p rfl)
def Mrk (w : World) (D : Nat) : Prop := w.heap[D]? = some (.deferred (some []))
theorem Mrk.all {S : Nat → Prop} {w w' : World} {D : Nat} (h : Mrk w D) (k : Kept S w w') (hn : ¬ S D) : Mrk w' D := k.at h hn
theorem Mrk.lt {w : World} {D : Nat} (h : Mrk w D) : D < w.heap.size := lt_of_heap h
theorem Mrk.apart {w : World} {D : Nat} {T : Nat → Prop} (h : Mrk w D) (hc : Cells w T) : Apart (onB D) T := fun i hi ht => by
  cases hi
  obtain ⟨o, ho, hx⟩ := hc _ ht
  rw [show w.heap[D]? = _ from h] at ho; cases ho; cases hx
theorem kept_shut (w : World) (D : Nat) : Kept (onB D) w (shut [D] w) := (Kept.refl (onB D) w).grown (grownBy_putObj' w D _) (fun k e _ => by cases e; rfl)
theorem Mrk.opens {w : World} {D : Nat} (h : Mrk w D) : Opens [D] w := ⟨h, trivial⟩
end Go.Proofs.YtknjpdcpmpfklaaGreatDoor
set_option maxRecDepth 100000
namespace Go.Proofs.YtknjpdcpmpfklaaGreatDoor
open Go.RowKit
def Stc (w : World) (p : Nat) (t : TypeId) (vs : List Value) : Prop := w.heap[p]? = some (.cells vs.toArray t (0, 0))
theorem Stc.all {S : Nat → Prop} {w w' : World} {p : Nat} {t : TypeId} {vs : List Value} (h : Stc w p t vs) (k : Kept S w w') (hn : ¬ S p) : Stc w' p t vs := k.at h hn
theorem Stc.lt {w : World} {p : Nat} {t : TypeId} {vs : List Value} (h : Stc w p t vs) : p < w.heap.size := lt_of_heap h
theorem Stc.cells {w : World} {p : Nat} {t : TypeId} {vs : List Value} (h : Stc w p t vs) : Cells w (onB p) := cells_of_heap h
theorem Stc.row {A B : World} {row : Option Nat} {n p : Nat} {t : TypeId} {vs : List Value} (h : Stc A p t vs) (hg : A.grownBy B row) (hr : RowNew n A row) : Stc B p t vs := h.all (kept_row hg) (h.cells.apart hr p rfl)
theorem Stc.cell {w : World} {p : Nat} {t : TypeId} {vs : List Value} {i : Nat} {v : Value} (h : Stc w p t vs) (hi : vs[i]? = some v) : w.cell? ⟨p, i, none⟩ = some v := by
  rw [cell_of_heap h]; simpa using hi
theorem Stc.set {w : World} {p : Nat} {t : TypeId} {vs : List Value} (h : Stc w p t vs) (k : Nat) (v : Value) : Stc (w.setCell ⟨p, k, none⟩ v) p t (vs.set k v) := by
  unfold Stc at *
  simp [World.setCell, Array.getElem?_modify, h]
def StcT (P : Program) (ty : TypeId) (n : Nat) : Prop := ∃ d, P.underlying ty = some d ∧ d.isRow = true ∧ (P.info? ty).map (·.size) = some n
def OneAll (vs : List Value) : Prop := ∀ v ∈ vs, v.oneCell' = true
theorem oneN : OneAll [] := fun _ h => by cases h
theorem oneI {v : Value} {vs : List Value} (h : v.oneCell' = true) (k : OneAll vs) : OneAll (v :: vs) := fun x hx => by
  rcases List.mem_cons.1 hx with rfl | hx
  · exact h
  · exact k x hx
theorem Byt.oneC {w : World} {T : Nat → Prop} {v : Value} {l : List Nat} (h : Byt w T v l) : oneC v = true := by
  obtain ⟨⟨a, cap, rfl, _⟩, _⟩ := h; rfl
theorem Byt.one {w : World} {T : Nat → Prop} {v : Value} {l : List Nat} (h : Byt w T v l) : v.oneCell' = true := by
  obtain ⟨⟨a, cap, rfl, _⟩, _⟩ := h; rfl
section
variable {ro : Option Nat} {P : Program} {N : Nat} {Q : (Exit → (Nat → Value) → World → Prop)} {F : Nat → Value} {w : World} {o : Oper}
theorem wl_box_stc {ops : Array Oper} {rest : List Oper} {t : TypeId} {x : Operand} {vs : List Value} (hg : o.guard = none) (hd : fits N o.dst = true) (ho : o.op = .box t x) (hx : ev (cutF N F) x = .agg vs.toArray)
    (h : ∀ p w', Stc w' p t vs → Grew w noB (onB p) → Kept (fun _ => False) w w' → wl ro P N ops Q rest (putF F o.dst (.pointer (some ⟨p, 0, none⟩))) w') : wl ro P N ops Q (o :: rest) F w :=
  wl_op hg hd (y_of (v := .pointer (some ⟨w.heap.size, 0, none⟩)) (w' := w.alloc (.cells vs.toArray t)) (by simp [execOp, ho, hx, go_sem]) (h _ _ (heap_alloc_new w _) (onB_new (Nat.le_refl _)) ((Kept.refl _ _).alloc _)))
theorem wl_alloc_stc {ops : Array Oper} {rest : List Oper} {t : TypeId} {n : Nat} {vs : List Value} (hg : o.guard = none) (hd : fits N o.dst = true) (ho : o.op = .alloc t) (hi : (P.info? t).map (fun i => (i.zero, i.size)) = some (some (.agg vs.toArray), n))
    (h : ∀ p w', Stc w' p t vs → Grew w noB (onB p) → Kept (fun _ => False) w w' → wl ro P N ops Q rest (putF F o.dst (.pointer (some ⟨p, 0, none⟩))) w') : wl ro P N ops Q (o :: rest) F w :=
  wl_op hg hd (y_of (v := .pointer (some ⟨w.heap.size, 0, none⟩)) (w' := w.alloc (.cells vs.toArray t)) (by simp [execOp, ho, (zero_of_info hi).1, go_sem]) (h _ _ (heap_alloc_new w _) (onB_new (Nat.le_refl _)) ((Kept.refl _ _).alloc _)))
theorem wl_store_stc {ops : Array Oper} {rest : List Oper} {ty t : TypeId} {x y : Operand} {p : Nat} {vs us : List Value} (hT : StcT P ty us.length) (hg : o.guard = none) (hdn : o.dst = none) (ho : o.op = .store ty x y) (hx : ev (cutF N F) x = .pointer (some ⟨p, 0, none⟩)) (hy : ev (cutF N F) y = .agg us.toArray) (hB : Stc w p t vs) (hl : vs.length = us.length) (h1 : OneAll us)
    (h : ∀ w', Stc w' p t us → Kept (fun k => k = p) w w' → wl ro P N ops Q rest F w') : wl ro P N ops Q (o :: rest) F w := by
  obtain ⟨d, _, _, hsz⟩ := hT
  refine wl_op hg (by rw [hdn]; rfl) (y_store_row ty x y ho p _ us.toArray t hx hy hB (by simpa using hl) (by rw [List.size_toArray]; exact hsz) (all_oneCell_toArray h1) fun w' hw hk => ?_)
  rw [hdn]
  exact h w' hw hk
theorem wl_set_stc {ops : Array Oper} {rest : List Oper} {ty t : TypeId} {x y : Operand} {p k : Nat} {v u : Value} {vs : List Value} (hg : o.guard = none) (hdn : o.dst = none) (ho : o.op = .store ty x y) (hx : ev (cutF N F) x = .pointer (some ⟨p, k, none⟩)) (hy : ev (cutF N F) y = v) (hB : Stc w p t vs) (hk : vs[k]? = some u) (hv : oneC v = true)
    (hs : (P.info? ty).map (·.size) = some 1)
    (h : ∀ w', Stc w' p t (vs.set k v) → Kept (fun k => k = p) w w' → wl ro P N ops Q rest F w') : wl ro P N ops Q (o :: rest) F w := by
  have hc := hB.cell hk
  have hf : w.frozen? ⟨p, k, none⟩ = false := frozen_of_heap hB
  cases hq : P.info? ty with
  | none => simp [hq] at hs
  | some i =>
    have hs' : i.size = 1 := by simpa [hq] using hs
    refine wl_op hg (by rw [hdn]; rfl) ?_
    have e : (execOp (ev (cutF N F)) o).run P w = .ok .skip (w.setCell ⟨p, k, none⟩ v) ∨ (execOp (ev (cutF N F)) o).run P w = .ok (.value undef) (w.setCell ⟨p, k, none⟩ v) := by
      cases v <;> first
        | (simp [oneC] at hv; done)
        | simp [execOp, ho, hx, hy, Instr.storeAt, Instr.sureAddr, storeVar, sizeOf, typeInfo, hq, hs', Value.cells, hc, hf, go_sem]
    unfold Yields
    rw [hdn]
    rcases e with e | e <;> rw [e] <;> exact h _ (hB.set k v) ((Kept.refl (fun k => k = p) w).setCell ⟨p, k, none⟩ (fun _ => rfl) _)
end
section
variable {P : Program} {ρ : Operand → Value} {o : Oper} {w : World} {R : Value → World → Prop}
theorem y_load_stc {ty t : TypeId} {x : Operand} {p : Nat} {vs : List Value} (hT : StcT P ty vs.length) (ho : o.op = .load ty x) (hx : ρ x = .pointer (some ⟨p, 0, none⟩)) (hB : Stc w p t vs) (h : R (.agg vs.toArray) w) : Yields P ρ o w R := by
  obtain ⟨d, hu, hd, hs⟩ := hT
  exact y_load_row ho p hx _ t (0, 0) d hB hu hd (by rw [List.size_toArray]; exact hs) h
theorem y_ld_stc {ty t : TypeId} {x : Operand} {p k : Nat} {vs : List Value} {v : Value} {d : TypeDesc} (ho : o.op = .load ty x) (hx : ρ x = .pointer (some ⟨p, k, none⟩)) (hu : P.underlying ty = some d) (hB : Stc w p t vs) (hk : vs[k]? = some v) (hd : plainD d = true) (h : R v w) : Yields P ρ o w R := y_ldA ho hx hu hd (hB.cell hk) h
theorem res_stc {N : Nat} {F : Nat → Value} {p : Tmp} {ty t : TypeId} {q : Nat} {vs : List Value} (hT : StcT P ty vs.length) (ht : Nat.blt p N = true) (hp : F p = .pointer (some ⟨q, 0, none⟩)) (hB : Stc w q t vs) : ResOk P N F w (.cell p ty) (.agg vs.toArray) := by
  obtain ⟨d, hu, hd, hs⟩ := hT
  exact ⟨ht, _, hp, run_loadVar_whole w q t ty _ (0, 0) d hB hu hd (by rw [List.size_toArray]; exact hs)⟩
theorem end_stc {N : Nat} {F : Nat → Value} {fn : Func} {p : Tmp} {ty t : TypeId} {q : Nat} {vs : List Value} {E : Ending → World → Prop} (hT : StcT P ty vs.length) (hm : F N = undef) (ht : Nat.blt p N = true) (h : fn.results = #[.cell p ty]) (hp : F p = .pointer (some ⟨q, 0, none⟩)) (hB : Stc w q t vs) (hR : E (.returned (.agg vs.toArray)) w) : endP P fn N E .ret F w := by
  obtain ⟨d, hu, hd, hs⟩ := hT
  exact ⟨hm, fun a ha => ⟨_, results_cell h _ _ q (by rw [ha.at' p ht]; exact hp) _ t (0, 0) d hB hu hd (by rw [List.size_toArray]; exact hs), hR⟩⟩
end
def onlyP (I : (Nat → Value) → World → Prop) : Exit → (Nat → Value) → World → Prop
  | .normal, F, w => I F w
  | _, _, _ => False
theorem wq_cut {l : Option Nat} {P : Program} {N : Nat} {c : Code} {Q : (Exit → (Nat → Value) → World → Prop)} {F : Nat → Value} {w : World} (I : (Nat → Value) → World → Prop) (h : wq l P N c (onlyP I) F w) (k : ∀ F' w', I F' w' → Q .normal F' w') : wq l P N c Q F w := by
  intro a ha
  refine wpIn_mono (h a ha) ?_
  rintro e a' w' ⟨F', hF, hq⟩
  cases e <;> first | exact ⟨F', hF, k F' w' hq⟩ | exact hq.elim
def wqr (l : Option Nat) (P : Program) (N : Nat) (c : Code) (Q : (Exit → (Nat → Value) → World → Prop)) : Nat → (Nat → Value) → World → Prop
  | 0, _, _ => False
  | m + 1, F, w => wq l P N c (thenP (wqr l P N c Q m) Q) F w
theorem wqr_step {l : Option Nat} {P : Program} {N : Nat} {c : Code} {Q : (Exit → (Nat → Value) → World → Prop)} {m : Nat} {F : Nat → Value} {w : World} (h : wq l P N c (thenP (wqr l P N c Q m) Q) F w) : wqr l P N c Q (m + 1) F w := h
theorem wqr_rounds {l : Option Nat} {P : Program} {N : Nat} {c : Code} {Q : (Exit → (Nat → Value) → World → Prop)} : ∀ (m : Nat) (F : Nat → Value) (w : World) (a : Act), Fr N F a → wqr l P N c Q m F w → Code.roundsIn (fen l) 0 P c (Fp N Q) m a w := by
  intro m
  induction m with
  | zero => intro F w a _ h; exact h.elim
  | succ m ih =>
    intro F w a ha h
    refine wpIn_mono (h a ha) ?_
    rintro e a' w' ⟨F', hF, hq⟩
    cases e with
    | normal => exact ih F' w' a' hF hq
    | _ => exact ⟨F', hF, hq⟩
theorem wq_rounds {l : Option Nat} {P : Program} {N : Nat} {c : Code} {Q : (Exit → (Nat → Value) → World → Prop)} {F : Nat → Value} {w : World} (m : Nat) (h : wqr l P N c Q m F w) : wq l P N (.loop c) Q F w :=
  fun a ha => wpIn_loop_rounds m (wqr_rounds m F w a ha h)
end Go.Proofs.YtknjpdcpmpfklaaGreatDoor
set_option maxRecDepth 100000
namespace Go.Proofs.YtknjpdcpmpfklaaGreatDoor
open Go.RowKit
theorem Byt.row {A B : World} {row : Option Nat} {n : Nat} {T : Nat → Prop} {v : Value} {l : List Nat} (h : Byt A T v l) (hg : A.grownBy B row) (hr : RowNew n A row) : Byt B T v l := by
  obtain ⟨⟨a, cap, rfl, h1, h2, h3, hl, hc⟩, hL, hT⟩ := h
  have k := kept_row hg
  refine ⟨⟨a, cap, rfl, h1, h2, h3, hl, fun hpos => ?_⟩, hL.mono k, hT⟩
  obtain ⟨b, off, rfl, hb, hcell⟩ := hc hpos
  refine ⟨b, off, rfl, Nat.lt_of_lt_of_le hb k.size, fun i hi => (World.cell?_of_block (k.block b hb fun e => ?_)).trans (hcell i hi)⟩
  obtain ⟨_, o, ho, hn⟩ := hr b e.symm
  have := hcell 0 hpos
  unfold World.cell? at this
  simp only at this
  rw [ho] at this
  cases o <;> simp_all [Obj.isCells]
theorem Mrk.far {w : World} {D : Nat} {T : Nat → Prop} (hd : w.heap.size ≤ D) (hL : Live w T) : Apart (onB D) T := fun i hi ht => by
  cases hi
  exact absurd (hL _ ht) (by omega)
def asP (B : Nat) (Kp : World → World → Prop) (I : World → Prop) (Ax : (Nat → Value) → World → Prop) (W : World) : Exit → (Nat → Value) → World → Prop
  | .normal, F, W' => KeepsFrom B W W' ∧ Kp W W' ∧ I W' ∧ Ax F W'
  | _, _, _ => False
def roundR (B : Nat) (Kp : World → World → Prop) (J Jx : World → Prop) (W : World) : Exit → (Nat → Value) → World → Prop
  | .normal, _, W' => KeepsFrom B W W' ∧ Kp W W' ∧ J W'
  | .ret, _, W' => KeepsFrom B W W' ∧ Jx W'
  | _, _, _ => False
def atRet {α : Type} (Ix : List α → World → Prop) : Code → List α → World → Prop
  | .ret, pre, W => Ix pre W
  | _, _, _ => False
theorem atRet_own {α : Type} {B : Nat} {Ix : List α → World → Prop} (h : OwnFrom B Ix) : ∀ c, OwnFrom B (atRet Ix c) := by
  intro c s W W' row hs hg hr
  cases c <;> first | exact h s W W' row hs hg hr | exact hs.elim
section
variable {P : Program} {fn : Func} {N : Nat} {R : Ending → World → Prop} {F : Nat → Value} {w : World}
theorem res_cel {p : Tmp} {ty t : TypeId} {q : Nat} {v : Value} {d : TypeDesc} (hu : P.underlying ty = some d) (hd : plainD d = true) (ht : Nat.blt p N = true) (hp : F p = .pointer (some ⟨q, 0, none⟩)) (hB : Cel w q t v) : ResOk P N F w (.cell p ty) v := by
  refine ⟨ht, _, hp, ?_⟩
  have hc := hB.cell
  cases d <;> simp [plainD] at hd <;> simp [loadVar, isAgg, run_underlying hu, hc, go_sem]
theorem endm_2 {ms : List Nat} {r1 r2 : ResultVar} {v1 v2 : Value} (hm : F N = markV ms) (ho : Opens ms w) (h : fn.results = #[r1, r2]) (h1 : ResOk P N F (shut ms w) r1 v1) (h2 : ResOk P N F (shut ms w) r2 v2)
    (hR : R (.returned (.tuple #[v1, v2])) (shut ms w)) : endM P fn N R .ret F w := by
  refine ⟨ms, hm, ho, fun a ha => ⟨_, ?_, hR⟩⟩
  cases r1 <;> cases r2 <;> simp only [ResOk] at h1 h2
  · obtain ⟨b1, h1⟩ := h1; obtain ⟨b2, h2⟩ := h2
    rw [← ha.at' _ b1] at h1; rw [← ha.at' _ b2] at h2
    simp [results, h] at *; simp [h1, h2]
  · obtain ⟨b1, h1⟩ := h1; obtain ⟨b2, ad, e, hl⟩ := h2
    rw [← ha.at' _ b1] at h1; rw [← ha.at' _ b2] at e
    simp [results, h] at *; simp [h1, e, asAddr, hl]
  · obtain ⟨b1, ad, e, hl⟩ := h1; obtain ⟨b2, h2⟩ := h2
    rw [← ha.at' _ b1] at e; rw [← ha.at' _ b2] at h2
    simp [results, h] at *; simp [h2, e, asAddr, hl]
  · obtain ⟨b1, ad, e, hl⟩ := h1; obtain ⟨b2, ad2, e2, hl2⟩ := h2
    rw [← ha.at' _ b1] at e; rw [← ha.at' _ b2] at e2
    simp [results, h] at *; simp [e, e2, asAddr, hl, hl2]
end
theorem y_storeStc {P : Program} {ρ : Operand → Value} {o : Oper} {w : World} {R : Value → World → Prop} {ty t : TypeId} {x y : Operand} {p : Nat} {vs us : List Value} (hT : StcT P ty us.length) (ho : o.op = .store ty x y) (hx : ρ x = .pointer (some ⟨p, 0, none⟩)) (hy : ρ y = .agg us.toArray) (hB : Stc w p t vs) (hl : vs.length = us.length) (h1 : OneAll us)
    (h : ∀ w', Stc w' p t us → Kept (fun k => k = p) w w' → R undef w') : Yields P ρ o w R := by
  obtain ⟨d, _, _, hsz⟩ := hT
  exact y_store_row ty x y ho p _ us.toArray t hx hy hB (by simpa using hl) (by rw [List.size_toArray]; exact hsz) (all_oneCell_toArray h1) fun w' hw hk => h w' hw hk
section
variable {P : Program} {ρ : Operand → Value} {o : Oper} {w : World} {R : Value → World → Prop}
theorem y_shlR {t t' : TypeId} {k k' : IntKind} {x y : Operand} {m r : Int} (n : Nat) (ho : o.op = .binOp .shl t x y t') (hx : ρ x = .int k m) (hy : ρ y = .int k' (n : Int)) (hr : k.wrap (m * 2 ^ min n k.bits) = r) (h : R (.int k r) w) : Yields P ρ o w R :=
  y_of (v := .int k (k.wrap (m * 2 ^ min n k.bits))) (w' := w) (by
    have h0 : (0 : Int) ≤ (n : Int) := by omega
    simp only [execOp, ho, hx, hy, binOp_shl, shift_shl_any k k' m (n : Int) h0, Int.toNat_natCast, eqGuard]
    rfl) (by rw [hr]; exact h)
theorem y_andR {P : Program} {ρ : Operand → Value} {o : Oper} {w : World} {R : Value → World → Prop} {t t' : TypeId} {k : IntKind} {x y : Operand} {m n r : Int} (ho : o.op = .binOp .and t x y t') (hx : ρ x = .int k m) (hy : ρ y = .int k n) (hr : bits .and k m n = r) (h : R (.int k r) w) : Yields P ρ o w R :=
  y_of (v := .int k (bits .and k m n)) (w' := w) (by simp [execOp, ho, hx, hy, go_sem]) (by rw [hr]; exact h)
end
section
variable {P : Program} {ρ : Operand → Value} {o : Oper} {w : World} {R : Value → World → Prop}
theorem y_noNil {t t' : TypeId} {x y : Operand} {a : Addr} (ho : o.op = .binOp .eql t x y t') (hx : ρ x = .pointer (some a)) (hy : ρ y = .pointer none) {d : TypeId} (hu : P.underlying t = some (.pointer d)) (h : R (.bool false) w) : Yields P ρ o w R :=
  y_of (v := .bool false) (w' := w) (by
    have hq : P.underlying t = some (.pointer (P.pointee t)) := by simp [Program.pointee, hu]
    simp [execOp, ho, hx, hy, run_eql_pointer_nil w t (some a) hq, go_sem]) h
end
end Go.Proofs.YtknjpdcpmpfklaaGreatDoor
set_option maxRecDepth 100000
namespace Go.Proofs.YtknjpdcpmpfklaaGreatDoor
open Go.RowKit
def ScanIn (w : World) : Prop := BlkG w 2 ordB
theorem ScanIn.all {w w' : World} (h : ScanIn w) (k : Kept (fun _ => False) w w') : ScanIn w' := BlkG.all h k id
theorem ScanIn.but {w w' : World} {T : Nat → Prop} (h : ScanIn w) (k : Kept T w w') (ha : ∀ i, T i → 2 < i) : ScanIn w' := BlkG.all h k (fun x => absurd (ha _ x) (by decide))
theorem ScanIn.pos {w : World} (h : ScanIn w) : 2 < w.heap.size := BlkG.lt h
def Lvs (w : World) (T : Nat → Prop) (p : Nat) (b : Nat → Int) : Prop := T = onB p ∧ Blk w p 69 b
theorem Lvs.live {w : World} {T : Nat → Prop} {p : Nat} {b : Nat → Int} (h : Lvs w T p b) : Live w T := by
  obtain ⟨rfl, h⟩ := h; exact onB_live h.lt
theorem Lvs.all {S : Nat → Prop} {w w' : World} {T : Nat → Prop} {p : Nat} {b : Nat → Int} (h : Lvs w T p b) (k : Kept S w w') (ha : Apart T S) : Lvs w' T p b := by
  obtain ⟨rfl, h⟩ := h; exact ⟨rfl, h.all k (ha p rfl)⟩
theorem Lvs.cells {w : World} {T : Nat → Prop} {p : Nat} {b : Nat → Int} (h : Lvs w T p b) : Cells w T := by
  obtain ⟨rfl, h⟩ := h; exact h.cells
theorem Lvs.row {A B : World} {row : Option Nat} {n p : Nat} {T : Nat → Prop} {b : Nat → Int} (h : Lvs A T p b) (hg : A.grownBy B row) (hr : RowNew n A row) : Lvs B T p b := h.all (kept_row hg) (h.cells.apart hr)
section
variable {P : Program} {ρ : Operand → Value} {o : Oper} {w : World} {R : Value → World → Prop}
theorem y_clo {f : FuncId} {x : Operand} {v : Value} (ho : o.op = .makeFunc (.func f) #[] #[x]) (hx : ρ x = v) (h : R (.func (.func f) #[] #[v]) w) : Yields P ρ o w R :=
  y_of (v := .func (.func f) #[] #[v]) (w' := w) (by simp [execOp, ho, hx, show ∀ cap, (Instr.makeFunc (.func f) #[] cap).run P w = .ok (.func (.func f) #[] cap) w from fun _ => rfl]) h
end
theorem scan_clamped (n : Int) (w0 : World) :
  Calls Tryz.prog 133 #[.int .i64 (n)] w0 fun e w' => e = .returned (.int .i64 (cl 1048576 n)) ∧ Kept (fun _ => False) w0 w' := by
 refine calls_wq (args := [iv n]) 6 Tryz.func133 rfl rfl (Nat.le_of_ble_eq_true rfl) ?_
 have K0 := Kept.refl (fun _ => False) w0
 refine wq_seq (wq_region (wl_v (iv 0) rfl rfl (y_asg rfl rfl rr) (wl_nil fun F1 hF2 => ?_)))
 have s3 : F1 0 = iv n := (hF2 0).trans rfl
 have s4 : F1 6 = undef := (hF2 6).trans rfl
 clear hF2
 refine then_normal (wq_seq (wq_region (wl_mv rfl rfl rfl s3 (wl_v (iv (min n 1048576)) rfl rfl (y_minR rfl rfl rfl rfl rr) (wl_v (iv (cl 1048576 n)) rfl rfl (y_maxR rfl rfl rfl (by unfold cl; omega) rr) (wl_v (iv (cl 1048576 n)) rfl rfl (y_asg rfl rfl rr) (wl_nil fun F5 hF6 => ?_)))))))
 have s7 := (hF6 6).trans s4
 have s8 : F5 2 = iv (cl 1048576 n) := (hF6 2).trans rfl
 clear hF6
 refine then_normal (wq_ret ?_)
 exact end_tmp (v := iv (cl 1048576 n)) s7 rfl rfl s8 ⟨rfl, K0⟩
theorem kept_of_below {w w' : World} (h : Below w.heap.size w w') : Kept (fun _ => False) w w' := ⟨h.os, h.tape, h.output, h.size, fun k hk _ => h.block k hk⟩
end Go.Proofs.YtknjpdcpmpfklaaGreatDoor
set_option maxRecDepth 100000
namespace Go.Proofs.YtknjpdcpmpfklaaGreatDoor
open Go.ChangeShapes Go.WideShapes Go.ChangeAt Go.RowKit
theorem Tryz.gOrder : Tryz.prog.globalNamed "clapboard/scan.order" = some 2 := by kernel_rfl
theorem Tryz.tOrder : (Tryz.prog.globals[2]?).map (·.type) = some 68 := by kernel_rfl
theorem Tryz.c16o : Tryz.prog.cellsOf 68 = 16 := by kernel_rfl
theorem ints_many {W : World} {f : Nat} {t : TypeId} {n : Nat} {l : List Int} {cs : List Value} {p : List MemPlace} (hu : Tryz.prog.underlying t = some (.array n 3)) (hc : Tryz.prog.cellsOf t = n)
    (hd : DataW.trod (fun _ => ()) Tryz.prog W 0 (fun _ => true) false f t cs = some (.agg (l.map litI), p)) : cs.length = n := by
  obtain ⟨xs, m, rfl, hx, hl, hn, hel⟩ := DataW.trod_array hu hd
  rw [hc] at hl
  exact hl
theorem var_block {W : World} {n : String} {g : Nat} {cs : Array Value} (hg : Tryz.prog.globalNamed n = some g) (h : W.var? Tryz.prog n = some cs) : ∃ t f, W.heap[g]? = some (.cells cs t f) := by
  simp only [World.var?, hg, Option.bind_some] at h
  cases ho : W.heap[g]? with
  | none => simp [ho] at h
  | some o =>
    cases o <;> simp [ho] at h
    subst h; exact ⟨_, _, rfl⟩
theorem order_at {W : World} {f : Nat} {cs : Array Value} {p : List MemPlace} (hv : World.var? Tryz.prog W "clapboard/scan.order" = some cs)
    (hd : DataW.trod (fun _ => ()) Tryz.prog W 0 (fun _ => true) false f 68 cs.toList = some (Rows.laid_clapboard_scan_order, p)) : ScanIn W := by
  have key := ints_of (l := [0, 1, 4, 8, 5, 2, 3, 6, 9, 12, 13, 10, 7, 11, 14, 15]) Tryz.underlying68 Tryz.c16o hd
  have hlen := ints_many (l := [0, 1, 4, 8, 5, 2, 3, 6, 9, 12, 13, 10, 7, 11, 14, 15]) Tryz.underlying68 Tryz.c16o hd
  obtain ⟨t, fz, hb⟩ := var_block Tryz.gOrder hv
  have e : cs = (arrL 16 ordB).toArray := by
    apply Array.ext'
    apply List.ext_getElem?
    intro i
    by_cases hi : i < 16
    · rw [key i hi]
      show _ = (arrL 16 ordB)[i]?
      rw [arrL_at hi]
      have e2 : ∀ i, i < 16 → ([0, 1, 4, 8, 5, 2, 3, 6, 9, 12, 13, 10, 7, 11, 14, 15] : List Int).getD i 0 = ordB i := by decide
      rw [e2 i hi]
    · rw [List.getElem?_eq_none (by omega)]
      show _ = (arrL 16 ordB)[i]?
      rw [List.getElem?_eq_none (by rw [arrL_length]; omega)]
  rw [e] at hb
  exact ⟨t, fz, hb⟩
end Go.Proofs.YtknjpdcpmpfklaaGreatDoor
set_option maxRecDepth 100000
namespace Go.Proofs.YtknjpdcpmpfklaaGreatDoor
def Short (c : Nat) (bs : List Bool) : Prop := bs.length ≤ c
theorem Short.nil : Short 0 [] := Nat.le_refl _
theorem Short.signed {c : Nat} {bs : List Bool} (h : Short c bs) (n : Int) : Short (c + 63) (bs ++ signedBits n) := by
  have h1 := signedBits_short n
  unfold Short at *; rw [List.length_append]; omega
theorem Short.scan {c : Nat} {bs : List Bool} (h : Short c bs) (b : Nat → Int) : Short (c + 2079) (bs ++ scanBits b) := by
  have h1 := scanBits_length b
  unfold Short at *; rw [List.length_append]; omega
theorem Short.fits {c : Nat} {bs : List Bool} (h : Short c bs) (hc : c < 1099511627776) : bs.length < 1099511627776 := by
  unfold Short at h; omega
theorem Short.bytes {c : Nat} {bs : List Bool} (h : Short c bs) (hc : c + 8 < 1099511627776) : (pack bs).length < 1099511627776 := by
  unfold Short at h; rw [pack_length]; unfold nbytes; omega
end Go.Proofs.YtknjpdcpmpfklaaGreatDoor
set_option maxRecDepth 100000
namespace Go.Proofs.YtknjpdcpmpfklaaGreatDoor
structure FD where
  W : Int
  H : Int
  p0 : List Nat
  p1 : List Nat
  p2 : List Nat
def FD.none : FD := ⟨0, 0, [], [], []⟩
def FD.pl (f : FD) (p : Int) : List Nat := if p = 0 then f.p0 else if p = 1 then f.p1 else f.p2
def sideB (n : Int) : Bool := decide (8 ≤ n) && decide (n ≤ 64) && decide (Int.tmod n 8 = 0)
theorem sideB_iff (n : Int) : sideB n = true ↔ 8 ≤ n ∧ n ≤ 64 ∧ n % 8 = 0 := by
  unfold sideB
  simp only [Bool.and_eq_true, decide_eq_true_eq]
  constructor
  · rintro ⟨⟨h1, h2⟩, h3⟩; rw [Int.tmod_eq_emod_of_nonneg (by omega)] at h3; exact ⟨h1, h2, h3⟩
  · rintro ⟨h1, h2, h3⟩; refine ⟨⟨h1, h2⟩, ?_⟩; rw [Int.tmod_eq_emod_of_nonneg (by omega)]; exact h3
theorem sideB_low {n : Int} (h : ¬ 8 ≤ n) : sideB n = false := by unfold sideB; simp [h]
theorem sideB_high {n : Int} (h : ¬ n ≤ 64) : sideB n = false := by unfold sideB; simp [h]
theorem sideB_mid {n : Int} (h1 : 8 ≤ n) (h2 : n ≤ 64) : sideB n = decide (Int.tmod n 8 = 0) := by unfold sideB; simp [h1, h2]
theorem area_bounds {w h : Int} (hw : sideB w = true) (hh : sideB h = true) : 64 ≤ w * h ∧ w * h ≤ 4096 := by
  rw [sideB_iff] at hw hh
  have h1 : 8 * 8 ≤ w * h := Int.mul_le_mul hw.1 hh.1 (by omega) (by omega)
  have h2 : w * h ≤ 64 * 64 := Int.mul_le_mul hw.2.1 hh.2.1 (by omega) (by omega)
  omega
theorem quo_nat (q n : Nat) : Int.tdiv (q : Int) (n : Int) = ((q / n : Nat) : Int) := by rw [Int.tdiv_eq_ediv_of_nonneg (by omega)]; rfl
theorem rem_nat (q n : Nat) : Int.tmod (q : Int) (n : Int) = ((q % n : Nat) : Int) := by rw [Int.tmod_eq_emod_of_nonneg (by omega)]; rfl
theorem tdiv2 {n : Int} (h : 0 ≤ n) : Int.tdiv n 2 = n / 2 := Int.tdiv_eq_ediv_of_nonneg h
theorem tdiv4 {n : Int} (h : 0 ≤ n) : Int.tdiv n 4 = n / 4 := Int.tdiv_eq_ediv_of_nonneg h
def okF (f : FD) : Prop := sideB f.W = true ∧ sideB f.H = true ∧ (f.p0.length : Int) = f.W * f.H ∧ (f.p1.length : Int) = Int.tdiv (f.W * f.H) 4 ∧ (f.p2.length : Int) = Int.tdiv (f.W * f.H) 4
instance (f : FD) : Decidable (okF f) := by unfold okF; infer_instance
theorem ok_lens {f : FD} (h : okF f) : f.p0.length ≤ 4096 ∧ f.p1.length ≤ 1024 ∧ f.p2.length ≤ 1024 := by
  obtain ⟨h1, h2, h3, h4, h5⟩ := h
  have ha := area_bounds h1 h2
  rw [tdiv4 (by omega)] at h4 h5
  omega
def checkE (f : FD) : Int := if okF f then 0 else 70
theorem checkE_ok {f : FD} (h : okF f) : checkE f = 0 := if_pos h
theorem checkE_no {f : FD} (h : ¬ okF f) : checkE f = 70 := if_neg h
theorem checkE_iff (f : FD) : checkE f = 0 ↔ okF f := by
  unfold checkE; split <;> simp_all
def sizeF (f : FD) (p : Int) : Int × Int := if okF f ∧ 0 ≤ p ∧ p ≤ 2 then (if p = 0 then (f.W, f.H) else (Int.tdiv f.W 2, Int.tdiv f.H 2)) else (0, 0)
theorem sizeF_no {f : FD} {p : Int} (h : ¬ (okF f ∧ 0 ≤ p ∧ p ≤ 2)) : sizeF f p = (0, 0) := if_neg h
theorem sizeF_first {f : FD} {p : Int} (h : okF f) (hp : p = 0) : sizeF f p = (f.W, f.H) := by
  unfold sizeF; rw [if_pos ⟨h, by omega, by omega⟩, if_pos hp]
theorem sizeF_other {f : FD} {p : Int} (h : okF f) (h0 : 0 ≤ p) (h2 : p ≤ 2) (hp : ¬ p = 0) : sizeF f p = (Int.tdiv f.W 2, Int.tdiv f.H 2) := by
  unfold sizeF; rw [if_pos ⟨h, h0, h2⟩, if_neg hp]
theorem size_some {f : FD} {p : Int} (h : (sizeF f p).1 ≠ 0) : okF f ∧ 0 ≤ p ∧ p ≤ 2 := by
  unfold sizeF at h
  split at h
  · assumption
  · exact absurd rfl h
theorem size_cases {f : FD} {p : Int} (h : (sizeF f p).1 ≠ 0) : p = 0 ∨ p = 1 ∨ p = 2 := by
  have := size_some h; omega
theorem size_bounds (f : FD) (p : Int) : 0 ≤ (sizeF f p).1 ∧ (sizeF f p).1 ≤ 64 ∧ 0 ≤ (sizeF f p).2 ∧ (sizeF f p).2 ≤ 64 := by
  by_cases h : okF f ∧ 0 ≤ p ∧ p ≤ 2
  · have hw := (sideB_iff _).1 h.1.1
    have hh := (sideB_iff _).1 h.1.2.1
    unfold sizeF; rw [if_pos h]
    split
    · simp only; omega
    · simp only; rw [tdiv2 (by omega), tdiv2 (by omega)]; omega
  · rw [sizeF_no h]; simp
theorem size_pos {f : FD} {p : Int} (h : okF f ∧ 0 ≤ p ∧ p ≤ 2) : 4 ≤ (sizeF f p).1 ∧ 4 ≤ (sizeF f p).2 ∧ (sizeF f p).1 * (sizeF f p).2 = ((f.pl p).length : Int) := by
  have hw := (sideB_iff _).1 h.1.1
  have hh := (sideB_iff _).1 h.1.2.1
  obtain ⟨⟨hs1, hs2, h0, h1, h2⟩, hp0, hp2⟩ := h
  have ha := area_bounds hs1 hs2
  unfold sizeF; rw [if_pos ⟨⟨hs1, hs2, h0, h1, h2⟩, hp0, hp2⟩]
  by_cases hp : p = 0
  · rw [if_pos hp]; unfold FD.pl; rw [if_pos hp]
    simp only
    exact ⟨by omega, by omega, h0.symm⟩
  · rw [if_neg hp]
    have hl : ((f.pl p).length : Int) = Int.tdiv (f.W * f.H) 4 := by
      unfold FD.pl; rw [if_neg hp]; split
      · exact h1
      · exact h2
    simp only
    rw [tdiv2 (by omega), tdiv2 (by omega), hl, tdiv4 (by omega)]
    refine ⟨by omega, by omega, ?_⟩
    obtain ⟨a, hA⟩ : ∃ a, f.W = 2 * a := ⟨f.W / 2, by omega⟩
    obtain ⟨b, hB⟩ : ∃ b, f.H = 2 * b := ⟨f.H / 2, by omega⟩
    rw [hA, hB, show 2 * a / 2 = a by omega, show 2 * b / 2 = b by omega, show 2 * a * (2 * b) = 4 * (a * b) by rw [Int.mul_assoc, Int.mul_left_comm a 2 b, ← Int.mul_assoc]; rfl]
    omega
def cellF (f : FD) (p x y : Int) : Int := min (max y 0) ((sizeF f p).2 - 1) * (sizeF f p).1 + min (max x 0) ((sizeF f p).1 - 1)
theorem cell_in {w h x y : Int} (hw : 1 ≤ w) (hx : 0 ≤ x) (hx2 : x ≤ w - 1) (hy : 0 ≤ y) (hy2 : y ≤ h - 1) : 0 ≤ y * w ∧ 0 ≤ y * w + x ∧ y * w + x < w * h := by
  have h1 : 0 ≤ y * w := Int.mul_nonneg hy (by omega)
  have h2 : y * w ≤ (h - 1) * w := Int.mul_le_mul_of_nonneg_right hy2 (by omega)
  have h3 : (h - 1) * w = w * h - w := by rw [Int.sub_mul, Int.one_mul, Int.mul_comm]
  omega
theorem cell_bounds {f : FD} {p : Int} (x y : Int) (h : (sizeF f p).1 ≠ 0) : 0 ≤ min (max y 0) ((sizeF f p).2 - 1) * (sizeF f p).1 ∧ min (max y 0) ((sizeF f p).2 - 1) * (sizeF f p).1 ≤ 4096 ∧ 0 ≤ cellF f p x y ∧ cellF f p x y < ((f.pl p).length : Int) ∧ cellF f p x y ≤ 8192 := by
  have hs := size_some h
  obtain ⟨h1, h2, h3⟩ := size_pos hs
  have hb := size_bounds f p
  unfold cellF
  have hc := cell_in (w := (sizeF f p).1) (h := (sizeF f p).2) (x := min (max x 0) ((sizeF f p).1 - 1)) (y := min (max y 0) ((sizeF f p).2 - 1)) (by omega) (by omega) (by omega) (by omega) (by omega)
  have h4 : (sizeF f p).1 * (sizeF f p).2 ≤ 64 * 64 := Int.mul_le_mul hb.2.1 hb.2.2.2 hb.2.2.1 (by omega)
  rw [h3] at hc
  omega
def atF (f : FD) (p x y : Int) : Int := if (sizeF f p).1 = 0 then 0 else (((f.pl p).getD (cellF f p x y).toNat 0 : Nat) : Int)
theorem atF_none {f : FD} {p : Int} (x y : Int) (h : (sizeF f p).1 = 0) : atF f p x y = 0 := if_pos h
theorem atF_some {f : FD} {p : Int} (x y : Int) (h : (sizeF f p).1 ≠ 0) : atF f p x y = (((f.pl p).getD (cellF f p x y).toNat 0 : Nat) : Int) := if_neg h
def nearI (n : Int) : Int := min (max n (-64)) 128
theorem near_bounds (n : Int) : -64 ≤ nearI n ∧ nearI n ≤ 128 := by unfold nearI; omega
end Go.Proofs.YtknjpdcpmpfklaaGreatDoor
set_option maxRecDepth 100000
namespace Go.Proofs.YtknjpdcpmpfklaaGreatDoor
def sameT (l m : List Nat) : Bool := (textOf l).toList == (textOf m).toList
def sameF (a b : FD) : Bool := decide (a.W = b.W) && decide (a.H = b.H) && (sameT a.p0 b.p0 && sameT a.p1 b.p1 && sameT a.p2 b.p2)
theorem sameF_0 {a b : FD} (h : ((textOf a.p0).toList == (textOf b.p0).toList) = false) : sameF a b = false := by unfold sameF sameT; rw [h]; simp
theorem sameF_1 {a b : FD} (h : ((textOf a.p1).toList == (textOf b.p1).toList) = false) : sameF a b = false := by unfold sameF sameT; rw [h]; simp
theorem sameF_W {a b : FD} (h : ¬ a.W = b.W) : sameF a b = false := by unfold sameF; simp [h]
theorem sameF_H {a b : FD} (h : ¬ a.H = b.H) : sameF a b = false := by unfold sameF; simp [h]
theorem sameF_2 {a b : FD} (h0 : ((textOf a.p0).toList == (textOf b.p0).toList) = true) (h1 : ((textOf a.p1).toList == (textOf b.p1).toList) = true) (hw : a.W = b.W) (hh : a.H = b.H) : sameF a b = ((textOf a.p2).toList == (textOf b.p2).toList) := by
  unfold sameF sameT; rw [h0, h1]; simp [hw, hh]
def alikeF (a b : FD) : Prop := okF a ∧ okF b ∧ a.W = b.W ∧ a.H = b.H
instance (a b : FD) : Decidable (alikeF a b) := by unfold alikeF; infer_instance
def copyF (f : FD) : FD := if okF f then f else FD.none
theorem copyF_yes {f : FD} (h : okF f) : copyF f = f := if_pos h
theorem copyF_no {f : FD} (h : ¬ okF f) : copyF f = FD.none := if_neg h
def FD.setp (f : FD) (p : Int) (j n : Nat) : FD := if p = 0 then { f with p0 := f.p0.set j n } else if p = 1 then { f with p1 := f.p1.set j n } else { f with p2 := f.p2.set j n }
def byteI (n : Int) : Nat := (min (max n 0) 255).toNat
theorem byteI_lt (n : Int) : byteI n < 256 := by unfold byteI; omega
def within (w h u v : Int) : Prop := 0 ≤ u ∧ u < w ∧ 0 ≤ v ∧ v < h
instance (w h u v : Int) : Decidable (within w h u v) := by unfold within; infer_instance
def putTo (f : FD) (p x y : Int) (b : Nat → Int) : Nat → FD
  | 0 => copyF f
  | k + 1 => if within (sizeF f p).1 (sizeF f p).2 (nearI x + ((k % 4 : Nat) : Int)) (nearI y + ((k / 4 : Nat) : Int)) then
      (putTo f p x y b k).setp p ((nearI y + ((k / 4 : Nat) : Int)) * (sizeF f p).1 + (nearI x + ((k % 4 : Nat) : Int))).toNat (byteI (b k))
    else putTo f p x y b k
def putFr (f : FD) (p x y : Int) (b : Nat → Int) : FD := putTo f p x y b 16
theorem put_out {f : FD} {p x y : Int} {b : Nat → Int} {k : Nat} (h : ¬ within (sizeF f p).1 (sizeF f p).2 (nearI x + ((k % 4 : Nat) : Int)) (nearI y + ((k / 4 : Nat) : Int))) : putTo f p x y b (k + 1) = putTo f p x y b k := by rw [putTo, if_neg h]
theorem put_in {f : FD} {p x y : Int} {b : Nat → Int} {k : Nat} (h : within (sizeF f p).1 (sizeF f p).2 (nearI x + ((k % 4 : Nat) : Int)) (nearI y + ((k / 4 : Nat) : Int))) :
    putTo f p x y b (k + 1) = (putTo f p x y b k).setp p ((nearI y + ((k / 4 : Nat) : Int)) * (sizeF f p).1 + (nearI x + ((k % 4 : Nat) : Int))).toNat (byteI (b k)) := by rw [putTo, if_pos h]
theorem setp_side (f : FD) (p : Int) (j n : Nat) : (f.setp p j n).W = f.W ∧ (f.setp p j n).H = f.H ∧ (f.setp p j n).p0.length = f.p0.length ∧ (f.setp p j n).p1.length = f.p1.length ∧ (f.setp p j n).p2.length = f.p2.length := by
  unfold FD.setp
  split
  · simp
  · split <;> simp
theorem put_side (f : FD) (p x y : Int) (b : Nat → Int) (k : Nat) : (putTo f p x y b k).W = (copyF f).W ∧ (putTo f p x y b k).H = (copyF f).H ∧ (putTo f p x y b k).p0.length = (copyF f).p0.length ∧ (putTo f p x y b k).p1.length = (copyF f).p1.length ∧ (putTo f p x y b k).p2.length = (copyF f).p2.length := by
  induction k with
  | zero => simp [putTo]
  | succ k ih =>
    rw [putTo]
    split
    · have h := setp_side (putTo f p x y b k) p ((nearI y + ((k / 4 : Nat) : Int)) * (sizeF f p).1 + (nearI x + ((k % 4 : Nat) : Int))).toNat (byteI (b k))
      omega
    · exact ih
theorem put_lens {f : FD} {p : Int} (x y : Int) (b : Nat → Int) (k : Nat) (h : (sizeF f p).1 ≠ 0) : (putTo f p x y b k).p0.length = f.p0.length ∧ (putTo f p x y b k).p1.length = f.p1.length ∧ (putTo f p x y b k).p2.length = f.p2.length := by
  have h1 := put_side f p x y b k
  rw [copyF_yes (size_some h).1] at h1
  exact h1.2.2
theorem within_cell {f : FD} {p u v : Int} (h : within (sizeF f p).1 (sizeF f p).2 u v) : (sizeF f p).1 ≠ 0 ∧ 0 ≤ v * (sizeF f p).1 ∧ v * (sizeF f p).1 ≤ 4096 ∧ 0 ≤ v * (sizeF f p).1 + u ∧ v * (sizeF f p).1 + u < ((f.pl p).length : Int) := by
  obtain ⟨h1, h2, h3, h4⟩ := h
  have hne : (sizeF f p).1 ≠ 0 := by omega
  obtain ⟨_, _, hl⟩ := size_pos (size_some hne)
  have hb := size_bounds f p
  have hc := cell_in (w := (sizeF f p).1) (h := (sizeF f p).2) (x := u) (y := v) (by omega) (by omega) (by omega) (by omega) (by omega)
  have h5 : (sizeF f p).1 * (sizeF f p).2 ≤ 64 * 64 := Int.mul_le_mul hb.2.1 hb.2.2.2 hb.2.2.1 (by omega)
  rw [hl] at hc h5
  exact ⟨hne, by omega, by omega, by omega, by omega⟩
def pn (n : Nat) : Nat → Nat
  | 0 => n
  | _ => n / 4
end Go.Proofs.YtknjpdcpmpfklaaGreatDoor
set_option maxRecDepth 100000
namespace Go.Proofs.YtknjpdcpmpfklaaGreatDoor
theorem FD.eq {a b : FD} (h1 : a.W = b.W) (h2 : a.H = b.H) (h3 : a.p0 = b.p0) (h4 : a.p1 = b.p1) (h5 : a.p2 = b.p2) : a = b := by
  cases a; cases b; simp only at *; subst h1; subst h2; subst h3; subst h4; subst h5; rfl
theorem ok_of {f g : FD} (h : okF f) (hw : g.W = f.W) (hh : g.H = f.H) (h0 : g.p0.length = f.p0.length) (h1 : g.p1.length = f.p1.length) (h2 : g.p2.length = f.p2.length) : okF g := by
  obtain ⟨a, b, c, d, e⟩ := h
  exact ⟨by rw [hw]; exact a, by rw [hh]; exact b, by rw [hw, hh, h0]; exact c, by rw [hw, hh, h1]; exact d, by rw [hw, hh, h2]; exact e⟩
theorem put_ok {f : FD} (h : okF f) (p x y : Int) (b : Nat → Int) (k : Nat) : okF (putTo f p x y b k) := by
  obtain ⟨a1, a2, a3, a4, a5⟩ := put_side f p x y b k
  rw [copyF_yes h] at a1 a2 a3 a4 a5
  exact ok_of h a1 a2 a3 a4 a5
theorem getD_set (l : List Nat) (i q x : Nat) : (l.set i x).getD q 0 = if i = q ∧ q < l.length then x else l.getD q 0 := by
  by_cases h : i = q
  · subst h
    by_cases hl : i < l.length
    · rw [if_pos ⟨rfl, hl⟩]; simp [List.getD, hl]
    · rw [if_neg (fun h => hl h.2)]; simp [List.getD, hl]
  · rw [if_neg (fun e => h e.1)]; simp [List.getD, List.getElem?_set_ne h]
structure Inside (f : FD) (k x y : Int) : Prop where
  ok : okF f
  k0 : 0 ≤ k
  k2 : k ≤ 2
  x0 : 0 ≤ x
  x1 : x + 4 ≤ (sizeF f k).1
  y0 : 0 ≤ y
  y1 : y + 4 ≤ (sizeF f k).2
def jAt (f : FD) (k x y : Int) (i : Nat) : Nat := ((y + ((i / 4 : Nat) : Int)) * (sizeF f k).1 + (x + ((i % 4 : Nat) : Int))).toNat
theorem Inside.within {f : FD} {k x y : Int} (h : Inside f k x y) (i : Nat) (hi : i < 16) : within (sizeF f k).1 (sizeF f k).2 (x + ((i % 4 : Nat) : Int)) (y + ((i / 4 : Nat) : Int)) := by
  have h1 := h.x0; have h2 := h.x1; have h3 := h.y0; have h4 := h.y1
  exact ⟨by omega, by omega, by omega, by omega⟩
theorem Inside.lt {f : FD} {k x y : Int} (h : Inside f k x y) (i : Nat) (hi : i < 16) : jAt f k x y i < (f.pl k).length := by
  have := within_cell (h.within i hi)
  unfold jAt; omega
theorem Inside.inj {f : FD} {k x y : Int} (h : Inside f k x y) (i i' : Nat) (hi : i < 16) (hi' : i' < 16) (e : jAt f k x y i = jAt f k x y i') : i = i' := by
  have w1 := within_cell (h.within i hi)
  have w2 := within_cell (h.within i' hi')
  have hx1 := h.x1; have hx0 := h.x0
  unfold jAt at e
  have e2 : (y + ((i / 4 : Nat) : Int)) * (sizeF f k).1 + (x + ((i % 4 : Nat) : Int)) = (y + ((i' / 4 : Nat) : Int)) * (sizeF f k).1 + (x + ((i' % 4 : Nat) : Int)) := by omega
  rw [Int.add_mul, Int.add_mul] at e2
  have hw : 4 ≤ (sizeF f k).1 := by omega
  generalize (sizeF f k).1 = w at *
  have hq : i / 4 = i' / 4 := by
    by_cases hlt : i / 4 < i' / 4
    · have : ((i / 4 : Nat) : Int) * w + w ≤ ((i' / 4 : Nat) : Int) * w := by
        have h5 : (((i / 4 : Nat) : Int) + 1) * w ≤ ((i' / 4 : Nat) : Int) * w := Int.mul_le_mul_of_nonneg_right (by omega) (by omega)
        rw [Int.add_mul, Int.one_mul] at h5; exact h5
      omega
    · by_cases hgt : i' / 4 < i / 4
      · have : ((i' / 4 : Nat) : Int) * w + w ≤ ((i / 4 : Nat) : Int) * w := by
          have h5 : (((i' / 4 : Nat) : Int) + 1) * w ≤ ((i / 4 : Nat) : Int) * w := Int.mul_le_mul_of_nonneg_right (by omega) (by omega)
          rw [Int.add_mul, Int.one_mul] at h5; exact h5
        omega
      · omega
  rw [hq] at e2
  omega
theorem setp_pl (f : FD) (p : Int) (j n : Nat) (hp : 0 ≤ p) (hp2 : p ≤ 2) : (f.setp p j n).pl p = (f.pl p).set j n ∧ ∀ q, 0 ≤ q → q ≤ 2 → q ≠ p → (f.setp p j n).pl q = f.pl q := by
  have h3 : p = 0 ∨ p = 1 ∨ p = 2 := by omega
  have hq3 : ∀ q : Int, 0 ≤ q → q ≤ 2 → q = 0 ∨ q = 1 ∨ q = 2 := by omega
  rcases h3 with rfl | rfl | rfl
  · refine ⟨rfl, fun q h1 h2 h3 => ?_⟩
    rcases hq3 q h1 h2 with rfl | rfl | rfl
    · exact absurd rfl h3
    · rfl
    · rfl
  · refine ⟨rfl, fun q h1 h2 h3 => ?_⟩
    rcases hq3 q h1 h2 with rfl | rfl | rfl
    · rfl
    · exact absurd rfl h3
    · rfl
  · refine ⟨rfl, fun q h1 h2 h3 => ?_⟩
    rcases hq3 q h1 h2 with rfl | rfl | rfl
    · rfl
    · rfl
    · exact absurd rfl h3
end Go.Proofs.YtknjpdcpmpfklaaGreatDoor
set_option maxRecDepth 100000
namespace Go.Proofs.YtknjpdcpmpfklaaGreatDoor
structure Bytes3 (f : FD) : Prop where
  b0 : ∀ x ∈ f.p0, x < 256
  b1 : ∀ x ∈ f.p1, x < 256
  b2 : ∀ x ∈ f.p2, x < 256
end Go.Proofs.YtknjpdcpmpfklaaGreatDoor
set_option maxRecDepth 100000
namespace Go.Proofs.YtknjpdcpmpfklaaGreatDoor
def newF (w h : Int) (s : Nat) : FD := if sideB w = true ∧ sideB h = true then ⟨w, h, List.replicate (w * h).toNat s, List.replicate (w * h / 4).toNat s, List.replicate (w * h / 4).toNat s⟩ else FD.none
def newE (w h : Int) : Int := if sideB w = true ∧ sideB h = true then 0 else 70
theorem newF_yes {w h : Int} (s : Nat) (hw : sideB w = true) (hh : sideB h = true) : newF w h s = ⟨w, h, List.replicate (w * h).toNat s, List.replicate (w * h / 4).toNat s, List.replicate (w * h / 4).toNat s⟩ := if_pos ⟨hw, hh⟩
theorem newF_no {w h : Int} (s : Nat) (hn : ¬ (sideB w = true ∧ sideB h = true)) : newF w h s = FD.none := if_neg hn
theorem newE_yes {w h : Int} (hw : sideB w = true) (hh : sideB h = true) : newE w h = 0 := if_pos ⟨hw, hh⟩
theorem newE_no {w h : Int} (hn : ¬ (sideB w = true ∧ sideB h = true)) : newE w h = 70 := if_neg hn
theorem new_ok {w h : Int} (s : Nat) (hw : sideB w = true) (hh : sideB h = true) : okF (newF w h s) := by
  rw [newF_yes s hw hh]
  have ha := area_bounds hw hh
  refine ⟨hw, hh, ?_, ?_, ?_⟩
  · simp only [List.length_replicate]; omega
  · simp only [List.length_replicate]; rw [tdiv4 (by omega)]; omega
  · simp only [List.length_replicate]; rw [tdiv4 (by omega)]; omega
end Go.Proofs.YtknjpdcpmpfklaaGreatDoor
set_option maxRecDepth 100000
namespace Go.Proofs.YtknjpdcpmpfklaaGreatDoor
theorem atF_le {f : FD} (hb : Bytes3 f) (p x y : Int) : 0 ≤ atF f p x y ∧ atF f p x y ≤ 255 := by
  by_cases h : (sizeF f p).1 = 0
  · rw [atF_none x y h]; omega
  · rw [atF_some x y h]
    have h3 := size_cases h
    have : (f.pl p).getD (cellF f p x y).toNat 0 < 256 := by
      rcases h3 with rfl | rfl | rfl
      · exact getD_lt hb.b0 _
      · exact getD_lt hb.b1 _
      · exact getD_lt hb.b2 _
    omega
def aboveF (f : FD) (p x y k : Int) : Int := if y ≤ 0 then 128 else atF f p (x + k) (y - 1)
def leftF (f : FD) (p x y i : Int) : Int := if x ≤ 0 then 128 else atF f p (x - 1) (y + i)
theorem above_le {f : FD} (hb : Bytes3 f) (p x y k : Int) : 0 ≤ aboveF f p x y k ∧ aboveF f p x y k ≤ 255 := by
  unfold aboveF; split
  · omega
  · exact atF_le hb _ _ _
theorem left_le {f : FD} (hb : Bytes3 f) (p x y k : Int) : 0 ≤ leftF f p x y k ∧ leftF f p x y k ≤ 255 := by
  unfold leftF; split
  · omega
  · exact atF_le hb _ _ _
def sumTo (f : FD) (p x y : Int) : Nat → Int
  | 0 => 4
  | k + 1 => sumTo f p x y k + aboveF f p x y (k : Nat) + leftF f p x y (k : Nat)
def predN (f : FD) (p x y mode : Int) (n : Nat) : Int :=
  if mode = 0 then Int.tdiv (sumTo f p x y 4) 8 else if mode = 1 then aboveF f p x y ((n % 4 : Nat) : Int) else if mode = 2 then leftF f p x y ((n / 4 : Nat) : Int)
  else Int.tdiv (aboveF f p x y ((n % 4 : Nat) : Int) + leftF f p x y ((n / 4 : Nat) : Int) + 1) 2
theorem tdiv8 {n : Int} (h : 0 ≤ n) : Int.tdiv n 8 = n / 8 := Int.tdiv_eq_ediv_of_nonneg h
def placeF (f : FD) (p x y : Int) : Prop := okF f ∧ 0 ≤ p ∧ p ≤ 2 ∧ 0 ≤ x ∧ x ≤ 64 ∧ 0 ≤ y ∧ y ≤ 64
instance (f : FD) (p x y : Int) : Decidable (placeF f p x y) := by unfold placeF; infer_instance
def predE (f : FD) (p x y mode : Int) : Int := if placeF f p x y then (if 0 ≤ mode ∧ mode ≤ 3 then 0 else 80) else 70
def predB (f : FD) (p x y mode : Int) : Nat → Int := if placeF f p x y ∧ 0 ≤ mode ∧ mode ≤ 3 then predN f p x y mode else fun _ => 0
theorem pred_no {f : FD} {p x y mode : Int} (h : ¬ placeF f p x y) : predE f p x y mode = 70 ∧ predB f p x y mode = fun _ => 0 := ⟨if_neg h, if_neg (fun x => h x.1)⟩
theorem pred_none {f : FD} {p x y mode : Int} (h : placeF f p x y) (hm : ¬ (0 ≤ mode ∧ mode ≤ 3)) : predE f p x y mode = 80 ∧ predB f p x y mode = fun _ => 0 := by
  refine ⟨?_, if_neg (fun x => hm x.2)⟩
  unfold predE; rw [if_pos h, if_neg hm]
theorem pred_yes {f : FD} {p x y mode : Int} (h : placeF f p x y) (hm : 0 ≤ mode ∧ mode ≤ 3) : predE f p x y mode = 0 ∧ predB f p x y mode = predN f p x y mode := by
  refine ⟨?_, if_pos ⟨h, hm⟩⟩
  unfold predE; rw [if_pos h, if_pos hm]
end Go.Proofs.YtknjpdcpmpfklaaGreatDoor
set_option maxRecDepth 100000
namespace Go.Proofs.YtknjpdcpmpfklaaGreatDoor
def mid (f : FD) (p u v : Int) : Int :=
  if u % 2 = 0 ∧ v % 2 = 0 then atF f p (u / 2) (v / 2)
  else if v % 2 = 0 then (atF f p (u / 2) (v / 2) + atF f p ((u + 1) / 2) (v / 2) + 1) / 2
  else if u % 2 = 0 then (atF f p (u / 2) (v / 2) + atF f p (u / 2) ((v + 1) / 2) + 1) / 2
  else (atF f p (u / 2) (v / 2) + atF f p ((u + 1) / 2) (v / 2) + atF f p (u / 2) ((v + 1) / 2) + atF f p ((u + 1) / 2) ((v + 1) / 2) + 2) / 4
def c256 (n : Int) : Int := min (max n (-256)) 256
def smpF (f : FD) (p x y : Int) : Int := mid f p (c256 x) (c256 y)
theorem mid_both {f : FD} {p u v : Int} (h1 : u % 2 = 0) (h2 : v % 2 = 0) : mid f p u v = atF f p (u / 2) (v / 2) := by unfold mid; rw [if_pos ⟨h1, h2⟩]
theorem mid_side {f : FD} {p u v : Int} (h1 : ¬ u % 2 = 0) (h2 : v % 2 = 0) : mid f p u v = (atF f p (u / 2) (v / 2) + atF f p ((u + 1) / 2) (v / 2) + 1) / 2 := by
  unfold mid; rw [if_neg (fun h => h1 h.1), if_pos h2]
theorem mid_down {f : FD} {p u v : Int} (h1 : u % 2 = 0) (h2 : ¬ v % 2 = 0) : mid f p u v = (atF f p (u / 2) (v / 2) + atF f p (u / 2) ((v + 1) / 2) + 1) / 2 := by
  unfold mid; rw [if_neg (fun h => h2 h.2), if_neg h2, if_pos h1]
theorem mid_none {f : FD} {p u v : Int} (h1 : ¬ u % 2 = 0) (h2 : ¬ v % 2 = 0) : mid f p u v = (atF f p (u / 2) (v / 2) + atF f p ((u + 1) / 2) (v / 2) + atF f p (u / 2) ((v + 1) / 2) + atF f p ((u + 1) / 2) ((v + 1) / 2) + 2) / 4 := by
  unfold mid; rw [if_neg (fun h => h1 h.1), if_neg h2, if_neg h1]
def vecOk (X Y : Int) : Prop := -31 ≤ X ∧ X ≤ 31 ∧ -31 ≤ Y ∧ Y ≤ 31
instance (X Y : Int) : Decidable (vecOk X Y) := by unfold vecOk; infer_instance
def vecE (X Y : Int) : Int := if vecOk X Y then 0 else 90
theorem vecE_yes {X Y : Int} (h : vecOk X Y) : vecE X Y = 0 := if_pos h
theorem vecE_no {X Y : Int} (h : ¬ vecOk X Y) : vecE X Y = 90 := if_neg h
theorem vecE_iff (X Y : Int) : vecE X Y = 0 ↔ vecOk X Y := by unfold vecE; split <;> simp_all
def mvN (f : FD) (p x y X Y : Int) (n : Nat) : Int := smpF f p (2 * (x + ((n % 4 : Nat) : Int)) + X) (2 * (y + ((n / 4 : Nat) : Int)) + Y)
def mvE (f : FD) (p x y X Y : Int) : Int := if placeF f p x y then vecE X Y else 70
def mvB (f : FD) (p x y X Y : Int) : Nat → Int := if placeF f p x y ∧ vecOk X Y then mvN f p x y X Y else fun _ => 0
theorem mv_no {f : FD} {p x y X Y : Int} (h : ¬ placeF f p x y) : mvE f p x y X Y = 70 ∧ mvB f p x y X Y = fun _ => 0 := ⟨if_neg h, if_neg (fun x => h x.1)⟩
theorem mv_none {f : FD} {p x y X Y : Int} (h : placeF f p x y) (hv : ¬ vecOk X Y) : mvE f p x y X Y = 90 ∧ mvB f p x y X Y = fun _ => 0 :=
  ⟨by unfold mvE; rw [if_pos h, vecE_no hv], if_neg (fun x => hv x.2)⟩
theorem mv_yes {f : FD} {p x y X Y : Int} (h : placeF f p x y) (hv : vecOk X Y) : mvE f p x y X Y = 0 ∧ mvB f p x y X Y = mvN f p x y X Y :=
  ⟨by unfold mvE; rw [if_pos h, vecE_yes hv], if_pos ⟨h, hv⟩⟩
def c8 (n : Int) : Int := min (max n 0) 255
theorem c8_le (n : Int) : 0 ≤ c8 n ∧ c8 n ≤ 255 := by unfold c8; omega
def bothB (a b : Nat → Int) : Nat → Int := fun i => Int.tdiv (c8 (a i) + c8 (b i) + 1) 2
theorem bothB_at (a b : Nat → Int) (i : Nat) : bothB a b i = (c8 (a i) + c8 (b i) + 1) / 2 := by
  have h1 := c8_le (a i); have h2 := c8_le (b i)
  unfold bothB; rw [tdiv2 (by omega)]
def c100 (n : Int) : Int := min (max n (-100)) 100
end Go.Proofs.YtknjpdcpmpfklaaGreatDoor
set_option maxRecDepth 100000
namespace Go.Proofs.YtknjpdcpmpfklaaGreatDoor
def med (a b c : Int) : Int := max (min a b) (min (max a b) c)
structure VF where
  w : Int
  h : Int
  X : Int → Int → Int
  Y : Int → Int → Int
def inV (f : VF) (x y : Int) : Prop := 0 ≤ x ∧ x < f.w ∧ 0 ≤ y ∧ y < f.h
instance (f : VF) (x y : Int) : Decidable (inV f x y) := by unfold inV; infer_instance
structure OkV (f : VF) : Prop where
  w : 1 ≤ f.w ∧ f.w ≤ 16
  h : 1 ≤ f.h ∧ f.h ≤ 16
  out : ∀ x y, ¬ inV f x y → f.X x y = 0 ∧ f.Y x y = 0
  low : ∀ x y, vecOk (f.X x y) (f.Y x y)
def sidesOk (w h : Int) : Prop := 1 ≤ w ∧ w ≤ 16 ∧ 1 ≤ h ∧ h ≤ 16
instance (w h : Int) : Decidable (sidesOk w h) := by unfold sidesOk; infer_instance
def newV (w h : Int) : VF := ⟨w, h, fun _ _ => 0, fun _ _ => 0⟩
theorem okV_new {w h : Int} (k : sidesOk w h) : OkV (newV w h) := ⟨⟨k.1, k.2.1⟩, ⟨k.2.2.1, k.2.2.2⟩, fun _ _ _ => ⟨rfl, rfl⟩, fun _ _ => by show vecOk 0 0; decide⟩
def setE (f : VF) (x y X Y : Int) : Int := if inV f x y then vecE X Y else 1
def layV (f : VF) (x y X Y : Int) : VF := ⟨f.w, f.h, fun a b => if a = x ∧ b = y then X else f.X a b, fun a b => if a = x ∧ b = y then Y else f.Y a b⟩
def setV (f : VF) (x y X Y : Int) : VF := if inV f x y ∧ vecOk X Y then layV f x y X Y else f
theorem set_no {f : VF} {x y X Y : Int} (h : ¬ inV f x y) : setE f x y X Y = 1 ∧ setV f x y X Y = f := ⟨if_neg h, if_neg fun k => h k.1⟩
theorem set_none {f : VF} {x y X Y : Int} (h : inV f x y) (hv : ¬ vecOk X Y) : setE f x y X Y = 90 ∧ setV f x y X Y = f := ⟨by unfold setE; rw [if_pos h, vecE_no hv], if_neg fun k => hv k.2⟩
theorem set_yes {f : VF} {x y X Y : Int} (h : inV f x y) (hv : vecOk X Y) : setE f x y X Y = 0 ∧ setV f x y X Y = layV f x y X Y := ⟨by unfold setE; rw [if_pos h, vecE_yes hv], if_pos ⟨h, hv⟩⟩
theorem okV_lay {f : VF} (k : OkV f) {x y X Y : Int} (h : inV f x y) (hv : vecOk X Y) : OkV (layV f x y X Y) := by
  refine ⟨k.w, k.h, fun a b hn => ?_, fun a b => ?_⟩
  · have hn' : ¬ inV f a b := hn
    have : ¬ (a = x ∧ b = y) := fun e => hn' (by rw [e.1, e.2]; exact h)
    show (if a = x ∧ b = y then X else f.X a b) = 0 ∧ (if a = x ∧ b = y then Y else f.Y a b) = 0
    rw [if_neg this, if_neg this]; exact k.out a b hn'
  · show vecOk (if a = x ∧ b = y then X else f.X a b) (if a = x ∧ b = y then Y else f.Y a b)
    split
    · exact hv
    · exact k.low a b
def gX (f : VF) (x y : Int) : Int := med (f.X (x - 1) y) (f.X x (y - 1)) (f.X (x + 1) (y - 1))
def gY (f : VF) (x y : Int) : Int := med (f.Y (x - 1) y) (f.Y x (y - 1)) (f.Y (x + 1) (y - 1))
theorem cl64 (n : Int) : -64 ≤ cl 64 n ∧ cl 64 n ≤ 64 := by unfold cl; omega
def rdX (l : List Nat) (s : Option Nat) : Int × Option Nat := rdStep (signedRd l 128) s
def rdOk (l : List Nat) (gx gy : Int) (s : Option Nat) : Prop := (rdX l (rdX l s).2).2 ≠ none ∧ vecOk ((rdX l s).1 + cl 64 gx) ((rdX l (rdX l s).2).1 + cl 64 gy)
instance (l : List Nat) (gx gy : Int) (s : Option Nat) : Decidable (rdOk l gx gy s) := by unfold rdOk; infer_instance
def vrX (l : List Nat) (gx gy : Int) (s : Option Nat) : Int := if rdOk l gx gy s then (rdX l s).1 + cl 64 gx else 0
def vrY (l : List Nat) (gx gy : Int) (s : Option Nat) : Int := if rdOk l gx gy s then (rdX l (rdX l s).2).1 + cl 64 gy else 0
def vrE (l : List Nat) (gx gy : Int) (s : Option Nat) : Int := if rdOk l gx gy s then 0 else 90
def vrS (l : List Nat) (s : Option Nat) : Option Nat := (rdX l (rdX l s).2).2
theorem vr_yes {l : List Nat} {gx gy : Int} {s : Option Nat} (h : rdOk l gx gy s) : vrX l gx gy s = (rdX l s).1 + cl 64 gx ∧ vrY l gx gy s = (rdX l (rdX l s).2).1 + cl 64 gy ∧ vrE l gx gy s = 0 := ⟨if_pos h, if_pos h, if_pos h⟩
theorem vr_no {l : List Nat} {gx gy : Int} {s : Option Nat} (h : ¬ rdOk l gx gy s) : vrX l gx gy s = 0 ∧ vrY l gx gy s = 0 ∧ vrE l gx gy s = 90 := ⟨if_neg h, if_neg h, if_neg h⟩
theorem rdX_le (l : List Nat) (s : Option Nat) : -128 ≤ (rdX l s).1 ∧ (rdX l s).1 ≤ 128 := rdStep_signed_le l 128 (by omega) s
end Go.Proofs.YtknjpdcpmpfklaaGreatDoor
set_option maxRecDepth 100000
namespace Go.Proofs.YtknjpdcpmpfklaaGreatDoor
open Go.RowKit
def upL (L : Nat → Bool) (i : Nat) : Nat → Bool := fun j => if j = i then true else L j
def upV (v : Nat → Value) (i : Nat) (x : Value) : Nat → Value := fun j => if j = i then x else v j
def late (os : List Oper) (t : Tmp) (i : Nat) : Bool := os.all fun o => o.dst != some t || o.after.toList.any fun e => Region.binds .any e && e.on == i
def StepJ (os : List Oper) (P : Program) (D : List (Option Tmp)) (J : (Nat → Bool) → (Nat → Value) → World → Prop) (a0 : Act) (i : Nat) (o : Oper) : Prop :=
  ∀ (L : Nat → Bool) (v : Nat → Value) (a : Act) (w : World), J L v w → L i = false → (∀ e ∈ o.after.toList, Region.binds .any e = true → L e.on = true) →
    (∀ t, some t ∉ D → a.eval (.tmp t) = a0.eval (.tmp t)) → (∀ j d, L j = true → D[j]? = some (some d) → a.eval (.tmp d) = v j) → (∀ t, late os t i = true → a.eval (.tmp t) = a0.eval (.tmp t)) →
    (goes D o a = true → Yields P a.eval o w (fun x w' => J (upL L i) (upV v i x) w')) ∧ (goes D o a = false → J (upL L i) (upV v i undef) w)
def StepsJ (os : List Oper) (P : Program) (D : List (Option Tmp)) (J : (Nat → Bool) → (Nat → Value) → World → Prop) (a0 : Act) : Nat → List Oper → Prop
  | _, [] => True
  | i, o :: r => StepJ os P D J a0 i o ∧ StepsJ os P D J a0 (i + 1) r
theorem StepsJ.at {all : List Oper} {P : Program} {D : List (Option Tmp)} {J : (Nat → Bool) → (Nat → Value) → World → Prop} {a0 : Act} : ∀ {i : Nat} {os : List Oper}, StepsJ all P D J a0 i os → ∀ k o, os[k]? = some o → StepJ all P D J a0 (i + k) o := by
  intro i os
  induction os generalizing i with
  | nil => intro _ k o h; simp at h
  | cons x r ih =>
    intro h k o hk
    cases k with
    | zero => simp at hk; subst hk; exact h.1
    | succ k =>
      simp at hk
      have := ih h.2 k o hk
      rwa [show i + 1 + k = i + (k + 1) by omega] at this
structure MidJ (ops : Array Oper) (D : List (Option Tmp)) (J : (Nat → Bool) → (Nat → Value) → World → Prop) (a0 : Act) (v : Nat → Value) (listed : Array Bool) (a : Act) (w : World) : Prop where
  size : a.tmps.size = a0.tmps.size
  ls : listed.size = ops.size
  defers : a.defers = a0.defers
  out : ∀ t, (∀ j, listed.getD j false = true → D[j]? ≠ some (some t)) → a.tmps.getD t undef = a0.tmps.getD t undef
  here : ∀ j d, listed.getD j false = true → D[j]? = some (some d) → a.tmps.getD d undef = v j
  good : J (fun j => listed.getD j false) v w
  cl : ∀ (k : Nat) (o : Oper), ops[k]? = some o → listed.getD k false = true → ∀ e ∈ o.after.toList, Region.binds .any e = true → listed.getD e.on false = true
theorem wpAny_inv {P : Program} {ops : Array Oper} {Q : Exit → Act → World → Prop} {a0 : Act} (D : List (Option Tmp)) (J : (Nat → Bool) → (Nat → Value) → World → Prop)
    (hpl : plain a0.tmps.size 0 D ops.toList = true) (hsteps : StepsJ ops.toList P D J a0 0 ops.toList)
    (hend : ∀ (L : Nat → Bool) (v : Nat → Value) (w : World), J L v w → (∀ i, i < ops.size → L i = true) → Q .normal (putAll v 0 D a0) w) :
    ∀ (fuel : Nat) (listed : Array Bool) (v : Nat → Value) (a : Act) (w : World), MidJ ops D J a0 v listed a w → (fuel = 0 → Region.ready .any ops listed = []) →
      (List.range ops.size).countP (fun i => !listed.getD i false) ≤ fuel → wpAny P .any ops Q fuel listed a w := by
  obtain ⟨hDl, hpa⟩ := plain_at hpl
  have hlen : D.length = ops.size := by simpa using hDl
  have hback : ∀ (k : Nat) (o : Oper), ops[k]? = some o → ∀ e ∈ o.after.toList, Region.binds .any e = true → e.on < k := by
    intro k o hk e he hb
    have := (hpa k o (by simpa using hk)).2.2 e he hb
    omega
  have fin : ∀ (listed : Array Bool) (v : Nat → Value) (a : Act) (w : World), MidJ ops D J a0 v listed a w → Region.ready .any ops listed = [] → Q .normal a w := by
    intro listed v a w hm hr
    have hall := all_listed hback hr hm.ls
    have hp := putAll_frame v D 0 a0
    have ha : a = putAll v 0 D a0 := by
      have ht : a.tmps = (putAll v 0 D a0).tmps := by
        apply Array.ext
        · rw [hm.size, hp.1]
        · intro t h1 h2
          have e : a.tmps.getD t undef = (putAll v 0 D a0).tmps.getD t undef := by
            by_cases hmem : some t ∈ D
            · obtain ⟨j, hj⟩ := List.mem_iff_getElem?.1 hmem
              have hjs : j < ops.size := by rw [← hlen]; exact (List.getElem?_eq_some_iff.1 hj).1
              obtain ⟨g1, g2, _⟩ := hpa j ops[j] (by simp [hjs])
              have hdst : ops[j].dst = some t := by rw [hj] at g1; exact (Option.some.inj g1).symm
              obtain ⟨k1, k2⟩ := g2 t hdst
              rw [hm.here j t (hall j hjs) hj, hp.2.2.2 j t hj k2 k1, Nat.zero_add]
            · rw [hp.2.2.1 t hmem, hm.out t (fun j _ hj => hmem (List.mem_of_getElem? hj))]
          simpa [Array.getD_eq_getD_getElem?, h1, h2] using e
      have hd : a.defers = (putAll v 0 D a0).defers := by rw [hm.defers, hp.2.1]
      cases a
      cases hq : putAll v 0 D a0
      rw [hq] at ht hd
      simp only at ht hd
      rw [ht, hd]
    rw [ha]
    exact hend _ v w hm.good hall
  intro fuel
  induction fuel with
  | zero =>
    intro listed v a w hm h0 _
    exact ⟨h0 rfl, fin listed v a w hm (h0 rfl)⟩
  | succ fuel ih =>
    intro listed v a w hm _ hcount
    refine ⟨fin listed v a w hm, fun i hi => ?_⟩
    obtain ⟨hlt, hnl, o, ho, haft⟩ := mem_ready hi
    have hlsz : i < listed.size := by rw [hm.ls]; exact hlt
    have hnl' : listed.getD i false = false := by simpa [Array.getD, hlsz] using hnl
    obtain ⟨g1, g2, g3⟩ := hpa i o (by simpa using ho)
    have hstep := hsteps.at i o (by simpa using ho)
    rw [Nat.zero_add] at hstep
    have hout : ∀ t, some t ∉ D → a.eval (.tmp t) = a0.eval (.tmp t) := fun t ht => hm.out t (fun j _ hj => ht (List.mem_of_getElem? hj))
    have hlate : ∀ t, late ops.toList t i = true → a.eval (.tmp t) = a0.eval (.tmp t) := by
      intro t ht
      refine hm.out t fun j hj hD => ?_
      have hjs : j < ops.size := by rw [← hlen]; exact (List.getElem?_eq_some_iff.1 hD).1
      obtain ⟨k1, _, _⟩ := hpa j ops[j] (by simp [hjs])
      have hdst : ops[j].dst = some t := by rw [hD] at k1; exact (Option.some.inj k1).symm
      unfold late at ht
      have h1 := List.all_eq_true.1 ht ops[j] (by simp)
      simp only [hdst, bne_self_eq_false, Bool.false_or] at h1
      obtain ⟨e, he, hb⟩ := List.any_eq_true.1 h1
      simp only [Bool.and_eq_true, beq_iff_eq] at hb
      have h2 := hm.cl j ops[j] (by simp [hjs]) hj e he hb.1
      rw [hb.2, hnl'] at h2
      cases h2
    obtain ⟨s1, s2⟩ := hstep (fun j => listed.getD j false) v a w hm.good hnl' haft hout (fun j d hj hD => hm.here j d hj hD) hlate
    -- what is left when it answers x in the world w'
    have next : ∀ (x : Value) (w' : World), J (upL (fun j => listed.getD j false) i) (upV v i x) w' → wpAny P .any ops Q fuel (listed.setIfInBounds i true) (a.put o.dst x) w' := by
      intro x w' hJ
      have hcnt : (List.range ops.size).countP (fun j => !(listed.setIfInBounds i true).getD j false) ≤ fuel := by
        have h1 : (List.range ops.size).countP (fun j => !(listed.setIfInBounds i true).getD j false) < (List.range ops.size).countP (fun j => !listed.getD j false) := by
          have hmemi : i ∈ List.range ops.size := by simpa using hlt
          have key : ∀ (l : List Nat), i ∈ l → (∀ j, (!(listed.setIfInBounds i true).getD j false) = true → (!listed.getD j false) = true) → l.countP (fun j => !(listed.setIfInBounds i true).getD j false) < l.countP (fun j => !listed.getD j false) := by
            intro l
            induction l with
            | nil => intro h; cases h
            | cons y r ihl =>
              intro hy himp
              have hle : r.countP (fun j => !(listed.setIfInBounds i true).getD j false) ≤ r.countP (fun j => !listed.getD j false) := List.countP_mono_left fun j _ hj => himp j hj
              by_cases hyi : y = i
              · subst hyi
                have e1 : (!(listed.setIfInBounds y true).getD y false) = false := by rw [getD_set_true _ _ _ hlsz, if_pos rfl]; rfl
                have e2 : (!listed.getD y false) = true := by rw [hnl']; rfl
                rw [List.countP_cons, List.countP_cons]
                simp only [e1, e2, if_true, Bool.false_eq_true, if_false]
                omega
              · have hir : i ∈ r := by
                  rcases List.mem_cons.1 hy with h | h
                  · exact absurd h.symm hyi
                  · exact h
                have := ihl hir himp
                rw [List.countP_cons, List.countP_cons]
                have e3 : (listed.setIfInBounds i true).getD y false = listed.getD y false := by rw [getD_set_true _ _ _ hlsz, if_neg hyi]
                rw [e3]; omega
          refine key _ hmemi fun j hj => ?_
          rw [getD_set_true _ _ _ hlsz] at hj
          by_cases hji : j = i
          · rw [if_pos hji] at hj; cases hj
          · rwa [if_neg hji] at hj
        omega
      have hmid : MidJ ops D J a0 (upV v i x) (listed.setIfInBounds i true) (a.put o.dst x) w' := by
        refine ⟨?_, by simpa using hm.ls, ?_, ?_, ?_, ?_, ?_⟩
        · rw [← hm.size]; cases o.dst <;> simp [Act.put]
        · rw [← hm.defers]; cases o.dst <;> rfl
        · intro t ht
          have hold := hm.out t (fun j hj => ht j (by rw [getD_set_true _ _ _ hlsz]; split <;> first | rfl | exact hj))
          have hne : o.dst ≠ some t := by
            intro e
            exact ht i (by rw [getD_set_true _ _ _ hlsz, if_pos rfl]) (by rw [g1, e])
          rw [← hold]
          cases hd : o.dst with
          | none => rfl
          | some d =>
            have : d ≠ t := fun e => hne (by rw [hd, e])
            simp only [Act.put, Array.getD_eq_getD_getElem?, Array.getElem?_setIfInBounds_ne this]
        · intro j d hj hD
          by_cases hji : j = i
          · subst hji
            have hd : o.dst = some d := by rw [g1] at hD; exact Option.some.inj hD
            have hsz : d < a.tmps.size := by rw [hm.size]; exact (g2 d hd).1
            simp [hd, Act.put, Array.getD_eq_getD_getElem?, hsz, upV]
          · rw [getD_set_true _ _ _ hlsz, if_neg hji] at hj
            have hold := hm.here j d hj hD
            rw [show upV v i x j = v j from if_neg hji, ← hold]
            cases hd : o.dst with
            | none => rfl
            | some y =>
              have hne : y ≠ d := by
                rintro rfl
                rw [hd] at g1
                rcases Nat.lt_or_gt_of_ne hji with hlt2 | hgt2
                · have hjs : j < ops.size := by rw [← hlen]; exact (List.getElem?_eq_some_iff.1 hD).1
                  obtain ⟨k1, k2, _⟩ := hpa j ops[j] (by simp [hjs])
                  have hdst : ops[j].dst = some y := by rw [hD] at k1; exact (Option.some.inj k1).symm
                  exact (k2 y hdst).2 i hlt2 g1
                · exact (g2 y hd).2 j hgt2 hD
              simp only [Act.put, Array.getD_eq_getD_getElem?, Array.getElem?_setIfInBounds_ne hne]
        · have e : (fun j => (listed.setIfInBounds i true).getD j false) = upL (fun j => listed.getD j false) i := by
            funext j; exact getD_set_true _ _ _ hlsz
          rw [e]; exact hJ
        · intro k o' hk hl e he hb
          rw [getD_set_true _ _ _ hlsz] at hl ⊢
          by_cases hee : e.on = i
          · rw [if_pos hee]
          · rw [if_neg hee]
            by_cases hki : k = i
            · subst hki
              rw [ho] at hk
              cases hk
              exact haft e he hb
            · rw [if_neg hki] at hl
              exact hm.cl k o' hk hl e he hb
      refine ih _ _ _ _ hmid ?_ hcnt
      intro hz
      subst hz
      have hz0 : (List.range ops.size).countP (fun j => !(listed.setIfInBounds i true).getD j false) = 0 := by omega
      rw [List.countP_eq_zero] at hz0
      cases hr : Region.ready .any ops (listed.setIfInBounds i true) with
      | nil => rfl
      | cons y r =>
        have hy : y ∈ Region.ready .any ops (listed.setIfInBounds i true) := by rw [hr]; simp
        obtain ⟨q1, q2, _⟩ := mem_ready hy
        have := hz0 y (by simpa using q1)
        have hys : y < (listed.setIfInBounds i true).size := by simp [hm.ls]; exact q1
        have q3 : (listed.setIfInBounds i true).getD y false = false := by rw [← getD_same _ y hys]; exact q2
        rw [q3] at this
        exact absurd rfl this
    have hwant : Region.wanted o (yielded ops a.tmps) = goes D o a := by
      unfold Region.wanted goes
      cases hg : o.guard with
      | none => rfl
      | some p =>
        obtain ⟨j, want⟩ := p
        simp only [yielded]
        by_cases hj : j < ops.size
        · obtain ⟨k1, k2, _⟩ := hpa j ops[j] (by simp [hj])
          have hDj : D.getD j none = ops[j].dst := by simp [List.getD, k1]
          rw [hDj]
          simp only [Array.getElem?_eq_getElem hj, Option.bind_some]
          cases hd : ops[j].dst with
          | none => simp
          | some d =>
            have hsz : d < a.tmps.size := by rw [hm.size]; exact (k2 d hd).1
            simp only [Option.bind_some, Array.getElem?_eq_getElem hsz]
            have he : a.eval (.tmp d) = a.tmps[d] := by simp [Act.eval, Array.getD, hsz]
            rw [he]
            cases a.tmps[d] <;> simp
        · have hDj : D.getD j none = none := by simp [List.getD, List.getElem?_eq_none (show D.length ≤ j by omega)]
          rw [hDj]
          simp [Array.getElem?_eq_none (show ops.size ≤ j by omega)]
    unfold wpOp
    rw [ho]
    simp only [hwant]
    cases hgo : goes D o a with
    | true =>
      simp only [if_true]
      refine .inl (Yields.wp ?_)
      have := s1 hgo
      revert this
      unfold Yields
      generalize (execOp a.eval o).run P w = res
      intro h
      cases res with
      | ok n w' =>
        cases n <;> simp only at h ⊢ <;> first
          | exact next _ _ h
          | exact h.elim
          | exact Calls.mono h (fun e w'' ⟨y, he, hk⟩ => ⟨y, he, next _ _ hk⟩)
      | halt y w' => exact h.elim
    | false =>
      simp only [Bool.false_eq_true, if_false]
      exact next undef w (s2 hgo)
theorem wp_region_inv {P : Program} {id : Nat} {ops : Array Oper} {Q : Exit → Act → World → Prop} {a0 : Act} {w0 : World} (D : List (Option Tmp)) (J : (Nat → Bool) → (Nat → Value) → World → Prop)
    (hm : P.follows .mixedOrders = true) (hpl : plain a0.tmps.size 0 D ops.toList = true) (h0 : J (fun _ => false) (fun _ => undef) w0.drew) (hsteps : StepsJ ops.toList P D J a0 0 ops.toList)
    (hend : ∀ (L : Nat → Bool) (v : Nat → Value) (w : World), J L v w → (∀ i, i < ops.size → L i = true) → Q .normal (putAll v 0 D a0) w) : (Code.region id ops true).wp P Q a0 w0 := by
  refine wp_region_any hm ?_
  have hno : ∀ j, (Array.replicate ops.size false).getD j false = false := by
    intro j
    by_cases h : j < ops.size <;> simp [Array.getD, h]
  refine wpAny_inv D J hpl hsteps hend ops.size _ (fun _ => undef) a0 _ ⟨rfl, by simp, rfl, fun _ _ => rfl, fun j _ hj => ?_, ?_, fun k _ _ hl => ?_⟩ ?_ ?_
  · rw [hno] at hj; cases hj
  · have e : (fun j => (Array.replicate ops.size false).getD j false) = fun _ => false := funext hno
    rw [e]; exact h0
  · rw [hno] at hl; cases hl
  · intro h0
    cases hr : Region.ready .any ops (Array.replicate ops.size false) with
    | nil => rfl
    | cons y r =>
      have hy : y ∈ Region.ready .any ops (Array.replicate ops.size false) := by rw [hr]; simp
      have := (mem_ready hy).1
      omega
  · exact Nat.le_trans (List.countP_le_length) (by simp)
end Go.Proofs.YtknjpdcpmpfklaaGreatDoor
set_option maxRecDepth 100000
namespace Go.Proofs.YtknjpdcpmpfklaaGreatDoor
open Go.RowKit
def StepU (U : Nat → Option Nat) (P : Program) (R : World → Prop) (D : List (Option Tmp)) (G H : Nat → Value → World → Prop) (a0 : Act) (i : Nat) (o : Oper) : Prop :=
  ∀ (a : Act) (w : World), R w → (∀ t, some t ∉ D → a.eval (.tmp t) = a0.eval (.tmp t)) → Deps D (fun j v w => (U j = none ∨ U j = some i) → G j v w) a w o.after.toList →
    (goes D o a = true → Yields P a.eval o w (fun v w' => G i v w' ∧ R w' ∧ (∀ j x, j ≠ i → U j ≠ some i → G j x w → G j x w') ∧ (∀ j x, U j ≠ some i → H j x w → H j x w') ∧ ∀ j d, U j = some i → D[j]? = some (some d) → H j (a.eval (.tmp d)) w')) ∧ (goes D o a = false → G i undef w ∧ ∀ j, U j ≠ some i)
def StepsU (U : Nat → Option Nat) (P : Program) (R : World → Prop) (D : List (Option Tmp)) (G H : Nat → Value → World → Prop) (a0 : Act) : Nat → List Oper → Prop
  | _, [] => True
  | i, o :: r => StepU U P R D G H a0 i o ∧ StepsU U P R D G H a0 (i + 1) r
theorem StepsU.at {U : Nat → Option Nat} {P : Program} {R : World → Prop} {D : List (Option Tmp)} {G H : Nat → Value → World → Prop} {a0 : Act} : ∀ {i : Nat} {os : List Oper}, StepsU U P R D G H a0 i os → ∀ k o, os[k]? = some o → StepU U P R D G H a0 (i + k) o := by
  intro i os
  induction os generalizing i with
  | nil => intro _ k o h; simp at h
  | cons x r ih =>
    intro h k o hk
    cases k with
    | zero => simp at hk; subst hk; exact h.1
    | succ k =>
      simp at hk
      have := ih h.2 k o hk
      rwa [show i + 1 + k = i + (k + 1) by omega] at this
end Go.Proofs.YtknjpdcpmpfklaaGreatDoor
set_option maxRecDepth 100000
namespace Go.Proofs.YtknjpdcpmpfklaaGreatDoor
open Go.RowKit
def usedBy (l : List (Nat × Nat)) (j : Nat) : Option Nat := (l.find? fun q => q.1 == j).map (·.2)
theorem usedBy_mem {l : List (Nat × Nat)} {j k : Nat} (h : usedBy l j = some k) : (j, k) ∈ l := by
  unfold usedBy at h
  cases hf : l.find? fun q => q.1 == j with
  | none => rw [hf] at h; cases h
  | some q =>
    rw [hf] at h
    cases h
    have h1 := List.find?_some hf
    have h2 := List.mem_of_find?_eq_some hf
    have : q.1 = j := by simpa using h1
    rw [← this]; exact h2
def noUse (l : List (Nat × Nat)) (i : Nat) : Bool := l.all fun q => q.2 != i
theorem noUse_at {l : List (Nat × Nat)} {i : Nat} (h : noUse l i = true) (j : Nat) : usedBy l j ≠ some i := fun e => by
  have := List.all_eq_true.1 h _ (usedBy_mem e)
  simp at this
def oneUse (l : List (Nat × Nat)) (i j : Nat) : Bool := l.all fun q => q.2 != i || q.1 == j
theorem oneUse_at {l : List (Nat × Nat)} {i j : Nat} (h : oneUse l i j = true) {j' : Nat} (e : usedBy l j' = some i) : j' = j := by
  have := List.all_eq_true.1 h _ (usedBy_mem e)
  simpa using this
def Told (l : List (Nat × Nat)) (Gs : List Pd) (i : Nat) : Nat → Value → World → Prop := fun j v w => (usedBy l j = none ∨ usedBy l j = some i) → Said Gs j v w
def Left (l : List (Nat × Nat)) (D : List (Option Tmp)) (Gs Hs : List Pd) (w0 : World) (i : Nat) (ρ : Operand → Value) (w : World) (v : Value) (w' : World) : Prop :=
  Said Gs i v w' ∧ Kept (fun _ => False) w0 w' ∧ (∀ j x, j ≠ i → usedBy l j ≠ some i → Said Gs j x w → Said Gs j x w') ∧ (∀ j x, usedBy l j ≠ some i → Said Hs j x w → Said Hs j x w') ∧ ∀ j d, usedBy l j = some i → D[j]? = some (some d) → Said Hs j (ρ (.tmp d)) w'
section
variable {P : Program} {N : Nat} {F : Nat → Value} {w : World} {Q : Exit → (Nat → Value) → World → Prop}
def StepFU (l : List (Nat × Nat)) (N : Nat) (P : Program) (D : List (Option Tmp)) (Gs Hs : List Pd) (F0 : Nat → Value) (w0 : World) (i : Nat) (o : Oper) : Prop :=
  ∀ (F : Nat → Value) (w : World), Kept (fun _ => False) w0 w → (∀ t, Nat.blt t N = true → some t ∉ D → F t = F0 t) → DepsF D (Told l Gs i) F w o.after.toList →
    match o.guard with
    | none => Yields P (ev F) o w (Left l D Gs Hs w0 i (ev F) w)
    | some (j, want) => ∃ d, D.getD j none = some d ∧
      ((F d = .bool want ∧ Yields P (ev F) o w (Left l D Gs Hs w0 i (ev F) w)) ∨ ((F d = .bool (!want) ∨ F d = undef) ∧ Said Gs i undef w ∧ noUse l i = true))
def StepsFU (l : List (Nat × Nat)) (N : Nat) (P : Program) (D : List (Option Tmp)) (Gs Hs : List Pd) (F0 : Nat → Value) (w0 : World) : Nat → List Oper → Prop
  | _, [] => True
  | i, o :: r => StepFU l N P D Gs Hs F0 w0 i o ∧ StepsFU l N P D Gs Hs F0 w0 (i + 1) r
theorem StepFU.step {l : List (Nat × Nat)} {D : List (Option Tmp)} {Gs Hs : List Pd} {w0 : World} {i : Nat} {o : Oper} {a0 : Act} (ha : Fr N F a0) (h : StepFU l N P D Gs Hs F w0 i o) : StepU (usedBy l) P (Kept (fun _ => False) w0) D (Said Gs) (Said Hs) a0 i o := by
  intro a w hR hout hD
  have h1 := h (fun t => a.tmps.getD t undef) w hR (fun t hb ht => by rw [← ha.at' t hb]; exact hout t ht) hD.toF
  rw [← eval_ev a] at h1
  unfold goes
  cases hg : o.guard with
  | none => rw [hg] at h1; exact ⟨fun _ => h1, fun e => by cases e⟩
  | some g =>
    obtain ⟨j, want⟩ := g
    rw [hg] at h1
    obtain ⟨d, hd, h1⟩ := h1
    simp only [hd]
    have hev : a.eval (.tmp d) = a.tmps.getD d undef := rfl
    rcases h1 with ⟨hv, hy⟩ | ⟨hv, hs⟩
    · rw [hev, hv]; exact ⟨fun _ => hy, fun e => by simp at e⟩
    · refine ⟨fun e => ?_, fun _ => ⟨hs.1, noUse_at hs.2⟩⟩
      rcases hv with hv | hv
      · rw [hev, hv] at e; cases want <;> simp at e
      · rw [hev, hv] at e; simp [undef] at e
theorem StepsFU.steps {l : List (Nat × Nat)} {D : List (Option Tmp)} {Gs Hs : List Pd} {w0 : World} {a0 : Act} (ha : Fr N F a0) : ∀ {os : List Oper} {i : Nat}, StepsFU l N P D Gs Hs F w0 i os → StepsU (usedBy l) P (Kept (fun _ => False) w0) D (Said Gs) (Said Hs) a0 i os := by
  intro os
  induction os with
  | nil => intro i _; exact trivial
  | cons o r ih => intro i h; exact ⟨h.1.step ha, ih h.2⟩
theorem left_plain {l : List (Nat × Nat)} {D : List (Option Tmp)} {Gs Hs : List Pd} {w0 w w' : World} {i : Nat} {ρ : Operand → Value} {v : Value} (hn : noUse l i = true) (hR : Kept (fun _ => False) w0 w) (h : Said Gs i v w' ∧ Kept (fun _ => False) w w') : Left l D Gs Hs w0 i ρ w v w' :=
  ⟨h.1, hR.trans h.2 (fun _ _ x => x), fun j _ _ _ hj => (Gs.getD j Pd.any).stays _ _ _ hj h.2, fun j _ _ hj => (Hs.getD j Pd.any).stays _ _ _ hj h.2, fun j _ e => absurd e (noUse_at hn j)⟩
theorem Yields.mono' {ρ : Operand → Value} {o : Oper} {R R' : Value → World → Prop} (h : Yields P ρ o w R) (hr : ∀ v w', R v w' → R' v w') : Yields P ρ o w R' := by
  revert h
  unfold Yields
  generalize (execOp ρ o).run P w = r
  intro h
  cases r with
  | ok n w' =>
    cases n <;> simp only at h ⊢ <;> first
      | exact hr _ _ h
      | exact h.elim
      | exact Calls.mono h (fun e w'' ⟨y, he, hk⟩ => ⟨y, he, hr _ _ hk⟩)
  | halt y w' => exact h.elim
theorem StepFU.one {l : List (Nat × Nat)} {D : List (Option Tmp)} {Gs Hs : List Pd} {F0 : Nat → Value} {w0 : World} {i : Nat} {o : Oper} (hn : noUse l i = true) (hg : o.guard = none)
    (h : ∀ (F : Nat → Value) (w : World), Kept (fun _ => False) w0 w → (∀ t, Nat.blt t N = true → some t ∉ D → F t = F0 t) → DepsF D (Told l Gs i) F w o.after.toList → Yields P (ev F) o w (fun v w' => Said Gs i v w' ∧ Kept (fun _ => False) w w')) : StepFU l N P D Gs Hs F0 w0 i o := by
  intro F w h1 h2 h3
  rw [hg]
  exact (h F w h1 h2 h3).mono' fun _ _ x => left_plain hn h1 x
def Pd.under (Ty : TypeId → Prop) (p : Pd) : Prop := ∀ v w w' S, p.says v w → Kept S w w' → (∀ i, S i → ∀ c e f, w.heap[i]? = some (.cells c e f) → Ty e) → p.says v w'
theorem under_any {Ty : TypeId → Prop} : Pd.any.under Ty := fun _ _ _ _ _ _ _ => trivial
def AllUnder (Ty : TypeId → Prop) (skip : Nat → Bool) : Nat → List Pd → Prop
  | _, [] => True
  | k, p :: r => (skip k = true ∨ p.under Ty) ∧ AllUnder Ty skip (k + 1) r
theorem AllUnder.at {Ty : TypeId → Prop} {skip : Nat → Bool} : ∀ {Gs : List Pd} {k : Nat}, AllUnder Ty skip k Gs → ∀ j, skip (k + j) = false → (Gs.getD j Pd.any).under Ty := by
  intro Gs
  induction Gs with
  | nil => intro k _ j _; exact under_any
  | cons p r ih =>
    intro k h j hj
    cases j with
    | zero =>
      rcases h.1 with e | e
      · rw [Nat.add_zero] at hj; rw [hj] at e; cases e
      · exact e
    | succ j => exact ih h.2 j (by rw [show k + 1 + j = k + (j + 1) by omega]; exact hj)
theorem StepFU.turn {l : List (Nat × Nat)} {D : List (Option Tmp)} {Gs Hs : List Pd} {F0 : Nat → Value} {w0 : World} {i : Nat} {o : Oper} (j : Nat) (d : Tmp) (Ty : TypeId → Prop) (hg : o.guard = none) (hd : D[j]? = some (some d)) (h1u : oneUse l i j = true) (hu : AllUnder Ty (fun q => decide (q = i ∨ usedBy l q = some i)) 0 Gs) (hu2 : AllUnder Ty (fun q => decide (usedBy l q = some i)) 0 Hs)
    (h : ∀ (F : Nat → Value) (w : World), Kept (fun _ => False) w0 w → (∀ t, Nat.blt t N = true → some t ∉ D → F t = F0 t) → DepsF D (Told l Gs i) F w o.after.toList →
      Yields P (ev F) o w (fun v w' => Said Gs i v w' ∧ Said Hs j (F d) w' ∧ ∃ S, Kept S w w' ∧ (∀ x, S x → w0.heap.size ≤ x) ∧ ∀ x, S x → ∀ c e f, w.heap[x]? = some (.cells c e f) → Ty e)) : StepFU l N P D Gs Hs F0 w0 i o := by
  intro F w h1 h2 h3
  rw [hg]
  refine (h F w h1 h2 h3).mono' fun v w' ⟨hs, hs2, S, k, hn, ht⟩ => ⟨hs, h1.trans k (fun x hx hS => absurd (hn x hS) (by omega)), fun q x hj hU hx => ?_, fun q x hU hx => ?_, fun q d' hU hq => ?_⟩
  · exact hu.at q (by rw [Nat.zero_add]; exact decide_eq_false (fun e => e.elim hj hU)) x w w' S hx k ht
  · exact hu2.at q (by rw [Nat.zero_add]; exact decide_eq_false hU) x w w' S hx k ht
  · have e := oneUse_at h1u hU
    subst e
    rw [hd] at hq
    cases hq
    exact hs2
end
end Go.Proofs.YtknjpdcpmpfklaaGreatDoor
set_option maxRecDepth 100000
namespace Go.Proofs.YtknjpdcpmpfklaaGreatDoor
open Go.RowKit
structure Thg where
  A : World → Prop
  T : Nat → Prop
  B : (Nat → Prop) → World → Prop
  stA : ∀ (w w' : World) (S : Nat → Prop), A w → Kept S w w' → Apart T S → A w'
  stB : ∀ (w w' : World) (S T' : Nat → Prop), B T' w → Kept S w w' → Apart T' S → B T' w'
  liA : ∀ w, A w → Live w T
  liB : ∀ w T', B T' w → Live w T'
inductive Pt where
  | eq (v : Value)
  | thg (t : Thg) (v : Value)
def Pt.none : Pt := .eq undef
def saysT : Pt → Value
  | .eq v => v
  | .thg _ v => v
def curT (Gs : List Pt) (L : Nat → Bool) (Tf : Nat → Nat → Prop) (i : Nat) : Nat → Prop := match Gs.getD i Pt.none with
  | .eq _ => noB
  | .thg t _ => if L i = true then Tf i else t.T
def isT (Gs : List Pt) (L : Nat → Bool) (Tf : Nat → Nat → Prop) (w : World) (i : Nat) : Prop := match Gs.getD i Pt.none with
  | .eq _ => True
  | .thg t _ => if L i = true then t.B (Tf i) w else t.A w
structure JT (S : Nat → Prop) (w0 : World) (Gs : List Pt) (M : List (Nat × Nat)) (L : Nat → Bool) (v : Nat → Value) (Tf : Nat → Nat → Prop) (w : World) : Prop where
  kept : Kept S w0 w
  vals : ∀ i, L i = true → v i = saysT (Gs.getD i Pt.none)
  things : ∀ i, isT Gs L Tf w i
  grew : ∀ i t x, Gs.getD i Pt.none = .thg t x → L i = true → Grew w0 t.T (Tf i)
  apart : ∀ i j, i ≠ j → Apart (curT Gs L Tf i) (curT Gs L Tf j)
  clos : ∀ j i, (j, i) ∈ M → L j = true → L i = true
def OldT (S : Nat → Prop) (w0 : World) (Gs : List Pt) : Prop := (∀ i t x, Gs.getD i Pt.none = .thg t x → (∀ b, t.T b → S b) ∧ t.A w0) ∧ ∀ i j, i ≠ j → Apart (curT Gs (fun _ => false) (fun _ => noB) i) (curT Gs (fun _ => false) (fun _ => noB) j)
def FarT (T : Nat → Prop) : List Pt → Prop
  | [] => True
  | .thg t _ :: r => Apart T t.T ∧ FarT T r
  | .eq _ :: r => FarT T r
def OldsT (S : Nat → Prop) (w0 : World) : List Pt → Prop
  | [] => True
  | .thg t _ :: r => ((∀ b, t.T b → S b) ∧ t.A w0 ∧ FarT t.T r) ∧ OldsT S w0 r
  | .eq _ :: r => OldsT S w0 r
theorem FarT.at {T : Nat → Prop} : ∀ {Gs : List Pt}, FarT T Gs → ∀ i t x, Gs.getD i Pt.none = .thg t x → Apart T t.T := by
  intro Gs
  induction Gs with
  | nil => intro _ i t x h; cases h
  | cons g r ih =>
    intro h i t x e
    cases i with
    | zero =>
      have e : g = .thg t x := by simpa using e
      subst e; exact h.1
    | succ i =>
      have e : r.getD i Pt.none = .thg t x := by simpa using e
      cases g <;> first | exact ih h.2 i t x e | exact ih h i t x e
theorem OldsT.at {S : Nat → Prop} {w0 : World} : ∀ {Gs : List Pt}, OldsT S w0 Gs → ∀ i t x, Gs.getD i Pt.none = .thg t x → (∀ b, t.T b → S b) ∧ t.A w0 := by
  intro Gs
  induction Gs with
  | nil => intro _ i t x h; cases h
  | cons g r ih =>
    intro h i t x e
    cases i with
    | zero =>
      have e : g = .thg t x := by simpa using e
      subst e; exact ⟨h.1.1, h.1.2.1⟩
    | succ i =>
      have e : r.getD i Pt.none = .thg t x := by simpa using e
      cases g <;> first | exact ih h.2 i t x e | exact ih h i t x e
theorem OldsT.far {S : Nat → Prop} {w0 : World} : ∀ {Gs : List Pt}, OldsT S w0 Gs → ∀ i j t x t' x', i < j → Gs.getD i Pt.none = .thg t x → Gs.getD j Pt.none = .thg t' x' → Apart t.T t'.T := by
  intro Gs
  induction Gs with
  | nil => intro _ i j t x t' x' _ h; cases h
  | cons g r ih =>
    intro h i j t x t' x' hij e1 e2
    cases j with
    | zero => omega
    | succ j =>
      have e2 : r.getD j Pt.none = .thg t' x' := by simpa using e2
      cases i with
      | zero =>
        have e1 : g = .thg t x := by simpa using e1
        subst e1; exact h.1.2.2.at j t' x' e2
      | succ i =>
        have e1 : r.getD i Pt.none = .thg t x := by simpa using e1
        cases g <;> first | exact ih h.2 i j t x t' x' (by omega) e1 e2 | exact ih h i j t x t' x' (by omega) e1 e2
theorem OldsT.old {S : Nat → Prop} {w0 : World} {Gs : List Pt} (h : OldsT S w0 Gs) : OldT S w0 Gs := by
  refine ⟨fun i t x e => h.at i t x e, fun i j hij => ?_⟩
  unfold curT
  cases e1 : Gs.getD i Pt.none with
  | eq x => exact fun _ z => z.elim
  | thg t x =>
    cases e2 : Gs.getD j Pt.none with
    | eq y => exact fun _ _ z => z
    | thg t' y =>
      simp only [Bool.false_eq_true, if_false]
      rcases Nat.lt_or_gt_of_ne hij with hlt | hgt
      · exact h.far i j t x t' y hlt e1 e2
      · exact (h.far j i t' y t x hgt e2 e1).symm
def onT (w0 : World) (Gs : List Pt) (i : Nat) (w : World) : Prop := match Gs.getD i Pt.none with
  | .eq _ => True
  | .thg t _ => ∃ T', t.B T' w ∧ Grew w0 t.T T'
def ToldT (w0 : World) (Gs : List Pt) (M : List (Nat × Nat)) : Nat → Value → World → Prop := fun j v w => v = saysT (Gs.getD j Pt.none) ∧ onT w0 Gs j w ∧ ∀ i, (j, i) ∈ M → onT w0 Gs i w
def mustOk (os : List Oper) (M : List (Nat × Nat)) : Bool := M.all fun q => match os[q.1]? with | some o => o.after.toList.any (fun e => Region.binds .any e && (e.on == q.2 || M.contains (e.on, q.2))) | none => false
def LeftT (Gs : List Pt) (i : Nat) (w : World) (v : Value) (w' : World) : Prop := match Gs.getD i Pt.none with
  | .eq x => v = x ∧ Kept (fun _ => False) w w'
  | .thg t x => v = x ∧ Kept t.T w w' ∧ ∃ T', t.B T' w' ∧ Grew w t.T T'
theorem cur_live {S : Nat → Prop} {w0 w : World} {Gs : List Pt} {L : Nat → Bool} {v : Nat → Value} {Tf : Nat → Nat → Prop} {M : List (Nat × Nat)} (h : JT S w0 Gs M L v Tf w) (i : Nat) : Live w (curT Gs L Tf i) := by
  have := h.things i
  unfold isT at this
  unfold curT
  cases e : Gs.getD i Pt.none with
  | eq x => exact fun _ h => h.elim
  | thg t x =>
    rw [e] at this
    simp only at this ⊢
    cases hl : L i with
    | true => rw [hl] at this; rw [if_pos rfl] at this ⊢; exact t.liB w _ this
    | false => rw [hl] at this; rw [if_neg (by simp)] at this ⊢; exact t.liA w this
theorem cur_up {Gs : List Pt} {L : Nat → Bool} {Tf Tf' : Nat → Nat → Prop} {i j : Nat} (h : j ≠ i) (hT : Tf' j = Tf j) : curT Gs (fun k => if k = i then true else L k) Tf' j = curT Gs L Tf j := by
  unfold curT
  cases Gs.getD j Pt.none with
  | eq x => rfl
  | thg t x => simp only [if_neg h, hT]
theorem is_up {Gs : List Pt} {L : Nat → Bool} {Tf Tf' : Nat → Nat → Prop} {w : World} {i j : Nat} (h : j ≠ i) (hT : Tf' j = Tf j) : isT Gs (fun k => if k = i then true else L k) Tf' w j = isT Gs L Tf w j := by
  unfold isT
  cases Gs.getD j Pt.none with
  | eq x => rfl
  | thg t x => simp only [if_neg h, hT]
theorem is_kept {S' : Nat → Prop} {Gs : List Pt} {L : Nat → Bool} {Tf : Nat → Nat → Prop} {w w' : World} {j : Nat} (h : isT Gs L Tf w j) (k : Kept S' w w') (ha : Apart (curT Gs L Tf j) S') : isT Gs L Tf w' j := by
  unfold isT at h ⊢
  unfold curT at ha
  cases e : Gs.getD j Pt.none with
  | eq x => trivial
  | thg t x =>
    rw [e] at h ha
    simp only at h ha ⊢
    split
    · rename_i hl; rw [if_pos hl] at h ha; exact t.stB w w' S' _ h k ha
    · rename_i hl; rw [if_neg hl] at h ha; exact t.stA w w' S' h k ha
theorem JT.more {S : Nat → Prop} {w0 w w' : World} {Gs : List Pt} {M : List (Nat × Nat)} {L : Nat → Bool} {v : Nat → Value} {Tf : Nat → Nat → Prop} {i : Nat} {x : Value} (hO : OldT S w0 Gs) (h : JT S w0 Gs M L v Tf w) (hi : L i = false) (hM : ∀ k, (i, k) ∈ M → L k = true) (hx : LeftT Gs i w x w') : ∃ Tf', JT S w0 Gs M (upL L i) (upV v i x) Tf' w' := by
  have hcl : ∀ j k, (j, k) ∈ M → upL L i j = true → upL L i k = true := fun j k hm hj => by
    have hk : L k = true := by
      by_cases hji : j = i
      · subst hji; exact hM k hm
      · rw [show upL L i j = L j from if_neg hji] at hj; exact h.clos j k hm hj
    unfold upL; split <;> first | rfl | exact hk
  unfold LeftT at hx
  cases e : Gs.getD i Pt.none with
  | eq y =>
    rw [e] at hx
    refine ⟨Tf, h.kept.trans hx.2 (fun _ _ z => z.elim), fun j hj => ?_, fun j => ?_, fun j t z hj hl => ?_, fun a b hab => ?_, hcl⟩
    · by_cases hji : j = i
      · subst hji; rw [show upV v j x j = x from if_pos rfl, e]; exact hx.1
      · rw [show upL L i j = L j from if_neg hji] at hj; rw [show upV v i x j = v j from if_neg hji]; exact h.vals j hj
    · by_cases hji : j = i
      · subst hji; unfold isT; rw [e]; trivial
      · rw [show isT Gs (upL L i) Tf w' j = isT Gs L Tf w' j from is_up hji rfl]; exact is_kept (h.things j) hx.2 (fun _ _ z => z)
    · have hji : j ≠ i := fun z' => by rw [z', e] at hj; cases hj
      rw [show upL L i j = L j from if_neg hji] at hl; exact h.grew j t z hj hl
    · have hc : ∀ c, curT Gs (upL L i) Tf c = curT Gs L Tf c := fun c => by
        by_cases hci : c = i
        · subst hci; unfold curT; rw [e]
        · exact cur_up hci rfl
      rw [hc, hc]; exact h.apart a b hab
  | thg t y =>
    rw [e] at hx
    obtain ⟨hv, k, T', hB, hG⟩ := hx
    have hcur : curT Gs L Tf i = t.T := by unfold curT; rw [e]; simp [hi]
    have hTf : ∀ c, c ≠ i → (fun c => if c = i then T' else Tf c) c = Tf c := fun c hc => by simp [hc]
    have hci : curT Gs (upL L i) (fun c => if c = i then T' else Tf c) i = T' := by unfold curT; rw [e]; simp [upL]
    have hcj : ∀ c, c ≠ i → curT Gs (upL L i) (fun c => if c = i then T' else Tf c) c = curT Gs L Tf c := fun c hc => cur_up hc (hTf c hc)
    have hnew : ∀ c, c ≠ i → Apart T' (curT Gs L Tf c) := fun c hc => by
      have := h.apart i c (fun z => hc z.symm)
      rw [hcur] at this
      exact this.grew hG (cur_live h c)
    refine ⟨fun c => if c = i then T' else Tf c, h.kept.trans k (fun b _ hb => (hO.1 i t y e).1 b hb), fun j hj => ?_, fun j => ?_, fun j t' z hj hl => ?_, fun a b hab => ?_, hcl⟩
    · by_cases hji : j = i
      · subst hji; rw [show upV v j x j = x from if_pos rfl, e]; exact hv
      · rw [show upL L i j = L j from if_neg hji] at hj; rw [show upV v i x j = v j from if_neg hji]; exact h.vals j hj
    · by_cases hji : j = i
      · subst hji; unfold isT; rw [e]; simp only [upL]; simpa using hB
      · rw [show isT Gs (upL L i) (fun c => if c = i then T' else Tf c) w' j = isT Gs L Tf w' j from is_up hji (hTf j hji)]
        exact is_kept (h.things j) k (by have := h.apart j i hji; rw [hcur] at this; exact this)
    · by_cases hji : j = i
      · subst hji
        rw [e] at hj; cases hj
        simp only [if_true]
        exact fun b hb => (hG b hb).elim .inl (fun hge => .inr (Nat.le_trans h.kept.size hge))
      · rw [show upL L i j = L j from if_neg hji] at hl
        simp only [if_neg hji]; exact h.grew j t' z hj hl
    · by_cases hai : a = i
      · subst hai
        rw [hci, hcj b (fun z => hab z.symm)]; exact hnew b (fun z => hab z.symm)
      · rw [hcj a hai]
        by_cases hbi : b = i
        · subst hbi; rw [hci]; exact (hnew a hai).symm
        · rw [hcj b hbi]; exact h.apart a b hab
theorem y_setStc {P : Program} {ρ : Operand → Value} {o : Oper} {w : World} {R : Value → World → Prop} {ty t : TypeId} {x y : Operand} {p k : Nat} {v u : Value} {vs : List Value} (ho : o.op = .store ty x y) (hx : ρ x = .pointer (some ⟨p, k, none⟩)) (hy : ρ y = v) (hB : Stc w p t vs) (hk : vs[k]? = some u) (hv : oneC v = true)
    (hs : (P.info? ty).map (·.size) = some 1)
    (h : ∀ w', Stc w' p t (vs.set k v) → Kept (fun k => k = p) w w' → R undef w') : Yields P ρ o w R := by
  have hc := hB.cell hk
  have hf : w.frozen? ⟨p, k, none⟩ = false := frozen_of_heap hB
  cases hq : P.info? ty with
  | none => simp [hq] at hs
  | some i =>
    have hs' : i.size = 1 := by simpa [hq] using hs
    have e : (execOp ρ o).run P w = .ok .skip (w.setCell ⟨p, k, none⟩ v) ∨ (execOp ρ o).run P w = .ok (.value undef) (w.setCell ⟨p, k, none⟩ v) := by
      cases v <;> first
        | (simp [oneC] at hv; done)
        | simp [execOp, ho, hx, hy, Instr.storeAt, Instr.sureAddr, storeVar, sizeOf, typeInfo, hq, hs', Value.cells, hc, hf, go_sem]
    unfold Yields
    rcases e with e | e <;> rw [e] <;> exact h _ (hB.set k v) ((Kept.refl (fun k => k = p) w).setCell ⟨p, k, none⟩ (fun _ => rfl) _)
def stcThg (p : Nat) (t : TypeId) (zs us : List Value) : Thg := ⟨fun w => Stc w p t zs, onB p, fun T w => T = onB p ∧ Stc w p t us, fun _ _ _ h k ha => h.all k (ha p rfl), fun _ _ _ _ h k ha => ⟨h.1, h.2.all k (ha p (by rw [h.1]; rfl))⟩, fun _ h => onB_live h.lt, fun _ _ h => by rw [h.1]; exact onB_live h.2.lt⟩
section
variable {P : Program} {N : Nat} {F : Nat → Value} {w : World} {Q : Exit → (Nat → Value) → World → Prop}
def StepFT (S : Nat → Prop) (M : List (Nat × Nat)) (N : Nat) (P : Program) (D : List (Option Tmp)) (Gs : List Pt) (F0 : Nat → Value) (w0 : World) (i : Nat) (o : Oper) : Prop :=
  ∀ (F : Nat → Value) (w : World), Kept S w0 w → (∀ t, Nat.blt t N = true → some t ∉ D → F t = F0 t) → DepsF D (ToldT w0 Gs M) F w o.after.toList → (∀ k t x, (k = i ∨ (k, i) ∈ M) → Gs.getD k Pt.none = .thg t x → t.A w) →
    match o.guard with
    | none => Yields P (ev F) o w (LeftT Gs i w)
    | some (j, want) => ∃ d, D.getD j none = some d ∧
      ((F d = .bool want ∧ Yields P (ev F) o w (LeftT Gs i w)) ∨ ((F d = .bool (!want) ∨ F d = undef) ∧ Gs.getD i Pt.none = .eq undef))
def StepsFT (S : Nat → Prop) (M : List (Nat × Nat)) (N : Nat) (P : Program) (D : List (Option Tmp)) (Gs : List Pt) (F0 : Nat → Value) (w0 : World) : Nat → List Oper → Prop
  | _, [] => True
  | i, o :: r => StepFT S M N P D Gs F0 w0 i o ∧ StepsFT S M N P D Gs F0 w0 (i + 1) r
theorem stepsFT_nil {S : Nat → Prop} {M : List (Nat × Nat)} {D : List (Option Tmp)} {Gs : List Pt} {F0 : Nat → Value} {w0 : World} {i : Nat} : StepsFT S M N P D Gs F0 w0 i [] := trivial
theorem stepsFT_cons {S : Nat → Prop} {M : List (Nat × Nat)} {D : List (Option Tmp)} {Gs : List Pt} {F0 : Nat → Value} {w0 : World} {i : Nat} {o : Oper} {r : List Oper} (h : StepFT S M N P D Gs F0 w0 i o) (k : StepsFT S M N P D Gs F0 w0 (i + 1) r) : StepsFT S M N P D Gs F0 w0 i (o :: r) := ⟨h, k⟩
theorem StepFT.one {S : Nat → Prop} {M : List (Nat × Nat)} {D : List (Option Tmp)} {Gs : List Pt} {F0 : Nat → Value} {w0 : World} {i : Nat} {o : Oper} (hg : o.guard = none)
    (h : ∀ (F : Nat → Value) (w : World), Kept S w0 w → (∀ t, Nat.blt t N = true → some t ∉ D → F t = F0 t) → DepsF D (ToldT w0 Gs M) F w o.after.toList → Yields P (ev F) o w (LeftT Gs i w)) : StepFT S M N P D Gs F0 w0 i o := by
  intro F w h1 h2 h3 _
  rw [hg]; exact h F w h1 h2 h3
theorem StepFT.oneA {S : Nat → Prop} {M : List (Nat × Nat)} {D : List (Option Tmp)} {Gs : List Pt} {F0 : Nat → Value} {w0 : World} {i : Nat} {o : Oper} (hg : o.guard = none)
    (h : ∀ (F : Nat → Value) (w : World), Kept S w0 w → (∀ t, Nat.blt t N = true → some t ∉ D → F t = F0 t) → DepsF D (ToldT w0 Gs M) F w o.after.toList → (∀ k t x, (k, i) ∈ M → Gs.getD k Pt.none = .thg t x → t.A w) → Yields P (ev F) o w (LeftT Gs i w)) : StepFT S M N P D Gs F0 w0 i o := by
  intro F w h1 h2 h3 h4
  rw [hg]; exact h F w h1 h2 h3 (fun k t x hk => h4 k t x (.inr hk))
theorem StepFT.turn {S : Nat → Prop} {M : List (Nat × Nat)} {D : List (Option Tmp)} {Gs : List Pt} {F0 : Nat → Value} {w0 : World} {i : Nat} {t : Thg} {x : Value} {o : Oper} (hg : o.guard = none) (he : Gs.getD i Pt.none = .thg t x)
    (h : ∀ (F : Nat → Value) (w : World), Kept S w0 w → (∀ t, Nat.blt t N = true → some t ∉ D → F t = F0 t) → DepsF D (ToldT w0 Gs M) F w o.after.toList → t.A w → Yields P (ev F) o w (fun v w' => v = x ∧ Kept t.T w w' ∧ ∃ T', t.B T' w' ∧ Grew w t.T T')) : StepFT S M N P D Gs F0 w0 i o := by
  intro F w h1 h2 h3 h4
  rw [hg]
  refine (h F w h1 h2 h3 (h4 i t x (.inl rfl) he)).mono' fun v w' hx => ?_
  unfold LeftT; rw [he]; exact hx
theorem StepFT.step {S : Nat → Prop} {M : List (Nat × Nat)} {os : List Oper} {D : List (Option Tmp)} {Gs : List Pt} {w0 : World} {i : Nat} {o : Oper} {a0 : Act} (hO : OldT S w0 Gs) (hmo : mustOk os M = true) (hio : os[i]? = some o) (ha : Fr N F a0) (h : StepFT S M N P D Gs F w0 i o) : StepJ os P D (fun L v w => ∃ Tf, JT S w0 Gs M L v Tf w) a0 i o := by
  rintro L v a w ⟨Tf, hJ⟩ hi hdone hout hhere _
  have hdeps : DepsF D (ToldT w0 Gs M) (fun t => a.tmps.getD t undef) w o.after.toList := by
    refine Deps.toF (Deps.mk fun e he hb d hd => ?_)
    have hl := hdone e he hb
    have hDe : D[e.on]? = some (some d) := by
      unfold List.getD at hd
      cases hq : D[e.on]? with
      | none => rw [hq] at hd; cases hd
      | some y => rw [hq] at hd; simp at hd; rw [hd]
    rw [hhere e.on d hl hDe, hJ.vals e.on hl]
    have key : ∀ c, L c = true → onT w0 Gs c w := fun c hc => by
      have ht := hJ.things c
      unfold onT
      unfold isT at ht
      cases e' : Gs.getD c Pt.none with
      | eq y => trivial
      | thg t y =>
        rw [e'] at ht
        simp only [hc, if_true] at ht
        exact ⟨_, ht, hJ.grew c t y e' hc⟩
    exact ⟨rfl, key _ hl, fun c hc => key c (hJ.clos _ _ hc hl)⟩
  have hM : ∀ k, (i, k) ∈ M → L k = true := fun k hk => by
    have := List.all_eq_true.1 hmo _ hk
    simp only [hio] at this
    obtain ⟨e, he, hb⟩ := List.any_eq_true.1 this
    simp only [Bool.and_eq_true, Bool.or_eq_true, beq_iff_eq] at hb
    have hl := hdone e he hb.1
    rcases hb.2 with h1 | h1
    · rw [← h1]; exact hl
    · exact hJ.clos _ _ (by simpa using h1) hl
  have h1 := h (fun t => a.tmps.getD t undef) w hJ.kept (fun t hb ht => by rw [← ha.at' t hb]; exact hout t ht) hdeps (fun k t x hk e => by
    have hLk : L k = false := by
      rcases hk with rfl | hk
      · exact hi
      · cases hL : L k with
        | false => rfl
        | true => have := hJ.clos k i hk hL; rw [hi] at this; cases this
    have := hJ.things k
    unfold isT at this
    rw [e] at this
    simpa [hLk] using this)
  rw [← eval_ev a] at h1
  unfold goes
  cases hg : o.guard with
  | none => rw [hg] at h1; exact ⟨fun _ => h1.mono' fun x w' hx => hJ.more hO hi hM hx, fun e => by cases e⟩
  | some g =>
    obtain ⟨j, want⟩ := g
    rw [hg] at h1
    obtain ⟨d, hd, h1⟩ := h1
    simp only [hd]
    have hev : a.eval (.tmp d) = a.tmps.getD d undef := rfl
    rcases h1 with ⟨hv, hy⟩ | ⟨hv, hs⟩
    · rw [hev, hv]; exact ⟨fun _ => hy.mono' fun x w' hx => hJ.more hO hi hM hx, fun e => by simp at e⟩
    · refine ⟨fun e => ?_, fun _ => hJ.more hO hi hM (by unfold LeftT; rw [hs]; exact ⟨rfl, Kept.refl _ _⟩)⟩
      rcases hv with hv | hv
      · rw [hev, hv] at e; cases want <;> simp at e
      · rw [hev, hv] at e; simp [undef] at e
theorem StepsFT.steps {S : Nat → Prop} {M : List (Nat × Nat)} {all : List Oper} {D : List (Option Tmp)} {Gs : List Pt} {w0 : World} {a0 : Act} (hO : OldT S w0 Gs) (hmo : mustOk all M = true) (ha : Fr N F a0) : ∀ {os : List Oper} {i : Nat}, (∀ k o, os[k]? = some o → all[i + k]? = some o) → StepsFT S M N P D Gs F w0 i os → StepsJ all P D (fun L v w => ∃ Tf, JT S w0 Gs M L v Tf w) a0 i os := by
  intro os
  induction os with
  | nil => intro i _ _; exact trivial
  | cons o r ih =>
    intro i hat h
    exact ⟨h.1.step hO hmo (hat 0 o rfl) ha, ih (fun k o' hk => by have := hat (k + 1) o' hk; rwa [show i + (k + 1) = i + 1 + k by omega] at this) h.2⟩
theorem wq_turns {S : Nat → Prop} {id : Nat} {ops : Array Oper} (M : List (Nat × Nat)) (D : List (Option Tmp)) (Gs : List Pt) (hm : P.follows .mixedOrders = true) (hpl : plain N 0 D ops.toList = true) (hmo : mustOk ops.toList M = true) (hsz : Gs.length = ops.size) (hO : OldT S w Gs) (hsteps : StepsFT S M N P D Gs F w 0 ops.toList)
    (hend : ∀ (v : Nat → Value) (Tf : Nat → Nat → Prop) (F' : Nat → Value) (w' : World), Kept S w w' → (∀ i, i < ops.size → v i = saysT (Gs.getD i Pt.none)) → (∀ i t x, Gs.getD i Pt.none = .thg t x → t.B (Tf i) w' ∧ Grew w t.T (Tf i)) → (∀ i j t x t' x', i ≠ j → Gs.getD i Pt.none = .thg t x → Gs.getD j Pt.none = .thg t' x' → Apart (Tf i) (Tf j)) → (∀ t, F' t = putsF v 0 D F t) → Q .normal F' w') : wq none P N (.region id ops true) Q F w := by
  intro a ha
  refine wpIn_wide.2 ?_
  refine wp_region_inv D (fun L v w' => ∃ Tf, JT S w Gs M L v Tf w') hm (by rw [ha.size]; exact hpl) ⟨fun _ => noB, (Kept.refl _ w).drew, fun _ e => (by cases e), fun i => ?_, fun _ _ _ _ e => (by cases e), hO.2, fun _ _ _ e => (by cases e)⟩ (hsteps.steps hO hmo ha (fun k o hk => by rw [Nat.zero_add]; exact hk)) fun L v w' ⟨Tf, hJ⟩ hL => ?_
  · unfold isT
    cases e : Gs.getD i Pt.none with
    | eq y => trivial
    | thg t y => exact t.stA w _ (fun _ => False) (hO.1 i t y e).2 (Kept.refl _ w).drew (fun _ _ z => z)
  · have hlt : ∀ i t x, Gs.getD i Pt.none = .thg t x → L i = true := fun i t x e => by
      refine hL i ?_
      rw [← hsz]
      rcases Nat.lt_or_ge i Gs.length with h' | h'
      · exact h'
      · have : Gs.getD i Pt.none = Pt.none := by simp [List.getD, List.getElem?_eq_none h']
        rw [this] at e; cases e
    refine ⟨putsF v 0 D F, putAll_fr v D 0 F a ha (plain_fits hpl), hend v Tf _ w' hJ.kept (fun i hi => hJ.vals i (hL i hi)) (fun i t x e => ?_) (fun i j t x t' x' hij e1 e2 => ?_) fun _ => rfl⟩
    · have := hJ.things i
      unfold isT at this
      rw [e] at this
      simp only [hlt i t x e, if_true] at this
      exact ⟨this, hJ.grew i t x e (hlt i t x e)⟩
    · have := hJ.apart i j hij
      unfold curT at this
      rw [e1, e2] at this
      simpa only [hlt i t x e1, hlt j t' x' e2, if_true] using this
end
end Go.Proofs.YtknjpdcpmpfklaaGreatDoor
set_option maxRecDepth 100000
namespace Go.Proofs.YtknjpdcpmpfklaaGreatDoor
open Go.RowKit
def hold (L : Nat → Bool) (v : Nat → Value) (C : Nat → List Nat) (vI : Value) (lI : List Nat) : List Nat → Value × List Nat
  | [] => (vI, lI)
  | x :: r => if L x = true then (v x, C x) else hold L v C vI lI r
def Closed (L : Nat → Bool) : List Nat → Prop
  | [] => True
  | [_] => True
  | y :: x :: r => (L y = true → L x = true) ∧ Closed L (x :: r)
theorem Closed.later {L : Nat → Bool} : ∀ {ys : List Nat} {x : Nat} {r : List Nat}, Closed L (ys ++ x :: r) → L x = false → ∀ y ∈ ys, L y = false := by
  intro ys
  induction ys with
  | nil => intro x r _ _ y hy; cases hy
  | cons z zs ih =>
    intro x r h hx y hy
    have hrec : Closed L (zs ++ x :: r) := by
      cases zs with
      | nil => exact h.2
      | cons z' zs' => exact h.2
    have hzs := ih hrec hx
    rcases List.mem_cons.1 hy with rfl | hy
    · cases hz : L y with
      | false => rfl
      | true =>
        cases zs with
        | nil => have := h.1 hz; rw [hx] at this; cases this
        | cons z' zs' => have := h.1 hz; rw [hzs z' (by simp)] at this; cases this
    · exact hzs y hy
theorem hold_later {L : Nat → Bool} {v : Nat → Value} {C : Nat → List Nat} {vI : Value} {lI : List Nat} : ∀ {ys r : List Nat}, (∀ y ∈ ys, L y = false) → hold L v C vI lI (ys ++ r) = hold L v C vI lI r := by
  intro ys
  induction ys with
  | nil => intro r _; rfl
  | cons z zs ih =>
    intro r h
    simp only [List.cons_append, hold]
    rw [if_neg (by rw [h z (by simp)]; decide)]
    exact ih (fun y hy => h y (by simp [hy]))
theorem Closed.up {L : Nat → Bool} : ∀ {X : List Nat} {i : Nat}, Closed L X → (∀ ys x r, X = ys ++ i :: x :: r → L x = true) → Closed (upL L i) X := by
  intro X
  induction X with
  | nil => intro i _ _; exact trivial
  | cons y r ih =>
    intro i h hp
    cases r with
    | nil => exact trivial
    | cons x r =>
      refine ⟨fun hy => ?_, ih h.2 fun ys x' r' e => hp (y :: ys) x' r' (by rw [e]; rfl)⟩
      unfold upL at hy ⊢
      by_cases hx : x = i
      · rw [if_pos hx]
      · rw [if_neg hx]
        by_cases hyi : y = i
        · subst hyi; exact hp [] x r rfl
        · rw [if_neg hyi] at hy; exact h.1 hy
theorem Closed.up_other {L : Nat → Bool} {X : List Nat} {i : Nat} (h : Closed L X) (hi : i ∉ X) : Closed (upL L i) X :=
  h.up fun ys x r e => absurd (by rw [e]; simp) hi
theorem hold_up_other {L : Nat → Bool} {v : Nat → Value} {C : Nat → List Nat} {vI : Value} {lI : List Nat} {i : Nat} {x : Value} : ∀ {X : List Nat}, i ∉ X → hold (upL L i) (upV v i x) C vI lI X = hold L v C vI lI X := by
  intro X
  induction X with
  | nil => intro _; rfl
  | cons y r ih =>
    intro hi
    have hy : y ≠ i := fun e => hi (by simp [e])
    simp only [hold]
    rw [show upL L i y = L y from if_neg hy, show upV v i x y = v y from if_neg hy, ih (fun h => hi (by simp [h]))]
def OwnJ (w0 : World) (S0 : Nat → Prop) (B : Nat) (vI : Value) (lI : List Nat) (X : List Nat) (C : Nat → List Nat) (G : Nat → Value → World → Prop) (L : Nat → Bool) (v : Nat → Value) (w : World) : Prop :=
  ∃ S : Nat → Prop, (∀ k, S k → k < w.heap.size) ∧ (∀ k, S k → S0 k ∨ w0.heap.size ≤ k) ∧ Kept S w0 w ∧ Closed L X ∧ (∀ j, L j = true → ∀ w', Kept S w w' → G j (v j) w') ∧
    Row w B (hold L v C vI lI X).1 (hold L v C vI lI X).2 ∧ (∀ g, (hold L v C vI lI X).1.ownBlock = some g → S g)
theorem StepJ.other {os : List Oper} {P : Program} {D : List (Option Tmp)} {w0 : World} {S0 : Nat → Prop} {B : Nat} {vI : Value} {lI X : List Nat} {C : Nat → List Nat} {G : Nat → Value → World → Prop} {a0 : Act} {i : Nat} {o : Oper} (hi : i ∉ X)
    (h : ∀ (S : Nat → Prop) (a : Act) (w : World), (∀ k, S k → k < w.heap.size) → (∀ w', Kept S w w' → Kept S0 w0 w') → (∀ t, some t ∉ D → a.eval (.tmp t) = a0.eval (.tmp t)) → (∀ t, late os t i = true → a.eval (.tmp t) = a0.eval (.tmp t)) →
      Deps D (fun j x w => ∀ w', Kept S w w' → G j x w') a w o.after.toList → (∀ x, X.head? = some x → ∀ e ∈ o.after.toList, e.on = x → Region.binds .any e = true → ∀ d, D.getD x none = some d → Row w B (a.eval (.tmp d)) (C x)) →
      (goes D o a = true → Yields P a.eval o w (fun x w' => (∀ w'', Kept S w' w'' → G i x w'') ∧ Kept (fun _ => False) w w')) ∧ (goes D o a = false → ∀ w', Kept S w w' → G i undef w')) :
    StepJ os P D (OwnJ w0 S0 B vI lI X C G) a0 i o := by
  intro L v a w ⟨S, hlt, h0, hk, hcl, hg, hrow, hown⟩ hli hedges hout hhere hlate
  have hR : ∀ w', Kept S w w' → Kept S0 w0 w' := fun w' k => (hk.trans k (fun _ _ x => x)).mono (fun b hb hS => by
    rcases h0 b hS with h | h
    · exact h
    · omega)
  have hdeps : Deps D (fun j x w => ∀ w', Kept S w w' → G j x w') a w o.after.toList := Deps.mk fun e he hb d hd => by
    have hL := hedges e he hb
    have hDe : D[e.on]? = some (some d) := by
      cases hx : D[e.on]? with
      | none => simp [List.getD, hx] at hd
      | some y => simp [List.getD, hx] at hd; rw [hd]
    rw [hhere e.on d hL hDe]
    exact hg e.on hL
  have hr : ∀ x, X.head? = some x → ∀ e ∈ o.after.toList, e.on = x → Region.binds .any e = true → ∀ d, D.getD x none = some d → Row w B (a.eval (.tmp d)) (C x) := by
    intro x hx e he hex hb d hd
    subst hex
    have hL := hedges e he hb
    have hDe : D[e.on]? = some (some d) := by
      cases hx : D[e.on]? with
      | none => simp [List.getD, hx] at hd
      | some y => simp [List.getD, hx] at hd; rw [hd]
    rw [hhere e.on d hL hDe]
    cases X with
    | nil => cases hx
    | cons y r =>
      simp at hx
      subst hx
      simpa [hold, hL] using hrow
  obtain ⟨s1, s2⟩ := h S a w hlt hR hout hlate hdeps hr
  have fin : ∀ (x : Value) (w' : World), (∀ w'', Kept S w' w'' → G i x w'') → Kept (fun _ => False) w w' → OwnJ w0 S0 B vI lI X C G (upL L i) (upV v i x) w' := by
    intro x w' hG hkk
    refine ⟨S, fun k hS => Nat.lt_of_lt_of_le (hlt k hS) hkk.size, h0, hk.trans hkk (fun _ _ f => f.elim), hcl.up_other hi, fun j hj w'' k => ?_, ?_, ?_⟩
    · by_cases hji : j = i
      · subst hji; rw [show upV v j x j = x from if_pos rfl]; exact hG w'' k
      · rw [show upL L i j = L j from if_neg hji] at hj
        rw [show upV v i x j = v j from if_neg hji]
        exact hg j hj w'' ((hkk.mono (S' := S) (fun _ _ f => f.elim)).trans k (fun _ _ f => f))
    · rw [hold_up_other hi]; exact hrow.all hkk
    · rw [hold_up_other hi]; exact hown
  refine ⟨fun hgo => ?_, fun hgo => fin undef w (s2 hgo) (Kept.refl _ _)⟩
  have := s1 hgo
  revert this
  unfold Yields
  generalize (execOp a.eval o).run P w = r
  intro hh
  cases r with
  | ok n w' =>
    cases n <;> simp only at hh ⊢ <;> first
      | exact fin _ _ hh.1 hh.2
      | exact hh.elim
      | exact Calls.mono hh (fun e w'' ⟨y, he, hk⟩ => ⟨y, he, fin _ _ hk.1 hk.2⟩)
  | halt x w' => exact hh.elim
def Prev (D : List (Option Tmp)) (C : Nat → List Nat) (vI : Value) (lI : List Nat) (a : Act) (p : Value) (lp : List Nat) : List Nat → Prop
  | [] => p = vI ∧ lp = lI
  | x :: _ => lp = C x ∧ ∀ d, D.getD x none = some d → p = a.eval (.tmp d)
theorem StepJ.own {os : List Oper} {P : Program} {D : List (Option Tmp)} {w0 : World} {S0 : Nat → Prop} {B : Nat} {vI : Value} {lI X : List Nat} {C : Nat → List Nat} {G : Nat → Value → World → Prop} {a0 : Act} {i : Nat} {o : Oper} (ys r : List Nat) (hX : X = ys ++ i :: r) (hnd : i ∉ ys ∧ i ∉ r)
    (hr : ∀ x, r.head? = some x → ∃ e ∈ o.after.toList, e.on = x ∧ Region.binds .any e = true ∧ ∃ d, D.getD x none = some d) (hG : ∀ x w, G i x w)
    (h : ∀ (S : Nat → Prop) (a : Act) (w : World), (∀ k, S k → k < w.heap.size) → (∀ w', Kept S w w' → Kept S0 w0 w') → (∀ t, some t ∉ D → a.eval (.tmp t) = a0.eval (.tmp t)) → (∀ t, late os t i = true → a.eval (.tmp t) = a0.eval (.tmp t)) →
      Deps D (fun j x w => ∀ w', Kept S w w' → G j x w') a w o.after.toList → ∀ (p : Value) (lp : List Nat), Row w B p lp →
      Prev D C vI lI a p lp r →
      goes D o a = true ∧ Yields P a.eval o w (fun x w' => Row w' B x (C i) ∧ Kept (fun k => p.ownBlock = some k) w w' ∧ (x.ownBlock = p.ownBlock ∨ ∀ g, x.ownBlock = some g → w.heap.size ≤ g))) :
    StepJ os P D (OwnJ w0 S0 B vI lI X C G) a0 i o := by
  intro L v a w ⟨S, hlt, h0, hk, hcl, hg, hrow, hown⟩ hli hedges hout hhere hlate
  subst hX
  have hlater := hcl.later hli
  have hhold : hold L v C vI lI (ys ++ i :: r) = hold L v C vI lI r := by
    rw [hold_later hlater]
    show (if L i = true then (v i, C i) else hold L v C vI lI r) = hold L v C vI lI r
    rw [if_neg (by rw [hli]; decide)]
  rw [hhold] at hrow hown
  have hR : ∀ w', Kept S w w' → Kept S0 w0 w' := fun w' k => (hk.trans k (fun _ _ x => x)).mono (fun b hb hS => by
    rcases h0 b hS with h | h
    · exact h
    · omega)
  have hat : ∀ (j : Nat) (d : Tmp), D.getD j none = some d → D[j]? = some (some d) := by
    intro j d hd
    cases hx : D[j]? with
    | none => simp [List.getD, hx] at hd
    | some y => simp [List.getD, hx] at hd; rw [hd]
  have hdeps : Deps D (fun j x w => ∀ w', Kept S w w' → G j x w') a w o.after.toList := Deps.mk fun e he hb d hd => by
    have hL := hedges e he hb
    rw [hhere e.on d hL (hat e.on d hd)]
    exact hg e.on hL
  have hlx : ∀ x, r.head? = some x → L x = true := by
    intro x hx
    obtain ⟨e, he, rfl, hb, _⟩ := hr x hx
    exact hedges e he hb
  have hp : Prev D C vI lI a (hold L v C vI lI r).1 (hold L v C vI lI r).2 r := by
    clear hhold hrow hown hcl h
    cases r with
    | nil => exact ⟨rfl, rfl⟩
    | cons x r' =>
      have hL := hlx x rfl
      have e1 : hold L v C vI lI (x :: r') = (v x, C x) := by
        show (if L x = true then (v x, C x) else hold L v C vI lI r') = _
        rw [if_pos hL]
      refine ⟨by rw [e1], fun d hd => ?_⟩
      rw [e1, hhere x d hL (hat x d hd)]
  obtain ⟨hgo, hy⟩ := h S a w hlt hR hout hlate hdeps _ _ hrow hp
  generalize (hold L v C vI lI r).1 = p at *
  have fin : ∀ (x : Value) (w' : World), Row w' B x (C i) → Kept (fun k => p.ownBlock = some k) w w' → (x.ownBlock = p.ownBlock ∨ ∀ g, x.ownBlock = some g → w.heap.size ≤ g) → OwnJ w0 S0 B vI lI (ys ++ i :: r) C G (upL L i) (upV v i x) w' := by
    intro x w' hrx hkk hwh
    have hkS : Kept S w w' := hkk.mono (fun k _ e => hown k e)
    refine ⟨fun k => S k ∨ x.ownBlock = some k, ?_, ?_, ?_, ?_, ?_, ?_, ?_⟩
    · rintro k (hS | hx)
      · exact Nat.lt_of_lt_of_le (hlt k hS) hkk.size
      · exact (hrx.lt k hx).2
    · rintro k (hS | hx)
      · exact h0 k hS
      · rcases hwh with e | e
        · exact h0 k (hown k (by rw [← e]; exact hx))
        · exact .inr (Nat.le_trans hk.size (e k hx))
    · exact (hk.trans hkS (fun _ _ x => x)).mono (fun _ _ x => .inl x)
    · refine hcl.up fun ys' x' r' e => ?_
      -- the two ways to part the list are one
      have key : ∀ (zs ys' : List Nat) (x' : Nat) (r r' : List Nat), i ∉ zs → i ∉ ys' → zs ++ i :: r = ys' ++ i :: x' :: r' → r = x' :: r' := by
        intro zs
        induction zs with
        | nil =>
          intro ys' x' r r' _ hy e
          cases ys' with
          | nil => simpa using e
          | cons z zs => simp at e; exact absurd e.1 (fun h => hy (by simp [h]))
        | cons z zs ih =>
          intro ys' x' r r' hz hy e
          cases ys' with
          | nil => simp at e; exact absurd e.1.symm (fun h => hz (by simp [h]))
          | cons y ys'' => simp at e; exact ih ys'' x' r r' (fun h => hz (by simp [h])) (fun h => hy (by simp [h])) e.2
      have hin : i ∉ ys' := by
        intro hm
        have hc : (ys ++ i :: r).count i = 1 := by rw [List.count_append, List.count_eq_zero_of_not_mem hnd.1, List.count_cons_self, List.count_eq_zero_of_not_mem hnd.2]
        rw [e, List.count_append, List.count_cons_self] at hc
        have := List.count_pos_iff.2 hm
        omega
      have := key ys ys' x' r r' hnd.1 hin e
      subst this
      exact hlx x' rfl
    · intro j hj w'' k
      by_cases hji : j = i
      · subst hji; exact hG _ _
      · rw [show upL L i j = L j from if_neg hji] at hj
        rw [show upV v i x j = v j from if_neg hji]
        refine hg j hj w'' (hkS.trans k fun b hb hS => ?_)
        rcases hS with hS | hx
        · exact hS
        · rcases hwh with e | e
          · exact hown b (by rw [← e]; exact hx)
          · have := e b hx; omega
    · have e : hold (upL L i) (upV v i x) C vI lI (ys ++ i :: r) = (x, C i) := by
        rw [hold_later (fun y hym => by rw [show upL L i y = L y from if_neg (fun h : y = i => hnd.1 (by rw [← h]; exact hym))]; exact hlater y hym)]
        show (if upL L i i = true then (upV v i x i, C i) else _) = _
        rw [if_pos (show upL L i i = true from if_pos rfl), show upV v i x i = x from if_pos rfl]
      rw [e]; exact hrx
    · have e : hold (upL L i) (upV v i x) C vI lI (ys ++ i :: r) = (x, C i) := by
        rw [hold_later (fun y hym => by rw [show upL L i y = L y from if_neg (fun h : y = i => hnd.1 (by rw [← h]; exact hym))]; exact hlater y hym)]
        show (if upL L i i = true then (upV v i x i, C i) else _) = _
        rw [if_pos (show upL L i i = true from if_pos rfl), show upV v i x i = x from if_pos rfl]
      rw [e]
      intro g hgx
      exact .inr hgx
  refine ⟨fun _ => ?_, fun hno => ?_⟩
  · revert hy
    unfold Yields
    generalize (execOp a.eval o).run P w = res
    intro hh
    cases res with
    | ok n w' =>
      cases n <;> simp only at hh ⊢ <;> first
        | exact fin _ _ hh.1 hh.2.1 hh.2.2
        | exact hh.elim
        | exact Calls.mono hh (fun e w'' ⟨y, he, hk⟩ => ⟨y, he, fin _ _ hk.1 hk.2.1 hk.2.2⟩)
    | halt x w' => exact hh.elim
  · rw [hgo] at hno; cases hno
section
variable {os : List Oper} {P : Program} {D : List (Option Tmp)} {w0 : World} {S0 : Nat → Prop} {B : Nat} {vI : Value} {lI X : List Nat} {C : Nat → List Nat} {Gs : List Pd} {a0 : Act} {i : Nat} {o : Oper}
theorem StepJ.one (hi : i ∉ X) (hg : o.guard = none)
    (h : ∀ (S : Nat → Prop) (a : Act) (w : World), (∀ k, S k → k < w.heap.size) → (∀ w', Kept S w w' → Kept S0 w0 w') → (∀ t, some t ∉ D → a.eval (.tmp t) = a0.eval (.tmp t)) → (∀ t, late os t i = true → a.eval (.tmp t) = a0.eval (.tmp t)) →
      Deps D (fun j x w => ∀ w', Kept S w w' → Said Gs j x w') a w o.after.toList → (∀ x, X.head? = some x → ∀ e ∈ o.after.toList, e.on = x → Region.binds .any e = true → ∀ d, D.getD x none = some d → Row w B (a.eval (.tmp d)) (C x)) →
      Yields P a.eval o w (fun x w' => (∀ w'', Kept S w' w'' → Said Gs i x w'') ∧ Kept (fun _ => False) w w')) :
    StepJ os P D (OwnJ w0 S0 B vI lI X C (Said Gs)) a0 i o :=
  StepJ.other hi fun S a w hlt hR hout hlate hD hrow => ⟨fun _ => h S a w hlt hR hout hlate hD hrow, fun hno => by unfold goes at hno; rw [hg] at hno; cases hno⟩
end
end Go.Proofs.YtknjpdcpmpfklaaGreatDoor
set_option maxRecDepth 100000
namespace Go.Proofs.YtknjpdcpmpfklaaGreatDoor
open Go.RowKit
theorem byteVals_zeros (n : Nat) : (madeCells (Value.int .u8 0).cells n).toList = byteVals (List.replicate n 0) := by
  unfold madeCells byteVals Value.cells
  rw [List.map_replicate]
  apply List.ext_getElem?
  intro i
  by_cases h : i < n
  · simp [h, Nat.mod_one]
  · simp [h]
theorem run_make_bytes (w : World) (kl kc : IntKind) (n : Nat) (hn : n < 1099511627776) :
    (Instr.makeSlice 26 (.int kl (n : Int)) (.int kc (n : Int))).run Tryz.prog w = .ok (.slice (some ⟨w.heap.size, 0, none⟩) n n) (w.alloc (.cells (byteVals (List.replicate n 0)).toArray 5)) := by
  obtain ⟨i0, hi, hz0, hz1, hz2⟩ := info_parts Tryz.info_u8
  have hr := run_make (P := Tryz.prog) w 26 5 i0 (.int .u8 0) Tryz.underlying26 hi hz0 kl kc n n (by omega) (Int.le_refl _) (by rw [hz2]; omega) (by omega)
  simp only [Int.toNat_natCast, hz1, Nat.mul_one] at hr
  rw [hr, ← byteVals_zeros]
theorem zeros_lt (n : Nat) : ∀ x ∈ List.replicate n 0, x < 256 := by intro x hx; have := (List.mem_replicate.1 hx).2; omega
theorem row_zeros (w : World) (B n : Nat) (hB : B ≤ w.heap.size) (hn : n < 1099511627776) : Row (w.alloc (.cells (byteVals (List.replicate n 0)).toArray 5)) B (.slice (some ⟨w.heap.size, 0, none⟩) n n) (List.replicate n 0) := by
  have h := Row.of_new (B := B) (l := List.replicate n 0) (heap_alloc_new w _) hB (by rw [List.length_replicate]; unfold maxLen; omega) (zeros_lt n)
  rwa [List.length_replicate] at h
theorem y_make {ρ : Operand → Value} {o : Oper} {w : World} {R : Value → World → Prop} {x y : Operand} {kl kc : IntKind} {n : Nat} (ho : o.op = .makeSlice 26 x y) (hx : ρ x = .int kl (n : Int)) (hy : ρ y = .int kc (n : Int)) (hn : n < 1099511627776)
    (h : R (.slice (some ⟨w.heap.size, 0, none⟩) n n) (w.alloc (.cells (byteVals (List.replicate n 0)).toArray 5))) : Yields Tryz.prog ρ o w R :=
  y_val (by simp [execOp, ho, hx, hy, run_make_bytes w kl kc n hn]) h
theorem y_built1 {ρ : Operand → Value} {o : Oper} {w : World} {R : Value → World → Prop} {x : Operand} {c : Nat} (ho : o.op = .buildSlice 26 1 #[(0, x)]) (hx : ρ x = .int .u8 (c : Int))
    (h : R (.slice (some ⟨w.heap.size, 0, none⟩) 1 1) (w.alloc (.cells (byteVals [c]).toArray 5))) : Yields Tryz.prog ρ o w R :=
  y_val (v := .slice (some ⟨w.heap.size, 0, none⟩) 1 1) (w' := w.alloc (.cells (byteVals [c]).toArray 5)) (by simp [execOp, ho, hx, go_sem]; rfl) h
theorem BytesArg.upto {w : World} {v : Value} {l : List Nat} (h : BytesArg w v l) (j : Nat) (hj : j ≤ l.length) (k : IntKind) :
    ∃ v', (Instr.sliceAt 26 v none (some (.int k (j : Int))) none).run Tryz.prog w = .ok v' w ∧ BytesArg w v' (l.take j) := by
  obtain ⟨a, cap, rfl, h1, h2, h3, h256, hc⟩ := h
  have hb : ¬ cap < j := by omega
  have hb0 : BytesArg w (.slice a l.length cap) l := ⟨a, cap, rfl, h1, h2, h3, h256, hc⟩
  obtain ⟨i0, hi, hz0, hz1, hz2⟩ := info_parts Tryz.info_u8
  refine ⟨.slice a j cap, ?_, ?_⟩
  · cases a with
    | none => simp [Instr.sliceAt, Instr.slice, Instr.sliceBounds, Instr.sliceBound, asIntOf, run_underlying Tryz.underlying26, sizeOf, typeInfo, hi, hb]
    | some ad => simp [Instr.sliceAt, Instr.slice, Instr.sliceBounds, Instr.sliceBound, asIntOf, run_underlying Tryz.underlying26, sizeOf, typeInfo, hi, hb, Addr.add]
  · have := hb0.cut 0 j cap (Nat.zero_le _) hj (by omega) h2 a (fun _ => by cases a with | none => rfl | some ad => simp [Addr.add]) h3
    simpa using this
end Go.Proofs.YtknjpdcpmpfklaaGreatDoor
set_option maxRecDepth 100000
namespace Go.Proofs.YtknjpdcpmpfklaaGreatDoor
open Go.RowKit
def Owb (w : World) (T : Nat → Prop) (v : Value) (l : List Nat) : Prop := Row w 0 v l ∧ ∀ i, T i ↔ v.ownBlock = some i
theorem Owb.nil (w : World) : Owb w noB (.slice none 0 0) [] := ⟨Row.nil w 0, fun i => ⟨fun h => h.elim, fun h => by cases h⟩⟩
theorem Owb.live {w : World} {T : Nat → Prop} {v : Value} {l : List Nat} (h : Owb w T v l) : Live w T := fun i hi => (h.1.lt i ((h.2 i).1 hi)).2
theorem Owb.byt {w : World} {T : Nat → Prop} {v : Value} {l : List Nat} (h : Owb w T v l) : Byt w T v l := ⟨h.1.bytes, h.live, fun _ a n c e => (h.2 a.block).2 (by rw [e]; rfl)⟩
theorem Owb.all {S : Nat → Prop} {w w' : World} {T : Nat → Prop} {v : Value} {l : List Nat} (h : Owb w T v l) (k : Kept S w w') (ha : Apart T S) : Owb w' T v l := ⟨h.1.kept k (fun g hg => ha g ((h.2 g).2 hg)), h.2⟩
theorem Owb.one {w : World} {T : Nat → Prop} {v : Value} {l : List Nat} (h : Owb w T v l) : v.oneCell' = true := h.byt.one
theorem Owb.oneC {w : World} {T : Nat → Prop} {v : Value} {l : List Nat} (h : Owb w T v l) : oneC v = true := h.byt.oneC
theorem Owb.cells {w : World} {T : Nat → Prop} {v : Value} {l : List Nat} (h : Owb w T v l) : Cells w T := fun i hi => by
  have hv := (h.2 i).1 hi
  rcases h.1.1.2 with ⟨rfl, _⟩ | ⟨g, cap, cur, rfl, _, hg, _⟩
  · cases hv
  · cases hv; exact ⟨_, hg, rfl⟩
theorem Owb.row {A B : World} {row : Option Nat} {n : Nat} {T : Nat → Prop} {v : Value} {l : List Nat} (h : Owb A T v l) (hg : A.grownBy B row) (hr : RowNew n A row) : Owb B T v l := h.all (kept_row hg) (h.cells.apart hr)
theorem Owb.lt256 {w : World} {T : Nat → Prop} {v : Value} {l : List Nat} (h : Owb w T v l) : ∀ x ∈ l, x < 256 := h.1.2
theorem Owb.of {w : World} {v : Value} {l : List Nat} (h : Row w 0 v l) : Owb w (fun i => v.ownBlock = some i) v l := ⟨h, fun _ => Iff.rfl⟩
theorem Byt.lt256 {w : World} {T : Nat → Prop} {v : Value} {l : List Nat} (h : Byt w T v l) : ∀ x ∈ l, x < 256 := h.1.lt256
def bytAddr (v : Value) (j : Nat) : Value := match v with
  | .slice (some a) _ _ => .pointer (some (a.add j))
  | _ => undef
section
variable {ρ : Operand → Value} {o : Oper} {w : World} {R : Value → World → Prop}
theorem y_atB {x ix : Operand} {T : Nat → Prop} {v : Value} {l : List Nat} {k : IntKind} (j : Nat) {i : Int} (ho : o.op = .indexAddr 26 x ix) (hx : ρ x = v) (hi : ρ ix = .int k i) (hij : i = (j : Int)) (hb : Byt w T v l) (hj : j < l.length) (h : R (bytAddr v j) w) : Yields Tryz.prog ρ o w R := by
  subst hij
  obtain ⟨⟨a, cap, rfl, _, _, _, _, hc⟩, _⟩ := hb
  obtain ⟨b, off, rfl, _, _⟩ := hc (by omega)
  obtain ⟨i0, hi0, hz0, hz1, hz2⟩ := info_parts Tryz.info_u8
  exact y_val (v := bytAddr (.slice (some ⟨b, off, none⟩) l.length cap) j) (w' := w) (by simp [execOp, ho, hx, hi, Instr.indexAt, run_underlying Tryz.underlying26, asIntOf, sizeOf, typeInfo, hi0, hz1, hj, bytAddr]) h
theorem Byt.at_ {w : World} {T : Nat → Prop} {v : Value} {l : List Nat} {j : Nat} (hb : Byt w T v l) (hj : j < l.length) : ∃ a, bytAddr v j = .pointer (some a) ∧ w.cell? a = some (.int .u8 (l.getD j 0 : Nat)) := by
  obtain ⟨⟨a, cap, rfl, _, _, _, _, hc⟩, _⟩ := hb
  obtain ⟨b, off, rfl, _, hcell⟩ := hc (by omega)
  exact ⟨⟨b, off + j, none⟩, by rw [bytAddr, Addr.add_lit], hcell j hj⟩
theorem y_ldB {x : Operand} {T : Nat → Prop} {v : Value} {l : List Nat} {j : Nat} (ho : o.op = .load 5 x) (hx : ρ x = bytAddr v j) (hb : Byt w T v l) (hj : j < l.length) (h : R (.int .u8 ((l.getD j 0 : Nat) : Int)) w) : Yields Tryz.prog ρ o w R := by
  obtain ⟨a, ha, hc⟩ := hb.at_ hj
  exact y_ldA ho (hx.trans ha) Tryz.underlying5 rfl hc h
end
theorem run_append_where (w : World) (ty : TypeId) (v x : Value) (l m : List Nat) (hown : Row w 0 v l) (hx : BytesArg w x m) (hl : l.length + m.length < 1099511627776) :
    ∃ v' w', (Builtin.append_ #[26, 26] ty #[v, x]).run Tryz.prog w = .ok v' w' ∧ Appended w w' 0 v v' (l ++ m) ∧ (v'.ownBlock = v.ownBlock ∨ ∀ i, v'.ownBlock = some i → w.heap.size ≤ i) := by
  obtain ⟨v', w', hr, hA⟩ := run_append_bytes w ty 0 v x l m hown hx hl (Nat.zero_le _)
  refine ⟨v', w', hr, hA, ?_⟩
  obtain ⟨i0, hi, hz0, hz1, hz2⟩ := info_parts Tryz.info_u8
  obtain ⟨a, cap, rfl, h1, h2, h3, h256, hc⟩ := hx
  rcases hown.1.2 with ⟨rfl, h0⟩ | ⟨g, cp, cur, rfl, hb, hg, hnc, hcm, hcs, htake⟩
  · -- none yet: whatever there is is new
    right
    intro i hi'
    have hnil : l = [] := List.eq_nil_of_length_eq_zero h0
    subst hnil
    obtain ⟨v2, w2, hr2, hA2⟩ := run_append_bytes w ty w.heap.size (.slice none 0 0) (.slice a m.length cap) [] m (Row.nil w _) ⟨a, cap, rfl, h1, h2, h3, h256, hc⟩ (by simpa using hl) (Nat.le_refl _)
    rw [hr] at hr2
    cases hr2
    exact (hA2.1.lt i hi').1
  · cases a with
    | none =>
      have hc0 := h3 rfl
      subst hc0
      have hm : m = [] := List.eq_nil_of_length_eq_zero (by omega)
      subst hm
      left
      have hr2 := run_append_owned_none (P := Tryz.prog) w 0 26 ty _ i0 1 Tryz.underlying26 hi (.slice (some ⟨g, 0, none⟩) l.length cp) _ _ hown.1
      simp only [List.length_nil] at hr
      rw [hr2] at hr
      cases hr; rfl
    | some ad =>
      have hcells : ∀ j u, (byteVals m)[j]? = some u → w.cell? (ad.add j) = some u := by
        intro j u hj
        have hjl : j < m.length := by
          have := (List.getElem?_eq_some_iff.1 hj).1
          rwa [byteVals_length] at this
        obtain ⟨b, off, he, hb, hcell⟩ := hc (by omega)
        cases he
        rw [Addr.add_lit, hcell j hjl, ← hj, byteVals_at m j hjl]
      by_cases hroom : l.length + m.length ≤ cp
      · left
        have hr2 := run_append_room (P := Tryz.prog) w 26 ty 5 i0 Tryz.underlying26 hi g l.length cp cur hg ad m.length cap (byteVals m) (by rw [hz1, byteVals_length]; omega) hcells (byteVals_one m) hroom (by rw [hz1, byteVals_length, hcs]; omega)
        rw [hr2] at hr
        cases hr; rfl
      · right
        intro i hi'
        have hr2 := run_append_grow (P := Tryz.prog) w 26 ty 5 i0 (.int .u8 0) Tryz.underlying26 hi hz0 ⟨g, 0, none⟩ l.length cp (byteVals l) (by rw [hz1, byteVals_length]; omega) (hown.1.cells rfl) ad m.length cap (byteVals m) (by rw [hz1, byteVals_length]; omega) hcells (by omega) (by omega) (growslice_fits (by omega) (by rw [hz2]; omega))
        rw [hr2] at hr
        cases hr
        cases hi'; exact Nat.le_refl _
section
variable {ro : Option Nat} {N : Nat} {Q : (Exit → (Nat → Value) → World → Prop)} {F : Nat → Value} {w : World} {o : Oper}
theorem wl_makeB {ops : Array Oper} {rest : List Oper} {x y : Operand} {kl kc : IntKind} {n : Nat} {i j : Int} (hg : o.guard = none) (hd : fits N o.dst = true) (ho : o.op = .makeSlice 26 x y) (hx : ev (cutF N F) x = .int kl i) (hy : ev (cutF N F) y = .int kc j) (hi : i = (n : Int)) (hj : j = (n : Int)) (hn : n < 1099511627776)
    (h : ∀ v w' T, Owb w' T v (List.replicate n 0) → Grew w noB T → Kept (fun _ => False) w w' → wl ro Tryz.prog N ops Q rest (putF F o.dst v) w') : wl ro Tryz.prog N ops Q (o :: rest) F w := by
  subst hi; subst hj
  refine wl_op hg hd (y_make ho hx hy hn (h _ _ _ (Owb.of (row_zeros w 0 n (Nat.zero_le _) hn)) (fun i hi => .inr ?_) ((Kept.refl _ _).alloc _)))
  cases hi; exact Nat.le_refl _
theorem wl_builtB0 {ops : Array Oper} {rest : List Oper} (hg : o.guard = none) (hd : fits N o.dst = true) (ho : o.op = .buildSlice 26 0 #[])
    (h : ∀ v w' T, Owb w' T v [] → Grew w noB T → Kept (fun _ => False) w w' → wl ro Tryz.prog N ops Q rest (putF F o.dst v) w') : wl ro Tryz.prog N ops Q (o :: rest) F w := by
  refine wl_op hg hd (y_val (v := .slice (some ⟨w.heap.size, 0, none⟩) 0 0) (w' := w.alloc (.cells (byteVals []).toArray 5)) (by simp [execOp, ho, go_sem]; rfl) (h _ _ _ (Owb.of (Row.of_new (B := 0) (l := []) (heap_alloc_new w _) (Nat.zero_le _) (Nat.zero_le _) (by simp))) (fun i hi => .inr ?_) ((Kept.refl _ _).alloc _)))
  cases hi; exact Nat.le_refl _
theorem wl_builtB1 {ops : Array Oper} {rest : List Oper} {x : Operand} {n : Nat} {z : Int} (hg : o.guard = none) (hd : fits N o.dst = true) (ho : o.op = .buildSlice 26 1 #[(0, x)]) (hx : ev (cutF N F) x = .int .u8 z) (hz : z = (n : Int)) (hn : n < 256)
    (h : ∀ v w' T, Owb w' T v [n] → Grew w noB T → Kept (fun _ => False) w w' → wl ro Tryz.prog N ops Q rest (putF F o.dst v) w') : wl ro Tryz.prog N ops Q (o :: rest) F w := by
  subst hz
  refine wl_op hg hd (y_built1 ho hx (h _ _ _ (Owb.of (Row.of_new (B := 0) (l := [n]) (heap_alloc_new w _) (Nat.zero_le _) (show 1 ≤ maxLen by decide) (by simpa using hn))) (fun i hi => .inr ?_) ((Kept.refl _ _).alloc _)))
  cases hi; exact Nat.le_refl _
theorem wl_appendB {ops : Array Oper} {rest : List Oper} {c : Call} {x y : Operand} {T U : Nat → Prop} {v u : Value} {l m : List Nat} (hg : o.guard = none) (hd : fits N o.dst = true) (ho : o.op = .call c) (hc : c = { callee := .builtin .append, args := #[x, y], argTypes := #[26, 26] }) (hx : ev (cutF N F) x = v) (hy : ev (cutF N F) y = u) (hv : Owb w T v l) (hu : Byt w U u m) (hl : l.length + m.length < 1099511627776)
    (h : ∀ v' w' T', Owb w' T' v' (l ++ m) → Grew w T T' → Kept T w w' → wl ro Tryz.prog N ops Q rest (putF F o.dst v') w') : wl ro Tryz.prog N ops Q (o :: rest) F w := by
  subst hc
  obtain ⟨v', w', hr, hA, hw⟩ := run_append_where w o.type v u l m hv.1 hu.1 hl
  refine wl_op hg hd (y_val (v := v') (w' := w') (by simp [execOp, ho, resolve, invoke, builtin, hx, hy, hr]) (h v' w' _ (Owb.of hA.1) (fun i hi => ?_) ((Kept.refl T w).grown hA.2 (fun k e _ => (hv.2 k).2 e))))
  rcases hw with hw | hw
  · exact .inl ((hv.2 i).2 (hw ▸ hi))
  · exact .inr (hw i hi)
theorem wl_copyB {ops : Array Oper} {rest : List Oper} {c : Call} {x y : Operand} {T U : Nat → Prop} {v u : Value} {l m : List Nat} (hg : o.guard = none) (hd : fits N o.dst = true) (ho : o.op = .call c) (hc : c = { callee := .builtin .copy, args := #[x, y], argTypes := #[26, 26] }) (hx : ev (cutF N F) x = v) (hy : ev (cutF N F) y = u) (hv : Owb w T v l) (hu : Byt w U u m) (hl : l.length = m.length)
    (h : ∀ w', Owb w' T v m → Kept T w w' → wl ro Tryz.prog N ops Q rest (putF F o.dst (.int .i64 ((m.length : Nat) : Int))) w') : wl ro Tryz.prog N ops Q (o :: rest) F w := by
  subst hc
  have hsz : (Tryz.prog.info? 5).map (·.size) = some 1 := by
    obtain ⟨i0, hi0, hz0, hz1, hz2⟩ := info_parts Tryz.info_u8
    rw [hi0]; simp [hz1]
  obtain ⟨⟨a, cap, rfl, h1, h2, h3, h256, hcu⟩, _⟩ := hu
  obtain ⟨sa, scap, hsv⟩ := hv.1.shape
  by_cases h0 : m.length = 0
  · have hm : m = [] := List.eq_nil_of_length_eq_zero h0
    subst hm
    have hnil : l = [] := List.eq_nil_of_length_eq_zero hl
    subst hnil
    have hrun := run_copy_none (P := Tryz.prog) w 26 26 o.type 5 sa a 0 scap 0 cap Tryz.underlying26 hsz rfl
    refine wl_op hg hd (y_val (v := .int .i64 0) (w' := w) (by simp [execOp, ho, resolve, invoke, builtin, hx, hy, hsv, hrun, Result.andThen]; rfl) (h w hv (Kept.refl _ _)))
  · obtain ⟨b, off, rfl, _, hcell⟩ := hcu (by omega)
    rcases hv.1.1.2 with ⟨rfl, hz⟩ | ⟨g, cp, cur, rfl, hb, hgg, hnc, hcm, hcs, htake⟩
    · omega
    · have hrun := run_copy_row (P := Tryz.prog) w 26 26 o.type 5 g 0 l.length cp ⟨b, off, none⟩ m.length cap cur 5 (byteVals m) Tryz.underlying26 hsz hgg (by rw [byteVals_length, hl]; simp) (fun j u hj => by
        have hjl : j < m.length := by
          have := (List.getElem?_eq_some_iff.1 hj).1
          rwa [byteVals_length] at this
        rw [Addr.add_lit, hcell j hjl, ← hj, byteVals_at m j hjl]) (by rw [byteVals_length]; omega) (byteVals_one m)
      refine wl_op hg hd (y_val (v := .int .i64 ((m.length : Nat) : Int)) (w' := w.setRow g (cur.toList.take 0 ++ (byteVals m ++ cur.toList.drop (0 + (byteVals m).length))).toArray) (by simp [execOp, ho, resolve, invoke, builtin, hx, hy, hrun, Result.andThen, byteVals_length]; rfl) (h _ ⟨⟨⟨?_, .inr ⟨g, cp, _, ?_, Nat.zero_le _, setRow_heap w g cur _ _ _ hgg, ?_, hcm, ?_, ?_⟩⟩, h256⟩, hv.2⟩ ((Kept.refl T w).setRow g (fun _ => (hv.2 g).2 rfl) _)))
      · rw [byteVals_length]; omega
      · rw [hl]
      · omega
      · simp [byteVals_length]; omega
      · simp [byteVals_length]
end
end Go.Proofs.YtknjpdcpmpfklaaGreatDoor
set_option maxRecDepth 100000
namespace Go.Proofs.YtknjpdcpmpfklaaGreatDoor
open Go.RowKit
theorem stcT_frame : StcT Tryz.prog 29 5 := ⟨_, Tryz.underlying29, rfl, by kernel_rfl⟩
end Go.Proofs.YtknjpdcpmpfklaaGreatDoor
