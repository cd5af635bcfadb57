/- A writer's bits: what Bit, Fixed, Whole, Signed, End, Bytes and Many do to it. -/
import Derived.Test.YtipimcnjcpckeaaDoorBv
import Derived.Test.YtipimcnjcpckeaaDoorPure
namespace Go.Proofs.YtipimcnjcpckeaaDoor
open Go.RowKit

/-- At block p lies a writer of the bits bs, whose bytes lie in the block r (none: there are none yet). -/
def WrIs (w : World) (p : Nat) (r : Option Nat) (bs : List Bool) : Prop :=
  ∃ v, w.heap[p]? = some (.cells #[v, .int .i64 (bs.length : Int)] 27 (0, 0)) ∧ w.ownsRow 0 5 1 v (nbytes bs.length) (byteVals (pack bs)) ∧ v.ownBlock = r ∧ r ≠ some p

/-- The blocks of a writer. -/
def WrFoot (p : Nat) (r : Option Nat) (k : Nat) : Prop := k = p ∨ r = some k

theorem WrIs.lt {w : World} {p : Nat} {r : Option Nat} {bs : List Bool} (h : WrIs w p r bs) : p < w.heap.size := by
  obtain ⟨v, h, _⟩ := h; exact lt_of_heap h

theorem WrIs.foot_lt {w : World} {p : Nat} {r : Option Nat} {bs : List Bool} (h : WrIs w p r bs) {k : Nat} (hk : WrFoot p r k) : k < w.heap.size := by
  rcases hk with rfl | hk
  · exact h.lt
  · obtain ⟨v, _, ho, hv, _⟩ := h
    exact (ho.lt k (hv.trans hk)).2

theorem WrIs.kept {S : Nat → Prop} {w w' : World} {p : Nat} {r : Option Nat} {bs : List Bool} (h : WrIs w p r bs) (k : Kept S w w') (hs : ∀ i, WrFoot p r i → ¬ S i) : WrIs w' p r bs := by
  obtain ⟨v, h1, ho, hv, hr⟩ := h
  refine ⟨v, k.at h1 (hs p (.inl rfl)), ⟨ho.1, ?_⟩, hv, hr⟩
  rcases ho.2 with hn | ⟨g, cap, cur, rfl, hb, hg, rest⟩
  · exact .inl hn
  · exact .inr ⟨g, cap, cur, rfl, hb, k.at hg (hs g (.inr hv.symm)), rest⟩

/-- What a call that writes into the writer leaves: it has the bits bs, and nothing else that was there has turned. -/
def Wrote (w w' : World) (p : Nat) (r : Option Nat) (bs : List Bool) : Prop :=
  ∃ r', WrIs w' p r' bs ∧ (r' = r ∨ ∃ g, r' = some g ∧ w.heap.size ≤ g) ∧ Kept (WrFoot p r) w w'

theorem Wrote.refl {w : World} {p : Nat} {r : Option Nat} {bs : List Bool} (h : WrIs w p r bs) : Wrote w w p r bs := ⟨r, h, .inl rfl, Kept.refl _ _⟩

theorem Wrote.trans {a b c : World} {p : Nat} {r r' : Option Nat} {bs : List Bool} (hk : Kept (WrFoot p r) a b) (hr : r' = r ∨ ∃ g, r' = some g ∧ a.heap.size ≤ g) (h2 : Wrote b c p r' bs) : Wrote a c p r bs := by
  obtain ⟨r2, hw, hr2, hk2⟩ := h2
  refine ⟨r2, hw, ?_, hk.trans hk2 ?_⟩
  · rcases hr2 with rfl | ⟨g, rfl, hg⟩
    · exact hr
    · exact .inr ⟨g, rfl, Nat.le_trans hk.size hg⟩
  · intro i hi hf
    rcases hf with rfl | hf
    · exact .inl rfl
    · rcases hr with rfl | ⟨g, rfl, hg⟩
      · exact .inr hf
      · simp at hf; omega

/-- A writer that is about to take a bit: there is a byte for it. -/
def WrOpen (w : World) (p g cap : Nat) (bs : List Bool) : Prop :=
  ∃ cur, w.heap[p]? = some (.cells #[.slice (some ⟨g, 0, none⟩) (bs.length / 8 + 1) cap, .int .i64 (bs.length : Int)] 27 (0, 0)) ∧
    w.heap[g]? = some (.cells cur 5 (0, 0)) ∧ bs.length / 8 + 1 ≤ cap ∧ cap ≤ maxLen ∧ cur.size = cap ∧ cur.toList.take (bs.length / 8 + 1) = byteVals (pack0 bs) ∧ g ≠ p

theorem WrOpen.facts {w : World} {p g cap : Nat} {bs : List Bool} (h : WrOpen w p g cap bs) :
    w.cell? ⟨p, 0, none⟩ = some (.slice (some ⟨g, 0, none⟩) (bs.length / 8 + 1) cap) ∧ w.cell? ⟨p, 1, none⟩ = some (.int .i64 (bs.length : Int)) ∧ w.frozen? ⟨p, 1, none⟩ = false ∧
    w.cell? ⟨g, bs.length / 8, none⟩ = some (.int .u8 ((pack0 bs).getD (bs.length / 8) 0 : Nat)) ∧ w.frozen? ⟨g, bs.length / 8, none⟩ = false ∧ ¬ g = p := by
  obtain ⟨cur, h1, h2, hc, hm, hs, ht, hne⟩ := h
  refine ⟨by rw [cell_of_heap h1]; rfl, by rw [cell_of_heap h1]; rfl, frozen_of_heap h1, ?_, frozen_of_heap h2, hne⟩
  rw [cell_of_heap h2]
  have l1 : bs.length / 8 < (pack0 bs).length := by rw [pack0_length]; omega
  have e1 : (cur.toList.take (bs.length / 8 + 1))[bs.length / 8]? = some (.int .u8 ((pack0 bs).getD (bs.length / 8) 0 : Nat)) := by
    rw [ht]; simp [byteVals, List.getD, l1]
  rw [List.getElem?_take_of_lt (by omega)] at e1
  simpa using e1

theorem i64_and1 (n : Int) : bits .and .i64 n 1 = n % 2 := by
  have h1 : (BitVec.ofInt 64 1).toNat = 2 ^ 1 - 1 := by decide
  have key : (BitVec.ofInt 64 n &&& BitVec.ofInt 64 1).toNat = (n % ((2 ^ 64 : Nat) : Int)).toNat % 2 ^ 1 := by
    rw [BitVec.toNat_and, BitVec.toNat_ofInt, h1, Nat.and_two_pow_sub_one_eq_mod]
  show IntKind.i64.wrap ((BitVec.ofInt 64 n &&& BitVec.ofInt 64 1).toNat : Nat) = n % 2
  rw [key, IntKind.wrap_i64]
  omega

/-- The lowest bit of a number. -/
def lowBit (n : Int) : Bool := decide (n % 2 = 1)

theorem lowBit_toNat (n : Int) : ((lowBit n).toNat : Int) = n % 2 := by
  unfold lowBit
  rcases Int.emod_two_eq n with h | h <;> simp [h]

/-- The number that Bit stores. -/
theorem or_bit (x j : Nat) (b : Int) (hj : j < 8) (h0 : x % 2 ^ (8 - j) = 0) (hx : x < 256) :
    bits BinOp.or IntKind.u8 (x : Int) (bits BinOp.and IntKind.i64 b 1 % 256 * 2 ^ (7 - j) % 256) = ((x + (lowBit b).toNat * 2 ^ (7 - j) : Nat) : Int) := by
  have hb := toNat_le_one (lowBit b)
  have hp : (2 : Nat) ^ (7 - j) ≤ 128 := by
    have := Nat.pow_le_pow_right (n := 2) (by decide) (show 7 - j ≤ 7 by omega); simpa using this
  have hpp : 0 < (2 : Nat) ^ (7 - j) := Nat.two_pow_pos _
  have h8 : (2 : Nat) ^ (8 - j) = 2 * 2 ^ (7 - j) := by rw [show 8 - j = (7 - j) + 1 by omega, Nat.pow_succ]; omega
  have e1 : bits BinOp.and IntKind.i64 b 1 % 256 * 2 ^ (7 - j) % 256 = (((lowBit b).toNat * 2 ^ (7 - j) : Nat) : Int) := by
    rw [i64_and1, ← lowBit_toNat]
    have : (((lowBit b).toNat : Int) % 256) = (lowBit b).toNat := by omega
    rw [this]
    have h3 : ((lowBit b).toNat * 2 ^ (7 - j) : Nat) ≤ 128 := by
      rcases Nat.le_one_iff_eq_zero_or_eq_one.1 hb with h | h <;> rw [h] <;> omega
    have h4 : (((lowBit b).toNat * 2 ^ (7 - j) : Nat) : Int) = ((lowBit b).toNat : Int) * 2 ^ (7 - j) := by simp
    rw [← h4]; omega
  rw [e1]
  have hlt : (lowBit b).toNat * 2 ^ (7 - j) < 2 ^ (8 - j) := by
    rw [h8]; rcases Nat.le_one_iff_eq_zero_or_eq_one.1 hb with h | h <;> rw [h] <;> omega
  have hle : (2 : Nat) ^ (8 - j) ≤ 256 := by
    have := Nat.pow_le_pow_right (n := 2) (by decide) (show 8 - j ≤ 8 by omega); simpa using this
  rw [bits_join .u8 8 (by decide) wraps_u8 (8 - j) (x : Int) (((lowBit b).toNat * 2 ^ (7 - j) : Nat) : Int) (by omega) (by exact_mod_cast h0) (by omega) (by omega) (by exact_mod_cast hlt) (by omega)]
  simp

theorem setCell_two_size (w : World) (a : Addr) (v : Value) : (w.setCell a v).heap.size = w.heap.size := by simp [World.setCell]

theorem WrOpen.done {w : World} {p g cap : Nat} {bs : List Bool} (h : WrOpen w p g cap bs) (b : Bool) :
    WrIs ((w.setCell ⟨g, bs.length / 8, none⟩ (.int .u8 (((pack0 bs).getD (bs.length / 8) 0 + b.toNat * 2 ^ (7 - bs.length % 8) : Nat) : Int))).setCell ⟨p, 1, none⟩ (.int .i64 ((bs.length : Int) + 1))).drew p (some g) (bs ++ [b]) := by
  obtain ⟨cur, h1, h2, hc, hm, hs, ht, hne⟩ := h
  refine ⟨.slice (some ⟨g, 0, none⟩) (bs.length / 8 + 1) cap, ?_, ⟨?_, .inr ⟨g, cap, cur.setIfInBounds (bs.length / 8) (.int .u8 (((pack0 bs).getD (bs.length / 8) 0 + b.toNat * 2 ^ (7 - bs.length % 8) : Nat) : Int)), ?_, Nat.zero_le _, ?_, ?_, hm, ?_, ?_⟩⟩, rfl, by simpa using hne⟩
  · show (World.setCell _ _ _).heap[p]? = _
    have e1 : (w.setCell ⟨g, bs.length / 8, none⟩ (.int .u8 (((pack0 bs).getD (bs.length / 8) 0 + b.toNat * 2 ^ (7 - bs.length % 8) : Nat) : Int))).heap[p]? = _ := (heap_setCell_other w g _ p _ (Ne.symm hne)).trans h1
    rw [heap_setCell_same _ p 1 _ e1]
    simp
  · rw [byteVals_length, pack_length]; simp
  · congr 1; simp [nbytes]; omega
  · show (World.setCell _ _ _).heap[g]? = _
    rw [heap_setCell_other _ p 1 g _ hne, heap_setCell_same _ g _ _ h2]
  · simp [nbytes]; omega
  · simp [hs]
  · have en : nbytes (bs ++ [b]).length * 1 = bs.length / 8 + 1 := by simp [nbytes]; omega
    rw [en, (pack_snoc bs b).2.2]
    simp only [Array.toList_setIfInBounds]
    rw [List.take_set, ht]
    simp [byteVals, List.map_set]

set_option maxHeartbeats 1000000 in
set_option maxRecDepth 100000 in
theorem bit_mid (p g cap : Nat) (bs : List Bool) (b : Int) (w : World) (hm : bs.length < 4611686018427387904) (hm8 : ((bs.length : Int) % 8 == 0) = false) (h : WrOpen w p g cap bs) :
    Calls Tryd.prog 39 #[.pointer (some ⟨p, 0, none⟩), .int .i64 b] w fun e w' => e = .returned (.tuple #[]) ∧ Wrote w w' p (some g) (bs ++ [lowBit b]) := by
  obtain ⟨h0, h1, f1, hx, fx, hgp⟩ := h.facts
  have hdone := h.done (lowBit b)
  obtain ⟨e8, e256, -⟩ := pack_snoc bs (lowBit b)
  have hor := or_bit ((pack0 bs).getD (bs.length / 8) 0) (bs.length % 8) b (Nat.mod_lt _ (by decide)) e8 e256
  have H := Lib.hid h; clear h
  have HD := Lib.hid hdone; clear hdone
  have HO := Lib.hid hor; clear hor e8 e256
  generalize hmm : bs.length = m at *
  have HM := Lib.hid hmm; clear hmm
  generalize hX : (pack0 bs).getD (m / 8) 0 = x at *
  have HX := Lib.hid hX; clear hX
  have hq : (m : Int) / 8 < ((m / 8 + 1 : Nat) : Int) := by omega
  have hq1 : 0 ≤ (m : Int) / 8 := by omega
  have hq2 : ((m : Int) / 8).toNat = m / 8 := by omega
  go_enter Tryd.func39, Tryd.ntmps39
  go_wp2_with (fail)
  go_region
  go_wp2
  go_end0
  refine ⟨rfl, some g, ?_, .inl rfl, ?_⟩
  · rw [HO.out]; exact HD.out
  · exact (((Kept.refl _ _).setCell _ (fun _ => .inr rfl) _).setCell _ (fun _ => .inl rfl) _).drew

theorem open_of_append {w w1 : World} {p : Nat} {r : Option Nat} {v v' : Value} {bs : List Bool} {o : Obj} (hm8 : bs.length % 8 = 0)
    (hp : w.heap[p]? = some (.cells #[v, .int .i64 (bs.length : Int)] 27 (0, 0))) (hr : r ≠ some p)
    (hown : w1.ownsRow 0 5 1 v' (nbytes bs.length + 1) (byteVals (pack bs) ++ [.int .u8 0])) (hgrow : (w.alloc o).grownBy w1 r)
    (hwhose : v'.ownBlock = r ∨ ∃ g, v'.ownBlock = some g ∧ w.heap.size + 1 ≤ g) :
    ∃ g cap, v' = .slice (some ⟨g, 0, none⟩) (bs.length / 8 + 1) cap ∧ WrOpen (w1.setCell ⟨p, 0, none⟩ v') p g cap bs ∧ (some g = r ∨ w.heap.size ≤ g) ∧ Kept (WrFoot p r) w w1 ∧
      w1.cell? ⟨p, 0, none⟩ = some v ∧ w1.frozen? ⟨p, 0, none⟩ = false ∧ w1.cell? ⟨p, 1, none⟩ = some (.int .i64 (bs.length : Int)) ∧ w1.frozen? ⟨p, 1, none⟩ = false ∧
      w1.cell? ⟨g, bs.length / 8, none⟩ = some (.int .u8 ((pack0 bs).getD (bs.length / 8) 0 : Nat)) ∧ w1.frozen? ⟨g, bs.length / 8, none⟩ = false ∧ ¬ g = p := by
  have hk : Kept (WrFoot p r) w w1 := ((Kept.refl _ _).alloc o).grown hgrow (fun k hk _ => .inr hk)
  have hn : nbytes bs.length = bs.length / 8 := by unfold nbytes; omega
  have hp0 : (w.alloc o).heap[p]? = some (.cells #[v, .int .i64 (bs.length : Int)] 27 (0, 0)) := (Below.heap_alloc w o p (lt_of_heap hp)).trans hp
  have hp1 : w1.heap[p]? = some (.cells #[v, .int .i64 (bs.length : Int)] 27 (0, 0)) := (hgrow.block p (lt_of_heap hp0) (fun e => hr e.symm)).trans hp0
  rcases hown.2 with ⟨_, h⟩ | ⟨g, cap, cur, rfl, _, hg, hc, hm, hs, ht⟩
  · omega
  have hgr : some g = r ∨ w.heap.size ≤ g := by
    rcases hwhose with h | ⟨g', h, hle⟩
    · exact .inl h
    · simp [Value.ownBlock] at h; subst h; exact .inr (by omega)
  have hne : g ≠ p := by
    rintro rfl
    rcases hgr with h | h
    · exact hr h.symm
    · have := lt_of_heap hp; omega
  have hop : WrOpen (w1.setCell ⟨p, 0, none⟩ (.slice (some ⟨g, 0, none⟩) (nbytes bs.length + 1) cap)) p g cap bs := by
    refine ⟨cur, ?_, ?_, by omega, hm, by simpa using hs, ?_, hne⟩
    · rw [heap_setCell_same _ p 0 _ hp1, hn]; simp
    · rw [heap_setCell_other _ p 0 g _ hne]; exact hg
    · rw [Nat.mul_one, hn] at ht
      rw [ht]; unfold pack0; rw [if_pos hm8]; simp [byteVals]
  have hf := hop.facts
  refine ⟨g, cap, by rw [hn], hop, hgr, hk, by rw [cell_of_heap hp1]; rfl, frozen_of_heap hp1, by rw [cell_of_heap hp1]; rfl, frozen_of_heap hp1, ?_, frozen_of_heap hg, hne⟩
  have h4 := hf.2.2.2.1
  rw [cell_of_heap ((heap_setCell_other _ p 0 g _ hne).trans hg)] at h4
  rw [cell_of_heap hg]; exact h4

set_option maxHeartbeats 1000000 in
set_option maxRecDepth 100000 in
theorem bit_new (p : Nat) (r : Option Nat) (v : Value) (bs : List Bool) (b : Int) (w : World) (hm : bs.length < 1099511627776) (hm8 : ((bs.length : Int) % 8 == 0) = true)
    (hp : w.heap[p]? = some (.cells #[v, .int .i64 (bs.length : Int)] 27 (0, 0))) (hown : w.ownsRow 0 5 1 v (nbytes bs.length) (byteVals (pack bs))) (hv : v.ownBlock = r) (hr : r ≠ some p) :
    Calls Tryd.prog 39 #[.pointer (some ⟨p, 0, none⟩), .int .i64 b] w fun e w' => e = .returned (.tuple #[]) ∧ Wrote w w' p r (bs ++ [lowBit b]) := by
  obtain ⟨i0, hi, hz0, hz1, hz2⟩ := info_parts Tryd.info_u8
  have h0 : w.cell? ⟨p, 0, none⟩ = some v := by rw [cell_of_heap hp]; rfl
  have h1 : w.cell? ⟨p, 1, none⟩ = some (.int .i64 (bs.length : Int)) := by rw [cell_of_heap hp]; rfl
  have f0 : w.frozen? ⟨p, 0, none⟩ = false := frozen_of_heap hp
  have hnb : nbytes bs.length ≤ 1099511627776 := by unfold nbytes; omega
  go_enter Tryd.func39, Tryd.ntmps39
  go_wp2_with (at_builtin; refine wpList_append_whose _ rfl (.tmp 16) (.tmp 17) 25 rfl 5 i0 (.int .u8 0) 1 1 Tryd.underlying25 hi hz0 hz1 hz2 rfl (by decide) v (nbytes bs.length) (byteVals (pack bs)) rfl (hown.alloc _) ⟨w.heap.size, 0, none⟩ 1 1 [.int .u8 0] rfl rfl ?c1 ?c2 ?b1 ?b2 ?_)
  case c1 => intro j u hj; match j, hj with | 0, hj => simp at hj; subst hj; simp [Addr.add]
  case c2 => intro u hu; simp at hu; subst hu; rfl
  case b1 => unfold maxLen; omega
  case b2 => omega
  intro v' w1 hown' hgrow hwhose
  have hmod : bs.length % 8 = 0 := by have := eq_of_beq hm8; omega
  obtain ⟨g, cap, rfl, hop, hgr, hk, k0, e0, k1, e1, kx, ex, hgp⟩ := open_of_append hmod hp hr hown' hgrow hwhose
  have hdone := hop.done (lowBit b)
  obtain ⟨e8, e256, -⟩ := pack_snoc bs (lowBit b)
  have hor := or_bit ((pack0 bs).getD (bs.length / 8) 0) (bs.length % 8) b (Nat.mod_lt _ (by decide)) e8 e256
  have HOP := Lib.hid hop; clear hop
  have HD := Lib.hid hdone; clear hdone
  have HO := Lib.hid hor; clear hor e8 e256
  have HK := Lib.hid hk; clear hk
  clear hown' hgrow hwhose hp hown hv h0 h1 f0 hi hz0 hz1 hz2
  generalize hmm : bs.length = m at *
  have HM := Lib.hid hmm; clear hmm
  generalize hX : (pack0 bs).getD (m / 8) 0 = x at *
  have HX := Lib.hid hX; clear hX
  have hq : (m : Int) / 8 < ((m / 8 + 1 : Nat) : Int) := by omega
  have hq1 : 0 ≤ (m : Int) / 8 := by omega
  have hq2 : ((m : Int) / 8).toNat = m / 8 := by omega
  have HR := Lib.hid hgr; clear hgr
  clear hmod
  go_wp2_with (fail)
  go_region
  go_wp2
  go_end0
  refine ⟨rfl, some g, ?_, ?_, ?_⟩
  · rw [HO.out]; exact HD.out
  · rcases HR.out with h | h
    · exact .inl h
    · exact .inr ⟨g, rfl, h⟩
  · refine (((HK.out.setCell _ (fun _ => .inl rfl) _).setCell _ (fun h => ?_) _).setCell _ (fun _ => .inl rfl) _).drew
    rcases HR.out with e | e
    · exact .inr e.symm
    · exact absurd h (by simpa using e)

theorem WrIs.opened {w : World} {p : Nat} {r : Option Nat} {bs : List Bool} (h : WrIs w p r bs) (hm : bs.length % 8 ≠ 0) : ∃ g cap, r = some g ∧ WrOpen w p g cap bs := by
  obtain ⟨v, h1, ho, hv, hr⟩ := h
  have hn : nbytes bs.length = bs.length / 8 + 1 := by unfold nbytes; omega
  rcases ho.2 with ⟨_, h⟩ | ⟨g, cap, cur, rfl, _, hg, hc, hcm, hs, ht⟩
  · omega
  refine ⟨g, cap, hv.symm, cur, by rw [hn] at h1; exact h1, hg, by omega, hcm, by simpa using hs, ?_, ?_⟩
  · rw [Nat.mul_one, hn] at ht
    rw [ht]; unfold pack0; rw [if_neg hm]
  · rintro rfl; exact hr hv.symm

theorem bit_any (p : Nat) (r : Option Nat) (bs : List Bool) (b : Int) (w : World) (hm : bs.length < 1099511627776) (h : WrIs w p r bs) :
    Calls Tryd.prog 39 #[.pointer (some ⟨p, 0, none⟩), .int .i64 b] w fun e w' => e = .returned (.tuple #[]) ∧ Wrote w w' p r (bs ++ [lowBit b]) := by
  by_cases h8 : bs.length % 8 = 0
  · obtain ⟨v, h1, ho, hv, hr⟩ := h
    exact bit_new p r v bs b w hm (beq_iff_eq.2 (by omega)) h1 ho hv hr
  · obtain ⟨g, cap, rfl, hop⟩ := h.opened h8
    exact bit_mid p g cap bs b w (by omega) (beq_eq_false_iff_ne.2 (by omega)) hop

/-- The lowest k bits of n, the highest first. -/
def fixedBits (n : Int) : Nat → List Bool
  | 0 => []
  | k + 1 => lowBit (n / 2 ^ k) :: fixedBits n k

theorem fixedBits_length (n : Int) (k : Nat) : (fixedBits n k).length = k := by
  induction k with
  | zero => rfl
  | succ k ih => simp [fixedBits, ih]

theorem fixed_no (p : Value) (n k : Int) (w : World) (h : k < 0 ∨ 32 < k) :
    Calls Tryd.prog 41 #[p, .int .i64 n, .int .i64 k] w fun e w' => e = .returned (.tuple #[]) ∧ w = w' := by
  rcases h with h | h
  · go_enter Tryd.func41, Tryd.ntmps41
    go_wp2
    first | go_end0 | refine bodyPost_ret (results_none rfl _ _ _) rfl ?_
    exact ⟨rfl, rfl⟩
  · have h' : ¬ k < 0 := by omega
    go_enter Tryd.func41, Tryd.ntmps41
    go_wp2
    first | go_end0 | refine bodyPost_ret (results_none rfl _ _ _) rfl ?_
    exact ⟨rfl, rfl⟩

set_option maxHeartbeats 400000 in
theorem fixed_some (p : Nat) (r : Option Nat) (bs : List Bool) (n : Int) (k : Nat) (w : World) (hk : k ≤ 32) (hm : bs.length + 32 < 1099511627776) (h : WrIs w p r bs) :
    Calls Tryd.prog 41 #[.pointer (some ⟨p, 0, none⟩), .int .i64 n, .int .i64 k] w fun e w' => e = .returned (.tuple #[]) ∧ Wrote w w' p r (bs ++ fixedBits n k) := by
  have H0 := Lib.hid h; clear h
  go_enter Tryd.func41, Tryd.ntmps41
  go_wp2_with (fail)
  go_loopw [6] (fun i wr => ∃ (j : Nat) (done : List Bool), j ≤ k ∧ i = .int .i64 ((j : Int) - 1) ∧ done ++ fixedBits n j = fixedBits n k ∧ Wrote w wr p r (bs ++ done)) (fun i _ => (intOf i + 1).toNat)
  case atStart => exact ⟨k, [], Nat.le_refl _, rfl, rfl, by simpa using Wrote.refl H0.out⟩
  case round =>
    obtain ⟨j, done, hj, rfl, hd, hw⟩ := hrel
    have HD := Lib.hid hd; clear hd
    have HW := Lib.hid hw; clear hw
    cases j with
    | zero =>
      go_wp2
      first | go_end0 | refine bodyPost_ret (results_none rfl _ _ _) rfl ?_
      have e : done = fixedBits n k := by simpa [fixedBits] using HD.out
      subst e
      exact ⟨rfl, HW.out⟩
    | succ j =>
      obtain ⟨r', hi, hr', hkp⟩ := HW.out
      have hlen : done.length ≤ 32 := by have := congrArg List.length HD.out; simp [fixedBits_length] at this; omega
      go_wp2_with (fail)
      refine (bit_any p r' (bs ++ done) _ _ (by simp; omega) hi).mono ?_
      rintro e w' ⟨rfl, hw'⟩
      have HW2 := Lib.hid (Wrote.trans hkp hr' hw')
      clear hi hr' hkp hw'
      go_wp2
      go_roundw
      case rel => exact ⟨j, done ++ [lowBit (n / 2 ^ j)], by omega, by go_num, by rw [List.append_assoc]; exact HD.out, by rw [← List.append_assoc]; exact HW2.out⟩
      case measure => simp [intOf]

end Go.Proofs.YtipimcnjcpckeaaDoor
