/- What BlockTells reaches of my texts, part 2. -/
import Derived.Test.YtdcbabgcbkdlhaaDoorBlockTellsA
set_option maxRecDepth 100000
set_option maxRecDepth 100000
namespace Go.Proofs.YtdcbabgcbkdlhaaDoor
open Go.RowKit

/-- At block p lies a writer of the bits bs, whose bytes lie in the block r (none: there are none yet). -/
def WrIs (w : World) (p : Nat) (r : Option Nat) (bs : List Bool) : Prop :=
  ∃ v, w.heap[p]? = some (.cells #[v, .int .i64 (bs.length : Int)] 32 (0, 0)) ∧ w.ownsRow 0 5 1 v (nbytes bs.length) (byteVals (pack bs)) ∧ v.ownBlock = r ∧ r ≠ some p

/-- The blocks of a writer. -/
def WrFoot (p : Nat) (r : Option Nat) (k : Nat) : Prop := k = p ∨ r = some k

theorem WrIs.lt {w : World} {p : Nat} {r : Option Nat} {bs : List Bool} (h : WrIs w p r bs) : p < w.heap.size := by
  obtain ⟨v, h, _⟩ := h; exact lt_of_heap h

theorem WrIs.foot_lt {w : World} {p : Nat} {r : Option Nat} {bs : List Bool} (h : WrIs w p r bs) {k : Nat} (hk : WrFoot p r k) : k < w.heap.size := by
  rcases hk with rfl | hk
  · exact h.lt
  · obtain ⟨v, _, ho, hv, _⟩ := h
    exact (ho.lt k (hv.trans hk)).2

theorem WrIs.kept {S : Nat → Prop} {w w' : World} {p : Nat} {r : Option Nat} {bs : List Bool} (h : WrIs w p r bs) (k : Kept S w w') (hs : ∀ i, WrFoot p r i → ¬ S i) : WrIs w' p r bs := by
  obtain ⟨v, h1, ho, hv, hr⟩ := h
  refine ⟨v, k.at h1 (hs p (.inl rfl)), ⟨ho.1, ?_⟩, hv, hr⟩
  rcases ho.2 with hn | ⟨g, cap, cur, rfl, hb, hg, rest⟩
  · exact .inl hn
  · exact .inr ⟨g, cap, cur, rfl, hb, k.at hg (hs g (.inr hv.symm)), rest⟩

/-- What a call that writes into the writer leaves: it has the bits bs, and nothing else that was there has turned. -/
def Wrote (w w' : World) (p : Nat) (r : Option Nat) (bs : List Bool) : Prop :=
  ∃ r', WrIs w' p r' bs ∧ (r' = r ∨ ∃ g, r' = some g ∧ w.heap.size ≤ g) ∧ Kept (WrFoot p r) w w'

theorem Wrote.refl {w : World} {p : Nat} {r : Option Nat} {bs : List Bool} (h : WrIs w p r bs) : Wrote w w p r bs := ⟨r, h, .inl rfl, Kept.refl _ _⟩

theorem Wrote.trans {a b c : World} {p : Nat} {r r' : Option Nat} {bs : List Bool} (hk : Kept (WrFoot p r) a b) (hr : r' = r ∨ ∃ g, r' = some g ∧ a.heap.size ≤ g) (h2 : Wrote b c p r' bs) : Wrote a c p r bs := by
  obtain ⟨r2, hw, hr2, hk2⟩ := h2
  refine ⟨r2, hw, ?_, hk.trans hk2 ?_⟩
  · rcases hr2 with rfl | ⟨g, rfl, hg⟩
    · exact hr
    · exact .inr ⟨g, rfl, Nat.le_trans hk.size hg⟩
  · intro i hi hf
    rcases hf with rfl | hf
    · exact .inl rfl
    · rcases hr with rfl | ⟨g, rfl, hg⟩
      · exact .inr hf
      · simp at hf; omega

/-- A writer that is about to take a bit: there is a byte for it. -/
def WrOpen (w : World) (p g cap : Nat) (bs : List Bool) : Prop :=
  ∃ cur, w.heap[p]? = some (.cells #[.slice (some ⟨g, 0, none⟩) (bs.length / 8 + 1) cap, .int .i64 (bs.length : Int)] 32 (0, 0)) ∧
    w.heap[g]? = some (.cells cur 5 (0, 0)) ∧ bs.length / 8 + 1 ≤ cap ∧ cap ≤ maxLen ∧ cur.size = cap ∧ cur.toList.take (bs.length / 8 + 1) = byteVals (pack0 bs) ∧ g ≠ p

theorem WrOpen.facts {w : World} {p g cap : Nat} {bs : List Bool} (h : WrOpen w p g cap bs) :
    w.cell? ⟨p, 0, none⟩ = some (.slice (some ⟨g, 0, none⟩) (bs.length / 8 + 1) cap) ∧ w.cell? ⟨p, 1, none⟩ = some (.int .i64 (bs.length : Int)) ∧ w.frozen? ⟨p, 1, none⟩ = false ∧
    w.cell? ⟨g, bs.length / 8, none⟩ = some (.int .u8 ((pack0 bs).getD (bs.length / 8) 0 : Nat)) ∧ w.frozen? ⟨g, bs.length / 8, none⟩ = false ∧ ¬ g = p := by
  obtain ⟨cur, h1, h2, hc, hm, hs, ht, hne⟩ := h
  refine ⟨by rw [cell_of_heap h1]; rfl, by rw [cell_of_heap h1]; rfl, frozen_of_heap h1, ?_, frozen_of_heap h2, hne⟩
  rw [cell_of_heap h2]
  have l1 : bs.length / 8 < (pack0 bs).length := by rw [pack0_length]; omega
  have e1 : (cur.toList.take (bs.length / 8 + 1))[bs.length / 8]? = some (.int .u8 ((pack0 bs).getD (bs.length / 8) 0 : Nat)) := by
    rw [ht]; simp [byteVals, List.getD, l1]
  rw [List.getElem?_take_of_lt (by omega)] at e1
  simpa using e1

theorem i64_and1 (n : Int) : bits .and .i64 n 1 = n % 2 := by
  have h1 : (BitVec.ofInt 64 1).toNat = 2 ^ 1 - 1 := by decide
  have key : (BitVec.ofInt 64 n &&& BitVec.ofInt 64 1).toNat = (n % ((2 ^ 64 : Nat) : Int)).toNat % 2 ^ 1 := by
    rw [BitVec.toNat_and, BitVec.toNat_ofInt, h1, Nat.and_two_pow_sub_one_eq_mod]
  show IntKind.i64.wrap ((BitVec.ofInt 64 n &&& BitVec.ofInt 64 1).toNat : Nat) = n % 2
  rw [key, IntKind.wrap_i64]
  omega

/-- The lowest bit of a number. -/
def lowBit (n : Int) : Bool := decide (n % 2 = 1)

theorem lowBit_toNat (n : Int) : ((lowBit n).toNat : Int) = n % 2 := by
  unfold lowBit
  rcases Int.emod_two_eq n with h | h <;> simp [h]

/-- The number that Bit stores. -/
theorem or_bit (x j : Nat) (b : Int) (hj : j < 8) (h0 : x % 2 ^ (8 - j) = 0) (hx : x < 256) :
    bits BinOp.or IntKind.u8 (x : Int) (bits BinOp.and IntKind.i64 b 1 % 256 * 2 ^ (7 - j) % 256) = ((x + (lowBit b).toNat * 2 ^ (7 - j) : Nat) : Int) := by
  have hb := toNat_le_one (lowBit b)
  have hp : (2 : Nat) ^ (7 - j) ≤ 128 := by
    have := Nat.pow_le_pow_right (n := 2) (by decide) (show 7 - j ≤ 7 by omega); simpa using this
  have hpp : 0 < (2 : Nat) ^ (7 - j) := Nat.two_pow_pos _
  have h8 : (2 : Nat) ^ (8 - j) = 2 * 2 ^ (7 - j) := by rw [show 8 - j = (7 - j) + 1 by omega, Nat.pow_succ]; omega
  have e1 : bits BinOp.and IntKind.i64 b 1 % 256 * 2 ^ (7 - j) % 256 = (((lowBit b).toNat * 2 ^ (7 - j) : Nat) : Int) := by
    rw [i64_and1, ← lowBit_toNat]
    have : (((lowBit b).toNat : Int) % 256) = (lowBit b).toNat := by omega
    rw [this]
    have h3 : ((lowBit b).toNat * 2 ^ (7 - j) : Nat) ≤ 128 := by
      rcases Nat.le_one_iff_eq_zero_or_eq_one.1 hb with h | h <;> rw [h] <;> omega
    have h4 : (((lowBit b).toNat * 2 ^ (7 - j) : Nat) : Int) = ((lowBit b).toNat : Int) * 2 ^ (7 - j) := by simp
    rw [← h4]; omega
  rw [e1]
  have hlt : (lowBit b).toNat * 2 ^ (7 - j) < 2 ^ (8 - j) := by
    rw [h8]; rcases Nat.le_one_iff_eq_zero_or_eq_one.1 hb with h | h <;> rw [h] <;> omega
  have hle : (2 : Nat) ^ (8 - j) ≤ 256 := by
    have := Nat.pow_le_pow_right (n := 2) (by decide) (show 8 - j ≤ 8 by omega); simpa using this
  rw [bits_join .u8 8 (by decide) wraps_u8 (8 - j) (x : Int) (((lowBit b).toNat * 2 ^ (7 - j) : Nat) : Int) (by omega) (by exact_mod_cast h0) (by omega) (by omega) (by exact_mod_cast hlt) (by omega)]
  simp

theorem WrOpen.done {w : World} {p g cap : Nat} {bs : List Bool} (h : WrOpen w p g cap bs) (b : Bool) :
    WrIs ((w.setCell ⟨g, bs.length / 8, none⟩ (.int .u8 (((pack0 bs).getD (bs.length / 8) 0 + b.toNat * 2 ^ (7 - bs.length % 8) : Nat) : Int))).setCell ⟨p, 1, none⟩ (.int .i64 ((bs.length : Int) + 1))).drew p (some g) (bs ++ [b]) := by
  obtain ⟨cur, h1, h2, hc, hm, hs, ht, hne⟩ := h
  refine ⟨.slice (some ⟨g, 0, none⟩) (bs.length / 8 + 1) cap, ?_, ⟨?_, .inr ⟨g, cap, cur.setIfInBounds (bs.length / 8) (.int .u8 (((pack0 bs).getD (bs.length / 8) 0 + b.toNat * 2 ^ (7 - bs.length % 8) : Nat) : Int)), ?_, Nat.zero_le _, ?_, ?_, hm, ?_, ?_⟩⟩, rfl, by simpa using hne⟩
  · show (World.setCell _ _ _).heap[p]? = _
    have e1 : (w.setCell ⟨g, bs.length / 8, none⟩ (.int .u8 (((pack0 bs).getD (bs.length / 8) 0 + b.toNat * 2 ^ (7 - bs.length % 8) : Nat) : Int))).heap[p]? = _ := (heap_setCell_other w g _ p _ (Ne.symm hne)).trans h1
    rw [heap_setCell_same _ p 1 _ e1]
    simp
  · rw [byteVals_length, pack_length]; simp
  · congr 1; simp [nbytes]; omega
  · show (World.setCell _ _ _).heap[g]? = _
    rw [heap_setCell_other _ p 1 g _ hne, heap_setCell_same _ g _ _ h2]
  · simp [nbytes]; omega
  · simp [hs]
  · have en : nbytes (bs ++ [b]).length * 1 = bs.length / 8 + 1 := by simp [nbytes]; omega
    rw [en, (pack_snoc bs b).2.2]
    simp only [Array.toList_setIfInBounds]
    rw [List.take_set, ht]
    simp [byteVals, List.map_set]

set_option maxHeartbeats 1000000 in
set_option maxRecDepth 100000 in
theorem bit_mid (p g cap : Nat) (bs : List Bool) (b : Int) (w : World) (hm : bs.length < 4611686018427387904) (hm8 : ((bs.length : Int) % 8 == 0) = false) (h : WrOpen w p g cap bs) :
    Calls Tryd.prog 55 #[.pointer (some ⟨p, 0, none⟩), .int .i64 b] w fun e w' => e = .returned (.tuple #[]) ∧ Wrote w w' p (some g) (bs ++ [lowBit b]) := by
  obtain ⟨h0, h1, f1, hx, fx, hgp⟩ := h.facts
  have hdone := h.done (lowBit b)
  obtain ⟨e8, e256, -⟩ := pack_snoc bs (lowBit b)
  have hor := or_bit ((pack0 bs).getD (bs.length / 8) 0) (bs.length % 8) b (Nat.mod_lt _ (by decide)) e8 e256
  have H := Lib.hid h; clear h
  have HD := Lib.hid hdone; clear hdone
  have HO := Lib.hid hor; clear hor e8 e256
  generalize hmm : bs.length = m at *
  have HM := Lib.hid hmm; clear hmm
  generalize hX : (pack0 bs).getD (m / 8) 0 = x at *
  have HX := Lib.hid hX; clear hX
  have hq : (m : Int) / 8 < ((m / 8 + 1 : Nat) : Int) := by omega
  have hq1 : 0 ≤ (m : Int) / 8 := by omega
  have hq2 : ((m : Int) / 8).toNat = m / 8 := by omega
  go_enter Tryd.func55, Tryd.ntmps55
  go_wp2_with (fail)
  go_region
  go_wp2
  go_end0
  refine ⟨rfl, some g, ?_, .inl rfl, ?_⟩
  · rw [HO.out]; exact HD.out
  · exact (((Kept.refl _ _).setCell _ (fun _ => .inr rfl) _).setCell _ (fun _ => .inl rfl) _).drew

theorem open_of_append {w w1 : World} {p : Nat} {r : Option Nat} {v v' : Value} {bs : List Bool} {o : Obj} (hm8 : bs.length % 8 = 0)
    (hp : w.heap[p]? = some (.cells #[v, .int .i64 (bs.length : Int)] 32 (0, 0))) (hr : r ≠ some p)
    (hown : w1.ownsRow 0 5 1 v' (nbytes bs.length + 1) (byteVals (pack bs) ++ [.int .u8 0])) (hgrow : (w.alloc o).grownBy w1 r)
    (hwhose : v'.ownBlock = r ∨ ∃ g, v'.ownBlock = some g ∧ w.heap.size + 1 ≤ g) :
    ∃ g cap, v' = .slice (some ⟨g, 0, none⟩) (bs.length / 8 + 1) cap ∧ WrOpen (w1.setCell ⟨p, 0, none⟩ v') p g cap bs ∧ (some g = r ∨ w.heap.size ≤ g) ∧ Kept (WrFoot p r) w w1 ∧
      w1.cell? ⟨p, 0, none⟩ = some v ∧ w1.frozen? ⟨p, 0, none⟩ = false ∧ w1.cell? ⟨p, 1, none⟩ = some (.int .i64 (bs.length : Int)) ∧ w1.frozen? ⟨p, 1, none⟩ = false ∧
      w1.cell? ⟨g, bs.length / 8, none⟩ = some (.int .u8 ((pack0 bs).getD (bs.length / 8) 0 : Nat)) ∧ w1.frozen? ⟨g, bs.length / 8, none⟩ = false ∧ ¬ g = p := by
  have hk : Kept (WrFoot p r) w w1 := ((Kept.refl _ _).alloc o).grown hgrow (fun k hk _ => .inr hk)
  have hn : nbytes bs.length = bs.length / 8 := by unfold nbytes; omega
  have hp0 : (w.alloc o).heap[p]? = some (.cells #[v, .int .i64 (bs.length : Int)] 32 (0, 0)) := (Below.heap_alloc w o p (lt_of_heap hp)).trans hp
  have hp1 : w1.heap[p]? = some (.cells #[v, .int .i64 (bs.length : Int)] 32 (0, 0)) := (hgrow.block p (lt_of_heap hp0) (fun e => hr e.symm)).trans hp0
  rcases hown.2 with ⟨_, h⟩ | ⟨g, cap, cur, rfl, _, hg, hc, hm, hs, ht⟩
  · omega
  have hgr : some g = r ∨ w.heap.size ≤ g := by
    rcases hwhose with h | ⟨g', h, hle⟩
    · exact .inl h
    · simp [Value.ownBlock] at h; subst h; exact .inr (by omega)
  have hne : g ≠ p := by
    rintro rfl
    rcases hgr with h | h
    · exact hr h.symm
    · have := lt_of_heap hp; omega
  have hop : WrOpen (w1.setCell ⟨p, 0, none⟩ (.slice (some ⟨g, 0, none⟩) (nbytes bs.length + 1) cap)) p g cap bs := by
    refine ⟨cur, ?_, ?_, by omega, hm, by simpa using hs, ?_, hne⟩
    · rw [heap_setCell_same _ p 0 _ hp1, hn]; simp
    · rw [heap_setCell_other _ p 0 g _ hne]; exact hg
    · rw [Nat.mul_one, hn] at ht
      rw [ht]; unfold pack0; rw [if_pos hm8]; simp [byteVals]
  have hf := hop.facts
  refine ⟨g, cap, by rw [hn], hop, hgr, hk, by rw [cell_of_heap hp1]; rfl, frozen_of_heap hp1, by rw [cell_of_heap hp1]; rfl, frozen_of_heap hp1, ?_, frozen_of_heap hg, hne⟩
  have h4 := hf.2.2.2.1
  rw [cell_of_heap ((heap_setCell_other _ p 0 g _ hne).trans hg)] at h4
  rw [cell_of_heap hg]; exact h4

set_option maxHeartbeats 1000000 in
set_option maxRecDepth 100000 in
theorem bit_new (p : Nat) (r : Option Nat) (v : Value) (bs : List Bool) (b : Int) (w : World) (hm : bs.length < 1099511627776) (hm8 : ((bs.length : Int) % 8 == 0) = true)
    (hp : w.heap[p]? = some (.cells #[v, .int .i64 (bs.length : Int)] 32 (0, 0))) (hown : w.ownsRow 0 5 1 v (nbytes bs.length) (byteVals (pack bs))) (hv : v.ownBlock = r) (hr : r ≠ some p) :
    Calls Tryd.prog 55 #[.pointer (some ⟨p, 0, none⟩), .int .i64 b] w fun e w' => e = .returned (.tuple #[]) ∧ Wrote w w' p r (bs ++ [lowBit b]) := by
  obtain ⟨i0, hi, hz0, hz1, hz2⟩ := info_parts Tryd.info_u8
  have h0 : w.cell? ⟨p, 0, none⟩ = some v := by rw [cell_of_heap hp]; rfl
  have h1 : w.cell? ⟨p, 1, none⟩ = some (.int .i64 (bs.length : Int)) := by rw [cell_of_heap hp]; rfl
  have f0 : w.frozen? ⟨p, 0, none⟩ = false := frozen_of_heap hp
  have hnb : nbytes bs.length ≤ 1099511627776 := by unfold nbytes; omega
  go_enter Tryd.func55, Tryd.ntmps55
  go_wp2_with (at_builtin; refine wpList_append_whose _ rfl (.tmp 16) (.tmp 17) 28 rfl 5 i0 (.int .u8 0) 1 1 Tryd.underlying28 hi hz0 hz1 hz2 rfl (by decide) v (nbytes bs.length) (byteVals (pack bs)) rfl (hown.alloc _) ⟨w.heap.size, 0, none⟩ 1 1 [.int .u8 0] rfl rfl ?c1 ?c2 ?b1 ?b2 ?_)
  case c1 => intro j u hj; match j, hj with | 0, hj => simp at hj; subst hj; simp [Addr.add]
  case c2 => intro u hu; simp at hu; subst hu; rfl
  case b1 => unfold maxLen; omega
  case b2 => omega
  intro v' w1 hown' hgrow hwhose
  have hmod : bs.length % 8 = 0 := by have := eq_of_beq hm8; omega
  obtain ⟨g, cap, rfl, hop, hgr, hk, k0, e0, k1, e1, kx, ex, hgp⟩ := open_of_append hmod hp hr hown' hgrow hwhose
  have hdone := hop.done (lowBit b)
  obtain ⟨e8, e256, -⟩ := pack_snoc bs (lowBit b)
  have hor := or_bit ((pack0 bs).getD (bs.length / 8) 0) (bs.length % 8) b (Nat.mod_lt _ (by decide)) e8 e256
  have HOP := Lib.hid hop; clear hop
  have HD := Lib.hid hdone; clear hdone
  have HO := Lib.hid hor; clear hor e8 e256
  have HK := Lib.hid hk; clear hk
  clear hown' hgrow hwhose hp hown hv h0 h1 f0 hi hz0 hz1 hz2
  generalize hmm : bs.length = m at *
  have HM := Lib.hid hmm; clear hmm
  generalize hX : (pack0 bs).getD (m / 8) 0 = x at *
  have HX := Lib.hid hX; clear hX
  have hq : (m : Int) / 8 < ((m / 8 + 1 : Nat) : Int) := by omega
  have hq1 : 0 ≤ (m : Int) / 8 := by omega
  have hq2 : ((m : Int) / 8).toNat = m / 8 := by omega
  have HR := Lib.hid hgr; clear hgr
  clear hmod
  go_wp2_with (fail)
  go_region
  go_wp2
  go_end0
  refine ⟨rfl, some g, ?_, ?_, ?_⟩
  · rw [HO.out]; exact HD.out
  · rcases HR.out with h | h
    · exact .inl h
    · exact .inr ⟨g, rfl, h⟩
  · refine (((HK.out.setCell _ (fun _ => .inl rfl) _).setCell _ (fun h => ?_) _).setCell _ (fun _ => .inl rfl) _).drew
    rcases HR.out with e | e
    · exact .inr e.symm
    · exact absurd h (by simpa using e)

theorem WrIs.opened {w : World} {p : Nat} {r : Option Nat} {bs : List Bool} (h : WrIs w p r bs) (hm : bs.length % 8 ≠ 0) : ∃ g cap, r = some g ∧ WrOpen w p g cap bs := by
  obtain ⟨v, h1, ho, hv, hr⟩ := h
  have hn : nbytes bs.length = bs.length / 8 + 1 := by unfold nbytes; omega
  rcases ho.2 with ⟨_, h⟩ | ⟨g, cap, cur, rfl, _, hg, hc, hcm, hs, ht⟩
  · omega
  refine ⟨g, cap, hv.symm, cur, by rw [hn] at h1; exact h1, hg, by omega, hcm, by simpa using hs, ?_, ?_⟩
  · rw [Nat.mul_one, hn] at ht
    rw [ht]; unfold pack0; rw [if_neg hm]
  · rintro rfl; exact hr hv.symm

theorem bit_any (p : Nat) (r : Option Nat) (bs : List Bool) (b : Int) (w : World) (hm : bs.length < 1099511627776) (h : WrIs w p r bs) :
    Calls Tryd.prog 55 #[.pointer (some ⟨p, 0, none⟩), .int .i64 b] w fun e w' => e = .returned (.tuple #[]) ∧ Wrote w w' p r (bs ++ [lowBit b]) := by
  by_cases h8 : bs.length % 8 = 0
  · obtain ⟨v, h1, ho, hv, hr⟩ := h
    exact bit_new p r v bs b w hm (beq_iff_eq.2 (by omega)) h1 ho hv hr
  · obtain ⟨g, cap, rfl, hop⟩ := h.opened h8
    exact bit_mid p g cap bs b w (by omega) (beq_eq_false_iff_ne.2 (by omega)) hop

/-- The lowest k bits of n, the highest first. -/
def fixedBits (n : Int) : Nat → List Bool
  | 0 => []
  | k + 1 => lowBit (n / 2 ^ k) :: fixedBits n k

theorem fixedBits_length (n : Int) (k : Nat) : (fixedBits n k).length = k := by
  induction k with
  | zero => rfl
  | succ k ih => simp [fixedBits, ih]

set_option maxHeartbeats 400000 in
theorem fixed_some (p : Nat) (r : Option Nat) (bs : List Bool) (n : Int) (k : Nat) (w : World) (hk : k ≤ 32) (hm : bs.length + 32 < 1099511627776) (h : WrIs w p r bs) :
    Calls Tryd.prog 73 #[.pointer (some ⟨p, 0, none⟩), .int .i64 n, .int .i64 k] w fun e w' => e = .returned (.tuple #[]) ∧ Wrote w w' p r (bs ++ fixedBits n k) := by
  have H0 := Lib.hid h; clear h
  go_enter Tryd.func73, Tryd.ntmps73
  go_wp2_with (fail)
  go_loopw [6] (fun i wr => ∃ (j : Nat) (done : List Bool), j ≤ k ∧ i = .int .i64 ((j : Int) - 1) ∧ done ++ fixedBits n j = fixedBits n k ∧ Wrote w wr p r (bs ++ done)) (fun i _ => (intOf i + 1).toNat)
  case atStart => exact ⟨k, [], Nat.le_refl _, rfl, rfl, by simpa using Wrote.refl H0.out⟩
  case round =>
    obtain ⟨j, done, hj, rfl, hd, hw⟩ := hrel
    have HD := Lib.hid hd; clear hd
    have HW := Lib.hid hw; clear hw
    cases j with
    | zero =>
      go_wp2
      first | go_end0 | refine bodyPost_ret (results_none rfl _ _ _) rfl ?_
      have e : done = fixedBits n k := by simpa [fixedBits] using HD.out
      subst e
      exact ⟨rfl, HW.out⟩
    | succ j =>
      obtain ⟨r', hi, hr', hkp⟩ := HW.out
      have hlen : done.length ≤ 32 := by have := congrArg List.length HD.out; simp [fixedBits_length] at this; omega
      go_wp2_with (fail)
      refine (bit_any p r' (bs ++ done) _ _ (by simp; omega) hi).mono ?_
      rintro e w' ⟨rfl, hw'⟩
      have HW2 := Lib.hid (Wrote.trans hkp hr' hw')
      clear hi hr' hkp hw'
      go_wp2
      go_roundw
      case rel => exact ⟨j, done ++ [lowBit (n / 2 ^ j)], by omega, by go_num, by rw [List.append_assoc]; exact HD.out, by rw [← List.append_assoc]; exact HW2.out⟩
      case measure => simp [intOf]

end Go.Proofs.YtdcbabgcbkdlhaaDoor
set_option maxRecDepth 100000
namespace Go.Proofs
open Go.Shelf
def Tryd.laysLen_ren : Go.Shelf.Ren := ⟨fun | 129 => 72 | n => n, fun | 53 => 106 | 3 => 3 | 4 => 4 | 46 => 113 | 5 => 5 | 9 => 9 | n => n, fun | n => n⟩
theorem Tryd.laysLen : Go.Proofs.Lays.n129 Tryd.prog Tryd.laysLen_ren := {
  mixed := by kernel_rfl
  f129 := Tryd.func72.trans (congrArg some (by kernel_rfl))
  t3 := Tryd.underlying3
  a3 := Tryd.isAgg3
  z3 := Tryd.sizeOf3
  v3 := Tryd.zeroValue3
  t4 := Tryd.underlying4
  a4 := Tryd.isAgg4
  z4 := Tryd.sizeOf4
  v4 := Tryd.zeroValue4
  t5 := Tryd.underlying5
  a5 := Tryd.isAgg5
  z5 := Tryd.sizeOf5
  v5 := Tryd.zeroValue5
  t9 := Tryd.underlying9
  a9 := Tryd.isAgg9
  z9 := Tryd.sizeOf9
  v9 := Tryd.zeroValue9
  t46 := Tryd.underlying113
  a46 := Tryd.isAgg113
  z46 := Tryd.sizeOf113
  v46 := Tryd.zeroValue113
  t53 := Tryd.underlying106
  a53 := Tryd.isAgg106
  z53 := Tryd.sizeOf106
  v53 := Tryd.zeroValue106 }

/-- Len64 answers how many bits a number has; the world is as it was. -/
theorem Tryd.len64_any (x : Int) (w : World) (h0 : 0 ≤ x) (h1 : x ≤ 18446744073709551615) :
    Calls Tryd.prog 72 #[.int .u64 x] w fun e w' => e = .returned (.int .i64 (Lib.bitLen x.toNat)) ∧ w = w' :=
  (Any.bits_Len64 Tryd.laysLen x w h0 h1).mono fun _ _ ⟨a, b⟩ => ⟨a, b.symm⟩
end Go.Proofs
set_option maxRecDepth 100000
namespace Go.Proofs.YtdcbabgcbkdlhaaDoor
open Go.RowKit

/-- The bits of a number from 1 on: as many bits 0 as it has behind its highest, and it. -/
def golomb (m : Nat) : List Bool := fixedBits 0 (Lib.bitLen m - 1) ++ fixedBits (m : Int) (Lib.bitLen m)

/-- A number, clamped to 0 to 2^31 - 1. -/
def clampWhole (n : Int) : Nat := (min (max n 0) 2147483647).toNat

def wholeBits (n : Int) : List Bool := golomb (clampWhole n + 1)

theorem clampWhole_le (n : Int) : clampWhole n ≤ 2147483647 := by unfold clampWhole; omega

theorem bitLen_bounds (m : Nat) (h0 : m ≠ 0) (h : m < 2 ^ 64) : 1 ≤ Lib.bitLen m ∧ 2 ^ (Lib.bitLen m - 1) ≤ m ∧ m < 2 ^ Lib.bitLen m := Lib.bitLenAux_bounds 64 m h h0

theorem bitLen_le32 (m : Nat) (h0 : m ≠ 0) (h : m ≤ 2147483648) : 1 ≤ Lib.bitLen m ∧ Lib.bitLen m ≤ 32 :=
  ⟨(bitLen_bounds m h0 (by omega)).1, Lib.bitLen_le m 32 (by omega) (by omega)⟩

theorem fixed_int (p : Nat) (r : Option Nat) (bs : List Bool) (n k : Int) (w : World) (h0 : 0 ≤ k) (h1 : k ≤ 32) (hm : bs.length + 32 < 1099511627776) (h : WrIs w p r bs) :
    Calls Tryd.prog 73 #[.pointer (some ⟨p, 0, none⟩), .int .i64 n, .int .i64 k] w fun e w' => e = .returned (.tuple #[]) ∧ Wrote w w' p r (bs ++ fixedBits n k.toNat) := by
  obtain ⟨j, rfl⟩ := Int.eq_ofNat_of_zero_le h0
  exact fixed_some p r bs n j w (by omega) hm h

set_option maxHeartbeats 400000 in
theorem whole_any (p : Nat) (r : Option Nat) (bs : List Bool) (n : Int) (w : World) (hm : bs.length + 64 < 1099511627776) (h : WrIs w p r bs) :
    Calls Tryd.prog 34 #[.pointer (some ⟨p, 0, none⟩), .int .i64 n] w fun e w' => e = .returned (.tuple #[]) ∧ Wrote w w' p r (bs ++ wholeBits n) := by
  have H0 := Lib.hid h; clear h
  go_enter Tryd.func34, Tryd.ntmps34
  go_wp2_with (fail)
  have hc0 : 0 ≤ min (max n 0) 2147483647 := by omega
  have hc1 : min (max n 0) 2147483647 ≤ 2147483647 := by omega
  have hcw : clampWhole n + 1 = (min (max n 0) 2147483647 + 1).toNat := by unfold clampWhole; omega
  have HC := Lib.hid hcw; clear hcw
  generalize min (max n 0) 2147483647 = c at *
  refine (Tryd.len64_any (c + 1) _ (by omega) (by omega)).mono ?_
  rintro e w' ⟨rfl, rfl⟩
  have hb := bitLen_le32 (c + 1).toNat (by omega) (by omega)
  generalize hk : Lib.bitLen (c + 1).toNat = k at *
  have HK := Lib.hid hk; clear hk
  obtain ⟨hk1, hk2⟩ := hb
  go_wp2_with (fail)
  refine (fixed_int p r bs 0 ((k : Int) - 1) _ (by omega) (by omega) (by omega) H0.out).mono ?_
  rintro e w1 ⟨rfl, r1, hw1, hr1, hkp1⟩
  have HW1 := Lib.hid hw1; clear hw1
  have HR1 := Lib.hid hr1; clear hr1
  have HP1 := Lib.hid hkp1; clear hkp1
  go_wp2_with (fail)
  refine (fixed_int p r1 _ (c + 1) (k : Int) _ (by omega) (by omega) (by simp [fixedBits_length]; omega) HW1.out).mono ?_
  rintro e w2 ⟨rfl, hw2⟩
  have HW2 := Lib.hid (Wrote.trans HP1.out HR1.out hw2); clear hw2
  go_wp2
  go_end0
  refine ⟨rfl, ?_⟩
  have e : wholeBits n = fixedBits 0 ((k : Int) - 1).toNat ++ fixedBits (c + 1) (k : Int).toNat := by
    have e1 : (((c + 1).toNat : Nat) : Int) = c + 1 := by omega
    have e2 : ((k : Int) - 1).toNat = k - 1 := by omega
    unfold wholeBits golomb; rw [HC.out, HK.out, e1, e2, Int.toNat_natCast]
  rw [e, ← List.append_assoc]
  exact HW2.out

end Go.Proofs.YtdcbabgcbkdlhaaDoor
set_option maxRecDepth 100000
namespace Go.Proofs.YtdcbabgcbkdlhaaDoor
open Go.RowKit

/-- A number, clamped to -2^30 to 2^30. -/
def clampSigned (n : Int) : Int := min (max n (-1073741824)) 1073741824

def signedBits (n : Int) : List Bool := if 0 < clampSigned n then wholeBits (2 * clampSigned n - 1) else wholeBits (-2 * clampSigned n)

set_option maxHeartbeats 400000 in
theorem signed_any (p : Nat) (r : Option Nat) (bs : List Bool) (n : Int) (w : World) (hm : bs.length + 64 < 1099511627776) (h : WrIs w p r bs) :
    Calls Tryd.prog 75 #[.pointer (some ⟨p, 0, none⟩), .int .i64 n] w fun e w' => e = .returned (.tuple #[]) ∧ Wrote w w' p r (bs ++ signedBits n) := by
  have H0 := Lib.hid h; clear h
  have hc0 : -1073741824 ≤ min (max n (-1073741824)) 1073741824 := by omega
  have hc1 : min (max n (-1073741824)) 1073741824 ≤ 1073741824 := by omega
  by_cases hpos : 0 < min (max n (-1073741824)) 1073741824
  · have hs : signedBits n = wholeBits (2 * min (max n (-1073741824)) 1073741824 - 1) := by unfold signedBits clampSigned; rw [if_pos hpos]
    have HS := Lib.hid hs; clear hs
    go_enter Tryd.func75, Tryd.ntmps75
    go_wp2_with (fail)
    refine (whole_any p r bs _ _ (by omega) H0.out).mono ?_
    rintro e w1 ⟨rfl, hw1⟩
    have HW := Lib.hid hw1; clear hw1
    go_wp2
    go_end0
    exact ⟨rfl, by rw [HS.out]; exact HW.out⟩
  · have hs : signedBits n = wholeBits (-2 * min (max n (-1073741824)) 1073741824) := by unfold signedBits clampSigned; rw [if_neg hpos]
    have HS := Lib.hid hs; clear hs
    go_enter Tryd.func75, Tryd.ntmps75
    go_wp2_with (fail)
    refine (whole_any p r bs _ _ (by omega) H0.out).mono ?_
    rintro e w1 ⟨rfl, hw1⟩
    have HW := Lib.hid hw1; clear hw1
    go_wp2
    go_end0
    refine ⟨rfl, ?_⟩
    rw [HS.out]
    have := HW.out
    first | exact this | simpa using this

theorem many_any (p : Nat) (r : Option Nat) (bs : List Bool) (w : World) (h : WrIs w p r bs) :
    Calls Tryd.prog 19 #[.pointer (some ⟨p, 0, none⟩)] w fun e w' => e = .returned (.int .i64 (bs.length : Int)) ∧ w = w' := by
  obtain ⟨v, hp, -, -, -⟩ := h
  have h1 : w.cell? ⟨p, 1, none⟩ = some (.int .i64 (bs.length : Int)) := by rw [cell_of_heap hp]; rfl
  clear hp
  go_enter Tryd.func19, Tryd.ntmps19
  go_wp2
  go_ret
  exact ⟨rfl, rfl⟩

/-- A new block of bytes, and nothing else has turned. -/
def NewBytes (w w' : World) (l : List Nat) (e : Ending) : Prop :=
  ∃ g, e = .returned (.slice (some ⟨g, 0, none⟩) l.length l.length) ∧ w.heap.size ≤ g ∧ w'.heap[g]? = some (.cells (byteVals l).toArray 5 (0, 0)) ∧ Kept (fun _ => False) w w'

theorem madeCells_one (z : Value) (n : Nat) : madeCells #[z] n = (List.replicate n z).toArray := by
  unfold madeCells
  apply Array.ext
  · simp
  · intro i h1 h2
    simp [Nat.mod_one]

theorem splice_whole {α : Type} (L cs : List α) (h : cs.length = L.length) : splice L 0 cs = cs := by
  unfold splice
  rw [List.take_zero, List.nil_append, Nat.zero_add, h, List.drop_length, List.append_nil]

theorem oneCell_byteVals (l : List Nat) : ∀ v ∈ byteVals l, v.oneCell' = true := by
  intro v hv
  obtain ⟨x, _, rfl⟩ := List.mem_map.1 hv
  rfl

theorem Tryd.size_u8 : (Tryd.prog.info? 5).map (·.size) = some 1 := by kernel_rfl

set_option maxHeartbeats 400000 in
theorem bytes_any (p : Nat) (r : Option Nat) (bs : List Bool) (w : World) (hm : bs.length < 1099511627776) (h : WrIs w p r bs) :
    Calls Tryd.prog 20 #[.pointer (some ⟨p, 0, none⟩)] w fun e w' => NewBytes w w' (pack bs) e := by
  have H0 := Lib.hid h
  obtain ⟨v, hp, hown, -, -⟩ := h
  have h0 : w.cell? ⟨p, 0, none⟩ = some v := by rw [cell_of_heap hp]; rfl
  have hnb : nbytes bs.length ≤ 1099511627776 := by unfold nbytes; omega
  have hpl : p < w.heap.size := lt_of_heap hp
  have hv : ∃ a cap, v = .slice a (nbytes bs.length) cap := by
    rcases hown.2 with ⟨rfl, h⟩ | ⟨g, cap, cur, rfl, _⟩
    · exact ⟨none, 0, by rw [h]⟩
    · exact ⟨_, cap, rfl⟩
  obtain ⟨a, cap, rfl⟩ := hv
  generalize hN : nbytes bs.length = n at *
  have HN := Lib.hid hN; clear hN
  have hmk := fun wx : World => run_make_row' (P := Tryd.prog) 28 5 (.int .u8 0) 1 Tryd.underlying28 Tryd.info_u8 rfl .i64 .i64 n (by omega) (by omega) wx
  have HO := Lib.hid hown; clear hown hp
  go_enter Tryd.func20, Tryd.ntmps20
  go_wp2_with (with_reducible refine wpList_copy_splice rfl (.tmp 12) (.tmp 16) 28 28 rfl 5 Tryd.underlying28 Tryd.size_u8 _ _ _ _ _ _ rfl rfl w.heap.size 0 (List.replicate n (.int .u8 0)) 5 ?hg (byteVals (pack bs)) ?hn ?hpos ?hfit (oneCell_byteVals _) w.heap.size w ?hb (Nat.le_refl _) ?_)
  case hg => rw [madeCells_one]; exact heap_alloc_new w _
  case hn => rw [byteVals_length, pack_length, HN.out]; simp
  case hpos =>
    intro h
    rw [byteVals_length, pack_length, HN.out] at h
    rcases HO.out.2 with ⟨_, h'⟩ | ⟨g, cap', cur, hv, _⟩
    · omega
    · cases hv
      refine ⟨⟨g, 0, none⟩, rfl, fun j v hj => ?_⟩
      have hc := HO.out.cells (g := g) rfl j v hj
      have hlt : g < w.heap.size := (HO.out.lt g rfl).2
      rw [Addr.add_lit] at hc ⊢
      rw [World.cell?_alloc_past _ _ _ hlt]; exact hc
  case hfit => rw [byteVals_length, pack_length, HN.out]; simp
  case hb => exact (Below.refl _ _).alloc (Nat.le_refl _) _
  intro w2 HG2 hB2
  have HB := Lib.hid hB2; clear hB2
  go_wp2
  go_ret
  refine ⟨w.heap.size, ?_, Nat.le_refl _, ?_, Below.kept HB.out⟩
  · have e : (pack bs).length = n := by rw [pack_length, HN.out]
    rw [e]; rfl
  · rw [HG2.out, splice_whole _ _ (by rw [byteVals_length, pack_length, HN.out]; simp)]

end Go.Proofs.YtdcbabgcbkdlhaaDoor
set_option maxRecDepth 100000
namespace Go.Proofs.YtdcbabgcbkdlhaaDoor
open Go.RowKit

/-- At block p lies a reader of the bytes l, which lie in block g, at the bit 'at_'. -/
def RdAt (w : World) (p g : Nat) (l : List Nat) (at_ : Nat) (lost : Bool) : Prop :=
  w.heap[p]? = some (.cells #[.slice (some ⟨g, 0, none⟩) l.length l.length, .int .i64 (at_ : Int), .bool lost] 82 (0, 0)) ∧
    w.heap[g]? = some (.cells (byteVals l).toArray 5 (0, 0)) ∧ g ≠ p

theorem RdAt.kept {S : Nat → Prop} {w w' : World} {p g : Nat} {l : List Nat} {at_ : Nat} {lost : Bool} (h : RdAt w p g l at_ lost) (k : Kept S w w') (hp : ¬ S p) (hg : ¬ S g) : RdAt w' p g l at_ lost :=
  ⟨k.at h.1 hp, k.at h.2.1 hg, h.2.2⟩

theorem RdAt.drew {w : World} {p g : Nat} {l : List Nat} {at_ : Nat} {lost : Bool} (h : RdAt w p g l at_ lost) : RdAt w.drew p g l at_ lost := h

theorem RdAt.facts {w : World} {p g : Nat} {l : List Nat} {at_ : Nat} {lost : Bool} (h : RdAt w p g l at_ lost) :
    w.cell? ⟨p, 0, none⟩ = some (.slice (some ⟨g, 0, none⟩) l.length l.length) ∧ w.cell? ⟨p, 1, none⟩ = some (.int .i64 (at_ : Int)) ∧ w.cell? ⟨p, 2, none⟩ = some (.bool lost) ∧
    w.frozen? ⟨p, 1, none⟩ = false ∧ w.frozen? ⟨p, 2, none⟩ = false := by
  refine ⟨by rw [cell_of_heap h.1]; rfl, by rw [cell_of_heap h.1]; rfl, by rw [cell_of_heap h.1]; rfl, frozen_of_heap h.1, frozen_of_heap h.1⟩

theorem RdAt.byte {w : World} {p g : Nat} {l : List Nat} {at_ : Nat} {lost : Bool} (h : RdAt w p g l at_ lost) (i : Nat) (hi : i < l.length) : w.cell? ⟨g, i, none⟩ = some (.int .u8 (l.getD i 0 : Nat)) := by
  rw [cell_of_heap h.2.1]; simp [byteVals, List.getD, hi]

theorem RdAt.setAt {w : World} {p g : Nat} {l : List Nat} {at_ : Nat} {lost : Bool} (h : RdAt w p g l at_ lost) (n : Nat) (x : Int) (hx : x = (n : Int)) : RdAt (w.setCell ⟨p, 1, none⟩ (.int .i64 x)) p g l n lost := by
  subst hx
  refine ⟨?_, (heap_setCell_other _ p 1 g _ h.2.2).trans h.2.1, h.2.2⟩
  rw [heap_setCell_same _ p 1 _ h.1]; simp

theorem RdAt.setLost {w : World} {p g : Nat} {l : List Nat} {at_ : Nat} {lost : Bool} (h : RdAt w p g l at_ lost) (b : Bool) : RdAt (w.setCell ⟨p, 2, none⟩ (.bool b)) p g l at_ b := by
  refine ⟨?_, (heap_setCell_other _ p 2 g _ h.2.2).trans h.2.1, h.2.2⟩
  rw [heap_setCell_same _ p 2 _ h.1]; simp

/-- What panics when a reader gives up. -/
def gaveUp : List PanicEntry := [{ v := .iface 33 (.int .i64 10), recovered := false }]

/-- What an inner reading leaves: a number, and the next bit's place; or it has given up. -/
def RdPost (w : World) (p g : Nat) (l : List Nat) (o : Option (Int × Nat)) (e : Ending) (w' : World) : Prop :=
  match o with
  | some (n, a) => e = .returned (.int .i64 n) ∧ RdAt w' p g l a false ∧ Kept (· = p) w w'
  | none => e = .panicked gaveUp ∧ (∃ a, RdAt w' p g l a false) ∧ Kept (· = p) w w'

/-- Bytes that are bytes, and not too many. -/
def Fair (l : List Nat) : Prop := (∀ x ∈ l, x < 256) ∧ l.length < 1099511627776

theorem Fair.getD {l : List Nat} (h : Fair l) (i : Nat) : l.getD i 0 < 256 := by
  rw [List.getD]
  cases hh : l[i]? with
  | none => simp
  | some x => simpa using h.1 x (List.mem_of_getElem? hh)

theorem giveUp_any (w : World) :
    Calls Tryd.prog 84 #[] w fun e w' => e = .panicked gaveUp ∧ w = w' := by
  go_enter Tryd.func84, Tryd.ntmps84
  go_wp2
  exact ⟨rfl, rfl, rfl⟩

theorem bit_of_byte (x k : Nat) (hx : x < 256) : wrap64 (bits BinOp.and IntKind.u8 ((x : Int) / 2 ^ k) 1) = ((x.testBit k).toNat : Int) := by
  have e : ((x : Int) / 2 ^ k) = ((x / 2 ^ k : Nat) : Int) := by simp
  have hle : x / 2 ^ k ≤ x := Nat.div_le_self _ _
  have := Nat.mod_lt (x / 2 ^ k) (show 0 < 2 by decide)
  rw [e, show (1 : Int) = ((1 : Nat) : Int) from rfl, u8_and_nat _ _ (by omega) (by omega), Nat.and_one_is_mod, Nat.toNat_testBit]
  unfold wrap64; omega

set_option maxHeartbeats 400000 in
theorem next_some (p g : Nat) (l : List Nat) (a : Nat) (w : World) (hl : Fair l) (h : RdAt w p g l a false) (ha : a < 8 * l.length) :
    Calls Tryd.prog 109 #[.pointer (some ⟨p, 0, none⟩)] w fun e w' => e = .returned (.int .i64 ((bitAt l a).toNat : Int)) ∧ RdAt w' p g l (a + 1) false ∧ Kept (· = p) w w' := by
  obtain ⟨h0, h1, -, f1, -⟩ := h.facts
  have hx := h.byte (a / 8) (by omega)
  have hx256 := hl.getD (a / 8)
  have hbit := bit_of_byte (l.getD (a / 8) 0) (7 - a % 8) hx256
  have HB := Lib.hid hbit; clear hbit
  have HA := Lib.hid h; clear h
  have hlen := hl.2
  clear hl
  generalize hX : l.getD (a / 8) 0 = x at *
  have HX := Lib.hid hX; clear hX
  generalize hN : l.length = n at *
  have HN := Lib.hid hN; clear hN
  have hq : (a : Int) / 8 < n := by omega
  have hq1 : 0 ≤ (a : Int) / 8 := by omega
  have hq2 : ((a : Int) / 8).toNat = a / 8 := by omega
  go_enter Tryd.func109, Tryd.ntmps109
  go_wp2_with (fail)
  go_quiet (fail)
  go_wp2
  go_ret
  refine ⟨?_, ?_, ?_⟩
  · unfold bitAt; rw [HX.out, ← HB.out]; rfl
  · exact (RdAt.setAt (HA.out.kept ((Kept.refl (fun _ => False) _).drewN _) id id) (a + 1) _ (by omega))
  · exact ((Kept.refl (· = p) _).drewN _).setCell _ (fun _ => rfl) _

set_option maxHeartbeats 400000 in
theorem next_none (p g : Nat) (l : List Nat) (a : Nat) (w : World) (hl : Fair l) (h : RdAt w p g l a false) (ha : 8 * l.length ≤ a) (ha2 : a < 8796093022208) :
    Calls Tryd.prog 109 #[.pointer (some ⟨p, 0, none⟩)] w fun e w' => e = .panicked gaveUp ∧ w = w' := by
  obtain ⟨h0, h1, -, -, -⟩ := h.facts
  clear h
  have hlen := hl.2
  clear hl
  generalize l.length = n at *
  have hq : (n : Int) ≤ (a : Int) / 8 := by omega
  go_enter Tryd.func109, Tryd.ntmps109
  go_wp2_with (go_at_call 84; refine (giveUp_any _).mono ?_; rintro e w' ⟨rfl, rfl⟩)
  exact ⟨rfl, rfl, rfl⟩

/-- The number of k bits. -/
def valAt (l : List Nat) (a : Nat) : Nat → Nat
  | 0 => 0
  | k + 1 => 2 * valAt l a k + (bitAt l (a + k)).toNat

theorem valAt_lt (l : List Nat) (a k : Nat) : valAt l a k < 2 ^ k := by
  induction k with
  | zero => simp [valAt]
  | succ k ih => have := toNat_le_one (bitAt l (a + k)); simp only [valAt, Nat.pow_succ]; omega

def fixedAt (l : List Nat) (a k : Nat) : Option (Int × Nat) := if a + k ≤ 8 * l.length then some ((valAt l a k : Int), a + k) else none

theorem or_next (x : Nat) (b : Bool) (hx : x < 2 ^ 33) : bits BinOp.or IntKind.i64 ((x : Int) * 2) (b.toNat : Int) = ((2 * x + b.toNat : Nat) : Int) := by
  have := toNat_le_one b
  rw [bits_join .i64 63 (by decide) (fun n h0 h1 => by rw [IntKind.wrap_i64]; omega) 1 ((x : Int) * 2) (b.toNat : Int) (by omega) (by omega) (by omega) (by omega) (by omega) (by omega)]
  omega

set_option maxHeartbeats 400000 in
theorem fixed_rd (p g : Nat) (l : List Nat) (a k : Nat) (w : World) (hl : Fair l) (hk : k ≤ 32) (h : RdAt w p g l a false) (ha : a ≤ 8 * l.length) :
    Calls Tryd.prog 110 #[.pointer (some ⟨p, 0, none⟩), .int .i64 (k : Int)] w (RdPost w p g l (fixedAt l a k)) := by
  have H0 := Lib.hid h; clear h
  have HL := Lib.hid hl
  have hlen := hl.2
  clear hl
  go_enter Tryd.func110, Tryd.ntmps110
  go_wp2_with (fail)
  go_loopw [5, 7] (fun s5 s7 wr => ∃ j : Nat, j ≤ k ∧ s7 = .int .i64 (j : Int) ∧ s5 = .int .i64 (valAt l a j : Int) ∧ a + j ≤ 8 * l.length ∧ RdAt wr p g l (a + j) false ∧ Kept (· = p) w wr) (fun _ i _ => k - (intOf i).toNat)
  case atStart => exact ⟨0, Nat.zero_le _, rfl, rfl, ha, H0.out, Kept.refl _ _⟩
  case round =>
    obtain ⟨j, hj, rfl, rfl, haj, hr, hkp⟩ := hrel
    have HR := Lib.hid hr; clear hr
    have HK := Lib.hid hkp; clear hkp
    have hv := valAt_lt l a j
    have hv32 : valAt l a j < 4294967296 := Nat.lt_of_lt_of_le hv (by have := Nat.pow_le_pow_right (n := 2) (by decide) (show j ≤ 32 by omega); simpa using this)
    clear hv
    by_cases hlt : j < k
    · by_cases hin : a + j < 8 * l.length
      · go_wp2_with (fail)
        refine (next_some p g l (a + j) _ HL.out HR.out hin).mono ?_
        rintro e w1 ⟨rfl, hr1, hk1⟩
        have HR1 := Lib.hid hr1; clear hr1
        have HK1 := Lib.hid (HK.out.trans hk1 (fun _ _ x => x)); clear hk1
        go_wp2
        go_roundw
        case rel =>
          refine ⟨j + 1, by omega, by go_num, ?_, by omega, HR1.out, HK1.out⟩
          rw [or_next _ _ (by omega)]; rfl
        case measure => simp [intOf]; omega
      · go_wp2_with (fail)
        refine (next_none p g l (a + j) _ HL.out HR.out (by omega) (by omega)).mono ?_
        rintro e w1 ⟨rfl, rfl⟩
        go_wp2
        refine ⟨rfl, ?_⟩
        have e : fixedAt l a k = none := by unfold fixedAt; rw [if_neg (by omega)]
        rw [e]
        exact ⟨rfl, ⟨_, HR.out⟩, HK.out⟩
    · go_wp2
      go_ret
      have ej : j = k := by omega
      subst ej
      have e : fixedAt l a j = some ((valAt l a j : Int), a + j) := by unfold fixedAt; rw [if_pos haj]
      rw [e]
      exact ⟨rfl, HR.out, HK.out⟩

theorem fixed_yes (p g : Nat) (l : List Nat) (a k : Nat) (w : World) (hl : Fair l) (hk : k ≤ 32) (h : RdAt w p g l a false) (ha : a + k ≤ 8 * l.length) :
    Calls Tryd.prog 110 #[.pointer (some ⟨p, 0, none⟩), .int .i64 (k : Int)] w fun e w' => e = .returned (.int .i64 (valAt l a k : Int)) ∧ RdAt w' p g l (a + k) false ∧ Kept (· = p) w w' := by
  refine (fixed_rd p g l a k w hl hk h (by omega)).mono fun e w' hp => ?_
  have e : fixedAt l a k = some ((valAt l a k : Int), a + k) := by unfold fixedAt; rw [if_pos ha]
  rw [e] at hp; exact hp

theorem fixed_stop (p g : Nat) (l : List Nat) (a k : Nat) (w : World) (hl : Fair l) (hk : k ≤ 32) (h : RdAt w p g l a false) (ha : a ≤ 8 * l.length) (ha2 : 8 * l.length < a + k) :
    Calls Tryd.prog 110 #[.pointer (some ⟨p, 0, none⟩), .int .i64 (k : Int)] w fun e w' => e = .panicked gaveUp ∧ (∃ a, RdAt w' p g l a false) ∧ Kept (· = p) w w' := by
  refine (fixed_rd p g l a k w hl hk h (by omega)).mono fun e w' hp => ?_
  have e : fixedAt l a k = none := by unfold fixedAt; rw [if_neg (by omega)]
  rw [e] at hp; exact hp

/-- The number that Whole wrote at a, if z bits 0 of it are read; with fuel for as many rounds. -/
def wholeFrom (l : List Nat) (a : Nat) : Nat → Nat → Option (Int × Nat)
  | 0, _ => none
  | f + 1, z => if a + z < 8 * l.length then (if bitAt l (a + z) then (if a + z + 1 + z ≤ 8 * l.length then some (((2 ^ z + valAt l (a + z + 1) z : Nat) : Int) - 1, a + z + 1 + z) else none) else (if 31 < z + 1 then none else wholeFrom l a f (z + 1))) else none

def wholeAt (l : List Nat) (a : Nat) : Option (Int × Nat) := wholeFrom l a 33 0

theorem or_top (x z : Nat) (hz : z ≤ 31) (hx : x < 2 ^ z) : bits BinOp.or IntKind.i64 ((2 : Int) ^ z) (x : Int) = ((2 ^ z + x : Nat) : Int) := by
  have hp : (2 : Nat) ^ z ≤ 2 ^ 31 := Nat.pow_le_pow_right (by decide) hz
  have e : (2 : Int) ^ z = ((2 ^ z : Nat) : Int) := by simp
  rw [e, bits_join .i64 63 (by decide) (fun n h0 h1 => by rw [IntKind.wrap_i64]; omega) z ((2 ^ z : Nat) : Int) (x : Int) (by omega) (by simp) (by omega) (by omega) (by exact_mod_cast hx) (by omega)]
  omega

set_option maxHeartbeats 1000000 in
theorem whole_rd (p g : Nat) (l : List Nat) (a : Nat) (w : World) (hl : Fair l) (h : RdAt w p g l a false) (ha : a ≤ 8 * l.length) :
    Calls Tryd.prog 83 #[.pointer (some ⟨p, 0, none⟩)] w (RdPost w p g l (wholeAt l a)) := by
  have H0 := Lib.hid h; clear h
  have HL := Lib.hid hl
  have hlen := hl.2
  clear hl
  go_enter Tryd.func83, Tryd.ntmps83
  go_wp2_with (fail)
  go_loopw [3] (fun s3 wr => ∃ z : Nat, z ≤ 31 ∧ s3 = .int .i64 (z : Int) ∧ a + z ≤ 8 * l.length ∧ wholeFrom l a (33 - z) z = wholeAt l a ∧ RdAt wr p g l (a + z) false ∧ Kept (· = p) w wr) (fun i _ => 32 - (intOf i).toNat)
  case atStart => exact ⟨0, by omega, rfl, ha, rfl, H0.out, Kept.refl _ _⟩
  case round =>
    obtain ⟨z, hz, rfl, haz, hwf, hr, hkp⟩ := hrel
    have HR := Lib.hid hr; clear hr
    have HK := Lib.hid hkp; clear hkp
    have HF := Lib.hid hwf; clear hwf
    have hfz : 33 - z = (32 - z) + 1 := by omega
    have hf2 := HF.out
    rw [hfz, wholeFrom] at hf2
    have HF2 := Lib.hid hf2; clear hf2 hfz
    by_cases hin : a + z < 8 * l.length
    · cases hb : bitAt l (a + z) with
      | true =>
        have hbt : ((((bitAt l (a + z)).toNat : Nat) : Int) == 0) = false := by rw [hb]; rfl
        have HB := Lib.hid hb; clear hb
        go_wp2_with (fail)
        refine (next_some p g l (a + z) _ HL.out HR.out hin).mono ?_
        rintro e w1 ⟨rfl, hr1, hk1⟩
        have HR1 := Lib.hid hr1; clear hr1
        have HK1 := Lib.hid (HK.out.trans hk1 (fun _ _ x => x)); clear hk1
        have hv := valAt_lt l (a + z + 1) z
        have hor := or_top (valAt l (a + z + 1) z) z hz hv
        have HO := Lib.hid hor; clear hor
        have hp31 : (2 : Nat) ^ z ≤ 2147483648 := by have := Nat.pow_le_pow_right (n := 2) (by decide) hz; simpa using this
        have hv32 : valAt l (a + z + 1) z < 2147483648 := by omega
        have hw2 : IntKind.i64.wrap (2 ^ z) = 2 ^ z := by
          have e : (2 : Int) ^ z = ((2 ^ z : Nat) : Int) := by simp
          rw [e, IntKind.wrap_i64]; omega
        clear hv hp31
        by_cases hfit : a + z + 1 + z ≤ 8 * l.length
        · go_wp2_with (fail)
          go_region_with (go_at_call 110; refine (fixed_yes p g l (a + z + 1) z _ HL.out (by omega) ?_ hfit).mono ?_; exact HR1.out.drew; rintro e w2 ⟨rfl, hr2, hk2⟩)
          have HR2 := Lib.hid hr2; clear hr2
          have HK2 := Lib.hid (HK1.out.drew.trans hk2 (fun _ _ x => x)); clear hk2
          have hlo : 0 ≤ bits BinOp.or IntKind.i64 (2 ^ z) ↑(valAt l (a + z + 1) z) ∧ bits BinOp.or IntKind.i64 (2 ^ z) ↑(valAt l (a + z + 1) z) < 4294967296 := by
            have hp31 : (2 : Nat) ^ z ≤ 2147483648 := by have := Nat.pow_le_pow_right (n := 2) (by decide) hz; simpa using this
            have hp0 : 0 < (2 : Nat) ^ z := Nat.two_pow_pos z
            rw [HO.out]; omega
          obtain ⟨hlo1, hlo2⟩ := hlo
          go_wp2
          go_ret
          have e : wholeAt l a = some (((2 ^ z + valAt l (a + z + 1) z : Nat) : Int) - 1, a + z + 1 + z) := by rw [← HF2.out, if_pos hin, HB.out, if_pos rfl, if_pos hfit]
          rw [e]
          refine ⟨?_, HR2.out, HK2.out⟩
          rw [← HO.out]; rfl
        · have e : wholeAt l a = none := by rw [← HF2.out, if_pos hin, HB.out, if_pos rfl, if_neg hfit]
          have HE := Lib.hid e; clear e
          go_wp2_with (fail)
          refine wp_region_any (by kernel_rfl) ?_
          change wpAny _ _ _ _ _ _ _ (World.drew _)
          refine wpAny_take (i := 0) (v := ?_) rfl (by kernel_rfl) (by kernel_rfl) (by kernel_rfl) (fun _ _ _ h => h) (Or.inl ⟨by rfl, ?_⟩) ?_
          rotate_left
          · intro w; go_simp; try with_reducible rfl
          rotate_left
          refine wpAny_take (i := 1) (v := ?_) rfl (by kernel_rfl) (by kernel_rfl) (by kernel_rfl) (fun _ _ _ h => h) (Or.inl ⟨by rfl, ?_⟩) ?_
          rotate_left
          · intro w; go_simp; try with_reducible rfl
          rotate_left
          refine wpAny_take (i := 2) (v := ?_) rfl (by kernel_rfl) (by kernel_rfl) (by kernel_rfl) (fun _ _ _ h => h) (Or.inl ⟨by rfl, ?_⟩) ?_
          rotate_left
          · intro w; go_simp; try with_reducible rfl
          rotate_left
          refine wpAny_take (i := 3) (v := ?_) rfl (by kernel_rfl) (by kernel_rfl) (by kernel_rfl) (fun _ _ _ h => h) (Or.inl ⟨by rfl, ?_⟩) ?_
          rotate_left
          · intro w; go_simp; try with_reducible rfl
          rotate_left
          refine wpAny_ready (rs := [4]) (by kernel_rfl) (by simp) ?_
          refine AllReady.cons rfl (fun K hK => ?_) AllReady.nil
          go_simp
          refine (fixed_stop p g l (a + z + 1) z _ HL.out (by omega) ?_ (by omega) (by omega)).mono ?_
          · exact HR1.out.drew
          rintro e w2 ⟨rfl, hr2, hk2⟩
          refine ⟨rfl, ?_⟩
          rw [HE.out]
          exact ⟨rfl, hr2, HK1.out.drew.trans hk2 (fun _ _ x => x)⟩
      | false =>
        have hbt : ((((bitAt l (a + z)).toNat : Nat) : Int) == 0) = true := by rw [hb]; rfl
        have HB := Lib.hid hb; clear hb
        go_wp2_with (fail)
        refine (next_some p g l (a + z) _ HL.out HR.out hin).mono ?_
        rintro e w1 ⟨rfl, hr1, hk1⟩
        have HR1 := Lib.hid hr1; clear hr1
        have HK1 := Lib.hid (HK.out.trans hk1 (fun _ _ x => x)); clear hk1
        by_cases h31 : 31 < z + 1
        · go_wp2_with (fail)
          refine (giveUp_any _).mono ?_
          rintro e w2 ⟨rfl, rfl⟩
          go_wp2
          refine ⟨rfl, ?_⟩
          have e : wholeAt l a = none := by rw [← HF2.out, if_pos hin, HB.out, if_pos h31]; rfl
          rw [e]
          exact ⟨rfl, ⟨_, HR1.out⟩, HK1.out⟩
        · go_wp2
          go_roundw
          case rel =>
            refine ⟨z + 1, by omega, by go_num, by omega, ?_, HR1.out, HK1.out⟩
            rw [← HF2.out, if_pos hin, HB.out, if_neg h31]
            simp
          case measure => simp [intOf]; omega
    · go_wp2_with (fail)
      refine (next_none p g l (a + z) _ HL.out HR.out (by omega) (by omega)).mono ?_
      rintro e w1 ⟨rfl, rfl⟩
      go_wp2
      refine ⟨rfl, ?_⟩
      have e : wholeAt l a = none := by rw [← HF2.out, if_neg hin]
      rw [e]
      exact ⟨rfl, ⟨_, HR.out⟩, HK.out⟩

end Go.Proofs.YtdcbabgcbkdlhaaDoor
set_option maxRecDepth 100000
namespace Go.Proofs.YtdcbabgcbkdlhaaDoor
open Go.RowKit

theorem lost_rd (p g : Nat) (l : List Nat) (a : Nat) (b : Bool) (w : World) (h : RdAt w p g l a b) :
    Calls Tryd.prog 41 #[.pointer (some ⟨p, 0, none⟩)] w fun e w' => e = .returned (.bool b) ∧ w = w' := by
  obtain ⟨-, -, h2, -, -⟩ := h.facts
  clear h
  go_enter Tryd.func41, Tryd.ntmps41
  go_wp2
  go_ret
  exact ⟨rfl, rfl⟩

/-- The deferred function, where the reading has given up: 0 is answered, and the reader is lost. -/
theorem catch_panicking (pn pr : Addr) (p : Nat) (b : Bool) (u : TypeId) (pv : Value) (older : List PanicEntry) (w : World)
    (hn : w.cell? pn = some (.int .i64 0)) (fn : w.frozen? pn = false) (hr : w.cell? pr = some (.pointer (some ⟨p, 0, none⟩))) (hl : w.cell? ⟨p, 2, none⟩ = some (.bool b)) (fl : w.frozen? ⟨p, 2, none⟩ = false) (hne : ¬ pn.block = p) :
    CallsD Tryd.prog 108 #[.pointer (some pn), .pointer (some pr)] (.panicking ({ v := .iface u pv, recovered := false } :: older)) w fun e u' w' =>
      e = .returned (.tuple #[]) ∧ u' = .panicking ({ v := .iface u pv, recovered := true } :: older) ∧ w' = (w.setCell pn (.int .i64 0)).setCell ⟨p, 2, none⟩ (.bool true) := by
  refine callsD_of_wpS Tryd.func108 rfl fun c₀ cs hu => ?_
  apply wpS_seq
  apply wpS_region
  simp [wpOpsS, go_sem, recoverD, hu, Tryd.ntmps108, Exit.thenS]
  refine wpS_cond (t := true) (by simp [Act.eval, Array.replicate]) ?_
  simp only [if_true]
  apply wpS_region
  have hl2 : (w.setCell pn (.int .i64 0)).cell? ⟨p, 2, none⟩ = some (.bool b) := by
    rw [← hl]; exact World.cell?_of_block (Below.heap_setCell _ _ _ _ (fun e => hne e.symm))
  have fl2 : (w.setCell pn (.int .i64 0)).frozen? ⟨p, 2, none⟩ = false := by
    rw [← fl]; exact World.frozen?_of_block (Below.heap_setCell _ _ _ _ (fun e => hne e.symm))
  simp [wpOpsS, go_sem, hn, fn, hr, hl2, fl2, bodyPostS, results, Tryd.results108]

theorem catch_idle (pn pr : Addr) (w : World) :
    CallsD Tryd.prog 108 #[.pointer (some pn), .pointer (some pr)] .returning w fun e u' w' => e = .returned (.tuple #[]) ∧ u' = .returning ∧ w' = w := by
  refine callsD_of_wpS Tryd.func108 rfl fun c₀ cs hu => ?_
  apply wpS_seq
  apply wpS_region
  simp [wpOpsS, go_sem, recoverD, hu, Tryd.ntmps108, Exit.thenS]
  refine wpS_cond (t := false) (by simp [Act.eval, Array.replicate]) ?_
  simp only [Bool.false_eq_true, if_false]
  refine wpS_of_wp (wp_skip ?_)
  cases c₀
  simp_all [bodyPostS, results, Tryd.results108]

theorem RdAt.lt {w : World} {p g : Nat} {l : List Nat} {a : Nat} {b : Bool} (h : RdAt w p g l a b) : p < w.heap.size ∧ g < w.heap.size := ⟨lt_of_heap h.1, lt_of_heap h.2.1⟩

set_option maxHeartbeats 400000 in
theorem attempt_lost (p g : Nat) (l : List Nat) (a : Nat) (f : Value) (w : World) (h : RdAt w p g l a true) :
    Calls Tryd.prog 81 #[.pointer (some ⟨p, 0, none⟩), f] w fun e w' => e = .returned (.int .i64 0) ∧ Kept (fun _ => False) w w' := by
  have H0 := Lib.hid h; clear h
  go_enter_defers Tryd.func81, Tryd.ntmps81
  go_wp2_with (fail)
  refine (lost_rd p g l a true _ ?_).mono ?_
  · exact (H0.out.kept ((Kept.refl (fun _ => False) _).alloc _) id id).kept ((Kept.refl (fun _ => False) _).alloc _) id id
  rintro e w1 ⟨rfl, rfl⟩
  go_wp2
  simp [bodyPostD, Leaves, results, Tryd.results81, go_sem]
  exact ((Kept.refl _ _).alloc _).alloc _

theorem two_boxes (w : World) (x y : Value) (t t' : TypeId) :
    ((w.alloc (.cells #[x] t)).alloc (.cells #[y] t')).heap[w.heap.size]? = some (.cells #[x] t) ∧ ((w.alloc (.cells #[x] t)).alloc (.cells #[y] t')).heap[w.heap.size + 1]? = some (.cells #[y] t') := by
  constructor
  · rw [Below.heap_alloc _ _ _ (by simp)]; exact heap_alloc_new w _
  · have := heap_alloc_new (w.alloc (.cells #[x] t)) (.cells #[y] t')
    simpa using this

/-- What a reader's call leaves: a number, and the next bit's place; or 0, and the reader is lost. -/
def RdRes (w : World) (p g : Nat) (l : List Nat) (o : Option (Int × Nat)) (e : Ending) (w' : World) : Prop :=
  match o with
  | some (n, a) => e = .returned (.int .i64 n) ∧ RdAt w' p g l a false ∧ Kept (· = p) w w'
  | none => e = .returned (.int .i64 0) ∧ (∃ a, RdAt w' p g l a true) ∧ Kept (· = p) w w'

set_option maxHeartbeats 400000 in
theorem attempt_some (p g : Nat) (l : List Nat) (a : Nat) (f : FuncId) (first cap : Array Value) (n : Int) (a' : Nat) (w : World) (h : RdAt w p g l a false)
    (hcf : ∀ (A : Array Value) (w : World), (callFunc f A).run Tryd.prog w = .ok (.enter f A) w)
    (hcall : ∀ w1, Kept (fun _ => False) w w1 → Calls Tryd.prog f (first ++ cap) w1 (RdPost w1 p g l (some (n, a')))) :
    Calls Tryd.prog 81 #[.pointer (some ⟨p, 0, none⟩), .func (.func f) first cap] w (RdRes w p g l (some (n, a'))) := by
  have hmf : ∀ (fn : Fn) (first cap : Array Value) (w : World), (Instr.makeFunc fn first cap).run Tryd.prog w = .ok (.func fn first cap) w := fun _ _ _ _ => rfl
  have hpl := h.lt.1
  have hgl := h.lt.2
  have H0 := Lib.hid h; clear h
  have HC := Lib.hid hcall; clear hcall
  go_enter_defers Tryd.func81, Tryd.ntmps81
  go_wp2_with (fail)
  refine (lost_rd p g l a false _ ?_).mono ?_
  · exact (H0.out.kept ((Kept.refl (fun _ => False) _).alloc _) id id).kept ((Kept.refl (fun _ => False) _).alloc _) id id
  rintro e w1 ⟨rfl, rfl⟩
  go_wp2_with (fail)
  refine (HC.out _ (((Kept.refl _ _).alloc _).alloc _)).mono ?_
  rintro e w1 ⟨rfl, hr1, hk1⟩
  obtain ⟨b0, b1⟩ := two_boxes w (.pointer (some ⟨p, 0, none⟩)) (.int .i64 0) 39 3
  have hb1 := hk1.at b1 (by omega)
  have k1 : w1.cell? ⟨w.heap.size + 1, 0, none⟩ = some (.int .i64 0) := by rw [cell_of_heap hb1]; rfl
  have f1 : w1.frozen? ⟨w.heap.size + 1, 0, none⟩ = false := frozen_of_heap hb1
  have HB1 := Lib.hid hb1
  clear b0 b1 hb1
  have HR1 := Lib.hid hr1; clear hr1
  have HK1 := Lib.hid hk1; clear hk1
  go_wp2
  refine leaves_cons (f := 108) (args := #[.pointer (some ⟨w.heap.size + 1, 0, none⟩), .pointer (some ⟨w.heap.size, 0, none⟩)]) (by simp) (by simp [go_sem]) ?_
  refine (catch_idle ⟨w.heap.size + 1, 0, none⟩ ⟨w.heap.size, 0, none⟩ _).mono ?_
  rintro e u' w'' ⟨rfl, rfl, rfl⟩
  simp [Leaves, settle, results, Tryd.results81, go_sem]
  have hb1 := HB1.out
  have k2 : (w1.setCell ⟨w.heap.size + 1, 0, none⟩ (.int .i64 n)).cell? ⟨w.heap.size + 1, 0, none⟩ = some (.int .i64 n) := by
    rw [cell_of_heap (heap_setCell_same w1 (w.heap.size + 1) 0 (.int .i64 n) hb1)]; rfl
  rw [k2]
  refine ⟨_, rfl, rfl, ?_, ?_⟩
  · exact HR1.out.kept ((Kept.refl (· = w.heap.size + 1) _).setCell _ (fun _ => rfl) _) (by omega) (by omega)
  · refine ((((Kept.refl (· = p) w).alloc _).alloc _).trans HK1.out (fun _ _ x => x)).setCell _ (fun h => ?_) _
    exact absurd h (by simp)

set_option maxHeartbeats 400000 in
theorem attempt_none (p g : Nat) (l : List Nat) (a : Nat) (f : FuncId) (first cap : Array Value) (w : World) (h : RdAt w p g l a false)
    (hcf : ∀ (A : Array Value) (w : World), (callFunc f A).run Tryd.prog w = .ok (.enter f A) w)
    (hcall : ∀ w1, Kept (fun _ => False) w w1 → Calls Tryd.prog f (first ++ cap) w1 (RdPost w1 p g l none)) :
    Calls Tryd.prog 81 #[.pointer (some ⟨p, 0, none⟩), .func (.func f) first cap] w (RdRes w p g l none) := by
  have hmf : ∀ (fn : Fn) (first cap : Array Value) (w : World), (Instr.makeFunc fn first cap).run Tryd.prog w = .ok (.func fn first cap) w := fun _ _ _ _ => rfl
  have hpl := h.lt.1
  have hgl := h.lt.2
  have H0 := Lib.hid h; clear h
  have HC := Lib.hid hcall; clear hcall
  go_enter_defers Tryd.func81, Tryd.ntmps81
  go_wp2_with (fail)
  refine (lost_rd p g l a false _ ?_).mono ?_
  · exact (H0.out.kept ((Kept.refl (fun _ => False) _).alloc _) id id).kept ((Kept.refl (fun _ => False) _).alloc _) id id
  rintro e w1 ⟨rfl, rfl⟩
  go_wp2_with (fail)
  refine (HC.out _ (((Kept.refl _ _).alloc _).alloc _)).mono ?_
  rintro e w1 ⟨rfl, ⟨a', hr1⟩, hk1⟩
  obtain ⟨b0, b1⟩ := two_boxes w (.pointer (some ⟨p, 0, none⟩)) (.int .i64 0) 39 3
  have hb0 := hk1.at b0 (by omega)
  have hb1 := hk1.at b1 (by omega)
  have k0 : w1.cell? ⟨w.heap.size, 0, none⟩ = some (.pointer (some ⟨p, 0, none⟩)) := by rw [cell_of_heap hb0]; rfl
  have k1 : w1.cell? ⟨w.heap.size + 1, 0, none⟩ = some (.int .i64 0) := by rw [cell_of_heap hb1]; rfl
  have f1 : w1.frozen? ⟨w.heap.size + 1, 0, none⟩ = false := frozen_of_heap hb1
  obtain ⟨-, -, k2, -, f2⟩ := hr1.facts
  have HB1 := Lib.hid hb1
  clear b0 b1 hb0 hb1
  have HR1 := Lib.hid hr1; clear hr1
  have HK1 := Lib.hid hk1; clear hk1
  go_wp2
  refine leaves_cons (f := 108) (args := #[.pointer (some ⟨w.heap.size + 1, 0, none⟩), .pointer (some ⟨w.heap.size, 0, none⟩)]) (by simp) (by simp [go_sem]) ?_
  refine (catch_panicking ⟨w.heap.size + 1, 0, none⟩ ⟨w.heap.size, 0, none⟩ p false _ _ [] _ k1 f1 k0 k2 f2 (by simp; omega)).mono ?_
  rintro e u' w'' ⟨rfl, rfl, rfl⟩
  have hb1 := HB1.out
  have k3 : (w1.setCell ⟨w.heap.size + 1, 0, none⟩ (.int .i64 0)).cell? ⟨w.heap.size + 1, 0, none⟩ = some (.int .i64 0) := by
    rw [cell_of_heap (heap_setCell_same w1 (w.heap.size + 1) 0 (.int .i64 0) hb1)]; rfl
  simp [Leaves, settle, results, Tryd.results81, go_sem]
  rw [k3]
  refine ⟨_, rfl, rfl, ⟨a', ?_⟩, ?_⟩
  · exact (HR1.out.kept ((Kept.refl (· = w.heap.size + 1) _).setCell _ (fun _ => rfl) _) (by omega) (by omega)).setLost true
  · refine (((((Kept.refl (· = p) w).alloc _).alloc _).trans HK1.out (fun _ _ x => x)).setCell _ (fun h => ?_) _).setCell _ (fun _ => rfl) _
    exact absurd h (by simp)

/-- attempt, whatever the reading comes to. -/
theorem attempt_any (p g : Nat) (l : List Nat) (a : Nat) (f : FuncId) (first cap : Array Value) (o : Option (Int × Nat)) (w : World) (h : RdAt w p g l a false)
    (hcf : ∀ (A : Array Value) (w : World), (callFunc f A).run Tryd.prog w = .ok (.enter f A) w)
    (hcall : ∀ w1, Kept (fun _ => False) w w1 → Calls Tryd.prog f (first ++ cap) w1 (RdPost w1 p g l o)) :
    Calls Tryd.prog 81 #[.pointer (some ⟨p, 0, none⟩), .func (.func f) first cap] w (RdRes w p g l o) := by
  match o, hcall with
  | none, hcall => exact attempt_none p g l a f first cap w h hcf hcall
  | some (n, a'), hcall => exact attempt_some p g l a f first cap n a' w h hcf hcall

end Go.Proofs.YtdcbabgcbkdlhaaDoor
set_option maxRecDepth 100000
namespace Go.Proofs.YtdcbabgcbkdlhaaDoor
open Go.RowKit

/-- At block p lies a reader of the bytes l (in block g): at a bit, or lost. -/
def RdIs (w : World) (p g : Nat) (l : List Nat) (st : Option Nat) : Prop :=
  match st with
  | some a => a ≤ 8 * l.length ∧ RdAt w p g l a false
  | none => ∃ a, RdAt w p g l a true

theorem RdIs.kept {S : Nat → Prop} {w w' : World} {p g : Nat} {l : List Nat} {st : Option Nat} (h : RdIs w p g l st) (k : Kept S w w') (hp : ¬ S p) (hg : ¬ S g) : RdIs w' p g l st := by
  cases st with
  | none => obtain ⟨a, h⟩ := h; exact ⟨a, h.kept k hp hg⟩
  | some a => exact ⟨h.1, h.2.kept k hp hg⟩

theorem RdIs.lt {w : World} {p g : Nat} {l : List Nat} {st : Option Nat} (h : RdIs w p g l st) : p < w.heap.size ∧ g < w.heap.size ∧ g ≠ p := by
  cases st with
  | none => obtain ⟨a, h⟩ := h; exact ⟨h.lt.1, h.lt.2, h.2.2⟩
  | some a => exact ⟨h.2.lt.1, h.2.lt.2, h.2.2.2⟩

/-- A reading, of a reader that may be lost. -/
def rdStep (rd : Nat → Option (Int × Nat)) (st : Option Nat) : Int × Option Nat :=
  match st with
  | none => (0, none)
  | some a => match rd a with
    | some (n, a') => (n, some a')
    | none => (0, none)

/-- What a reader's call leaves. -/
def RdDone (w : World) (p g : Nat) (l : List Nat) (r : Int × Option Nat) (e : Ending) (w' : World) : Prop :=
  e = .returned (.int .i64 r.1) ∧ RdIs w' p g l r.2 ∧ Kept (· = p) w w'

theorem RdDone.of_res {w w' : World} {p g : Nat} {l : List Nat} {e : Ending} (rd : Nat → Option (Int × Nat)) (a : Nat) (hb : ∀ n a', rd a = some (n, a') → a' ≤ 8 * l.length) (h : RdRes w p g l (rd a) e w') :
    RdDone w p g l (rdStep rd (some a)) e w' := by
  cases ho : rd a with
  | none =>
    have e : rdStep rd (some a) = (0, none) := by simp [rdStep, ho]
    rw [e]
    rw [ho] at h
    exact ⟨h.1, h.2.1, h.2.2⟩
  | some na =>
    obtain ⟨n, a'⟩ := na
    have e : rdStep rd (some a) = (n, some a') := by simp [rdStep, ho]
    rw [e]
    rw [ho] at h
    exact ⟨h.1, ⟨hb n a' ho, h.2.1⟩, h.2.2⟩

theorem wholeFrom_le (l : List Nat) (a : Nat) (f z : Nat) (n : Int) (a' : Nat) (hz : z ≤ 31) (h : wholeFrom l a f z = some (n, a')) : a' ≤ 8 * l.length ∧ 0 ≤ n ∧ n < 4294967296 := by
  induction f generalizing z with
  | zero => cases h
  | succ f ih =>
    unfold wholeFrom at h
    split at h
    · split at h
      · split at h
        · simp only [Option.some.injEq, Prod.mk.injEq] at h
          obtain ⟨rfl, rfl⟩ := h
          have h1 := valAt_lt l (a + z + 1) z
          have h2 : (2 : Nat) ^ z ≤ 2147483648 := by have := Nat.pow_le_pow_right (n := 2) (by decide) hz; simpa using this
          have h3 : 0 < (2 : Nat) ^ z := Nat.two_pow_pos z
          omega
        · cases h
      · split at h
        · cases h
        · exact ih _ (by omega) h
    · cases h

theorem Tryd.enters_whole (A : Array Value) (w : World) : (callFunc 82 A).run Tryd.prog w = .ok (.enter 82 A) w := by
  exact MuLone.run_callFunc_enter Tryd.func82 (by kernel_rfl) rfl A w

theorem Tryd.enters_signed (A : Array Value) (w : World) : (callFunc 111 A).run Tryd.prog w = .ok (.enter 111 A) w := by
  exact MuLone.run_callFunc_enter Tryd.func111 (by kernel_rfl) rfl A w


def fixedRd (l : List Nat) (k : Int) (a : Nat) : Option (Int × Nat) := if k < 0 ∨ 32 < k then none else fixedAt l a k.toNat
def wholeRd (l : List Nat) (most : Int) (a : Nat) : Option (Int × Nat) :=
  match wholeAt l a with
  | some (n, a') => if most < n then none else some (n, a')
  | none => none
/-- The number of either sign that a number from 0 on stands for. -/
def unsign (n : Int) : Int := if n % 2 = 1 then (n + 1) / 2 else -(n / 2)
def signedRd (l : List Nat) (most : Int) (a : Nat) : Option (Int × Nat) :=
  match wholeAt l a with
  | some (n, a') => if most < unsign n ∨ most < -unsign n then none else some (unsign n, a')
  | none => none

theorem max_neg (n : Int) (h0 : -4294967296 ≤ n) (h1 : n ≤ 4294967296) (most : Int) : (most < max n (-n)) ↔ (most < n ∨ most < -n) := by omega

set_option maxHeartbeats 400000 in
theorem whole_in (p g : Nat) (l : List Nat) (a : Nat) (k : Int) (bk br : Addr) (w : World) (hl : Fair l) (h : RdAt w p g l a false) (ha : a ≤ 8 * l.length)
    (hk : w.cell? bk = some (.int .i64 k)) (hr : w.cell? br = some (.pointer (some ⟨p, 0, none⟩))) (hbk : ¬ bk.block = p) :
    Calls Tryd.prog 82 #[.pointer (some br), .pointer (some bk)] w (RdPost w p g l (wholeRd l k a)) := by
  have H0 := Lib.hid h; clear h
  have HL := Lib.hid hl; clear hl
  have hkl := World.block_lt_of_cell? w bk hk
  go_enter Tryd.func82, Tryd.ntmps82
  go_wp2_with (fail)
  refine (whole_rd p g l a _ HL.out H0.out ha).mono ?_
  intro e w1 hp
  cases ho : wholeAt l a with
  | none =>
    rw [ho] at hp
    obtain ⟨rfl, h2, h3⟩ := hp
    have he : wholeRd l k a = none := by simp [wholeRd, ho]
    rw [he]
    exact ⟨rfl, rfl, h2, h3⟩
  | some na =>
    obtain ⟨n, a'⟩ := na
    rw [ho] at hp
    obtain ⟨rfl, h2, h3⟩ := hp
    have hb := wholeFrom_le l a 33 0 n a' (by omega) ho
    obtain ⟨-, hn0, hn1⟩ := hb
    have hk1 : w1.cell? bk = some (.int .i64 k) := (World.cell?_of_block (h3.block bk.block hkl hbk)).trans hk
    have H2 := Lib.hid h2; clear h2
    have H3 := Lib.hid h3; clear h3
    have HO := Lib.hid ho; clear ho
    clear hk hr
    by_cases hm : k < n
    · have he : wholeRd l k a = none := by simp [wholeRd, HO.out, hm]
      have HE := Lib.hid he; clear he
      go_wp2_with (go_at_call 84; refine (giveUp_any _).mono ?_; rintro e w' ⟨rfl, rfl⟩)
      refine ⟨rfl, ?_⟩
      rw [HE.out]
      exact ⟨rfl, ⟨a', H2.out⟩, H3.out⟩
    · have he : wholeRd l k a = some (n, a') := by simp [wholeRd, HO.out, hm]
      have HE := Lib.hid he; clear he
      go_wp2
      go_ret
      rw [HE.out]
      exact ⟨rfl, H2.out, H3.out⟩

set_option maxHeartbeats 400000 in
theorem sign_rd (p g : Nat) (l : List Nat) (a : Nat) (w : World) (hl : Fair l) (h : RdAt w p g l a false) (ha : a ≤ 8 * l.length) :
    Calls Tryd.prog 112 #[.pointer (some ⟨p, 0, none⟩)] w (RdPost w p g l ((wholeAt l a).map fun x => (unsign x.1, x.2))) := by
  have H0 := Lib.hid h; clear h
  have HL := Lib.hid hl; clear hl
  go_enter Tryd.func112, Tryd.ntmps112
  go_wp2_with (fail)
  refine (whole_rd p g l a _ HL.out H0.out ha).mono ?_
  intro e w1 hp
  cases ho : wholeAt l a with
  | none =>
    rw [ho] at hp
    obtain ⟨rfl, h2, h3⟩ := hp
    refine ⟨rfl, ?_⟩
    rw [ho]
    exact ⟨rfl, h2, h3⟩
  | some na =>
    obtain ⟨n, a'⟩ := na
    rw [ho] at hp
    obtain ⟨rfl, h2, h3⟩ := hp
    have hb := wholeFrom_le l a 33 0 n a' (by omega) ho
    obtain ⟨-, hn0, hn1⟩ := hb
    have H2 := Lib.hid h2; clear h2
    have H3 := Lib.hid h3; clear h3
    have HO := Lib.hid ho; clear ho
    by_cases hm : n % 2 = 1
    · have hb : (n % 2 == 1) = true := by simpa using hm
      have hu : unsign n = (n + 1) / 2 := if_pos hm
      have HU := Lib.hid hu; clear hu hm
      go_wp2
      go_ret
      rw [HO.out]
      refine ⟨?_, H2.out, H3.out⟩
      rw [HU.out]; rfl
    · have hb : (n % 2 == 1) = false := by simpa using hm
      have hu : unsign n = -(n / 2) := if_neg hm
      have HU := Lib.hid hu; clear hu
      have HM := Lib.hid hm; clear hm
      go_wp2
      go_ret
      rw [HO.out]
      refine ⟨?_, H2.out, H3.out⟩
      have e : wrap64 (-n.tdiv 2) = unsign n := by
        rw [HU.out, Int.tdiv_eq_ediv_of_nonneg hn0]; unfold wrap64; omega
      show Ending.returned (.int .i64 (wrap64 (-n.tdiv 2))) = _
      rw [e]

theorem unsign_bounds (n : Int) (h0 : 0 ≤ n) (h1 : n < 4294967296) : -4294967296 ≤ unsign n ∧ unsign n ≤ 4294967296 := by unfold unsign; split <;> omega

set_option maxHeartbeats 400000 in
theorem signed_in (p g : Nat) (l : List Nat) (a : Nat) (k : Int) (bk br : Addr) (w : World) (hl : Fair l) (h : RdAt w p g l a false) (ha : a ≤ 8 * l.length)
    (hk : w.cell? bk = some (.int .i64 k)) (hr : w.cell? br = some (.pointer (some ⟨p, 0, none⟩))) (hbk : ¬ bk.block = p) :
    Calls Tryd.prog 111 #[.pointer (some br), .pointer (some bk)] w (RdPost w p g l (signedRd l k a)) := by
  have H0 := Lib.hid h; clear h
  have HL := Lib.hid hl; clear hl
  have hkl := World.block_lt_of_cell? w bk hk
  go_enter Tryd.func111, Tryd.ntmps111
  go_wp2_with (fail)
  refine (sign_rd p g l a _ HL.out H0.out ha).mono ?_
  intro e w1 hp
  cases ho : wholeAt l a with
  | none =>
    rw [ho] at hp
    obtain ⟨rfl, h2, h3⟩ := hp
    have he : signedRd l k a = none := by simp [signedRd, ho]
    rw [he]
    exact ⟨rfl, rfl, h2, h3⟩
  | some na =>
    obtain ⟨n0, a'⟩ := na
    rw [ho] at hp
    obtain ⟨rfl, h2, h3⟩ := hp
    have hb := wholeFrom_le l a 33 0 n0 a' (by omega) ho
    have hu := unsign_bounds n0 hb.2.1 hb.2.2
    have hk1 : w1.cell? bk = some (.int .i64 k) := (World.cell?_of_block (h3.block bk.block hkl hbk)).trans hk
    have H2 := Lib.hid h2; clear h2
    have H3 := Lib.hid h3; clear h3
    have HO := Lib.hid ho; clear ho
    clear hk hr hb
    have hs : signedRd l k a = if k < unsign n0 ∨ k < -unsign n0 then none else some (unsign n0, a') := by simp only [signedRd, HO.out]
    have HS := Lib.hid hs; clear hs
    dsimp only
    generalize unsign n0 = n at *
    obtain ⟨hn0, hn1⟩ := hu
    by_cases hm : k < max n (-n)
    · have he : signedRd l k a = none := by rw [HS.out, if_pos ((max_neg n hn0 hn1 k).1 hm)]
      have HE := Lib.hid he; clear he
      go_wp2_with (go_at_call 84; refine (giveUp_any _).mono ?_; rintro e w' ⟨rfl, rfl⟩)
      refine ⟨rfl, ?_⟩
      rw [HE.out]
      exact ⟨rfl, ⟨a', H2.out⟩, H3.out⟩
    · have he : signedRd l k a = some (n, a') := by rw [HS.out, if_neg (fun x => hm ((max_neg n hn0 hn1 k).2 x))]
      have HE := Lib.hid he; clear he
      go_wp2
      go_ret
      rw [HE.out]
      exact ⟨rfl, H2.out, H3.out⟩

theorem wholeRd_le (l : List Nat) (k : Int) (a : Nat) (n : Int) (a' : Nat) (h : wholeRd l k a = some (n, a')) : a' ≤ 8 * l.length := by
  unfold wholeRd at h
  split at h
  · rename_i m b ho
    split at h
    · cases h
    · cases h; exact (wholeFrom_le l a 33 0 _ _ (by omega) ho).1
  · cases h

theorem signedRd_le (l : List Nat) (k : Int) (a : Nat) (n : Int) (a' : Nat) (h : signedRd l k a = some (n, a')) : a' ≤ 8 * l.length := by
  unfold signedRd at h
  split at h
  · rename_i m b ho
    split at h
    · cases h
    · cases h; exact (wholeFrom_le l a 33 0 _ _ (by omega) ho).1
  · cases h

theorem two_cells {w w1 : World} {x y : Value} {t t' : TypeId} (k : Kept (fun _ => False) ((w.alloc (.cells #[x] t)).alloc (.cells #[y] t')) w1) :
    w1.cell? ⟨w.heap.size, 0, none⟩ = some x ∧ w1.cell? ⟨w.heap.size + 1, 0, none⟩ = some y := by
  obtain ⟨b0, b1⟩ := two_boxes w x y t t'
  exact ⟨by rw [cell_of_heap (k.at b0 id)]; rfl, by rw [cell_of_heap (k.at b1 id)]; rfl⟩

end Go.Proofs.YtdcbabgcbkdlhaaDoor
set_option maxRecDepth 100000
namespace Go.Proofs.YtdcbabgcbkdlhaaDoor
open Go.RowKit

set_option maxHeartbeats 400000 in
theorem rwhole_any (p g : Nat) (l : List Nat) (st : Option Nat) (m : Int) (w : World) (hl : Fair l) (h : RdIs w p g l st) :
    Calls Tryd.prog 40 #[.pointer (some ⟨p, 0, none⟩), .int .i64 m] w (RdDone w p g l (rdStep (wholeRd l m) st)) := by
  have hmf : ∀ (fn : Fn) (first cap : Array Value) (w : World), (Instr.makeFunc fn first cap).run Tryd.prog w = .ok (.func fn first cap) w := fun _ _ _ _ => rfl
  have hpl := h.lt.1
  have H0 := Lib.hid h; clear h
  have HL := Lib.hid hl; clear hl
  go_enter Tryd.func40, Tryd.ntmps40
  go_wp2_with (fail)
  have kk : Kept (fun _ => False) w ((w.alloc (.cells #[.pointer (some ⟨p, 0, none⟩)] 39)).alloc (.cells #[.int .i64 m] 3)) := ((Kept.refl _ _).alloc _).alloc _
  have HKK := Lib.hid kk; clear kk
  cases st with
  | none =>
    obtain ⟨a, h⟩ := H0.out
    refine (attempt_lost p g l a _ _ (h.kept HKK.out id id)).mono ?_
    rintro e w1 ⟨rfl, hk⟩
    have HK := Lib.hid (HKK.out.trans hk (fun _ _ x => x)); clear hk h
    go_wp2
    go_ret
    refine ⟨rfl, H0.out.kept HK.out id id, HK.out.mono (fun _ _ x => x.elim)⟩
  | some a =>
    obtain ⟨ha, h⟩ := H0.out
    have h1 := h.kept HKK.out id id
    refine (attempt_any p g l a 82 #[] #[.pointer (some ⟨w.heap.size, 0, none⟩), .pointer (some ⟨w.heap.size + 1, 0, none⟩)] (wholeRd l m a) _ h1 Tryd.enters_whole (fun w1 k => ?_)).mono ?_
    · obtain ⟨c0, c1⟩ := two_cells k
      exact whole_in p g l a m ⟨w.heap.size + 1, 0, none⟩ ⟨w.heap.size, 0, none⟩ w1 HL.out (h1.kept k id id) ha c1 c0 (by simp; omega)
    intro e w1 hres
    have hd := RdDone.of_res (wholeRd l m) a (wholeRd_le l m a) hres
    obtain ⟨rfl, h2, h3⟩ := hd
    have H2 := Lib.hid h2; clear h2
    have H3 := Lib.hid ((HKK.out.mono (S' := (· = p)) (fun _ _ x => x.elim)).trans h3 (fun _ _ x => x)); clear h3 hres h ha h1
    go_wp2
    go_ret
    exact ⟨rfl, H2.out, H3.out⟩

set_option maxHeartbeats 400000 in
theorem rsigned_any (p g : Nat) (l : List Nat) (st : Option Nat) (m : Int) (w : World) (hl : Fair l) (h : RdIs w p g l st) :
    Calls Tryd.prog 85 #[.pointer (some ⟨p, 0, none⟩), .int .i64 m] w (RdDone w p g l (rdStep (signedRd l m) st)) := by
  have hmf : ∀ (fn : Fn) (first cap : Array Value) (w : World), (Instr.makeFunc fn first cap).run Tryd.prog w = .ok (.func fn first cap) w := fun _ _ _ _ => rfl
  have hpl := h.lt.1
  have H0 := Lib.hid h; clear h
  have HL := Lib.hid hl; clear hl
  go_enter Tryd.func85, Tryd.ntmps85
  go_wp2_with (fail)
  have kk : Kept (fun _ => False) w ((w.alloc (.cells #[.pointer (some ⟨p, 0, none⟩)] 39)).alloc (.cells #[.int .i64 m] 3)) := ((Kept.refl _ _).alloc _).alloc _
  have HKK := Lib.hid kk; clear kk
  cases st with
  | none =>
    obtain ⟨a, h⟩ := H0.out
    refine (attempt_lost p g l a _ _ (h.kept HKK.out id id)).mono ?_
    rintro e w1 ⟨rfl, hk⟩
    have HK := Lib.hid (HKK.out.trans hk (fun _ _ x => x)); clear hk h
    go_wp2
    go_ret
    refine ⟨rfl, H0.out.kept HK.out id id, HK.out.mono (fun _ _ x => x.elim)⟩
  | some a =>
    obtain ⟨ha, h⟩ := H0.out
    have h1 := h.kept HKK.out id id
    refine (attempt_any p g l a 111 #[] #[.pointer (some ⟨w.heap.size, 0, none⟩), .pointer (some ⟨w.heap.size + 1, 0, none⟩)] (signedRd l m a) _ h1 Tryd.enters_signed (fun w1 k => ?_)).mono ?_
    · obtain ⟨c0, c1⟩ := two_cells k
      exact signed_in p g l a m ⟨w.heap.size + 1, 0, none⟩ ⟨w.heap.size, 0, none⟩ w1 HL.out (h1.kept k id id) ha c1 c0 (by simp; omega)
    intro e w1 hres
    have hd := RdDone.of_res (signedRd l m) a (signedRd_le l m a) hres
    obtain ⟨rfl, h2, h3⟩ := hd
    have H2 := Lib.hid h2; clear h2
    have H3 := Lib.hid ((HKK.out.mono (S' := (· = p)) (fun _ _ x => x.elim)).trans h3 (fun _ _ x => x)); clear h3 hres h ha h1
    go_wp2
    go_ret
    exact ⟨rfl, H2.out, H3.out⟩

end Go.Proofs.YtdcbabgcbkdlhaaDoor
set_option maxRecDepth 100000
namespace Go.Proofs.YtdcbabgcbkdlhaaDoor
open Go.RowKit

/-- A slice's bytes. -/
def SliceOf (w : World) (v : Value) (l : List Nat) : Prop :=
  ∃ a cap, v = .slice a l.length cap ∧ (0 < l.length → ∃ ad, a = some ad ∧ ∀ j u, (byteVals l)[j]? = some u → w.cell? (ad.add j) = some u)

set_option maxHeartbeats 400000 in
theorem new_any (v : Value) (l : List Nat) (w : World) (hl : l.length < 1099511627776) (hs : SliceOf w v l) :
    Calls Tryd.prog 13 #[v] w fun e w' => ∃ p g, e = .returned (.pointer (some ⟨p, 0, none⟩)) ∧ RdIs w' p g l (some 0) ∧ w.heap.size ≤ p ∧ w.heap.size ≤ g ∧ Kept (fun _ => False) w w' := by
  obtain ⟨a, cap, rfl, hsrc⟩ := hs
  have HS := Lib.hid hsrc; clear hsrc
  generalize hN : l.length = n at *
  have HN := Lib.hid hN; clear hN
  have hmk := fun wx : World => run_make_row' (P := Tryd.prog) 28 5 (.int .u8 0) 1 Tryd.underlying28 Tryd.info_u8 rfl .i64 .i64 n (by omega) (by omega) wx
  go_enter Tryd.func13, Tryd.ntmps13
  go_wp2_with (with_reducible refine wpList_copy_splice rfl (.tmp 7) (.tmp 8) 28 28 rfl 5 Tryd.underlying28 Tryd.size_u8 _ _ _ _ _ _ rfl rfl w.heap.size 0 (List.replicate n (.int .u8 0)) 5 ?hg (byteVals l) ?hn ?hpos ?hfit (oneCell_byteVals _) w.heap.size w ?hb (Nat.le_refl _) ?_)
  case hg => rw [madeCells_one]; exact heap_alloc_new w _
  case hn => rw [byteVals_length, HN.out]; simp
  case hpos =>
    intro h
    rw [byteVals_length, HN.out] at h
    obtain ⟨ad, rfl, hc⟩ := HS.out h
    refine ⟨ad, rfl, fun j u hj => ?_⟩
    have hc' := hc j u hj
    have hlt : (ad.add j).block < w.heap.size := World.block_lt_of_cell? w _ hc'
    rw [← hc']
    exact World.cell?_of_block (Below.heap_alloc _ _ _ hlt)
  case hfit => rw [byteVals_length, HN.out]; simp
  case hb => exact (Below.refl _ _).alloc (Nat.le_refl _) _
  intro w2 HG2 hB2
  have HB := Lib.hid hB2; clear hB2
  have hsz := lt_of_heap HG2.out
  go_wp2
  go_ret
  refine ⟨w2.heap.size, w.heap.size, rfl, ⟨Nat.zero_le _, ?_, ?_, by omega⟩, by omega, Nat.le_refl _, (Below.kept HB.out).alloc _⟩
  · rw [HN.out]; exact heap_alloc_new w2 _
  · rw [Below.heap_alloc _ _ _ hsz, HG2.out, splice_whole _ _ (by rw [byteVals_length, HN.out]; simp)]


theorem lost_any (p g : Nat) (l : List Nat) (st : Option Nat) (w : World) (h : RdIs w p g l st) :
    Calls Tryd.prog 41 #[.pointer (some ⟨p, 0, none⟩)] w fun e w' => e = .returned (.bool st.isNone) ∧ w = w' := by
  cases st with
  | none => obtain ⟨a, h⟩ := h; exact lost_rd p g l a true w h
  | some a => exact lost_rd p g l a false w h.2
end Go.Proofs.YtdcbabgcbkdlhaaDoor
set_option maxRecDepth 100000
namespace Go.Proofs.YtdcbabgcbkdlhaaDoor
open Go.RowKit

theorem WrIs.new (w : World) : WrIs (w.alloc (.cells #[.slice none 0 0, .int .i64 0] 32)) w.heap.size none [] := by
  refine ⟨.slice none 0 0, heap_alloc_new w _, World.ownsRow_nil _ _ _ _, rfl, by simp⟩

/-- What is kept of all that was there ahead of a block of the call's own is kept. -/
theorem Kept.own {S : Nat → Prop} {w w' : World} {o : Obj} (h : Kept S (w.alloc o) w') (hs : ∀ k, k < w.heap.size → ¬ S k) : Kept (fun _ => False) w w' := by
  refine ⟨h.os, h.tape, h.output, ?_, fun k hk _ => ?_⟩
  · have := h.size; simp at this; omega
  · exact (h.block k (by simp; omega) (hs k hk)).trans (Below.heap_alloc w o k hk)

theorem SliceOf.of_new {w : World} {g : Nat} {l : List Nat} (h : w.heap[g]? = some (.cells (byteVals l).toArray 5 (0, 0))) : SliceOf w (.slice (some ⟨g, 0, none⟩) l.length l.length) l := by
  refine ⟨_, _, rfl, fun _ => ⟨⟨g, 0, none⟩, rfl, fun j u hj => ?_⟩⟩
  rw [Addr.add_lit, cell_of_heap h]
  simpa using hj

theorem Kept.all {w w' : World} (h : Kept (fun _ => False) w w') : Below w.heap.size w w' := h.below (Nat.le_refl _) (fun _ _ x => x)

end Go.Proofs.YtdcbabgcbkdlhaaDoor
set_option maxRecDepth 100000
namespace Go.Proofs.YtdcbabgcbkdlhaaDoor
open Go.RowKit

/-- A writer that was made behind w0; of what was there in w0 nothing has turned. -/
def One (w0 w : World) (p : Nat) (bs : List Bool) : Prop :=
  ∃ r, WrIs w p r bs ∧ (∀ i, WrFoot p r i → w0.heap.size ≤ i) ∧ Kept (fun _ => False) w0 w

theorem One.step {w0 w : World} {p : Nat} {bs : List Bool} (h : One w0 w p bs) : ∃ r, WrIs w p r bs ∧ ∀ w' bs', Wrote w w' p r bs' → One w0 w' p bs' := by
  obtain ⟨r, h1, h2, h3⟩ := h
  refine ⟨r, h1, fun w' bs' hw => ?_⟩
  obtain ⟨r', g1, g2, g3⟩ := hw
  refine ⟨r', g1, ?_, h3.trans g3 (fun i hi hf => by have := h2 i hf; omega)⟩
  intro i hi
  rcases hi with rfl | hi
  · exact h2 _ (.inl rfl)
  · rcases g2 with rfl | ⟨g, rfl, hg⟩
    · exact h2 i (.inr hi)
    · simp at hi; have := h3.size; omega

theorem One.new {w0 w : World} (h : Kept (fun _ => False) w0 w) : One w0 (w.alloc (.cells #[.slice none 0 0, .int .i64 0] 32)) w.heap.size [] := by
  refine ⟨none, WrIs.new w, ?_, h.alloc _⟩
  intro i hi
  rcases hi with rfl | hi
  · exact h.size
  · cases hi

theorem One.kept {w0 w w' : World} {p : Nat} {bs : List Bool} (h : One w0 w p bs) (k : Kept (fun _ => False) w w') : One w0 w' p bs := by
  obtain ⟨r, h1, h2, h3⟩ := h
  exact ⟨r, h1.kept k (fun _ _ x => x), h2, h3.trans k (fun _ _ x => x)⟩

theorem One.all {w0 w : World} {p : Nat} {bs : List Bool} (h : One w0 w p bs) : Kept (fun _ => False) w0 w := by
  obtain ⟨r, h1, h2, h3⟩ := h; exact h3

/-- Two writers, side by side. -/
def Two (w0 w : World) (p q : Nat) (bs cs : List Bool) : Prop :=
  ∃ r s, WrIs w p r bs ∧ WrIs w q s cs ∧ (∀ i, WrFoot p r i → w0.heap.size ≤ i) ∧ (∀ i, WrFoot q s i → w0.heap.size ≤ i) ∧ (∀ i, WrFoot p r i → ¬ WrFoot q s i) ∧ Kept (fun _ => False) w0 w

theorem Two.step {w0 w : World} {p q : Nat} {bs cs : List Bool} (h : Two w0 w p q bs cs) : ∃ r, WrIs w p r bs ∧ ∀ w' bs', Wrote w w' p r bs' → Two w0 w' p q bs' cs := by
  obtain ⟨r, s, h1, h2, h3, h4, h5, h6⟩ := h
  refine ⟨r, h1, fun w' bs' hw => ?_⟩
  obtain ⟨r', g1, g2, g3⟩ := hw
  refine ⟨r', s, g1, h2.kept g3 (fun i hi hf => h5 i hf hi), ?_, h4, ?_, h6.trans g3 (fun i hi hf => by have := h3 i hf; omega)⟩
  · intro i hi
    rcases hi with rfl | hi
    · exact h3 _ (.inl rfl)
    · rcases g2 with rfl | ⟨g, rfl, hg⟩
      · exact h3 i (.inr hi)
      · simp at hi; have := h6.size; omega
  · intro i hi hf
    rcases hi with rfl | hi
    · exact h5 _ (.inl rfl) hf
    · rcases g2 with rfl | ⟨g, rfl, hg⟩
      · exact h5 i (.inr hi) hf
      · have := h2.foot_lt hf; simp at hi; omega

theorem Two.new {w0 w : World} (h : Kept (fun _ => False) w0 w) :
    Two w0 ((w.alloc (.cells #[.slice none 0 0, .int .i64 0] 32)).alloc (.cells #[.slice none 0 0, .int .i64 0] 32)) w.heap.size (w.heap.size + 1) [] [] := by
  have h2 := WrIs.new (w.alloc (.cells #[.slice none 0 0, .int .i64 0] 32))
  have e : (w.alloc (.cells #[.slice none 0 0, .int .i64 0] 32)).heap.size = w.heap.size + 1 := by simp
  rw [e] at h2
  refine ⟨none, none, (WrIs.new w).kept ((Kept.refl (fun _ => False) _).alloc _) (fun _ _ x => x), h2, ?_, ?_, ?_, (h.alloc _).alloc _⟩
  · intro i hi
    rcases hi with rfl | hi
    · exact h.size
    · cases hi
  · intro i hi
    rcases hi with rfl | hi
    · have := h.size; omega
    · cases hi
  · intro i hi hf
    rcases hi with rfl | hi
    · rcases hf with h | h
      · omega
      · cases h
    · cases hi

theorem Two.kept {w0 w w' : World} {p q : Nat} {bs cs : List Bool} (h : Two w0 w p q bs cs) (k : Kept (fun _ => False) w w') : Two w0 w' p q bs cs := by
  obtain ⟨r, s, h1, h2, h3, h4, h5, h6⟩ := h
  exact ⟨r, s, h1.kept k (fun _ _ x => x), h2.kept k (fun _ _ x => x), h3, h4, h5, h6.trans k (fun _ _ x => x)⟩

theorem Two.all {w0 w : World} {p q : Nat} {bs cs : List Bool} (h : Two w0 w p q bs cs) : Kept (fun _ => False) w0 w := by
  obtain ⟨r, s, h1, h2, h3, h4, h5, h6⟩ := h; exact h6

theorem Two.left {w0 w : World} {p q : Nat} {bs cs : List Bool} (h : Two w0 w p q bs cs) : One w0 w p bs := by
  obtain ⟨r, s, h1, h2, h3, h4, h5, h6⟩ := h; exact ⟨r, h1, h3, h6⟩


end Go.Proofs.YtdcbabgcbkdlhaaDoor
set_option maxRecDepth 100000
namespace Go.Proofs.YtdcbabgcbkdlhaaDoor
open Go.RowKit

theorem golomb_length (m : Nat) (h0 : m ≠ 0) (h : m ≤ 2147483648) : (golomb m).length = 2 * Lib.bitLen m - 1 := by
  have := bitLen_le32 m h0 h
  simp [golomb, fixedBits_length]; omega

theorem wholeBits_length (n : Int) : (wholeBits n).length = 2 * Lib.bitLen (clampWhole n + 1) - 1 := by
  have := clampWhole_le n
  exact golomb_length _ (by omega) (by omega)

theorem wholeBits_short (n : Int) : (wholeBits n).length ≤ 63 := by
  have := clampWhole_le n
  have := bitLen_le32 (clampWhole n + 1) (by omega) (by omega)
  rw [wholeBits_length]; omega

theorem signedBits_short (n : Int) : (signedBits n).length ≤ 63 := by
  unfold signedBits; split <;> exact wholeBits_short _

theorem shr_pos (m j : Nat) (h0 : m ≠ 0) (h : m < 2 ^ 64) : (0 < (m : Int) / 2 ^ j) ↔ j < Lib.bitLen m := by
  obtain ⟨b1, b2, b3⟩ := bitLen_bounds m h0 h
  have e : (m : Int) / 2 ^ j = ((m / 2 ^ j : Nat) : Int) := by simp
  rw [e]
  have hp := Nat.two_pow_pos j
  constructor
  · intro h
    apply Nat.lt_of_not_le
    intro hle
    have h1 : (2 : Nat) ^ Lib.bitLen m ≤ 2 ^ j := Nat.pow_le_pow_right (by decide) hle
    have h2 : m / 2 ^ j = 0 := Nat.div_eq_of_lt (by omega)
    rw [h2] at h; omega
  · intro hlt
    have h1 : (2 : Nat) ^ j ≤ 2 ^ (Lib.bitLen m - 1) := Nat.pow_le_pow_right (by decide) (by omega)
    have h2 := Nat.div_pos (show 2 ^ j ≤ m by omega) hp
    omega

end Go.Proofs.YtdcbabgcbkdlhaaDoor
set_option maxRecDepth 100000
namespace Go.Proofs.YtdcbabgcbkdlhaaDoor
open Go.RowKit

/-- A bit's letter. -/
def chr (b : Bool) : UInt8 := if b then 49 else 48
/-- The text of bits. -/
def strOf (bs : List Bool) : ByteArray := ⟨(bs.map chr).toArray⟩

theorem strOf_size (bs : List Bool) : (strOf bs).size = bs.length := by simp [strOf, ByteArray.size]

theorem strOf_append (a b : List Bool) : strOf a ++ strOf b = strOf (a ++ b) := by
  unfold strOf; rw [Go.ByteArray.mk_append_mk, List.map_append]

theorem strOf_one (a : List Bool) : strOf a ++ { data := #[49] } = strOf (a ++ [true]) := strOf_append a [true]
theorem strOf_nil (a : List Bool) : strOf a ++ { data := #[48] } = strOf (a ++ [false]) := strOf_append a [false]

set_option maxHeartbeats 400000 in
theorem ref_fixed (n : Int) (k : Nat) (w : World) (hk : k ≤ 32) :
    Calls Tryd.prog 49 #[.int .i64 n, .int .i64 (k : Int)] w fun e w' => e = .returned (.string (strOf (fixedBits n k))) ∧ w = w' := by
  go_enter Tryd.func49, Tryd.ntmps49
  go_wp2_with (fail)
  go_loop [5, 6] (fun s i => ∃ (j : Nat) (done : List Bool), j ≤ k ∧ i = .int .i64 ((j : Int) - 1) ∧ s = .string (strOf done) ∧ done.length + j = k ∧ done ++ fixedBits n j = fixedBits n k) (fun _ i => (intOf i + 1).toNat)
  case atStart => exact ⟨k, [], Nat.le_refl _, rfl, rfl, by simp, rfl⟩
  case round =>
    obtain ⟨j, done, hj, rfl, rfl, hl, hd⟩ := hrel
    have HD := Lib.hid hd; clear hd
    have hsz := strOf_size done
    cases j with
    | zero =>
      go_wp2
      go_ret
      have e : done = fixedBits n k := by simpa [fixedBits] using HD.out
      subst e
      exact ⟨rfl, rfl⟩
    | succ j =>
      cases hb : lowBit (n / 2 ^ j) with
      | true =>
        have ht : (bits BinOp.and IntKind.i64 (n / 2 ^ j) 1 == 1) = true := by rw [i64_and1]; simpa [lowBit] using hb
        have HB := Lib.hid hb; clear hb
        go_wp2
        go_round
        case rel => exact ⟨j, done ++ [true], by omega, rfl, by rw [strOf_one], by simp; omega, by rw [List.append_assoc, ← HB.out]; exact HD.out⟩
        case measure => simp [intOf]
      | false =>
        have ht : (bits BinOp.and IntKind.i64 (n / 2 ^ j) 1 == 1) = false := by rw [i64_and1]; simpa [lowBit] using hb
        have HB := Lib.hid hb; clear hb
        go_wp2
        go_round
        case rel => exact ⟨j, done ++ [false], by omega, rfl, by rw [strOf_nil], by simp; omega, by rw [List.append_assoc, ← HB.out]; exact HD.out⟩
        case measure => simp [intOf]

theorem ref_fixed_int (n k : Int) (w : World) (h0 : 0 ≤ k) (h1 : k ≤ 32) :
    Calls Tryd.prog 49 #[.int .i64 n, .int .i64 k] w fun e w' => e = .returned (.string (strOf (fixedBits n k.toNat))) ∧ w = w' := by
  obtain ⟨j, rfl⟩ := Int.eq_ofNat_of_zero_le h0
  exact ref_fixed n j w (by omega)

set_option maxHeartbeats 400000 in
theorem ref_whole (n : Int) (w : World) :
    Calls Tryd.prog 37 #[.int .i64 n] w fun e w' => e = .returned (.string (strOf (wholeBits n))) ∧ w = w' := by
  have hc0 : 0 ≤ min (max n 0) 2147483647 := by omega
  have hc1 : min (max n 0) 2147483647 ≤ 2147483647 := by omega
  have hcw : (clampWhole n : Int) = min (max n 0) 2147483647 := by unfold clampWhole; omega
  have hwb : wholeBits n = fixedBits 0 (Lib.bitLen (clampWhole n + 1) - 1) ++ fixedBits ((clampWhole n + 1 : Nat) : Int) (Lib.bitLen (clampWhole n + 1)) := rfl
  have hcl := clampWhole_le n
  have hL := bitLen_le32 (clampWhole n + 1) (by omega) (by omega)
  have hsp := fun j : Nat => shr_pos (clampWhole n + 1) j (by omega) (by omega)
  have HSP := Lib.hid hsp; clear hsp
  have HWB := Lib.hid hwb; clear hwb
  generalize clampWhole n = c at *
  generalize Lib.bitLen (c + 1) = L at *
  obtain ⟨hL1, hL2⟩ := hL
  rw [show ((c + 1 : Nat) : Int) = (c : Int) + 1 by omega] at HWB HSP
  go_enter Tryd.func37, Tryd.ntmps37
  go_wp2_with (fail)
  rw [← hcw]
  clear hcw hc0 hc1
  go_loop [4] (fun s => ∃ j : Nat, j ≤ L ∧ s = .int .i64 (j : Int)) (fun s => L - (intOf s).toNat)
  case atStart => exact ⟨0, by omega, rfl⟩
  case round =>
    obtain ⟨j, hj, rfl⟩ := hrel
    have hsp := HSP.out j
    by_cases hlt : j < L
    · have ht := hsp.2 hlt
      clear hsp
      go_wp2
      go_round
      case rel => exact ⟨j + 1, by omega, by go_num⟩
      case measure => simp [intOf]; omega
    · have ht : ((c : Int) + 1) / 2 ^ j ≤ 0 := by have := mt hsp.1 hlt; omega
      clear hsp
      have ej : j = L := by omega
      subst ej
      go_wp2_with (fail)
      refine (ref_fixed_int 0 ((j : Int) - 1) _ (by omega) (by omega)).mono ?_
      rintro e w' ⟨rfl, rfl⟩
      have h1 : (strOf (fixedBits 0 ((j : Int) - 1).toNat)).size ≤ 40 := by rw [strOf_size, fixedBits_length]; omega
      generalize hX : strOf (fixedBits 0 ((j : Int) - 1).toNat) = X at *
      have HX := Lib.hid hX; clear hX
      go_wp2_with (fail)
      refine (ref_fixed_int _ (j : Int) _ (by omega) (by omega)).mono ?_
      rintro e w' ⟨rfl, rfl⟩
      have h2 : (strOf (fixedBits ((c : Int) + 1) (j : Int).toNat)).size ≤ 40 := by rw [strOf_size, fixedBits_length]; omega
      generalize hY : strOf (fixedBits ((c : Int) + 1) (j : Int).toNat) = Y at *
      have HY := Lib.hid hY; clear hY
      go_wp2
      go_ret
      refine ⟨?_, rfl⟩
      show Ending.returned (.string (X ++ Y)) = _
      rw [← HX.out, ← HY.out, strOf_append, HWB.out]
      have e2 : ((j : Int) - 1).toNat = j - 1 := by omega
      rw [e2, Int.toNat_natCast]

set_option maxHeartbeats 400000 in
theorem ref_signed (n : Int) (w : World) :
    Calls Tryd.prog 78 #[.int .i64 n] w fun e w' => e = .returned (.string (strOf (signedBits n))) ∧ w = w' := by
  have hc0 : -1073741824 ≤ min (max n (-1073741824)) 1073741824 := by omega
  have hc1 : min (max n (-1073741824)) 1073741824 ≤ 1073741824 := by omega
  by_cases hpos : 0 < min (max n (-1073741824)) 1073741824
  · have hs : signedBits n = wholeBits (2 * min (max n (-1073741824)) 1073741824 - 1) := by unfold signedBits clampSigned; rw [if_pos hpos]
    have HS := Lib.hid hs; clear hs
    go_enter Tryd.func78, Tryd.ntmps78
    go_wp2_with (fail)
    refine (ref_whole _ _).mono ?_
    rintro e w1 ⟨rfl, rfl⟩
    go_wp2
    go_ret
    exact ⟨by rw [HS.out]; rfl, rfl⟩
  · have hs : signedBits n = wholeBits (-2 * min (max n (-1073741824)) 1073741824) := by unfold signedBits clampSigned; rw [if_neg hpos]
    have HS := Lib.hid hs; clear hs
    go_enter Tryd.func78, Tryd.ntmps78
    go_wp2_with (fail)
    refine (ref_whole _ _).mono ?_
    rintro e w1 ⟨rfl, rfl⟩
    go_wp2
    go_ret
    refine ⟨?_, rfl⟩
    rw [HS.out]
    first | rfl | (simp; rfl)

end Go.Proofs.YtdcbabgcbkdlhaaDoor
set_option maxRecDepth 100000
namespace Go.Proofs.YtdcbabgcbkdlhaaDoor
open Go.RowKit

theorem BytesArg.slice {w : World} {v : Value} {l : List Nat} (h : BytesArg w v l) : SliceOf w v l := by
  obtain ⟨a, cap, rfl, -, -, -, hl, hc⟩ := h
  refine ⟨a, cap, rfl, fun hpos => ?_⟩
  obtain ⟨b, off, rfl, hb, hcell⟩ := hc hpos
  refine ⟨⟨b, off, none⟩, rfl, fun j u hj => ?_⟩
  have hjl : j < l.length := by
    have := (List.getElem?_eq_some_iff.1 hj).1
    rwa [byteVals_length] at this
  rw [Addr.add_lit, hcell j hjl]
  rw [← hj]; simp [byteVals, List.getD, hjl]

theorem BytesArg.fair {w : World} {v : Value} {l : List Nat} (h : BytesArg w v l) (hl : l.length < 1099511627776) : Fair l := by
  exact ⟨h.lt256, hl⟩

/-- A reader that was made behind w0; of what was there in w0 nothing has turned. -/
def Rdr (w0 w : World) (p g : Nat) (l : List Nat) (st : Option Nat) : Prop := RdIs w p g l st ∧ w0.heap.size ≤ p ∧ w0.heap.size ≤ g ∧ Kept (fun _ => False) w0 w

theorem Rdr.done {w0 w w' : World} {p g : Nat} {l : List Nat} {st : Option Nat} {r : Int × Option Nat} {e : Ending} (h : Rdr w0 w p g l st) (hd : RdDone w p g l r e w') : e = .returned (.int .i64 r.1) ∧ Rdr w0 w' p g l r.2 := by
  obtain ⟨h1, h2, h3⟩ := hd
  exact ⟨h1, h2, h.2.1, h.2.2.1, h.2.2.2.trans h3 (fun i hi x => by have := h.2.1; omega)⟩

theorem Rdr.kept {w0 w w' : World} {p g : Nat} {l : List Nat} {st : Option Nat} (h : Rdr w0 w p g l st) (k : Kept (fun _ => False) w w') : Rdr w0 w' p g l st :=
  ⟨h.1.kept k id id, h.2.1, h.2.2.1, h.2.2.2.trans k (fun _ _ x => x)⟩

end Go.Proofs.YtdcbabgcbkdlhaaDoor
set_option maxRecDepth 100000
namespace Go.Proofs.YtdcbabgcbkdlhaaDoor
open Go.RowKit

theorem fixedBits_zero (k : Nat) : fixedBits 0 k = List.replicate k false := by
  induction k with
  | zero => rfl
  | succ k ih => rw [fixedBits, ih, List.replicate_succ]; simp [lowBit]

theorem lowBit_nat (a : Nat) : lowBit (a : Int) = decide (a % 2 = 1) := by
  unfold lowBit
  have : ((a : Int) % 2 = 1) ↔ (a % 2 = 1) := by omega
  simp only [this]

/-- A number's bits: so many bits 0, a bit 1, and as many bits. -/
theorem golomb_shape (m : Nat) (h0 : m ≠ 0) (h : m < 2 ^ 64) : golomb m = List.replicate (Lib.bitLen m - 1) false ++ true :: fixedBits (m : Int) (Lib.bitLen m - 1) := by
  obtain ⟨b1, b2, b3⟩ := bitLen_bounds m h0 h
  unfold golomb
  rw [fixedBits_zero]
  congr 1
  generalize Lib.bitLen m = L at *
  obtain ⟨k, rfl⟩ : ∃ k, L = k + 1 := ⟨L - 1, by omega⟩
  simp only [Nat.add_sub_cancel] at *
  rw [fixedBits]
  congr 1
  have e : (m : Int) / 2 ^ k = ((m / 2 ^ k : Nat) : Int) := by simp
  have h1 : m / 2 ^ k = 1 := by
    rw [Nat.pow_succ] at b3
    exact Nat.div_eq_of_lt_le (by omega) (by omega)
  rw [e, h1]; rfl

/-- The number that stands for a number of either sign. -/
def signCode (n : Int) : Nat := if 0 < n then (2 * n - 1).toNat else (-2 * n).toNat

theorem signedBits_code (n : Int) (h0 : -536870912 < n) (h1 : n < 536870912) : signedBits n = golomb (signCode n + 1) ∧ signCode n < 1073741824 := by
  have hc : clampSigned n = n := by unfold clampSigned; omega
  unfold signedBits signCode
  rw [hc]
  split
  · have e : clampWhole (2 * n - 1) = (2 * n - 1).toNat := by unfold clampWhole; omega
    exact ⟨by unfold wholeBits; rw [e], by omega⟩
  · have e : clampWhole (-2 * n) = (-2 * n).toNat := by unfold clampWhole; omega
    exact ⟨by unfold wholeBits; rw [e], by omega⟩

theorem pack_bytes (bs : List Bool) : ∀ x ∈ pack bs, x < 256 := by
  intro x hx
  obtain ⟨i, _, rfl⟩ := List.mem_map.1 hx
  exact byteOf_lt _

theorem SliceOf.of_row {w : World} {v : Value} {l : List Nat} (h : w.ownsRow 0 5 1 v l.length (byteVals l)) : SliceOf w v l := by
  rcases h.2 with ⟨rfl, h0⟩ | ⟨g, cap, cur, rfl, _, hg, _⟩
  · exact ⟨none, 0, by rw [h0], fun hp => by omega⟩
  · exact ⟨_, cap, rfl, fun _ => ⟨⟨g, 0, none⟩, rfl, fun j u hj => h.cells (g := g) rfl j u hj⟩⟩

end Go.Proofs.YtdcbabgcbkdlhaaDoor
set_option maxRecDepth 100000
namespace Go.Proofs.YtdcbabgcbkdlhaaDoor
open Go.RowKit

/-- The number of the first bits. -/
def byteUpto (f : Nat → Bool) : Nat → Nat
  | 0 => 0
  | k + 1 => 2 * byteUpto f k + (f k).toNat

theorem byteUpto_eight (f : Nat → Bool) : byteUpto f 8 = byteOf f := by
  simp only [byteUpto, byteOf]; omega

theorem byteUpto_lt (f : Nat → Bool) (k : Nat) : byteUpto f k < 2 ^ k := by
  induction k with
  | zero => simp [byteUpto]
  | succ k ih => have := toNat_le_one (f k); simp only [byteUpto, Nat.pow_succ]; omega

theorem byteUpto_small (f : Nat → Bool) (k : Nat) (h : k ≤ 8) : byteUpto f k < 256 :=
  Nat.lt_of_lt_of_le (byteUpto_lt f k) (by have := Nat.pow_le_pow_right (n := 2) (by decide) h; simpa using this)

/-- A bit of a byte of bits. -/
def bitF (bs : List Bool) (q t : Nat) : Bool := bs.getD (8 * q + t) false
def byteTo (bs : List Bool) (q j : Nat) : Nat := byteUpto (bitF bs q) j

theorem chr_at (bs : List Bool) (i : Nat) (h : i < (strOf bs).size) : ((((strOf bs)[i]'h).toNat : Int) == 49) = bs.getD i false := by
  have hi : i < bs.length := by rwa [strOf_size] at h
  have e : (strOf bs)[i]'h = chr bs[i] := by
    show ((bs.map chr).toArray)[i]'(by simpa using hi) = _
    simp
  rw [e]
  simp only [List.getD, List.getElem?_eq_getElem hi, Option.getD_some]
  cases bs[i] <;> rfl

/-- A slice of the call's own, of which nothing was there in w. -/
def Fresh (w : World) (v : Value) : Prop := v.ownBlock = none ∨ ∃ g, v.ownBlock = some g ∧ w.heap.size ≤ g

theorem pack_take_succ (bs : List Bool) (q : Nat) (h : q < nbytes bs.length) : (pack bs).take (q + 1) = (pack bs).take q ++ [byteOf fun j => bs.getD (8 * q + j) false] := by
  rw [List.take_succ_eq_append_getElem (by rw [pack_length]; exact h)]
  congr 2
  simp [pack]

set_option maxHeartbeats 2000000 in
theorem ref_bytes (bs : List Bool) (w : World) (hm : bs.length < 1000000) :
    Calls Tryd.prog 21 #[.string (strOf bs)] w fun e w' => ∃ v, e = .returned v ∧ w'.ownsRow 0 5 1 v (pack bs).length (byteVals (pack bs)) ∧ Fresh w v ∧ Kept (fun _ => False) w w' := by
  obtain ⟨i0, hi, hz0, hz1, hz2⟩ := info_parts Tryd.info_u8
  have HI := Lib.hid hi; have HZ0 := Lib.hid hz0; have HZ1 := Lib.hid hz1; have HZ2 := Lib.hid hz2; clear hi hz0 hz1 hz2
  have hsz := strOf_size bs
  have hnb : nbytes bs.length ≤ 1000000 := by unfold nbytes; omega
  have hnb2 : ∀ q, 8 * q < bs.length ↔ q < nbytes bs.length := by intro q; unfold nbytes; omega
  have HNB := Lib.hid hnb2; clear hnb2
  go_enter Tryd.func21, Tryd.ntmps21
  go_wp2_with (fail)
  go_loopw [3, 4] (fun o i wr => ∃ q : Nat, q ≤ nbytes bs.length ∧ i = .int .i64 (8 * (q : Int)) ∧ wr.ownsRow 0 5 1 o q (byteVals ((pack bs).take q)) ∧ Fresh w o ∧ Kept (fun _ => False) w wr) (fun _ i _ => 9000000 - (intOf i).toNat)
  case atStart => exact ⟨0, by omega, rfl, World.ownsRow_nil _ _ _ _, .inl rfl, Kept.refl _ _⟩
  case round =>
    obtain ⟨q, hq, rfl, hown, hfr, hkp⟩ := hrel
    have HW := Lib.hid hown; have HF := Lib.hid hfr; have HK := Lib.hid hkp; clear hown hfr hkp
    have hq2 := HNB.out q
    by_cases hlt : q < nbytes bs.length
    · have h8 : 8 * q < bs.length := hq2.2 hlt
      clear hq2
      have hd : decide (8 * (q : Int) < (bs.length : Int)) = true := by simp; omega
      go_wp2_with (fail)
      go_loopg [5, 6] 8 (fun gg x k wx => wr = wx ∧ ∃ j : Nat, j + gg = 8 ∧ k = .int .i64 (j : Int) ∧ x = .int .i64 (byteTo bs q j : Int))
      case atStart => exact ⟨rfl, 0, by omega, rfl, rfl⟩
      case round =>
        obtain ⟨rfl, j, hj, rfl, rfl⟩ := hrel
        have hbu : byteTo bs q j < 256 := byteUpto_small (bitF bs q) j (by omega)
        have hsu : byteTo bs q (j + 1) = 2 * byteTo bs q j + (bitF bs q j).toNat := rfl
        have HSU := Lib.hid hsu; clear hsu
        have HJ := Lib.hid hj
        by_cases hj8 : j < 8
        · by_cases hin : 8 * q + j < bs.length
          · have hch := chr_at bs (8 * q + j) (by rw [hsz]; exact hin)
            have e0 : bs.getD (8 * q + j) false = bitF bs q j := rfl
            rw [e0] at hch
            clear e0 hj
            cases hb : bitF bs q j with
            | true =>
              rw [hb] at hch
              have HB := Lib.hid hb; clear hb
              go_wp2
              go_roundg (gk - 1)
              case measure => have := HJ.out; omega
              case rel => exact ⟨rfl, j + 1, by have := HJ.out; omega, by go_num, by rw [HSU.out, HB.out]; go_num⟩
            | false =>
              rw [hb] at hch
              have HB := Lib.hid hb; clear hb
              go_wp2
              go_roundg (gk - 1)
              case measure => have := HJ.out; omega
              case rel => exact ⟨rfl, j + 1, by have := HJ.out; omega, by go_num, by rw [HSU.out, HB.out]; go_num⟩
          · have hb : bitF bs q j = false := by unfold bitF; rw [List.getD, List.getElem?_eq_none (by omega)]; rfl
            have HB := Lib.hid hb; clear hb hj
            go_wp2
            go_roundg (gk - 1)
            case measure => have := HJ.out; omega
            case rel => exact ⟨rfl, j + 1, by have := HJ.out; omega, by go_num, by rw [HSU.out, HB.out]; go_num⟩
        · have ej : j = 8 := by omega
          clear HJ HSU hj
          subst ej
          have hb8 : byteTo bs q 8 = byteOf fun t => bs.getD (8 * q + t) false := byteUpto_eight (bitF bs q)
          have HB8 := Lib.hid hb8; clear hb8
          generalize byteTo bs q 8 = x at *
          go_wp2_with (at_builtin; refine wpList_append_whose _ rfl (.tmp 35) (.tmp 38) 28 rfl 5 i0 (.int .u8 0) 1 1 Tryd.underlying28 HI.out HZ0.out HZ1.out HZ2.out rfl (by decide) _ _ _ rfl (HW.out.alloc _) ⟨wr.heap.size, 0, none⟩ 1 1 [.int .u8 (x : Int)] rfl rfl ?c1 ?c2 ?b1 ?b2 ?_)
          case c1 => intro t u hj; match t, hj with | 0, hj => simp at hj; subst hj; simp [Addr.add]
          case c2 => intro u hu; simp at hu; subst hu; rfl
          case b1 => unfold maxLen; omega
          case b2 => omega
          intro v1 w1 hown hgr hwh
          have hk1 : Kept (fun _ => False) w w1 := (HK.out.alloc _).grown hgr (fun k hk hlt => by
            rcases HF.out with h | ⟨g, h, hg⟩
            · rw [h] at hk; cases hk
            · rw [h] at hk; cases hk; omega)
          have hf1 : Fresh w v1 := by
            rcases hwh with h | ⟨g, h, hg⟩
            · rcases HF.out with h2 | ⟨g2, h2, hg2⟩
              · exact .inl (h.trans h2)
              · exact .inr ⟨g2, h.trans h2, hg2⟩
            · have := HK.out.size; exact .inr ⟨g, h, by omega⟩
          have hro : w1.ownsRow 0 5 1 v1 (q + 1) (byteVals ((pack bs).take (q + 1))) := by
            rw [pack_take_succ bs q hlt, byteVals_append, ← HB8.out]; exact hown
          have RO := Lib.hid hro; have F1 := Lib.hid hf1; have K1 := Lib.hid hk1
          clear hro hf1 hk1 hown hgr hwh
          go_wp2
          go_roundw
          case rel => exact ⟨q + 1, by omega, by go_num, RO.out, F1.out, K1.out⟩
          case measure => simp [intOf]; omega
    · have h8 : bs.length ≤ 8 * q := by have := mt hq2.1 hlt; omega
      clear hq2
      go_wp2
      go_ret
      have eq : q = nbytes bs.length := by omega
      subst eq
      refine ⟨_, rfl, ?_, HF.out, HK.out⟩
      have e : (pack bs).take (nbytes bs.length) = pack bs := List.take_of_length_le (by rw [pack_length]; exact Nat.le_refl _)
      have := HW.out
      rw [e] at this
      rw [pack_length]; exact this
end Go.Proofs.YtdcbabgcbkdlhaaDoor
set_option maxRecDepth 100000
namespace Go.Proofs.YtdcbabgcbkdlhaaDoor
open Go.RowKit

/-- All bits of bytes. -/
def bitsOf (l : List Nat) : List Bool := (List.range (8 * l.length)).map (bitAt l)

theorem bitsOf_length (l : List Nat) : (bitsOf l).length = 8 * l.length := by simp [bitsOf]
theorem bitsOf_getD (l : List Nat) (i : Nat) (h : i < 8 * l.length) : (bitsOf l).getD i false = bitAt l i := by simp [bitsOf, List.getD, h]

/-- At block x lies the document's reader. -/
def RfAt (w : World) (x : Nat) (l : List Nat) (a : Nat) (lost : Bool) : Prop :=
  w.heap[x]? = some (.cells #[.string (strOf (bitsOf l)), .int .i64 (a : Int), .bool lost] 45 (0, 0))

theorem RfAt.facts {w : World} {x : Nat} {l : List Nat} {a : Nat} {lost : Bool} (h : RfAt w x l a lost) :
    w.cell? ⟨x, 0, none⟩ = some (.string (strOf (bitsOf l))) ∧ w.cell? ⟨x, 1, none⟩ = some (.int .i64 (a : Int)) ∧ w.cell? ⟨x, 2, none⟩ = some (.bool lost) ∧ w.frozen? ⟨x, 1, none⟩ = false ∧ w.frozen? ⟨x, 2, none⟩ = false :=
  ⟨by rw [cell_of_heap h]; rfl, by rw [cell_of_heap h]; rfl, by rw [cell_of_heap h]; rfl, frozen_of_heap h, frozen_of_heap h⟩

theorem RfAt.setAt {w : World} {x : Nat} {l : List Nat} {a : Nat} {lost : Bool} (h : RfAt w x l a lost) (n : Nat) (y : Int) (hy : y = (n : Int)) : RfAt (w.setCell ⟨x, 1, none⟩ (.int .i64 y)) x l n lost := by
  subst hy; unfold RfAt; rw [heap_setCell_same _ x 1 _ h]; simp

theorem RfAt.setLost {w : World} {x : Nat} {l : List Nat} {a : Nat} {lost : Bool} (h : RfAt w x l a lost) (b : Bool) : RfAt (w.setCell ⟨x, 2, none⟩ (.bool b)) x l a b := by
  unfold RfAt; rw [heap_setCell_same _ x 2 _ h]; simp

theorem RfAt.kept {S : Nat → Prop} {w w' : World} {x : Nat} {l : List Nat} {a : Nat} {lost : Bool} (h : RfAt w x l a lost) (k : Kept S w w') (hx : ¬ S x) : RfAt w' x l a lost := k.at h hx

def RfIs (w : World) (x : Nat) (l : List Nat) (st : Option Nat) : Prop :=
  match st with
  | some a => a ≤ 8 * l.length ∧ RfAt w x l a false
  | none => ∃ a, a ≤ 8 * l.length ∧ RfAt w x l a true

/-- What a call of the document's reader leaves. -/
def RfDone (w : World) (x : Nat) (l : List Nat) (r : Int × Option Nat) (e : Ending) (w' : World) : Prop :=
  e = .returned (.int .i64 r.1) ∧ RfIs w' x l r.2 ∧ Kept (· = x) w w'

theorem chr_val (bs : List Bool) (i : Nat) (h : i < (strOf bs).size) : (((strOf bs)[i]'h).toNat : Int) = 48 + ((bs.getD i false).toNat : Int) := by
  have hi : i < bs.length := by rwa [strOf_size] at h
  have e : (strOf bs)[i]'h = chr bs[i] := by
    show ((bs.map chr).toArray)[i]'(by simpa using hi) = _
    simp
  rw [e]
  simp only [List.getD, List.getElem?_eq_getElem hi, Option.getD_some]
  cases bs[i] <;> rfl

set_option maxHeartbeats 1000000 in
theorem rf_fixed_lost (x : Nat) (l : List Nat) (a : Nat) (k : Int) (w : World) (ha : a ≤ 8 * l.length) (h : RfAt w x l a true) :
    Calls Tryd.prog 87 #[.pointer (some ⟨x, 0, none⟩), .int .i64 k] w (RfDone w x l (0, none)) := by
  obtain ⟨h0, h1, h2, f1, f2⟩ := h.facts
  have H0 := Lib.hid h; clear h h0 h1 f1
  go_enter Tryd.func87, Tryd.ntmps87
  go_wp2_with (fail)
  go_quiet (fail)
  go_wp2
  go_ret
  refine ⟨rfl, ⟨a, ha, ?_⟩, ?_⟩
  · exact (H0.out.kept ((Kept.refl (fun _ => False) _).drewN _) id).setLost true
  · exact ((Kept.refl (· = x) _).drewN _).setCell _ (fun _ => rfl) _

set_option maxHeartbeats 1000000 in
theorem rf_fixed_bad (x : Nat) (l : List Nat) (a : Nat) (k : Int) (w : World) (ha : a ≤ 8 * l.length) (hlen : l.length ≤ 1000) (h : RfAt w x l a false) (hk : k < 0 ∨ 32 < k ∨ 8 * (l.length : Int) < a + k) :
    Calls Tryd.prog 87 #[.pointer (some ⟨x, 0, none⟩), .int .i64 k] w (RfDone w x l (0, none)) := by
  obtain ⟨h0, h1, h2, f1, f2⟩ := h.facts
  have H0 := Lib.hid h; clear h f1
  have hsz : (strOf (bitsOf l)).size = 8 * l.length := by rw [strOf_size, bitsOf_length]
  generalize strOf (bitsOf l) = s at *
  by_cases k0 : k < 0
  · have d0 : decide (k < 0) = true := by simpa using k0
    go_enter Tryd.func87, Tryd.ntmps87
    go_wp2_with (fail)
    go_quiet (fail)
    go_wp2
    go_ret
    refine ⟨rfl, ⟨a, ha, ?_⟩, ?_⟩
    · exact (H0.out.kept ((Kept.refl (fun _ => False) _).drewN _) id).setLost true
    · exact ((Kept.refl (· = x) _).drewN _).setCell _ (fun _ => rfl) _
  have d0 : decide (k < 0) = false := by simpa using k0
  by_cases k1 : 32 < k
  · have d1 : decide (32 < k) = true := by simpa using k1
    go_enter Tryd.func87, Tryd.ntmps87
    go_wp2_with (fail)
    go_quiet (fail)
    go_wp2
    go_ret
    refine ⟨rfl, ⟨a, ha, ?_⟩, ?_⟩
    · exact (H0.out.kept ((Kept.refl (fun _ => False) _).drewN _) id).setLost true
    · exact ((Kept.refl (· = x) _).drewN _).setCell _ (fun _ => rfl) _
  have d1 : decide (32 < k) = false := by simpa using k1
  have hk2 : 8 * (l.length : Int) < a + k := by omega
  have d2 : decide (8 * (l.length : Int) < (a : Int) + k) = true := by simpa using hk2
  have hw : IntKind.i64.wrap ((a : Int) + k) = (a : Int) + k := by rw [IntKind.wrap_i64]; omega
  go_enter Tryd.func87, Tryd.ntmps87
  go_wp2_with (fail)
  go_quiet (fail)
  go_wp2
  go_ret
  refine ⟨rfl, ⟨a, ha, ?_⟩, ?_⟩
  · exact (H0.out.kept ((Kept.refl (fun _ => False) _).drewN _) id).setLost true
  · exact ((Kept.refl (· = x) _).drewN _).setCell _ (fun _ => rfl) _

end Go.Proofs.YtdcbabgcbkdlhaaDoor
set_option maxRecDepth 100000
namespace Go.Proofs.YtdcbabgcbkdlhaaDoor
open Go.RowKit

set_option maxHeartbeats 1000000 in
theorem rf_fixed_ok (x : Nat) (l : List Nat) (a k : Nat) (w : World) (hlen : l.length ≤ 1000) (hk : k ≤ 32) (h : RfAt w x l a false) (hak : a + k ≤ 8 * l.length) :
    Calls Tryd.prog 87 #[.pointer (some ⟨x, 0, none⟩), .int .i64 (k : Int)] w (RfDone w x l ((valAt l a k : Int), some (a + k))) := by
  obtain ⟨h0, h1, h2, f1, -⟩ := h.facts
  have H0 := Lib.hid h; clear h
  have hsz : (strOf (bitsOf l)).size = 8 * l.length := by rw [strOf_size, bitsOf_length]
  have hch : ∀ j, j < k → ∀ (hh : a + j < (strOf (bitsOf l)).size), (((strOf (bitsOf l))[a + j]'hh).toNat : Int) = 48 + ((bitAt l (a + j)).toNat : Int) := by
    intro j hj hh
    rw [chr_val, bitsOf_getD l (a + j) (by omega)]
  have HC := Lib.hid hch; clear hch
  generalize strOf (bitsOf l) = s at *
  have d0 : decide ((k : Int) < 0) = false := by simp
  have d1 : decide (32 < (k : Int)) = false := by simp; omega
  have d2 : decide (8 * (l.length : Int) < (a : Int) + (k : Int)) = false := by simp; omega
  have hw : IntKind.i64.wrap ((a : Int) + (k : Int)) = (a : Int) + (k : Int) := by rw [IntKind.wrap_i64]; omega
  go_enter Tryd.func87, Tryd.ntmps87
  go_wp2_with (fail)
  go_quiet (fail)
  go_wp2_with (fail)
  clear hw d0 d1 d2
  go_loopg [5, 6] k (fun gg n i wr => ∃ j : Nat, j + gg = k ∧ i = .int .i64 (j : Int) ∧ n = .int .i64 (valAt l a j : Int) ∧ ∃ t, wr = w.drewN t)
  case atStart => exact ⟨0, by omega, rfl, rfl, _, rfl⟩
  case round =>
    obtain ⟨j, hj, rfl, rfl, t, rfl⟩ := hrel
    have HJ := Lib.hid hj
    have hv : valAt l a j < 4294967296 := Nat.lt_of_lt_of_le (valAt_lt l a j) (by have := Nat.pow_le_pow_right (n := 2) (by decide) (show j ≤ 32 by omega); simpa using this)
    by_cases hlt : j < k
    · have hh : a + j < s.size := by omega
      have hc := HC.out j hlt hh
      have hb := toNat_le_one (bitAt l (a + j))
      have hsu : valAt l a (j + 1) = 2 * valAt l a j + (bitAt l (a + j)).toNat := rfl
      have HSU := Lib.hid hsu; clear hsu
      generalize (bitAt l (a + j)).toNat = bb at *
      generalize valAt l a j = vv at *
      have g1 : 0 ≤ (a : Int) + (j : Int) := by omega
      have g2 : ((a : Int) + (j : Int)).toNat = a + j := by omega
      have g3 : (a : Int) + (j : Int) < (s.size : Int) := by omega
      have g4 : IntKind.i64.wrap ((a : Int) + (j : Int)) = (a : Int) + (j : Int) := by rw [IntKind.wrap_i64]; omega
      have g5 : IntKind.i64.wrap (2 * (vv : Int)) = 2 * (vv : Int) := by rw [IntKind.wrap_i64]; omega
      clear hj
      go_wp2_with (fail)
      go_quiet (fail)
      go_wp2
      go_roundg (gk - 1)
      case measure => have := HJ.out; omega
      case rel => exact ⟨j + 1, by have := HJ.out; omega, by go_num, by rw [HSU.out]; go_num, _, rfl⟩
    · have ej : j = k := by omega
      clear HJ hj
      subst ej
      go_wp2
      go_ret
      refine ⟨rfl, ⟨hak, ?_⟩, ?_⟩
      · exact (H0.out.kept ((Kept.refl (fun _ => False) _).drewN _) id).setAt (a + j) _ (by omega)
      · exact ((Kept.refl (· = x) _).drewN _).setCell _ (fun _ => rfl) _

/-- Fixed, whatever the reader's state and the number of bits. -/
theorem rf_fixed (x : Nat) (l : List Nat) (st : Option Nat) (k : Int) (w : World) (hlen : l.length ≤ 1000) (h : RfIs w x l st) :
    Calls Tryd.prog 87 #[.pointer (some ⟨x, 0, none⟩), .int .i64 k] w (RfDone w x l (rdStep (fixedRd l k) st)) := by
  cases st with
  | none =>
    obtain ⟨a, ha, h⟩ := h
    exact rf_fixed_lost x l a k w ha h
  | some a =>
    obtain ⟨ha, h⟩ := h
    by_cases hb : k < 0 ∨ 32 < k ∨ 8 * (l.length : Int) < a + k
    · have e : rdStep (fixedRd l k) (some a) = (0, none) := by
        have : fixedRd l k a = none := by
          unfold fixedRd
          by_cases h1 : k < 0 ∨ 32 < k
          · rw [if_pos h1]
          · rw [if_neg h1]; unfold fixedAt; rw [if_neg (by omega)]
        simp [rdStep, this]
      rw [e]; exact rf_fixed_bad x l a k w ha hlen h hb
    · obtain ⟨j, rfl⟩ := Int.eq_ofNat_of_zero_le (show 0 ≤ k by omega)
      have e : rdStep (fixedRd l (j : Int)) (some a) = ((valAt l a j : Int), some (a + j)) := by
        have : fixedRd l (j : Int) a = some ((valAt l a j : Int), a + j) := by
          unfold fixedRd; rw [if_neg (by omega)]; unfold fixedAt; rw [Int.toNat_natCast, if_pos (by omega)]
        simp [rdStep, this]
      rw [e]; exact rf_fixed_ok x l a j w hlen (by omega) h (by omega)

end Go.Proofs.YtdcbabgcbkdlhaaDoor
set_option maxRecDepth 100000
namespace Go.Proofs.YtdcbabgcbkdlhaaDoor
open Go.RowKit

theorem valAt_front (l : List Nat) (a k : Nat) : valAt l a (k + 1) = (bitAt l a).toNat * 2 ^ k + valAt l (a + 1) k := by
  induction k with
  | zero => simp [valAt]
  | succ k ih =>
    have e : valAt l a (k + 2) = 2 * valAt l a (k + 1) + (bitAt l (a + (k + 1))).toNat := rfl
    have e2 : valAt l (a + 1) (k + 1) = 2 * valAt l (a + 1) k + (bitAt l (a + 1 + k)).toNat := rfl
    rw [e, ih, e2, show a + (k + 1) = a + 1 + k by omega, Nat.pow_succ]
    have : (bitAt l a).toNat * (2 ^ k * 2) = 2 * ((bitAt l a).toNat * 2 ^ k) := by rw [← Nat.mul_assoc]; omega
    omega

/-- So many bits 0 are read. -/
theorem wholeFrom_run (l : List Nat) (a : Nat) : ∀ z, z ≤ 31 → a + z ≤ 8 * l.length → (∀ i, i < z → bitAt l (a + i) = false) → wholeAt l a = wholeFrom l a (33 - z) z := by
  intro z
  induction z with
  | zero => intro _ _ _; rfl
  | succ z ih =>
    intro hz ha h0
    rw [ih (by omega) (by omega) (fun i hi => h0 i (by omega))]
    have e : 33 - z = (33 - (z + 1)) + 1 := by omega
    rw [e]
    show (if a + z < 8 * l.length then _ else none) = _
    rw [if_pos (by omega), h0 z (by omega), if_neg (show ¬ 31 < z + 1 by omega)]
    simp

theorem wholeAt_many (l : List Nat) (a z : Nat) (hz : 32 ≤ z) (ha : a + z ≤ 8 * l.length) (h0 : ∀ i, i < z → bitAt l (a + i) = false) : wholeAt l a = none := by
  rw [wholeFrom_run l a 31 (by omega) (by omega) (fun i hi => h0 i (by omega))]
  show (if a + 31 < 8 * l.length then _ else none) = _
  rw [if_pos (by omega), h0 31 (by omega)]
  simp

theorem wholeAt_end (l : List Nat) (a z : Nat) (hz : z ≤ 31) (ha : a + z = 8 * l.length) (h0 : ∀ i, i < z → bitAt l (a + i) = false) : wholeAt l a = none := by
  rw [wholeFrom_run l a z hz (by omega) h0]
  have e : 33 - z = (32 - z) + 1 := by omega
  rw [e]
  show (if a + z < 8 * l.length then _ else none) = _
  rw [if_neg (by omega)]

theorem wholeAt_one (l : List Nat) (a z : Nat) (hz : z ≤ 31) (ha : a + z < 8 * l.length) (h1 : bitAt l (a + z) = true) (h0 : ∀ i, i < z → bitAt l (a + i) = false) :
    wholeAt l a = if a + z + (z + 1) ≤ 8 * l.length then some ((valAt l (a + z) (z + 1) : Int) - 1, a + z + (z + 1)) else none := by
  rw [wholeFrom_run l a z hz (by omega) h0]
  have e : 33 - z = (32 - z) + 1 := by omega
  rw [e]
  show (if a + z < 8 * l.length then (if bitAt l (a + z) then (if a + z + 1 + z ≤ 8 * l.length then _ else none) else _) else none) = _
  rw [if_pos ha, h1, if_pos rfl, valAt_front, h1]
  by_cases hf : a + z + 1 + z ≤ 8 * l.length
  · rw [if_pos hf, if_pos (by omega)]; simp; omega
  · rw [if_neg hf, if_neg (by omega)]

/-- What stands behind the bits 0, as the document's reader reads it. -/
def Tail (l : List Nat) (a z : Nat) : Prop :=
  (z ≤ 31 → fixedRd l ((z : Int) + 1) (a + z) = none → wholeAt l a = none) ∧
  (z ≤ 31 → ∀ v a2, fixedRd l ((z : Int) + 1) (a + z) = some (v, a2) → wholeAt l a = some (v - 1, a2) ∧ 0 ≤ v ∧ v ≤ 4294967296)

theorem fixedRd_nat (l : List Nat) (z p : Nat) (hz : z ≤ 31) : fixedRd l ((z : Int) + 1) p = fixedAt l p (z + 1) := by
  unfold fixedRd; rw [if_neg (by omega), show ((z : Int) + 1).toNat = z + 1 by omega]

theorem tail_one (l : List Nat) (a z : Nat) (ha : a + z < 8 * l.length) (h1 : bitAt l (a + z) = true) (h0 : ∀ i, i < z → bitAt l (a + i) = false) : Tail l a z := by
  refine ⟨fun hz h => ?_, fun hz v a2 h => ?_⟩
  · rw [fixedRd_nat l z _ hz] at h
    rw [wholeAt_one l a z hz ha h1 h0]
    unfold fixedAt at h
    split at h
    · cases h
    · rename_i hn; rw [if_neg hn]
  · rw [fixedRd_nat l z _ hz] at h
    rw [wholeAt_one l a z hz ha h1 h0]
    unfold fixedAt at h
    split at h
    · rename_i hp
      cases h
      rw [if_pos hp]
      have := valAt_lt l (a + z) (z + 1)
      have h2 : (2 : Nat) ^ (z + 1) ≤ 4294967296 := by have := Nat.pow_le_pow_right (n := 2) (by decide) (show z + 1 ≤ 32 by omega); simpa using this
      exact ⟨rfl, by omega, by omega⟩
    · cases h

theorem tail_end (l : List Nat) (a z : Nat) (ha : a + z = 8 * l.length) (h0 : ∀ i, i < z → bitAt l (a + i) = false) : Tail l a z := by
  refine ⟨fun hz _ => wholeAt_end l a z hz ha h0, fun hz v a2 h => ?_⟩
  rw [fixedRd_nat l z _ hz] at h
  unfold fixedAt at h
  rw [if_neg (by omega)] at h
  cases h

set_option maxHeartbeats 2000000 in
theorem rf_whole_lost (x : Nat) (l : List Nat) (a : Nat) (most : Int) (w : World) (hlen : l.length ≤ 1000) (ha : a ≤ 8 * l.length) (h : RfAt w x l a true) :
    Calls Tryd.prog 45 #[.pointer (some ⟨x, 0, none⟩), .int .i64 most] w (RfDone w x l (0, none)) := by
  obtain ⟨h0, h1, h2, f1, f2⟩ := h.facts
  have H0 := Lib.hid h; clear h
  generalize strOf (bitsOf l) = s at *
  go_enter Tryd.func45, Tryd.ntmps45
  go_wp2_with (fail)
  refine wp_loop_rounds 1 ?_
  rw [rounds_succ]
  go_wp2_with (fail)
  go_quiet (fail)
  go_wp2_with (fail)
  have hk1 : RfIs (w.drewN nq) x l none := ⟨a, ha, H0.out.kept ((Kept.refl (fun _ => False) _).drewN _) id⟩
  refine (rf_fixed x l none _ _ hlen hk1).mono ?_
  rintro e w1 ⟨rfl, ⟨a1, ha1, h1'⟩, hkp⟩
  have HK := Lib.hid (((Kept.refl (· = x) w).drewN nq).trans hkp (fun _ _ x => x)); clear hkp hk1 h0 h1 h2 f1 f2
  obtain ⟨-, -, h2, -, f2⟩ := h1'.facts
  have H1 := Lib.hid h1'; clear h1'
  simp only [rdStep]
  go_wp2
  go_ret
  exact ⟨rfl, ⟨a1, ha1, H1.out.setLost true⟩, HK.out.setCell _ (fun _ => rfl) _⟩

set_option maxHeartbeats 4000000 in
theorem rf_whole_some (x : Nat) (l : List Nat) (a : Nat) (most : Int) (w : World) (hlen : l.length ≤ 1000) (ha : a ≤ 8 * l.length) (h : RfAt w x l a false) :
    Calls Tryd.prog 45 #[.pointer (some ⟨x, 0, none⟩), .int .i64 most] w (RfDone w x l (rdStep (wholeRd l most) (some a))) := by
  have H0 := Lib.hid h; clear h
  have hsz : (strOf (bitsOf l)).size = 8 * l.length := by rw [strOf_size, bitsOf_length]
  have hch : ∀ i (hh : i < (strOf (bitsOf l)).size), (((strOf (bitsOf l))[i]'hh).toNat : Int) = 48 + ((bitAt l i).toNat : Int) := by
    intro i hh
    rw [chr_val, bitsOf_getD l i (by omega)]
  have HC := Lib.hid hch; clear hch
  go_enter Tryd.func45, Tryd.ntmps45
  go_wp2_with (fail)
  go_loopg [5] (8 * l.length - a) (fun gg s wr => ∃ z : Nat, a + z + gg = 8 * l.length ∧ s = .int .i64 (z : Int) ∧ (∀ i, i < z → bitAt l (a + i) = false) ∧ RfAt wr x l (a + z) false ∧ Kept (· = x) w wr)
  case atStart => exact ⟨0, by omega, rfl, by omega, H0.out, Kept.refl _ _⟩
  case round =>
    obtain ⟨z, hz, rfl, hzz, hr, hkp⟩ := hrel
    obtain ⟨h0, h1, h2, f1, f2⟩ := hr.facts
    have HR := Lib.hid hr; have HK := Lib.hid hkp; have HZ := Lib.hid hzz; clear hr hkp hzz H0
    have haz : a + z ≤ 8 * l.length := by omega
    rw [show ((a + z : Nat) : Int) = (a : Int) + (z : Int) by omega] at h1
    have ht : (z ≤ 31 → (a + z = 8 * l.length ∨ bitAt l (a + z) = true) → True) := fun _ _ => trivial
    clear ht
    have HG := Lib.hid hz
    by_cases hin : a + z < 8 * l.length
    · have hh : a + z < (strOf (bitsOf l)).size := by omega
      have hc := HC.out (a + z) hh
      generalize strOf (bitsOf l) = s at *
      have g1 : 0 ≤ (a : Int) + (z : Int) := by omega
      have g2 : ((a : Int) + (z : Int)).toNat = a + z := by omega
      have g3 : (a : Int) + (z : Int) < (s.size : Int) := by omega
      have d1 : decide ((a : Int) + (z : Int) < 8 * (l.length : Int)) = true := by simp; omega
      cases hb : bitAt l (a + z) with
      | false =>
        rw [hb] at hc
        have hc2 : ((s[a + z]'hh).toNat : Int) = 48 := by rw [hc]; rfl
        have HB := Lib.hid hb; clear hb hc
        clear hz
        go_wp2_with (fail)
        go_quiet (fail)
        go_wp2
        go_roundg (gk - 1)
        case measure => have := HG.out; omega
        case rel =>
          refine ⟨z + 1, by have := HG.out; omega, by go_num, ?_, ?_, ?_⟩
          · intro i hi
            by_cases hiz : i = z
            · subst hiz; exact HB.out
            · exact HZ.out i (by omega)
          · exact (HR.out.kept ((Kept.refl (fun _ => False) _).drewN _) id).setAt (a + (z + 1)) _ (by omega)
          · exact (HK.out.drewN _).setCell _ (fun _ => rfl) _
      | true =>
        rw [hb] at hc
        have hc2 : ((s[a + z]'hh).toNat : Int) = 49 := by rw [hc]; rfl
        have HT := Lib.hid (tail_one l a z (by omega) hb HZ.out)
        clear hb hc hz HG

        by_cases hz31 : 31 < z
        · -- too many bits 0
          have hno : wholeRd l most a = none := by
            have := wholeAt_many l a z (by omega) haz HZ.out
            simp [wholeRd, this]
          have HNO := Lib.hid hno; clear hno
          have hmin : min (z : Int) 31 = 31 := by omega
          go_wp2_with (fail)
          go_quiet (fail)
          go_wp2_with (fail)
          refine (rf_fixed x l none _ _ hlen ⟨a + z, haz, (HR.out.kept ((Kept.refl (fun _ => False) _).drewN _) id).setLost true⟩).mono ?_
          rintro e w1 ⟨rfl, ⟨a1, ha1, h1'⟩, hkp⟩
          have HK1 := Lib.hid ((((HK.out.drewN _).setCell _ (fun _ => rfl) _)).trans hkp (fun _ _ x => x)); clear hkp
          clear h0 h1 h2 f1 f2
          obtain ⟨-, -, h2, -, f2⟩ := h1'.facts
          have H1 := Lib.hid h1'; clear h1'
          simp only [rdStep]
          go_wp2
          go_ret
          have e0 : rdStep (wholeRd l most) (some a) = (0, none) := by simp [rdStep, HNO.out]
          rw [e0]
          exact ⟨rfl, ⟨a1, ha1, H1.out.setLost true⟩, HK1.out.setCell _ (fun _ => rfl) _⟩
        · have hmin : min (z : Int) 31 = (z : Int) := by omega
          go_wp2_with (fail)
          go_quiet (fail)
          go_wp2_with (fail)
          refine (rf_fixed x l (some (a + z)) _ _ hlen ⟨haz, HR.out.kept ((Kept.refl (fun _ => False) _).drewN _) id⟩).mono ?_
          intro e w1 hd
          obtain ⟨rfl, hst, hkp⟩ := hd
          have HK1 := Lib.hid ((HK.out.drewN _).trans hkp (fun _ _ x => x)); clear hkp
          clear h0 h1 h2 f1 f2
          cases hfx : fixedRd l ((z : Int) + 1) (a + z) with
          | none =>
            have e1 : rdStep (fixedRd l ((z : Int) + 1)) (some (a + z)) = (0, none) := by simp [rdStep, hfx]
            rw [e1] at hst ⊢
            obtain ⟨a1, ha1, h1'⟩ := hst
            obtain ⟨-, -, h2, -, f2⟩ := h1'.facts
            have H1 := Lib.hid h1'; clear h1'
            have e0 : rdStep (wholeRd l most) (some a) = (0, none) := by
              have := HT.out.1 (by omega) hfx
              simp [rdStep, wholeRd, this]
            have E0 := Lib.hid e0; clear e0 e1 hfx
            dsimp only
            go_wp2
            go_ret
            rw [E0.out]
            exact ⟨rfl, ⟨a1, ha1, H1.out.setLost true⟩, HK1.out.setCell _ (fun _ => rfl) _⟩
          | some na =>
            obtain ⟨v, a2⟩ := na
            have e1 : rdStep (fixedRd l ((z : Int) + 1)) (some (a + z)) = (v, some a2) := by simp [rdStep, hfx]
            rw [e1] at hst ⊢
            obtain ⟨ha2, h1'⟩ := hst
            obtain ⟨-, -, h2, -, f2⟩ := h1'.facts
            have H1 := Lib.hid h1'; clear h1'
            obtain ⟨hw2, hv0, hv1⟩ := HT.out.2 (by omega) v a2 hfx
            have HW2 := Lib.hid hw2; clear hw2 e1 hfx
            dsimp only
            by_cases hm : most < v - 1
            · have e0 : rdStep (wholeRd l most) (some a) = (0, none) := by simp [rdStep, wholeRd, HW2.out, hm]
              have E0 := Lib.hid e0; clear e0
              have dm : decide (most < v - 1) = true := by simpa using hm
              go_wp2
              go_ret
              rw [E0.out]
              exact ⟨rfl, ⟨a2, ha2, H1.out.setLost true⟩, HK1.out.setCell _ (fun _ => rfl) _⟩
            · have e0 : rdStep (wholeRd l most) (some a) = (v - 1, some a2) := by simp [rdStep, wholeRd, HW2.out, hm]
              have E0 := Lib.hid e0; clear e0
              have dm : decide (most < v - 1) = false := by simpa using hm
              go_wp2
              go_ret
              rw [E0.out]
              exact ⟨rfl, ⟨ha2, H1.out⟩, HK1.out⟩
    · have d1 : decide ((a : Int) + (z : Int) < 8 * (l.length : Int)) = false := by simp; omega
      have HT := Lib.hid (tail_end l a z (by omega) HZ.out)
      generalize strOf (bitsOf l) = s at *
      clear hz HG

      by_cases hz31 : 31 < z
      · -- too many bits 0
        have hno : wholeRd l most a = none := by
          have := wholeAt_many l a z (by omega) haz HZ.out
          simp [wholeRd, this]
        have HNO := Lib.hid hno; clear hno
        have hmin : min (z : Int) 31 = 31 := by omega
        go_wp2_with (fail)
        go_quiet (fail)
        go_wp2_with (fail)
        refine (rf_fixed x l none _ _ hlen ⟨a + z, haz, (HR.out.kept ((Kept.refl (fun _ => False) _).drewN _) id).setLost true⟩).mono ?_
        rintro e w1 ⟨rfl, ⟨a1, ha1, h1'⟩, hkp⟩
        have HK1 := Lib.hid ((((HK.out.drewN _).setCell _ (fun _ => rfl) _)).trans hkp (fun _ _ x => x)); clear hkp
        clear h0 h1 h2 f1 f2
        obtain ⟨-, -, h2, -, f2⟩ := h1'.facts
        have H1 := Lib.hid h1'; clear h1'
        simp only [rdStep]
        go_wp2
        go_ret
        have e0 : rdStep (wholeRd l most) (some a) = (0, none) := by simp [rdStep, HNO.out]
        rw [e0]
        exact ⟨rfl, ⟨a1, ha1, H1.out.setLost true⟩, HK1.out.setCell _ (fun _ => rfl) _⟩
      · have hmin : min (z : Int) 31 = (z : Int) := by omega
        go_wp2_with (fail)
        go_quiet (fail)
        go_wp2_with (fail)
        refine (rf_fixed x l (some (a + z)) _ _ hlen ⟨haz, HR.out.kept ((Kept.refl (fun _ => False) _).drewN _) id⟩).mono ?_
        intro e w1 hd
        obtain ⟨rfl, hst, hkp⟩ := hd
        have HK1 := Lib.hid ((HK.out.drewN _).trans hkp (fun _ _ x => x)); clear hkp
        clear h0 h1 h2 f1 f2
        cases hfx : fixedRd l ((z : Int) + 1) (a + z) with
        | none =>
          have e1 : rdStep (fixedRd l ((z : Int) + 1)) (some (a + z)) = (0, none) := by simp [rdStep, hfx]
          rw [e1] at hst ⊢
          obtain ⟨a1, ha1, h1'⟩ := hst
          obtain ⟨-, -, h2, -, f2⟩ := h1'.facts
          have H1 := Lib.hid h1'; clear h1'
          have e0 : rdStep (wholeRd l most) (some a) = (0, none) := by
            have := HT.out.1 (by omega) hfx
            simp [rdStep, wholeRd, this]
          have E0 := Lib.hid e0; clear e0 e1 hfx
          dsimp only
          go_wp2
          go_ret
          rw [E0.out]
          exact ⟨rfl, ⟨a1, ha1, H1.out.setLost true⟩, HK1.out.setCell _ (fun _ => rfl) _⟩
        | some na =>
          obtain ⟨v, a2⟩ := na
          have e1 : rdStep (fixedRd l ((z : Int) + 1)) (some (a + z)) = (v, some a2) := by simp [rdStep, hfx]
          rw [e1] at hst ⊢
          obtain ⟨ha2, h1'⟩ := hst
          obtain ⟨-, -, h2, -, f2⟩ := h1'.facts
          have H1 := Lib.hid h1'; clear h1'
          obtain ⟨hw2, hv0, hv1⟩ := HT.out.2 (by omega) v a2 hfx
          have HW2 := Lib.hid hw2; clear hw2 e1 hfx
          dsimp only
          by_cases hm : most < v - 1
          · have e0 : rdStep (wholeRd l most) (some a) = (0, none) := by simp [rdStep, wholeRd, HW2.out, hm]
            have E0 := Lib.hid e0; clear e0
            have dm : decide (most < v - 1) = true := by simpa using hm
            go_wp2
            go_ret
            rw [E0.out]
            exact ⟨rfl, ⟨a2, ha2, H1.out.setLost true⟩, HK1.out.setCell _ (fun _ => rfl) _⟩
          · have e0 : rdStep (wholeRd l most) (some a) = (v - 1, some a2) := by simp [rdStep, wholeRd, HW2.out, hm]
            have E0 := Lib.hid e0; clear e0
            have dm : decide (most < v - 1) = false := by simpa using hm
            go_wp2
            go_ret
            rw [E0.out]
            exact ⟨rfl, ⟨ha2, H1.out⟩, HK1.out⟩

end Go.Proofs.YtdcbabgcbkdlhaaDoor
set_option maxRecDepth 100000
namespace Go.Proofs.YtdcbabgcbkdlhaaDoor

def BitsAt (l : List Nat) (a : Nat) (bs : List Bool) : Prop := a + bs.length ≤ 8 * l.length ∧ ∀ i, i < bs.length → bitAt l (a + i) = bs.getD i false
theorem BitsAt.left {l : List Nat} {a : Nat} {x y : List Bool} (h : BitsAt l a (x ++ y)) : BitsAt l a x := by
  refine ⟨by have := h.1; simp at this; omega, fun i hi => ?_⟩
  rw [h.2 i (by simp; omega), List.getD_eq_getElem?_getD, List.getD_eq_getElem?_getD, List.getElem?_append_left hi]
theorem BitsAt.right {l : List Nat} {a : Nat} {x y : List Bool} (h : BitsAt l a (x ++ y)) : BitsAt l (a + x.length) y := by
  refine ⟨by have := h.1; simp at this; omega, fun i hi => ?_⟩
  rw [Nat.add_assoc, h.2 (x.length + i) (by simp; omega), List.getD_eq_getElem?_getD, List.getD_eq_getElem?_getD, List.getElem?_append_right (by omega), Nat.add_sub_cancel_left]
theorem bitsAt_pack (bs : List Bool) : BitsAt (pack bs) 0 bs := by
  have h8 : bs.length ≤ 8 * nbytes bs.length := by unfold nbytes; omega
  refine ⟨by rw [pack_length]; omega, fun i hi => ?_⟩
  rw [Nat.zero_add, pack_bit bs i (by omega)]

theorem valAt_bits (l : List Nat) (m : Nat) : ∀ (k a : Nat), BitsAt l a (fixedBits (m : Int) k) → valAt l a k = m % 2 ^ k := by
  intro k
  induction k with
  | zero => intro a _; simp [valAt, Nat.mod_one]
  | succ k ih =>
    intro a h
    have h1 : BitsAt l a ([lowBit ((m : Int) / 2 ^ k)] ++ fixedBits (m : Int) k) := h
    have h2 := ih (a + 1) h1.right
    have h3 := h1.2 0 (by simp)
    simp only [Nat.add_zero, List.cons_append, List.nil_append, List.getD_cons_zero] at h3
    rw [valAt_front, h2, h3]
    have e : (m : Int) / 2 ^ k = ((m / 2 ^ k : Nat) : Int) := by simp
    rw [e, lowBit_nat]
    have e2 : (decide (m / 2 ^ k % 2 = 1)).toNat = m / 2 ^ k % 2 := by
      rcases Nat.mod_two_eq_zero_or_one (m / 2 ^ k) with h | h <;> simp [h]
    rw [e2, Nat.pow_succ, Nat.mod_mul, Nat.mul_comm (2 ^ k)]
    omega

theorem wholeAt_golomb (l : List Nat) (a m : Nat) (h0 : m ≠ 0) (h : m ≤ 2147483648) (hb : BitsAt l a (golomb m)) : wholeAt l a = some ((m : Int) - 1, a + (golomb m).length) := by
  obtain ⟨b1, b2, b3⟩ := bitLen_bounds m h0 (by omega)
  have b4 := (bitLen_le32 m h0 h).2
  have hl := golomb_length m h0 h
  rw [golomb_shape m h0 (by omega)] at hb
  generalize hz : Lib.bitLen m = L at *
  obtain ⟨z, rfl⟩ : ∃ z, L = z + 1 := ⟨L - 1, by omega⟩
  simp only [Nat.add_sub_cancel] at *
  have hzb : ∀ i, i < z → bitAt l (a + i) = false := fun i hi => by
    have := hb.left.2 i (by simpa using hi)
    rw [this, List.getD_eq_getElem?_getD]; simp [hi]
  have hr := hb.right
  rw [List.length_replicate] at hr
  have h1 : bitAt l (a + z) = true := by have := hr.2 0 (by simp); simpa using this
  have hl2 := hr.1
  simp only [List.length_cons, fixedBits_length] at hl2
  have hr2 : BitsAt l (a + z) ([true] ++ fixedBits (m : Int) z) := hr
  have hv := valAt_bits l m z (a + z + 1) hr2.right
  rw [wholeAt_one l a z (by omega) (by omega) h1 hzb, if_pos (by omega), valAt_front, h1, hv]
  have e : m % 2 ^ z = m - 2 ^ z := by
    rw [Nat.mod_eq_sub_mod b2, Nat.mod_eq_of_lt (by rw [Nat.pow_succ] at b3; omega)]
  rw [e, hl]
  simp only [Bool.toNat_true, Nat.one_mul, Option.some.injEq, Prod.mk.injEq]
  omega

theorem wholeRd_bits (l : List Nat) (a : Nat) (n most : Int) (h0 : 0 ≤ n) (h1 : n ≤ 2147483647) (h2 : n ≤ most) (hb : BitsAt l a (wholeBits n)) : wholeRd l most a = some (n, a + (wholeBits n).length) := by
  have e : wholeBits n = golomb (n.toNat + 1) := by unfold wholeBits; rw [show clampWhole n = n.toNat by unfold clampWhole; omega]
  rw [e] at hb ⊢
  unfold wholeRd
  rw [wholeAt_golomb l a _ (by omega) (by omega) hb]
  simp only
  rw [if_neg (by omega)]
  congr 2; omega
theorem unsign_code (n : Int) : unsign ((signCode n : Int)) = n := by
  unfold unsign signCode
  split <;> split <;> omega
theorem signedRd_bits (l : List Nat) (a : Nat) (n most : Int) (h0 : -536870912 < n) (h1 : n < 536870912) (h2 : n ≤ most) (h3 : -n ≤ most) (hb : BitsAt l a (signedBits n)) : signedRd l most a = some (n, a + (signedBits n).length) := by
  obtain ⟨e, h4⟩ := signedBits_code n h0 h1
  rw [e] at hb ⊢
  unfold signedRd
  rw [wholeAt_golomb l a _ (by omega) (by omega) hb]
  simp only
  rw [show ((signCode n + 1 : Nat) : Int) - 1 = (signCode n : Int) by omega, unsign_code, if_neg (by omega)]

def ordl : List Nat := [0, 1, 4, 8, 5, 2, 3, 6, 9, 12, 13, 10, 7, 11, 14, 15]
def ord (i : Nat) : Nat := ordl.getD i 0
def ordB : Nat → Int := fun i => (ord i : Int)
theorem ord_lt : ∀ i, i < 16 → ord i < 16 := by decide
theorem ord_inj : ∀ i, i < 16 → ∀ j, j < 16 → ord i = ord j → i = j := by decide
theorem ord_onto : ∀ k, k < 16 → ∃ i, i < 16 ∧ ord i = k := by decide

def lvl (b : Nat → Int) (i : Nat) : Int := cl 1048576 (b (ord i))
def lvls (b : Nat → Int) : List Int := (List.range 16).map (lvl b)
/-- Each level that is not 0, behind how many 0. -/
def runs : Nat → List Int → List (Nat × Int)
  | _, [] => []
  | z, x :: xs => if x = 0 then runs (z + 1) xs else (z, x) :: runs 0 xs
def runBits : List (Nat × Int) → List Bool
  | [] => []
  | p :: r => wholeBits p.1 ++ signedBits p.2 ++ runBits r
def scanBits (b : Nat → Int) : List Bool := wholeBits (runs 0 (lvls b)).length ++ runBits (runs 0 (lvls b))

theorem runs_length (xs : List Int) : ∀ z, (runs z xs).length ≤ xs.length := by
  induction xs with
  | nil => intro z; simp [runs]
  | cons x xs ih =>
    intro z
    unfold runs
    split
    · have := ih (z + 1); simp; omega
    · have := ih 0; simp; omega
theorem runBits_length (r : List (Nat × Int)) : (runBits r).length ≤ 126 * r.length := by
  induction r with
  | nil => simp [runBits]
  | cons p r ih =>
    have h1 := wholeBits_short p.1
    have h2 := signedBits_short p.2
    simp only [runBits, List.length_append, List.length_cons]
    omega
theorem scanBits_length (b : Nat → Int) : (scanBits b).length ≤ 2079 := by
  have h1 := wholeBits_short ((runs 0 (lvls b)).length : Nat)
  have h2 := runBits_length (runs 0 (lvls b))
  have h3 := runs_length (lvls b) 0
  have h4 : (lvls b).length = 16 := by simp [lvls]
  unfold scanBits
  rw [List.length_append]; omega

/-- One more level is told. -/
def tell (s : Nat × Nat × List Bool) (x : Int) : Nat × Nat × List Bool := if x = 0 then (s.1, s.2.1 + 1, s.2.2) else (s.1 + 1, 0, s.2.2 ++ wholeBits s.2.1 ++ signedBits x)
def toldTo (b : Nat → Int) (k : Nat) : Nat × Nat × List Bool := ((List.range k).map (lvl b)).foldl tell (0, 0, [])
theorem toldTo_succ (b : Nat → Int) (k : Nat) : toldTo b (k + 1) = tell (toldTo b k) (lvl b k) := by simp [toldTo, List.range_succ]
theorem tell_all (xs : List Int) : ∀ s : Nat × Nat × List Bool, (xs.foldl tell s).1 = s.1 + (runs s.2.1 xs).length ∧ (xs.foldl tell s).2.2 = s.2.2 ++ runBits (runs s.2.1 xs) := by
  induction xs with
  | nil => intro s; simp [runs, runBits]
  | cons x xs ih =>
    intro s
    obtain ⟨h1, h2⟩ := ih (tell s x)
    rw [List.foldl_cons, h1, h2]
    unfold tell
    by_cases hx : x = 0
    · rw [if_pos hx]; simp [runs, hx]
    · rw [if_neg hx]; simp [runs, hx, runBits]; omega
theorem told_many (b : Nat → Int) : (toldTo b 16).1 = (runs 0 (lvls b)).length := by
  have h := (tell_all (lvls b) (0, 0, [])).1; rw [Nat.zero_add] at h; exact h
theorem told_bits (b : Nat → Int) : (toldTo b 16).2.2 = runBits (runs 0 (lvls b)) := by
  have h := (tell_all (lvls b) (0, 0, [])).2; rw [List.nil_append] at h; exact h
theorem told_le (b : Nat → Int) (k : Nat) : (toldTo b k).1 ≤ k ∧ (toldTo b k).2.1 ≤ k ∧ (toldTo b k).2.2.length ≤ 126 * k := by
  induction k with
  | zero => simp [toldTo]
  | succ k ih =>
    rw [toldTo_succ]
    unfold tell
    have h1 := wholeBits_short ((toldTo b k).2.1 : Nat)
    have h2 := signedBits_short (lvl b k)
    split
    · simp only; omega
    · simp only [List.length_append]; omega
theorem tell_zero (b : Nat → Int) (k : Nat) (h : lvl b k = 0) : toldTo b (k + 1) = ((toldTo b k).1, (toldTo b k).2.1 + 1, (toldTo b k).2.2) := by rw [toldTo_succ, tell, if_pos h]
theorem tell_some (b : Nat → Int) (k : Nat) (h : ¬ lvl b k = 0) : toldTo b (k + 1) = ((toldTo b k).1 + 1, 0, (toldTo b k).2.2 ++ wholeBits (toldTo b k).2.1 ++ signedBits (lvl b k)) := by rw [toldTo_succ, tell, if_neg h]
theorem scan_told (b : Nat → Int) : scanBits b = wholeBits (toldTo b 16).1 ++ (toldTo b 16).2.2 := by rw [told_many, told_bits]; rfl

/-- One level is read: the place, the level, the reader's state. -/
def rdOne (l : List Nat) (at_ : Nat) (st : Option Nat) : Nat × Int × Option Nat :=
  (at_ + (rdStep (wholeRd l 15) st).1.toNat, rdStep (signedRd l 1048576) (rdStep (wholeRd l 15) st).2)
def rdBad (r : Nat × Int × Option Nat) : Prop := r.2.2.isNone = true ∨ 15 < r.1 ∨ r.2.1 = 0
instance (r : Nat × Int × Option Nat) : Decidable (rdBad r) := by unfold rdBad; infer_instance
/-- So many levels are still to be read. -/
def rdRest (l : List Nat) : Nat → Nat → (Nat → Int) → Option Nat → (Nat → Int) × Int × Option Nat
  | 0, _, b, st => if st.isNone = true then (fun _ => 0, 60, st) else (b, 0, st)
  | k + 1, at_, b, st => if rdBad (rdOne l at_ st) then (fun _ => 0, 60, (rdOne l at_ st).2.2) else rdRest l k ((rdOne l at_ st).1 + 1) (upd b (ord (rdOne l at_ st).1) (rdOne l at_ st).2.1) (rdOne l at_ st).2.2
def scanRd (l : List Nat) (st : Option Nat) : (Nat → Int) × Int × Option Nat := rdRest l (rdStep (wholeRd l 16) st).1.toNat 0 (fun _ => 0) (rdStep (wholeRd l 16) st).2
theorem rdStep_whole_le (l : List Nat) (most : Int) (hm : 0 ≤ most) (st : Option Nat) : 0 ≤ (rdStep (wholeRd l most) st).1 ∧ (rdStep (wholeRd l most) st).1 ≤ most := by
  cases st with
  | none => simp [rdStep]; omega
  | some a =>
    cases h : wholeAt l a with
    | none =>
      have e : rdStep (wholeRd l most) (some a) = (0, none) := by simp [rdStep, wholeRd, h]
      rw [e]; simp only; omega
    | some p =>
      obtain ⟨n, a'⟩ := p
      have h2 := wholeFrom_le l a 33 0 n a' (by omega) h
      by_cases hc : most < n
      · have e : rdStep (wholeRd l most) (some a) = (0, none) := by simp [rdStep, wholeRd, h, hc]
        rw [e]; simp only; omega
      · have e : rdStep (wholeRd l most) (some a) = (n, some a') := by simp [rdStep, wholeRd, h, hc]
        rw [e]; simp only; omega
theorem rdStep_signed_le (l : List Nat) (most : Int) (hm : 0 ≤ most) (st : Option Nat) : -most ≤ (rdStep (signedRd l most) st).1 ∧ (rdStep (signedRd l most) st).1 ≤ most := by
  cases st with
  | none => simp [rdStep]; omega
  | some a =>
    cases h : wholeAt l a with
    | none =>
      have e : rdStep (signedRd l most) (some a) = (0, none) := by simp [rdStep, signedRd, h]
      rw [e]; simp only; omega
    | some p =>
      obtain ⟨n, a'⟩ := p
      by_cases hc : most < unsign n ∨ most < -unsign n
      · have e : rdStep (signedRd l most) (some a) = (0, none) := by simp [rdStep, signedRd, h, hc]
        rw [e]; simp only; omega
      · have e : rdStep (signedRd l most) (some a) = (unsign n, some a') := by simp [rdStep, signedRd, h, hc]
        rw [e]; simp only; omega

/-- Levels that were written are read as they were. -/
theorem rdRest_runs (l : List Nat) : ∀ (xs : List Int) (k z : Nat) (b : Nat → Int) (a : Nat), k + xs.length = 16 → z ≤ k → (∀ x ∈ xs, -1048576 ≤ x ∧ x ≤ 1048576) → BitsAt l a (runBits (runs z xs)) →
    ∃ c, rdRest l (runs z xs).length (k - z) b (some a) = (c, 0, some (a + (runBits (runs z xs)).length)) ∧ ∀ i, i < 16 → c (ord i) = if i < k then b (ord i) else if xs.getD (i - k) 0 = 0 then b (ord i) else xs.getD (i - k) 0 := by
  intro xs
  induction xs with
  | nil =>
    intro k z b a hk hz _ _
    refine ⟨b, by simp [runs, runBits, rdRest], fun i hi => ?_⟩
    have : i < k := by simp at hk; omega
    rw [if_pos this]
  | cons x xs ih =>
    intro k z b a hk hz hx hb
    have hk' : k + 1 + xs.length = 16 := by simp at hk; omega
    have hxs : ∀ y ∈ xs, -1048576 ≤ y ∧ y ≤ 1048576 := fun y hy => hx y (by simp [hy])
    by_cases h0 : x = 0
    · have e : runs z (x :: xs) = runs (z + 1) xs := by simp [runs, h0]
      rw [e] at hb ⊢
      obtain ⟨c, h1, h2⟩ := ih (k + 1) (z + 1) b a hk' (by omega) hxs hb
      refine ⟨c, by rw [show k - z = k + 1 - (z + 1) by omega]; exact h1, fun i hi => ?_⟩
      rw [h2 i hi]
      by_cases hi1 : i < k
      · rw [if_pos (by omega), if_pos hi1]
      · by_cases hi2 : i = k
        · subst hi2; simp [h0]
        · obtain ⟨j, rfl⟩ : ∃ j, i = k + 1 + j := ⟨i - (k + 1), by omega⟩
          rw [if_neg (show ¬ k + 1 + j < k + 1 by omega), if_neg (show ¬ k + 1 + j < k by omega), show k + 1 + j - k = j + 1 by omega, show k + 1 + j - (k + 1) = j by omega, List.getD_cons_succ]
    · have e : runs z (x :: xs) = (z, x) :: runs 0 xs := by simp [runs, h0]
      rw [e] at hb ⊢
      have hb0 : BitsAt l a (wholeBits (z : Int) ++ signedBits x ++ runBits (runs 0 xs)) := hb
      have hw := wholeRd_bits l a (z : Int) 15 (by omega) (by omega) (by omega) hb0.left.left
      have hxb := hx x (by simp)
      have hs := signedRd_bits l (a + (wholeBits (z : Int)).length) x 1048576 (by omega) (by omega) (by omega) (by omega) hb0.left.right
      have hbr := hb0.right
      rw [List.length_append] at hbr
      have ho : rdOne l (k - z) (some a) = (k, x, some (a + (wholeBits (z : Int)).length + (signedBits x).length)) := by
        have e1 : rdStep (wholeRd l 15) (some a) = ((z : Int), some (a + (wholeBits (z : Int)).length)) := by simp [rdStep, hw]
        have e2 : rdStep (signedRd l 1048576) (some (a + (wholeBits (z : Int)).length)) = (x, some (a + (wholeBits (z : Int)).length + (signedBits x).length)) := by simp [rdStep, hs]
        unfold rdOne
        rw [e1]
        simp only [e2, Prod.mk.injEq, and_true]
        omega
      have hnb : ¬ rdBad (k, x, some (a + (wholeBits (z : Int)).length + (signedBits x).length)) := by
        unfold rdBad; simp [h0]; omega
      obtain ⟨c, h1, h2⟩ := ih (k + 1) 0 (upd b (ord k) x) (a + ((wholeBits (z : Int)).length + (signedBits x).length)) hk' (by omega) hxs hbr
      refine ⟨c, ?_, fun i hi => ?_⟩
      · simp only [List.length_cons, rdRest, ho]
        rw [if_neg hnb]
        rw [Nat.sub_zero] at h1
        rw [show a + (wholeBits (z : Int)).length + (signedBits x).length = a + ((wholeBits (z : Int)).length + (signedBits x).length) by omega, h1]
        simp only [runBits, List.length_append, Prod.mk.injEq, true_and, Option.some.injEq]
        omega
      · rw [h2 i hi]
        have hu : i ≠ k → upd b (ord k) x (ord i) = b (ord i) := fun hne => by
          unfold upd
          rw [if_neg fun e => hne (ord_inj i hi k (by omega) e)]
        by_cases hi1 : i < k
        · rw [if_pos (by omega), if_pos hi1, hu (by omega)]
        · by_cases hi2 : i = k
          · subst hi2
            rw [if_pos (by omega), if_neg (by omega), Nat.sub_self, List.getD_cons_zero, if_neg h0]
            unfold upd; rw [if_pos rfl]
          · obtain ⟨j, rfl⟩ : ∃ j, i = k + 1 + j := ⟨i - (k + 1), by omega⟩
            rw [if_neg (show ¬ k + 1 + j < k + 1 by omega), if_neg (show ¬ k + 1 + j < k by omega), show k + 1 + j - k = j + 1 by omega, show k + 1 + j - (k + 1) = j by omega, List.getD_cons_succ, hu (by omega)]

theorem scan_back (l : List Nat) (a : Nat) (b : Nat → Int) (hb : BitsAt l a (scanBits b)) : ∃ c, scanRd l (some a) = (c, 0, some (a + (scanBits b).length)) ∧ ∀ i, i < 16 → c i = clB 1048576 b i := by
  have hl : (lvls b).length = 16 := by simp [lvls]
  have h16 := runs_length (lvls b) 0
  have hw := wholeRd_bits l a ((runs 0 (lvls b)).length : Nat) 16 (by omega) (by omega) (by omega) hb.left
  obtain ⟨c, h1, h2⟩ := rdRest_runs l (lvls b) 0 0 (fun _ => 0) _ (by omega) (Nat.le_refl _) (fun x hx => by
    obtain ⟨i, _, rfl⟩ := List.mem_map.1 hx
    exact cl_le 1048576 _ (by omega)) hb.right
  have e1 : rdStep (wholeRd l 16) (some a) = ((((runs 0 (lvls b)).length : Nat) : Int), some (a + (wholeBits ((runs 0 (lvls b)).length : Nat)).length)) := by simp [rdStep, hw]
  refine ⟨c, ?_, fun k hk => ?_⟩
  · unfold scanRd
    rw [e1]
    simp only [Int.toNat_natCast]
    rw [Nat.sub_zero] at h1
    rw [h1]
    simp only [scanBits, List.length_append, Prod.mk.injEq, true_and, Option.some.injEq]
    omega
  · obtain ⟨i, hi, rfl⟩ := ord_onto k hk
    rw [h2 i hi, if_neg (by omega), Nat.sub_zero]
    have e : (lvls b).getD i 0 = lvl b i := by simp [lvls, List.getD, hi]
    rw [e]
    show _ = cl 1048576 (b (ord i))
    split
    · rename_i h; exact h.symm
    · rfl
end Go.Proofs.YtdcbabgcbkdlhaaDoor
set_option maxRecDepth 100000
namespace Go.Proofs.YtdcbabgcbkdlhaaDoor
open Go.RowKit

theorem rf_whole (x : Nat) (l : List Nat) (st : Option Nat) (most : Int) (w : World) (hlen : l.length ≤ 1000) (h : RfIs w x l st) :
    Calls Tryd.prog 45 #[.pointer (some ⟨x, 0, none⟩), .int .i64 most] w (RfDone w x l (rdStep (wholeRd l most) st)) := by
  cases st with
  | none => obtain ⟨a, ha, h⟩ := h; exact rf_whole_lost x l a most w hlen ha h
  | some a => exact rf_whole_some x l a most w hlen h.1 h.2

theorem whole_big (l : List Nat) (a : Nat) : wholeRd l 1099511627776 a = wholeAt l a := by
  unfold wholeRd
  split
  · rename_i n a' ho
    have := (wholeFrom_le l a 33 0 n a' (by omega) ho).2
    rw [if_neg (by omega), ho]
  · rename_i ho; rw [ho]

set_option maxHeartbeats 1000000 in
theorem rf_signed (x : Nat) (l : List Nat) (st : Option Nat) (most : Int) (w : World) (hlen : l.length ≤ 1000) (h : RfIs w x l st) :
    Calls Tryd.prog 88 #[.pointer (some ⟨x, 0, none⟩), .int .i64 most] w (RfDone w x l (rdStep (signedRd l most) st)) := by
  have H0 := Lib.hid h; clear h
  go_enter Tryd.func88, Tryd.ntmps88
  go_wp2_with (fail)
  refine (rf_whole x l st _ _ hlen H0.out).mono ?_
  intro e w1 hd
  obtain ⟨rfl, hst, hkp⟩ := hd
  have HK := Lib.hid hkp; clear hkp
  have hcase : (rdStep (wholeRd l 1099511627776) st = (0, none) ∧ rdStep (signedRd l most) st = (0, none)) ∨
      (∃ n a2, 0 ≤ n ∧ n < 4294967296 ∧ rdStep (wholeRd l 1099511627776) st = (n, some a2) ∧ rdStep (signedRd l most) st = if most < unsign n ∨ most < -unsign n then (0, none) else (unsign n, some a2)) := by
    cases st with
    | none => exact .inl ⟨rfl, rfl⟩
    | some a =>
      simp only [rdStep, whole_big, signedRd]
      cases ho : wholeAt l a with
      | none => exact .inl ⟨rfl, rfl⟩
      | some na =>
        obtain ⟨n, a2⟩ := na
        have hb := (wholeFrom_le l a 33 0 n a2 (by omega) ho).2
        refine .inr ⟨n, a2, hb.1, hb.2, rfl, ?_⟩
        by_cases hc : most < unsign n ∨ most < -unsign n <;> simp [hc]
  rcases hcase with ⟨e1, e2⟩ | ⟨n, a2, hn0, hn1, e1, e2⟩
  · rw [e1] at hst ⊢
    obtain ⟨a1, ha1, h1'⟩ := hst
    obtain ⟨-, -, h2, -, f2⟩ := h1'.facts
    have H1 := Lib.hid h1'; have E2 := Lib.hid e2; clear h1' e1 e2
    dsimp only
    go_wp2
    go_ret
    rw [E2.out]
    exact ⟨rfl, ⟨a1, ha1, H1.out.setLost true⟩, HK.out.setCell _ (fun _ => rfl) _⟩
  · rw [e1] at hst ⊢
    obtain ⟨ha2, h1'⟩ := hst
    obtain ⟨-, -, h2, -, f2⟩ := h1'.facts
    have H1 := Lib.hid h1'; have E2 := Lib.hid e2; clear h1' e1 e2
    dsimp only
    have hun : unsign n = if n % 2 = 0 then -((n + 1) / 2) else (n + 1) / 2 := by unfold unsign; split <;> split <;> omega
    by_cases h2n : n % 2 = 0
    · rw [if_pos h2n] at hun
      have b0 : (n % 2 == 0) = true := by simpa using h2n
      have HU := Lib.hid hun; clear hun h2n
      by_cases hm1 : most < -((n + 1) / 2)
      · have d1 : decide (most < -((n + 1) / 2)) = true := by simpa using hm1
        go_wp2
        go_ret
        rw [E2.out, HU.out, if_pos (Or.inl hm1)]
        exact ⟨rfl, ⟨a2, ha2, H1.out.setLost true⟩, HK.out.setCell _ (fun _ => rfl) _⟩
      · have d1 : decide (most < -((n + 1) / 2)) = false := by simpa using hm1
        by_cases hm2 : most < (n + 1) / 2
        · have d2 : decide (most < (n + 1) / 2) = true := by simpa using hm2
          go_wp2
          go_ret
          rw [E2.out, HU.out, if_pos (Or.inr (by omega))]
          exact ⟨rfl, ⟨a2, ha2, H1.out.setLost true⟩, HK.out.setCell _ (fun _ => rfl) _⟩
        · have d2 : decide (most < (n + 1) / 2) = false := by simpa using hm2
          go_wp2
          go_ret
          rw [E2.out, HU.out, if_neg (by omega)]
          exact ⟨rfl, ⟨ha2, H1.out⟩, HK.out⟩
    · rw [if_neg h2n] at hun
      have b0 : (n % 2 == 0) = false := by simpa using h2n
      have HU := Lib.hid hun; clear hun h2n
      by_cases hm1 : most < (n + 1) / 2
      · have d1 : decide (most < (n + 1) / 2) = true := by simpa using hm1
        go_wp2
        go_ret
        rw [E2.out, HU.out, if_pos (Or.inl hm1)]
        exact ⟨rfl, ⟨a2, ha2, H1.out.setLost true⟩, HK.out.setCell _ (fun _ => rfl) _⟩
      · have d1 : decide (most < (n + 1) / 2) = false := by simpa using hm1
        have hm2 : ¬ most < -((n + 1) / 2) := by omega
        have d2 : decide (most < -((n + 1) / 2)) = false := by simpa using hm2
        go_wp2
        go_ret
        rw [E2.out, HU.out, if_neg (by omega)]
        exact ⟨rfl, ⟨ha2, H1.out⟩, HK.out⟩
end Go.Proofs.YtdcbabgcbkdlhaaDoor
set_option maxRecDepth 100000
namespace Go.Proofs.YtdcbabgcbkdlhaaDoor
open Go.RowKit

theorem fixedBits_byte (x : Fin 256) : fixedBits (x.val : Int) 8 = (List.range 8).map fun j => x.val.testBit (7 - j) := by
  revert x; decide +kernel

theorem bitsOf_take (l : List Nat) (i : Nat) (h : i < l.length) (hf : Fair l) : (bitsOf l).take (8 * (i + 1)) = (bitsOf l).take (8 * i) ++ fixedBits (l.getD i 0 : Nat) 8 := by
  rw [fixedBits_byte ⟨l.getD i 0, hf.getD i⟩]
  refine List.ext_getElem? fun j => ?_
  by_cases h1 : j < 8 * i
  · rw [List.getElem?_append_left (by simp [bitsOf]; omega)]
    simp [bitsOf, show j < 8 * (i + 1) by omega, h1]
  · rw [List.getElem?_append_right (by simp [bitsOf]; omega)]
    have el : ((bitsOf l).take (8 * i)).length = 8 * i := by simp [bitsOf]; omega
    rw [el]
    by_cases h2 : j < 8 * (i + 1)
    · rw [List.getElem?_take, if_pos h2]
      have h3 : j < 8 * l.length := by omega
      have h4 : j - 8 * i < 8 := by omega
      simp only [bitsOf, List.getElem?_map, List.getElem?_range h3, List.getElem?_range h4, Option.map_some]
      unfold bitAt
      rw [show j / 8 = i by omega, show j % 8 = j - 8 * i by omega]
    · rw [List.getElem?_eq_none (by simp [bitsOf]; omega), List.getElem?_eq_none (by simp; omega)]

set_option maxHeartbeats 1000000 in
theorem ref_bits (v : Value) (l : List Nat) (w : World) (hlen : l.length ≤ 1000) (h : BytesArg w v l) :
    Calls Tryd.prog 15 #[v] w fun e w' => e = .returned (.string (strOf (bitsOf l))) ∧ w = w' := by
  have HF := Lib.hid (h.fair (by omega))
  obtain ⟨a, cap, rfl, -, -, -, -, hc⟩ := h
  have HC := Lib.hid hc; clear hc
  generalize hN : l.length = n at *
  have HN := Lib.hid hN; clear hN
  go_enter Tryd.func15, Tryd.ntmps15
  go_wp2_with (fail)
  go_loopg [3, 4] n (fun gg t s wr => w = wr ∧ ∃ i : Nat, i + gg = n ∧ s = .int .i64 (i : Int) ∧ t = .string (strOf ((bitsOf l).take (8 * i))))
  case atStart => exact ⟨rfl, 0, by omega, rfl, by simp [strOf]⟩
  case round =>
    obtain ⟨rfl, i, hi, rfl, rfl⟩ := hrel
    have HI := Lib.hid hi
    by_cases hlt : i < n
    · obtain ⟨b, off, rfl, hb, hcell⟩ := HC.out (by omega)
      have hcx := hcell i hlt
      have hx256 := HF.out.getD i
      have hst := bitsOf_take l i (by rw [HN.out]; exact hlt) HF.out
      have HST := Lib.hid hst
      have hsz : (strOf ((bitsOf l).take (8 * i))).size ≤ 8000 := by rw [strOf_size, List.length_take, bitsOf_length]; omega
      clear hcell hst hi
      generalize l.getD i 0 = y at *
      go_wp2_with (fail)
      refine (ref_fixed_int _ 8 _ (by omega) (by omega)).mono ?_
      rintro e w' ⟨rfl, rfl⟩
      have h1 : (strOf (fixedBits (y : Int) (8 : Int).toNat)).size ≤ 40 := by rw [strOf_size, fixedBits_length]; decide
      generalize hX : strOf (fixedBits (y : Int) (8 : Int).toNat) = X at *
      have HX := Lib.hid hX; clear hX
      go_wp2
      go_roundg (gk - 1)
      case measure => have := HI.out; omega
      case rel => exact ⟨rfl, i + 1, by have := HI.out; omega, by go_num, by rw [HST.out, ← strOf_append, ← HX.out]; rfl⟩
    · have ei : i = n := by omega
      clear HI hi
      subst ei
      go_wp2
      go_ret
      refine ⟨?_, rfl⟩
      rw [List.take_of_length_le (by rw [bitsOf_length, HN.out]; exact Nat.le_refl _)]; rfl
end Go.Proofs.YtdcbabgcbkdlhaaDoor
set_option maxRecDepth 100000
namespace Go.Proofs.YtdcbabgcbkdlhaaDoor
open Go.RowKit

/-- Bytes that can be read. -/
def Byt (w : World) (T : Nat → Prop) (v : Value) (l : List Nat) : Prop := BytesArg w v l ∧ Live w T ∧ (0 < l.length → ∀ a n c, v = .slice (some a) n c → T a.block)
theorem Byt.live {w : World} {T : Nat → Prop} {v : Value} {l : List Nat} (h : Byt w T v l) : Live w T := h.2.1
theorem Byt.all {S : Nat → Prop} {w w' : World} {T : Nat → Prop} {v : Value} {l : List Nat} (h : Byt w T v l) (k : Kept S w w') (ha : Apart T S) : Byt w' T v l := by
  refine ⟨?_, h.2.1.mono k, h.2.2⟩
  obtain ⟨⟨a, cap, rfl, h1, h2, h3, hl, hc⟩, hL, hT⟩ := h
  refine ⟨a, cap, rfl, h1, h2, h3, hl, fun hpos => ?_⟩
  obtain ⟨b, off, rfl, hb, hcell⟩ := hc hpos
  exact ⟨b, off, rfl, Nat.lt_of_lt_of_le hb k.size, fun i hi => (World.cell?_of_block (k.block b hb (ha b (hT hpos _ _ _ rfl)))).trans (hcell i hi)⟩
/-- The block of bytes. -/
def bytB (v : Value) (l : List Nat) : Nat → Prop := fun i => 0 < l.length ∧ ∃ a n c, v = .slice (some a) n c ∧ i = a.block
theorem Byt.arg {w : World} {v : Value} {l : List Nat} (h : BytesArg w v l) : Byt w (bytB v l) v l := by
  refine ⟨h, fun i hi => ?_, fun hp a n c e => ⟨hp, a, n, c, e, rfl⟩⟩
  obtain ⟨hp, a, n, c, rfl, rfl⟩ := hi
  obtain ⟨a', cap, e, h1, h2, h3, hl, hc⟩ := h
  obtain ⟨b, off, rfl, hb, _⟩ := hc hp
  cases e; exact hb
theorem Byt.new {w : World} {g : Nat} {l : List Nat} (h : w.heap[g]? = some (.cells (byteVals l).toArray 5 (0, 0))) (hm : l.length ≤ maxLen) (h256 : ∀ x ∈ l, x < 256) : Byt w (onB g) (.slice (some ⟨g, 0, none⟩) l.length l.length) l := by
  refine ⟨(Row.of_new (B := 0) h (Nat.zero_le _) hm h256).bytes, onB_live (lt_of_heap h), fun _ a n c e => ?_⟩
  cases e; rfl
theorem Byt.nil (w : World) : Byt w noB (.slice none 0 0) [] := ⟨BytesArg.nil w, fun _ h => h.elim, fun h => absurd h (Nat.lt_irrefl 0)⟩

/-- A writer. -/
def Wri (w : World) (T : Nat → Prop) (p : Nat) (bs : List Bool) : Prop := ∃ r, T = WrFoot p r ∧ WrIs w p r bs
theorem Wri.live {w : World} {T : Nat → Prop} {p : Nat} {bs : List Bool} (h : Wri w T p bs) : Live w T := by
  obtain ⟨r, rfl, h⟩ := h; exact fun i hi => h.foot_lt hi
theorem Wri.all {S : Nat → Prop} {w w' : World} {T : Nat → Prop} {p : Nat} {bs : List Bool} (h : Wri w T p bs) (k : Kept S w w') (ha : Apart T S) : Wri w' T p bs := by
  obtain ⟨r, rfl, h⟩ := h; exact ⟨r, rfl, h.kept k ha⟩
theorem Wri.cast {w : World} {T : Nat → Prop} {p : Nat} {bs cs : List Bool} (h : Wri w T p bs) (e : bs = cs) : Wri w T p cs := e ▸ h
theorem wrote_thing {w w' : World} {p : Nat} {r : Option Nat} {bs : List Bool} (h : Wrote w w' p r bs) : ∃ T', Kept (WrFoot p r) w w' ∧ Wri w' T' p bs ∧ Grew w (WrFoot p r) T' := by
  obtain ⟨r', h1, h2, h3⟩ := h
  refine ⟨WrFoot p r', h3, ⟨r', rfl, h1⟩, fun i hi => ?_⟩
  rcases hi with rfl | hi
  · exact .inl (.inl rfl)
  · rcases h2 with rfl | ⟨g, rfl, hg⟩
    · exact .inl (.inr hi)
    · cases hi; exact .inr hg

/-- A reader. -/
def Rdi (w : World) (T : Nat → Prop) (p : Nat) (l : List Nat) (st : Option Nat) : Prop := Fair l ∧ ∃ g, T = (fun i => i = p ∨ i = g) ∧ RdIs w p g l st
theorem Rdi.live {w : World} {T : Nat → Prop} {p : Nat} {l : List Nat} {st : Option Nat} (h : Rdi w T p l st) : Live w T := by
  obtain ⟨_, g, rfl, h⟩ := h
  have := h.lt
  intro i hi
  rcases hi with rfl | rfl
  · exact this.1
  · exact this.2.1
theorem Rdi.all {S : Nat → Prop} {w w' : World} {T : Nat → Prop} {p : Nat} {l : List Nat} {st : Option Nat} (h : Rdi w T p l st) (k : Kept S w w') (ha : Apart T S) : Rdi w' T p l st := by
  obtain ⟨hf, g, rfl, h⟩ := h; exact ⟨hf, g, rfl, h.kept k (ha p (.inl rfl)) (ha g (.inr rfl))⟩

/-- The document's reader. -/
def Rfi (w : World) (T : Nat → Prop) (p : Nat) (l : List Nat) (st : Option Nat) : Prop := Fair l ∧ l.length ≤ 1000 ∧ T = onB p ∧ RfIs w p l st
theorem Rfi.live {w : World} {T : Nat → Prop} {p : Nat} {l : List Nat} {st : Option Nat} (h : Rfi w T p l st) : Live w T := by
  obtain ⟨_, _, rfl, h⟩ := h
  cases st with
  | none => obtain ⟨a, _, h⟩ := h; exact onB_live (lt_of_heap h)
  | some a => exact onB_live (lt_of_heap h.2)
theorem Rfi.all {S : Nat → Prop} {w w' : World} {T : Nat → Prop} {p : Nat} {l : List Nat} {st : Option Nat} (h : Rfi w T p l st) (k : Kept S w w') (ha : Apart T S) : Rfi w' T p l st := by
  obtain ⟨hf, h1, rfl, h⟩ := h
  refine ⟨hf, h1, rfl, ?_⟩
  cases st with
  | none => obtain ⟨a, h0, h⟩ := h; exact ⟨a, h0, h.kept k (ha p rfl)⟩
  | some a => exact ⟨h.1, h.2.kept k (ha p rfl)⟩

theorem t_whole (p : Nat) (bs : List Bool) (n : Int) (T_w : Nat → Prop) (w0 : World) (hm : bs.length + 64 < 1099511627776) (h_w : Wri w0 T_w p bs) :
    Calls Tryd.prog 34 #[.pointer (some ⟨p, 0, none⟩), .int .i64 n] w0 fun e w' => ∃ (T_w' : Nat → Prop), e = .returned (.tuple #[]) ∧ Kept T_w w0 w' ∧ (Wri w' T_w' p (bs ++ wholeBits n) ∧ Grew w0 T_w T_w') := by
  obtain ⟨r, rfl, h⟩ := h_w
  exact (whole_any p r bs n w0 hm h).mono fun _ _ ⟨e, hw⟩ => by obtain ⟨T', k, x, g⟩ := wrote_thing hw; exact ⟨T', e, k, x, g⟩

theorem t_signed (p : Nat) (bs : List Bool) (n : Int) (T_w : Nat → Prop) (w0 : World) (hm : bs.length + 64 < 1099511627776) (h_w : Wri w0 T_w p bs) :
    Calls Tryd.prog 75 #[.pointer (some ⟨p, 0, none⟩), .int .i64 n] w0 fun e w' => ∃ (T_w' : Nat → Prop), e = .returned (.tuple #[]) ∧ Kept T_w w0 w' ∧ (Wri w' T_w' p (bs ++ signedBits n) ∧ Grew w0 T_w T_w') := by
  obtain ⟨r, rfl, h⟩ := h_w
  exact (signed_any p r bs n w0 hm h).mono fun _ _ ⟨e, hw⟩ => by obtain ⟨T', k, x, g⟩ := wrote_thing hw; exact ⟨T', e, k, x, g⟩

theorem t_many (p : Nat) (bs : List Bool) (T_w : Nat → Prop) (w0 : World) (h_w : Wri w0 T_w p bs) :
    Calls Tryd.prog 19 #[.pointer (some ⟨p, 0, none⟩)] w0 fun e w' => e = .returned (.int .i64 ((bs.length : Nat) : Int)) ∧ Kept (fun _ => False) w0 w' := by
  obtain ⟨r, rfl, h⟩ := h_w
  exact (many_any p r bs w0 h).mono fun _ _ ⟨e, hw⟩ => by subst hw; exact ⟨e, Kept.refl _ _⟩

theorem t_bytes (p : Nat) (bs : List Bool) (T_w : Nat → Prop) (w0 : World) (hm : bs.length < 1099511627776) (h_w : Wri w0 T_w p bs) :
    Calls Tryd.prog 20 #[.pointer (some ⟨p, 0, none⟩)] w0 fun e w' => ∃ (v1 : Value) (T1 : Nat → Prop), e = .returned v1 ∧ Kept (fun _ => False) w0 w' ∧ (Byt w' T1 v1 (pack bs) ∧ Grew w0 noB T1) := by
  obtain ⟨r, rfl, h⟩ := h_w
  refine (bytes_any p r bs w0 hm h).mono fun _ _ hn => ?_
  obtain ⟨g, e, hg, hh, k⟩ := hn
  exact ⟨_, onB g, e, k, Byt.new hh (by rw [pack_length]; unfold nbytes; have hM : 1099511627776 ≤ maxLen := (by decide); omega) (pack_bytes bs), onB_new hg⟩

theorem t_new (v : Value) (l : List Nat) (T_b : Nat → Prop) (w0 : World) (hm : l.length < 1099511627776) (h_b : Byt w0 T_b v l) :
    Calls Tryd.prog 13 #[v] w0 fun e w' => ∃ (v1 : Nat) (T1 : Nat → Prop), e = .returned (.pointer (some ⟨v1, 0, none⟩)) ∧ Kept (fun _ => False) w0 w' ∧ (Rdi w' T1 v1 l (some 0) ∧ Grew w0 noB T1) := by
  refine (new_any v l w0 hm h_b.1.slice).mono fun _ _ ⟨p, g, e, hr, h1, h2, k⟩ => ?_
  exact ⟨p, _, e, k, ⟨h_b.1.fair hm, g, rfl, hr⟩, fun i hi => .inr (by rcases hi with rfl | rfl <;> assumption)⟩

theorem rf_thing {w w' : World} {p : Nat} {l : List Nat} {r : Int × Option Nat} {e : Ending} (hf : Fair l) (hl : l.length ≤ 1000) (h : RfDone w p l r e w') :
    ∃ (T_r' : Nat → Prop), e = .returned (.int .i64 r.1) ∧ Kept (onB p) w w' ∧ (Rfi w' T_r' p l r.2 ∧ Grew w (onB p) T_r') := by
  obtain ⟨h1, h2, h3⟩ := h
  exact ⟨_, h1, h3, ⟨hf, hl, rfl, h2⟩, Grew.refl _ _⟩
theorem t_fwhole (p : Nat) (l : List Nat) (st : Option Nat) (m : Int) (T_r : Nat → Prop) (w0 : World) (h_r : Rfi w0 T_r p l st) :
    Calls Tryd.prog 45 #[.pointer (some ⟨p, 0, none⟩), .int .i64 m] w0 fun e w' => ∃ (T_r' : Nat → Prop), e = .returned (.int .i64 (rdStep (wholeRd l m) st).1) ∧ Kept T_r w0 w' ∧ (Rfi w' T_r' p l (rdStep (wholeRd l m) st).2 ∧ Grew w0 T_r T_r') := by
  obtain ⟨hf, hl, rfl, h⟩ := h_r
  exact (rf_whole p l st m w0 hl h).mono fun _ _ hd => rf_thing hf hl hd
theorem t_fsigned (p : Nat) (l : List Nat) (st : Option Nat) (m : Int) (T_r : Nat → Prop) (w0 : World) (h_r : Rfi w0 T_r p l st) :
    Calls Tryd.prog 88 #[.pointer (some ⟨p, 0, none⟩), .int .i64 m] w0 fun e w' => ∃ (T_r' : Nat → Prop), e = .returned (.int .i64 (rdStep (signedRd l m) st).1) ∧ Kept T_r w0 w' ∧ (Rfi w' T_r' p l (rdStep (signedRd l m) st).2 ∧ Grew w0 T_r T_r') := by
  obtain ⟨hf, hl, rfl, h⟩ := h_r
  exact (rf_signed p l st m w0 hl h).mono fun _ _ hd => rf_thing hf hl hd
theorem t_refwhole (n : Int) (w0 : World) : Calls Tryd.prog 37 #[.int .i64 n] w0 fun e w' => e = .returned (.string (strOf (wholeBits n))) ∧ Kept (fun _ => False) w0 w' :=
  (ref_whole n w0).mono fun _ _ ⟨e, hw⟩ => by subst hw; exact ⟨e, Kept.refl _ _⟩
theorem t_refsigned (n : Int) (w0 : World) : Calls Tryd.prog 78 #[.int .i64 n] w0 fun e w' => e = .returned (.string (strOf (signedBits n))) ∧ Kept (fun _ => False) w0 w' :=
  (ref_signed n w0).mono fun _ _ ⟨e, hw⟩ => by subst hw; exact ⟨e, Kept.refl _ _⟩
theorem t_refbytes (bs : List Bool) (w0 : World) (hm : bs.length < 1000000) : Calls Tryd.prog 21 #[.string (strOf bs)] w0 fun e w' => ∃ (v1 : Value) (T1 : Nat → Prop), e = .returned v1 ∧ Kept (fun _ => False) w0 w' ∧ (Byt w' T1 v1 (pack bs) ∧ Grew w0 noB T1) := by
  refine (ref_bytes bs w0 hm).mono fun _ w' ⟨v, e, ho, hf, k⟩ => ?_
  have hR : Row w' 0 v (pack bs) := ⟨ho, pack_bytes bs⟩
  refine ⟨v, fun i => v.ownBlock = some i, e, k, ⟨hR.bytes, fun i hi => (hR.lt i hi).2, fun hp a n c e => ?_⟩, fun i hi => ?_⟩
  · subst e; rfl
  · rcases hf with h | ⟨g, h, hg⟩
    · rw [h] at hi; cases hi
    · rw [h] at hi; cases hi; exact .inr hg
theorem t_refbits (v : Value) (l : List Nat) (T_b : Nat → Prop) (w0 : World) (hm : l.length ≤ 1000) (h_b : Byt w0 T_b v l) :
    Calls Tryd.prog 15 #[v] w0 fun e w' => e = .returned (.string (strOf (bitsOf l))) ∧ Kept (fun _ => False) w0 w' :=
  (ref_bits v l w0 hm h_b.1).mono fun _ _ ⟨e, hw⟩ => by subst hw; exact ⟨e, Kept.refl _ _⟩
end Go.Proofs.YtdcbabgcbkdlhaaDoor
set_option maxRecDepth 100000
namespace Go.Proofs.YtdcbabgcbkdlhaaDoor
open Go.RowKit

theorem Kept.fin {w w' : World} (h : Kept (fun _ => False) w w') : Below w.heap.size w w' := h.below (Nat.le_refl _) (fun _ _ x => x)

theorem BytesArg.cells {w : World} {a : Option Addr} {n cap : Nat} {l : List Nat} (h : BytesArg w (.slice a n cap) l) :
    0 < n → ∃ b off, a = some ⟨b, off, none⟩ ∧ b < w.heap.size ∧ ∀ i, i < n → w.cell? ⟨b, off + i, none⟩ = some (.int .u8 (l.getD i 0 : Nat)) := by
  obtain ⟨a2, cap2, e, _, _, _, _, hc⟩ := h
  cases e; exact hc

theorem BytesArg.cut {w : World} {a : Option Addr} {len cap : Nat} {l : List Nat} (h : BytesArg w (.slice a len cap) l) (i j cap' : Nat) (hi : i ≤ j) (hj : j ≤ l.length) (hc : j - i ≤ cap') (hm : cap' ≤ maxLen) (a' : Option Addr)
    (ha : 0 < j - i → a' = a.map (·.add i)) (h0 : a' = none → cap' = 0) : BytesArg w (.slice a' (j - i) cap') ((l.drop i).take (j - i)) := by
  obtain ⟨a2, cap2, e, h1, h2, h3, h256, hcell⟩ := h
  cases e
  have hl : ((l.drop i).take (j - i)).length = j - i := by simp; omega
  refine ⟨a', cap', by rw [hl], by rw [hl]; exact hc, hm, h0, fun x hx => h256 x (List.mem_of_mem_drop (List.mem_of_mem_take hx)), fun hpos => ?_⟩
  rw [hl] at hpos
  obtain ⟨b, off, rfl, hb, hx⟩ := hcell (by omega)
  refine ⟨b, off + i, by rw [ha hpos]; simp [Addr.add_lit], hb, fun t ht => ?_⟩
  rw [hl] at ht
  have e1 := hx (i + t) (by omega)
  rw [Nat.add_assoc, e1]
  have ht2 : t < j - i := ht
  simp [List.getD, ht2]

theorem Row.head {w : World} {B n c : Nat} {a : Option Addr} {l : List Nat} (h : Row w B (.slice a n c) l) (hp : 0 < n) :
    ∃ g cur, a = some ⟨g, 0, none⟩ ∧ B ≤ g ∧ w.heap[g]? = some (.cells cur 5 (0, 0)) ∧ ∀ i, i < n → w.cell? ⟨g, i, none⟩ = some (.int .u8 (l.getD i 0 : Nat)) := by
  obtain ⟨b, off, e3, hb, hc⟩ := h.bytes.cells hp
  rcases h.1.2 with ⟨e4, _⟩ | ⟨g, cap4, cur, e4, hg, hh, _⟩
  · cases e4; cases e3
  · cases e4
    cases e3
    exact ⟨b, cur, rfl, hg, hh, fun i hi => by have := hc i hi; rwa [Nat.zero_add] at this⟩

end Go.Proofs.YtdcbabgcbkdlhaaDoor
set_option maxRecDepth 100000
namespace Go.Proofs.YtdcbabgcbkdlhaaDoor
open Go.RowKit

theorem y_text {ρ : Operand → Value} {o : Oper} {w : World} {R : Value → World → Prop} {x : Operand} {l : List Nat} (ho : o.op = .convert 28 9 x) (hx : BytesArg w (ρ x) l) (h : R (.string (textOf l)) w) : Yields Tryd.prog ρ o w R :=
  y_val (by simp [execOp, ho, hx.text]) h

theorem BytesArg.new (w : World) (l : List Nat) (hl : l.length ≤ maxLen) (h : ∀ x ∈ l, x < 256) : BytesArg (w.alloc (.cells (byteVals l).toArray 5)) (.slice (some ⟨w.heap.size, 0, none⟩) l.length l.length) l :=
  (Row.of_new (B := 0) (heap_alloc_new w _) (Nat.zero_le _) hl h).bytes

theorem y_len {ρ : Operand → Value} {o : Oper} {w : World} {R : Value → World → Prop} {c : Call} {x : Operand} {t e : TypeId} {a : Option Addr} {n cap : Nat} (ho : o.op = .call c) (hc : c.callee = .builtin .len) (hx : c.args = #[x]) (ht : c.argTypes = #[t]) (hu : Tryd.prog.underlying t = some (.slice e))
    (h1 : ρ x = .slice a n cap) (h : R (.int .i64 (n : Int)) w) : Yields Tryd.prog ρ o w R := by
  obtain ⟨cl, xs, ts⟩ := c
  simp only at hc hx ht
  subst hc; subst hx; subst ht
  exact y_val (v := .int .i64 (n : Int)) (w' := w) (by simp [execOp, ho, h1, resolve, invoke, builtin, run_underlying hu, Builtin.len_]; rfl) h

def Pd.bytes (l : List Nat) : Pd := ⟨fun v w => BytesArg w v l, fun _ _ _ h k => h.all k⟩

end Go.Proofs.YtdcbabgcbkdlhaaDoor
set_option maxRecDepth 100000
namespace Go.Proofs.YtdcbabgcbkdlhaaDoor
open Go.RowKit

/-- One cell. -/
def Cel (w : World) (p : Nat) (t : TypeId) (v : Value) : Prop := w.heap[p]? = some (.cells #[v] t (0, 0))
theorem Cel.all {S : Nat → Prop} {w w' : World} {p : Nat} {t : TypeId} {v : Value} (h : Cel w p t v) (k : Kept S w w') (hn : ¬ S p) : Cel w' p t v := k.at h hn
theorem Cel.lt {w : World} {p : Nat} {t : TypeId} {v : Value} (h : Cel w p t v) : p < w.heap.size := lt_of_heap h
theorem Cel.cell {w : World} {p : Nat} {t : TypeId} {v : Value} (h : Cel w p t v) : w.cell? ⟨p, 0, none⟩ = some v := by rw [cell_of_heap h]; rfl

def oneC : Value → Bool
  | .int _ _ | .bool _ | .pointer _ | .slice _ _ _ | .string _ => true
  | _ => false

def plainD : TypeDesc → Bool
  | .struct _ | .array _ _ => false
  | _ => true

section
variable {ro : Option Nat} {P : Program} {ρ : Operand → Value} {o : Oper} {w : World} {R : Value → World → Prop}
theorem y_ldA {ty : TypeId} {x : Operand} {a : Addr} {v : Value} {d : TypeDesc} (ho : o.op = .load ty x) (hx : ρ x = .pointer (some a)) (hu : P.underlying ty = some d) (hd : plainD d = true) (hc : w.cell? a = some v) (h : R v w) : Yields P ρ o w R := by
  have hA : (isAgg ty).run P w = .ok false w := by
    cases d <;> first | (simp [plainD] at hd; done) | simp [isAgg, run_underlying hu]
  exact y_val (v := v) (w' := w) (by simp [execOp, ho, hx, Instr.loadAt, Instr.sureAddr, loadVar, hA, hc]) h
theorem y_load_cel {ty t : TypeId} {x : Operand} {p : Nat} {v : Value} {d : TypeDesc} (ho : o.op = .load ty x) (hx : ρ x = .pointer (some ⟨p, 0, none⟩)) (hu : P.underlying ty = some d) (hB : Cel w p t v) (hd : plainD d = true := by rfl) (h : R v w) : Yields P ρ o w R := y_ldA ho hx hu hd hB.cell h
theorem y_nilc {x : Operand} {a : Addr} (ho : o.op = .nilCheck x) (hx : ρ x = .pointer (some a)) (h : R (.pointer (some a)) w) : Yields P ρ o w R :=
  y_val (by simp [execOp, ho, hx]) h
theorem y_fieldR {s : TypeId} {x : Operand} {fs : Array Field} {i b off off' n : Nat} {f : Field} (ho : o.op = .fieldAddr s x i) (hx : ρ x = .pointer (some ⟨b, off, none⟩)) (hu : P.underlying s = some (.struct fs)) (hf : fs[i]? = some f) (hs : (P.info? f.type).map (·.size) = some n) (hn : n ≠ 0) (hoff : off + f.offset = off')
    (h : R (.pointer (some ⟨b, off', none⟩)) w) : Yields P ρ o w R := by
  cases hq : P.info? f.type with
  | none => simp [hq] at hs
  | some j =>
    have hs' : j.size = n := by simpa [hq] using hs
    exact y_val (v := .pointer (some ⟨b, off', none⟩)) (w' := w) (by simp [execOp, ho, hx, Instr.fieldAt, run_underlying hu, hf, Instr.sureAddr, fieldPlace, sizeOf, typeInfo, hq, hs', hn, Addr.add_lit, hoff]) h
theorem y_catR {t t' : TypeId} {x y : Operand} {m n r : ByteArray} (ho : o.op = .binOp .add t x y t') (hx : ρ x = .string m) (hy : ρ y = .string n) (hz : m.size + n.size ≤ 9223372036854775807) (hr : m ++ n = r) (h : R (.string r) w) : Yields P ρ o w R :=
  y_val (v := .string (m ++ n)) (w' := w) (by simp [execOp, ho, hx, hy, go_sem, Nat.not_lt.2 hz]) (by rw [hr]; exact h)
theorem y_eqlS {t t' : TypeId} {x y : Operand} {m n : ByteArray} {b : Bool} (ho : o.op = .binOp .eql t x y t') (hx : ρ x = .string m) (hy : ρ y = .string n) (hr : (m.toList == n.toList) = b) (h : R (.bool b) w) : Yields P ρ o w R :=
  y_eql_text ho hx hy (by rw [hr]; exact h)
end

section
variable {ρ : Operand → Value} {o : Oper} {w : World} {R : Value → World → Prop}
theorem y_lenT {c : Call} {x : Operand} {l : List Bool} (ho : o.op = .call c) (hc : c = { callee := .builtin .len, args := #[x], argTypes := #[9] }) (hx : ρ x = .string (strOf l)) (h : R (.int .i64 ((l.length : Nat) : Int)) w) : Yields Tryd.prog ρ o w R := by
  subst hc
  refine y_val (v := .int .i64 ((l.length : Nat) : Int)) (w' := w) ?_ h
  rw [← strOf_size l]
  simp [execOp, ho, hx, resolve, invoke, builtin, run_underlying Tryd.underlying9, Builtin.len_]
  rfl
theorem y_lenV {c : Call} {x : Operand} {T : Nat → Prop} {v : Value} {l : List Nat} (ho : o.op = .call c) (hc : c = { callee := .builtin .len, args := #[x], argTypes := #[28] }) (hx : ρ x = v) (hb : Byt w T v l) (h : R (.int .i64 ((l.length : Nat) : Int)) w) : Yields Tryd.prog ρ o w R := by
  subst hc
  obtain ⟨⟨a, cap, rfl, _⟩, _⟩ := hb
  exact y_len ho rfl rfl rfl Tryd.underlying28 hx h
theorem y_rf_lost {x : Operand} {T : Nat → Prop} {p : Nat} {l : List Nat} {st : Option Nat} (ho : o.op = .load 4 x) (hx : ρ x = .pointer (some ⟨p, 2, none⟩)) (hb : Rfi w T p l st) {c : Bool} (hr : st.isNone = c) (h : R (.bool c) w) : Yields Tryd.prog ρ o w R := by
  subst hr
  obtain ⟨_, _, _, hb⟩ := hb
  cases st with
  | none => obtain ⟨a, _, hb⟩ := hb; exact y_ldA ho hx Tryd.underlying4 rfl hb.facts.2.2.1 h
  | some a => exact y_ldA ho hx Tryd.underlying4 rfl hb.2.facts.2.2.1 h
end

section
variable {ro : Option Nat} {N : Nat} {Q : (Exit → (Nat → Value) → World → Prop)} {F : Nat → Value} {w : World} {o : Oper} {P : Program}
theorem wl_box_cel {ops : Array Oper} {rest : List Oper} {t : TypeId} {x : Operand} {v : Value} (hg : o.guard = none) (hd : fits N o.dst = true) (ho : o.op = .box t x) (hx : ev (cutF N F) x = v) (hv : oneC v = true)
    (h : ∀ p w', Cel w' p t v → Grew w noB (onB p) → Kept (fun _ => False) w w' → wl ro P N ops Q rest (putF F o.dst (.pointer (some ⟨p, 0, none⟩))) w') : wl ro P N ops Q (o :: rest) F w :=
  wl_op hg hd (y_of (v := .pointer (some ⟨w.heap.size, 0, none⟩)) (w' := w.alloc (.cells #[v] t)) (by simp [execOp, ho, hx, go_sem]; cases v <;> first | rfl | (simp [oneC] at hv; done)) (h _ _ (heap_alloc_new w _) (onB_new (Nat.le_refl _)) ((Kept.refl _ _).alloc _)))
theorem wl_alloc_cel {ops : Array Oper} {rest : List Oper} {t : TypeId} {v : Value} (hg : o.guard = none) (hd : fits N o.dst = true) (ho : o.op = .alloc t) (hi : (P.info? t).map (fun i => (i.zero, i.size)) = some (some v, 1)) (hv : oneC v = true)
    (h : ∀ p w', Cel w' p t v → Grew w noB (onB p) → Kept (fun _ => False) w w' → wl ro P N ops Q rest (putF F o.dst (.pointer (some ⟨p, 0, none⟩))) w') : wl ro P N ops Q (o :: rest) F w :=
  wl_op hg hd (y_of (v := .pointer (some ⟨w.heap.size, 0, none⟩)) (w' := w.alloc (.cells #[v] t)) (by simp [execOp, ho, (zero_of_info hi).1, go_sem]; cases v <;> first | rfl | (simp [oneC] at hv; done)) (h _ _ (heap_alloc_new w _) (onB_new (Nat.le_refl _)) ((Kept.refl _ _).alloc _)))
theorem wl_store_cel {ops : Array Oper} {rest : List Oper} {ty t : TypeId} {x y : Operand} {p : Nat} {v v' : Value} (hg : o.guard = none) (hdn : o.dst = none) (ho : o.op = .store ty x y) (hx : ev (cutF N F) x = .pointer (some ⟨p, 0, none⟩)) (hy : ev (cutF N F) y = v') (hB : Cel w p t v) (hv : oneC v' = true)
    (hs : (P.info? ty).map (·.size) = some 1)
    (h : ∀ w', Cel w' p t v' → Kept (fun k => k = p) w w' → wl ro P N ops Q rest F w') : wl ro P N ops Q (o :: rest) F w := by
  have hc := hB.cell
  have hf : w.frozen? ⟨p, 0, none⟩ = false := frozen_of_heap hB
  cases hq : P.info? ty with
  | none => simp [hq] at hs
  | some i =>
    have hs' : i.size = 1 := by simpa [hq] using hs
    refine wl_op hg (by rw [hdn]; rfl) ?_
    have e : (execOp (ev (cutF N F)) o).run P w = .ok .skip (w.setCell ⟨p, 0, none⟩ v') ∨ (execOp (ev (cutF N F)) o).run P w = .ok (.value undef) (w.setCell ⟨p, 0, none⟩ v') := by
      cases v' <;> first | (simp [oneC] at hv; done) | simp [execOp, ho, hx, hy, Instr.storeAt, Instr.sureAddr, storeVar, sizeOf, typeInfo, hq, hs', Value.cells, hc, hf, go_sem]
    have hn : Cel (w.setCell ⟨p, 0, none⟩ v') p t v' := by unfold Cel; rw [heap_setCell_same _ _ _ _ hB]; rfl
    unfold Yields
    rw [hdn]
    rcases e with e | e <;> rw [e] <;> exact h _ hn ((Kept.refl (fun k => k = p) w).setCell ⟨p, 0, none⟩ (fun _ => rfl) _)
theorem wl_box_wri {ops : Array Oper} {rest : List Oper} {x : Operand} (hg : o.guard = none) (hd : fits N o.dst = true) (ho : o.op = .box 32 x) (hx : ev (cutF N F) x = .agg #[.slice none 0 0, .int .i64 0])
    (h : ∀ p w' T, Wri w' T p [] → Grew w noB T → Kept (fun _ => False) w w' → wl ro P N ops Q rest (putF F o.dst (.pointer (some ⟨p, 0, none⟩))) w') : wl ro P N ops Q (o :: rest) F w :=
  wl_op hg hd (y_of (v := .pointer (some ⟨w.heap.size, 0, none⟩)) (w' := w.alloc (.cells #[.slice none 0 0, .int .i64 0] 32)) (by simp [execOp, ho, hx, go_sem])
    (h _ _ _ ⟨none, rfl, WrIs.new w⟩ (fun i hi => .inr (by rcases hi with rfl | hi; exact Nat.le_refl _; cases hi)) ((Kept.refl _ _).alloc _)))
end
end Go.Proofs.YtdcbabgcbkdlhaaDoor
set_option maxRecDepth 100000
namespace Go.Proofs.YtdcbabgcbkdlhaaDoor
open Go.RowKit

set_option maxHeartbeats 4000000 in
set_option maxRecDepth 100000 in
theorem sref_order (w0 : World) :
  Calls Tryd.prog 80 #[] w0 fun e w' => e = .returned (blkV (ordB)) ∧ Kept (fun _ => False) w0 w' := by
 refine calls_wq (args := []) 2 Tryd.func80 rfl rfl (Nat.le_of_ble_eq_true rfl) ?_
 have K0 := Kept.refl (fun _ => False) w0
 refine wq_seq ?_
 refine wq_region ?_
 refine wl_alloc_blk rfl rfl rfl blkT_arr.2.2 fun p1 w2 e5 B3 k4 => ?_
 have g6 := onB_new (Nat.le_of_eq e5.symm)
 have gr7 : Grew w0 noB (onB p1) := Grew.new K0 g6
 clear e5 g6
 have K8 := K0.trans k4 (fun _ _ x => x.elim)
 refine wl_nil fun F9 hF10 => ?_
 have s11 : F9 2 = undef := (hF10 2).trans rfl
 have s12 : F9 0 = .pointer (some ⟨p1, 0, none⟩) := (hF10 0).trans rfl
 clear hF10
 refine then_normal ?_
 refine wq_seq ?_
 refine wq_region ?_
 refine wl_v (blkV (blL [0, 1, 4, 8, 5, 2, 3, 6, 9, 12, 13, 10, 7, 11, 14, 15])) rfl rfl (y_buildR (cells := (arrL 16 (blL [0, 1, 4, 8, 5, 2, 3, 6, 9, 12, 13, 10, 7, 11, 14, 15])).toArray) rfl (by kernel_rfl) rfl ⟨rfl, rfl⟩) ?_
 refine wl_store_blk blkT_arr rfl rfl rfl s12 rfl B3 fun w13 B14 k15 => ?_
 have K16 := K8.trans k15 (Grew.ok (S := fun _ => False) gr7 noB_le)
 refine wl_nil fun F17 hF18 => ?_
 have s19 := (hF18 2).trans s11
 have s20 := (hF18 0).trans s12
 clear hF18
 refine then_normal ?_
 refine wq_ret ?_
 exact end_blk blkT_arr s19 rfl rfl s20 B14 ⟨(congrArg Ending.returned (blkV_congr (by decide))), K16⟩

set_option maxHeartbeats 4000000 in
set_option maxRecDepth 100000 in
theorem sref_write (b : Nat → Int) (w0 : World) :
  Calls Tryd.prog 39 #[blkV (b)] w0 fun e w' => e = .returned (.string (strOf (scanBits b))) ∧ Kept (fun _ => False) w0 w' := by
 refine calls_wq (args := [blkV (b)]) 38 Tryd.func39 rfl rfl (Nat.le_of_ble_eq_true rfl) ?_
 have K0 := Kept.refl (fun _ => False) w0
 refine wq_seq ?_
 refine wq_region ?_
 refine wl_box_blk rfl rfl rfl rfl fun p1 w2 e5 B3 k4 => ?_
 have g6 := onB_new (Nat.le_of_eq e5.symm)
 clear e5 g6
 have K8 := K0.trans k4 (fun _ _ x => x.elim)
 refine wl_v (.string (strOf ([]))) rfl rfl (y_asg rfl rfl ⟨rfl, rfl⟩) ?_
 refine wl_nil fun F9 hF10 => ?_
 have s11 : F9 38 = undef := (hF10 38).trans rfl
 have s12 : F9 1 = .pointer (some ⟨p1, 0, none⟩) := (hF10 1).trans rfl
 clear hF10
 refine then_normal ?_
 refine wq_seq ?_
 refine wq_region ?_
 refine wl_call (R := fun v_ w_ => v_ = blkV (ordB) ∧ Kept (fun _ => False) w2 w_) rfl rfl (y_cs rfl rfl rfl (fun _ _ => by kernel_rfl) (ev_func _) vsN (sref_order   _   ) (fun e_ w_ h_ => ⟨_, h_.1, rfl, h_.2⟩)) ?_
 rintro _ w13 ⟨rfl, k14⟩
 have B15 := B3.all k14 id
 have K16 := K8.trans k14 (fun _ _ x => x.elim)
 refine wl_alloc_blk rfl rfl rfl blkT_arr.2.2 fun p17 w18 e21 B19 k20 => ?_
 have g22 := onB_new (Nat.le_of_eq e21.symm)
 have gr23 : Grew w0 noB (onB p17) := Grew.new K16 g22
 have ap24 : Apart (onB p17) (onB p1) := Apart.new g22 (onB_live (B15).lt)
 clear e21 g22
 have B25 := B15.all k20 id
 have K26 := K16.trans k20 (fun _ _ x => x.elim)
 refine wl_store_blk blkT_arr rfl rfl rfl rfl rfl B19 fun w27 B28 k29 => ?_
 have B30 := B25.all k29 (fun x => (((ap24).symm) p1 rfl x))
 have K31 := K26.trans k29 (Grew.ok (S := fun _ => False) gr23 noB_le)
 refine wl_nil fun F32 hF33 => ?_
 have s34 := (hF33 38).trans s11
 have s35 := (hF33 1).trans s12
 have s36 : F32 3 = .pointer (some ⟨p17, 0, none⟩) := (hF33 3).trans rfl
 clear hF33
 refine then_normal ?_
 refine wq_seq ?_
 refine wq_region ?_
 refine wl_v (.int .i64 (0)) rfl rfl (y_asg rfl rfl ⟨rfl, rfl⟩) ?_
 refine wl_nil fun F37 hF38 => ?_
 have s39 := (hF38 38).trans s34
 have s40 := (hF38 1).trans s35
 have s41 := (hF38 3).trans s36
 have s42 : F37 4 = .int .i64 (0) := (hF38 4).trans rfl
 clear hF38
 refine then_normal ?_
 refine wq_seq ?_
 refine wq_region ?_
 refine wl_v (.int .i64 (0)) rfl rfl (y_asg rfl rfl ⟨rfl, rfl⟩) ?_
 refine wl_nil fun F43 hF44 => ?_
 have s45 := (hF44 38).trans s39
 have s46 := (hF44 1).trans s40
 have s47 := (hF44 3).trans s41
 have s48 := (hF44 4).trans s42
 have s49 : F43 5 = .int .i64 (0) := (hF44 5).trans rfl
 clear hF44
 refine then_normal ?_
 refine wq_seq ?_
 refine wq_region ?_
 refine wl_v (.string (strOf ([]))) rfl rfl (y_asg rfl rfl ⟨rfl, rfl⟩) ?_
 refine wl_nil fun F50 hF51 => ?_
 have s52 := (hF51 38).trans s45
 have s53 := (hF51 1).trans s46
 have s54 := (hF51 3).trans s47
 have s55 := (hF51 4).trans s48
 have s56 := (hF51 5).trans s49
 have s57 : F50 6 = .string (strOf ([])) := (hF51 6).trans rfl
 clear hF51
 refine then_normal ?_
 refine wq_seq ?_
 refine wq_seq ?_
 refine wq_region ?_
 refine wl_v (.int .i64 (0)) rfl rfl (y_asg rfl rfl ⟨rfl, rfl⟩) ?_
 refine wl_nil fun F58 hF59 => ?_
 have s60 := (hF59 38).trans s52
 have s61 := (hF59 1).trans s53
 have s62 := (hF59 3).trans s54
 have s63 := (hF59 4).trans s55
 have s64 := (hF59 5).trans s56
 have s65 := (hF59 6).trans s57
 have s66 : F58 7 = .int .i64 (0) := (hF59 7).trans rfl
 clear hF59
 refine then_normal ?_
 refine wq_block ?_
 refine wq_loop (fun nn FF ww => ∃ (k : Nat), (k ≤ 16) ∧ nn = 16 - k ∧ FF 1 = .pointer (some ⟨p1, 0, none⟩) ∧ FF 3 = .pointer (some ⟨p17, 0, none⟩) ∧ FF 38 = undef ∧ FF 4 = .int .i64 ((((toldTo b k).1 : Nat) : Int)) ∧ FF 5 = .int .i64 ((((toldTo b k).2.1 : Nat) : Int)) ∧ FF 6 = .string (strOf ((toldTo b k).2.2)) ∧ FF 7 = .int .i64 (((k : Nat) : Int)) ∧ Kept (fun _ => False) w0 ww ∧ Blk ww p1 24 (b) ∧ Blk ww p17 24 (ordB)) (16 - (0)) ⟨0, by omega, rfl, s61, s62, s60, s63, s64, s65, s66, K31, B30, B28⟩ ?_
 rintro n70 F67 w68 ⟨k, i71, hn70, s72, s73, s74, s75, s76, s77, s78, K69, B79, B80⟩
 refine wq_seq ?_
 refine wq_seq ?_
 refine wq_region ?_
 refine wl_v (.int .i64 (((k : Nat) : Int))) rfl rfl (y_mov rfl s78 ⟨rfl, rfl⟩) ?_
 refine wl_v (.bool (decide ((((k : Nat) : Int)) < (16)))) rfl rfl (y_lss rfl rfl rfl rfl ⟨rfl, rfl⟩) ?_
 refine wl_nil fun F81 hF82 => ?_
 have s83 := (hF82 1).trans s72
 have s84 := (hF82 3).trans s73
 have s85 := (hF82 38).trans s74
 have s86 := (hF82 4).trans s75
 have s87 := (hF82 5).trans s76
 have s88 := (hF82 6).trans s77
 have s89 := (hF82 7).trans s78
 have s90 : F81 11 = .bool (decide ((((k : Nat) : Int)) < (16))) := (hF82 11).trans rfl
 clear hF82
 refine then_normal ?_
 refine wq_cond s90 (fun c91 => ?_) (fun c91 => ?_)
 ·replace c91 := of_decide_eq_true c91
  refine wq_skip ?_
  refine then_normal ?_
  refine wq_seq ?_
  refine wq_block ?_
  refine wq_seq ?_
  have ho := ord_lt k (by omega)
  have ht := told_le b k
  refine wq_region ?_
  refine wl_v (.int .i64 (((k : Nat) : Int))) rfl rfl (y_mov rfl s89 ⟨rfl, rfl⟩) ?_
  refine wl_v (.pointer (some ⟨p17, k, none⟩)) rfl rfl (y_atR (k) (s := 1) rfl s84 rfl (by omega) Tryd.underlying24 (by omega) (by kernel_rfl) (by omega) ⟨rfl, rfl⟩) ?_
  refine wl_v (.int .i64 (((ord k : Nat) : Int))) rfl rfl (y_ldR rfl rfl Tryd.underlying3 (((B80).cell (by omega)).trans (some_int rfl)) ⟨rfl, rfl⟩) ?_
  refine wl_v (.pointer (some ⟨p1, ord k, none⟩)) rfl rfl (y_atR (ord k) (s := 1) rfl s83 rfl (by omega) Tryd.underlying24 (by omega) (by kernel_rfl) (by omega) ⟨rfl, rfl⟩) ?_
  refine wl_v (.int .i64 ((b) (ord k))) rfl rfl (y_ldR rfl rfl Tryd.underlying3 ((B79).cell (by omega)) ⟨rfl, rfl⟩) ?_
  refine wl_v (.int .i64 (max ((b) (ord k)) (-1048576))) rfl rfl (y_maxR rfl rfl rfl rfl ⟨rfl, rfl⟩) ?_
  refine wl_v (.int .i64 (lvl b k)) rfl rfl (y_minR rfl rfl rfl (by unfold lvl cl; omega) ⟨rfl, rfl⟩) ?_
  refine wl_v (.int .i64 (lvl b k)) rfl rfl (y_asg rfl rfl ⟨rfl, rfl⟩) ?_
  refine wl_nil fun F92 hF93 => ?_
  have s94 := (hF93 1).trans s83
  have s95 := (hF93 3).trans s84
  have s96 := (hF93 38).trans s85
  have s97 := (hF93 4).trans s86
  have s98 := (hF93 5).trans s87
  have s99 := (hF93 6).trans s88
  have s100 := (hF93 7).trans s89
  have s101 : F92 8 = .int .i64 (lvl b k) := (hF93 8).trans rfl
  clear hF93
  refine then_normal ?_
  refine wq_seq ?_
  refine wq_seq ?_
  refine wq_region ?_
  refine wl_v (.int .i64 (lvl b k)) rfl rfl (y_mov rfl s101 ⟨rfl, rfl⟩) ?_
  refine wl_v (.bool (decide ((lvl b k) = (0)))) rfl rfl (y_eqlI rfl rfl rfl rfl ⟨rfl, rfl⟩) ?_
  refine wl_nil fun F102 hF103 => ?_
  have s104 := (hF103 1).trans s94
  have s105 := (hF103 3).trans s95
  have s106 := (hF103 38).trans s96
  have s107 := (hF103 4).trans s97
  have s108 := (hF103 5).trans s98
  have s109 := (hF103 6).trans s99
  have s110 := (hF103 7).trans s100
  have s111 := (hF103 8).trans s101
  have s112 : F102 22 = .bool (decide ((lvl b k) = (0))) := (hF103 22).trans rfl
  clear hF103
  refine then_normal ?_
  refine wq_cond s112 (fun c113 => ?_) (fun c113 => ?_)
  ·replace c113 := of_decide_eq_true c113
   refine wq_seq ?_
   refine wq_region ?_
   refine wl_v (.int .i64 ((((toldTo b k).2.1 : Nat) : Int))) rfl rfl (y_mov rfl s108 ⟨rfl, rfl⟩) ?_
   refine wl_v (.int .i64 (((((toldTo b k).2.1) + 1 : Nat) : Int))) rfl rfl (y_add rfl rfl rfl (i64_n (by omega) (by omega)) ⟨rfl, rfl⟩) ?_
   refine wl_v (.int .i64 (((((toldTo b k).2.1) + 1 : Nat) : Int))) rfl rfl (y_asg rfl rfl ⟨rfl, rfl⟩) ?_
   refine wl_nil fun F114 hF115 => ?_
   have s116 := (hF115 1).trans s104
   have s117 := (hF115 3).trans s105
   have s118 := (hF115 38).trans s106
   have s119 := (hF115 4).trans s107
   have s120 := (hF115 6).trans s109
   have s121 := (hF115 7).trans s110
   have s122 : F114 5 = .int .i64 (((((toldTo b k).2.1) + 1 : Nat) : Int)) := (hF115 5).trans rfl
   clear hF115
   refine then_normal ?_
   refine wq_exit ?_
   refine then_exit ?_
   refine in_here ?_
   refine then_normal ?_
   refine wq_region ?_
   refine wl_v (.int .i64 (((k : Nat) : Int))) rfl rfl (y_mov rfl s121 ⟨rfl, rfl⟩) ?_
   refine wl_v (.int .i64 (((k + 1 : Nat) : Int))) rfl rfl (y_add rfl rfl rfl (i64_n (by omega) (by omega)) ⟨rfl, rfl⟩) ?_
   refine wl_v (.int .i64 (((k + 1 : Nat) : Int))) rfl rfl (y_asg rfl rfl ⟨rfl, rfl⟩) ?_
   refine wl_nil fun F123 hF124 => ?_
   have s125 := (hF124 1).trans s116
   have s126 := (hF124 3).trans s117
   have s127 := (hF124 38).trans s118
   have s128 := (hF124 4).trans s119
   have s129 := (hF124 6).trans s120
   have s130 := (hF124 5).trans s122
   have s131 : F123 7 = .int .i64 (((k + 1 : Nat) : Int)) := (hF124 7).trans rfl
   clear hF124
   exact then_normal ⟨(16 - (k + 1)), by omega, k + 1, by omega, rfl, s125, s126, s127, (by first | (rw [tell_zero b k (by assumption)]; exact s128) | (rw [tell_some b k (by assumption)]; exact s128)), (by first | (rw [tell_zero b k (by assumption)]; exact s130) | (rw [tell_some b k (by assumption)]; exact s130)), (by first | (rw [tell_zero b k (by assumption)]; exact s129) | (rw [tell_some b k (by assumption)]; exact s129)), s131, K69, B79, B80⟩
  ·replace c113 := of_decide_eq_false c113
   refine wq_skip ?_
   refine then_normal ?_
   refine wq_seq ?_
   refine wq_region ?_
   refine wl_v (.int .i64 ((((toldTo b k).1 : Nat) : Int))) rfl rfl (y_mov rfl s107 ⟨rfl, rfl⟩) ?_
   refine wl_v (.int .i64 (((((toldTo b k).1) + 1 : Nat) : Int))) rfl rfl (y_add rfl rfl rfl (i64_n (by omega) (by omega)) ⟨rfl, rfl⟩) ?_
   refine wl_v (.int .i64 (((((toldTo b k).1) + 1 : Nat) : Int))) rfl rfl (y_asg rfl rfl ⟨rfl, rfl⟩) ?_
   refine wl_nil fun F132 hF133 => ?_
   have s134 := (hF133 1).trans s104
   have s135 := (hF133 3).trans s105
   have s136 := (hF133 38).trans s106
   have s137 := (hF133 5).trans s108
   have s138 := (hF133 6).trans s109
   have s139 := (hF133 7).trans s110
   have s140 := (hF133 8).trans s111
   have s141 : F132 4 = .int .i64 (((((toldTo b k).1) + 1 : Nat) : Int)) := (hF133 4).trans rfl
   clear hF133
   refine then_normal ?_
   refine wq_seq ?_
   have h1 := wholeBits_short (((toldTo b k).2.1 : Nat) : Int)
   have h2 := signedBits_short (lvl b k)
   refine wq_region ?_
   refine wl_v (.string (strOf ((toldTo b k).2.2))) rfl rfl (y_mov rfl s138 ⟨rfl, rfl⟩) ?_
   refine wl_v (.int .i64 ((((toldTo b k).2.1 : Nat) : Int))) rfl rfl (y_mov rfl s137 ⟨rfl, rfl⟩) ?_
   refine wl_call (R := fun v_ w_ => v_ = .string (strOf (wholeBits ((((toldTo b k).2.1 : Nat) : Int)))) ∧ Kept (fun _ => False) w68 w_) rfl rfl (y_cs rfl rfl rfl (fun _ _ => by kernel_rfl) (ev_func _) (vsC rfl vsN) (t_refwhole ((((toldTo b k).2.1 : Nat) : Int))  _   ) (fun e_ w_ h_ => ⟨_, h_.1, rfl, h_.2⟩)) ?_
   rintro _ w142 ⟨rfl, k143⟩
   have B144 := B79.all k143 id
   have B145 := B80.all k143 id
   have K146 := K69.trans k143 (fun _ _ x => x.elim)
   refine wl_v (.string (strOf (((toldTo b k).2.2) ++ (wholeBits ((((toldTo b k).2.1 : Nat) : Int)))))) rfl rfl (y_catR rfl rfl rfl (by simp [strOf_size]; omega) (strOf_append _ _) ⟨rfl, rfl⟩) ?_
   refine wl_v (.int .i64 (lvl b k)) rfl rfl (y_mov rfl s140 ⟨rfl, rfl⟩) ?_
   refine wl_call (R := fun v_ w_ => v_ = .string (strOf (signedBits (lvl b k))) ∧ Kept (fun _ => False) w142 w_) rfl rfl (y_cs rfl rfl rfl (fun _ _ => by kernel_rfl) (ev_func _) (vsC rfl vsN) (t_refsigned (lvl b k)  _   ) (fun e_ w_ h_ => ⟨_, h_.1, rfl, h_.2⟩)) ?_
   rintro _ w147 ⟨rfl, k148⟩
   have B149 := B144.all k148 id
   have B150 := B145.all k148 id
   have K151 := K146.trans k148 (fun _ _ x => x.elim)
   refine wl_v (.string (strOf ((((toldTo b k).2.2) ++ (wholeBits ((((toldTo b k).2.1 : Nat) : Int)))) ++ (signedBits (lvl b k))))) rfl rfl (y_catR rfl rfl rfl (by simp [strOf_size]; omega) (strOf_append _ _) ⟨rfl, rfl⟩) ?_
   refine wl_v (.string (strOf ((((toldTo b k).2.2) ++ (wholeBits ((((toldTo b k).2.1 : Nat) : Int)))) ++ (signedBits (lvl b k))))) rfl rfl (y_asg rfl rfl ⟨rfl, rfl⟩) ?_
   refine wl_nil fun F152 hF153 => ?_
   have s154 := (hF153 1).trans s134
   have s155 := (hF153 3).trans s135
   have s156 := (hF153 38).trans s136
   have s157 := (hF153 7).trans s139
   have s158 := (hF153 4).trans s141
   have s159 : F152 6 = .string (strOf ((((toldTo b k).2.2) ++ (wholeBits ((((toldTo b k).2.1 : Nat) : Int)))) ++ (signedBits (lvl b k)))) := (hF153 6).trans rfl
   clear hF153
   refine then_normal ?_
   refine wq_region ?_
   refine wl_v (.int .i64 (0)) rfl rfl (y_asg rfl rfl ⟨rfl, rfl⟩) ?_
   refine wl_nil fun F160 hF161 => ?_
   have s162 := (hF161 1).trans s154
   have s163 := (hF161 3).trans s155
   have s164 := (hF161 38).trans s156
   have s165 := (hF161 7).trans s157
   have s166 := (hF161 4).trans s158
   have s167 := (hF161 6).trans s159
   have s168 : F160 5 = .int .i64 (0) := (hF161 5).trans rfl
   clear hF161
   refine in_normal ?_
   refine then_normal ?_
   refine wq_region ?_
   refine wl_v (.int .i64 (((k : Nat) : Int))) rfl rfl (y_mov rfl s165 ⟨rfl, rfl⟩) ?_
   refine wl_v (.int .i64 (((k + 1 : Nat) : Int))) rfl rfl (y_add rfl rfl rfl (i64_n (by omega) (by omega)) ⟨rfl, rfl⟩) ?_
   refine wl_v (.int .i64 (((k + 1 : Nat) : Int))) rfl rfl (y_asg rfl rfl ⟨rfl, rfl⟩) ?_
   refine wl_nil fun F169 hF170 => ?_
   have s171 := (hF170 1).trans s162
   have s172 := (hF170 3).trans s163
   have s173 := (hF170 38).trans s164
   have s174 := (hF170 4).trans s166
   have s175 := (hF170 6).trans s167
   have s176 := (hF170 5).trans s168
   have s177 : F169 7 = .int .i64 (((k + 1 : Nat) : Int)) := (hF170 7).trans rfl
   clear hF170
   exact then_normal ⟨(16 - (k + 1)), by omega, k + 1, by omega, rfl, s171, s172, s173, (by first | (rw [tell_zero b k (by assumption)]; exact s174) | (rw [tell_some b k (by assumption)]; exact s174)), (by first | (rw [tell_zero b k (by assumption)]; exact s176) | (rw [tell_some b k (by assumption)]; exact s176)), (by first | (rw [tell_zero b k (by assumption)]; exact s175) | (rw [tell_some b k (by assumption)]; exact s175)), s177, K151, B149, B150⟩
 ·replace c91 := of_decide_eq_false c91
  refine wq_exit ?_
  refine then_exit ?_
  refine then_exit ?_
  have l178 : 16 = k := by omega
  subst l178
  refine in_here ?_
  refine then_normal ?_
  refine wq_seq ?_
  have h1 := wholeBits_short (((toldTo b 16).1 : Nat) : Int)
  have h2 := told_le b 16
  refine wq_region ?_
  refine wl_v (.int .i64 ((((toldTo b 16).1 : Nat) : Int))) rfl rfl (y_mov rfl s86 ⟨rfl, rfl⟩) ?_
  refine wl_call (R := fun v_ w_ => v_ = .string (strOf (wholeBits ((((toldTo b 16).1 : Nat) : Int)))) ∧ Kept (fun _ => False) w68 w_) rfl rfl (y_cs rfl rfl rfl (fun _ _ => by kernel_rfl) (ev_func _) (vsC rfl vsN) (t_refwhole ((((toldTo b 16).1 : Nat) : Int))  _   ) (fun e_ w_ h_ => ⟨_, h_.1, rfl, h_.2⟩)) ?_
  rintro _ w179 ⟨rfl, k180⟩
  have K183 := K69.trans k180 (fun _ _ x => x.elim)
  refine wl_v (.string (strOf ((toldTo b 16).2.2))) rfl rfl (y_mov rfl s88 ⟨rfl, rfl⟩) ?_
  refine wl_v (.string (strOf ((wholeBits ((((toldTo b 16).1 : Nat) : Int))) ++ ((toldTo b 16).2.2)))) rfl rfl (y_catR rfl rfl rfl (by simp [strOf_size]; omega) (strOf_append _ _) ⟨rfl, rfl⟩) ?_
  refine wl_v (.string (strOf ((wholeBits ((((toldTo b 16).1 : Nat) : Int))) ++ ((toldTo b 16).2.2)))) rfl rfl (y_asg rfl rfl ⟨rfl, rfl⟩) ?_
  refine wl_nil fun F184 hF185 => ?_
  have s186 := (hF185 38).trans s85
  have s187 : F184 2 = .string (strOf ((wholeBits ((((toldTo b 16).1 : Nat) : Int))) ++ ((toldTo b 16).2.2))) := (hF185 2).trans rfl
  clear hF185
  refine then_normal ?_
  refine wq_ret ?_
  exact end_tmp (v := .string (strOf ((wholeBits ((((toldTo b 16).1 : Nat) : Int))) ++ ((toldTo b 16).2.2)))) s186 rfl rfl s187 ⟨(by rw [scan_told]), K183⟩

theorem rdOne_at (l : List Nat) (a : Nat) (s : Option Nat) : (a : Int) + (rdStep (wholeRd l 15) s).1 = (((rdOne l a s).1 : Nat) : Int) ∧ (rdOne l a s).1 ≤ a + 15 := by
  have h := rdStep_whole_le l 15 (by omega) s
  unfold rdOne
  simp only
  omega
theorem rd_bad {l : List Nat} {M i a : Nat} {b : Nat → Int} {s : Option Nat} {R : (Nat → Int) × Int × Option Nat} (hi : i < M) (h : rdRest l (M - i) a b s = R) (hb : rdBad (rdOne l a s)) : R = (fun _ => 0, 60, (rdOne l a s).2.2) := by
  obtain ⟨k, hk⟩ : ∃ k, M - i = k + 1 := ⟨M - i - 1, by omega⟩
  rw [hk, rdRest, if_pos hb] at h
  exact h.symm
theorem rd_ok {l : List Nat} {M i a : Nat} {b : Nat → Int} {s : Option Nat} {R : (Nat → Int) × Int × Option Nat} (hi : i < M) (h : rdRest l (M - i) a b s = R) (hb : ¬ rdBad (rdOne l a s)) :
    rdRest l (M - (i + 1)) ((rdOne l a s).1 + 1) (upd b (ord (rdOne l a s).1) (rdOne l a s).2.1) (rdOne l a s).2.2 = R := by
  obtain ⟨k, hk⟩ : ∃ k, M - i = k + 1 := ⟨M - i - 1, by omega⟩
  rw [hk, rdRest, if_neg hb] at h
  rw [show M - (i + 1) = k by omega]
  exact h
theorem rd_done {l : List Nat} {M i a : Nat} {b : Nat → Int} {s : Option Nat} {R : (Nat → Int) × Int × Option Nat} (hi : ¬ i < M) (h : rdRest l (M - i) a b s = R) : (s.isNone = true → R = (fun _ => 0, 60, s)) ∧ (s.isNone = false → R = (b, 0, s)) := by
  rw [show M - i = 0 by omega, rdRest] at h
  constructor
  · intro hs; rw [if_pos hs] at h; exact h.symm
  · intro hs; rw [if_neg (by rw [hs]; decide)] at h; exact h.symm

set_option maxHeartbeats 4000000 in
set_option maxRecDepth 100000 in
theorem sref_read (p : Nat) (l : List Nat) (st : Option Nat) (T_r : Nat → Prop) (w0 : World) (h_r : Rfi w0 T_r p (l) (st)) :
  Calls Tryd.prog 48 #[.pointer (some ⟨p, 0, none⟩)] w0 fun e w' => ∃ (T_r' : Nat → Prop), e = .returned (.tuple #[blkV ((scanRd l st).1), .int .i64 ((scanRd l st).2.1)]) ∧ Kept (T_r) w0 w' ∧ (Rfi w' T_r' p (l) ((scanRd l st).2.2) ∧ Grew w0 T_r T_r') := by
 refine calls_wq (args := [.pointer (some ⟨p, 0, none⟩)]) 51 Tryd.func48 rfl rfl (Nat.le_of_ble_eq_true rfl) ?_
 have K0 := Kept.refl (T_r) w0
 obtain ⟨M, hM⟩ : ∃ M, M = (rdStep (wholeRd l 16) st).1.toNat := ⟨_, rfl⟩
 have hle := rdStep_whole_le l 16 (by omega) st
 have g_r := Grew.refl w0 T_r
 refine wq_seq ?_
 refine wq_region ?_
 refine wl_alloc_blk rfl rfl rfl blkT_arr.2.2 fun p1 w2 e5 B3 k4 => ?_
 have g6 := onB_new (Nat.le_of_eq e5.symm)
 have gr7 : Grew w0 noB (onB p1) := Grew.new K0 g6
 have ap8 : Apart (onB p1) (T_r) := Apart.new g6 (h_r).live
 clear e5 g6
 have B9 := h_r.all k4 Apart.none
 have K10 := K0.trans k4 (fun _ _ x => x.elim)
 refine wl_v (.int .i64 (0)) rfl rfl (y_asg rfl rfl ⟨rfl, rfl⟩) ?_
 refine wl_nil fun F11 hF12 => ?_
 have s13 : F11 0 = .pointer (some ⟨p, 0, none⟩) := (hF12 0).trans rfl
 have s14 : F11 51 = undef := (hF12 51).trans rfl
 have s15 : F11 2 = .pointer (some ⟨p1, 0, none⟩) := (hF12 2).trans rfl
 clear hF12
 refine then_normal ?_
 refine wq_seq ?_
 refine wq_region ?_
 refine wl_call (R := fun v_ w_ => v_ = blkV (ordB) ∧ Kept (fun _ => False) w2 w_) rfl rfl (y_cs rfl rfl rfl (fun _ _ => by kernel_rfl) (ev_func _) vsN (sref_order   _   ) (fun e_ w_ h_ => ⟨_, h_.1, rfl, h_.2⟩)) ?_
 rintro _ w16 ⟨rfl, k17⟩
 have B18 := B9.all k17 Apart.none
 have B19 := B3.all k17 id
 have K20 := K10.trans k17 (fun _ _ x => x.elim)
 refine wl_alloc_blk rfl rfl rfl blkT_arr.2.2 fun p21 w22 e25 B23 k24 => ?_
 have g26 := onB_new (Nat.le_of_eq e25.symm)
 have gr27 : Grew w0 noB (onB p21) := Grew.new K20 g26
 have ap28 : Apart (onB p21) (T_r) := Apart.new g26 (B18).live
 have ap29 : Apart (onB p21) (onB p1) := Apart.new g26 (onB_live (B19).lt)
 clear e25 g26
 have B30 := B18.all k24 Apart.none
 have B31 := B19.all k24 id
 have K32 := K20.trans k24 (fun _ _ x => x.elim)
 refine wl_store_blk blkT_arr rfl rfl rfl rfl rfl B23 fun w33 B34 k35 => ?_
 have B36 := B30.all k35 (fun i h x => (((ap28).symm) i h x))
 have B37 := B31.all k35 (fun x => (((ap29).symm) p1 rfl x))
 have K38 := K32.trans k35 (Grew.ok (S := T_r) gr27 noB_le)
 refine wl_nil fun F39 hF40 => ?_
 have s41 := (hF40 0).trans s13
 have s42 := (hF40 51).trans s14
 have s43 := (hF40 2).trans s15
 have s44 : F39 4 = .pointer (some ⟨p21, 0, none⟩) := (hF40 4).trans rfl
 clear hF40
 refine then_normal ?_
 refine wq_seq ?_
 refine wq_region ?_
 refine wl_v (blkV (fun _ => 0)) rfl rfl (y_buildR (cells := (arrL 16 (fun _ => 0)).toArray) rfl (by kernel_rfl) rfl ⟨rfl, rfl⟩) ?_
 refine wl_alloc_blk rfl rfl rfl blkT_arr.2.2 fun p45 w46 e49 B47 k48 => ?_
 have g50 := onB_new (Nat.le_of_eq e49.symm)
 have gr51 : Grew w0 noB (onB p45) := Grew.new K38 g50
 have ap52 : Apart (onB p45) (T_r) := Apart.new g50 (B36).live
 have ap53 : Apart (onB p45) (onB p1) := Apart.new g50 (onB_live (B37).lt)
 have ap54 : Apart (onB p45) (onB p21) := Apart.new g50 (onB_live (B34).lt)
 clear e49 g50
 have B55 := B36.all k48 Apart.none
 have B56 := B37.all k48 id
 have B57 := B34.all k48 id
 have K58 := K38.trans k48 (fun _ _ x => x.elim)
 refine wl_store_blk blkT_arr rfl rfl rfl rfl rfl B47 fun w59 B60 k61 => ?_
 have B62 := B55.all k61 (fun i h x => (((ap52).symm) i h x))
 have B63 := B56.all k61 (fun x => (((ap53).symm) p1 rfl x))
 have B64 := B57.all k61 (fun x => (((ap54).symm) p21 rfl x))
 have K65 := K58.trans k61 (Grew.ok (S := T_r) gr51 noB_le)
 refine wl_nil fun F66 hF67 => ?_
 have s68 := (hF67 0).trans s41
 have s69 := (hF67 51).trans s42
 have s70 := (hF67 2).trans s43
 have s71 := (hF67 4).trans s44
 have s72 : F66 5 = .pointer (some ⟨p45, 0, none⟩) := (hF67 5).trans rfl
 clear hF67
 refine then_normal ?_
 refine wq_seq ?_
 refine wq_region ?_
 refine wl_v (.pointer (some ⟨p, 0, none⟩)) rfl rfl (y_mov rfl s68 ⟨rfl, rfl⟩) ?_
 refine wl_call (R := fun v_ w_ => ∃ (T75 : Nat → Prop), .int .i64 (((M : Nat) : Int)) = v_ ∧ Kept (T_r) w59 w_ ∧ (Rfi w_ T75 p ((l)) ((rdStep (wholeRd (l) (16)) (st)).2) ∧ Grew w59 (T_r) T75)) rfl rfl (y_cs rfl rfl rfl (fun _ _ => by kernel_rfl) (ev_func _) (vsC rfl (vsC rfl vsN)) (t_fwhole (p) (l) (st) (16) (T_r) _  B62 ) (fun e_ w_ h_ => by obtain ⟨T75_, he_, hr_⟩ := h_; exact ⟨_, he_, T75_, (congrArg (Value.int .i64) (by omega)).symm, hr_⟩)) ?_
 rintro _ w73 ⟨T75, rfl, k74, ⟨B76, g77⟩⟩
 have B78 := B63.all k74 (fun x => ((ap8) p1 rfl x))
 have B79 := B64.all k74 (fun x => ((ap28) p21 rfl x))
 have B80 := B60.all k74 (fun x => ((ap52) p45 rfl x))
 have K81 := K65.trans k74 (fun i hi x => ((Grew.ok (S := T_r) g_r (fun _ x => x)) i hi x))
 have gr82 := g_r.trans K65 g77
 have ap83 : Apart T75 (onB p1) := ((ap8).symm).grew g77 (onB_live (B63).lt)
 have ap84 : Apart T75 (onB p21) := ((ap28).symm).grew g77 (onB_live (B64).lt)
 have ap85 : Apart T75 (onB p45) := ((ap52).symm).grew g77 (onB_live (B60).lt)
 refine wl_v (.int .i64 (((M : Nat) : Int))) rfl rfl (y_asg rfl rfl ⟨rfl, rfl⟩) ?_
 refine wl_nil fun F86 hF87 => ?_
 have s88 := (hF87 0).trans s68
 have s89 := (hF87 51).trans s69
 have s90 := (hF87 2).trans s70
 have s91 := (hF87 4).trans s71
 have s92 := (hF87 5).trans s72
 have s93 : F86 6 = .int .i64 (((M : Nat) : Int)) := (hF87 6).trans rfl
 clear hF87
 refine then_normal ?_
 refine wq_seq ?_
 refine wq_region ?_
 refine wl_v (.int .i64 (0)) rfl rfl (y_asg rfl rfl ⟨rfl, rfl⟩) ?_
 refine wl_nil fun F94 hF95 => ?_
 have s96 := (hF95 0).trans s88
 have s97 := (hF95 51).trans s89
 have s98 := (hF95 2).trans s90
 have s99 := (hF95 4).trans s91
 have s100 := (hF95 5).trans s92
 have s101 := (hF95 6).trans s93
 have s102 : F94 7 = .int .i64 (0) := (hF95 7).trans rfl
 clear hF95
 refine then_normal ?_
 refine wq_seq ?_
 refine wq_seq ?_
 refine wq_region ?_
 refine wl_v (.int .i64 (0)) rfl rfl (y_asg rfl rfl ⟨rfl, rfl⟩) ?_
 refine wl_nil fun F103 hF104 => ?_
 have s105 := (hF104 0).trans s96
 have s106 := (hF104 51).trans s97
 have s107 := (hF104 2).trans s98
 have s108 := (hF104 4).trans s99
 have s109 := (hF104 5).trans s100
 have s110 := (hF104 6).trans s101
 have s111 := (hF104 7).trans s102
 have s112 : F103 8 = .int .i64 (0) := (hF104 8).trans rfl
 clear hF104
 refine then_normal ?_
 refine wq_block ?_
 refine wq_loop (fun nn FF ww => ∃ (i : Nat), ∃ (a : Nat), ∃ (b : Nat → Int), ∃ (s : Option Nat), ∃ (T113 : Nat → Prop), (i ≤ M) ∧ (a ≤ 16) ∧ (rdRest l (M - i) a b s = scanRd l st) ∧ nn = M - i ∧ FF 0 = .pointer (some ⟨p, 0, none⟩) ∧ FF 2 = .pointer (some ⟨p1, 0, none⟩) ∧ FF 4 = .pointer (some ⟨p21, 0, none⟩) ∧ FF 5 = .pointer (some ⟨p45, 0, none⟩) ∧ FF 6 = .int .i64 (((M : Nat) : Int)) ∧ FF 51 = undef ∧ FF 7 = .int .i64 (((a : Nat) : Int)) ∧ FF 8 = .int .i64 (((i : Nat) : Int)) ∧ Kept (T_r) w0 ww ∧ Rfi ww (T113) p (l) (s) ∧ Blk ww p1 24 (fun _ => 0) ∧ Blk ww p21 24 (ordB) ∧ Blk ww p45 24 (b) ∧ Grew w0 (T_r) T113 ∧ Apart (T113) (onB p1) ∧ Apart (T113) (onB p21) ∧ Apart (T113) (onB p45)) (M - (0)) ⟨0, 0, (fun _ => 0), (rdStep (wholeRd l 16) st).2, T75, by omega, by omega, (by rw [hM]; rfl), rfl, s105, s107, s108, s109, s110, s106, s111, s112, K81, B76, B78, B79, B80, gr82, ap83, ap84, ap85⟩ ?_
 rintro n117 F114 w115 ⟨i, a, b, s, T113, i118, i119, hI, hn117, s120, s121, s122, s123, s124, s125, s126, s127, K116, B128, B129, B130, B131, gr132, ap133, ap134, ap135⟩
 refine wq_seq ?_
 refine wq_seq ?_
 refine wq_region ?_
 refine wl_v (.int .i64 (((i : Nat) : Int))) rfl rfl (y_mov rfl s127 ⟨rfl, rfl⟩) ?_
 refine wl_v (.int .i64 (((M : Nat) : Int))) rfl rfl (y_mov rfl s124 ⟨rfl, rfl⟩) ?_
 refine wl_v (.bool (decide ((((i : Nat) : Int)) < (((M : Nat) : Int))))) rfl rfl (y_lss rfl rfl rfl rfl ⟨rfl, rfl⟩) ?_
 refine wl_nil fun F136 hF137 => ?_
 have s138 := (hF137 0).trans s120
 have s139 := (hF137 2).trans s121
 have s140 := (hF137 4).trans s122
 have s141 := (hF137 5).trans s123
 have s142 := (hF137 6).trans s124
 have s143 := (hF137 51).trans s125
 have s144 := (hF137 7).trans s126
 have s145 := (hF137 8).trans s127
 have s146 : F136 16 = .bool (decide ((((i : Nat) : Int)) < (((M : Nat) : Int)))) := (hF137 16).trans rfl
 clear hF137
 refine then_normal ?_
 refine wq_cond s146 (fun c147 => ?_) (fun c147 => ?_)
 ·replace c147 := of_decide_eq_true c147
  refine wq_skip ?_
  refine then_normal ?_
  refine wq_seq ?_
  refine wq_block ?_
  refine wq_seq ?_
  have hat := rdOne_at l a s
  refine wq_region ?_
  refine wl_v (.int .i64 (((a : Nat) : Int))) rfl rfl (y_mov rfl s144 ⟨rfl, rfl⟩) ?_
  refine wl_v (.pointer (some ⟨p, 0, none⟩)) rfl rfl (y_mov rfl s138 ⟨rfl, rfl⟩) ?_
  refine wl_call (R := fun v_ w_ => ∃ (T150 : Nat → Prop), .int .i64 ((rdStep (wholeRd (l) (15)) (s)).1) = v_ ∧ Kept (T113) w115 w_ ∧ (Rfi w_ T150 p ((l)) ((rdStep (wholeRd (l) (15)) (s)).2) ∧ Grew w115 (T113) T150)) rfl rfl (y_cs rfl rfl rfl (fun _ _ => by kernel_rfl) (ev_func _) (vsC rfl (vsC rfl vsN)) (t_fwhole (p) (l) (s) (15) (T113) _  B128 ) (fun e_ w_ h_ => by obtain ⟨T150_, he_, hr_⟩ := h_; exact ⟨_, he_, T150_, rfl, hr_⟩)) ?_
  rintro _ w148 ⟨T150, rfl, k149, ⟨B151, g152⟩⟩
  have B153 := B129.all k149 (fun x => (((ap133).symm) p1 rfl x))
  have B154 := B130.all k149 (fun x => (((ap134).symm) p21 rfl x))
  have B155 := B131.all k149 (fun x => (((ap135).symm) p45 rfl x))
  have K156 := K116.trans k149 (fun i hi x => ((Grew.ok (S := T_r) gr132 (fun _ x => x)) i hi x))
  have gr157 := gr132.trans K116 g152
  have ap158 : Apart T150 (onB p1) := (ap133).grew g152 (onB_live (B129).lt)
  have ap159 : Apart T150 (onB p21) := (ap134).grew g152 (onB_live (B130).lt)
  have ap160 : Apart T150 (onB p45) := (ap135).grew g152 (onB_live (B131).lt)
  refine wl_v (.int .i64 ((((rdOne l a s).1 : Nat) : Int))) rfl rfl (y_add rfl rfl rfl (i64_n hat.1 (by omega)) ⟨rfl, rfl⟩) ?_
  refine wl_v (.int .i64 ((((rdOne l a s).1 : Nat) : Int))) rfl rfl (y_asg rfl rfl ⟨rfl, rfl⟩) ?_
  refine wl_nil fun F161 hF162 => ?_
  have s163 := (hF162 0).trans s138
  have s164 := (hF162 2).trans s139
  have s165 := (hF162 4).trans s140
  have s166 := (hF162 5).trans s141
  have s167 := (hF162 6).trans s142
  have s168 := (hF162 51).trans s143
  have s169 := (hF162 8).trans s145
  have s170 : F161 7 = .int .i64 ((((rdOne l a s).1 : Nat) : Int)) := (hF162 7).trans rfl
  clear hF162
  refine then_normal ?_
  refine wq_seq ?_
  refine wq_region ?_
  refine wl_v (.pointer (some ⟨p, 0, none⟩)) rfl rfl (y_mov rfl s163 ⟨rfl, rfl⟩) ?_
  refine wl_call (R := fun v_ w_ => ∃ (T173 : Nat → Prop), .int .i64 ((rdOne l a s).2.1) = v_ ∧ Kept (T150) w148 w_ ∧ (Rfi w_ T173 p (((l))) ((rdStep (signedRd ((l)) (1048576)) ((rdStep (wholeRd (l) (15)) (s)).2)).2) ∧ Grew w148 (T150) T173)) rfl rfl (y_cs rfl rfl rfl (fun _ _ => by kernel_rfl) (ev_func _) (vsC rfl (vsC rfl vsN)) (t_fsigned (p) ((l)) ((rdStep (wholeRd (l) (15)) (s)).2) (1048576) (T150) _  B151 ) (fun e_ w_ h_ => by obtain ⟨T173_, he_, hr_⟩ := h_; exact ⟨_, he_, T173_, rfl, hr_⟩)) ?_
  rintro _ w171 ⟨T173, rfl, k172, ⟨B174, g175⟩⟩
  have B176 := B153.all k172 (fun x => (((ap158).symm) p1 rfl x))
  have B177 := B154.all k172 (fun x => (((ap159).symm) p21 rfl x))
  have B178 := B155.all k172 (fun x => (((ap160).symm) p45 rfl x))
  have K179 := K156.trans k172 (fun i hi x => ((Grew.ok (S := T_r) gr157 (fun _ x => x)) i hi x))
  have gr180 := gr157.trans K156 g175
  have ap181 : Apart T173 (onB p1) := (ap158).grew g175 (onB_live (B153).lt)
  have ap182 : Apart T173 (onB p21) := (ap159).grew g175 (onB_live (B154).lt)
  have ap183 : Apart T173 (onB p45) := (ap160).grew g175 (onB_live (B155).lt)
  refine wl_v (.int .i64 ((rdOne l a s).2.1)) rfl rfl (y_asg rfl rfl ⟨rfl, rfl⟩) ?_
  refine wl_nil fun F184 hF185 => ?_
  have s186 := (hF185 0).trans s163
  have s187 := (hF185 2).trans s164
  have s188 := (hF185 4).trans s165
  have s189 := (hF185 5).trans s166
  have s190 := (hF185 6).trans s167
  have s191 := (hF185 51).trans s168
  have s192 := (hF185 8).trans s169
  have s193 := (hF185 7).trans s170
  have s194 : F184 9 = .int .i64 ((rdOne l a s).2.1) := (hF185 9).trans rfl
  clear hF185
  refine then_normal ?_
  refine wq_seq ?_
  refine wq_seq ?_
  rcases Bool.eq_false_or_eq_true (((rdStep (signedRd ((l)) (1048576)) ((rdStep (wholeRd (l) (15)) (s)).2)).2).isNone) with d195 | d195
  ·skip
   refine wq_region ?_
   refine wl_v (.pointer (some ⟨p, 0, none⟩)) rfl rfl (y_mov rfl s186 ⟨rfl, rfl⟩) ?_
   refine wl_v (.pointer (some ⟨p, 0, none⟩)) rfl rfl (y_nilc rfl rfl ⟨rfl, rfl⟩) ?_
   refine wl_v (.pointer (some ⟨p, 2, none⟩)) rfl rfl (y_fieldR (n := 1) rfl rfl Tryd.underlying45 rfl (by kernel_rfl) (by decide) rfl ⟨rfl, rfl⟩) ?_
   refine wl_v (.bool true) rfl rfl (y_rf_lost rfl rfl B174 d195 ⟨rfl, rfl⟩) ?_
   refine wl_v (.bool true) rfl rfl (y_mov rfl rfl ⟨rfl, rfl⟩) ?_
   refine wl_unless 4 false 29 rfl rfl rfl (Or.inl rfl) rfl ?_
   refine wl_unless 4 false 29 rfl rfl rfl (Or.inl rfl) rfl ?_
   refine wl_v (.bool true) rfl rfl (y_pickT rfl rfl rfl ⟨rfl, rfl⟩) ?_
   refine wl_v (.bool true) rfl rfl (y_mov rfl rfl ⟨rfl, rfl⟩) ?_
   refine wl_unless 8 false 33 rfl rfl rfl (Or.inl rfl) rfl ?_
   refine wl_unless 8 false 33 rfl rfl rfl (Or.inl rfl) rfl ?_
   refine wl_v (.bool true) rfl rfl (y_pickT rfl rfl rfl ⟨rfl, rfl⟩) ?_
   refine wl_nil fun F196 hF197 => ?_
   have s199 := (hF197 2).trans s187
   have s203 := (hF197 51).trans s191
   have s207 : F196 36 = .bool true := (hF197 36).trans rfl
   clear hF197
   refine then_normal ?_
   refine wq_cond (t := true) s207 (fun _ => ?_) (fun e => by cases e)
   refine wq_seq ?_
   have hR := rd_bad (by omega) hI (by unfold rdBad; first | exact Or.inl (by assumption) | exact Or.inr (Or.inl (by omega)) | exact Or.inr (Or.inr (by assumption)))
   refine wq_region ?_
   refine wl_v (blkV (fun _ => 0)) rfl rfl (y_buildR (cells := (arrL 16 (fun _ => 0)).toArray) rfl (by kernel_rfl) rfl ⟨rfl, rfl⟩) ?_
   refine wl_store_blk blkT_arr rfl rfl rfl s199 rfl B176 fun w208 B209 k210 => ?_
   have B211 := B174.all k210 (fun i h x => ((ap181) i h x))
   have K214 := K179.trans k210 (Grew.ok (S := T_r) gr7 noB_le)
   refine wl_v (.int .i64 (60)) rfl rfl (y_asg rfl rfl ⟨rfl, rfl⟩) ?_
   refine wl_nil fun F215 hF216 => ?_
   have s217 := (hF216 2).trans s199
   have s218 := (hF216 51).trans s203
   have s219 : F215 3 = .int .i64 (60) := (hF216 3).trans rfl
   clear hF216
   refine then_normal ?_
   refine wq_ret ?_
   refine then_ret ?_
   refine in_ret ?_
   refine then_ret ?_
   refine then_ret ?_
   refine in_ret ?_
   refine then_ret ?_
   exact end_2 s218 rfl (res_blk blkT_arr rfl s217 B209) (res_tmp (v := .int .i64 (60)) rfl s219) ⟨T173, (by rw [hR]), K214, ⟨(by rw [hR]; exact B211), gr180⟩⟩
  ·skip
   by_cases d220 : (15) < ((((rdOne l a s).1 : Nat) : Int))
   ·skip
    refine wq_region ?_
    refine wl_v (.pointer (some ⟨p, 0, none⟩)) rfl rfl (y_mov rfl s186 ⟨rfl, rfl⟩) ?_
    refine wl_v (.pointer (some ⟨p, 0, none⟩)) rfl rfl (y_nilc rfl rfl ⟨rfl, rfl⟩) ?_
    refine wl_v (.pointer (some ⟨p, 2, none⟩)) rfl rfl (y_fieldR (n := 1) rfl rfl Tryd.underlying45 rfl (by kernel_rfl) (by decide) rfl ⟨rfl, rfl⟩) ?_
    refine wl_v (.bool false) rfl rfl (y_rf_lost rfl rfl B174 d195 ⟨rfl, rfl⟩) ?_
    refine wl_v (.bool false) rfl rfl (y_mov rfl rfl ⟨rfl, rfl⟩) ?_
    refine wl_vw (.int .i64 ((((rdOne l a s).1 : Nat) : Int))) 4 false 29 rfl rfl rfl rfl rfl (y_mov rfl s193 ⟨rfl, rfl⟩) ?_
    refine wl_vw (.bool true) 4 false 29 rfl rfl rfl rfl rfl (y_gtr rfl rfl rfl (decide_eq_true d220) ⟨rfl, rfl⟩) ?_
    refine wl_v (.bool true) rfl rfl (y_pickF rfl rfl rfl ⟨rfl, rfl⟩) ?_
    refine wl_v (.bool true) rfl rfl (y_mov rfl rfl ⟨rfl, rfl⟩) ?_
    refine wl_unless 8 false 33 rfl rfl rfl (Or.inl rfl) rfl ?_
    refine wl_unless 8 false 33 rfl rfl rfl (Or.inl rfl) rfl ?_
    refine wl_v (.bool true) rfl rfl (y_pickT rfl rfl rfl ⟨rfl, rfl⟩) ?_
    refine wl_nil fun F221 hF222 => ?_
    have s224 := (hF222 2).trans s187
    have s228 := (hF222 51).trans s191
    have s232 : F221 36 = .bool true := (hF222 36).trans rfl
    clear hF222
    refine then_normal ?_
    refine wq_cond (t := true) s232 (fun _ => ?_) (fun e => by cases e)
    refine wq_seq ?_
    have hR := rd_bad (by omega) hI (by unfold rdBad; first | exact Or.inl (by assumption) | exact Or.inr (Or.inl (by omega)) | exact Or.inr (Or.inr (by assumption)))
    refine wq_region ?_
    refine wl_v (blkV (fun _ => 0)) rfl rfl (y_buildR (cells := (arrL 16 (fun _ => 0)).toArray) rfl (by kernel_rfl) rfl ⟨rfl, rfl⟩) ?_
    refine wl_store_blk blkT_arr rfl rfl rfl s224 rfl B176 fun w233 B234 k235 => ?_
    have B236 := B174.all k235 (fun i h x => ((ap181) i h x))
    have K239 := K179.trans k235 (Grew.ok (S := T_r) gr7 noB_le)
    refine wl_v (.int .i64 (60)) rfl rfl (y_asg rfl rfl ⟨rfl, rfl⟩) ?_
    refine wl_nil fun F240 hF241 => ?_
    have s242 := (hF241 2).trans s224
    have s243 := (hF241 51).trans s228
    have s244 : F240 3 = .int .i64 (60) := (hF241 3).trans rfl
    clear hF241
    refine then_normal ?_
    refine wq_ret ?_
    refine then_ret ?_
    refine in_ret ?_
    refine then_ret ?_
    refine then_ret ?_
    refine in_ret ?_
    refine then_ret ?_
    exact end_2 s243 rfl (res_blk blkT_arr rfl s242 B234) (res_tmp (v := .int .i64 (60)) rfl s244) ⟨T173, (by rw [hR]), K239, ⟨(by rw [hR]; exact B236), gr180⟩⟩
   ·skip
    refine wq_region ?_
    refine wl_v (.pointer (some ⟨p, 0, none⟩)) rfl rfl (y_mov rfl s186 ⟨rfl, rfl⟩) ?_
    refine wl_v (.pointer (some ⟨p, 0, none⟩)) rfl rfl (y_nilc rfl rfl ⟨rfl, rfl⟩) ?_
    refine wl_v (.pointer (some ⟨p, 2, none⟩)) rfl rfl (y_fieldR (n := 1) rfl rfl Tryd.underlying45 rfl (by kernel_rfl) (by decide) rfl ⟨rfl, rfl⟩) ?_
    refine wl_v (.bool false) rfl rfl (y_rf_lost rfl rfl B174 d195 ⟨rfl, rfl⟩) ?_
    refine wl_v (.bool false) rfl rfl (y_mov rfl rfl ⟨rfl, rfl⟩) ?_
    refine wl_vw (.int .i64 ((((rdOne l a s).1 : Nat) : Int))) 4 false 29 rfl rfl rfl rfl rfl (y_mov rfl s193 ⟨rfl, rfl⟩) ?_
    refine wl_vw (.bool false) 4 false 29 rfl rfl rfl rfl rfl (y_gtr rfl rfl rfl (decide_eq_false d220) ⟨rfl, rfl⟩) ?_
    refine wl_v (.bool false) rfl rfl (y_pickF rfl rfl rfl ⟨rfl, rfl⟩) ?_
    refine wl_v (.bool false) rfl rfl (y_mov rfl rfl ⟨rfl, rfl⟩) ?_
    refine wl_vw (.int .i64 ((rdOne l a s).2.1)) 8 false 33 rfl rfl rfl rfl rfl (y_mov rfl s194 ⟨rfl, rfl⟩) ?_
    refine wl_vw (.bool (decide (((rdOne l a s).2.1) = (0)))) 8 false 33 rfl rfl rfl rfl rfl (y_eqlI rfl rfl rfl rfl ⟨rfl, rfl⟩) ?_
    refine wl_v (.bool (decide (((rdOne l a s).2.1) = (0)))) rfl rfl (y_pickF rfl rfl rfl ⟨rfl, rfl⟩) ?_
    refine wl_nil fun F245 hF246 => ?_
    have s247 := (hF246 0).trans s186
    have s248 := (hF246 2).trans s187
    have s249 := (hF246 4).trans s188
    have s250 := (hF246 5).trans s189
    have s251 := (hF246 6).trans s190
    have s252 := (hF246 51).trans s191
    have s253 := (hF246 8).trans s192
    have s254 := (hF246 7).trans s193
    have s255 := (hF246 9).trans s194
    have s256 : F245 36 = .bool (decide (((rdOne l a s).2.1) = (0))) := (hF246 36).trans rfl
    clear hF246
    refine then_normal ?_
    refine wq_cond s256 (fun c257 => ?_) (fun c257 => ?_)
    ·replace c257 := of_decide_eq_true c257
     refine wq_seq ?_
     have hR := rd_bad (by omega) hI (by unfold rdBad; first | exact Or.inl (by assumption) | exact Or.inr (Or.inl (by omega)) | exact Or.inr (Or.inr (by assumption)))
     refine wq_region ?_
     refine wl_v (blkV (fun _ => 0)) rfl rfl (y_buildR (cells := (arrL 16 (fun _ => 0)).toArray) rfl (by kernel_rfl) rfl ⟨rfl, rfl⟩) ?_
     refine wl_store_blk blkT_arr rfl rfl rfl s248 rfl B176 fun w258 B259 k260 => ?_
     have B261 := B174.all k260 (fun i h x => ((ap181) i h x))
     have K264 := K179.trans k260 (Grew.ok (S := T_r) gr7 noB_le)
     refine wl_v (.int .i64 (60)) rfl rfl (y_asg rfl rfl ⟨rfl, rfl⟩) ?_
     refine wl_nil fun F265 hF266 => ?_
     have s267 := (hF266 2).trans s248
     have s268 := (hF266 51).trans s252
     have s269 : F265 3 = .int .i64 (60) := (hF266 3).trans rfl
     clear hF266
     refine then_normal ?_
     refine wq_ret ?_
     refine then_ret ?_
     refine in_ret ?_
     refine then_ret ?_
     refine then_ret ?_
     refine in_ret ?_
     refine then_ret ?_
     exact end_2 s268 rfl (res_blk blkT_arr rfl s267 B259) (res_tmp (v := .int .i64 (60)) rfl s269) ⟨T173, (by rw [hR]), K264, ⟨(by rw [hR]; exact B261), gr180⟩⟩
    ·replace c257 := of_decide_eq_false c257
     refine wq_skip ?_
     refine then_normal ?_
     refine wq_seq ?_
     have hN : ¬ rdBad (rdOne l a s) := by unfold rdBad; rintro (h | h | h); rw [show (rdOne l a s).2.2.isNone = false by assumption] at h; cases h; omega; exact absurd h (by assumption)
     have ho := ord_lt (rdOne l a s).1 (by omega)
     refine wq_region ?_
     refine wl_v (.int .i64 ((((rdOne l a s).1 : Nat) : Int))) rfl rfl (y_mov rfl s254 ⟨rfl, rfl⟩) ?_
     refine wl_v (.pointer (some ⟨p21, (rdOne l a s).1, none⟩)) rfl rfl (y_atR ((rdOne l a s).1) (s := 1) rfl s249 rfl (by omega) Tryd.underlying24 (by omega) (by kernel_rfl) (by omega) ⟨rfl, rfl⟩) ?_
     refine wl_v (.int .i64 (((ord (rdOne l a s).1 : Nat) : Int))) rfl rfl (y_ldR rfl rfl Tryd.underlying3 (((B177).cell (by omega)).trans (some_int rfl)) ⟨rfl, rfl⟩) ?_
     refine wl_v (.int .i64 ((rdOne l a s).2.1)) rfl rfl (y_mov rfl s255 ⟨rfl, rfl⟩) ?_
     refine wl_v (.pointer (some ⟨p45, ord (rdOne l a s).1, none⟩)) rfl rfl (y_atR (ord (rdOne l a s).1) (s := 1) rfl s250 rfl (by omega) Tryd.underlying24 (by omega) (by kernel_rfl) (by omega) ⟨rfl, rfl⟩) ?_
     refine wl_set_blk rfl rfl rfl rfl rfl B178 (by omega) (by kernel_rfl) fun w270 B271 k272 => ?_
     have B273 := B174.all k272 (fun i h x => ((ap183) i h x))
     have B274 := B176.all k272 (fun x => (((ap53).symm) p1 rfl x))
     have B275 := B177.all k272 (fun x => (((ap54).symm) p21 rfl x))
     have K276 := K179.trans k272 (Grew.ok (S := T_r) gr51 noB_le)
     refine wl_nil fun F277 hF278 => ?_
     have s279 := (hF278 0).trans s247
     have s280 := (hF278 2).trans s248
     have s281 := (hF278 4).trans s249
     have s282 := (hF278 5).trans s250
     have s283 := (hF278 6).trans s251
     have s284 := (hF278 51).trans s252
     have s285 := (hF278 8).trans s253
     have s286 := (hF278 7).trans s254
     clear hF278
     refine then_normal ?_
     refine wq_region ?_
     refine wl_v (.int .i64 ((((rdOne l a s).1 : Nat) : Int))) rfl rfl (y_mov rfl s286 ⟨rfl, rfl⟩) ?_
     refine wl_v (.int .i64 (((((rdOne l a s).1) + 1 : Nat) : Int))) rfl rfl (y_add rfl rfl rfl (i64_n (by omega) (by omega)) ⟨rfl, rfl⟩) ?_
     refine wl_v (.int .i64 (((((rdOne l a s).1) + 1 : Nat) : Int))) rfl rfl (y_asg rfl rfl ⟨rfl, rfl⟩) ?_
     refine wl_nil fun F287 hF288 => ?_
     have s289 := (hF288 0).trans s279
     have s290 := (hF288 2).trans s280
     have s291 := (hF288 4).trans s281
     have s292 := (hF288 5).trans s282
     have s293 := (hF288 6).trans s283
     have s294 := (hF288 51).trans s284
     have s295 := (hF288 8).trans s285
     have s296 : F287 7 = .int .i64 (((((rdOne l a s).1) + 1 : Nat) : Int)) := (hF288 7).trans rfl
     clear hF288
     refine in_normal ?_
     refine then_normal ?_
     refine wq_region ?_
     refine wl_v (.int .i64 (((i : Nat) : Int))) rfl rfl (y_mov rfl s295 ⟨rfl, rfl⟩) ?_
     refine wl_v (.int .i64 (((i + 1 : Nat) : Int))) rfl rfl (y_add rfl rfl rfl (i64_n (by omega) (by omega)) ⟨rfl, rfl⟩) ?_
     refine wl_v (.int .i64 (((i + 1 : Nat) : Int))) rfl rfl (y_asg rfl rfl ⟨rfl, rfl⟩) ?_
     refine wl_nil fun F297 hF298 => ?_
     have s299 := (hF298 0).trans s289
     have s300 := (hF298 2).trans s290
     have s301 := (hF298 4).trans s291
     have s302 := (hF298 5).trans s292
     have s303 := (hF298 6).trans s293
     have s304 := (hF298 51).trans s294
     have s305 := (hF298 7).trans s296
     have s306 : F297 8 = .int .i64 (((i + 1 : Nat) : Int)) := (hF298 8).trans rfl
     clear hF298
     exact then_normal ⟨(M - (i + 1)), by omega, i + 1, (rdOne l a s).1 + 1, (upd b (ord (rdOne l a s).1) (rdOne l a s).2.1), (rdOne l a s).2.2, T173, by omega, by omega, (rd_ok (by omega) hI hN), rfl, s299, s300, s301, s302, s303, s304, s305, s306, K276, B273, B274, B275, B271, gr180, ap181, ap182, ap183⟩
 ·replace c147 := of_decide_eq_false c147
  refine wq_exit ?_
  refine then_exit ?_
  refine then_exit ?_
  refine in_here ?_
  refine then_normal ?_
  refine wq_seq ?_
  refine wq_seq ?_
  refine wq_region ?_
  refine wl_v (.pointer (some ⟨p, 0, none⟩)) rfl rfl (y_mov rfl s138 ⟨rfl, rfl⟩) ?_
  refine wl_v (.pointer (some ⟨p, 0, none⟩)) rfl rfl (y_nilc rfl rfl ⟨rfl, rfl⟩) ?_
  refine wl_v (.pointer (some ⟨p, 2, none⟩)) rfl rfl (y_fieldR (n := 1) rfl rfl Tryd.underlying45 rfl (by kernel_rfl) (by decide) rfl ⟨rfl, rfl⟩) ?_
  refine wl_v (.bool ((s).isNone)) rfl rfl (y_rf_lost rfl rfl B128 rfl ⟨rfl, rfl⟩) ?_
  refine wl_nil fun F307 hF308 => ?_
  have s309 := (hF308 2).trans s139
  have s310 := (hF308 5).trans s141
  have s311 := (hF308 51).trans s143
  have s312 : F307 48 = .bool ((s).isNone) := (hF308 48).trans rfl
  clear hF308
  refine then_normal ?_
  refine wq_cond s312 (fun c313 => ?_) (fun c313 => ?_)
  ·skip
   refine wq_seq ?_
   have hR := (rd_done (by omega) hI).1 (by assumption)
   refine wq_region ?_
   refine wl_v (blkV (fun _ => 0)) rfl rfl (y_buildR (cells := (arrL 16 (fun _ => 0)).toArray) rfl (by kernel_rfl) rfl ⟨rfl, rfl⟩) ?_
   refine wl_store_blk blkT_arr rfl rfl rfl s309 rfl B129 fun w314 B315 k316 => ?_
   have B317 := B128.all k316 (fun i h x => ((ap133) i h x))
   have K320 := K116.trans k316 (Grew.ok (S := T_r) gr7 noB_le)
   refine wl_v (.int .i64 (60)) rfl rfl (y_asg rfl rfl ⟨rfl, rfl⟩) ?_
   refine wl_nil fun F321 hF322 => ?_
   have s323 := (hF322 2).trans s309
   have s324 := (hF322 51).trans s311
   have s325 : F321 3 = .int .i64 (60) := (hF322 3).trans rfl
   clear hF322
   refine then_normal ?_
   refine wq_ret ?_
   refine then_ret ?_
   exact end_2 s324 rfl (res_blk blkT_arr rfl s323 B315) (res_tmp (v := .int .i64 (60)) rfl s325) ⟨T113, (by rw [hR]), K320, ⟨(by rw [hR]; exact B317), gr132⟩⟩
  ·skip
   refine wq_skip ?_
   refine then_normal ?_
   refine wq_seq ?_
   have hR := (rd_done (by omega) hI).2 (by assumption)
   refine wq_region ?_
   refine wl_v (blkV (b)) rfl rfl (y_load_blk blkT_arr rfl s310 B131 ⟨rfl, rfl⟩) ?_
   refine wl_store_blk blkT_arr rfl rfl rfl s309 rfl B129 fun w326 B327 k328 => ?_
   have B329 := B128.all k328 (fun i h x => ((ap133) i h x))
   have K332 := K116.trans k328 (Grew.ok (S := T_r) gr7 noB_le)
   refine wl_v (.int .i64 (0)) rfl rfl (y_asg rfl rfl ⟨rfl, rfl⟩) ?_
   refine wl_nil fun F333 hF334 => ?_
   have s335 := (hF334 2).trans s309
   have s336 := (hF334 51).trans s311
   have s337 : F333 3 = .int .i64 (0) := (hF334 3).trans rfl
   clear hF334
   refine then_normal ?_
   refine wq_ret ?_
   exact end_2 s336 rfl (res_blk blkT_arr rfl s335 B327) (res_tmp (v := .int .i64 (0)) rfl s337) ⟨T113, (by rw [hR]), K332, ⟨(by rw [hR]; exact B329), gr132⟩⟩
end Go.Proofs.YtdcbabgcbkdlhaaDoor
set_option maxRecDepth 100000
namespace Go.Proofs.YtdcbabgcbkdlhaaDoor

def tellR (s : Nat × List (Nat × Int)) (x : Int) : Nat × List (Nat × Int) := if x = 0 then (s.1 + 1, s.2) else (0, s.2 ++ [(s.1, x)])
def goneTo (b : Nat → Int) (k : Nat) : Nat × List (Nat × Int) := ((List.range k).map (lvl b)).foldl tellR (0, [])
theorem goneTo_succ (b : Nat → Int) (k : Nat) : goneTo b (k + 1) = tellR (goneTo b k) (lvl b k) := by simp [goneTo, List.range_succ]
theorem gone_zero (b : Nat → Int) (k : Nat) (h : lvl b k = 0) : goneTo b (k + 1) = ((goneTo b k).1 + 1, (goneTo b k).2) := by rw [goneTo_succ, tellR, if_pos h]
theorem gone_some (b : Nat → Int) (k : Nat) (h : ¬ lvl b k = 0) : goneTo b (k + 1) = (0, (goneTo b k).2 ++ [((goneTo b k).1, lvl b k)]) := by rw [goneTo_succ, tellR, if_neg h]
theorem gone_le (b : Nat → Int) (k : Nat) : (goneTo b k).1 ≤ k ∧ (goneTo b k).2.length ≤ k := by
  induction k with
  | zero => simp [goneTo]
  | succ k ih =>
    rw [goneTo_succ]
    unfold tellR
    split
    · simp only; omega
    · simp only [List.length_append, List.length_cons, List.length_nil]; omega
theorem tellR_all (xs : List Int) : ∀ s : Nat × List (Nat × Int), (xs.foldl tellR s).2 = s.2 ++ runs s.1 xs := by
  induction xs with
  | nil => intro s; simp [runs]
  | cons x xs ih =>
    intro s
    rw [List.foldl_cons, ih]
    unfold tellR
    by_cases hx : x = 0
    · rw [if_pos hx]; simp [runs, hx]
    · rw [if_neg hx]; simp [runs, hx]
theorem gone_all (b : Nat → Int) : (goneTo b 16).2 = runs 0 (lvls b) := by
  have h := tellR_all (lvls b) (0, []); rw [List.nil_append] at h; exact h
theorem runBits_append (a b : List (Nat × Int)) : runBits (a ++ b) = runBits a ++ runBits b := by
  induction a with
  | nil => rfl
  | cons p a ih => simp [runBits, ih]
theorem runBits_one (a : List (Nat × Int)) (p : Nat × Int) (z : List Bool) : ((z ++ runBits a) ++ wholeBits (p.1 : Nat)) ++ signedBits p.2 = z ++ runBits (a ++ [p]) := by
  rw [runBits_append]; simp [runBits]
theorem room16 {bs : List Bool} {pre : List (Nat × Int)} (n : Int) (h : bs.length + 4096 < 1099511627776) (hl : pre.length < 16) : ((bs ++ wholeBits n) ++ runBits pre).length + 200 < 1099511627776 := by
  have h1 := wholeBits_short n
  have h2 := runBits_length pre
  rw [List.length_append, List.length_append]; omega

def gBig : Int := 9223372036854775807
def gOne (l : List Nat) (a : Nat) (s : Option Nat) : Nat × Int × Option Nat := (a + (rdStep (wholeRd l gBig) s).1.toNat, rdStep (signedRd l gBig) (rdStep (wholeRd l gBig) s).2)
def gRest (l : List Nat) : Nat → Nat → (Nat → Int) → Option Nat → (Nat → Int) × Int × Option Nat
  | 0, _, b, s => (b, 0, s)
  | k + 1, a, b, s => if 16 ≤ (gOne l a s).1 then (fun _ => 0, 60, (rdStep (wholeRd l gBig) s).2)
    else if (gOne l a s).2.1 = 0 ∨ (gOne l a s).2.1 ≠ cl 1048576 (gOne l a s).2.1 then (fun _ => 0, 60, (gOne l a s).2.2)
    else gRest l k ((gOne l a s).1 + 1) (upd b (ord (gOne l a s).1) (gOne l a s).2.1) (gOne l a s).2.2
def gRd (l : List Nat) (s : Option Nat) : (Nat → Int) × Int × Option Nat :=
  if (rdStep (wholeRd l gBig) s).2.isNone = true ∨ 16 < (rdStep (wholeRd l gBig) s).1 then (fun _ => 0, 60, (rdStep (wholeRd l gBig) s).2)
  else gRest l (rdStep (wholeRd l gBig) s).1.toNat 0 (fun _ => 0) (rdStep (wholeRd l gBig) s).2

theorem gw_bounds (l : List Nat) (a : Nat) (n : Int) (a' : Nat) (h : wholeAt l a = some (n, a')) : 0 ≤ n ∧ n ≤ 8589934592 := by
  have := wholeFrom_le l a 33 0 n a' (by omega) h
  omega
theorem gBig_whole (l : List Nat) (s : Option Nat) : 0 ≤ (rdStep (wholeRd l gBig) s).1 ∧ (rdStep (wholeRd l gBig) s).1 ≤ 8589934592 := by
  cases s with
  | none => simp [rdStep]
  | some a =>
    cases h : wholeAt l a with
    | none => simp [rdStep, wholeRd, h]
    | some p =>
      obtain ⟨n, a'⟩ := p
      have hb := gw_bounds l a n a' h
      have e : rdStep (wholeRd l gBig) (some a) = (n, some a') := by
        have : ¬ gBig < n := by unfold gBig; omega
        simp [rdStep, wholeRd, h, this]
      rw [e]; exact hb
theorem gBig_at (l : List Nat) (a : Nat) (s : Option Nat) : (a : Int) + (rdStep (wholeRd l gBig) s).1 = (((gOne l a s).1 : Nat) : Int) ∧ (gOne l a s).1 ≤ a + 8589934592 := by
  have h := gBig_whole l s
  unfold gOne
  simp only
  omega

def Alike (r r' : (Nat → Int) × Int × Option Nat) : Prop := r.1 = r'.1 ∧ r.2.1 = r'.2.1 ∧ (r'.2.1 = 0 → r = r')
theorem Alike.bad (s s' : Option Nat) : Alike (fun _ => 0, 60, s) (fun _ => 0, 60, s') := ⟨rfl, rfl, fun h => absurd (show (60 : Int) = 0 from h) (by decide)⟩
theorem cl_id20 (n : Int) : cl 1048576 n = n ↔ (-1048576 ≤ n ∧ n ≤ 1048576) := by unfold cl; omega

theorem gw_big (l : List Nat) (a : Nat) (n : Int) (a' : Nat) (h : wholeAt l a = some (n, a')) : rdStep (wholeRd l gBig) (some a) = (n, some a') := by
  have hb := gw_bounds l a n a' h
  have : ¬ gBig < n := by unfold gBig; omega
  simp [rdStep, wholeRd, h, this]
theorem gw_lost (l : List Nat) (m : Int) (a : Nat) (h : wholeAt l a = none) : rdStep (wholeRd l m) (some a) = (0, none) := by simp [rdStep, wholeRd, h]
theorem gw_far (l : List Nat) (m : Int) (a : Nat) (n : Int) (a' : Nat) (h : wholeAt l a = some (n, a')) (hm : m < n) : rdStep (wholeRd l m) (some a) = (0, none) := by simp [rdStep, wholeRd, h, hm]
theorem gw_near (l : List Nat) (m : Int) (a : Nat) (n : Int) (a' : Nat) (h : wholeAt l a = some (n, a')) (hm : ¬ m < n) : rdStep (wholeRd l m) (some a) = (n, some a') := by simp [rdStep, wholeRd, h, hm]
theorem gs_lost (l : List Nat) (m : Int) (a : Nat) (h : wholeAt l a = none) : rdStep (signedRd l m) (some a) = (0, none) := by simp [rdStep, signedRd, h]
theorem gs_big (l : List Nat) (a : Nat) (n : Int) (a' : Nat) (h : wholeAt l a = some (n, a')) : rdStep (signedRd l gBig) (some a) = (unsign n, some a') := by
  have hb := gw_bounds l a n a' h
  have : ¬ (gBig < unsign n ∨ gBig < -unsign n) := by
    unfold gBig unsign
    split <;> omega
  simp only [rdStep, signedRd, h, if_neg this]
theorem gs_far (l : List Nat) (m : Int) (a : Nat) (n : Int) (a' : Nat) (h : wholeAt l a = some (n, a')) (hm : m < unsign n ∨ m < -unsign n) : rdStep (signedRd l m) (some a) = (0, none) := by simp only [rdStep, signedRd, h, if_pos hm]
theorem gs_near (l : List Nat) (m : Int) (a : Nat) (n : Int) (a' : Nat) (h : wholeAt l a = some (n, a')) (hm : ¬ (m < unsign n ∨ m < -unsign n)) : rdStep (signedRd l m) (some a) = (unsign n, some a') := by simp only [rdStep, signedRd, h, if_neg hm]

/-- In a step that goes wrong both go wrong; else both go on alike. -/
theorem gRest_alike (l : List Nat) : ∀ (k a : Nat) (b : Nat → Int) (s : Nat), Alike (gRest l k a b (some s)) (rdRest l k a b (some s)) := by
  intro k
  induction k with
  | zero => intro a b s; exact ⟨rfl, rfl, fun _ => rfl⟩
  | succ k ih =>
    intro a b s
    rw [gRest, rdRest]
    cases hw : wholeAt l s with
    | none =>
      have e1 : (rdOne l a (some s)) = (a, 0, none) := by
        unfold rdOne; rw [gw_lost l 15 s hw]; simp [rdStep]
      have e2 : (gOne l a (some s)) = (a, 0, none) := by
        unfold gOne; rw [gw_lost l gBig s hw]; simp [rdStep]
      rw [e1, e2, if_pos (show rdBad (a, 0, none) from .inl rfl)]
      split
      · exact Alike.bad _ _
      · rw [if_pos (.inl rfl)]; exact Alike.bad _ _
    | some p =>
      obtain ⟨n, s1⟩ := p
      have hb := gw_bounds l s n s1 hw
      have eg : gOne l a (some s) = (a + n.toNat, rdStep (signedRd l gBig) (some s1)) := by unfold gOne; rw [gw_big l s n s1 hw]
      by_cases hf : 15 < n
      · have e1 : rdOne l a (some s) = (a, 0, none) := by
          unfold rdOne; rw [gw_far l 15 s n s1 hw hf]; simp [rdStep]
        rw [e1, if_pos (show rdBad (a, 0, none) from .inl rfl), eg, if_pos (show 16 ≤ a + n.toNat by omega)]
        exact Alike.bad _ _
      · have e1 : rdOne l a (some s) = (a + n.toNat, rdStep (signedRd l 1048576) (some s1)) := by unfold rdOne; rw [gw_near l 15 s n s1 hw hf]
        rw [e1, eg]
        by_cases h16 : 16 ≤ a + n.toNat
        · rw [if_pos h16, if_pos (show rdBad _ from .inr (.inl (by simp only; omega)))]
          exact Alike.bad _ _
        · rw [if_neg h16]
          cases hw2 : wholeAt l s1 with
          | none =>
            rw [gs_lost l gBig s1 hw2, gs_lost l 1048576 s1 hw2, if_pos (.inl rfl), if_pos (show rdBad _ from .inl rfl)]
            exact Alike.bad _ _
          | some q =>
            obtain ⟨m, s2⟩ := q
            rw [gs_big l s1 m s2 hw2]
            by_cases hfar : (1048576 : Int) < unsign m ∨ (1048576 : Int) < -unsign m
            · rw [gs_far l 1048576 s1 m s2 hw2 hfar, if_pos (show rdBad _ from .inl rfl), if_pos (.inr (fun h => by have := (cl_id20 (unsign m)).1 h.symm; omega))]
              exact Alike.bad _ _
            · rw [gs_near l 1048576 s1 m s2 hw2 hfar]
              have hc : unsign m = cl 1048576 (unsign m) := ((cl_id20 _).2 (by omega)).symm
              by_cases h0 : unsign m = 0
              · rw [if_pos (.inl h0), if_pos (show rdBad _ from .inr (.inr h0))]
                exact Alike.bad _ _
              · have hn1 : ¬ (unsign m = 0 ∨ unsign m ≠ cl 1048576 (unsign m)) := by
                  rintro (h | h)
                  · exact h0 h
                  · exact h hc
                have hn2 : ¬ rdBad (a + n.toNat, unsign m, some s2) := by
                  rintro (h | h | h)
                  · cases h
                  · simp only at h; omega
                  · exact h0 h
                rw [if_neg hn1, if_neg hn2]
                exact ih _ _ _
theorem gRd_alike (l : List Nat) (st : Option Nat) : Alike (gRd l st) (scanRd l st) := by
  unfold gRd scanRd
  cases st with
  | none =>
    have e1 : ∀ m, rdStep (wholeRd l m) none = (0, none) := fun m => rfl
    rw [e1, e1, if_pos (.inl rfl)]
    exact Alike.bad _ _
  | some s =>
    cases hw : wholeAt l s with
    | none =>
      rw [gw_lost l gBig s hw, gw_lost l 16 s hw, if_pos (.inl rfl)]
      exact Alike.bad _ _
    | some p =>
      obtain ⟨n, s1⟩ := p
      rw [gw_big l s n s1 hw]
      by_cases hf : 16 < n
      · rw [if_pos (.inr hf), gw_far l 16 s n s1 hw hf]
        exact Alike.bad _ _
      · rw [gw_near l 16 s n s1 hw hf, if_neg (by rintro (h | h); cases h; exact hf h)]
        exact gRest_alike l _ _ _ _
/-- The reader behind it. -/
def rdSt (l : List Nat) (st : Option Nat) : Option Nat := (gRd l st).2.2
theorem rdSt_ok {l : List Nat} {st : Option Nat} (h : (scanRd l st).2.1 = 0) : rdSt l st = (scanRd l st).2.2 := by unfold rdSt; rw [(gRd_alike l st).2.2 h]

theorem g_far {l : List Nat} {M i a : Nat} {b : Nat → Int} {s : Option Nat} {R : (Nat → Int) × Int × Option Nat} (hi : i < M) (h : gRest l (M - i) a b s = R) (hb : 16 ≤ (gOne l a s).1) : R = (fun _ => 0, 60, (rdStep (wholeRd l gBig) s).2) := by
  obtain ⟨k, hk⟩ : ∃ k, M - i = k + 1 := ⟨M - i - 1, by omega⟩
  rw [hk, gRest, if_pos hb] at h
  exact h.symm
theorem g_bad {l : List Nat} {M i a : Nat} {b : Nat → Int} {s : Option Nat} {R : (Nat → Int) × Int × Option Nat} (hi : i < M) (h : gRest l (M - i) a b s = R) (ha : ¬ 16 ≤ (gOne l a s).1) (hb : (gOne l a s).2.1 = 0 ∨ (gOne l a s).2.1 ≠ cl 1048576 (gOne l a s).2.1) : R = (fun _ => 0, 60, (gOne l a s).2.2) := by
  obtain ⟨k, hk⟩ : ∃ k, M - i = k + 1 := ⟨M - i - 1, by omega⟩
  rw [hk, gRest, if_neg ha, if_pos hb] at h
  exact h.symm
theorem g_ok {l : List Nat} {M i a : Nat} {b : Nat → Int} {s : Option Nat} {R : (Nat → Int) × Int × Option Nat} (hi : i < M) (h : gRest l (M - i) a b s = R) (ha : ¬ 16 ≤ (gOne l a s).1) (hb : ¬ ((gOne l a s).2.1 = 0 ∨ (gOne l a s).2.1 ≠ cl 1048576 (gOne l a s).2.1)) :
    gRest l (M - (i + 1)) ((gOne l a s).1 + 1) (upd b (ord (gOne l a s).1) (gOne l a s).2.1) (gOne l a s).2.2 = R := by
  obtain ⟨k, hk⟩ : ∃ k, M - i = k + 1 := ⟨M - i - 1, by omega⟩
  rw [hk, gRest, if_neg ha, if_neg hb] at h
  rw [show M - (i + 1) = k by omega]
  exact h
theorem g_done {l : List Nat} {M i a : Nat} {b : Nat → Int} {s : Option Nat} {R : (Nat → Int) × Int × Option Nat} (hi : ¬ i < M) (h : gRest l (M - i) a b s = R) : R = (b, 0, s) := by
  rw [show M - i = 0 by omega, gRest] at h
  exact h.symm
theorem g_none {l : List Nat} {s : Option Nat} (h : (rdStep (wholeRd l gBig) s).2.isNone = true ∨ 16 < (rdStep (wholeRd l gBig) s).1) : gRd l s = (fun _ => 0, 60, (rdStep (wholeRd l gBig) s).2) := by unfold gRd; rw [if_pos h]
theorem g_start {l : List Nat} {s : Option Nat} {M : Nat} (h1 : (rdStep (wholeRd l gBig) s).2.isNone = false) (h2 : ¬ 16 < (rdStep (wholeRd l gBig) s).1) (hM : M = (rdStep (wholeRd l gBig) s).1.toNat) : gRest l (M - 0) 0 (fun _ => 0) (rdStep (wholeRd l gBig) s).2 = gRd l s := by
  unfold gRd
  rw [if_neg (by rintro (h | h); rw [h1] at h; cases h; exact h2 h), ← hM]; rfl
/-- What is answered, told as the document has it. -/
theorem told_as {l : List Nat} {s : Option Nat} {b : Nat → Int} {n : Int} {t : Option Nat} (h : gRd l s = (b, n, t)) : b = (scanRd l s).1 ∧ n = (scanRd l s).2.1 ∧ rdSt l s = t := by
  have ha := gRd_alike l s
  have hs : rdSt l s = (gRd l s).2.2 := rfl
  rw [h] at ha hs
  exact ⟨ha.1, ha.2.1, hs⟩
end Go.Proofs.YtdcbabgcbkdlhaaDoor
set_option maxRecDepth 100000
namespace Go.Proofs.YtdcbabgcbkdlhaaDoor
open Go.RowKit

/-- As Q; by a jump: what holds there. -/
def jumpP (J : Nat → (Nat → Value) → World → Prop) (Q : (Exit → (Nat → Value) → World → Prop)) : (Exit → (Nat → Value) → World → Prop)
  | .goto l, F, w => J l F w
  | e, F, w => Q e F w
def stayP (Q : (Exit → (Nat → Value) → World → Prop)) : (Exit → (Nat → Value) → World → Prop)
  | .goto _, _, _ => False
  | e, F, w => Q e F w

theorem wp_scope_ahead {P : Program} {a : Act} {w : World} {Q : Exit → Act → World → Prop} {c : Code} (J : Nat → Act → World → Prop)
    (first : c.wp P (fun e a w => match e with | .goto l => J l a w | e => Q e a w) a w)
    (pass : ∀ l a w, J l a w → ∃ rest, findLabel c l = some rest ∧ rest.wp P (Exit.noGoto Q) a w) : (Code.scope c).wp P Q a w := by
  intro b k cs
  obtain ⟨e, a₁, w₁, hq, harr⟩ := first b (.inScope c :: k) cs
  cases e with
  | normal => exact ⟨.normal, a₁, w₁, hq, .head step_scope (Steps.trans harr (.one step_inScope))⟩
  | exit id => exact ⟨.exit id, a₁, w₁, hq, fun k' hk => .head step_scope (harr k' (by simp [exitTo, hk]))⟩
  | goto l =>
    obtain ⟨rest, hf, hr⟩ := pass l a₁ w₁ hq
    have hg : gotoIn l (.inScope c :: k) = some (.code rest :: .inScope c :: k) := by simp [gotoIn, hf]
    obtain ⟨e₂, a₂, w₂, hq₂, harr₂⟩ := hr b (.inScope c :: k) cs
    have hs : Go.Steps P (lone (b.at a (.code (.scope c) :: k)) cs w) (lone (b.at a₁ (.code rest :: .inScope c :: k)) cs w₁) := .head step_scope (harr _ hg)
    cases e₂ with
    | normal => exact ⟨.normal, a₂, w₂, hq₂, Steps.trans hs (Steps.trans harr₂ (.one step_inScope))⟩
    | exit id => exact ⟨.exit id, a₂, w₂, hq₂, fun k' hk => Steps.trans hs (harr₂ k' (by simp [exitTo, hk]))⟩
    | goto l' => exact hq₂.elim
    | ret => exact ⟨_, a₂, w₂, hq₂, .of_steps hs harr₂⟩
    | panic ch => exact ⟨_, a₂, w₂, hq₂, .of_steps hs harr₂⟩
    | outgrown => exact ⟨_, a₂, w₂, hq₂, .of_steps hs harr₂⟩
  | ret => exact ⟨_, a₁, w₁, hq, .of_steps (.one step_scope) harr⟩
  | panic ch => exact ⟨_, a₁, w₁, hq, .of_steps (.one step_scope) harr⟩
  | outgrown => exact ⟨_, a₁, w₁, hq, .of_steps (.one step_scope) harr⟩

section
variable {ro : Option Nat} {P : Program} {N : Nat} {Q : (Exit → (Nat → Value) → World → Prop)} {F : Nat → Value} {w : World}
theorem wq_scope {c : Code} (h : wq none P N c (jumpP (fun l F w => ∃ rest, findLabel c l = some rest ∧ wq none P N rest (stayP Q) F w) Q) F w) : wq none P N (.scope c) Q F w := by
  intro a ha
  refine wpIn_wide.2 ?_
  refine wp_scope_ahead (fun l a w => ∃ F, Fr N F a ∧ ∃ rest, findLabel c l = some rest ∧ wq none P N rest (stayP Q) F w) (wp_mono (wpIn_wide.1 (h a ha)) ?_) ?_
  · rintro e a' w' ⟨F', hF, hq⟩
    cases e <;> exact ⟨F', hF, hq⟩
  · rintro l a' w' ⟨F', hF, rest, hf, hr⟩
    refine ⟨rest, hf, wp_mono (wpIn_wide.1 (hr a' hF)) ?_⟩
    rintro e a'' w'' ⟨F'', hF'', hq⟩
    cases e <;> first | exact ⟨F'', hF'', hq⟩ | exact hq.elim
theorem wq_goto {l : Nat} (h : Q (.goto l) F w) : wq ro P N (.goto l) Q F w := fun _ ha => wpIn_goto ⟨F, ha, h⟩
theorem then_goto {next : (Nat → Value) → World → Prop} {l : Nat} (h : Q (.goto l) F w) : thenP next Q (.goto l) F w := h
theorem in_goto {id l : Nat} (h : Q (.goto l) F w) : inP id Q (.goto l) F w := h
theorem jump_ret {J : Nat → (Nat → Value) → World → Prop} (h : Q .ret F w) : jumpP J Q .ret F w := h
theorem jump_goto {J : Nat → (Nat → Value) → World → Prop} {l : Nat} (h : J l F w) : jumpP J Q (.goto l) F w := h
theorem stay_ret (h : Q .ret F w) : stayP Q .ret F w := h
end

/-- A package variable of sixteen ints. -/
def BlkG (w : World) (p : Nat) (b : Nat → Int) : Prop := ∃ t f, w.heap[p]? = some (.cells (arrL 16 b).toArray t f)
theorem BlkG.all {S : Nat → Prop} {w w' : World} {p : Nat} {b : Nat → Int} (h : BlkG w p b) (k : Kept S w w') (hn : ¬ S p) : BlkG w' p b := by
  obtain ⟨t, f, h⟩ := h; exact ⟨t, f, k.at h hn⟩
theorem BlkG.lt {w : World} {p : Nat} {b : Nat → Int} (h : BlkG w p b) : p < w.heap.size := by obtain ⟨t, f, h⟩ := h; exact lt_of_heap h
theorem BlkG.cell {w : World} {p : Nat} {b : Nat → Int} (h : BlkG w p b) {i : Nat} (hi : i < 16) : w.cell? ⟨p, i, none⟩ = some (.int .i64 (b i)) := by
  obtain ⟨t, f, h⟩ := h
  rw [cell_of_heap h, List.getElem?_toArray]; exact arrL_at hi
theorem y_load_glob {ρ : Operand → Value} {o : Oper} {w : World} {R : Value → World → Prop} {ty : TypeId} {x : Operand} {p : Nat} {b : Nat → Int} (hT : BlkT ty) (ho : o.op = .load ty x) (hx : ρ x = .pointer (some ⟨p, 0, none⟩)) (hB : BlkG w p b) (h : R (blkV b) w) : Yields Tryd.prog ρ o w R := by
  obtain ⟨t, f, hB⟩ := hB
  exact y_load_row ho p hx _ t f _ hB hT.1 rfl (hT.size b) h
end Go.Proofs.YtdcbabgcbkdlhaaDoor
set_option maxRecDepth 100000
namespace Go.Proofs.YtdcbabgcbkdlhaaDoor
open Go.RowKit

/-- The marks' blocks are shut, one behind the other. -/
def shut : List Nat → World → World
  | [], w => w
  | D :: ms, w => shut ms (w.putObj D (.deferred none))
def Opens : List Nat → World → Prop
  | [], _ => True
  | D :: ms, w => w.heap[D]? = some (.deferred (some [])) ∧ Opens ms (w.putObj D (.deferred none))

def endM (P : Program) (fn : Func) (N : Nat) (R : Ending → World → Prop) : (Exit → (Nat → Value) → World → Prop)
  | .normal, F, w | .ret, F, w => ∃ ms, F N = markV ms ∧ Opens ms w ∧ ∀ a, Fr N F a → ∃ v, (results fn a.tmps).run P (shut ms w) = .ok v (shut ms w) ∧ R (.returned v) (shut ms w)
  | _, _, _ => False

theorem leaves_marks {P : Program} {fn : Func} {tmps : Array Value} {R : Ending → World → Prop} : ∀ (ms : List Nat) (w : World), Opens ms w → (∃ v, (results fn tmps).run P (shut ms w) = .ok v (shut ms w) ∧ R (.returned v) (shut ms w)) →
    LeavesInM Fence.wide 0 P fn tmps R (ms.map fun D => { target := .collected D, args := #[] }) .returning w := by
  intro ms
  induction ms with
  | nil =>
    intro w _ h
    exact h
  | cons D ms ih =>
    intro w ho h
    exact ⟨by simp, .inl ⟨D, _, rfl, run_takeDeferred ho.1, ih _ ho.2 h⟩⟩

theorem calls_wm {P : Program} {f : FuncId} {fn : Func} {c : Code} {args : List Value} {w : World} {R : Ending → World → Prop} (N : Nat) (hf : P.funcs[f]? = some fn) (hb : fn.body = some c) (hn : fn.ntmps = N) (hl : args.length ≤ N)
    (h : wq none P N c (endM P fn N R) (argF args) w) : Calls P f args.toArray w R := by
  refine callsIn_wide (n := 0).1 ?_
  refine callsIn_of_wp_marks hf hb trivial ?_
  subst hn
  have hs : (args.toArray ++ Array.replicate (fn.ntmps - args.toArray.size) undef).size = fn.ntmps := by simp; omega
  have hu : argF args fn.ntmps = undef := by
    unfold argF
    rw [List.getD_eq_getElem?_getD, List.getElem?_eq_none hl]; rfl
  refine wpIn_mono (h _ ⟨hs, by rw [hu]; rfl, fun t _ => ?_⟩) ?_
  · unfold argF
    simp only [Array.getD_eq_getD_getElem?, List.getD_eq_getElem?_getD]
    by_cases h1 : t < args.length
    · rw [Array.getElem?_append_left (by simpa using h1)]; simp
    · rw [Array.getElem?_append_right (by simp; omega), List.getElem?_eq_none (by omega)]
      by_cases h2 : t < fn.ntmps
      · rw [Array.getElem?_replicate]; split <;> rfl
      · rw [Array.getElem?_eq_none (by simp; omega)]
  · rintro e a' w' ⟨F', hF, hq⟩
    cases e <;> first
      | (obtain ⟨ms, hm, ho, hr⟩ := hq
         show LeavesInM Fence.wide 0 P fn a'.tmps R a'.defers .returning w'
         rw [hF.defers, hm, marked, marksOf_markV]
         exact leaves_marks ms w' ho (hr a' hF))
      | exact hq.elim
end Go.Proofs.YtdcbabgcbkdlhaaDoor
