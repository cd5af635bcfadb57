/- What VectorFields reaches of my texts, part 1. -/
import Derived.Test.YthhagejcgobfgaaChecked
import Derived.WalkKit
import Derived.WalkSpells
import Derived.WalkLawsBesides
import Derived.BigQuiet
import Derived.BigRegion
import Derived.Deep.QuietTactic
import Derived.Lib.Hide
import Derived.Laws.OwnMore
import Derived.Shelf.Strconv.Itoa0
import Derived.Lib.ItoaNum
import Derived.Test.YthhagejcgobfgaaProg
import Derived.Deep.LoopGhost
import Derived.Deep.OwnRows
import Derived.Laws.CopyOwn
import Derived.Deep.RegionWith
import Derived.Defers
import Derived.Recover
import Derived.Conc.MuLone
import Derived.OpenShut
import Derived.Orders
import Derived.TacticsIn
import Derived.RangeFuncCalls
import Derived.IntWalk
import Derived.Deep.WholeRow
import Derived.Deep.MidRow
import Derived.Laws.Tables
import Derived.ChangeKeysEq
import Derived.RangeFuncLeaves
import Derived.RangeFuncRecord
import Derived.RangeFuncNested
import Derived.LoopNIn
import Derived.Laws.MakeOwn
import Derived.Laws.Cover1
import Derived.Lib.MakeNoZero
import Derived.Laws.Externs
import Derived.Great.BuildSlice
import Derived.MapKept
import Derived.ProofKit
import Derived.Deep.Slices
import Derived.Deep.Strs
import Derived.ChangeOld
import Derived.Below
namespace Go.Proofs.Ythhagejcgobfgaa
open Go.RowKit

/-- Every block that was there, but those of S, is as it was. -/
structure Kept (S : Nat → Prop) (w w' : World) : Prop where
  os : w'.os = w.os
  tape : w'.tape = w.tape
  output : w'.output = w.output
  size : w.heap.size ≤ w'.heap.size
  block : ∀ k, k < w.heap.size → ¬ S k → w'.heap[k]? = w.heap[k]?

theorem Kept.refl (S : Nat → Prop) (w : World) : Kept S w w := ⟨rfl, rfl, rfl, Nat.le_refl _, fun _ _ _ => rfl⟩

theorem Kept.trans {S S' : Nat → Prop} {a b c : World} (h : Kept S a b) (k : Kept S' b c) (hs : ∀ i, i < a.heap.size → S' i → S i) : Kept S a c :=
  ⟨k.os.trans h.os, k.tape.trans h.tape, k.output.trans h.output, Nat.le_trans h.size k.size,
   fun i hi hn => (k.block i (Nat.lt_of_lt_of_le hi h.size) (fun x => hn (hs i hi x))).trans (h.block i hi hn)⟩

theorem Kept.mono {S S' : Nat → Prop} {a b : World} (h : Kept S a b) (hs : ∀ i, i < a.heap.size → S i → S' i) : Kept S' a b :=
  ⟨h.os, h.tape, h.output, h.size, fun i hi hn => h.block i hi (fun x => hn (hs i hi x))⟩

theorem Kept.drew {S : Nat → Prop} {a w : World} (h : Kept S a w) : Kept S a w.drew := ⟨h.os, h.tape, h.output, h.size, h.block⟩

theorem drewN_all (w : World) (n : Nat) : (w.drewN n).os = w.os ∧ (w.drewN n).tape = w.tape ∧ (w.drewN n).output = w.output ∧ (w.drewN n).heap = w.heap := ⟨rfl, rfl, rfl, rfl⟩

theorem Kept.drewN {S : Nat → Prop} {a w : World} (h : Kept S a w) (n : Nat) : Kept S a (w.drewN n) := by
  obtain ⟨e1, e2, e3, e4⟩ := drewN_all w n
  exact ⟨e1.trans h.os, e2.trans h.tape, e3.trans h.output, by rw [e4]; exact h.size, by rw [e4]; exact h.block⟩

theorem Kept.alloc {S : Nat → Prop} {a w : World} (h : Kept S a w) (o : Obj) : Kept S a (w.alloc o) :=
  h.trans (S' := fun _ => False) ⟨rfl, rfl, rfl, by simp, fun k hk _ => Below.heap_alloc _ _ _ (by omega)⟩ (fun _ _ x => x.elim)

theorem Kept.setCell {S : Nat → Prop} {a w : World} (h : Kept S a w) (p : Addr) (hp : p.block < a.heap.size → S p.block) (u : Value) : Kept S a (w.setCell p u) :=
  h.trans (S' := fun k => k = p.block) ⟨rfl, rfl, rfl, by simp [World.setCell], fun k hk hn => Below.heap_setCell _ _ _ _ hn⟩ (fun i hi x => by subst x; exact hp hi)

theorem Kept.grown {S : Nat → Prop} {a w w' : World} {row : Option Nat} (h : Kept S a w) (hg : w.grownBy w' row) (hr : ∀ k, row = some k → k < a.heap.size → S k) : Kept S a w' :=
  h.trans (S' := fun k => row = some k) ⟨hg.os, hg.tape, hg.output, hg.size, fun k hk hn => hg.block k hk (fun e => hn e.symm)⟩ (fun i hi x => hr i x hi)

theorem Kept.below {S : Nat → Prop} {B : Nat} {w w' : World} (h : Kept S w w') (hB : B ≤ w.heap.size) (hs : ∀ k, k < B → ¬ S k) : Below B w w' :=
  ⟨h.os, h.tape, h.output, h.size, fun k hk => h.block k (by omega) (hs k hk)⟩

theorem Below.kept {w w' : World} (h : Below w.heap.size w w') : Kept (fun _ => False) w w' :=
  ⟨h.os, h.tape, h.output, h.size, fun k hk _ => h.block k hk⟩

theorem lt_of_heap {w : World} {k : Nat} {o : Obj} (h : w.heap[k]? = some o) : k < w.heap.size := (Array.getElem?_eq_some_iff.1 h).1

theorem Kept.at {S : Nat → Prop} {w w' : World} (h : Kept S w w') {k : Nat} {o : Obj} (hk : w.heap[k]? = some o) (hn : ¬ S k) : w'.heap[k]? = some o :=
  (h.block k (lt_of_heap hk) hn).trans hk

theorem heap_setCell_same (w : World) (b off : Nat) (v : Value) {c : Array Value} {e : TypeId} {f : Nat × Nat} (h : w.heap[b]? = some (.cells c e f)) :
    (w.setCell ⟨b, off, none⟩ v).heap[b]? = some (.cells (c.setIfInBounds off v) e f) := by
  simp [World.setCell, Array.getElem?_modify, h]

theorem heap_setCell_other (w : World) (b off k : Nat) (v : Value) (h : k ≠ b) : (w.setCell ⟨b, off, none⟩ v).heap[k]? = w.heap[k]? :=
  Below.heap_setCell w ⟨b, off, none⟩ v k h

theorem cell_of_heap {w : World} {b off : Nat} {c : Array Value} {e : TypeId} {f : Nat × Nat} (h : w.heap[b]? = some (.cells c e f)) : w.cell? ⟨b, off, none⟩ = c[off]? := by
  simp [World.cell?, h]

theorem frozen_of_heap {w : World} {b off : Nat} {c : Array Value} {e : TypeId} (h : w.heap[b]? = some (.cells c e (0, 0))) : w.frozen? ⟨b, off, none⟩ = false := by
  simp [World.frozen?, h]

/-- append on a slice of the call's own: the array is the one that it was, or a new one. -/
theorem run_append_whose {P : Program} (w : World) (t ty e : TypeId) (i : TypeInfo) (z : Value) (size bytes : Nat) (ht : P.underlying t = some (.slice e)) (hi : P.info? e = some i) (hz : i.zero = some z)
    (hsize : i.size = size) (hby : i.bytes = bytes) (hzs : z.cells.size = size) (hsz : 0 < size)
    (v : Value) (n : Nat) (xs : List Value) (hown : w.ownsRow 0 e size v n xs)
    (a : Addr) (m c : Nat) (news : List Value) (hl : news.length = m * size) (hnews : ∀ j u, news[j]? = some u → w.cell? (a.add j) = some u) (h1 : ∀ u ∈ news, u.oneCell' = true)
    (h63 : n + m ≤ maxLen) (hbytes : (n + m) * bytes ≤ 140737488355328) :
    ∃ v' w', (Builtin.append_ #[t, t] ty #[v, .slice (some a) m c]).run P w = .ok v' w' ∧ w'.ownsRow 0 e size v' (n + m) (xs ++ news) ∧ w.grownBy w' v.ownBlock ∧
      (v'.ownBlock = v.ownBlock ∨ ∃ g, v'.ownBlock = some g ∧ w.heap.size ≤ g) := by
  obtain ⟨v', w', hr, ho, hg, _⟩ := run_append_own (P := P) w 0 t ty e i z size bytes ht hi hz hsize hby hzs hsz v n xs hown a m c news hl hnews h1 h63 hbytes (Nat.zero_le _)
  refine ⟨v', w', hr, ho, hg, ?_⟩
  rcases hown.2 with ⟨rfl, rfl⟩ | ⟨g, cap, cur, rfl, _, hgg, hnc, hcm, hcs, htake⟩
  · have hx : xs = [] := List.eq_nil_of_length_eq_zero (by simpa using hown.1)
    subst hx
    obtain ⟨v2, w2, hr2, ho2, _, _⟩ := run_append_own (P := P) w w.heap.size t ty e i z size bytes ht hi hz hsize hby hzs hsz _ 0 [] (World.ownsRow_nil w w.heap.size e size) a m c news hl hnews h1 h63 hbytes (Nat.le_refl _)
    rw [hr] at hr2
    cases hr2
    rcases ho2.2 with ⟨rfl, _⟩ | ⟨g, cap, cur, rfl, hb, _⟩
    · exact .inl rfl
    · exact .inr ⟨g, rfl, hb⟩
  · subst hsize
    by_cases hroom : n + m ≤ cap
    · have hfit : n * i.size + news.length ≤ cur.size := by rw [hl, hcs, ← Nat.add_mul]; exact Nat.mul_le_mul_right _ hroom
      have hr2 := run_append_room (P := P) w t ty e i ht hi g n cap cur hgg a m c news hl hnews h1 hroom hfit
      rw [hr] at hr2
      cases hr2
      exact .inl rfl
    · subst hby
      have hr2 := run_append_grow (P := P) w t ty e i z ht hi hz ⟨g, 0, none⟩ n cap xs hown.1 (hown.cells (g := g) rfl) a m c news hl hnews (by omega) (by unfold maxLen at h63; omega) (growslice_fits (by omega) hbytes)
      rw [hr] at hr2
      cases hr2
      exact .inr ⟨w.heap.size, rfl, Nat.le_refl _⟩

theorem wpList_append_whose {P : Program} (w : World) {ops : Array Oper} {rest : List Oper} {o : Oper} {a : Act} {Q : Exit → Act → World → Prop} (hgd : o.guard = none) (s x : Operand) (t : TypeId)
    (ho : o.op = .call { callee := .builtin .append, args := #[s, x], argTypes := #[t, t] })
    (e : TypeId) (i : TypeInfo) (z : Value) (size bytes : Nat) (ht : P.underlying t = some (.slice e)) (hi : P.info? e = some i) (hz : i.zero = some z)
    (hsize : i.size = size) (hby : i.bytes = bytes) (hzs : z.cells.size = size) (hsz : 0 < size)
    (v : Value) (n : Nat) (xs : List Value) (hs : a.eval s = v) (hown : w.ownsRow 0 e size v n xs)
    (ad : Addr) (m c : Nat) (news : List Value) (hx : a.eval x = .slice (some ad) m c) (hl : news.length = m * size) (hnews : ∀ j u, news[j]? = some u → w.cell? (ad.add j) = some u) (h1 : ∀ u ∈ news, u.oneCell' = true)
    (h63 : n + m ≤ maxLen) (hbytes : (n + m) * bytes ≤ 140737488355328)
    (h : ∀ v' w', w'.ownsRow 0 e size v' (n + m) (xs ++ news) → w.grownBy w' v.ownBlock → (v'.ownBlock = v.ownBlock ∨ ∃ g, v'.ownBlock = some g ∧ w.heap.size ≤ g) → wpList P ops Q rest (a.put o.dst v') w') : wpList P ops Q (o :: rest) a w := by
  refine wpList_plain hgd fun K hK => ?_
  obtain ⟨v', w', hr, h2, h3, h4⟩ := run_append_whose (P := P) w t o.type e i z size bytes ht hi hz hsize hby hzs hsz v n xs hown ad m c news hl hnews h1 h63 hbytes
  unfold Oper.wp execOp
  simp only [ho, resolve, invoke, builtin, Sem.run_bind, Sem.run_pure, Result.andThen_ok, List.map_toArray, List.map_cons, List.map_nil, hs, hx, hr]
  exact hK _ _ (h v' w' h2 h3 h4)

end Go.Proofs.Ythhagejcgobfgaa
namespace Go.Proofs.Ythhagejcgobfgaa
open Go.RowKit

/-- The cells of bytes. -/
def byteVals (l : List Nat) : List Value := l.map fun x : Nat => .int .u8 (x : Int)

theorem byteVals_length (l : List Nat) : (byteVals l).length = l.length := by simp [byteVals]
theorem byteVals_at (l : List Nat) (i : Nat) (h : i < l.length) : (byteVals l)[i]? = some (.int .u8 (l.getD i 0 : Nat)) := by
  simp [byteVals, List.getD, h]

theorem Try.info_u8 : (Try.prog.info? 5).map (fun i => (i.zero, i.size, i.bytes)) = some (some (.int .u8 0), 1, 1) := by kernel_rfl

/-- A slice of the bytes l that can be read. -/
def BytesArg (w : World) (v : Value) (l : List Nat) : Prop :=
  ∃ a cap, v = .slice a l.length cap ∧ l.length ≤ cap ∧ cap ≤ maxLen ∧ (a = none → cap = 0) ∧ (∀ x ∈ l, x < 256) ∧
    (0 < l.length → ∃ b off, a = some ⟨b, off, none⟩ ∧ b < w.heap.size ∧ ∀ i, i < l.length → w.cell? ⟨b, off + i, none⟩ = some (.int .u8 (l.getD i 0 : Nat)))

theorem BytesArg.kept {S : Nat → Prop} {w w' : World} {v : Value} {l : List Nat} (h : BytesArg w v l) (k : Kept S w w') (hs : ∀ i, i < w.heap.size → ¬ S i) : BytesArg w' v l := by
  obtain ⟨a, cap, rfl, h1, h2, h3, hl, hc⟩ := h
  refine ⟨a, cap, rfl, h1, h2, h3, hl, fun hpos => ?_⟩
  obtain ⟨b, off, rfl, hb, hcell⟩ := hc hpos
  exact ⟨b, off, rfl, Nat.lt_of_lt_of_le hb k.size, fun i hi => (World.cell?_of_block (k.block b hb (hs b hb))).trans (hcell i hi)⟩

theorem BytesArg.all {w w' : World} {v : Value} {l : List Nat} (h : BytesArg w v l) (k : Kept (fun _ => False) w w') : BytesArg w' v l := h.kept k (fun _ _ x => x)

theorem BytesArg.lt256 {w : World} {v : Value} {l : List Nat} (h : BytesArg w v l) : ∀ x ∈ l, x < 256 := by
  obtain ⟨a, cap, rfl, h1, h2, h3, hl, hc⟩ := h; exact hl

theorem BytesArg.nil (w : World) : BytesArg w (.slice none 0 0) [] := ⟨none, 0, rfl, Nat.le_refl _, Nat.zero_le _, fun _ => rfl, by simp, by simp⟩

/-- A row of the call's own, of the bytes l; its block is B or above. -/
def Row (w : World) (B : Nat) (v : Value) (l : List Nat) : Prop := w.ownsRow B 5 1 v l.length (byteVals l) ∧ ∀ x ∈ l, x < 256

theorem Row.nil (w : World) (B : Nat) : Row w B (.slice none 0 0) [] := ⟨World.ownsRow_nil w B _ _, by simp⟩

theorem Row.lt {w : World} {B : Nat} {v : Value} {l : List Nat} (h : Row w B v l) : ∀ k, v.ownBlock = some k → B ≤ k ∧ k < w.heap.size := h.1.lt

theorem Row.kept {S : Nat → Prop} {w w' : World} {B : Nat} {v : Value} {l : List Nat} (h : Row w B v l) (k : Kept S w w') (hs : ∀ g, v.ownBlock = some g → ¬ S g) : Row w' B v l := by
  obtain ⟨⟨h0, h1⟩, h2⟩ := h
  refine ⟨⟨h0, ?_⟩, h2⟩
  rcases h1 with hn | ⟨g, cap, cur, rfl, hb, hg, rest⟩
  · exact .inl hn
  · exact .inr ⟨g, cap, cur, rfl, hb, k.at hg (hs g rfl), rest⟩

theorem Row.all {w w' : World} {B : Nat} {v : Value} {l : List Nat} (h : Row w B v l) (k : Kept (fun _ => False) w w') : Row w' B v l := h.kept k (fun _ _ x => x)

theorem Row.base {w : World} {B B' : Nat} {v : Value} {l : List Nat} (h : Row w B v l) (hb : B' ≤ B) : Row w B' v l := by
  obtain ⟨⟨h0, h1⟩, h2⟩ := h
  refine ⟨⟨h0, ?_⟩, h2⟩
  rcases h1 with hn | ⟨g, cap, cur, rfl, hb', rest⟩
  · exact .inl hn
  · exact .inr ⟨g, cap, cur, rfl, by omega, rest⟩

theorem Row.bytes {w : World} {B : Nat} {v : Value} {l : List Nat} (h : Row w B v l) : BytesArg w v l := by
  obtain ⟨h, h256⟩ := h
  rcases h.2 with ⟨rfl, h0⟩ | ⟨g, cap, cur, rfl, hb, hg, hc, hm, hs, ht⟩
  · have hl : l = [] := List.eq_nil_of_length_eq_zero h0
    subst hl; exact BytesArg.nil w
  · refine ⟨some ⟨g, 0, none⟩, cap, rfl, hc, hm, by simp, h256, fun hpos => ⟨g, 0, rfl, lt_of_heap hg, fun i hi => ?_⟩⟩
    rw [Nat.zero_add, h.cellAt i (by omega)]
    exact byteVals_at l i hi

theorem Row.of_new {w : World} {B g : Nat} {l : List Nat} (h : w.heap[g]? = some (.cells (byteVals l).toArray 5 (0, 0))) (hB : B ≤ g) (hm : l.length ≤ maxLen) (h256 : ∀ x ∈ l, x < 256) :
    Row w B (.slice (some ⟨g, 0, none⟩) l.length l.length) l := by
  refine ⟨⟨by rw [byteVals_length]; omega, .inr ⟨g, l.length, _, rfl, hB, h, Nat.le_refl _, hm, by simp [byteVals_length], ?_⟩⟩, h256⟩
  rw [List.take_of_length_le (by simp [byteVals_length])]

/-- A byte that lies in a block of its own. -/
theorem BytesArg.box (w : World) (c : Nat) (h : c < 256) : BytesArg (w.alloc (.cells #[.int .u8 (c : Int)] 5)) (.slice (some ⟨w.heap.size, 0, none⟩) 1 1) [c] := by
  refine ⟨_, 1, rfl, Nat.le_refl _, by unfold maxLen; omega, by simp, by simpa using h, fun _ => ⟨w.heap.size, 0, rfl, by simp, fun i hi => ?_⟩⟩
  have hi0 : i = 0 := by simpa using hi
  subst hi0
  simp

/-- Behind w0 there is a row of the bytes l; of what was there in w0 nothing has turned. -/
def Own (w0 w : World) (v : Value) (l : List Nat) : Prop := Row w w0.heap.size v l ∧ Kept (fun _ => False) w0 w

theorem Own.nil {w0 w : World} (k : Kept (fun _ => False) w0 w) : Own w0 w (.slice none 0 0) [] := ⟨Row.nil w _, k⟩

theorem Own.all {w0 w w' : World} {v : Value} {l : List Nat} (h : Own w0 w v l) (k : Kept (fun _ => False) w w') : Own w0 w' v l := ⟨h.1.all k, h.2.trans k (fun _ _ x => x)⟩

end Go.Proofs.Ythhagejcgobfgaa
namespace Go.Proofs.Ythhagejcgobfgaa
open Go.RowKit

theorem toNat_le_one (x : Bool) : x.toNat ≤ 1 := by cases x <;> decide
/-- A byte of eight bits, the highest first. -/
def byteOf (b : Nat → Bool) : Nat :=
  (b 0).toNat * 128 + (b 1).toNat * 64 + (b 2).toNat * 32 + (b 3).toNat * 16 + (b 4).toNat * 8 + (b 5).toNat * 4 + (b 6).toNat * 2 + (b 7).toNat

theorem byteOf_lt (b : Nat → Bool) : byteOf b < 256 := by
  have := toNat_le_one (b 0); have := toNat_le_one (b 1); have := toNat_le_one (b 2); have := toNat_le_one (b 3)
  have := toNat_le_one (b 4); have := toNat_le_one (b 5); have := toNat_le_one (b 6); have := toNat_le_one (b 7)
  unfold byteOf; omega

/-- One bit more in a byte whose bits from there on are 0. -/
theorem byteOf_set (b b' : Nat → Bool) (j : Nat) (hj : j < 8) (x : Bool) (h : ∀ i, i < 8 → b' i = if i = j then x else b i) (h0 : ∀ i, i < 8 → j ≤ i → b i = false) :
    byteOf b' = byteOf b + x.toNat * 2 ^ (7 - j) ∧ byteOf b % 2 ^ (8 - j) = 0 := by
  have := toNat_le_one (b 0); have := toNat_le_one (b 1); have := toNat_le_one (b 2); have := toNat_le_one (b 3)
  have := toNat_le_one (b 4); have := toNat_le_one (b 5); have := toNat_le_one (b 6); have := toNat_le_one (b 7)
  have g0 := h 0 (by omega); have g1 := h 1 (by omega); have g2 := h 2 (by omega); have g3 := h 3 (by omega)
  have g4 := h 4 (by omega); have g5 := h 5 (by omega); have g6 := h 6 (by omega); have g7 := h 7 (by omega)
  have z0 := h0 0 (by omega); have z1 := h0 1 (by omega); have z2 := h0 2 (by omega); have z3 := h0 3 (by omega)
  have z4 := h0 4 (by omega); have z5 := h0 5 (by omega); have z6 := h0 6 (by omega); have z7 := h0 7 (by omega)
  unfold byteOf
  rw [g0, g1, g2, g3, g4, g5, g6, g7]
  match j, hj with
  | 0, _ => simp at z0 z1 z2 z3 z4 z5 z6 z7; simp [z0, z1, z2, z3, z4, z5, z6, z7]
  | 1, _ => simp at z1 z2 z3 z4 z5 z6 z7; simp [z1, z2, z3, z4, z5, z6, z7]; try omega
  | 2, _ => simp at z2 z3 z4 z5 z6 z7; simp [z2, z3, z4, z5, z6, z7]; try omega
  | 3, _ => simp at z3 z4 z5 z6 z7; simp [z3, z4, z5, z6, z7]; try omega
  | 4, _ => simp at z4 z5 z6 z7; simp [z4, z5, z6, z7]; try omega
  | 5, _ => simp at z5 z6 z7; simp [z5, z6, z7]; try omega
  | 6, _ => simp at z6 z7; simp [z6, z7]; try omega
  | 7, _ => simp at z7; simp [z7]; try omega

theorem byteOf_congr {f g : Nat → Bool} (h : ∀ j, j < 8 → f j = g j) : byteOf f = byteOf g := by
  unfold byteOf
  rw [h 0 (by omega), h 1 (by omega), h 2 (by omega), h 3 (by omega), h 4 (by omega), h 5 (by omega), h 6 (by omega), h 7 (by omega)]

/-- How many bytes so many bits take. -/
def nbytes (n : Nat) : Nat := (n + 7) / 8

/-- The bytes of bits, with bits 0 up to the last byte's end. -/
def pack (bs : List Bool) : List Nat := (List.range (nbytes bs.length)).map fun i => byteOf fun j => bs.getD (8 * i + j) false

theorem pack_length (bs : List Bool) : (pack bs).length = nbytes bs.length := by simp [pack]

theorem pack_getD (bs : List Bool) (i : Nat) (h : i < nbytes bs.length) : (pack bs).getD i 0 = byteOf fun j => bs.getD (8 * i + j) false := by
  simp [pack, List.getD, h]

/-- The bit at a place of bytes. -/
def bitAt (l : List Nat) (i : Nat) : Bool := (l.getD (i / 8) 0).testBit (7 - i % 8)

/-- The bytes that are there when a bit is put: one more, if none is open. -/
def pack0 (bs : List Bool) : List Nat := if bs.length % 8 = 0 then pack bs ++ [0] else pack bs

theorem pack0_length (bs : List Bool) : (pack0 bs).length = bs.length / 8 + 1 := by
  unfold pack0; split <;> simp [pack_length, nbytes] <;> omega

theorem pack_snoc (bs : List Bool) (b : Bool) :
    (pack0 bs).getD (bs.length / 8) 0 % 2 ^ (8 - bs.length % 8) = 0 ∧ (pack0 bs).getD (bs.length / 8) 0 < 256 ∧
    pack (bs ++ [b]) = (pack0 bs).set (bs.length / 8) ((pack0 bs).getD (bs.length / 8) 0 + b.toNat * 2 ^ (7 - bs.length % 8)) := by
  have hold : (pack0 bs).getD (bs.length / 8) 0 = byteOf fun j => bs.getD (8 * (bs.length / 8) + j) false := by
    unfold pack0
    split
    · rename_i h
      have e : (pack bs).length = bs.length / 8 := by rw [pack_length]; unfold nbytes; omega
      rw [← e]
      have z : ∀ j, bs.getD (8 * (pack bs).length + j) false = false := by
        intro j; rw [List.getD, List.getElem?_eq_none (by omega)]; rfl
      have e0 : (pack bs ++ [0]).getD (pack bs).length 0 = 0 := by simp [List.getD]
      rw [e0]
      simp only [byteOf, z]; rfl
    · exact pack_getD bs _ (by unfold nbytes; omega)
  have hset := byteOf_set (fun j => bs.getD (8 * (bs.length / 8) + j) false) (fun j => (bs ++ [b]).getD (8 * (bs.length / 8) + j) false) (bs.length % 8) (Nat.mod_lt _ (by decide)) b
    (by
      intro i hi
      simp only [List.getD]
      by_cases h1 : 8 * (bs.length / 8) + i < bs.length
      · rw [List.getElem?_append_left h1, if_neg (by omega)]
      · by_cases h2 : i = bs.length % 8
        · rw [if_pos h2, show 8 * (bs.length / 8) + i = bs.length by omega, List.getElem?_append_right (Nat.le_refl _)]; simp
        · rw [if_neg h2, List.getElem?_eq_none (by simp; omega), List.getElem?_eq_none (by omega)])
    (by intro i hi hle; simp only [List.getD]; rw [List.getElem?_eq_none (by omega)]; rfl)
  refine ⟨by rw [hold]; exact hset.2, by rw [hold]; exact byteOf_lt _, ?_⟩
  rw [hold, ← hset.1]
  refine List.ext_getElem? fun i => ?_
  by_cases hi : i < bs.length / 8 + 1
  · have l1 : i < (pack (bs ++ [b])).length := by rw [pack_length]; simp [nbytes]; omega
    have l2 : i < nbytes (bs ++ [b]).length := by rw [← pack_length]; exact l1
    have e1 : (pack (bs ++ [b]))[i]? = some (byteOf fun j => (bs ++ [b]).getD (8 * i + j) false) := by
      rw [List.getElem?_eq_getElem l1]; simp [pack]
    rw [e1]
    by_cases hq : i = bs.length / 8
    · subst hq
      rw [List.getElem?_set_self (by rw [pack0_length]; omega)]
    · rw [List.getElem?_set_ne (by omega)]
      have l3 : i < nbytes bs.length := by unfold nbytes; omega
      have e2 : (pack0 bs)[i]? = (pack bs)[i]? := by
        unfold pack0; split
        · rw [List.getElem?_append_left (by rw [pack_length]; exact l3)]
        · rfl
      rw [e2, List.getElem?_eq_getElem (by rw [pack_length]; exact l3)]
      simp only [pack, List.getElem_map, List.getElem_range, Option.some.injEq]
      refine byteOf_congr fun j hj => ?_
      simp only [List.getD]
      rw [List.getElem?_append_left (by omega)]
  · rw [List.getElem?_eq_none (by rw [pack_length]; simp [nbytes]; omega), List.getElem?_eq_none (by simp [pack0_length]; omega)]

end Go.Proofs.Ythhagejcgobfgaa
namespace Go.Proofs.Ythhagejcgobfgaa
open Go.RowKit

/-- At block p lies a writer of the bits bs, whose bytes lie in the block r (none: there are none yet). -/
def WrIs (w : World) (p : Nat) (r : Option Nat) (bs : List Bool) : Prop :=
  ∃ v, w.heap[p]? = some (.cells #[v, .int .i64 (bs.length : Int)] 41 (0, 0)) ∧ w.ownsRow 0 5 1 v (nbytes bs.length) (byteVals (pack bs)) ∧ v.ownBlock = r ∧ r ≠ some p

/-- The blocks of a writer. -/
def WrFoot (p : Nat) (r : Option Nat) (k : Nat) : Prop := k = p ∨ r = some k

theorem WrIs.lt {w : World} {p : Nat} {r : Option Nat} {bs : List Bool} (h : WrIs w p r bs) : p < w.heap.size := by
  obtain ⟨v, h, _⟩ := h; exact lt_of_heap h

theorem WrIs.foot_lt {w : World} {p : Nat} {r : Option Nat} {bs : List Bool} (h : WrIs w p r bs) {k : Nat} (hk : WrFoot p r k) : k < w.heap.size := by
  rcases hk with rfl | hk
  · exact h.lt
  · obtain ⟨v, _, ho, hv, _⟩ := h
    exact (ho.lt k (hv.trans hk)).2

theorem WrIs.kept {S : Nat → Prop} {w w' : World} {p : Nat} {r : Option Nat} {bs : List Bool} (h : WrIs w p r bs) (k : Kept S w w') (hs : ∀ i, WrFoot p r i → ¬ S i) : WrIs w' p r bs := by
  obtain ⟨v, h1, ho, hv, hr⟩ := h
  refine ⟨v, k.at h1 (hs p (.inl rfl)), ⟨ho.1, ?_⟩, hv, hr⟩
  rcases ho.2 with hn | ⟨g, cap, cur, rfl, hb, hg, rest⟩
  · exact .inl hn
  · exact .inr ⟨g, cap, cur, rfl, hb, k.at hg (hs g (.inr hv.symm)), rest⟩

/-- What a call that writes into the writer leaves: it has the bits bs, and nothing else that was there has turned. -/
def Wrote (w w' : World) (p : Nat) (r : Option Nat) (bs : List Bool) : Prop :=
  ∃ r', WrIs w' p r' bs ∧ (r' = r ∨ ∃ g, r' = some g ∧ w.heap.size ≤ g) ∧ Kept (WrFoot p r) w w'

theorem Wrote.refl {w : World} {p : Nat} {r : Option Nat} {bs : List Bool} (h : WrIs w p r bs) : Wrote w w p r bs := ⟨r, h, .inl rfl, Kept.refl _ _⟩

theorem Wrote.trans {a b c : World} {p : Nat} {r r' : Option Nat} {bs : List Bool} (hk : Kept (WrFoot p r) a b) (hr : r' = r ∨ ∃ g, r' = some g ∧ a.heap.size ≤ g) (h2 : Wrote b c p r' bs) : Wrote a c p r bs := by
  obtain ⟨r2, hw, hr2, hk2⟩ := h2
  refine ⟨r2, hw, ?_, hk.trans hk2 ?_⟩
  · rcases hr2 with rfl | ⟨g, rfl, hg⟩
    · exact hr
    · exact .inr ⟨g, rfl, Nat.le_trans hk.size hg⟩
  · intro i hi hf
    rcases hf with rfl | hf
    · exact .inl rfl
    · rcases hr with rfl | ⟨g, rfl, hg⟩
      · exact .inr hf
      · simp at hf; omega

/-- A writer that is about to take a bit: there is a byte for it. -/
def WrOpen (w : World) (p g cap : Nat) (bs : List Bool) : Prop :=
  ∃ cur, w.heap[p]? = some (.cells #[.slice (some ⟨g, 0, none⟩) (bs.length / 8 + 1) cap, .int .i64 (bs.length : Int)] 41 (0, 0)) ∧
    w.heap[g]? = some (.cells cur 5 (0, 0)) ∧ bs.length / 8 + 1 ≤ cap ∧ cap ≤ maxLen ∧ cur.size = cap ∧ cur.toList.take (bs.length / 8 + 1) = byteVals (pack0 bs) ∧ g ≠ p

theorem WrOpen.facts {w : World} {p g cap : Nat} {bs : List Bool} (h : WrOpen w p g cap bs) :
    w.cell? ⟨p, 0, none⟩ = some (.slice (some ⟨g, 0, none⟩) (bs.length / 8 + 1) cap) ∧ w.cell? ⟨p, 1, none⟩ = some (.int .i64 (bs.length : Int)) ∧ w.frozen? ⟨p, 1, none⟩ = false ∧
    w.cell? ⟨g, bs.length / 8, none⟩ = some (.int .u8 ((pack0 bs).getD (bs.length / 8) 0 : Nat)) ∧ w.frozen? ⟨g, bs.length / 8, none⟩ = false ∧ ¬ g = p := by
  obtain ⟨cur, h1, h2, hc, hm, hs, ht, hne⟩ := h
  refine ⟨by rw [cell_of_heap h1]; rfl, by rw [cell_of_heap h1]; rfl, frozen_of_heap h1, ?_, frozen_of_heap h2, hne⟩
  rw [cell_of_heap h2]
  have l1 : bs.length / 8 < (pack0 bs).length := by rw [pack0_length]; omega
  have e1 : (cur.toList.take (bs.length / 8 + 1))[bs.length / 8]? = some (.int .u8 ((pack0 bs).getD (bs.length / 8) 0 : Nat)) := by
    rw [ht]; simp [byteVals, List.getD, l1]
  rw [List.getElem?_take_of_lt (by omega)] at e1
  simpa using e1

theorem i64_and1 (n : Int) : bits .and .i64 n 1 = n % 2 := by
  have h1 : (BitVec.ofInt 64 1).toNat = 2 ^ 1 - 1 := by decide
  have key : (BitVec.ofInt 64 n &&& BitVec.ofInt 64 1).toNat = (n % ((2 ^ 64 : Nat) : Int)).toNat % 2 ^ 1 := by
    rw [BitVec.toNat_and, BitVec.toNat_ofInt, h1, Nat.and_two_pow_sub_one_eq_mod]
  show IntKind.i64.wrap ((BitVec.ofInt 64 n &&& BitVec.ofInt 64 1).toNat : Nat) = n % 2
  rw [key, IntKind.wrap_i64]
  omega

/-- The lowest bit of a number. -/
def lowBit (n : Int) : Bool := decide (n % 2 = 1)

theorem lowBit_toNat (n : Int) : ((lowBit n).toNat : Int) = n % 2 := by
  unfold lowBit
  rcases Int.emod_two_eq n with h | h <;> simp [h]

/-- The number that Bit stores. -/
theorem or_bit (x j : Nat) (b : Int) (hj : j < 8) (h0 : x % 2 ^ (8 - j) = 0) (hx : x < 256) :
    bits BinOp.or IntKind.u8 (x : Int) (bits BinOp.and IntKind.i64 b 1 % 256 * 2 ^ (7 - j) % 256) = ((x + (lowBit b).toNat * 2 ^ (7 - j) : Nat) : Int) := by
  have hb := toNat_le_one (lowBit b)
  have hp : (2 : Nat) ^ (7 - j) ≤ 128 := by
    have := Nat.pow_le_pow_right (n := 2) (by decide) (show 7 - j ≤ 7 by omega); simpa using this
  have hpp : 0 < (2 : Nat) ^ (7 - j) := Nat.two_pow_pos _
  have h8 : (2 : Nat) ^ (8 - j) = 2 * 2 ^ (7 - j) := by rw [show 8 - j = (7 - j) + 1 by omega, Nat.pow_succ]; omega
  have e1 : bits BinOp.and IntKind.i64 b 1 % 256 * 2 ^ (7 - j) % 256 = (((lowBit b).toNat * 2 ^ (7 - j) : Nat) : Int) := by
    rw [i64_and1, ← lowBit_toNat]
    have : (((lowBit b).toNat : Int) % 256) = (lowBit b).toNat := by omega
    rw [this]
    have h3 : ((lowBit b).toNat * 2 ^ (7 - j) : Nat) ≤ 128 := by
      rcases Nat.le_one_iff_eq_zero_or_eq_one.1 hb with h | h <;> rw [h] <;> omega
    have h4 : (((lowBit b).toNat * 2 ^ (7 - j) : Nat) : Int) = ((lowBit b).toNat : Int) * 2 ^ (7 - j) := by simp
    rw [← h4]; omega
  rw [e1]
  have hlt : (lowBit b).toNat * 2 ^ (7 - j) < 2 ^ (8 - j) := by
    rw [h8]; rcases Nat.le_one_iff_eq_zero_or_eq_one.1 hb with h | h <;> rw [h] <;> omega
  have hle : (2 : Nat) ^ (8 - j) ≤ 256 := by
    have := Nat.pow_le_pow_right (n := 2) (by decide) (show 8 - j ≤ 8 by omega); simpa using this
  rw [bits_join .u8 8 (by decide) wraps_u8 (8 - j) (x : Int) (((lowBit b).toNat * 2 ^ (7 - j) : Nat) : Int) (by omega) (by exact_mod_cast h0) (by omega) (by omega) (by exact_mod_cast hlt) (by omega)]
  simp

theorem WrOpen.done {w : World} {p g cap : Nat} {bs : List Bool} (h : WrOpen w p g cap bs) (b : Bool) :
    WrIs ((w.setCell ⟨g, bs.length / 8, none⟩ (.int .u8 (((pack0 bs).getD (bs.length / 8) 0 + b.toNat * 2 ^ (7 - bs.length % 8) : Nat) : Int))).setCell ⟨p, 1, none⟩ (.int .i64 ((bs.length : Int) + 1))).drew p (some g) (bs ++ [b]) := by
  obtain ⟨cur, h1, h2, hc, hm, hs, ht, hne⟩ := h
  refine ⟨.slice (some ⟨g, 0, none⟩) (bs.length / 8 + 1) cap, ?_, ⟨?_, .inr ⟨g, cap, cur.setIfInBounds (bs.length / 8) (.int .u8 (((pack0 bs).getD (bs.length / 8) 0 + b.toNat * 2 ^ (7 - bs.length % 8) : Nat) : Int)), ?_, Nat.zero_le _, ?_, ?_, hm, ?_, ?_⟩⟩, rfl, by simpa using hne⟩
  · show (World.setCell _ _ _).heap[p]? = _
    have e1 : (w.setCell ⟨g, bs.length / 8, none⟩ (.int .u8 (((pack0 bs).getD (bs.length / 8) 0 + b.toNat * 2 ^ (7 - bs.length % 8) : Nat) : Int))).heap[p]? = _ := (heap_setCell_other w g _ p _ (Ne.symm hne)).trans h1
    rw [heap_setCell_same _ p 1 _ e1]
    simp
  · rw [byteVals_length, pack_length]; simp
  · congr 1; simp [nbytes]; omega
  · show (World.setCell _ _ _).heap[g]? = _
    rw [heap_setCell_other _ p 1 g _ hne, heap_setCell_same _ g _ _ h2]
  · simp [nbytes]; omega
  · simp [hs]
  · have en : nbytes (bs ++ [b]).length * 1 = bs.length / 8 + 1 := by simp [nbytes]; omega
    rw [en, (pack_snoc bs b).2.2]
    simp only [Array.toList_setIfInBounds]
    rw [List.take_set, ht]
    simp [byteVals, List.map_set]

set_option maxHeartbeats 1000000 in
set_option maxRecDepth 100000 in
theorem bit_mid (p g cap : Nat) (bs : List Bool) (b : Int) (w : World) (hm : bs.length < 4611686018427387904) (hm8 : ((bs.length : Int) % 8 == 0) = false) (h : WrOpen w p g cap bs) :
    Calls Try.prog 43 #[.pointer (some ⟨p, 0, none⟩), .int .i64 b] w fun e w' => e = .returned (.tuple #[]) ∧ Wrote w w' p (some g) (bs ++ [lowBit b]) := by
  obtain ⟨h0, h1, f1, hx, fx, hgp⟩ := h.facts
  have hdone := h.done (lowBit b)
  obtain ⟨e8, e256, -⟩ := pack_snoc bs (lowBit b)
  have hor := or_bit ((pack0 bs).getD (bs.length / 8) 0) (bs.length % 8) b (Nat.mod_lt _ (by decide)) e8 e256
  have H := Lib.hid h; clear h
  have HD := Lib.hid hdone; clear hdone
  have HO := Lib.hid hor; clear hor e8 e256
  generalize hmm : bs.length = m at *
  have HM := Lib.hid hmm; clear hmm
  generalize hX : (pack0 bs).getD (m / 8) 0 = x at *
  have HX := Lib.hid hX; clear hX
  have hq : (m : Int) / 8 < ((m / 8 + 1 : Nat) : Int) := by omega
  have hq1 : 0 ≤ (m : Int) / 8 := by omega
  have hq2 : ((m : Int) / 8).toNat = m / 8 := by omega
  go_enter Try.func43, Try.ntmps43
  go_wp2_with (fail)
  go_region
  go_wp2
  go_end0
  refine ⟨rfl, some g, ?_, .inl rfl, ?_⟩
  · rw [HO.out]; exact HD.out
  · exact (((Kept.refl _ _).setCell _ (fun _ => .inr rfl) _).setCell _ (fun _ => .inl rfl) _).drew

theorem open_of_append {w w1 : World} {p : Nat} {r : Option Nat} {v v' : Value} {bs : List Bool} {o : Obj} (hm8 : bs.length % 8 = 0)
    (hp : w.heap[p]? = some (.cells #[v, .int .i64 (bs.length : Int)] 41 (0, 0))) (hr : r ≠ some p)
    (hown : w1.ownsRow 0 5 1 v' (nbytes bs.length + 1) (byteVals (pack bs) ++ [.int .u8 0])) (hgrow : (w.alloc o).grownBy w1 r)
    (hwhose : v'.ownBlock = r ∨ ∃ g, v'.ownBlock = some g ∧ w.heap.size + 1 ≤ g) :
    ∃ g cap, v' = .slice (some ⟨g, 0, none⟩) (bs.length / 8 + 1) cap ∧ WrOpen (w1.setCell ⟨p, 0, none⟩ v') p g cap bs ∧ (some g = r ∨ w.heap.size ≤ g) ∧ Kept (WrFoot p r) w w1 ∧
      w1.cell? ⟨p, 0, none⟩ = some v ∧ w1.frozen? ⟨p, 0, none⟩ = false ∧ w1.cell? ⟨p, 1, none⟩ = some (.int .i64 (bs.length : Int)) ∧ w1.frozen? ⟨p, 1, none⟩ = false ∧
      w1.cell? ⟨g, bs.length / 8, none⟩ = some (.int .u8 ((pack0 bs).getD (bs.length / 8) 0 : Nat)) ∧ w1.frozen? ⟨g, bs.length / 8, none⟩ = false ∧ ¬ g = p := by
  have hk : Kept (WrFoot p r) w w1 := ((Kept.refl _ _).alloc o).grown hgrow (fun k hk _ => .inr hk)
  have hn : nbytes bs.length = bs.length / 8 := by unfold nbytes; omega
  have hp0 : (w.alloc o).heap[p]? = some (.cells #[v, .int .i64 (bs.length : Int)] 41 (0, 0)) := (Below.heap_alloc w o p (lt_of_heap hp)).trans hp
  have hp1 : w1.heap[p]? = some (.cells #[v, .int .i64 (bs.length : Int)] 41 (0, 0)) := (hgrow.block p (lt_of_heap hp0) (fun e => hr e.symm)).trans hp0
  rcases hown.2 with ⟨_, h⟩ | ⟨g, cap, cur, rfl, _, hg, hc, hm, hs, ht⟩
  · omega
  have hgr : some g = r ∨ w.heap.size ≤ g := by
    rcases hwhose with h | ⟨g', h, hle⟩
    · exact .inl h
    · simp [Value.ownBlock] at h; subst h; exact .inr (by omega)
  have hne : g ≠ p := by
    rintro rfl
    rcases hgr with h | h
    · exact hr h.symm
    · have := lt_of_heap hp; omega
  have hop : WrOpen (w1.setCell ⟨p, 0, none⟩ (.slice (some ⟨g, 0, none⟩) (nbytes bs.length + 1) cap)) p g cap bs := by
    refine ⟨cur, ?_, ?_, by omega, hm, by simpa using hs, ?_, hne⟩
    · rw [heap_setCell_same _ p 0 _ hp1, hn]; simp
    · rw [heap_setCell_other _ p 0 g _ hne]; exact hg
    · rw [Nat.mul_one, hn] at ht
      rw [ht]; unfold pack0; rw [if_pos hm8]; simp [byteVals]
  have hf := hop.facts
  refine ⟨g, cap, by rw [hn], hop, hgr, hk, by rw [cell_of_heap hp1]; rfl, frozen_of_heap hp1, by rw [cell_of_heap hp1]; rfl, frozen_of_heap hp1, ?_, frozen_of_heap hg, hne⟩
  have h4 := hf.2.2.2.1
  rw [cell_of_heap ((heap_setCell_other _ p 0 g _ hne).trans hg)] at h4
  rw [cell_of_heap hg]; exact h4

set_option maxHeartbeats 1000000 in
set_option maxRecDepth 100000 in
theorem bit_new (p : Nat) (r : Option Nat) (v : Value) (bs : List Bool) (b : Int) (w : World) (hm : bs.length < 1099511627776) (hm8 : ((bs.length : Int) % 8 == 0) = true)
    (hp : w.heap[p]? = some (.cells #[v, .int .i64 (bs.length : Int)] 41 (0, 0))) (hown : w.ownsRow 0 5 1 v (nbytes bs.length) (byteVals (pack bs))) (hv : v.ownBlock = r) (hr : r ≠ some p) :
    Calls Try.prog 43 #[.pointer (some ⟨p, 0, none⟩), .int .i64 b] w fun e w' => e = .returned (.tuple #[]) ∧ Wrote w w' p r (bs ++ [lowBit b]) := by
  obtain ⟨i0, hi, hz0, hz1, hz2⟩ := info_parts Try.info_u8
  have h0 : w.cell? ⟨p, 0, none⟩ = some v := by rw [cell_of_heap hp]; rfl
  have h1 : w.cell? ⟨p, 1, none⟩ = some (.int .i64 (bs.length : Int)) := by rw [cell_of_heap hp]; rfl
  have f0 : w.frozen? ⟨p, 0, none⟩ = false := frozen_of_heap hp
  have hnb : nbytes bs.length ≤ 1099511627776 := by unfold nbytes; omega
  go_enter Try.func43, Try.ntmps43
  go_wp2_with (at_builtin; refine wpList_append_whose _ rfl (.tmp 16) (.tmp 17) 38 rfl 5 i0 (.int .u8 0) 1 1 Try.underlying38 hi hz0 hz1 hz2 rfl (by decide) v (nbytes bs.length) (byteVals (pack bs)) rfl (hown.alloc _) ⟨w.heap.size, 0, none⟩ 1 1 [.int .u8 0] rfl rfl ?c1 ?c2 ?b1 ?b2 ?_)
  case c1 => intro j u hj; match j, hj with | 0, hj => simp at hj; subst hj; simp [Addr.add]
  case c2 => intro u hu; simp at hu; subst hu; rfl
  case b1 => unfold maxLen; omega
  case b2 => omega
  intro v' w1 hown' hgrow hwhose
  have hmod : bs.length % 8 = 0 := by have := eq_of_beq hm8; omega
  obtain ⟨g, cap, rfl, hop, hgr, hk, k0, e0, k1, e1, kx, ex, hgp⟩ := open_of_append hmod hp hr hown' hgrow hwhose
  have hdone := hop.done (lowBit b)
  obtain ⟨e8, e256, -⟩ := pack_snoc bs (lowBit b)
  have hor := or_bit ((pack0 bs).getD (bs.length / 8) 0) (bs.length % 8) b (Nat.mod_lt _ (by decide)) e8 e256
  have HOP := Lib.hid hop; clear hop
  have HD := Lib.hid hdone; clear hdone
  have HO := Lib.hid hor; clear hor e8 e256
  have HK := Lib.hid hk; clear hk
  clear hown' hgrow hwhose hp hown hv h0 h1 f0 hi hz0 hz1 hz2
  generalize hmm : bs.length = m at *
  have HM := Lib.hid hmm; clear hmm
  generalize hX : (pack0 bs).getD (m / 8) 0 = x at *
  have HX := Lib.hid hX; clear hX
  have hq : (m : Int) / 8 < ((m / 8 + 1 : Nat) : Int) := by omega
  have hq1 : 0 ≤ (m : Int) / 8 := by omega
  have hq2 : ((m : Int) / 8).toNat = m / 8 := by omega
  have HR := Lib.hid hgr; clear hgr
  clear hmod
  go_wp2_with (fail)
  go_region
  go_wp2
  go_end0
  refine ⟨rfl, some g, ?_, ?_, ?_⟩
  · rw [HO.out]; exact HD.out
  · rcases HR.out with h | h
    · exact .inl h
    · exact .inr ⟨g, rfl, h⟩
  · refine (((HK.out.setCell _ (fun _ => .inl rfl) _).setCell _ (fun h => ?_) _).setCell _ (fun _ => .inl rfl) _).drew
    rcases HR.out with e | e
    · exact .inr e.symm
    · exact absurd h (by simpa using e)

theorem WrIs.opened {w : World} {p : Nat} {r : Option Nat} {bs : List Bool} (h : WrIs w p r bs) (hm : bs.length % 8 ≠ 0) : ∃ g cap, r = some g ∧ WrOpen w p g cap bs := by
  obtain ⟨v, h1, ho, hv, hr⟩ := h
  have hn : nbytes bs.length = bs.length / 8 + 1 := by unfold nbytes; omega
  rcases ho.2 with ⟨_, h⟩ | ⟨g, cap, cur, rfl, _, hg, hc, hcm, hs, ht⟩
  · omega
  refine ⟨g, cap, hv.symm, cur, by rw [hn] at h1; exact h1, hg, by omega, hcm, by simpa using hs, ?_, ?_⟩
  · rw [Nat.mul_one, hn] at ht
    rw [ht]; unfold pack0; rw [if_neg hm]
  · rintro rfl; exact hr hv.symm

theorem bit_any (p : Nat) (r : Option Nat) (bs : List Bool) (b : Int) (w : World) (hm : bs.length < 1099511627776) (h : WrIs w p r bs) :
    Calls Try.prog 43 #[.pointer (some ⟨p, 0, none⟩), .int .i64 b] w fun e w' => e = .returned (.tuple #[]) ∧ Wrote w w' p r (bs ++ [lowBit b]) := by
  by_cases h8 : bs.length % 8 = 0
  · obtain ⟨v, h1, ho, hv, hr⟩ := h
    exact bit_new p r v bs b w hm (beq_iff_eq.2 (by omega)) h1 ho hv hr
  · obtain ⟨g, cap, rfl, hop⟩ := h.opened h8
    exact bit_mid p g cap bs b w (by omega) (beq_eq_false_iff_ne.2 (by omega)) hop

/-- The lowest k bits of n, the highest first. -/
def fixedBits (n : Int) : Nat → List Bool
  | 0 => []
  | k + 1 => lowBit (n / 2 ^ k) :: fixedBits n k

theorem fixedBits_length (n : Int) (k : Nat) : (fixedBits n k).length = k := by
  induction k with
  | zero => rfl
  | succ k ih => simp [fixedBits, ih]

set_option maxHeartbeats 400000 in
theorem fixed_some (p : Nat) (r : Option Nat) (bs : List Bool) (n : Int) (k : Nat) (w : World) (hk : k ≤ 32) (hm : bs.length + 32 < 1099511627776) (h : WrIs w p r bs) :
    Calls Try.prog 57 #[.pointer (some ⟨p, 0, none⟩), .int .i64 n, .int .i64 k] w fun e w' => e = .returned (.tuple #[]) ∧ Wrote w w' p r (bs ++ fixedBits n k) := by
  have H0 := Lib.hid h; clear h
  go_enter Try.func57, Try.ntmps57
  go_wp2_with (fail)
  go_loopw [6] (fun i wr => ∃ (j : Nat) (done : List Bool), j ≤ k ∧ i = .int .i64 ((j : Int) - 1) ∧ done ++ fixedBits n j = fixedBits n k ∧ Wrote w wr p r (bs ++ done)) (fun i _ => (intOf i + 1).toNat)
  case atStart => exact ⟨k, [], Nat.le_refl _, rfl, rfl, by simpa using Wrote.refl H0.out⟩
  case round =>
    obtain ⟨j, done, hj, rfl, hd, hw⟩ := hrel
    have HD := Lib.hid hd; clear hd
    have HW := Lib.hid hw; clear hw
    cases j with
    | zero =>
      go_wp2
      first | go_end0 | refine bodyPost_ret (results_none rfl _ _ _) rfl ?_
      have e : done = fixedBits n k := by simpa [fixedBits] using HD.out
      subst e
      exact ⟨rfl, HW.out⟩
    | succ j =>
      obtain ⟨r', hi, hr', hkp⟩ := HW.out
      have hlen : done.length ≤ 32 := by have := congrArg List.length HD.out; simp [fixedBits_length] at this; omega
      go_wp2_with (fail)
      refine (bit_any p r' (bs ++ done) _ _ (by simp; omega) hi).mono ?_
      rintro e w' ⟨rfl, hw'⟩
      have HW2 := Lib.hid (Wrote.trans hkp hr' hw')
      clear hi hr' hkp hw'
      go_wp2
      go_roundw
      case rel => exact ⟨j, done ++ [lowBit (n / 2 ^ j)], by omega, by go_num, by rw [List.append_assoc]; exact HD.out, by rw [← List.append_assoc]; exact HW2.out⟩
      case measure => simp [intOf]

end Go.Proofs.Ythhagejcgobfgaa
namespace Go.Proofs
open Go.Shelf
def Try.laysLen_ren : Go.Shelf.Ren := ⟨fun | 129 => 56 | n => n, fun | 53 => 85 | 3 => 3 | 4 => 4 | 46 => 83 | 5 => 5 | 9 => 9 | n => n, fun | n => n⟩
theorem Try.laysLen : Go.Proofs.Lays.n129 Try.prog Try.laysLen_ren := {
  mixed := by kernel_rfl
  f129 := Try.func56.trans (congrArg some (by kernel_rfl))
  t3 := Try.underlying3
  a3 := Try.isAgg3
  z3 := Try.sizeOf3
  v3 := Try.zeroValue3
  t4 := Try.underlying4
  a4 := Try.isAgg4
  z4 := Try.sizeOf4
  v4 := Try.zeroValue4
  t5 := Try.underlying5
  a5 := Try.isAgg5
  z5 := Try.sizeOf5
  v5 := Try.zeroValue5
  t9 := Try.underlying9
  a9 := Try.isAgg9
  z9 := Try.sizeOf9
  v9 := Try.zeroValue9
  t46 := Try.underlying83
  a46 := Try.isAgg83
  z46 := Try.sizeOf83
  v46 := Try.zeroValue83
  t53 := Try.underlying85
  a53 := Try.isAgg85
  z53 := Try.sizeOf85
  v53 := Try.zeroValue85 }

/-- Len64 answers how many bits a number has; the world is as it was. -/
theorem Try.len64_any (x : Int) (w : World) (h0 : 0 ≤ x) (h1 : x ≤ 18446744073709551615) :
    Calls Try.prog 56 #[.int .u64 x] w fun e w' => e = .returned (.int .i64 (Lib.bitLen x.toNat)) ∧ w = w' :=
  (Any.bits_Len64 Try.laysLen x w h0 h1).mono fun _ _ ⟨a, b⟩ => ⟨a, b.symm⟩
end Go.Proofs
namespace Go.Proofs.Ythhagejcgobfgaa
open Go.RowKit

/-- The bits of a number from 1 on: as many bits 0 as it has behind its highest, and it. -/
def golomb (m : Nat) : List Bool := fixedBits 0 (Lib.bitLen m - 1) ++ fixedBits (m : Int) (Lib.bitLen m)

/-- A number, clamped to 0 to 2^31 - 1. -/
def clampWhole (n : Int) : Nat := (min (max n 0) 2147483647).toNat

def wholeBits (n : Int) : List Bool := golomb (clampWhole n + 1)

theorem clampWhole_le (n : Int) : clampWhole n ≤ 2147483647 := by unfold clampWhole; omega

theorem bitLen_bounds (m : Nat) (h0 : m ≠ 0) (h : m < 2 ^ 64) : 1 ≤ Lib.bitLen m ∧ 2 ^ (Lib.bitLen m - 1) ≤ m ∧ m < 2 ^ Lib.bitLen m := Lib.bitLenAux_bounds 64 m h h0

theorem bitLen_le32 (m : Nat) (h0 : m ≠ 0) (h : m ≤ 2147483648) : 1 ≤ Lib.bitLen m ∧ Lib.bitLen m ≤ 32 :=
  ⟨(bitLen_bounds m h0 (by omega)).1, Lib.bitLen_le m 32 (by omega) (by omega)⟩

theorem fixed_int (p : Nat) (r : Option Nat) (bs : List Bool) (n k : Int) (w : World) (h0 : 0 ≤ k) (h1 : k ≤ 32) (hm : bs.length + 32 < 1099511627776) (h : WrIs w p r bs) :
    Calls Try.prog 57 #[.pointer (some ⟨p, 0, none⟩), .int .i64 n, .int .i64 k] w fun e w' => e = .returned (.tuple #[]) ∧ Wrote w w' p r (bs ++ fixedBits n k.toNat) := by
  obtain ⟨j, rfl⟩ := Int.eq_ofNat_of_zero_le h0
  exact fixed_some p r bs n j w (by omega) hm h

set_option maxHeartbeats 400000 in
theorem whole_any (p : Nat) (r : Option Nat) (bs : List Bool) (n : Int) (w : World) (hm : bs.length + 64 < 1099511627776) (h : WrIs w p r bs) :
    Calls Try.prog 49 #[.pointer (some ⟨p, 0, none⟩), .int .i64 n] w fun e w' => e = .returned (.tuple #[]) ∧ Wrote w w' p r (bs ++ wholeBits n) := by
  have H0 := Lib.hid h; clear h
  go_enter Try.func49, Try.ntmps49
  go_wp2_with (fail)
  have hc0 : 0 ≤ min (max n 0) 2147483647 := by omega
  have hc1 : min (max n 0) 2147483647 ≤ 2147483647 := by omega
  have hcw : clampWhole n + 1 = (min (max n 0) 2147483647 + 1).toNat := by unfold clampWhole; omega
  have HC := Lib.hid hcw; clear hcw
  generalize min (max n 0) 2147483647 = c at *
  refine (Try.len64_any (c + 1) _ (by omega) (by omega)).mono ?_
  rintro e w' ⟨rfl, rfl⟩
  have hb := bitLen_le32 (c + 1).toNat (by omega) (by omega)
  generalize hk : Lib.bitLen (c + 1).toNat = k at *
  have HK := Lib.hid hk; clear hk
  obtain ⟨hk1, hk2⟩ := hb
  go_wp2_with (fail)
  refine (fixed_int p r bs 0 ((k : Int) - 1) _ (by omega) (by omega) (by omega) H0.out).mono ?_
  rintro e w1 ⟨rfl, r1, hw1, hr1, hkp1⟩
  have HW1 := Lib.hid hw1; clear hw1
  have HR1 := Lib.hid hr1; clear hr1
  have HP1 := Lib.hid hkp1; clear hkp1
  go_wp2_with (fail)
  refine (fixed_int p r1 _ (c + 1) (k : Int) _ (by omega) (by omega) (by simp [fixedBits_length]; omega) HW1.out).mono ?_
  rintro e w2 ⟨rfl, hw2⟩
  have HW2 := Lib.hid (Wrote.trans HP1.out HR1.out hw2); clear hw2
  go_wp2
  go_end0
  refine ⟨rfl, ?_⟩
  have e : wholeBits n = fixedBits 0 ((k : Int) - 1).toNat ++ fixedBits (c + 1) (k : Int).toNat := by
    have e1 : (((c + 1).toNat : Nat) : Int) = c + 1 := by omega
    have e2 : ((k : Int) - 1).toNat = k - 1 := by omega
    unfold wholeBits golomb; rw [HC.out, HK.out, e1, e2, Int.toNat_natCast]
  rw [e, ← List.append_assoc]
  exact HW2.out

end Go.Proofs.Ythhagejcgobfgaa
namespace Go.Proofs.Ythhagejcgobfgaa
open Go.RowKit

/-- A number, clamped to -2^30 to 2^30. -/
def clampSigned (n : Int) : Int := min (max n (-1073741824)) 1073741824

def signedBits (n : Int) : List Bool := if 0 < clampSigned n then wholeBits (2 * clampSigned n - 1) else wholeBits (-2 * clampSigned n)

set_option maxHeartbeats 400000 in
theorem signed_any (p : Nat) (r : Option Nat) (bs : List Bool) (n : Int) (w : World) (hm : bs.length + 64 < 1099511627776) (h : WrIs w p r bs) :
    Calls Try.prog 36 #[.pointer (some ⟨p, 0, none⟩), .int .i64 n] w fun e w' => e = .returned (.tuple #[]) ∧ Wrote w w' p r (bs ++ signedBits n) := by
  have H0 := Lib.hid h; clear h
  have hc0 : -1073741824 ≤ min (max n (-1073741824)) 1073741824 := by omega
  have hc1 : min (max n (-1073741824)) 1073741824 ≤ 1073741824 := by omega
  by_cases hpos : 0 < min (max n (-1073741824)) 1073741824
  · have hs : signedBits n = wholeBits (2 * min (max n (-1073741824)) 1073741824 - 1) := by unfold signedBits clampSigned; rw [if_pos hpos]
    have HS := Lib.hid hs; clear hs
    go_enter Try.func36, Try.ntmps36
    go_wp2_with (fail)
    refine (whole_any p r bs _ _ (by omega) H0.out).mono ?_
    rintro e w1 ⟨rfl, hw1⟩
    have HW := Lib.hid hw1; clear hw1
    go_wp2
    go_end0
    exact ⟨rfl, by rw [HS.out]; exact HW.out⟩
  · have hs : signedBits n = wholeBits (-2 * min (max n (-1073741824)) 1073741824) := by unfold signedBits clampSigned; rw [if_neg hpos]
    have HS := Lib.hid hs; clear hs
    go_enter Try.func36, Try.ntmps36
    go_wp2_with (fail)
    refine (whole_any p r bs _ _ (by omega) H0.out).mono ?_
    rintro e w1 ⟨rfl, hw1⟩
    have HW := Lib.hid hw1; clear hw1
    go_wp2
    go_end0
    refine ⟨rfl, ?_⟩
    rw [HS.out]
    have := HW.out
    first | exact this | simpa using this

theorem many_any (p : Nat) (r : Option Nat) (bs : List Bool) (w : World) (h : WrIs w p r bs) :
    Calls Try.prog 23 #[.pointer (some ⟨p, 0, none⟩)] w fun e w' => e = .returned (.int .i64 (bs.length : Int)) ∧ w = w' := by
  obtain ⟨v, hp, -, -, -⟩ := h
  have h1 : w.cell? ⟨p, 1, none⟩ = some (.int .i64 (bs.length : Int)) := by rw [cell_of_heap hp]; rfl
  clear hp
  go_enter Try.func23, Try.ntmps23
  go_wp2
  go_ret
  exact ⟨rfl, rfl⟩

/-- A new block of bytes, and nothing else has turned. -/
def NewBytes (w w' : World) (l : List Nat) (e : Ending) : Prop :=
  ∃ g, e = .returned (.slice (some ⟨g, 0, none⟩) l.length l.length) ∧ w.heap.size ≤ g ∧ w'.heap[g]? = some (.cells (byteVals l).toArray 5 (0, 0)) ∧ Kept (fun _ => False) w w'

theorem madeCells_one (z : Value) (n : Nat) : madeCells #[z] n = (List.replicate n z).toArray := by
  unfold madeCells
  apply Array.ext
  · simp
  · intro i h1 h2
    simp [Nat.mod_one]

theorem splice_whole {α : Type} (L cs : List α) (h : cs.length = L.length) : splice L 0 cs = cs := by
  unfold splice
  rw [List.take_zero, List.nil_append, Nat.zero_add, h, List.drop_length, List.append_nil]

theorem oneCell_byteVals (l : List Nat) : ∀ v ∈ byteVals l, v.oneCell' = true := by
  intro v hv
  obtain ⟨x, _, rfl⟩ := List.mem_map.1 hv
  rfl

theorem Try.size_u8 : (Try.prog.info? 5).map (·.size) = some 1 := by kernel_rfl

set_option maxHeartbeats 400000 in
theorem bytes_any (p : Nat) (r : Option Nat) (bs : List Bool) (w : World) (hm : bs.length < 1099511627776) (h : WrIs w p r bs) :
    Calls Try.prog 24 #[.pointer (some ⟨p, 0, none⟩)] w fun e w' => NewBytes w w' (pack bs) e := by
  have H0 := Lib.hid h
  obtain ⟨v, hp, hown, -, -⟩ := h
  have h0 : w.cell? ⟨p, 0, none⟩ = some v := by rw [cell_of_heap hp]; rfl
  have hnb : nbytes bs.length ≤ 1099511627776 := by unfold nbytes; omega
  have hpl : p < w.heap.size := lt_of_heap hp
  have hv : ∃ a cap, v = .slice a (nbytes bs.length) cap := by
    rcases hown.2 with ⟨rfl, h⟩ | ⟨g, cap, cur, rfl, _⟩
    · exact ⟨none, 0, by rw [h]⟩
    · exact ⟨_, cap, rfl⟩
  obtain ⟨a, cap, rfl⟩ := hv
  generalize hN : nbytes bs.length = n at *
  have HN := Lib.hid hN; clear hN
  have hmk := fun wx : World => run_make_row' (P := Try.prog) 38 5 (.int .u8 0) 1 Try.underlying38 Try.info_u8 rfl .i64 .i64 n (by omega) (by omega) wx
  have HO := Lib.hid hown; clear hown hp
  go_enter Try.func24, Try.ntmps24
  go_wp2_with (with_reducible refine wpList_copy_splice rfl (.tmp 12) (.tmp 16) 38 38 rfl 5 Try.underlying38 Try.size_u8 _ _ _ _ _ _ rfl rfl w.heap.size 0 (List.replicate n (.int .u8 0)) 5 ?hg (byteVals (pack bs)) ?hn ?hpos ?hfit (oneCell_byteVals _) w.heap.size w ?hb (Nat.le_refl _) ?_)
  case hg => rw [madeCells_one]; exact heap_alloc_new w _
  case hn => rw [byteVals_length, pack_length, HN.out]; simp
  case hpos =>
    intro h
    rw [byteVals_length, pack_length, HN.out] at h
    rcases HO.out.2 with ⟨_, h'⟩ | ⟨g, cap', cur, hv, _⟩
    · omega
    · cases hv
      refine ⟨⟨g, 0, none⟩, rfl, fun j v hj => ?_⟩
      have hc := HO.out.cells (g := g) rfl j v hj
      have hlt : g < w.heap.size := (HO.out.lt g rfl).2
      rw [Addr.add_lit] at hc ⊢
      rw [World.cell?_alloc_past _ _ _ hlt]; exact hc
  case hfit => rw [byteVals_length, pack_length, HN.out]; simp
  case hb => exact (Below.refl _ _).alloc (Nat.le_refl _) _
  intro w2 HG2 hB2
  have HB := Lib.hid hB2; clear hB2
  go_wp2
  go_ret
  refine ⟨w.heap.size, ?_, Nat.le_refl _, ?_, Below.kept HB.out⟩
  · have e : (pack bs).length = n := by rw [pack_length, HN.out]
    rw [e]; rfl
  · rw [HG2.out, splice_whole _ _ (by rw [byteVals_length, pack_length, HN.out]; simp)]

end Go.Proofs.Ythhagejcgobfgaa
namespace Go.Proofs.Ythhagejcgobfgaa
open Go.RowKit

/-- At block p lies a reader of the bytes l, which lie in block g, at the bit 'at_'. -/
def RdAt (w : World) (p g : Nat) (l : List Nat) (at_ : Nat) (lost : Bool) : Prop :=
  w.heap[p]? = some (.cells #[.slice (some ⟨g, 0, none⟩) l.length l.length, .int .i64 (at_ : Int), .bool lost] 79 (0, 0)) ∧
    w.heap[g]? = some (.cells (byteVals l).toArray 5 (0, 0)) ∧ g ≠ p

theorem RdAt.kept {S : Nat → Prop} {w w' : World} {p g : Nat} {l : List Nat} {at_ : Nat} {lost : Bool} (h : RdAt w p g l at_ lost) (k : Kept S w w') (hp : ¬ S p) (hg : ¬ S g) : RdAt w' p g l at_ lost :=
  ⟨k.at h.1 hp, k.at h.2.1 hg, h.2.2⟩

theorem RdAt.drew {w : World} {p g : Nat} {l : List Nat} {at_ : Nat} {lost : Bool} (h : RdAt w p g l at_ lost) : RdAt w.drew p g l at_ lost := h

theorem RdAt.facts {w : World} {p g : Nat} {l : List Nat} {at_ : Nat} {lost : Bool} (h : RdAt w p g l at_ lost) :
    w.cell? ⟨p, 0, none⟩ = some (.slice (some ⟨g, 0, none⟩) l.length l.length) ∧ w.cell? ⟨p, 1, none⟩ = some (.int .i64 (at_ : Int)) ∧ w.cell? ⟨p, 2, none⟩ = some (.bool lost) ∧
    w.frozen? ⟨p, 1, none⟩ = false ∧ w.frozen? ⟨p, 2, none⟩ = false := by
  refine ⟨by rw [cell_of_heap h.1]; rfl, by rw [cell_of_heap h.1]; rfl, by rw [cell_of_heap h.1]; rfl, frozen_of_heap h.1, frozen_of_heap h.1⟩

theorem RdAt.byte {w : World} {p g : Nat} {l : List Nat} {at_ : Nat} {lost : Bool} (h : RdAt w p g l at_ lost) (i : Nat) (hi : i < l.length) : w.cell? ⟨g, i, none⟩ = some (.int .u8 (l.getD i 0 : Nat)) := by
  rw [cell_of_heap h.2.1]; simp [byteVals, List.getD, hi]

theorem RdAt.setAt {w : World} {p g : Nat} {l : List Nat} {at_ : Nat} {lost : Bool} (h : RdAt w p g l at_ lost) (n : Nat) (x : Int) (hx : x = (n : Int)) : RdAt (w.setCell ⟨p, 1, none⟩ (.int .i64 x)) p g l n lost := by
  subst hx
  refine ⟨?_, (heap_setCell_other _ p 1 g _ h.2.2).trans h.2.1, h.2.2⟩
  rw [heap_setCell_same _ p 1 _ h.1]; simp

theorem RdAt.setLost {w : World} {p g : Nat} {l : List Nat} {at_ : Nat} {lost : Bool} (h : RdAt w p g l at_ lost) (b : Bool) : RdAt (w.setCell ⟨p, 2, none⟩ (.bool b)) p g l at_ b := by
  refine ⟨?_, (heap_setCell_other _ p 2 g _ h.2.2).trans h.2.1, h.2.2⟩
  rw [heap_setCell_same _ p 2 _ h.1]; simp

/-- What panics when a reader gives up. -/
def gaveUp : List PanicEntry := [{ v := .iface 25 (.int .i64 10), recovered := false }]

/-- What an inner reading leaves: a number, and the next bit's place; or it has given up. -/
def RdPost (w : World) (p g : Nat) (l : List Nat) (o : Option (Int × Nat)) (e : Ending) (w' : World) : Prop :=
  match o with
  | some (n, a) => e = .returned (.int .i64 n) ∧ RdAt w' p g l a false ∧ Kept (· = p) w w'
  | none => e = .panicked gaveUp ∧ (∃ a, RdAt w' p g l a false) ∧ Kept (· = p) w w'

/-- Bytes that are bytes, and not too many. -/
def Fair (l : List Nat) : Prop := (∀ x ∈ l, x < 256) ∧ l.length < 1099511627776

theorem Fair.getD {l : List Nat} (h : Fair l) (i : Nat) : l.getD i 0 < 256 := by
  rw [List.getD]
  cases hh : l[i]? with
  | none => simp
  | some x => simpa using h.1 x (List.mem_of_getElem? hh)

theorem giveUp_any (w : World) :
    Calls Try.prog 54 #[] w fun e w' => e = .panicked gaveUp ∧ w = w' := by
  go_enter Try.func54, Try.ntmps54
  go_wp2
  exact ⟨rfl, rfl, rfl⟩

theorem bit_of_byte (x k : Nat) (hx : x < 256) : wrap64 (bits BinOp.and IntKind.u8 ((x : Int) / 2 ^ k) 1) = ((x.testBit k).toNat : Int) := by
  have e : ((x : Int) / 2 ^ k) = ((x / 2 ^ k : Nat) : Int) := by simp
  have hle : x / 2 ^ k ≤ x := Nat.div_le_self _ _
  have := Nat.mod_lt (x / 2 ^ k) (show 0 < 2 by decide)
  rw [e, show (1 : Int) = ((1 : Nat) : Int) from rfl, u8_and_nat _ _ (by omega) (by omega), Nat.and_one_is_mod, Nat.toNat_testBit]
  unfold wrap64; omega

set_option maxHeartbeats 400000 in
theorem next_some (p g : Nat) (l : List Nat) (a : Nat) (w : World) (hl : Fair l) (h : RdAt w p g l a false) (ha : a < 8 * l.length) :
    Calls Try.prog 61 #[.pointer (some ⟨p, 0, none⟩)] w fun e w' => e = .returned (.int .i64 ((bitAt l a).toNat : Int)) ∧ RdAt w' p g l (a + 1) false ∧ Kept (· = p) w w' := by
  obtain ⟨h0, h1, -, f1, -⟩ := h.facts
  have hx := h.byte (a / 8) (by omega)
  have hx256 := hl.getD (a / 8)
  have hbit := bit_of_byte (l.getD (a / 8) 0) (7 - a % 8) hx256
  have HB := Lib.hid hbit; clear hbit
  have HA := Lib.hid h; clear h
  have hlen := hl.2
  clear hl
  generalize hX : l.getD (a / 8) 0 = x at *
  have HX := Lib.hid hX; clear hX
  generalize hN : l.length = n at *
  have HN := Lib.hid hN; clear hN
  have hq : (a : Int) / 8 < n := by omega
  have hq1 : 0 ≤ (a : Int) / 8 := by omega
  have hq2 : ((a : Int) / 8).toNat = a / 8 := by omega
  go_enter Try.func61, Try.ntmps61
  go_wp2_with (fail)
  go_quiet (fail)
  go_wp2
  go_ret
  refine ⟨?_, ?_, ?_⟩
  · unfold bitAt; rw [HX.out, ← HB.out]; rfl
  · exact (RdAt.setAt (HA.out.kept ((Kept.refl (fun _ => False) _).drewN _) id id) (a + 1) _ (by omega))
  · exact ((Kept.refl (· = p) _).drewN _).setCell _ (fun _ => rfl) _

set_option maxHeartbeats 400000 in
theorem next_none (p g : Nat) (l : List Nat) (a : Nat) (w : World) (hl : Fair l) (h : RdAt w p g l a false) (ha : 8 * l.length ≤ a) (ha2 : a < 8796093022208) :
    Calls Try.prog 61 #[.pointer (some ⟨p, 0, none⟩)] w fun e w' => e = .panicked gaveUp ∧ w = w' := by
  obtain ⟨h0, h1, -, -, -⟩ := h.facts
  clear h
  have hlen := hl.2
  clear hl
  generalize l.length = n at *
  have hq : (n : Int) ≤ (a : Int) / 8 := by omega
  go_enter Try.func61, Try.ntmps61
  go_wp2_with (go_at_call 54; refine (giveUp_any _).mono ?_; rintro e w' ⟨rfl, rfl⟩)
  exact ⟨rfl, rfl, rfl⟩

/-- The number of k bits. -/
def valAt (l : List Nat) (a : Nat) : Nat → Nat
  | 0 => 0
  | k + 1 => 2 * valAt l a k + (bitAt l (a + k)).toNat

theorem valAt_lt (l : List Nat) (a k : Nat) : valAt l a k < 2 ^ k := by
  induction k with
  | zero => simp [valAt]
  | succ k ih => have := toNat_le_one (bitAt l (a + k)); simp only [valAt, Nat.pow_succ]; omega

def fixedAt (l : List Nat) (a k : Nat) : Option (Int × Nat) := if a + k ≤ 8 * l.length then some ((valAt l a k : Int), a + k) else none

theorem or_next (x : Nat) (b : Bool) (hx : x < 2 ^ 33) : bits BinOp.or IntKind.i64 ((x : Int) * 2) (b.toNat : Int) = ((2 * x + b.toNat : Nat) : Int) := by
  have := toNat_le_one b
  rw [bits_join .i64 63 (by decide) (fun n h0 h1 => by rw [IntKind.wrap_i64]; omega) 1 ((x : Int) * 2) (b.toNat : Int) (by omega) (by omega) (by omega) (by omega) (by omega) (by omega)]
  omega

set_option maxHeartbeats 400000 in
theorem fixed_rd (p g : Nat) (l : List Nat) (a k : Nat) (w : World) (hl : Fair l) (hk : k ≤ 32) (h : RdAt w p g l a false) (ha : a ≤ 8 * l.length) :
    Calls Try.prog 62 #[.pointer (some ⟨p, 0, none⟩), .int .i64 (k : Int)] w (RdPost w p g l (fixedAt l a k)) := by
  have H0 := Lib.hid h; clear h
  have HL := Lib.hid hl
  have hlen := hl.2
  clear hl
  go_enter Try.func62, Try.ntmps62
  go_wp2_with (fail)
  go_loopw [5, 7] (fun s5 s7 wr => ∃ j : Nat, j ≤ k ∧ s7 = .int .i64 (j : Int) ∧ s5 = .int .i64 (valAt l a j : Int) ∧ a + j ≤ 8 * l.length ∧ RdAt wr p g l (a + j) false ∧ Kept (· = p) w wr) (fun _ i _ => k - (intOf i).toNat)
  case atStart => exact ⟨0, Nat.zero_le _, rfl, rfl, ha, H0.out, Kept.refl _ _⟩
  case round =>
    obtain ⟨j, hj, rfl, rfl, haj, hr, hkp⟩ := hrel
    have HR := Lib.hid hr; clear hr
    have HK := Lib.hid hkp; clear hkp
    have hv := valAt_lt l a j
    have hv32 : valAt l a j < 4294967296 := Nat.lt_of_lt_of_le hv (by have := Nat.pow_le_pow_right (n := 2) (by decide) (show j ≤ 32 by omega); simpa using this)
    clear hv
    by_cases hlt : j < k
    · by_cases hin : a + j < 8 * l.length
      · go_wp2_with (fail)
        refine (next_some p g l (a + j) _ HL.out HR.out hin).mono ?_
        rintro e w1 ⟨rfl, hr1, hk1⟩
        have HR1 := Lib.hid hr1; clear hr1
        have HK1 := Lib.hid (HK.out.trans hk1 (fun _ _ x => x)); clear hk1
        go_wp2
        go_roundw
        case rel =>
          refine ⟨j + 1, by omega, by go_num, ?_, by omega, HR1.out, HK1.out⟩
          rw [or_next _ _ (by omega)]; rfl
        case measure => simp [intOf]; omega
      · go_wp2_with (fail)
        refine (next_none p g l (a + j) _ HL.out HR.out (by omega) (by omega)).mono ?_
        rintro e w1 ⟨rfl, rfl⟩
        go_wp2
        refine ⟨rfl, ?_⟩
        have e : fixedAt l a k = none := by unfold fixedAt; rw [if_neg (by omega)]
        rw [e]
        exact ⟨rfl, ⟨_, HR.out⟩, HK.out⟩
    · go_wp2
      go_ret
      have ej : j = k := by omega
      subst ej
      have e : fixedAt l a j = some ((valAt l a j : Int), a + j) := by unfold fixedAt; rw [if_pos haj]
      rw [e]
      exact ⟨rfl, HR.out, HK.out⟩

theorem fixed_yes (p g : Nat) (l : List Nat) (a k : Nat) (w : World) (hl : Fair l) (hk : k ≤ 32) (h : RdAt w p g l a false) (ha : a + k ≤ 8 * l.length) :
    Calls Try.prog 62 #[.pointer (some ⟨p, 0, none⟩), .int .i64 (k : Int)] w fun e w' => e = .returned (.int .i64 (valAt l a k : Int)) ∧ RdAt w' p g l (a + k) false ∧ Kept (· = p) w w' := by
  refine (fixed_rd p g l a k w hl hk h (by omega)).mono fun e w' hp => ?_
  have e : fixedAt l a k = some ((valAt l a k : Int), a + k) := by unfold fixedAt; rw [if_pos ha]
  rw [e] at hp; exact hp

theorem fixed_stop (p g : Nat) (l : List Nat) (a k : Nat) (w : World) (hl : Fair l) (hk : k ≤ 32) (h : RdAt w p g l a false) (ha : a ≤ 8 * l.length) (ha2 : 8 * l.length < a + k) :
    Calls Try.prog 62 #[.pointer (some ⟨p, 0, none⟩), .int .i64 (k : Int)] w fun e w' => e = .panicked gaveUp ∧ (∃ a, RdAt w' p g l a false) ∧ Kept (· = p) w w' := by
  refine (fixed_rd p g l a k w hl hk h (by omega)).mono fun e w' hp => ?_
  have e : fixedAt l a k = none := by unfold fixedAt; rw [if_neg (by omega)]
  rw [e] at hp; exact hp

/-- The number that Whole wrote at a, if z bits 0 of it are read; with fuel for as many rounds. -/
def wholeFrom (l : List Nat) (a : Nat) : Nat → Nat → Option (Int × Nat)
  | 0, _ => none
  | f + 1, z => if a + z < 8 * l.length then (if bitAt l (a + z) then (if a + z + 1 + z ≤ 8 * l.length then some (((2 ^ z + valAt l (a + z + 1) z : Nat) : Int) - 1, a + z + 1 + z) else none) else (if 31 < z + 1 then none else wholeFrom l a f (z + 1))) else none

def wholeAt (l : List Nat) (a : Nat) : Option (Int × Nat) := wholeFrom l a 33 0

theorem or_top (x z : Nat) (hz : z ≤ 31) (hx : x < 2 ^ z) : bits BinOp.or IntKind.i64 ((2 : Int) ^ z) (x : Int) = ((2 ^ z + x : Nat) : Int) := by
  have hp : (2 : Nat) ^ z ≤ 2 ^ 31 := Nat.pow_le_pow_right (by decide) hz
  have e : (2 : Int) ^ z = ((2 ^ z : Nat) : Int) := by simp
  rw [e, bits_join .i64 63 (by decide) (fun n h0 h1 => by rw [IntKind.wrap_i64]; omega) z ((2 ^ z : Nat) : Int) (x : Int) (by omega) (by simp) (by omega) (by omega) (by exact_mod_cast hx) (by omega)]
  omega

set_option maxHeartbeats 1000000 in
theorem whole_rd (p g : Nat) (l : List Nat) (a : Nat) (w : World) (hl : Fair l) (h : RdAt w p g l a false) (ha : a ≤ 8 * l.length) :
    Calls Try.prog 59 #[.pointer (some ⟨p, 0, none⟩)] w (RdPost w p g l (wholeAt l a)) := by
  have H0 := Lib.hid h; clear h
  have HL := Lib.hid hl
  have hlen := hl.2
  clear hl
  go_enter Try.func59, Try.ntmps59
  go_wp2_with (fail)
  go_loopw [3] (fun s3 wr => ∃ z : Nat, z ≤ 31 ∧ s3 = .int .i64 (z : Int) ∧ a + z ≤ 8 * l.length ∧ wholeFrom l a (33 - z) z = wholeAt l a ∧ RdAt wr p g l (a + z) false ∧ Kept (· = p) w wr) (fun i _ => 32 - (intOf i).toNat)
  case atStart => exact ⟨0, by omega, rfl, ha, rfl, H0.out, Kept.refl _ _⟩
  case round =>
    obtain ⟨z, hz, rfl, haz, hwf, hr, hkp⟩ := hrel
    have HR := Lib.hid hr; clear hr
    have HK := Lib.hid hkp; clear hkp
    have HF := Lib.hid hwf; clear hwf
    have hfz : 33 - z = (32 - z) + 1 := by omega
    have hf2 := HF.out
    rw [hfz, wholeFrom] at hf2
    have HF2 := Lib.hid hf2; clear hf2 hfz
    by_cases hin : a + z < 8 * l.length
    · cases hb : bitAt l (a + z) with
      | true =>
        have hbt : ((((bitAt l (a + z)).toNat : Nat) : Int) == 0) = false := by rw [hb]; rfl
        have HB := Lib.hid hb; clear hb
        go_wp2_with (fail)
        refine (next_some p g l (a + z) _ HL.out HR.out hin).mono ?_
        rintro e w1 ⟨rfl, hr1, hk1⟩
        have HR1 := Lib.hid hr1; clear hr1
        have HK1 := Lib.hid (HK.out.trans hk1 (fun _ _ x => x)); clear hk1
        have hv := valAt_lt l (a + z + 1) z
        have hor := or_top (valAt l (a + z + 1) z) z hz hv
        have HO := Lib.hid hor; clear hor
        have hp31 : (2 : Nat) ^ z ≤ 2147483648 := by have := Nat.pow_le_pow_right (n := 2) (by decide) hz; simpa using this
        have hv32 : valAt l (a + z + 1) z < 2147483648 := by omega
        have hw2 : IntKind.i64.wrap (2 ^ z) = 2 ^ z := by
          have e : (2 : Int) ^ z = ((2 ^ z : Nat) : Int) := by simp
          rw [e, IntKind.wrap_i64]; omega
        clear hv hp31
        by_cases hfit : a + z + 1 + z ≤ 8 * l.length
        · go_wp2_with (fail)
          go_region_with (go_at_call 62; refine (fixed_yes p g l (a + z + 1) z _ HL.out (by omega) ?_ hfit).mono ?_; exact HR1.out.drew; rintro e w2 ⟨rfl, hr2, hk2⟩)
          have HR2 := Lib.hid hr2; clear hr2
          have HK2 := Lib.hid (HK1.out.drew.trans hk2 (fun _ _ x => x)); clear hk2
          have hlo : 0 ≤ bits BinOp.or IntKind.i64 (2 ^ z) ↑(valAt l (a + z + 1) z) ∧ bits BinOp.or IntKind.i64 (2 ^ z) ↑(valAt l (a + z + 1) z) < 4294967296 := by
            have hp31 : (2 : Nat) ^ z ≤ 2147483648 := by have := Nat.pow_le_pow_right (n := 2) (by decide) hz; simpa using this
            have hp0 : 0 < (2 : Nat) ^ z := Nat.two_pow_pos z
            rw [HO.out]; omega
          obtain ⟨hlo1, hlo2⟩ := hlo
          go_wp2
          go_ret
          have e : wholeAt l a = some (((2 ^ z + valAt l (a + z + 1) z : Nat) : Int) - 1, a + z + 1 + z) := by rw [← HF2.out, if_pos hin, HB.out, if_pos rfl, if_pos hfit]
          rw [e]
          refine ⟨?_, HR2.out, HK2.out⟩
          rw [← HO.out]; rfl
        · have e : wholeAt l a = none := by rw [← HF2.out, if_pos hin, HB.out, if_pos rfl, if_neg hfit]
          have HE := Lib.hid e; clear e
          go_wp2_with (fail)
          refine wp_region_any (by kernel_rfl) ?_
          change wpAny _ _ _ _ _ _ _ (World.drew _)
          refine wpAny_take (i := 0) (v := ?_) rfl (by kernel_rfl) (by kernel_rfl) (by kernel_rfl) (fun _ _ _ h => h) (Or.inl ⟨by rfl, ?_⟩) ?_
          rotate_left
          · intro w; go_simp; try with_reducible rfl
          rotate_left
          refine wpAny_take (i := 1) (v := ?_) rfl (by kernel_rfl) (by kernel_rfl) (by kernel_rfl) (fun _ _ _ h => h) (Or.inl ⟨by rfl, ?_⟩) ?_
          rotate_left
          · intro w; go_simp; try with_reducible rfl
          rotate_left
          refine wpAny_take (i := 2) (v := ?_) rfl (by kernel_rfl) (by kernel_rfl) (by kernel_rfl) (fun _ _ _ h => h) (Or.inl ⟨by rfl, ?_⟩) ?_
          rotate_left
          · intro w; go_simp; try with_reducible rfl
          rotate_left
          refine wpAny_take (i := 3) (v := ?_) rfl (by kernel_rfl) (by kernel_rfl) (by kernel_rfl) (fun _ _ _ h => h) (Or.inl ⟨by rfl, ?_⟩) ?_
          rotate_left
          · intro w; go_simp; try with_reducible rfl
          rotate_left
          refine wpAny_ready (rs := [4]) (by kernel_rfl) (by simp) ?_
          refine AllReady.cons rfl (fun K hK => ?_) AllReady.nil
          go_simp
          refine (fixed_stop p g l (a + z + 1) z _ HL.out (by omega) ?_ (by omega) (by omega)).mono ?_
          · exact HR1.out.drew
          rintro e w2 ⟨rfl, hr2, hk2⟩
          refine ⟨rfl, ?_⟩
          rw [HE.out]
          exact ⟨rfl, hr2, HK1.out.drew.trans hk2 (fun _ _ x => x)⟩
      | false =>
        have hbt : ((((bitAt l (a + z)).toNat : Nat) : Int) == 0) = true := by rw [hb]; rfl
        have HB := Lib.hid hb; clear hb
        go_wp2_with (fail)
        refine (next_some p g l (a + z) _ HL.out HR.out hin).mono ?_
        rintro e w1 ⟨rfl, hr1, hk1⟩
        have HR1 := Lib.hid hr1; clear hr1
        have HK1 := Lib.hid (HK.out.trans hk1 (fun _ _ x => x)); clear hk1
        by_cases h31 : 31 < z + 1
        · go_wp2_with (fail)
          refine (giveUp_any _).mono ?_
          rintro e w2 ⟨rfl, rfl⟩
          go_wp2
          refine ⟨rfl, ?_⟩
          have e : wholeAt l a = none := by rw [← HF2.out, if_pos hin, HB.out, if_pos h31]; rfl
          rw [e]
          exact ⟨rfl, ⟨_, HR1.out⟩, HK1.out⟩
        · go_wp2
          go_roundw
          case rel =>
            refine ⟨z + 1, by omega, by go_num, by omega, ?_, HR1.out, HK1.out⟩
            rw [← HF2.out, if_pos hin, HB.out, if_neg h31]
            simp
          case measure => simp [intOf]; omega
    · go_wp2_with (fail)
      refine (next_none p g l (a + z) _ HL.out HR.out (by omega) (by omega)).mono ?_
      rintro e w1 ⟨rfl, rfl⟩
      go_wp2
      refine ⟨rfl, ?_⟩
      have e : wholeAt l a = none := by rw [← HF2.out, if_neg hin]
      rw [e]
      exact ⟨rfl, ⟨_, HR.out⟩, HK.out⟩

end Go.Proofs.Ythhagejcgobfgaa
namespace Go.Proofs.Ythhagejcgobfgaa
open Go.RowKit

theorem lost_rd (p g : Nat) (l : List Nat) (a : Nat) (b : Bool) (w : World) (h : RdAt w p g l a b) :
    Calls Try.prog 40 #[.pointer (some ⟨p, 0, none⟩)] w fun e w' => e = .returned (.bool b) ∧ w = w' := by
  obtain ⟨-, -, h2, -, -⟩ := h.facts
  clear h
  go_enter Try.func40, Try.ntmps40
  go_wp2
  go_ret
  exact ⟨rfl, rfl⟩

/-- The deferred function, where the reading has given up: 0 is answered, and the reader is lost. -/
theorem catch_panicking (pn pr : Addr) (p : Nat) (b : Bool) (u : TypeId) (pv : Value) (older : List PanicEntry) (w : World)
    (hn : w.cell? pn = some (.int .i64 0)) (fn : w.frozen? pn = false) (hr : w.cell? pr = some (.pointer (some ⟨p, 0, none⟩))) (hl : w.cell? ⟨p, 2, none⟩ = some (.bool b)) (fl : w.frozen? ⟨p, 2, none⟩ = false) (hne : ¬ pn.block = p) :
    CallsD Try.prog 58 #[.pointer (some pn), .pointer (some pr)] (.panicking ({ v := .iface u pv, recovered := false } :: older)) w fun e u' w' =>
      e = .returned (.tuple #[]) ∧ u' = .panicking ({ v := .iface u pv, recovered := true } :: older) ∧ w' = (w.setCell pn (.int .i64 0)).setCell ⟨p, 2, none⟩ (.bool true) := by
  refine callsD_of_wpS Try.func58 rfl fun c₀ cs hu => ?_
  apply wpS_seq
  apply wpS_region
  simp [wpOpsS, go_sem, recoverD, hu, Try.ntmps58, Exit.thenS]
  refine wpS_cond (t := true) (by simp [Act.eval, Array.replicate]) ?_
  simp only [if_true]
  apply wpS_region
  have hl2 : (w.setCell pn (.int .i64 0)).cell? ⟨p, 2, none⟩ = some (.bool b) := by
    rw [← hl]; exact World.cell?_of_block (Below.heap_setCell _ _ _ _ (fun e => hne e.symm))
  have fl2 : (w.setCell pn (.int .i64 0)).frozen? ⟨p, 2, none⟩ = false := by
    rw [← fl]; exact World.frozen?_of_block (Below.heap_setCell _ _ _ _ (fun e => hne e.symm))
  simp [wpOpsS, go_sem, hn, fn, hr, hl2, fl2, bodyPostS, results, Try.results58]

theorem catch_idle (pn pr : Addr) (w : World) :
    CallsD Try.prog 58 #[.pointer (some pn), .pointer (some pr)] .returning w fun e u' w' => e = .returned (.tuple #[]) ∧ u' = .returning ∧ w' = w := by
  refine callsD_of_wpS Try.func58 rfl fun c₀ cs hu => ?_
  apply wpS_seq
  apply wpS_region
  simp [wpOpsS, go_sem, recoverD, hu, Try.ntmps58, Exit.thenS]
  refine wpS_cond (t := false) (by simp [Act.eval, Array.replicate]) ?_
  simp only [Bool.false_eq_true, if_false]
  refine wpS_of_wp (wp_skip ?_)
  cases c₀
  simp_all [bodyPostS, results, Try.results58]

theorem RdAt.lt {w : World} {p g : Nat} {l : List Nat} {a : Nat} {b : Bool} (h : RdAt w p g l a b) : p < w.heap.size ∧ g < w.heap.size := ⟨lt_of_heap h.1, lt_of_heap h.2.1⟩

set_option maxHeartbeats 400000 in
theorem attempt_lost (p g : Nat) (l : List Nat) (a : Nat) (f : Value) (w : World) (h : RdAt w p g l a true) :
    Calls Try.prog 51 #[.pointer (some ⟨p, 0, none⟩), f] w fun e w' => e = .returned (.int .i64 0) ∧ Kept (fun _ => False) w w' := by
  have H0 := Lib.hid h; clear h
  go_enter_defers Try.func51, Try.ntmps51
  go_wp2_with (fail)
  refine (lost_rd p g l a true _ ?_).mono ?_
  · exact (H0.out.kept ((Kept.refl (fun _ => False) _).alloc _) id id).kept ((Kept.refl (fun _ => False) _).alloc _) id id
  rintro e w1 ⟨rfl, rfl⟩
  go_wp2
  simp [bodyPostD, Leaves, results, Try.results51, go_sem]
  exact ((Kept.refl _ _).alloc _).alloc _

theorem two_boxes (w : World) (x y : Value) (t t' : TypeId) :
    ((w.alloc (.cells #[x] t)).alloc (.cells #[y] t')).heap[w.heap.size]? = some (.cells #[x] t) ∧ ((w.alloc (.cells #[x] t)).alloc (.cells #[y] t')).heap[w.heap.size + 1]? = some (.cells #[y] t') := by
  constructor
  · rw [Below.heap_alloc _ _ _ (by simp)]; exact heap_alloc_new w _
  · have := heap_alloc_new (w.alloc (.cells #[x] t)) (.cells #[y] t')
    simpa using this

/-- What a reader's call leaves: a number, and the next bit's place; or 0, and the reader is lost. -/
def RdRes (w : World) (p g : Nat) (l : List Nat) (o : Option (Int × Nat)) (e : Ending) (w' : World) : Prop :=
  match o with
  | some (n, a) => e = .returned (.int .i64 n) ∧ RdAt w' p g l a false ∧ Kept (· = p) w w'
  | none => e = .returned (.int .i64 0) ∧ (∃ a, RdAt w' p g l a true) ∧ Kept (· = p) w w'

set_option maxHeartbeats 400000 in
theorem attempt_some (p g : Nat) (l : List Nat) (a : Nat) (f : FuncId) (first cap : Array Value) (n : Int) (a' : Nat) (w : World) (h : RdAt w p g l a false)
    (hcf : ∀ (A : Array Value) (w : World), (callFunc f A).run Try.prog w = .ok (.enter f A) w)
    (hcall : ∀ w1, Kept (fun _ => False) w w1 → Calls Try.prog f (first ++ cap) w1 (RdPost w1 p g l (some (n, a')))) :
    Calls Try.prog 51 #[.pointer (some ⟨p, 0, none⟩), .func (.func f) first cap] w (RdRes w p g l (some (n, a'))) := by
  have hmf : ∀ (fn : Fn) (first cap : Array Value) (w : World), (Instr.makeFunc fn first cap).run Try.prog w = .ok (.func fn first cap) w := fun _ _ _ _ => rfl
  have hpl := h.lt.1
  have hgl := h.lt.2
  have H0 := Lib.hid h; clear h
  have HC := Lib.hid hcall; clear hcall
  go_enter_defers Try.func51, Try.ntmps51
  go_wp2_with (fail)
  refine (lost_rd p g l a false _ ?_).mono ?_
  · exact (H0.out.kept ((Kept.refl (fun _ => False) _).alloc _) id id).kept ((Kept.refl (fun _ => False) _).alloc _) id id
  rintro e w1 ⟨rfl, rfl⟩
  go_wp2_with (fail)
  refine (HC.out _ (((Kept.refl _ _).alloc _).alloc _)).mono ?_
  rintro e w1 ⟨rfl, hr1, hk1⟩
  obtain ⟨b0, b1⟩ := two_boxes w (.pointer (some ⟨p, 0, none⟩)) (.int .i64 0) 46 3
  have hb1 := hk1.at b1 (by omega)
  have k1 : w1.cell? ⟨w.heap.size + 1, 0, none⟩ = some (.int .i64 0) := by rw [cell_of_heap hb1]; rfl
  have f1 : w1.frozen? ⟨w.heap.size + 1, 0, none⟩ = false := frozen_of_heap hb1
  have HB1 := Lib.hid hb1
  clear b0 b1 hb1
  have HR1 := Lib.hid hr1; clear hr1
  have HK1 := Lib.hid hk1; clear hk1
  go_wp2
  refine leaves_cons (f := 58) (args := #[.pointer (some ⟨w.heap.size + 1, 0, none⟩), .pointer (some ⟨w.heap.size, 0, none⟩)]) (by simp) (by simp [go_sem]) ?_
  refine (catch_idle ⟨w.heap.size + 1, 0, none⟩ ⟨w.heap.size, 0, none⟩ _).mono ?_
  rintro e u' w'' ⟨rfl, rfl, rfl⟩
  simp [Leaves, settle, results, Try.results51, go_sem]
  have hb1 := HB1.out
  have k2 : (w1.setCell ⟨w.heap.size + 1, 0, none⟩ (.int .i64 n)).cell? ⟨w.heap.size + 1, 0, none⟩ = some (.int .i64 n) := by
    rw [cell_of_heap (heap_setCell_same w1 (w.heap.size + 1) 0 (.int .i64 n) hb1)]; rfl
  rw [k2]
  refine ⟨_, rfl, rfl, ?_, ?_⟩
  · exact HR1.out.kept ((Kept.refl (· = w.heap.size + 1) _).setCell _ (fun _ => rfl) _) (by omega) (by omega)
  · refine ((((Kept.refl (· = p) w).alloc _).alloc _).trans HK1.out (fun _ _ x => x)).setCell _ (fun h => ?_) _
    exact absurd h (by simp)

set_option maxHeartbeats 400000 in
theorem attempt_none (p g : Nat) (l : List Nat) (a : Nat) (f : FuncId) (first cap : Array Value) (w : World) (h : RdAt w p g l a false)
    (hcf : ∀ (A : Array Value) (w : World), (callFunc f A).run Try.prog w = .ok (.enter f A) w)
    (hcall : ∀ w1, Kept (fun _ => False) w w1 → Calls Try.prog f (first ++ cap) w1 (RdPost w1 p g l none)) :
    Calls Try.prog 51 #[.pointer (some ⟨p, 0, none⟩), .func (.func f) first cap] w (RdRes w p g l none) := by
  have hmf : ∀ (fn : Fn) (first cap : Array Value) (w : World), (Instr.makeFunc fn first cap).run Try.prog w = .ok (.func fn first cap) w := fun _ _ _ _ => rfl
  have hpl := h.lt.1
  have hgl := h.lt.2
  have H0 := Lib.hid h; clear h
  have HC := Lib.hid hcall; clear hcall
  go_enter_defers Try.func51, Try.ntmps51
  go_wp2_with (fail)
  refine (lost_rd p g l a false _ ?_).mono ?_
  · exact (H0.out.kept ((Kept.refl (fun _ => False) _).alloc _) id id).kept ((Kept.refl (fun _ => False) _).alloc _) id id
  rintro e w1 ⟨rfl, rfl⟩
  go_wp2_with (fail)
  refine (HC.out _ (((Kept.refl _ _).alloc _).alloc _)).mono ?_
  rintro e w1 ⟨rfl, ⟨a', hr1⟩, hk1⟩
  obtain ⟨b0, b1⟩ := two_boxes w (.pointer (some ⟨p, 0, none⟩)) (.int .i64 0) 46 3
  have hb0 := hk1.at b0 (by omega)
  have hb1 := hk1.at b1 (by omega)
  have k0 : w1.cell? ⟨w.heap.size, 0, none⟩ = some (.pointer (some ⟨p, 0, none⟩)) := by rw [cell_of_heap hb0]; rfl
  have k1 : w1.cell? ⟨w.heap.size + 1, 0, none⟩ = some (.int .i64 0) := by rw [cell_of_heap hb1]; rfl
  have f1 : w1.frozen? ⟨w.heap.size + 1, 0, none⟩ = false := frozen_of_heap hb1
  obtain ⟨-, -, k2, -, f2⟩ := hr1.facts
  have HB1 := Lib.hid hb1
  clear b0 b1 hb0 hb1
  have HR1 := Lib.hid hr1; clear hr1
  have HK1 := Lib.hid hk1; clear hk1
  go_wp2
  refine leaves_cons (f := 58) (args := #[.pointer (some ⟨w.heap.size + 1, 0, none⟩), .pointer (some ⟨w.heap.size, 0, none⟩)]) (by simp) (by simp [go_sem]) ?_
  refine (catch_panicking ⟨w.heap.size + 1, 0, none⟩ ⟨w.heap.size, 0, none⟩ p false _ _ [] _ k1 f1 k0 k2 f2 (by simp; omega)).mono ?_
  rintro e u' w'' ⟨rfl, rfl, rfl⟩
  have hb1 := HB1.out
  have k3 : (w1.setCell ⟨w.heap.size + 1, 0, none⟩ (.int .i64 0)).cell? ⟨w.heap.size + 1, 0, none⟩ = some (.int .i64 0) := by
    rw [cell_of_heap (heap_setCell_same w1 (w.heap.size + 1) 0 (.int .i64 0) hb1)]; rfl
  simp [Leaves, settle, results, Try.results51, go_sem]
  rw [k3]
  refine ⟨_, rfl, rfl, ⟨a', ?_⟩, ?_⟩
  · exact (HR1.out.kept ((Kept.refl (· = w.heap.size + 1) _).setCell _ (fun _ => rfl) _) (by omega) (by omega)).setLost true
  · refine (((((Kept.refl (· = p) w).alloc _).alloc _).trans HK1.out (fun _ _ x => x)).setCell _ (fun h => ?_) _).setCell _ (fun _ => rfl) _
    exact absurd h (by simp)

/-- attempt, whatever the reading comes to. -/
theorem attempt_any (p g : Nat) (l : List Nat) (a : Nat) (f : FuncId) (first cap : Array Value) (o : Option (Int × Nat)) (w : World) (h : RdAt w p g l a false)
    (hcf : ∀ (A : Array Value) (w : World), (callFunc f A).run Try.prog w = .ok (.enter f A) w)
    (hcall : ∀ w1, Kept (fun _ => False) w w1 → Calls Try.prog f (first ++ cap) w1 (RdPost w1 p g l o)) :
    Calls Try.prog 51 #[.pointer (some ⟨p, 0, none⟩), .func (.func f) first cap] w (RdRes w p g l o) := by
  match o, hcall with
  | none, hcall => exact attempt_none p g l a f first cap w h hcf hcall
  | some (n, a'), hcall => exact attempt_some p g l a f first cap n a' w h hcf hcall

end Go.Proofs.Ythhagejcgobfgaa
namespace Go.Proofs.Ythhagejcgobfgaa
open Go.RowKit

/-- At block p lies a reader of the bytes l (in block g): at a bit, or lost. -/
def RdIs (w : World) (p g : Nat) (l : List Nat) (st : Option Nat) : Prop :=
  match st with
  | some a => a ≤ 8 * l.length ∧ RdAt w p g l a false
  | none => ∃ a, RdAt w p g l a true

theorem RdIs.kept {S : Nat → Prop} {w w' : World} {p g : Nat} {l : List Nat} {st : Option Nat} (h : RdIs w p g l st) (k : Kept S w w') (hp : ¬ S p) (hg : ¬ S g) : RdIs w' p g l st := by
  cases st with
  | none => obtain ⟨a, h⟩ := h; exact ⟨a, h.kept k hp hg⟩
  | some a => exact ⟨h.1, h.2.kept k hp hg⟩

theorem RdIs.lt {w : World} {p g : Nat} {l : List Nat} {st : Option Nat} (h : RdIs w p g l st) : p < w.heap.size ∧ g < w.heap.size ∧ g ≠ p := by
  cases st with
  | none => obtain ⟨a, h⟩ := h; exact ⟨h.lt.1, h.lt.2, h.2.2⟩
  | some a => exact ⟨h.2.lt.1, h.2.lt.2, h.2.2.2⟩

/-- A reading, of a reader that may be lost. -/
def rdStep (rd : Nat → Option (Int × Nat)) (st : Option Nat) : Int × Option Nat :=
  match st with
  | none => (0, none)
  | some a => match rd a with
    | some (n, a') => (n, some a')
    | none => (0, none)

/-- What a reader's call leaves. -/
def RdDone (w : World) (p g : Nat) (l : List Nat) (r : Int × Option Nat) (e : Ending) (w' : World) : Prop :=
  e = .returned (.int .i64 r.1) ∧ RdIs w' p g l r.2 ∧ Kept (· = p) w w'

theorem RdDone.of_res {w w' : World} {p g : Nat} {l : List Nat} {e : Ending} (rd : Nat → Option (Int × Nat)) (a : Nat) (hb : ∀ n a', rd a = some (n, a') → a' ≤ 8 * l.length) (h : RdRes w p g l (rd a) e w') :
    RdDone w p g l (rdStep rd (some a)) e w' := by
  cases ho : rd a with
  | none =>
    have e : rdStep rd (some a) = (0, none) := by simp [rdStep, ho]
    rw [e]
    rw [ho] at h
    exact ⟨h.1, h.2.1, h.2.2⟩
  | some na =>
    obtain ⟨n, a'⟩ := na
    have e : rdStep rd (some a) = (n, some a') := by simp [rdStep, ho]
    rw [e]
    rw [ho] at h
    exact ⟨h.1, ⟨hb n a' ho, h.2.1⟩, h.2.2⟩

theorem wholeFrom_le (l : List Nat) (a : Nat) (f z : Nat) (n : Int) (a' : Nat) (hz : z ≤ 31) (h : wholeFrom l a f z = some (n, a')) : a' ≤ 8 * l.length ∧ 0 ≤ n ∧ n < 4294967296 := by
  induction f generalizing z with
  | zero => cases h
  | succ f ih =>
    unfold wholeFrom at h
    split at h
    · split at h
      · split at h
        · simp only [Option.some.injEq, Prod.mk.injEq] at h
          obtain ⟨rfl, rfl⟩ := h
          have h1 := valAt_lt l (a + z + 1) z
          have h2 : (2 : Nat) ^ z ≤ 2147483648 := by have := Nat.pow_le_pow_right (n := 2) (by decide) hz; simpa using this
          have h3 : 0 < (2 : Nat) ^ z := Nat.two_pow_pos z
          omega
        · cases h
      · split at h
        · cases h
        · exact ih _ (by omega) h
    · cases h

theorem Try.enters_signed (A : Array Value) (w : World) : (callFunc 52 A).run Try.prog w = .ok (.enter 52 A) w := by
  exact MuLone.run_callFunc_enter Try.func52 (by kernel_rfl) rfl A w


/-- The number of either sign that a number from 0 on stands for. -/
def unsign (n : Int) : Int := if n % 2 = 1 then (n + 1) / 2 else -(n / 2)
def signedRd (l : List Nat) (most : Int) (a : Nat) : Option (Int × Nat) :=
  match wholeAt l a with
  | some (n, a') => if most < unsign n ∨ most < -unsign n then none else some (unsign n, a')
  | none => none

theorem max_neg (n : Int) (h0 : -4294967296 ≤ n) (h1 : n ≤ 4294967296) (most : Int) : (most < max n (-n)) ↔ (most < n ∨ most < -n) := by omega

set_option maxHeartbeats 400000 in
theorem sign_rd (p g : Nat) (l : List Nat) (a : Nat) (w : World) (hl : Fair l) (h : RdAt w p g l a false) (ha : a ≤ 8 * l.length) :
    Calls Try.prog 53 #[.pointer (some ⟨p, 0, none⟩)] w (RdPost w p g l ((wholeAt l a).map fun x => (unsign x.1, x.2))) := by
  have H0 := Lib.hid h; clear h
  have HL := Lib.hid hl; clear hl
  go_enter Try.func53, Try.ntmps53
  go_wp2_with (fail)
  refine (whole_rd p g l a _ HL.out H0.out ha).mono ?_
  intro e w1 hp
  cases ho : wholeAt l a with
  | none =>
    rw [ho] at hp
    obtain ⟨rfl, h2, h3⟩ := hp
    refine ⟨rfl, ?_⟩
    rw [ho]
    exact ⟨rfl, h2, h3⟩
  | some na =>
    obtain ⟨n, a'⟩ := na
    rw [ho] at hp
    obtain ⟨rfl, h2, h3⟩ := hp
    have hb := wholeFrom_le l a 33 0 n a' (by omega) ho
    obtain ⟨-, hn0, hn1⟩ := hb
    have H2 := Lib.hid h2; clear h2
    have H3 := Lib.hid h3; clear h3
    have HO := Lib.hid ho; clear ho
    by_cases hm : n % 2 = 1
    · have hb : (n % 2 == 1) = true := by simpa using hm
      have hu : unsign n = (n + 1) / 2 := if_pos hm
      have HU := Lib.hid hu; clear hu hm
      go_wp2
      go_ret
      rw [HO.out]
      refine ⟨?_, H2.out, H3.out⟩
      rw [HU.out]; rfl
    · have hb : (n % 2 == 1) = false := by simpa using hm
      have hu : unsign n = -(n / 2) := if_neg hm
      have HU := Lib.hid hu; clear hu
      have HM := Lib.hid hm; clear hm
      go_wp2
      go_ret
      rw [HO.out]
      refine ⟨?_, H2.out, H3.out⟩
      have e : wrap64 (-n.tdiv 2) = unsign n := by
        rw [HU.out, Int.tdiv_eq_ediv_of_nonneg hn0]; unfold wrap64; omega
      show Ending.returned (.int .i64 (wrap64 (-n.tdiv 2))) = _
      rw [e]

theorem unsign_bounds (n : Int) (h0 : 0 ≤ n) (h1 : n < 4294967296) : -4294967296 ≤ unsign n ∧ unsign n ≤ 4294967296 := by unfold unsign; split <;> omega

set_option maxHeartbeats 400000 in
theorem signed_in (p g : Nat) (l : List Nat) (a : Nat) (k : Int) (bk br : Addr) (w : World) (hl : Fair l) (h : RdAt w p g l a false) (ha : a ≤ 8 * l.length)
    (hk : w.cell? bk = some (.int .i64 k)) (hr : w.cell? br = some (.pointer (some ⟨p, 0, none⟩))) (hbk : ¬ bk.block = p) :
    Calls Try.prog 52 #[.pointer (some br), .pointer (some bk)] w (RdPost w p g l (signedRd l k a)) := by
  have H0 := Lib.hid h; clear h
  have HL := Lib.hid hl; clear hl
  have hkl := World.block_lt_of_cell? w bk hk
  go_enter Try.func52, Try.ntmps52
  go_wp2_with (fail)
  refine (sign_rd p g l a _ HL.out H0.out ha).mono ?_
  intro e w1 hp
  cases ho : wholeAt l a with
  | none =>
    rw [ho] at hp
    obtain ⟨rfl, h2, h3⟩ := hp
    have he : signedRd l k a = none := by simp [signedRd, ho]
    rw [he]
    exact ⟨rfl, rfl, h2, h3⟩
  | some na =>
    obtain ⟨n0, a'⟩ := na
    rw [ho] at hp
    obtain ⟨rfl, h2, h3⟩ := hp
    have hb := wholeFrom_le l a 33 0 n0 a' (by omega) ho
    have hu := unsign_bounds n0 hb.2.1 hb.2.2
    have hk1 : w1.cell? bk = some (.int .i64 k) := (World.cell?_of_block (h3.block bk.block hkl hbk)).trans hk
    have H2 := Lib.hid h2; clear h2
    have H3 := Lib.hid h3; clear h3
    have HO := Lib.hid ho; clear ho
    clear hk hr hb
    have hs : signedRd l k a = if k < unsign n0 ∨ k < -unsign n0 then none else some (unsign n0, a') := by simp only [signedRd, HO.out]
    have HS := Lib.hid hs; clear hs
    dsimp only
    generalize unsign n0 = n at *
    obtain ⟨hn0, hn1⟩ := hu
    by_cases hm : k < max n (-n)
    · have he : signedRd l k a = none := by rw [HS.out, if_pos ((max_neg n hn0 hn1 k).1 hm)]
      have HE := Lib.hid he; clear he
      go_wp2_with (go_at_call 54; refine (giveUp_any _).mono ?_; rintro e w' ⟨rfl, rfl⟩)
      refine ⟨rfl, ?_⟩
      rw [HE.out]
      exact ⟨rfl, ⟨a', H2.out⟩, H3.out⟩
    · have he : signedRd l k a = some (n, a') := by rw [HS.out, if_neg (fun x => hm ((max_neg n hn0 hn1 k).2 x))]
      have HE := Lib.hid he; clear he
      go_wp2
      go_ret
      rw [HE.out]
      exact ⟨rfl, H2.out, H3.out⟩

theorem signedRd_le (l : List Nat) (k : Int) (a : Nat) (n : Int) (a' : Nat) (h : signedRd l k a = some (n, a')) : a' ≤ 8 * l.length := by
  unfold signedRd at h
  split at h
  · rename_i m b ho
    split at h
    · cases h
    · cases h; exact (wholeFrom_le l a 33 0 _ _ (by omega) ho).1
  · cases h

theorem two_cells {w w1 : World} {x y : Value} {t t' : TypeId} (k : Kept (fun _ => False) ((w.alloc (.cells #[x] t)).alloc (.cells #[y] t')) w1) :
    w1.cell? ⟨w.heap.size, 0, none⟩ = some x ∧ w1.cell? ⟨w.heap.size + 1, 0, none⟩ = some y := by
  obtain ⟨b0, b1⟩ := two_boxes w x y t t'
  exact ⟨by rw [cell_of_heap (k.at b0 id)]; rfl, by rw [cell_of_heap (k.at b1 id)]; rfl⟩

end Go.Proofs.Ythhagejcgobfgaa
namespace Go.Proofs.Ythhagejcgobfgaa
open Go.RowKit

set_option maxHeartbeats 400000 in
theorem rsigned_any (p g : Nat) (l : List Nat) (st : Option Nat) (m : Int) (w : World) (hl : Fair l) (h : RdIs w p g l st) :
    Calls Try.prog 39 #[.pointer (some ⟨p, 0, none⟩), .int .i64 m] w (RdDone w p g l (rdStep (signedRd l m) st)) := by
  have hmf : ∀ (fn : Fn) (first cap : Array Value) (w : World), (Instr.makeFunc fn first cap).run Try.prog w = .ok (.func fn first cap) w := fun _ _ _ _ => rfl
  have hpl := h.lt.1
  have H0 := Lib.hid h; clear h
  have HL := Lib.hid hl; clear hl
  go_enter Try.func39, Try.ntmps39
  go_wp2_with (fail)
  have kk : Kept (fun _ => False) w ((w.alloc (.cells #[.pointer (some ⟨p, 0, none⟩)] 46)).alloc (.cells #[.int .i64 m] 3)) := ((Kept.refl _ _).alloc _).alloc _
  have HKK := Lib.hid kk; clear kk
  cases st with
  | none =>
    obtain ⟨a, h⟩ := H0.out
    refine (attempt_lost p g l a _ _ (h.kept HKK.out id id)).mono ?_
    rintro e w1 ⟨rfl, hk⟩
    have HK := Lib.hid (HKK.out.trans hk (fun _ _ x => x)); clear hk h
    go_wp2
    go_ret
    refine ⟨rfl, H0.out.kept HK.out id id, HK.out.mono (fun _ _ x => x.elim)⟩
  | some a =>
    obtain ⟨ha, h⟩ := H0.out
    have h1 := h.kept HKK.out id id
    refine (attempt_any p g l a 52 #[] #[.pointer (some ⟨w.heap.size, 0, none⟩), .pointer (some ⟨w.heap.size + 1, 0, none⟩)] (signedRd l m a) _ h1 Try.enters_signed (fun w1 k => ?_)).mono ?_
    · obtain ⟨c0, c1⟩ := two_cells k
      exact signed_in p g l a m ⟨w.heap.size + 1, 0, none⟩ ⟨w.heap.size, 0, none⟩ w1 HL.out (h1.kept k id id) ha c1 c0 (by simp; omega)
    intro e w1 hres
    have hd := RdDone.of_res (signedRd l m) a (signedRd_le l m a) hres
    obtain ⟨rfl, h2, h3⟩ := hd
    have H2 := Lib.hid h2; clear h2
    have H3 := Lib.hid ((HKK.out.mono (S' := (· = p)) (fun _ _ x => x.elim)).trans h3 (fun _ _ x => x)); clear h3 hres h ha h1
    go_wp2
    go_ret
    exact ⟨rfl, H2.out, H3.out⟩

end Go.Proofs.Ythhagejcgobfgaa
namespace Go.Proofs.Ythhagejcgobfgaa
open Go.RowKit

/-- A slice's bytes. -/
def SliceOf (w : World) (v : Value) (l : List Nat) : Prop :=
  ∃ a cap, v = .slice a l.length cap ∧ (0 < l.length → ∃ ad, a = some ad ∧ ∀ j u, (byteVals l)[j]? = some u → w.cell? (ad.add j) = some u)

set_option maxHeartbeats 400000 in
theorem new_any (v : Value) (l : List Nat) (w : World) (hl : l.length < 1099511627776) (hs : SliceOf w v l) :
    Calls Try.prog 20 #[v] w fun e w' => ∃ p g, e = .returned (.pointer (some ⟨p, 0, none⟩)) ∧ RdIs w' p g l (some 0) ∧ w.heap.size ≤ p ∧ w.heap.size ≤ g ∧ Kept (fun _ => False) w w' := by
  obtain ⟨a, cap, rfl, hsrc⟩ := hs
  have HS := Lib.hid hsrc; clear hsrc
  generalize hN : l.length = n at *
  have HN := Lib.hid hN; clear hN
  have hmk := fun wx : World => run_make_row' (P := Try.prog) 38 5 (.int .u8 0) 1 Try.underlying38 Try.info_u8 rfl .i64 .i64 n (by omega) (by omega) wx
  go_enter Try.func20, Try.ntmps20
  go_wp2_with (with_reducible refine wpList_copy_splice rfl (.tmp 7) (.tmp 8) 38 38 rfl 5 Try.underlying38 Try.size_u8 _ _ _ _ _ _ rfl rfl w.heap.size 0 (List.replicate n (.int .u8 0)) 5 ?hg (byteVals l) ?hn ?hpos ?hfit (oneCell_byteVals _) w.heap.size w ?hb (Nat.le_refl _) ?_)
  case hg => rw [madeCells_one]; exact heap_alloc_new w _
  case hn => rw [byteVals_length, HN.out]; simp
  case hpos =>
    intro h
    rw [byteVals_length, HN.out] at h
    obtain ⟨ad, rfl, hc⟩ := HS.out h
    refine ⟨ad, rfl, fun j u hj => ?_⟩
    have hc' := hc j u hj
    have hlt : (ad.add j).block < w.heap.size := World.block_lt_of_cell? w _ hc'
    rw [← hc']
    exact World.cell?_of_block (Below.heap_alloc _ _ _ hlt)
  case hfit => rw [byteVals_length, HN.out]; simp
  case hb => exact (Below.refl _ _).alloc (Nat.le_refl _) _
  intro w2 HG2 hB2
  have HB := Lib.hid hB2; clear hB2
  have hsz := lt_of_heap HG2.out
  go_wp2
  go_ret
  refine ⟨w2.heap.size, w.heap.size, rfl, ⟨Nat.zero_le _, ?_, ?_, by omega⟩, by omega, Nat.le_refl _, (Below.kept HB.out).alloc _⟩
  · rw [HN.out]; exact heap_alloc_new w2 _
  · rw [Below.heap_alloc _ _ _ hsz, HG2.out, splice_whole _ _ (by rw [byteVals_length, HN.out]; simp)]


theorem lost_any (p g : Nat) (l : List Nat) (st : Option Nat) (w : World) (h : RdIs w p g l st) :
    Calls Try.prog 40 #[.pointer (some ⟨p, 0, none⟩)] w fun e w' => e = .returned (.bool st.isNone) ∧ w = w' := by
  cases st with
  | none => obtain ⟨a, h⟩ := h; exact lost_rd p g l a true w h
  | some a => exact lost_rd p g l a false w h.2
end Go.Proofs.Ythhagejcgobfgaa
namespace Go.Proofs.Ythhagejcgobfgaa
open Go.RowKit

theorem WrIs.new (w : World) : WrIs (w.alloc (.cells #[.slice none 0 0, .int .i64 0] 41)) w.heap.size none [] := by
  refine ⟨.slice none 0 0, heap_alloc_new w _, World.ownsRow_nil _ _ _ _, rfl, by simp⟩

/-- What is kept of all that was there ahead of a block of the call's own is kept. -/
theorem Kept.own {S : Nat → Prop} {w w' : World} {o : Obj} (h : Kept S (w.alloc o) w') (hs : ∀ k, k < w.heap.size → ¬ S k) : Kept (fun _ => False) w w' := by
  refine ⟨h.os, h.tape, h.output, ?_, fun k hk _ => ?_⟩
  · have := h.size; simp at this; omega
  · exact (h.block k (by simp; omega) (hs k hk)).trans (Below.heap_alloc w o k hk)

theorem SliceOf.of_new {w : World} {g : Nat} {l : List Nat} (h : w.heap[g]? = some (.cells (byteVals l).toArray 5 (0, 0))) : SliceOf w (.slice (some ⟨g, 0, none⟩) l.length l.length) l := by
  refine ⟨_, _, rfl, fun _ => ⟨⟨g, 0, none⟩, rfl, fun j u hj => ?_⟩⟩
  rw [Addr.add_lit, cell_of_heap h]
  simpa using hj

theorem Kept.all {w w' : World} (h : Kept (fun _ => False) w w') : Below w.heap.size w w' := h.below (Nat.le_refl _) (fun _ _ x => x)

end Go.Proofs.Ythhagejcgobfgaa
namespace Go.Proofs.Ythhagejcgobfgaa
open Go.RowKit

/-- A writer that was made behind w0; of what was there in w0 nothing has turned. -/
def One (w0 w : World) (p : Nat) (bs : List Bool) : Prop :=
  ∃ r, WrIs w p r bs ∧ (∀ i, WrFoot p r i → w0.heap.size ≤ i) ∧ Kept (fun _ => False) w0 w

theorem One.step {w0 w : World} {p : Nat} {bs : List Bool} (h : One w0 w p bs) : ∃ r, WrIs w p r bs ∧ ∀ w' bs', Wrote w w' p r bs' → One w0 w' p bs' := by
  obtain ⟨r, h1, h2, h3⟩ := h
  refine ⟨r, h1, fun w' bs' hw => ?_⟩
  obtain ⟨r', g1, g2, g3⟩ := hw
  refine ⟨r', g1, ?_, h3.trans g3 (fun i hi hf => by have := h2 i hf; omega)⟩
  intro i hi
  rcases hi with rfl | hi
  · exact h2 _ (.inl rfl)
  · rcases g2 with rfl | ⟨g, rfl, hg⟩
    · exact h2 i (.inr hi)
    · simp at hi; have := h3.size; omega

theorem One.new {w0 w : World} (h : Kept (fun _ => False) w0 w) : One w0 (w.alloc (.cells #[.slice none 0 0, .int .i64 0] 41)) w.heap.size [] := by
  refine ⟨none, WrIs.new w, ?_, h.alloc _⟩
  intro i hi
  rcases hi with rfl | hi
  · exact h.size
  · cases hi

theorem One.kept {w0 w w' : World} {p : Nat} {bs : List Bool} (h : One w0 w p bs) (k : Kept (fun _ => False) w w') : One w0 w' p bs := by
  obtain ⟨r, h1, h2, h3⟩ := h
  exact ⟨r, h1.kept k (fun _ _ x => x), h2, h3.trans k (fun _ _ x => x)⟩

theorem One.all {w0 w : World} {p : Nat} {bs : List Bool} (h : One w0 w p bs) : Kept (fun _ => False) w0 w := by
  obtain ⟨r, h1, h2, h3⟩ := h; exact h3

/-- Two writers, side by side. -/
def Two (w0 w : World) (p q : Nat) (bs cs : List Bool) : Prop :=
  ∃ r s, WrIs w p r bs ∧ WrIs w q s cs ∧ (∀ i, WrFoot p r i → w0.heap.size ≤ i) ∧ (∀ i, WrFoot q s i → w0.heap.size ≤ i) ∧ (∀ i, WrFoot p r i → ¬ WrFoot q s i) ∧ Kept (fun _ => False) w0 w

theorem Two.step {w0 w : World} {p q : Nat} {bs cs : List Bool} (h : Two w0 w p q bs cs) : ∃ r, WrIs w p r bs ∧ ∀ w' bs', Wrote w w' p r bs' → Two w0 w' p q bs' cs := by
  obtain ⟨r, s, h1, h2, h3, h4, h5, h6⟩ := h
  refine ⟨r, h1, fun w' bs' hw => ?_⟩
  obtain ⟨r', g1, g2, g3⟩ := hw
  refine ⟨r', s, g1, h2.kept g3 (fun i hi hf => h5 i hf hi), ?_, h4, ?_, h6.trans g3 (fun i hi hf => by have := h3 i hf; omega)⟩
  · intro i hi
    rcases hi with rfl | hi
    · exact h3 _ (.inl rfl)
    · rcases g2 with rfl | ⟨g, rfl, hg⟩
      · exact h3 i (.inr hi)
      · simp at hi; have := h6.size; omega
  · intro i hi hf
    rcases hi with rfl | hi
    · exact h5 _ (.inl rfl) hf
    · rcases g2 with rfl | ⟨g, rfl, hg⟩
      · exact h5 i (.inr hi) hf
      · have := h2.foot_lt hf; simp at hi; omega

theorem Two.new {w0 w : World} (h : Kept (fun _ => False) w0 w) :
    Two w0 ((w.alloc (.cells #[.slice none 0 0, .int .i64 0] 41)).alloc (.cells #[.slice none 0 0, .int .i64 0] 41)) w.heap.size (w.heap.size + 1) [] [] := by
  have h2 := WrIs.new (w.alloc (.cells #[.slice none 0 0, .int .i64 0] 41))
  have e : (w.alloc (.cells #[.slice none 0 0, .int .i64 0] 41)).heap.size = w.heap.size + 1 := by simp
  rw [e] at h2
  refine ⟨none, none, (WrIs.new w).kept ((Kept.refl (fun _ => False) _).alloc _) (fun _ _ x => x), h2, ?_, ?_, ?_, (h.alloc _).alloc _⟩
  · intro i hi
    rcases hi with rfl | hi
    · exact h.size
    · cases hi
  · intro i hi
    rcases hi with rfl | hi
    · have := h.size; omega
    · cases hi
  · intro i hi hf
    rcases hi with rfl | hi
    · rcases hf with h | h
      · omega
      · cases h
    · cases hi

theorem Two.kept {w0 w w' : World} {p q : Nat} {bs cs : List Bool} (h : Two w0 w p q bs cs) (k : Kept (fun _ => False) w w') : Two w0 w' p q bs cs := by
  obtain ⟨r, s, h1, h2, h3, h4, h5, h6⟩ := h
  exact ⟨r, s, h1.kept k (fun _ _ x => x), h2.kept k (fun _ _ x => x), h3, h4, h5, h6.trans k (fun _ _ x => x)⟩

theorem Two.all {w0 w : World} {p q : Nat} {bs cs : List Bool} (h : Two w0 w p q bs cs) : Kept (fun _ => False) w0 w := by
  obtain ⟨r, s, h1, h2, h3, h4, h5, h6⟩ := h; exact h6

theorem Two.left {w0 w : World} {p q : Nat} {bs cs : List Bool} (h : Two w0 w p q bs cs) : One w0 w p bs := by
  obtain ⟨r, s, h1, h2, h3, h4, h5, h6⟩ := h; exact ⟨r, h1, h3, h6⟩


end Go.Proofs.Ythhagejcgobfgaa
namespace Go.Proofs.Ythhagejcgobfgaa
open Go.RowKit

theorem golomb_length (m : Nat) (h0 : m ≠ 0) (h : m ≤ 2147483648) : (golomb m).length = 2 * Lib.bitLen m - 1 := by
  have := bitLen_le32 m h0 h
  simp [golomb, fixedBits_length]; omega

theorem wholeBits_length (n : Int) : (wholeBits n).length = 2 * Lib.bitLen (clampWhole n + 1) - 1 := by
  have := clampWhole_le n
  exact golomb_length _ (by omega) (by omega)

theorem wholeBits_short (n : Int) : (wholeBits n).length ≤ 63 := by
  have := clampWhole_le n
  have := bitLen_le32 (clampWhole n + 1) (by omega) (by omega)
  rw [wholeBits_length]; omega

theorem signedBits_short (n : Int) : (signedBits n).length ≤ 63 := by
  unfold signedBits; split <;> exact wholeBits_short _

end Go.Proofs.Ythhagejcgobfgaa
namespace Go.Proofs.Ythhagejcgobfgaa
open Go.RowKit

/-- A bit's letter. -/
def chr (b : Bool) : UInt8 := if b then 49 else 48
/-- The text of bits. -/
def strOf (bs : List Bool) : ByteArray := ⟨(bs.map chr).toArray⟩

end Go.Proofs.Ythhagejcgobfgaa
namespace Go.Proofs.Ythhagejcgobfgaa
open Go.RowKit

theorem BytesArg.slice {w : World} {v : Value} {l : List Nat} (h : BytesArg w v l) : SliceOf w v l := by
  obtain ⟨a, cap, rfl, -, -, -, hl, hc⟩ := h
  refine ⟨a, cap, rfl, fun hpos => ?_⟩
  obtain ⟨b, off, rfl, hb, hcell⟩ := hc hpos
  refine ⟨⟨b, off, none⟩, rfl, fun j u hj => ?_⟩
  have hjl : j < l.length := by
    have := (List.getElem?_eq_some_iff.1 hj).1
    rwa [byteVals_length] at this
  rw [Addr.add_lit, hcell j hjl]
  rw [← hj]; simp [byteVals, List.getD, hjl]

theorem BytesArg.fair {w : World} {v : Value} {l : List Nat} (h : BytesArg w v l) (hl : l.length < 1099511627776) : Fair l := by
  exact ⟨h.lt256, hl⟩

/-- A reader that was made behind w0; of what was there in w0 nothing has turned. -/
def Rdr (w0 w : World) (p g : Nat) (l : List Nat) (st : Option Nat) : Prop := RdIs w p g l st ∧ w0.heap.size ≤ p ∧ w0.heap.size ≤ g ∧ Kept (fun _ => False) w0 w

theorem Rdr.done {w0 w w' : World} {p g : Nat} {l : List Nat} {st : Option Nat} {r : Int × Option Nat} {e : Ending} (h : Rdr w0 w p g l st) (hd : RdDone w p g l r e w') : e = .returned (.int .i64 r.1) ∧ Rdr w0 w' p g l r.2 := by
  obtain ⟨h1, h2, h3⟩ := hd
  exact ⟨h1, h2, h.2.1, h.2.2.1, h.2.2.2.trans h3 (fun i hi x => by have := h.2.1; omega)⟩

theorem Rdr.kept {w0 w w' : World} {p g : Nat} {l : List Nat} {st : Option Nat} (h : Rdr w0 w p g l st) (k : Kept (fun _ => False) w w') : Rdr w0 w' p g l st :=
  ⟨h.1.kept k id id, h.2.1, h.2.2.1, h.2.2.2.trans k (fun _ _ x => x)⟩

end Go.Proofs.Ythhagejcgobfgaa
namespace Go.Proofs.Ythhagejcgobfgaa
open Go.RowKit

theorem pack_bytes (bs : List Bool) : ∀ x ∈ pack bs, x < 256 := by
  intro x hx
  obtain ⟨i, _, rfl⟩ := List.mem_map.1 hx
  exact byteOf_lt _

end Go.Proofs.Ythhagejcgobfgaa
namespace Go.Proofs.Ythhagejcgobfgaa
open Go.RowKit

/-- All bits of bytes. -/
def bitsOf (l : List Nat) : List Bool := (List.range (8 * l.length)).map (bitAt l)

/-- At block x lies the document's reader. -/
def RfAt (w : World) (x : Nat) (l : List Nat) (a : Nat) (lost : Bool) : Prop :=
  w.heap[x]? = some (.cells #[.string (strOf (bitsOf l)), .int .i64 (a : Int), .bool lost] 52 (0, 0))

theorem RfAt.facts {w : World} {x : Nat} {l : List Nat} {a : Nat} {lost : Bool} (h : RfAt w x l a lost) :
    w.cell? ⟨x, 0, none⟩ = some (.string (strOf (bitsOf l))) ∧ w.cell? ⟨x, 1, none⟩ = some (.int .i64 (a : Int)) ∧ w.cell? ⟨x, 2, none⟩ = some (.bool lost) ∧ w.frozen? ⟨x, 1, none⟩ = false ∧ w.frozen? ⟨x, 2, none⟩ = false :=
  ⟨by rw [cell_of_heap h]; rfl, by rw [cell_of_heap h]; rfl, by rw [cell_of_heap h]; rfl, frozen_of_heap h, frozen_of_heap h⟩

theorem RfAt.setAt {w : World} {x : Nat} {l : List Nat} {a : Nat} {lost : Bool} (h : RfAt w x l a lost) (n : Nat) (y : Int) (hy : y = (n : Int)) : RfAt (w.setCell ⟨x, 1, none⟩ (.int .i64 y)) x l n lost := by
  subst hy; unfold RfAt; rw [heap_setCell_same _ x 1 _ h]; simp

theorem RfAt.setLost {w : World} {x : Nat} {l : List Nat} {a : Nat} {lost : Bool} (h : RfAt w x l a lost) (b : Bool) : RfAt (w.setCell ⟨x, 2, none⟩ (.bool b)) x l a b := by
  unfold RfAt; rw [heap_setCell_same _ x 2 _ h]; simp

theorem RfAt.kept {S : Nat → Prop} {w w' : World} {x : Nat} {l : List Nat} {a : Nat} {lost : Bool} (h : RfAt w x l a lost) (k : Kept S w w') (hx : ¬ S x) : RfAt w' x l a lost := k.at h hx

def RfIs (w : World) (x : Nat) (l : List Nat) (st : Option Nat) : Prop :=
  match st with
  | some a => a ≤ 8 * l.length ∧ RfAt w x l a false
  | none => ∃ a, a ≤ 8 * l.length ∧ RfAt w x l a true

end Go.Proofs.Ythhagejcgobfgaa
namespace Go.Proofs.Ythhagejcgobfgaa
open Go.RowKit

/-- What an operation yields, and what it leaves. -/
def Yields (P : Program) (ρ : Operand → Value) (o : Oper) (w : World) (R : Value → World → Prop) : Prop :=
  match (execOp ρ o).run P w with
  | .ok (.value v) w' => R v w'
  | .ok .skip w' => R undef w'
  | .ok (.enter f args) w' => Calls P f args w' fun e w'' => ∃ v, e = .returned v ∧ R v w''
  | _ => False

theorem Yields.wp {P : Program} {a : Act} {o : Oper} {w : World} {K : Act → World → Prop} {Q : Exit → Act → World → Prop} (h : Yields P a.eval o w (fun v w' => K (a.put o.dst v) w')) : o.wp P a w K Q := by
  unfold Yields at h
  unfold Oper.wp
  generalize (execOp a.eval o).run P w = r at *
  cases r with
  | ok n w' =>
    cases n <;> simp only [Oper.upon] at h ⊢ <;> first
      | exact h
      | exact h.elim
      | exact Calls.mono h (fun e w'' ⟨v, he, hk⟩ => by subst he; exact hk)
  | halt x w' => exact h.elim

/-- Whether an operation is carried out. -/
def goes (D : List (Option Tmp)) (o : Oper) (a : Act) : Bool :=
  match o.guard with
  | none => true
  | some (j, want) => match D.getD j none with
    | none => false
    | some d => match a.eval (.tmp d) with
      | .bool b => b == want
      | _ => false

/-- What the operations ahead of this one have answered. -/
def Deps (D : List (Option Tmp)) (G : Nat → Value → World → Prop) (a : Act) (w : World) : List Edge → Prop
  | [] => True
  | e :: r => (Region.binds .any e = true → match D.getD e.on none with
    | some d => G e.on (a.eval (.tmp d)) w
    | none => True) ∧ Deps D G a w r

/-- What is asked of one operation. -/
def Step (P : Program) (R : World → World → Prop) (D : List (Option Tmp)) (G : Nat → Value → World → Prop) (a0 : Act) (w0 : World) (i : Nat) (o : Oper) : Prop :=
  ∀ (a : Act) (w : World), R w0 w → (∀ t, some t ∉ D → a.eval (.tmp t) = a0.eval (.tmp t)) → Deps D G a w o.after.toList →
    (goes D o a = true → Yields P a.eval o w (fun v w' => G i v w' ∧ R w w')) ∧ (goes D o a = false → G i undef w)

def Steps (P : Program) (R : World → World → Prop) (D : List (Option Tmp)) (G : Nat → Value → World → Prop) (a0 : Act) (w0 : World) : Nat → List Oper → Prop
  | _, [] => True
  | i, o :: r => Step P R D G a0 w0 i o ∧ Steps P R D G a0 w0 (i + 1) r

/-- The frame with all answers in their slots. -/
def putAll (v : Nat → Value) : Nat → List (Option Tmp) → Act → Act
  | _, [], a => a
  | i, d :: r, a => putAll v (i + 1) r (a.put d (v i))

/-- A slot has one operation, and no operation waits for a later one. -/
def plain (size : Nat) : Nat → List (Option Tmp) → List Oper → Bool
  | _, [], [] => true
  | i, d :: D, o :: r => (o.dst == d) && (match d with | none => true | some d => decide (d < size) && !D.contains (some d)) && (o.after.toList.all fun e => !Region.binds .any e || decide (e.on < i)) && plain size (i + 1) D r
  | _, _, _ => false

theorem plain_at {size : Nat} : ∀ {i : Nat} {D : List (Option Tmp)} {os : List Oper}, plain size i D os = true → D.length = os.length ∧ ∀ k o, os[k]? = some o →
    D[k]? = some o.dst ∧ (∀ d, o.dst = some d → d < size ∧ ∀ j, k < j → D[j]? ≠ some (some d)) ∧ ∀ e ∈ o.after.toList, Region.binds .any e = true → e.on < i + k := by
  intro i D os
  induction os generalizing i D with
  | nil =>
    intro h
    cases D with
    | nil => exact ⟨rfl, by simp⟩
    | cons d D => simp [plain] at h
  | cons o r ih =>
    intro h
    cases D with
    | nil => simp [plain] at h
    | cons d D =>
      simp only [plain, Bool.and_eq_true] at h
      obtain ⟨⟨⟨h1, h2⟩, h3⟩, h4⟩ := h
      have hd : o.dst = d := by simpa using h1
      obtain ⟨hl, hr⟩ := ih h4
      refine ⟨by simp [hl], fun k o' hk => ?_⟩
      cases k with
      | zero =>
        simp at hk
        subst hk
        refine ⟨by simp [hd], fun d' hd' => ?_, fun e he hb => ?_⟩
        · rw [hd'] at hd
          subst hd
          simp only [Bool.and_eq_true, decide_eq_true_eq, Bool.not_eq_true', List.contains_eq_mem, decide_eq_false_iff_not] at h2
          refine ⟨h2.1, fun j hj hD => ?_⟩
          cases j with
          | zero => omega
          | succ j => exact h2.2 (List.mem_of_getElem? (by simpa using hD))
        · have := List.all_eq_true.1 h3 e he
          simp [hb] at this; omega
      | succ k =>
        simp at hk
        obtain ⟨g1, g2, g3⟩ := hr k o' hk
        refine ⟨by simpa using g1, fun d' hd' => ⟨(g2 d' hd').1, fun j hj => ?_⟩, fun e he hb => by have := g3 e he hb; omega⟩
        cases j with
        | zero => omega
        | succ j => simpa using (g2 d' hd').2 j (by omega)

theorem Steps.at {P : Program} {R : World → World → Prop} {D : List (Option Tmp)} {G : Nat → Value → World → Prop} {a0 : Act} {w0 : World} : ∀ {i : Nat} {os : List Oper}, Steps P R D G a0 w0 i os → ∀ k o, os[k]? = some o → Step P R D G a0 w0 (i + k) o := by
  intro i os
  induction os generalizing i with
  | nil => intro _ k o h; simp at h
  | cons x r ih =>
    intro h k o hk
    cases k with
    | zero => simp at hk; subst hk; exact h.1
    | succ k =>
      simp at hk
      have := ih h.2 k o hk
      rwa [show i + 1 + k = i + (k + 1) by omega] at this

theorem Deps.mk {D : List (Option Tmp)} {G : Nat → Value → World → Prop} {a : Act} {w : World} : ∀ {es : List Edge}, (∀ e ∈ es, Region.binds .any e = true → ∀ d, D.getD e.on none = some d → G e.on (a.eval (.tmp d)) w) → Deps D G a w es := by
  intro es
  induction es with
  | nil => intro _; exact trivial
  | cons e r ih =>
    intro h
    refine ⟨fun hb => ?_, ih fun e' he' => h e' (by simp [he'])⟩
    split
    · exact h e (by simp) hb _ ‹_›
    · trivial

/-- What holds when some of the operations have been carried out. -/
structure Mid (ops : Array Oper) (R : World → World → Prop) (D : List (Option Tmp)) (G : Nat → Value → World → Prop) (a0 : Act) (w0 : World) (v : Nat → Value) (listed : Array Bool) (a : Act) (w : World) : Prop where
  size : a.tmps.size = a0.tmps.size
  ls : listed.size = ops.size
  defers : a.defers = a0.defers
  rel : R w0 w
  out : ∀ t, (∀ j, listed.getD j false = true → D[j]? ≠ some (some t)) → a.tmps.getD t undef = a0.tmps.getD t undef
  here : ∀ j d, listed.getD j false = true → D[j]? = some (some d) → a.tmps.getD d undef = v j
  good : ∀ j, listed.getD j false = true → G j (v j) w

theorem getD_set_true (l : Array Bool) (i j : Nat) (hi : i < l.size) : (l.setIfInBounds i true).getD j false = (if j = i then true else l.getD j false) := by
  by_cases h : j = i
  · subst h; simp [Array.getD, hi]
  · rw [if_neg h]
    by_cases hj : j < l.size
    · simp [Array.getD, hj, Ne.symm h]
    · simp [Array.getD, hj]

theorem getD_same (l : Array Bool) (y : Nat) (h : y < l.size) : l.getD y true = l.getD y false := by simp [Array.getD, h]

theorem mem_ready {md : Region.Mode} {ops : Array Oper} {listed : Array Bool} {i : Nat} (h : i ∈ Region.ready md ops listed) :
    i < ops.size ∧ listed.getD i true = false ∧ ∃ o, ops[i]? = some o ∧ ∀ e ∈ o.after.toList, Region.binds md e = true → listed.getD e.on false = true := by
  unfold Region.ready at h
  obtain ⟨h1, h2⟩ := List.mem_filter.1 h
  have hi : i < ops.size := by simpa using h1
  simp only [Bool.and_eq_true, Bool.not_eq_true'] at h2
  refine ⟨hi, h2.1, ops[i], by simp [hi], fun e he hb => ?_⟩
  have h3 := h2.2
  simp only [Array.getElem?_eq_getElem hi, Option.map_some, Option.getD_some] at h3
  have h4 := (Array.all_eq_true'.1 h3) e (by simpa using he)
  simpa [hb] using h4

theorem all_listed {ops : Array Oper} {listed : Array Bool} (hb : ∀ (k : Nat) (o : Oper), ops[k]? = some o → ∀ e ∈ o.after.toList, Region.binds .any e = true → e.on < k) (hr : Region.ready .any ops listed = []) (hls : listed.size = ops.size) : ∀ i, i < ops.size → listed.getD i false = true := by
  intro i
  induction i using Nat.strongRecOn with
  | _ i ih =>
    intro hi
    cases hl : listed.getD i false with
    | true => rfl
    | false =>
      have hmem : i ∈ Region.ready .any ops listed := by
        unfold Region.ready
        refine List.mem_filter.2 ⟨by simpa using hi, ?_⟩
        have hl2 : listed.getD i true = false := by
          have : i < listed.size := by omega
          simpa [Array.getD, this] using hl
        simp only [hl2, Array.getElem?_eq_getElem hi, Option.map_some, Option.getD_some, Bool.not_false, Bool.true_and]
        refine Array.all_eq_true'.2 fun e he => ?_
        cases hbe : Region.binds .any e with
        | false => rfl
        | true =>
          have hlt := hb i ops[i] (by simp [hi]) e (by simpa using he) hbe
          have := ih e.on hlt (by omega)
          simp only [this, Bool.or_true]
      rw [hr] at hmem
      cases hmem

theorem putAll_frame (v : Nat → Value) : ∀ (D : List (Option Tmp)) (i : Nat) (a : Act), (putAll v i D a).tmps.size = a.tmps.size ∧ (putAll v i D a).defers = a.defers ∧
    (∀ t, some t ∉ D → (putAll v i D a).tmps.getD t undef = a.tmps.getD t undef) ∧
    (∀ j d, D[j]? = some (some d) → (∀ k, j < k → D[k]? ≠ some (some d)) → d < a.tmps.size → (putAll v i D a).tmps.getD d undef = v (i + j)) := by
  intro D
  induction D with
  | nil => intro i a; exact ⟨rfl, rfl, fun _ _ => rfl, fun j d h => by simp at h⟩
  | cons x r ih =>
    intro i a
    obtain ⟨h1, h2, h3, h4⟩ := ih (i + 1) (a.put x (v i))
    have hs : (a.put x (v i)).tmps.size = a.tmps.size := by cases x <;> simp [Act.put]
    have hd : (a.put x (v i)).defers = a.defers := by cases x <;> rfl
    refine ⟨h1.trans hs, h2.trans hd, fun t ht => ?_, fun j d hj hlast hlt => ?_⟩
    · simp only [List.mem_cons, not_or] at ht
      rw [putAll, h3 t ht.2]
      cases x with
      | none => rfl
      | some y =>
        have hne : y ≠ t := fun e => ht.1 (by rw [e])
        simp only [Act.put, Array.getD_eq_getD_getElem?, Array.getElem?_setIfInBounds_ne hne]
    · cases j with
      | zero =>
        simp at hj
        subst hj
        have hn : some d ∉ r := by
          intro hm
          obtain ⟨k, hk⟩ := List.mem_iff_getElem?.1 hm
          exact hlast (k + 1) (by omega) (by simpa using hk)
        rw [putAll, h3 d hn]
        simp [Act.put, Array.getD_eq_getD_getElem?, hlt]
      | succ j =>
        have := h4 j d (by simpa using hj) (fun k hk => by simpa using hlast (k + 1) (by omega)) (by rw [hs]; exact hlt)
        rw [putAll, this]; congr 1; omega

theorem Deps.get {D : List (Option Tmp)} {G : Nat → Value → World → Prop} {a : Act} {w : World} : ∀ {es : List Edge} (k : Nat) {e : Edge} {d : Tmp}, Deps D G a w es → es[k]? = some e → Region.binds .any e = true → D.getD e.on none = some d → G e.on (a.eval (.tmp d)) w := by
  intro es
  induction es with
  | nil => intro k e d _ h; simp at h
  | cons x r ih =>
    intro k e d h hk hb hd
    cases k with
    | zero =>
      simp at hk
      subst hk
      have := h.1 hb
      rw [hd] at this
      exact this
    | succ k => exact ih k h.2 (by simpa using hk) hb hd

/-- What is said of a value, and stays so where nothing that is there turns. -/
structure Pd where
  says : Value → World → Prop
  stays : ∀ v w w', says v w → Kept (fun _ => False) w w' → says v w'

def Pd.any : Pd := ⟨fun _ _ => True, fun _ _ _ _ _ => trivial⟩
def Pd.eq (c : Value) : Pd := ⟨fun v _ => v = c, fun _ _ _ h _ => h⟩

/-- What is said of the operations' answers. -/
def Said (Gs : List Pd) (i : Nat) (v : Value) (w : World) : Prop := (Gs.getD i Pd.any).says v w

theorem Step.one {P : Program} {D : List (Option Tmp)} {Gs : List Pd} {a0 : Act} {w0 : World} {i : Nat} {o : Oper} (hg : o.guard = none)
    (h : ∀ (a : Act) (w : World), Kept (fun _ => False) w0 w → (∀ t, some t ∉ D → a.eval (.tmp t) = a0.eval (.tmp t)) → Deps D (Said Gs) a w o.after.toList → Yields P a.eval o w (fun v w' => Said Gs i v w' ∧ Kept (fun _ => False) w w')) :
    Step P (Kept (fun _ => False)) D (Said Gs) a0 w0 i o := by
  intro a w hR hout hD
  refine ⟨fun _ => h a w hR hout hD, fun hgo => ?_⟩
  unfold goes at hgo
  rw [hg] at hgo
  cases hgo

theorem Step.when {P : Program} {D : List (Option Tmp)} {Gs : List Pd} {a0 : Act} {w0 : World} {i : Nat} {o : Oper} (j : Nat) (want : Bool) (d : Tmp) (hg : o.guard = some (j, want)) (hd : D.getD j none = some d)
    (h : ∀ (a : Act) (w : World), Kept (fun _ => False) w0 w → (∀ t, some t ∉ D → a.eval (.tmp t) = a0.eval (.tmp t)) → Deps D (Said Gs) a w o.after.toList → a.eval (.tmp d) = .bool want ∧ Yields P a.eval o w (fun v w' => Said Gs i v w' ∧ Kept (fun _ => False) w w')) :
    Step P (Kept (fun _ => False)) D (Said Gs) a0 w0 i o := by
  intro a w hR hout hD
  obtain ⟨h1, h2⟩ := h a w hR hout hD
  refine ⟨fun _ => h2, fun hgo => ?_⟩
  unfold goes at hgo
  rw [hg] at hgo
  simp only [hd, h1] at hgo
  simp at hgo

end Go.Proofs.Ythhagejcgobfgaa
namespace Go.Proofs.Ythhagejcgobfgaa
open Go.RowKit

def waitsOn (o : Oper) (j : Nat) : Bool := o.after.toList.any fun e => Region.binds .any e && e.on == j

/-- The operations from n on come last, one behind the other. -/
def tailed (os : List Oper) (n : Nat) : Bool :=
  decide (n < os.length) &&
  ((List.range n).all fun i => (List.range (n + 1)).any fun j => decide (i < j) && (os[j]?.any fun o => waitsOn o i)) &&
  ((List.range os.length).all fun j => !decide (n < j) || (os[j]?.any fun o => waitsOn o (j - 1))) &&
  ((List.range os.length).all fun j => os[j]?.all fun o => o.after.toList.all fun e => !Region.binds .any e || decide (e.on < j)) &&
  ((List.range n).all fun j => os[j]?.all fun o => match o.guard with | none => true | some g => decide (g.1 < n))

structure Tailed (ops : Array Oper) (n : Nat) : Prop where
  lt : n < ops.size
  cov : ∀ i, i < n → ∃ j o, i < j ∧ j ≤ n ∧ ops[j]? = some o ∧ ∃ e ∈ o.after.toList, Region.binds .any e = true ∧ e.on = i
  line : ∀ j o, n < j → ops[j]? = some o → ∃ e ∈ o.after.toList, Region.binds .any e = true ∧ e.on = j - 1
  back : ∀ (k : Nat) (o : Oper), ops[k]? = some o → ∀ e ∈ o.after.toList, Region.binds .any e = true → e.on < k
  guards : ∀ (k : Nat) (o : Oper), k < n → ops[k]? = some o → ∀ g, o.guard = some g → g.1 < n

theorem waitsOn_iff {o : Oper} {j : Nat} : waitsOn o j = true ↔ ∃ e ∈ o.after.toList, Region.binds .any e = true ∧ e.on = j := by
  unfold waitsOn
  rw [List.any_eq_true]
  constructor
  · rintro ⟨e, he, h⟩; simp only [Bool.and_eq_true, beq_iff_eq] at h; exact ⟨e, he, h.1, h.2⟩
  · rintro ⟨e, he, h1, h2⟩; exact ⟨e, he, by simp [h1, h2]⟩

theorem tailed_all {ops : Array Oper} {n : Nat} (h : tailed ops.toList n = true) : Tailed ops n := by
  unfold tailed at h
  simp only [Bool.and_eq_true, decide_eq_true_eq, List.all_eq_true, List.mem_range] at h
  obtain ⟨⟨⟨⟨h1, h2⟩, h3⟩, h4⟩, h5⟩ := h
  refine ⟨by simpa using h1, fun i hi => ?_, fun j o hj ho => ?_, fun k o hk e he hb => ?_, fun k o hkn hk g hg => ?_⟩
  · obtain ⟨j, hj, h⟩ := List.any_eq_true.1 (h2 i hi)
    have hj' : j < n + 1 := by simpa using hj
    simp only [Bool.and_eq_true, decide_eq_true_eq] at h
    cases ho : ops.toList[j]? with
    | none => rw [ho] at h; simp at h
    | some o =>
      rw [ho] at h
      exact ⟨j, o, h.1, by omega, by simpa using ho, waitsOn_iff.1 (by simpa using h.2)⟩
  · have hlt : j < ops.toList.length := by have := (Array.getElem?_eq_some_iff.1 ho).1; simpa using this
    have h := h3 j hlt
    have ho' : ops.toList[j]? = some o := by simpa using ho
    rw [ho'] at h
    simp only [hj, decide_true, Bool.not_true, Bool.false_or, Option.any_some] at h
    exact waitsOn_iff.1 h
  · have hlt : k < ops.toList.length := by have := (Array.getElem?_eq_some_iff.1 hk).1; simpa using this
    have h := h4 k hlt
    have ho' : ops.toList[k]? = some o := by simpa using hk
    rw [ho'] at h
    simp only [Option.all_some] at h
    have := List.all_eq_true.1 h e he
    simpa [hb] using this
  · have h := h5 k hkn
    have ho' : ops.toList[k]? = some o := by simpa using hk
    rw [ho'] at h
    simp only [Option.all_some, hg] at h
    simpa using h

theorem ready_mk {ops : Array Oper} {listed : Array Bool} {i : Nat} {o : Oper} (hi : i < ops.size) (hls : listed.size = ops.size) (hl : listed.getD i false = false) (ho : ops[i]? = some o)
    (h : ∀ e ∈ o.after.toList, Region.binds .any e = true → listed.getD e.on false = true) : i ∈ Region.ready .any ops listed := by
  unfold Region.ready
  refine List.mem_filter.2 ⟨by simpa using hi, ?_⟩
  have hl2 : listed.getD i true = false := by
    have : i < listed.size := by omega
    simpa [Array.getD, this] using hl
  simp only [hl2, ho, Option.map_some, Option.getD_some, Bool.not_false, Bool.true_and]
  refine Array.all_eq_true'.2 fun e he => ?_
  cases hbe : Region.binds .any e with
  | false => rfl
  | true =>
    have := h e (by simpa using he) hbe
    simp only [this, Bool.or_true]

theorem wpAny_last {P : Program} {ops : Array Oper} {Q : Exit → Act → World → Prop} {n : Nat} (T : Tailed ops n) :
    ∀ (fuel k : Nat) (listed : Array Bool) (a : Act) (w : World), n ≤ k → k ≤ ops.size → ops.size - k ≤ fuel → listed.size = ops.size → (∀ j, j < k → listed.getD j false = true) → (∀ j, k ≤ j → listed.getD j false = false) →
      wpList P ops Q (ops.toList.drop k) a w → wpAny P .any ops Q fuel listed a w := by
  have none_ready : ∀ (listed : Array Bool), listed.size = ops.size → (∀ j, j < ops.size → listed.getD j false = true) → Region.ready .any ops listed = [] := by
    intro listed hls hall
    cases hr : Region.ready .any ops listed with
    | nil => rfl
    | cons y r =>
      have hy : y ∈ Region.ready .any ops listed := by rw [hr]; simp
      obtain ⟨q1, q2, _⟩ := mem_ready hy
      have h1 := hall y q1
      rw [getD_same _ y (by omega)] at q2
      rw [q2] at h1; cases h1
  intro fuel
  induction fuel with
  | zero =>
    intro k listed a w hn hk hf hls h1 h2 hw
    have hke : k = ops.size := by omega
    subst hke
    rw [List.drop_of_length_le (by simp)] at hw
    exact ⟨none_ready listed hls h1, hw⟩
  | succ fuel ih =>
    intro k listed a w hn hk hf hls h1 h2 hw
    by_cases hke : k = ops.size
    · subst hke
      rw [List.drop_of_length_le (by simp)] at hw
      have hr := none_ready listed hls h1
      exact ⟨fun _ => hw, fun i hi => by rw [hr] at hi; cases hi⟩
    · have hlt : k < ops.size := by omega
      have hok : ops[k]? = some ops[k] := by simp [hlt]
      have hdrop : ops.toList.drop k = ops[k] :: ops.toList.drop (k + 1) := by
        rw [List.drop_eq_getElem_cons (by simpa using hlt)]; simp
      rw [hdrop] at hw
      have hrk : k ∈ Region.ready .any ops listed := ready_mk hlt hls (h2 k (Nat.le_refl _)) hok fun e he hb => h1 _ (T.back k _ hok e he hb)
      refine ⟨fun hr => (by rw [hr] at hrk; cases hrk), fun i hi => ?_⟩
      obtain ⟨q1, q2, o, ho, haft⟩ := mem_ready hi
      rw [getD_same _ i (by omega)] at q2
      have hik : i = k := by
        rcases Nat.lt_trichotomy i k with h | h | h
        · rw [h1 i h] at q2; cases q2
        · exact h
        · obtain ⟨e, he, hb, hon⟩ := T.line i o (by omega) ho
          have := haft e he hb
          rw [hon, h2 (i - 1) (by omega)] at this; cases this
      subst hik
      have next : ∀ (a' : Act) (w' : World), wpList P ops Q (ops.toList.drop (i + 1)) a' w' → wpAny P .any ops Q fuel (listed.setIfInBounds i true) a' w' := by
        intro a' w' h'
        have hlsz : i < listed.size := by omega
        refine ih (i + 1) _ a' w' (by omega) (by omega) (by omega) (by simpa using hls) (fun j hj => ?_) (fun j hj => ?_) h'
        · rw [getD_set_true _ _ _ hlsz]; split
          · rfl
          · exact h1 j (by omega)
        · rw [getD_set_true _ _ _ hlsz, if_neg (by omega)]; exact h2 j (by omega)
      unfold wpList at hw
      unfold wpOp
      rw [hok]
      simp only
      split at hw
      · rw [if_pos ‹_›]
        rcases hw with h | h
        · exact .inl (Oper.wp_mono next h)
        · exact .inr h
      · rw [if_neg ‹_›]
        exact next _ _ hw

theorem wpAny_tail {P : Program} {ops : Array Oper} {Q : Exit → Act → World → Prop} {a0 : Act} {w0 : World} (n : Nat) (T : Tailed ops n) (R : World → World → Prop) (D : List (Option Tmp)) (G : Nat → Value → World → Prop)
    (hpl : plain a0.tmps.size 0 D (ops.toList.take n) = true) (hrf : ∀ a, R a a) (htr : ∀ a b c, R a b → R b c → R a c) (hst : ∀ i v w w', G i v w → R w w' → G i v w') (hsteps : Steps P R D G a0 w0 0 (ops.toList.take n))
    (hend : ∀ (v : Nat → Value) (w : World), R w0 w → (∀ i, i < n → G i (v i) w) → wpList P ops Q (ops.toList.drop n) (putAll v 0 D a0) w) :
    ∀ (fuel : Nat) (listed : Array Bool) (v : Nat → Value) (a : Act) (w : World), Mid ops R D G a0 w0 v listed a w →
      (∀ (k : Nat) (o : Oper), ops[k]? = some o → listed.getD k false = true → ∀ e ∈ o.after.toList, Region.binds .any e = true → listed.getD e.on false = true) → (∀ j, n ≤ j → listed.getD j false = false) →
      (List.range ops.size).countP (fun i => !listed.getD i false) ≤ fuel → wpAny P .any ops Q fuel listed a w := by
  have hlt0 := T.lt
  obtain ⟨hDl, hpa'⟩ := plain_at hpl
  have hlen : D.length = n := by
    have : D.length = min n ops.size := by simpa using hDl
    omega
  have hpa : ∀ k o, k < n → ops.toList[k]? = some o → D[k]? = some o.dst ∧ (∀ d, o.dst = some d → d < a0.tmps.size ∧ ∀ j, k < j → D[j]? ≠ some (some d)) := by
    intro k o hk ho
    have h := hpa' k o (by rw [List.getElem?_take, if_pos hk]; exact ho)
    exact ⟨h.1, h.2.1⟩
  have hback := T.back
  have fin : ∀ (listed : Array Bool) (v : Nat → Value) (a : Act) (w : World), Mid ops R D G a0 w0 v listed a w → (∀ i, i < n → listed.getD i false = true) → wpList P ops Q (ops.toList.drop n) a w := by
    intro listed v a w hm hall
    have hp := putAll_frame v D 0 a0
    have ha : a = putAll v 0 D a0 := by
      have ht : a.tmps = (putAll v 0 D a0).tmps := by
        apply Array.ext
        · rw [hm.size, hp.1]
        · intro t h1 h2
          have e : a.tmps.getD t undef = (putAll v 0 D a0).tmps.getD t undef := by
            by_cases hmem : some t ∈ D
            · obtain ⟨j, hj⟩ := List.mem_iff_getElem?.1 hmem
              have hjs : j < n := by rw [← hlen]; exact (List.getElem?_eq_some_iff.1 hj).1
              have hjo : j < ops.size := by omega
              obtain ⟨g1, g2⟩ := hpa j ops[j] hjs (by simp [hjo])
              have hdst : ops[j].dst = some t := by rw [hj] at g1; exact (Option.some.inj g1).symm
              obtain ⟨k1, k2⟩ := g2 t hdst
              rw [hm.here j t (hall j hjs) hj, hp.2.2.2 j t hj k2 k1, Nat.zero_add]
            · rw [hp.2.2.1 t hmem, hm.out t (fun j _ hj => hmem (List.mem_of_getElem? hj))]
          simpa [Array.getD_eq_getD_getElem?, h1, h2] using e
      have hd : a.defers = (putAll v 0 D a0).defers := by rw [hm.defers, hp.2.1]
      cases a
      cases hq : putAll v 0 D a0
      rw [hq] at ht hd
      simp only at ht hd
      rw [ht, hd]
    rw [ha]
    exact hend v w hm.rel (fun i hi => hm.good i (hall i hi))
  intro fuel
  induction fuel with
  | zero =>
    intro listed v a w hm _ htl hcount
    exfalso
    have hz : (List.range ops.size).countP (fun i => !listed.getD i false) = 0 := by omega
    rw [List.countP_eq_zero] at hz
    have := hz n (by simpa using hlt0)
    rw [htl n (Nat.le_refl _)] at this
    exact this rfl
  | succ fuel ih =>
    intro listed v a w hm hcl htl hcount
    refine ⟨fun hr => ?_, fun i hi => ?_⟩
    · have := all_listed hback hr hm.ls n hlt0
      rw [htl n (Nat.le_refl _)] at this; cases this
    obtain ⟨hlt, hnl, o, ho, haft⟩ := mem_ready hi
    have hlsz : i < listed.size := by rw [hm.ls]; exact hlt
    have hnl' : listed.getD i false = false := by simpa [Array.getD, hlsz] using hnl
    have hin : i ≤ n := by
      rcases Nat.lt_or_ge n i with h | h
      · obtain ⟨e, he, hb, hon⟩ := T.line i o h ho
        have := haft e he hb
        rw [hon, htl (i - 1) (by omega)] at this; cases this
      · exact h
    by_cases hine : i = n
    · -- all others are done
      have hall : ∀ j, j < n → listed.getD j false = true := by
        suffices h : ∀ m j, j + m = n → j < n → listed.getD j false = true by
          intro j hj; exact h (n - j) j (by omega) hj
        intro m
        induction m using Nat.strongRecOn with
        | _ m ihm =>
          intro j hm2 hj
          obtain ⟨j', o', h1, h2, h3, e, he, hb, hon⟩ := T.cov j hj
          by_cases hj' : j' = n
          · subst hj'
            rw [← hine] at h3
            rw [ho] at h3
            cases h3
            rw [← hon]; exact haft e he hb
          · have hl := ihm (n - j') (by omega) j' (by omega) (by omega)
            rw [← hon]; exact hcl j' o' h3 hl e he hb
      have hw := fin listed v a w hm hall
      have hfu : ops.size - n ≤ fuel + 1 := by
        have hle : (List.range' n (ops.size - n)).countP (fun i => !listed.getD i false) ≤ (List.range ops.size).countP (fun i => !listed.getD i false) := by
          apply List.Sublist.countP_le
          rw [List.range_eq_range', show ops.size = n + (ops.size - n) by omega, ← List.range'_append_1]
          simp
        have he : (List.range' n (ops.size - n)).countP (fun i => !listed.getD i false) = ops.size - n := by
          rw [List.countP_eq_length.2]
          · simp
          · intro x hx
            have := (List.mem_range'_1.1 hx).1
            rw [htl x this]; rfl
        omega
      have hall2 := wpAny_last (P := P) (Q := Q) T (fuel + 1) n listed a w (Nat.le_refl _) (by omega) hfu hm.ls hall htl hw
      exact hall2.2 i hi
    have hin' : i < n := by omega
    obtain ⟨g1, g2⟩ := hpa i o hin' (by simpa using ho)
    have hstep := hsteps.at i o (by rw [List.getElem?_take, if_pos hin']; simpa using ho)
    rw [Nat.zero_add] at hstep
    have hout : ∀ t, some t ∉ D → a.eval (.tmp t) = a0.eval (.tmp t) := fun t ht => hm.out t (fun j _ hj => ht (List.mem_of_getElem? hj))
    have hdeps : Deps D G a w o.after.toList := Deps.mk fun e he hb d hd => by
      have hl := haft e he hb
      have hlt' := hback i o ho e he hb
      have hDe : D[e.on]? = some (some d) := by
        have hlt2 : e.on < D.length := by rw [hlen]; omega
        simp only [List.getD, List.getElem?_eq_getElem hlt2, Option.getD_some] at hd
        rw [List.getElem?_eq_getElem hlt2, hd]
      have := hm.here e.on d hl hDe
      show G e.on (a.tmps.getD d undef) w
      rw [this]; exact hm.good e.on hl
    obtain ⟨s1, s2⟩ := hstep a w hm.rel hout hdeps
    -- what is left when it answers x in the world w'
    have next : ∀ (x : Value) (w' : World), G i x w' → R w w' → wpAny P .any ops Q fuel (listed.setIfInBounds i true) (a.put o.dst x) w' := by
      intro x w' hG hR
      have hcnt : (List.range ops.size).countP (fun j => !(listed.setIfInBounds i true).getD j false) ≤ fuel := by
        have h1 : (List.range ops.size).countP (fun j => !(listed.setIfInBounds i true).getD j false) < (List.range ops.size).countP (fun j => !listed.getD j false) := by
          have hmemi : i ∈ List.range ops.size := by simpa using hlt
          have key : ∀ (l : List Nat), i ∈ l → (∀ j, (!(listed.setIfInBounds i true).getD j false) = true → (!listed.getD j false) = true) → l.countP (fun j => !(listed.setIfInBounds i true).getD j false) < l.countP (fun j => !listed.getD j false) := by
            intro l
            induction l with
            | nil => intro h; cases h
            | cons y r ihl =>
              intro hy himp
              have hle : r.countP (fun j => !(listed.setIfInBounds i true).getD j false) ≤ r.countP (fun j => !listed.getD j false) := List.countP_mono_left fun j _ hj => himp j hj
              by_cases hyi : y = i
              · subst hyi
                have e1 : (!(listed.setIfInBounds y true).getD y false) = false := by rw [getD_set_true _ _ _ hlsz, if_pos rfl]; rfl
                have e2 : (!listed.getD y false) = true := by rw [hnl']; rfl
                rw [List.countP_cons, List.countP_cons]
                simp only [e1, e2, if_true, Bool.false_eq_true, if_false]
                omega
              · have hir : i ∈ r := by
                  rcases List.mem_cons.1 hy with h | h
                  · exact absurd h.symm hyi
                  · exact h
                have := ihl hir himp
                rw [List.countP_cons, List.countP_cons]
                have e3 : (listed.setIfInBounds i true).getD y false = listed.getD y false := by rw [getD_set_true _ _ _ hlsz, if_neg hyi]
                rw [e3]; omega
          refine key _ hmemi fun j hj => ?_
          rw [getD_set_true _ _ _ hlsz] at hj
          by_cases hji : j = i
          · rw [if_pos hji] at hj; cases hj
          · rwa [if_neg hji] at hj
        omega
      have hmid : Mid ops R D G a0 w0 (fun j => if j = i then x else v j) (listed.setIfInBounds i true) (a.put o.dst x) w' := by
        refine ⟨?_, by simpa using hm.ls, ?_, htr _ _ _ hm.rel hR, ?_, ?_, ?_⟩
        · rw [← hm.size]; cases o.dst <;> simp [Act.put]
        · rw [← hm.defers]; cases o.dst <;> rfl
        · intro t ht
          have hold := hm.out t (fun j hj => ht j (by rw [getD_set_true _ _ _ hlsz]; split <;> first | rfl | exact hj))
          have hne : o.dst ≠ some t := by
            intro e
            exact ht i (by rw [getD_set_true _ _ _ hlsz, if_pos rfl]) (by rw [g1, e])
          rw [← hold]
          cases hd : o.dst with
          | none => rfl
          | some d =>
            have : d ≠ t := fun e => hne (by rw [hd, e])
            simp only [Act.put, Array.getD_eq_getD_getElem?, Array.getElem?_setIfInBounds_ne this]
        · intro j d hj hD
          by_cases hji : j = i
          · subst hji
            have hd : o.dst = some d := by rw [g1] at hD; exact Option.some.inj hD
            have hsz : d < a.tmps.size := by rw [hm.size]; exact (g2 d hd).1
            simp [hd, Act.put, Array.getD_eq_getD_getElem?, hsz]
          · rw [getD_set_true _ _ _ hlsz, if_neg hji] at hj
            have hold := hm.here j d hj hD
            rw [if_neg hji, ← hold]
            cases hd : o.dst with
            | none => rfl
            | some y =>
              have hne : y ≠ d := by
                rintro rfl
                rw [hd] at g1
                rcases Nat.lt_or_gt_of_ne hji with hlt2 | hgt2
                · have hjn : j < n := by rw [← hlen]; exact (List.getElem?_eq_some_iff.1 hD).1
                  have hjs : j < ops.size := by omega
                  obtain ⟨k1, k2⟩ := hpa j ops[j] hjn (by simp [hjs])
                  have hdst : ops[j].dst = some y := by rw [hD] at k1; exact (Option.some.inj k1).symm
                  exact (k2 y hdst).2 i hlt2 g1
                · exact (g2 y hd).2 j hgt2 hD
              simp only [Act.put, Array.getD_eq_getD_getElem?, Array.getElem?_setIfInBounds_ne hne]
        · intro j hj
          by_cases hji : j = i
          · subst hji; simpa using hG
          · rw [getD_set_true _ _ _ hlsz, if_neg hji] at hj
            simp only [if_neg hji]
            exact hst _ _ _ _ (hm.good j hj) hR
      refine ih _ _ _ _ hmid ?_ ?_ hcnt
      · intro k o' hk hl e he hb
        rw [getD_set_true _ _ _ hlsz] at hl ⊢
        by_cases hee : e.on = i
        · rw [if_pos hee]
        · rw [if_neg hee]
          by_cases hki : k = i
          · subst hki
            rw [ho] at hk
            cases hk
            exact haft e he hb
          · rw [if_neg hki] at hl
            exact hcl k o' hk hl e he hb
      · intro j hj
        rw [getD_set_true _ _ _ hlsz, if_neg (by omega)]; exact htl j hj
    have hwant : Region.wanted o (yielded ops a.tmps) = goes D o a := by
      unfold Region.wanted goes
      cases hg : o.guard with
      | none => rfl
      | some p =>
        obtain ⟨j, want⟩ := p
        simp only [yielded]
        by_cases hj : j < n
        · have hjo : j < ops.size := by omega
          obtain ⟨k1, k2⟩ := hpa j ops[j] hj (by simp [hjo])
          have hDj : D.getD j none = ops[j].dst := by simp [List.getD, k1]
          rw [hDj]
          simp only [Array.getElem?_eq_getElem hjo, Option.bind_some]
          cases hd : ops[j].dst with
          | none => simp
          | some d =>
            have hsz : d < a.tmps.size := by rw [hm.size]; exact (k2 d hd).1
            simp only [Option.bind_some, Array.getElem?_eq_getElem hsz]
            have he : a.eval (.tmp d) = a.tmps[d] := by simp [Act.eval, Array.getD, hsz]
            rw [he]
            cases a.tmps[d] <;> simp
        · exact absurd (T.guards i o hin' ho _ hg) hj
    unfold wpOp
    rw [ho]
    simp only [hwant]
    cases hgo : goes D o a with
    | true =>
      simp only [if_true]
      refine .inl (Yields.wp ?_)
      have := s1 hgo
      revert this
      unfold Yields
      generalize (execOp a.eval o).run P w = res
      intro h
      cases res with
      | ok n w' =>
        cases n <;> simp only at h ⊢ <;> first
          | exact next _ _ h.1 h.2
          | exact h.elim
          | exact Calls.mono h (fun e w'' ⟨y, he, hk⟩ => ⟨y, he, next _ _ hk.1 hk.2⟩)
      | halt y w' => exact h.elim
    | false =>
      simp only [Bool.false_eq_true, if_false]
      exact next undef w (s2 hgo) (hrf w)


theorem wp_region_tail {P : Program} {id : Nat} {ops : Array Oper} {Q : Exit → Act → World → Prop} {a0 : Act} {w0 : World} (n : Nat) (D : List (Option Tmp)) (Gs : List Pd)
    (hm : P.follows .mixedOrders = true) (hta : tailed ops.toList n = true) (hpl : plain a0.tmps.size 0 D (ops.toList.take n) = true)
    (hsteps : Steps P (Kept (fun _ => False)) D (Said Gs) a0 w0 0 (ops.toList.take n))
    (hend : ∀ (v : Nat → Value) (w : World), Kept (fun _ => False) w0 w → (∀ i, i < n → Said Gs i (v i) w) → wpList P ops Q (ops.toList.drop n) (putAll v 0 D a0) w) : (Code.region id ops true).wp P Q a0 w0 := by
  refine wp_region_any hm ?_
  have T := tailed_all hta
  have hno : ∀ j, (Array.replicate ops.size false).getD j false = false := by
    intro j
    by_cases h : j < ops.size <;> simp [Array.getD, h]
  refine wpAny_tail n T (Kept (fun _ => False)) D (Said Gs) hpl (fun a => Kept.refl _ a) (fun _ _ _ h k => h.trans k (fun _ _ x => x)) (fun i _ _ _ h k => (Gs.getD i Pd.any).stays _ _ _ h k) hsteps hend ops.size _ (fun _ => undef) a0 _ ⟨rfl, by simp, rfl, (Kept.refl _ _).drew, fun _ _ => rfl, fun j _ hj => ?_, fun j hj => ?_⟩ ?_ ?_ ?_
  · rw [hno] at hj; cases hj
  · rw [hno] at hj; cases hj
  · intro k o _ hl; rw [hno] at hl; cases hl
  · intro j _; exact hno j
  · exact Nat.le_trans (List.countP_le_length) (by simp)
end Go.Proofs.Ythhagejcgobfgaa
namespace Go.Proofs.Ythhagejcgobfgaa
open Go.RowKit

section
variable {P : Program} {ρ : Operand → Value} {o : Oper} {w : World} {R : Value → World → Prop}

theorem y_val {v : Value} {w' : World} (h : (execOp ρ o).run P w = .ok (.value v) w') (hR : R v w') : Yields P ρ o w R := by
  unfold Yields; rw [h]; exact hR

theorem y_move {x : Operand} (ho : o.op = .move x) (h : R (ρ x) w) : Yields P ρ o w R := y_val (by simp [execOp, ho]) h
theorem y_assign {x : Operand} (ho : o.op = .assign x) (h : R (ρ x) w) : Yields P ρ o w R := y_val (by simp [execOp, ho]) h
theorem y_pick_true {c x y : Operand} (ho : o.op = .pick c x y) (hc : ρ c = .bool true) (h : R (ρ x) w) : Yields P ρ o w R := y_val (by simp [execOp, ho, hc, asBool]) h
theorem y_pick_false {c x y : Operand} (ho : o.op = .pick c x y) (hc : ρ c = .bool false) (h : R (ρ y) w) : Yields P ρ o w R := y_val (by simp [execOp, ho, hc, asBool]) h

theorem y_eql_int {t t' : TypeId} {k : IntKind} {x y : Operand} {m n : Int} (ho : o.op = .binOp .eql t x y t') (hx : ρ x = .int k m) (hy : ρ y = .int k n) (h : R (.bool (m == n)) w) : Yields P ρ o w R :=
  y_val (by simp [execOp, ho, hx, hy, go_sem]) h
end

section
variable {P : Program} {ρ : Operand → Value} {o : Oper} {w : World} {R : Value → World → Prop}

end
end Go.Proofs.Ythhagejcgobfgaa
namespace Go.Proofs.Ythhagejcgobfgaa
open Go.RowKit

/-- The blocks of the loops over functions that are behind: they lie in F behind the slots. -/
def marksOf : Value → List Nat
  | .tuple vs => vs.toList.filterMap fun | .int .i64 n => some n.toNat | _ => none
  | _ => []
def marked (v : Value) : List Deferred := (marksOf v).map fun D => { target := .collected D, args := #[] }

/-- What the slots hold. -/
structure Fr (N : Nat) (F : Nat → Value) (a : Act) : Prop where
  size : a.tmps.size = N
  defers : a.defers = marked (F N)
  at' : ∀ t, Nat.blt t N = true → a.tmps.getD t undef = F t

def ev (F : Nat → Value) : Operand → Value
  | .tmp t => F t
  | .const v => v
  | .global g => .pointer (some ⟨g, 0, none⟩)
  | .func f => .func (.func f) #[] #[]
/-- The slots alone. -/
def cutF (N : Nat) (F : Nat → Value) : Nat → Value := fun t => cond (Nat.blt t N) (F t) undef

theorem eval_ev (a : Act) : a.eval = ev (fun t => a.tmps.getD t undef) := by funext x; cases x <;> rfl
theorem Fr.cut {N : Nat} {F : Nat → Value} {a : Act} (h : Fr N F a) : (fun t => a.tmps.getD t undef) = cutF N F := by
  funext t
  unfold cutF
  cases hb : Nat.blt t N with
  | true => exact h.at' t hb
  | false =>
    have hle : N ≤ t := by
      rcases Nat.lt_or_ge t N with h1 | h1
      · have hb2 : Nat.blt t N = true := by simpa [Nat.blt_eq] using h1
        rw [hb2] at hb; cases hb
      · exact h1
    simp [Array.getD_eq_getD_getElem?, Array.getElem?_eq_none (by rw [h.size]; exact hle)]
theorem Fr.eval {N : Nat} {F : Nat → Value} {a : Act} (h : Fr N F a) : a.eval = ev (cutF N F) := by rw [eval_ev, h.cut]

def up (F : Nat → Value) (d : Nat) (v : Value) : Nat → Value := fun t => cond (Nat.beq t d) v (F t)
def putF (F : Nat → Value) : Option Tmp → Value → Nat → Value
  | none, _ => F
  | some d, v => up F d v
def fits (N : Nat) : Option Tmp → Bool
  | none => true
  | some d => Nat.blt d N

theorem Fr.put {N : Nat} {F : Nat → Value} {a : Act} (h : Fr N F a) {d : Option Tmp} (hd : fits N d = true) (v : Value) : Fr N (putF F d v) (a.put d v) := by
  cases d with
  | none => exact h
  | some d =>
    have hdn : d < N := by simpa [fits, Nat.blt_eq] using hd
    have hlt : d < a.tmps.size := by rw [h.size]; exact hdn
    have hN : up F d v N = F N := by
      unfold up
      cases hb : Nat.beq N d with
      | false => rfl
      | true => exact absurd (Nat.eq_of_beq_eq_true hb) (Nat.ne_of_gt hdn)
    refine ⟨by rw [← h.size]; simp [Act.put], ?_, fun t ht => ?_⟩
    · show a.defers = marked (up F d v N)
      rw [hN]; exact h.defers
    · show (a.tmps.setIfInBounds d v).getD t undef = up F d v t
      unfold up
      by_cases e : t = d
      · subst e; simp [Array.getD_eq_getD_getElem?, hlt]
      · have : Nat.beq t d = false := by
          cases hb : Nat.beq t d with
          | false => rfl
          | true => exact absurd (Nat.eq_of_beq_eq_true hb) e
        rw [this, cond_false, ← h.at' t ht]
        simp only [Array.getD_eq_getD_getElem?, Array.getElem?_setIfInBounds_ne (Ne.symm e)]

def Fp (N : Nat) (Q : (Exit → (Nat → Value) → World → Prop)) : Exit → Act → World → Prop := fun e a w => ∃ F, Fr N F a ∧ Q e F w
/-- Where the code runs: in a function's own run (none; some 0: where it calls the body of a loop over it), or in a round of a range over a function, whose record is l (some (l + 1)). -/
def fen : Option Nat → Fence
  | none => Fence.wide
  | some 0 => Fence.wide
  | some (l + 1) => Fence.wide.inRound l
theorem fen_fn (l : Option Nat) (f : FuncId) : (fen l).fn f := by
  rcases l with _ | _ | l <;> trivial
theorem fen_depth (l : Option Nat) : (fen l).depth = none := by
  rcases l with _ | _ | l <;> rfl
def wq (l : Option Nat) (P : Program) (N : Nat) (c : Code) (Q : (Exit → (Nat → Value) → World → Prop)) (F : Nat → Value) (w : World) : Prop := ∀ a, Fr N F a → c.wpIn (fen l) 0 P (Fp N Q) a w

theorem not_deferred {P : Program} {ρ : Operand → Value} {o : Oper} {w : World} {R : Value → World → Prop} (h : Yields P ρ o w R) : ∀ c, o.op ≠ .defer c := by
  intro c hc
  unfold Yields at h
  simp only [execOp, hc, Sem.run_bind] at h
  cases hr : (resolve ρ c o.type).run P w with
  | ok d w' => simp [hr] at h
  | halt x w' => simp [hr] at h
theorem calls_fen {l : Option Nat} {n : Nat} {P : Program} {f : FuncId} {args : Array Value} {w : World} {R : Ending → World → Prop} (h : Calls P f args w R) : CallsIn (fen l) n P f args w R := by
  rcases l with _ | _ | l
  · exact callsIn_wide.2 h
  · exact callsIn_wide.2 h
  · exact CallsIn.inRound l (callsIn_wide.2 h)
theorem Yields.wpIn {l : Option Nat} {P : Program} {a : Act} {o : Oper} {w : World} {K : Act → World → Prop} {Q : Exit → Act → World → Prop} (h : Yields P a.eval o w (fun v w' => K (a.put o.dst v) w')) : o.wpIn (fen l) 0 P a w K Q := by
  refine ⟨fun f _ => fen_fn l f, ?_⟩
  rw [Oper.semAt_eq _ _ _ (not_deferred h)]
  unfold Yields at h
  generalize (execOp a.eval o).run P w = r at *
  cases r with
  | ok n w' =>
    cases n <;> simp only at h <;> first
      | exact h
      | exact h.elim
      | exact ⟨fun e => (by rw [fen_depth] at e; cases e), (calls_fen h).mono (fun e w'' ⟨v, he, hk⟩ => by subst he; exact hk)⟩
  | halt x w' => exact h.elim

def thenP (next : (Nat → Value) → World → Prop) (Q : (Exit → (Nat → Value) → World → Prop)) : (Exit → (Nat → Value) → World → Prop)
  | .normal, F, w => next F w
  | e, F, w => Q e F w
def inP (id : Nat) (Q : (Exit → (Nat → Value) → World → Prop)) : (Exit → (Nat → Value) → World → Prop)
  | .exit id', F, w => if id' = id then Q .normal F w else Q (.exit id') F w
  | e, F, w => Q e F w

section
variable {l : Option Nat} {P : Program} {N : Nat} {Q : (Exit → (Nat → Value) → World → Prop)} {F : Nat → Value} {w : World}

theorem then_normal {next : (Nat → Value) → World → Prop} (h : next F w) : thenP next Q .normal F w := h
theorem then_exit {next : (Nat → Value) → World → Prop} {id : Nat} (h : Q (.exit id) F w) : thenP next Q (.exit id) F w := h
theorem then_ret {next : (Nat → Value) → World → Prop} (h : Q .ret F w) : thenP next Q .ret F w := h
theorem in_normal {id : Nat} (h : Q .normal F w) : inP id Q .normal F w := h
theorem in_here {id : Nat} (h : Q .normal F w) : inP id Q (.exit id) F w := by simp only [inP, if_true]; exact h
theorem wq_seq {x y : Code} (h : wq l P N x (thenP (wq l P N y Q) Q) F w) : wq l P N (.seq x y) Q F w := by
  intro a ha
  refine wpIn_seq (wpIn_mono (h a ha) ?_)
  rintro e a' w' ⟨F', hF, hq⟩
  cases e <;> first | exact hq a' hF | exact ⟨F', hF, hq⟩
theorem wq_skip (h : Q .normal F w) : wq l P N .skip Q F w := fun _ ha => wpIn_skip ⟨F, ha, h⟩
theorem wq_exit {id : Nat} (h : Q (.exit id) F w) : wq l P N (.exit id) Q F w := fun _ ha => wpIn_exit ⟨F, ha, h⟩
theorem wq_ret (h : Q .ret F w) : wq l P N .ret Q F w := fun _ ha => wpIn_ret ⟨F, ha, h⟩
theorem wq_cond {c : Operand} {x y : Code} {t : Bool} (hc : ev (cutF N F) c = .bool t) (ht : t = true → wq l P N x Q F w) (hf : t = false → wq l P N y Q F w) : wq l P N (.cond c x y) Q F w :=
  fun a ha => wpIn_cond_split (by rw [ha.eval]; exact hc) (fun e => ht e a ha) (fun e => hf e a ha)
theorem wq_block {id : Nat} {c : Code} (h : wq l P N c (inP id Q) F w) : wq l P N (.block id c) Q F w := by
  intro a ha
  refine wpIn_block (wpIn_mono (h a ha) ?_)
  rintro e a' w' ⟨F', hF, hq⟩
  cases e with
  | exit id' =>
    simp only [inP] at hq
    simp only [Exit.inBlock]
    split
    · rename_i e; rw [if_pos e] at hq; exact ⟨F', hF, hq⟩
    · rename_i e; rw [if_neg e] at hq; exact ⟨F', hF, hq⟩
  | _ => exact ⟨F', hF, hq⟩
theorem wq_loop {c : Code} (I : Nat → (Nat → Value) → World → Prop) (n0 : Nat) (h0 : I n0 F w)
    (round : ∀ n F w, I n F w → wq l P N c (thenP (fun F' w' => ∃ n', n' < n ∧ I n' F' w') Q) F w) : wq l P N (.loop c) Q F w := by
  intro a ha
  refine wpIn_loop (fun a w => ∃ n, ∃ F, Fr N F a ∧ I n F w) (fun a w => leastOf (fun n => ∃ F, Fr N F a ∧ I n F w)) ⟨n0, F, ha, h0⟩ ?_
  intro a w hex
  have hl := leastOf_spec hex
  generalize leastOf (fun n => ∃ F, Fr N F a ∧ I n F w) = n at hl
  obtain ⟨⟨F, hF, hI⟩, _⟩ := hl
  refine wpIn_mono (round n F w hI a hF) ?_
  rintro e a' w' ⟨F', hF', hq⟩
  cases e with
  | normal =>
    obtain ⟨n', hlt, hI'⟩ := hq
    refine ⟨⟨n', F', hF', hI'⟩, Nat.lt_of_le_of_lt ?_ hlt⟩
    exact (leastOf_spec (p := fun n => ∃ F, Fr N F a' ∧ I n F w') ⟨n', F', hF', hI'⟩).2 n' ⟨F', hF', hI'⟩
  | _ => exact ⟨F', hF', hq⟩

def lists (l : Option Nat) (P : Program) (ops : Array Oper) (Q : Exit → Act → World → Prop) (rest : List Oper) (a : Act) (w : World) : Prop :=
  match l with
  | none => wpList P ops Q rest a w
  | some l => wpListIn (fen (some l)) 0 P ops Q rest a w
def wl (l : Option Nat) (P : Program) (N : Nat) (ops : Array Oper) (Q : (Exit → (Nat → Value) → World → Prop)) (rest : List Oper) (F : Nat → Value) (w : World) : Prop := ∀ a, Fr N F a → lists l P ops (Fp N Q) rest a w

theorem lists_step {l : Option Nat} {P : Program} {ops : Array Oper} {Q : Exit → Act → World → Prop} {o : Oper} {rest : List Oper} {a : Act} {w : World} (hw : Region.wanted o (yielded ops a.tmps) = true) (h : Yields P a.eval o w (fun v w' => lists l P ops Q rest (a.put o.dst v) w')) : lists l P ops Q (o :: rest) a w := by
  cases l with
  | none =>
    refine BigFrame.wpList_want hw fun K hK => Yields.wp ?_
    revert h
    unfold Yields
    generalize (execOp a.eval o).run P w = r
    intro h
    cases r with
    | ok n w' =>
      cases n <;> simp only at h ⊢ <;> first
        | exact hK _ _ h
        | exact h.elim
        | exact Calls.mono h (fun e w'' ⟨v, he, hk⟩ => ⟨v, he, hK _ _ hk⟩)
    | halt x w' => exact h.elim
  | some l =>
    refine wpListIn_step fun K hK => ?_
    rw [if_pos hw]
    refine Yields.wpIn (l := some l) ?_
    revert h
    unfold Yields
    generalize (execOp a.eval o).run P w = r
    intro h
    cases r with
    | ok n w' =>
      cases n <;> simp only at h ⊢ <;> first
        | exact hK _ _ h
        | exact h.elim
        | exact Calls.mono h (fun e w'' ⟨v, he, hk⟩ => ⟨v, he, hK _ _ hk⟩)
    | halt x w' => exact h.elim
theorem lists_pass {l : Option Nat} {P : Program} {ops : Array Oper} {Q : Exit → Act → World → Prop} {o : Oper} {rest : List Oper} {a : Act} {w : World} (hw : Region.wanted o (yielded ops a.tmps) = false) (h : lists l P ops Q rest (a.put o.dst undef) w) : lists l P ops Q (o :: rest) a w := by
  cases l with
  | none =>
    show wpList P ops Q (o :: rest) a w
    unfold wpList
    rw [hw]; exact h
  | some l =>
    show wpListIn (fen (some l)) 0 P ops Q (o :: rest) a w
    unfold wpListIn
    rw [hw]; exact ⟨fun f _ => fen_fn _ f, h⟩
theorem lists_region {l : Option Nat} {P : Program} {Q : Exit → Act → World → Prop} {id : Nat} {ops : List Oper} {a : Act} {w : World} (h : lists l P ops.toArray Q ops a w) : (Code.region id ops.toArray false).wpIn (fen l) 0 P Q a w := by
  cases l with
  | none => exact wpIn_wide.2 (wp_region_lit h)
  | some l => exact wpIn_region_lit h
theorem lists_nil {l : Option Nat} {P : Program} {ops : Array Oper} {Q : Exit → Act → World → Prop} {a : Act} {w : World} (h : Q .normal a w) : lists l P ops Q [] a w := by
  cases l <;> exact h

theorem wq_region {id : Nat} {os : List Oper} (h : wl l P N os.toArray Q os F w) : wq l P N (.region id os.toArray false) Q F w := fun a ha => lists_region (h a ha)
theorem wl_nil {ops : Array Oper} (h : ∀ F', (∀ t, F' t = F t) → Q .normal F' w) : wl l P N ops Q [] F w := fun _ ha => lists_nil ⟨F, ha, h F fun _ => rfl⟩

theorem puts_of {N : Nat} {F : Nat → Value} {a : Act} {l : Option Nat} {P : Program} {ops : Array Oper} {Q : (Exit → (Nat → Value) → World → Prop)} {o : Oper} {rest : List Oper} {w : World} (ha : Fr N F a) (hd : fits N o.dst = true) (h : Yields P (ev (cutF N F)) o w (fun v w' => wl l P N ops Q rest (putF F o.dst v) w')) :
    Yields P a.eval o w (fun v w' => lists l P ops (Fp N Q) rest (a.put o.dst v) w') := by
  rw [← ha.eval] at h
  revert h
  unfold Yields
  generalize (execOp a.eval o).run P w = r
  intro h
  cases r with
  | ok n w' =>
    cases n <;> simp only at h ⊢ <;> first
      | exact h _ (ha.put hd _)
      | exact h.elim
      | exact Calls.mono h (fun e w'' ⟨v, he, hk⟩ => ⟨v, he, hk _ (ha.put hd _)⟩)
  | halt x w' => exact h.elim
theorem wl_op {ops : Array Oper} {o : Oper} {rest : List Oper} (hg : o.guard = none) (hd : fits N o.dst = true) (h : Yields P (ev (cutF N F)) o w (fun v w' => wl l P N ops Q rest (putF F o.dst v) w')) : wl l P N ops Q (o :: rest) F w :=
  fun _ ha => lists_step (by unfold Region.wanted; rw [hg]) (puts_of ha hd h)

theorem yielded_of {ops : Array Oper} {a : Act} {j : Nat} {d : Tmp} (ha : Fr N F a) (hj : (ops[j]?).bind (·.dst) = some d) (hd : Nat.blt d N = true) : yielded ops a.tmps j = match F d with | .bool b => some b | _ => none := by
  have hlt : d < a.tmps.size := by rw [ha.size]; simpa [Nat.blt_eq] using hd
  have he : a.tmps[d] = F d := by rw [← ha.at' d hd]; simp [Array.getD, hlt]
  unfold yielded
  rw [hj]
  simp only [Option.bind_some, Array.getElem?_eq_getElem hlt, he]
  cases F d <;> rfl

theorem wl_when {ops : Array Oper} {o : Oper} {rest : List Oper} (j : Nat) (want : Bool) (d : Tmp) (hg : o.guard = some (j, want)) (hj : (ops[j]?).bind (·.dst) = some d) (hdn : Nat.blt d N = true) (hv : F d = .bool want) (hd : fits N o.dst = true)
    (h : Yields P (ev (cutF N F)) o w (fun v w' => wl l P N ops Q rest (putF F o.dst v) w')) : wl l P N ops Q (o :: rest) F w := by
  intro a ha
  refine lists_step ?_ (puts_of ha hd h)
  unfold Region.wanted
  rw [hg]
  simp only [yielded_of ha hj hdn, hv]
  simp

theorem wl_unless {ops : Array Oper} {o : Oper} {rest : List Oper} (j : Nat) (want : Bool) (d : Tmp) (hg : o.guard = some (j, want)) (hj : (ops[j]?).bind (·.dst) = some d) (hdn : Nat.blt d N = true) (hv : F d = .bool (!want) ∨ F d = undef) (hd : fits N o.dst = true)
    (h : wl l P N ops Q rest (putF F o.dst undef) w) : wl l P N ops Q (o :: rest) F w := by
  intro a ha
  refine lists_pass ?_ (h _ (ha.put hd _))
  unfold Region.wanted
  rw [hg]
  simp only [yielded_of ha hj hdn]
  rcases hv with hv | hv <;> rw [hv]
  · cases want <;> simp
  · simp [undef]

/-- A call that answers one value and turns nothing that is there. -/
theorem wl_call {ops : Array Oper} {o : Oper} {rest : List Oper} {R : Value → World → Prop} (hg : o.guard = none) (hd : fits N o.dst = true) (hy : Yields P (ev (cutF N F)) o w R) (h : ∀ v w', R v w' → wl l P N ops Q rest (putF F o.dst v) w') : wl l P N ops Q (o :: rest) F w := by
  refine wl_op hg hd ?_
  revert hy
  unfold Yields
  generalize (execOp (ev (cutF N F)) o).run P w = r
  intro hy
  cases r with
  | ok n w' =>
    cases n <;> simp only at hy ⊢ <;> first
      | exact h _ _ hy
      | exact hy.elim
      | exact Calls.mono hy (fun e w'' ⟨v, he, hk⟩ => ⟨v, he, h _ _ hk⟩)
  | halt x w' => exact hy.elim

def DepsF (D : List (Option Tmp)) (G : Nat → Value → World → Prop) (F : Nat → Value) (w : World) : List Edge → Prop
  | [] => True
  | e :: r => (Region.binds .any e = true → match D.getD e.on none with
    | some d => G e.on (F d) w
    | none => True) ∧ DepsF D G F w r

theorem Deps.toF {D : List (Option Tmp)} {G : Nat → Value → World → Prop} {a : Act} {w : World} : ∀ {es : List Edge}, Deps D G a w es → DepsF D G (fun t => a.tmps.getD t undef) w es := by
  intro es
  induction es with
  | nil => intro _; exact trivial
  | cons e r ih => intro h; exact ⟨h.1, ih h.2⟩

theorem DepsF.get {D : List (Option Tmp)} {G : Nat → Value → World → Prop} {F : Nat → Value} {w : World} : ∀ {es : List Edge} (k : Nat) {e : Edge} {d : Tmp}, DepsF D G F w es → es[k]? = some e → Region.binds .any e = true → D.getD e.on none = some d → G e.on (F d) w := by
  intro es
  induction es with
  | nil => intro k e d _ h; simp at h
  | cons x r ih =>
    intro k e d h hk hb hd
    cases k with
    | zero =>
      simp at hk
      subst hk
      have := h.1 hb
      rw [hd] at this
      exact this
    | succ k => exact ih k h.2 (by simpa using hk) hb hd

/-- What is asked of one operation. -/
def StepF (N : Nat) (P : Program) (D : List (Option Tmp)) (Gs : List Pd) (F0 : Nat → Value) (w0 : World) (i : Nat) (o : Oper) : Prop :=
  ∀ (F : Nat → Value) (w : World), Kept (fun _ => False) w0 w → (∀ t, Nat.blt t N = true → some t ∉ D → F t = F0 t) → DepsF D (Said Gs) F w o.after.toList →
    match o.guard with
    | none => Yields P (ev F) o w (fun v w' => Said Gs i v w' ∧ Kept (fun _ => False) w w')
    | some (j, want) => ∃ d, D.getD j none = some d ∧
      ((F d = .bool want ∧ Yields P (ev F) o w (fun v w' => Said Gs i v w' ∧ Kept (fun _ => False) w w')) ∨ ((F d = .bool (!want) ∨ F d = undef) ∧ Said Gs i undef w))

def StepsF (N : Nat) (P : Program) (D : List (Option Tmp)) (Gs : List Pd) (F0 : Nat → Value) (w0 : World) : Nat → List Oper → Prop
  | _, [] => True
  | i, o :: r => StepF N P D Gs F0 w0 i o ∧ StepsF N P D Gs F0 w0 (i + 1) r

theorem StepF.step {D : List (Option Tmp)} {Gs : List Pd} {w0 : World} {i : Nat} {o : Oper} {a0 : Act} (ha : Fr N F a0) (h : StepF N P D Gs F w0 i o) : Step P (Kept (fun _ => False)) D (Said Gs) a0 w0 i o := by
  intro a w hR hout hD
  have h1 := h (fun t => a.tmps.getD t undef) w hR (fun t hb ht => by rw [← ha.at' t hb]; exact hout t ht) hD.toF
  rw [← eval_ev a] at h1
  unfold goes
  cases hg : o.guard with
  | none => rw [hg] at h1; exact ⟨fun _ => h1, fun e => by cases e⟩
  | some g =>
    obtain ⟨j, want⟩ := g
    rw [hg] at h1
    obtain ⟨d, hd, h1⟩ := h1
    simp only [hd]
    have hev : a.eval (.tmp d) = a.tmps.getD d undef := rfl
    rcases h1 with ⟨hv, hy⟩ | ⟨hv, hs⟩
    · rw [hev, hv]; exact ⟨fun _ => hy, fun e => by simp at e⟩
    · refine ⟨fun e => ?_, fun _ => hs⟩
      rcases hv with hv | hv
      · rw [hev, hv] at e; cases want <;> simp at e
      · rw [hev, hv] at e; simp [undef] at e

theorem StepsF.steps {D : List (Option Tmp)} {Gs : List Pd} {w0 : World} {a0 : Act} (ha : Fr N F a0) : ∀ {os : List Oper} {i : Nat}, StepsF N P D Gs F w0 i os → Steps P (Kept (fun _ => False)) D (Said Gs) a0 w0 i os := by
  intro os
  induction os with
  | nil => intro i _; exact trivial
  | cons o r ih => intro i h; exact ⟨h.1.step ha, ih h.2⟩

theorem stepsF_nil {D : List (Option Tmp)} {Gs : List Pd} {F0 : Nat → Value} {w0 : World} {i : Nat} : StepsF N P D Gs F0 w0 i [] := trivial
theorem stepsF_cons {D : List (Option Tmp)} {Gs : List Pd} {F0 : Nat → Value} {w0 : World} {i : Nat} {o : Oper} {r : List Oper} (h : StepF N P D Gs F0 w0 i o) (k : StepsF N P D Gs F0 w0 (i + 1) r) : StepsF N P D Gs F0 w0 i (o :: r) := ⟨h, k⟩

theorem StepF.one {D : List (Option Tmp)} {Gs : List Pd} {F0 : Nat → Value} {w0 : World} {i : Nat} {o : Oper} (hg : o.guard = none)
    (h : ∀ (F : Nat → Value) (w : World), Kept (fun _ => False) w0 w → (∀ t, Nat.blt t N = true → some t ∉ D → F t = F0 t) → DepsF D (Said Gs) F w o.after.toList → Yields P (ev F) o w (fun v w' => Said Gs i v w' ∧ Kept (fun _ => False) w w')) : StepF N P D Gs F0 w0 i o := by
  intro F w h1 h2 h3
  rw [hg]
  exact h F w h1 h2 h3
theorem StepF.when {D : List (Option Tmp)} {Gs : List Pd} {F0 : Nat → Value} {w0 : World} {i : Nat} {o : Oper} (j : Nat) (want : Bool) (d : Tmp) (hg : o.guard = some (j, want)) (hd : D.getD j none = some d)
    (h : ∀ (F : Nat → Value) (w : World), Kept (fun _ => False) w0 w → (∀ t, Nat.blt t N = true → some t ∉ D → F t = F0 t) → DepsF D (Said Gs) F w o.after.toList → F d = .bool want ∧ Yields P (ev F) o w (fun v w' => Said Gs i v w' ∧ Kept (fun _ => False) w w')) : StepF N P D Gs F0 w0 i o := by
  intro F w h1 h2 h3
  rw [hg]
  exact ⟨d, hd, .inl (h F w h1 h2 h3)⟩
def putsF (v : Nat → Value) : Nat → List (Option Tmp) → (Nat → Value) → Nat → Value
  | _, [], F => F
  | i, d :: r, F => putsF v (i + 1) r (putF F d (v i))

theorem plain_fits {size : Nat} : ∀ {i : Nat} {D : List (Option Tmp)} {os : List Oper}, plain size i D os = true → ∀ d ∈ D, fits size d = true := by
  intro i D os
  induction os generalizing i D with
  | nil =>
    intro h
    cases D with
    | nil => intro d hd; cases hd
    | cons d D => simp [plain] at h
  | cons o r ih =>
    intro h
    cases D with
    | nil => intro d hd; cases hd
    | cons x D =>
      simp only [plain, Bool.and_eq_true] at h
      obtain ⟨⟨⟨h1, h2⟩, h3⟩, h4⟩ := h
      intro d hd
      rcases List.mem_cons.1 hd with rfl | hd
      · cases d with
        | none => rfl
        | some d =>
          simp only [Bool.and_eq_true, decide_eq_true_eq] at h2
          simpa [fits, Nat.blt_eq] using h2.1
      · exact ih h4 d hd

theorem putAll_fr (v : Nat → Value) : ∀ (D : List (Option Tmp)) (i : Nat) (F : Nat → Value) (a : Act), Fr N F a → (∀ d ∈ D, fits N d = true) → Fr N (putsF v i D F) (putAll v i D a) := by
  intro D
  induction D with
  | nil => intro i F a h _; exact h
  | cons d r ih => intro i F a h hf; exact ih (i + 1) _ _ (h.put (hf d (by simp)) _) (fun x hx => hf x (by simp [hx]))

theorem wq_tail {id : Nat} {ops : Array Oper} (n : Nat) (D : List (Option Tmp)) (Gs : List Pd) (hm : P.follows .mixedOrders = true) (hta : tailed ops.toList n = true) (hpl : plain N 0 D (ops.toList.take n) = true) (hsteps : StepsF N P D Gs F w 0 (ops.toList.take n))
    (hend : ∀ (v : Nat → Value) (F' : Nat → Value) (w' : World), Kept (fun _ => False) w w' → (∀ i, i < n → Said Gs i (v i) w') → (∀ t, F' t = putsF v 0 D F t) → wl none P N ops Q (ops.toList.drop n) F' w') : wq none P N (.region id ops true) Q F w := by
  intro a ha
  refine wpIn_wide.2 ?_
  refine wp_region_tail n D Gs hm hta (by rw [ha.size]; exact hpl) (hsteps.steps ha) fun v w' hk hG => ?_
  exact hend v _ w' hk hG (fun _ => rfl) _ (putAll_fr v D 0 F a ha (plain_fits hpl))
end

def endP (P : Program) (fn : Func) (N : Nat) (R : Ending → World → Prop) : (Exit → (Nat → Value) → World → Prop)
  | .normal, F, w | .ret, F, w => F N = undef ∧ ∀ a, Fr N F a → ∃ v, (results fn a.tmps).run P w = .ok v w ∧ R (.returned v) w
  | _, _, _ => False

def argF (args : List Value) : Nat → Value := fun t => args.getD t undef

theorem calls_wq {P : Program} {f : FuncId} {fn : Func} {c : Code} {args : List Value} {w : World} {R : Ending → World → Prop} (N : Nat) (hf : P.funcs[f]? = some fn) (hb : fn.body = some c) (hn : fn.ntmps = N) (hl : args.length ≤ N)
    (h : wq none P N c (endP P fn N R) (argF args) w) : Calls P f args.toArray w R := by
  refine calls_of_wp hf hb ?_
  subst hn
  have hs : (args.toArray ++ Array.replicate (fn.ntmps - args.toArray.size) undef).size = fn.ntmps := by simp; omega
  have hu : argF args fn.ntmps = undef := by
    unfold argF
    rw [List.getD_eq_getElem?_getD, List.getElem?_eq_none hl]; rfl
  refine wp_mono (wpIn_wide.1 (h _ ⟨hs, by rw [hu]; rfl, fun t _ => ?_⟩)) ?_
  · unfold argF
    simp only [Array.getD_eq_getD_getElem?, List.getD_eq_getElem?_getD]
    by_cases h1 : t < args.length
    · rw [Array.getElem?_append_left (by simpa using h1)]; simp
    · rw [Array.getElem?_append_right (by simp; omega), List.getElem?_eq_none (by omega)]
      by_cases h2 : t < fn.ntmps
      · rw [Array.getElem?_replicate]; split <;> rfl
      · rw [Array.getElem?_eq_none (by simp; omega)]
  · rintro e a' w' ⟨F', hF, hq⟩
    cases e <;> first
      | exact ⟨by rw [hF.defers, hq.1]; rfl, hq.2 a' hF⟩
      | exact hq.elim

section
variable {P : Program} {fn : Func} {N : Nat} {R : Ending → World → Prop} {F : Nat → Value} {w : World}
theorem end_tmp {t : Tmp} {v : Value} (hm : F N = undef) (ht : Nat.blt t N = true) (h : fn.results = #[.tmp t]) (hv : F t = v) (hR : R (.returned v) w) : endP P fn N R .ret F w :=
  ⟨hm, fun a ha => ⟨v, by rw [results_tmp h]; rw [ha.at' t ht, hv], hR⟩⟩
theorem end_none (hm : F N = undef) (h : fn.results = #[]) (hR : R (.returned (.tuple #[])) w) : endP P fn N R .normal F w := ⟨hm, fun _ _ => ⟨_, results_none h _ _ _, hR⟩⟩
/-- What a result is. -/
def ResOk (P : Program) (N : Nat) (F : Nat → Value) (w : World) : ResultVar → Value → Prop
  | .tmp t, v => Nat.blt t N = true ∧ F t = v
  | .cell a t, v => Nat.blt a N = true ∧ ∃ ad, F a = .pointer (some ad) ∧ (loadVar t ad).run P w = .ok v w
theorem res_tmp {t : Tmp} {v : Value} (ht : Nat.blt t N = true) (h : F t = v) : ResOk P N F w (.tmp t) v := ⟨ht, h⟩
theorem end_2 {r1 r2 : ResultVar} {v1 v2 : Value} (hm : F N = undef) (h : fn.results = #[r1, r2]) (h1 : ResOk P N F w r1 v1) (h2 : ResOk P N F w r2 v2)
    (hR : R (.returned (.tuple #[v1, v2])) w) : endP P fn N R .ret F w := by
  refine ⟨hm, fun a ha => ⟨_, ?_, hR⟩⟩
  cases r1 <;> cases r2 <;> simp only [ResOk] at h1 h2
  · obtain ⟨b1, h1⟩ := h1; obtain ⟨b2, h2⟩ := h2
    rw [← ha.at' _ b1] at h1; rw [← ha.at' _ b2] at h2
    simp [results, h] at *; simp [h1, h2]
  · obtain ⟨b1, h1⟩ := h1; obtain ⟨b2, ad, e, hl⟩ := h2
    rw [← ha.at' _ b1] at h1; rw [← ha.at' _ b2] at e
    simp [results, h] at *; simp [h1, e, asAddr, hl]
  · obtain ⟨b1, ad, e, hl⟩ := h1; obtain ⟨b2, h2⟩ := h2
    rw [← ha.at' _ b2] at h2; rw [← ha.at' _ b1] at e
    simp [results, h] at *; simp [h2, e, asAddr, hl]
  · obtain ⟨b1, ad, e, hl⟩ := h1; obtain ⟨b2, ad2, e2, hl2⟩ := h2
    rw [← ha.at' _ b1] at e; rw [← ha.at' _ b2] at e2
    simp [results, h] at *; simp [e, e2, asAddr, hl, hl2]
end
end Go.Proofs.Ythhagejcgobfgaa
namespace Go.Proofs.Ythhagejcgobfgaa
open Go.RowKit

theorem i64_n {x : Int} {m : Nat} (h : x = (m : Int)) (hm : m ≤ 9223372036854775807) : IntKind.i64.wrap x = (m : Int) := by subst h; exact IntWalk.i64_in _ (by omega)
theorem i64_i {x y : Int} (h : x = y) (hy : -9223372036854775808 ≤ y ∧ y ≤ 9223372036854775807) : IntKind.i64.wrap x = y := by subst h; exact IntWalk.i64_in _ hy

theorem y_of {P : Program} {ρ : Operand → Value} {o : Oper} {w : World} {R : Value → World → Prop} {v : Value} {w' : World} (h : (execOp ρ o).run P w = .ok (.value v) w') (hR : R v w') : Yields P ρ o w R := by
  unfold Yields; rw [h]; exact hR

section
variable {ro : Option Nat} {P : Program} {ρ : Operand → Value} {o : Oper} {w : World} {R : Value → World → Prop}

theorem y_mov {x : Operand} {v : Value} (ho : o.op = .move x) (hx : ρ x = v) (h : R v w) : Yields P ρ o w R := y_move ho (by rw [hx]; exact h)
theorem y_asg {x : Operand} {v : Value} (ho : o.op = .assign x) (hx : ρ x = v) (h : R v w) : Yields P ρ o w R := y_assign ho (by rw [hx]; exact h)
theorem y_pickT {c x y : Operand} {v : Value} (ho : o.op = .pick c x y) (hc : ρ c = .bool true) (hx : ρ x = v) (h : R v w) : Yields P ρ o w R := y_pick_true ho hc (by rw [hx]; exact h)
theorem y_pickF {c x y : Operand} {v : Value} (ho : o.op = .pick c x y) (hc : ρ c = .bool false) (hy : ρ y = v) (h : R v w) : Yields P ρ o w R := y_pick_false ho hc (by rw [hy]; exact h)
theorem y_add {t t' : TypeId} {k : IntKind} {x y : Operand} {m n r : Int} (ho : o.op = .binOp .add t x y t') (hx : ρ x = .int k m) (hy : ρ y = .int k n) (hr : k.wrap (m + n) = r) (h : R (.int k r) w) : Yields P ρ o w R :=
  y_of (v := .int k (k.wrap (m + n))) (w' := w) (by simp [execOp, ho, hx, hy, go_sem]) (by rw [hr]; exact h)
theorem y_sub {t t' : TypeId} {k : IntKind} {x y : Operand} {m n r : Int} (ho : o.op = .binOp .sub t x y t') (hx : ρ x = .int k m) (hy : ρ y = .int k n) (hr : k.wrap (m - n) = r) (h : R (.int k r) w) : Yields P ρ o w R :=
  y_of (v := .int k (k.wrap (m - n))) (w' := w) (by simp [execOp, ho, hx, hy, go_sem]) (by rw [hr]; exact h)
theorem y_mul {t t' : TypeId} {k : IntKind} {x y : Operand} {m n r : Int} (ho : o.op = .binOp .mul t x y t') (hx : ρ x = .int k m) (hy : ρ y = .int k n) (hr : k.wrap (m * n) = r) (h : R (.int k r) w) : Yields P ρ o w R :=
  y_of (v := .int k (k.wrap (m * n))) (w' := w) (by simp [execOp, ho, hx, hy, go_sem]) (by rw [hr]; exact h)
theorem y_lss {t t' : TypeId} {k : IntKind} {x y : Operand} {m n : Int} {b : Bool} (ho : o.op = .binOp .lss t x y t') (hx : ρ x = .int k m) (hy : ρ y = .int k n) (hr : decide (m < n) = b) (h : R (.bool b) w) : Yields P ρ o w R :=
  y_of (v := .bool (decide (m < n))) (w' := w) (by simp [execOp, ho, hx, hy, go_sem]) (by rw [hr]; exact h)
theorem y_leq {t t' : TypeId} {k : IntKind} {x y : Operand} {m n : Int} {b : Bool} (ho : o.op = .binOp .leq t x y t') (hx : ρ x = .int k m) (hy : ρ y = .int k n) (hr : decide (m ≤ n) = b) (h : R (.bool b) w) : Yields P ρ o w R :=
  y_of (v := .bool (decide (m ≤ n))) (w' := w) (by simp [execOp, ho, hx, hy, go_sem]) (by rw [hr]; exact h)
theorem y_gtr {t t' : TypeId} {k : IntKind} {x y : Operand} {m n : Int} {b : Bool} (ho : o.op = .binOp .gtr t x y t') (hx : ρ x = .int k m) (hy : ρ y = .int k n) (hr : decide (n < m) = b) (h : R (.bool b) w) : Yields P ρ o w R :=
  y_of (v := .bool (decide (n < m))) (w' := w) (by simp [execOp, ho, hx, hy, go_sem]) (by rw [hr]; exact h)
theorem y_geq {t t' : TypeId} {k : IntKind} {x y : Operand} {m n : Int} {b : Bool} (ho : o.op = .binOp .geq t x y t') (hx : ρ x = .int k m) (hy : ρ y = .int k n) (hr : decide (n ≤ m) = b) (h : R (.bool b) w) : Yields P ρ o w R :=
  y_of (v := .bool (decide (n ≤ m))) (w' := w) (by simp [execOp, ho, hx, hy, go_sem]) (by rw [hr]; exact h)
theorem y_eqlI {t t' : TypeId} {k : IntKind} {x y : Operand} {m n : Int} {b : Bool} (ho : o.op = .binOp .eql t x y t') (hx : ρ x = .int k m) (hy : ρ y = .int k n) (hr : decide (m = n) = b) (h : R (.bool b) w) : Yields P ρ o w R :=
  y_eql_int ho hx hy (by rw [show (m == n) = b from hr]; exact h)
theorem y_neqI {t t' : TypeId} {k : IntKind} {x y : Operand} {m n : Int} {b : Bool} (ho : o.op = .binOp .neq t x y t') (hx : ρ x = .int k m) (hy : ρ y = .int k n) (hr : decide (m ≠ n) = b) (h : R (.bool b) w) : Yields P ρ o w R := by
  refine y_of (v := .bool (m != n)) (w' := w) (by simp [execOp, ho, hx, hy, go_sem, bne]) ?_
  rw [show (m != n) = b by rw [← hr]; by_cases e : m = n <;> simp [bne, e]]; exact h
theorem y_not {t : TypeId} {x : Operand} {b c : Bool} (ho : o.op = .unOp .not t x) (hx : ρ x = .bool b) (hr : (!b) = c) (h : R (.bool c) w) : Yields P ρ o w R :=
  y_of (v := .bool (!b)) (w' := w) (by simp [execOp, ho, hx, go_sem]) (by rw [hr]; exact h)
theorem y_minR {ts : Array TypeId} {k : IntKind} {x y : Operand} {m n r : Int} (ho : o.op = .call { callee := .builtin .min, args := #[x, y], argTypes := ts }) (hx : ρ x = .int k m) (hy : ρ y = .int k n) (he : min m n = r) (h : R (.int k r) w) : Yields P ρ o w R := by
  have e : (if n < m then n else m) = min m n := by split <;> omega
  have hr := run_min_int2 (P := P) w ts o.type k k m n
  rw [e, he] at hr
  exact y_of (v := .int k r) (w' := w) (by simp only [execOp, ho, resolve, invoke, builtin, Sem.run_bind, Sem.run_pure, Result.andThen_ok, List.map_toArray, List.map_cons, List.map_nil, hx, hy, hr]) h
theorem y_maxR {ts : Array TypeId} {k : IntKind} {x y : Operand} {m n r : Int} (ho : o.op = .call { callee := .builtin .max, args := #[x, y], argTypes := ts }) (hx : ρ x = .int k m) (hy : ρ y = .int k n) (he : max m n = r) (h : R (.int k r) w) : Yields P ρ o w R := by
  have e : (if n > m then n else m) = max m n := by split <;> omega
  have hr := run_max_int2 (P := P) w ts o.type k k m n
  rw [e, he] at hr
  exact y_of (v := .int k r) (w' := w) (by simp only [execOp, ho, resolve, invoke, builtin, Sem.run_bind, Sem.run_pure, Result.andThen_ok, List.map_toArray, List.map_cons, List.map_nil, hx, hy, hr]) h

theorem y_buildR {t : TypeId} {parts : Array (Nat × Operand)} {cells : Array Value} {v : Value} (ho : o.op = .build t parts) (hc : P.built t (parts.map fun (i, x) => (i, ρ x)).toList = some cells) (hv : .agg cells = v) (h : R v w) : Yields P ρ o w R :=
  y_of (v := .agg cells) (w' := w) (by simp only [execOp, ho, Sem.run_bind, run_build w t _ cells hc, Result.andThen_ok, Sem.run_pure]) (by rw [hv]; exact h)

theorem y_ext {x : Operand} {i : Nat} {vs : Array Value} {v : Value} (ho : o.op = .extract x i) (hx : ρ x = .tuple vs) (hi : vs[i]? = some v) (h : R v w) : Yields P ρ o w R :=
  y_of (v := v) (w' := w) (by simp [execOp, ho, hx, Instr.extract, hi]) h

theorem y_cs {f : FuncId} {c : Call} {S : Ending → World → Prop} {xs : List Operand} {vs : List Value} (ho : o.op = .call c) (hc : c.callee = .value (.func f)) (hx : c.args = xs.toArray) (hf : ∀ args w, (callFunc f args).run P w = .ok (.enter f args) w)
    (ev0 : ∀ f, ρ (.func f) = .func (.func f) #[] #[]) (hv : xs.map ρ = vs) (h : Calls P f vs.toArray w S) (hS : ∀ e w', S e w' → ∃ v, e = .returned v ∧ R v w') : Yields P ρ o w R := by
  obtain ⟨cl, ag, ts⟩ := c
  simp only at hc hx
  subst hc; subst hx; subst hv
  unfold Yields
  have e : (execOp ρ o).run P w = .ok (.enter f (xs.map ρ).toArray) w := by simp [execOp, ho, resolve, ev0, Deferred.ofValue, invoke, hf]
  rw [e]
  exact h.mono hS
end
theorem ev_func (F : Nat → Value) : ∀ f, ev F (.func f) = .func (.func f) #[] #[] := fun _ => rfl
theorem vs1 {ρ : Operand → Value} {x : Operand} {v : Value} (h : ρ x = v) : [x].map ρ = [v] := by simp [h]
theorem vs2 {ρ : Operand → Value} {x y : Operand} {v u : Value} (h : ρ x = v) (h2 : ρ y = u) : [x, y].map ρ = [v, u] := by simp [h, h2]
theorem vsN {ρ : Operand → Value} : ([] : List Operand).map ρ = [] := rfl
theorem vsC {ρ : Operand → Value} {x : Operand} {v : Value} {xs : List Operand} {vs : List Value} (h : ρ x = v) (h2 : xs.map ρ = vs) : (x :: xs).map ρ = v :: vs := by simp [h, ← h2]

section
variable {ro : Option Nat} {P : Program} {N : Nat} {Q : (Exit → (Nat → Value) → World → Prop)} {F : Nat → Value} {w : World}
/-- An operation that turns nothing, in a region in the text's order. -/
theorem wl_v {ops : Array Oper} {o : Oper} {rest : List Oper} (v : Value) (hg : o.guard = none) (hd : fits N o.dst = true) (hy : Yields P (ev (cutF N F)) o w (fun u w' => u = v ∧ w' = w)) (h : wl ro P N ops Q rest (putF F o.dst v) w) : wl ro P N ops Q (o :: rest) F w :=
  wl_call hg hd hy fun u w' ⟨h1, h2⟩ => by subst h1; subst h2; exact h
theorem wl_vw {ops : Array Oper} {o : Oper} {rest : List Oper} (v : Value) (j : Nat) (want : Bool) (d : Tmp) (hg : o.guard = some (j, want)) (hj : (ops[j]?).bind (·.dst) = some d) (hdn : Nat.blt d N = true) (hv : F d = .bool want) (hd : fits N o.dst = true)
    (hy : Yields P (ev (cutF N F)) o w (fun u w' => u = v ∧ w' = w)) (h : wl ro P N ops Q rest (putF F o.dst v) w) : wl ro P N ops Q (o :: rest) F w := by
  refine wl_when j want d hg hj hdn hv hd ?_
  revert hy
  unfold Yields
  generalize (execOp (ev (cutF N F)) o).run P w = r
  intro hy
  cases r with
  | ok n w' =>
    cases n <;> simp only at hy ⊢ <;> first
      | (obtain ⟨h1, h2⟩ := hy; subst h1; subst h2; exact h)
      | exact hy.elim
      | exact Calls.mono hy (fun e w'' ⟨u, he, h1, h2⟩ => ⟨u, he, by subst h1; subst h2; exact h⟩)
  | halt x w' => exact hy.elim
end
end Go.Proofs.Ythhagejcgobfgaa
namespace Go.Proofs.Ythhagejcgobfgaa
open Go.RowKit

/-- What is taken besides is new. -/
def Grew (w : World) (T T' : Nat → Prop) : Prop := ∀ i, T' i → T i ∨ w.heap.size ≤ i
def Apart (T U : Nat → Prop) : Prop := ∀ i, T i → ¬ U i
def noB : Nat → Prop := fun _ => False
def Live (w : World) (T : Nat → Prop) : Prop := ∀ i, T i → i < w.heap.size

theorem Grew.refl (w : World) (T : Nat → Prop) : Grew w T T := fun _ h => .inl h
theorem Grew.trans {S : Nat → Prop} {w0 w : World} {B T T' : Nat → Prop} (h : Grew w0 B T) (k : Kept S w0 w) (g : Grew w T T') : Grew w0 B T' := fun i hi => by
  rcases g i hi with h1 | h1
  · exact h i h1
  · exact .inr (Nat.le_trans k.size h1)
theorem Grew.new {S : Nat → Prop} {w0 w : World} {T : Nat → Prop} (k : Kept S w0 w) (g : Grew w noB T) : Grew w0 noB T := (Grew.refl w0 noB).trans k g
theorem Grew.weak {w0 : World} {B B' T : Nat → Prop} (h : Grew w0 B T) (hb : ∀ i, B i → B' i) : Grew w0 B' T := fun i hi => (h i hi).elim (fun x => .inl (hb i x)) .inr
theorem Grew.ok {w0 : World} {B T S : Nat → Prop} (h : Grew w0 B T) (hb : ∀ i, B i → S i) : ∀ i, i < w0.heap.size → T i → S i := fun i hi ht => by
  rcases h i ht with h1 | h1
  · exact hb i h1
  · omega
theorem noB_le {S : Nat → Prop} : ∀ i, noB i → S i := fun _ h => h.elim
theorem Apart.symm {T U : Nat → Prop} (h : Apart T U) : Apart U T := fun i hu ht => h i ht hu
theorem Apart.grew {w : World} {T T' U : Nat → Prop} (h : Apart T U) (g : Grew w T T') (hl : Live w U) : Apart T' U := fun i ht hu => by
  rcases g i ht with h1 | h1
  · exact h i h1 hu
  · have := hl i hu; omega
theorem Apart.new {w : World} {T' U : Nat → Prop} (g : Grew w noB T') (hl : Live w U) : Apart T' U := Apart.grew (T := noB) (fun _ h => h.elim) g hl
theorem Apart.none {T : Nat → Prop} : Apart T noB := fun _ _ h => h
/-- One block. -/
def onB (p : Nat) : Nat → Prop := fun i => i = p
theorem onB_new {w : World} {p : Nat} (h : w.heap.size ≤ p) : Grew w noB (onB p) := fun i hi => .inr (by unfold onB at hi; omega)
theorem onB_live {w : World} {p : Nat} (h : p < w.heap.size) : Live w (onB p) := fun i hi => by unfold onB at hi; omega
theorem Live.mono {S : Nat → Prop} {w w' : World} {T : Nat → Prop} (h : Live w T) (k : Kept S w w') : Live w' T := fun i hi => Nat.lt_of_lt_of_le (h i hi) k.size

section
variable {ro : Option Nat} {P : Program} {N : Nat} {Q : (Exit → (Nat → Value) → World → Prop)} {F : Nat → Value} {w : World}
/-- A guarded call that is come to. -/
theorem wl_callw {ops : Array Oper} {o : Oper} {rest : List Oper} {R : Value → World → Prop} (j : Nat) (want : Bool) (d : Tmp) (hg : o.guard = some (j, want)) (hj : (ops[j]?).bind (·.dst) = some d) (hdn : Nat.blt d N = true) (hv : F d = .bool want) (hd : fits N o.dst = true)
    (hy : Yields P (ev (cutF N F)) o w R) (h : ∀ v w', R v w' → wl ro P N ops Q rest (putF F o.dst v) w') : wl ro P N ops Q (o :: rest) F w := by
  refine wl_when j want d hg hj hdn hv hd ?_
  revert hy
  unfold Yields
  generalize (execOp (ev (cutF N F)) o).run P w = r
  intro hy
  cases r with
  | ok n w' =>
    cases n <;> simp only at hy ⊢ <;> first
      | exact h _ _ hy
      | exact hy.elim
      | exact Calls.mono hy (fun e w'' ⟨v, he, hk⟩ => ⟨v, he, h _ _ hk⟩)
  | halt x w' => exact hy.elim
end
end Go.Proofs.Ythhagejcgobfgaa
namespace Go.Proofs.Ythhagejcgobfgaa
open Go.RowKit

theorem Kept.setRow {S : Nat → Prop} {a w : World} (h : Kept S a w) (g : Nat) (hg : g < a.heap.size → S g) (c : Array Value) : Kept S a (w.setRow g c) :=
  h.trans (S' := fun k => k = g) ⟨rfl, rfl, rfl, by simp [World.setRow], fun k hk hn => setRow_other _ _ _ _ hn⟩ (fun i hi x => by subst x; exact hg hi)

section
variable {P : Program}

theorem rangeAt_of_heap {w : World} {b : Nat} {c : List Value} {t : TypeId} {f : Nat × Nat} (h : w.heap[b]? = some (.cells c.toArray t f)) : w.rangeAt b 0 c := by
  intro j v hv
  rw [Nat.zero_add, cell_of_heap h]
  simpa using hv

theorem run_loadVar_whole (w : World) (b : Nat) (t ty : TypeId) (cs : Array Value) (fr : Nat × Nat) (d : TypeDesc) (hg : w.heap[b]? = some (.cells cs t fr))
    (hu : P.underlying ty = some d) (hd : d.isRow = true) (hi : (P.info? ty).map (·.size) = some cs.size) : (loadVar ty ⟨b, 0, none⟩).run P w = .ok (.agg cs) w := by
  have e := run_loadVar_mid (P := P) w b 0 ty cs.toList d (rangeAt_of_heap (t := t) (f := fr) (by simpa using hg)) hu hd (by simpa using hi)
  simpa using e

theorem y_store_row {ρ : Operand → Value} {op : Oper} {w : World} {R : Value → World → Prop} (ty : TypeId) (x y : Operand) (ho : op.op = .store ty x y)
    (b : Nat) (old cells : Array Value) (t : TypeId) (hx : ρ x = .pointer (some ⟨b, 0, none⟩)) (hy : ρ y = .agg cells)
    (hg : w.heap[b]? = some (.cells old t (0, 0))) (hs : old.size = cells.size) (hi : (P.info? ty).map (·.size) = some cells.size) (h1 : cells.all (·.oneCell') = true)
    (h : ∀ w', w'.heap[b]? = some (.cells cells t (0, 0)) → Kept (fun k => k = b) w w' → R undef w') : Yields P ρ op w R := by
  unfold Yields execOp
  simp only [ho, hx, hy, Instr.storeAt, Instr.sureAddr, Sem.run_bind, Sem.run_pure, Result.andThen_ok, run_storeVar_row w b t ty old cells hg hi hs h1]
  exact h _ (setRow_heap _ _ _ _ _ _ hg) ((Kept.refl (fun k => k = b) w).setRow b (fun _ => rfl) cells)

/-- A result that is an array or a struct lies in a block. -/
theorem results_cell {fn : Func} {p : Tmp} {ty : TypeId} (h : fn.results = #[.cell p ty]) (tmps : Array Value) (w : World) (b : Nat) (hp : tmps.getD p undef = .pointer (some ⟨b, 0, none⟩))
    (cs : Array Value) (t : TypeId) (fr : Nat × Nat) (d : TypeDesc) (hg : w.heap[b]? = some (.cells cs t fr))
    (hu : P.underlying ty = some d) (hd : d.isRow = true) (hi : (P.info? ty).map (·.size) = some cs.size) : (results fn tmps).run P w = .ok (.agg cs) w := by
  have hl := run_loadVar_whole (P := P) w b t ty cs fr d hg hu hd hi
  have hp' : tmps[p]?.getD undef = .pointer (some ⟨b, 0, none⟩) := by rw [← hp]; simp
  simp only [results, h]
  simp [hp', asAddr, hl]

theorem y_load_row {ρ : Operand → Value} {o : Oper} {w : World} {R : Value → World → Prop} {ty : TypeId} {x : Operand} (ho : o.op = .load ty x)
    (b : Nat) (hx : ρ x = .pointer (some ⟨b, 0, none⟩)) (cs : Array Value) (t : TypeId) (fr : Nat × Nat) (d : TypeDesc) (hg : w.heap[b]? = some (.cells cs t fr))
    (hu : P.underlying ty = some d) (hd : d.isRow = true) (hi : (P.info? ty).map (·.size) = some cs.size) (h : R (.agg cs) w) : Yields P ρ o w R := by
  have e : (execOp ρ o).run P w = .ok (.value (.agg cs)) w := by
    simp only [execOp, ho, hx, Instr.loadAt, Instr.sureAddr, Sem.run_bind, Sem.run_pure, Result.andThen_ok, run_loadVar_whole w b t ty cs fr d hg hu hd hi]
  unfold Yields; rw [e]; exact h
end
end Go.Proofs.Ythhagejcgobfgaa
namespace Go.Proofs.Ythhagejcgobfgaa
open Go.RowKit

/-- An array's cells. -/
def arrL (n : Nat) (b : Nat → Int) : List Value := (List.range n).map fun i => .int .i64 (b i)

theorem arrL_length (n : Nat) (b : Nat → Int) : (arrL n b).length = n := by simp [arrL]

theorem arrL_at {n : Nat} {b : Nat → Int} {i : Nat} (h : i < n) : (arrL n b)[i]? = some (.int .i64 (b i)) := by
  unfold arrL
  rw [List.getElem?_map, List.getElem?_range h]; rfl

theorem arrL_congr {n : Nat} {b c : Nat → Int} (h : ∀ i, i < n → b i = c i) : arrL n b = arrL n c := by
  unfold arrL
  apply List.map_congr_left
  intro i hi
  rw [h i (by simpa using hi)]

/-- One place told anew. -/
def upd (b : Nat → Int) (k : Nat) (x : Int) : Nat → Int := fun i => if i = k then x else b i

theorem arrL_set (n : Nat) (b : Nat → Int) (k : Nat) (x : Int) : (arrL n b).toArray.setIfInBounds k (.int .i64 x) = (arrL n (upd b k x)).toArray := by
  rw [List.setIfInBounds_toArray]
  congr 1
  apply List.ext_getElem?
  intro i
  unfold arrL upd
  rw [List.getElem?_set]
  simp only [List.length_map, List.length_range, List.getElem?_map]
  by_cases h : k = i
  · subst h
    by_cases hk : k < n
    · simp [hk]
    · simp [hk]
  · rw [if_neg h]
    by_cases hi : i < n
    · rw [List.getElem?_range hi]
      simp [Ne.symm h]
    · rw [List.getElem?_eq_none (by simp; omega)]; rfl

theorem arrL_zero (n : Nat) : (arrL n (fun _ => 0)).toArray = Array.replicate n (.int .i64 0) := by
  unfold arrL
  apply Array.ext'
  rw [Array.toList_replicate]
  show List.map (fun _ => Value.int .i64 0) (List.range n) = _
  rw [List.map_const', List.length_range]

/-- A block in memory. -/
def Blk (w : World) (p : Nat) (t : TypeId) (b : Nat → Int) : Prop := w.heap[p]? = some (.cells (arrL 16 b).toArray t (0, 0))

theorem Blk.all {w w' : World} {S : Nat → Prop} {p : Nat} {t : TypeId} {b : Nat → Int} (h : Blk w p t b) (k : Kept S w w') (hn : ¬ S p) : Blk w' p t b := k.at h hn
theorem Blk.congr {w : World} {p : Nat} {t : TypeId} {b c : Nat → Int} (h : Blk w p t b) (e : ∀ i, i < 16 → b i = c i) : Blk w p t c := by unfold Blk at *; rw [← arrL_congr e]; exact h
theorem Blk.cell {w : World} {p : Nat} {t : TypeId} {b : Nat → Int} (h : Blk w p t b) {i : Nat} (hi : i < 16) : w.cell? ⟨p, i, none⟩ = some (.int .i64 (b i)) := by
  rw [cell_of_heap h, List.getElem?_toArray]; exact arrL_at hi
theorem Blk.lt {w : World} {p : Nat} {t : TypeId} {b : Nat → Int} (h : Blk w p t b) : p < w.heap.size := lt_of_heap h
theorem Blk.set {w : World} {p : Nat} {t : TypeId} {b : Nat → Int} (h : Blk w p t b) (k : Nat) (x : Int) : Blk (w.setCell ⟨p, k, none⟩ (.int .i64 x)) p t (upd b k x) := by
  unfold Blk; rw [heap_setCell_same _ _ _ _ h, arrL_set]
theorem Blk.other {w : World} {p q : Nat} {t : TypeId} {b : Nat → Int} (h : Blk w p t b) (k : Nat) (x : Value) (hq : p ≠ q) : Blk (w.setCell ⟨q, k, none⟩ x) p t b := by
  unfold Blk; rw [heap_setCell_other _ _ _ _ _ hq]; exact h
theorem Blk.new (w : World) (t : TypeId) (b : Nat → Int) : Blk (w.alloc (.cells (arrL 16 b).toArray t)) w.heap.size t b := heap_alloc_new w _
theorem Blk.alloc {w : World} {p : Nat} {t : TypeId} {b : Nat → Int} (h : Blk w p t b) (o : Obj) : Blk (w.alloc o) p t b := (Below.heap_alloc w o p h.lt).trans h

/-- The two types of a block. -/
def BlkT (t : TypeId) : Prop := Try.prog.underlying t = some (.array 16 3) ∧ (Try.prog.info? t).map (·.size) = some 16 ∧ (∀ w, (zeroValue t).run Try.prog w = .ok (.agg (arrL 16 (fun _ => 0)).toArray) w)
theorem BlkT.size {t : TypeId} (h : BlkT t) (b : Nat → Int) : (Try.prog.info? t).map (·.size) = some (arrL 16 b).toArray.size := by rw [List.size_toArray, arrL_length]; exact h.2.1

end Go.Proofs.Ythhagejcgobfgaa
namespace Go.Proofs.Ythhagejcgobfgaa
open Go.RowKit

theorem Blk.ne {w : World} {p q : Nat} {t : TypeId} {b : Nat → Int} (h : Blk w p t b) (e : q = w.heap.size) : p ≠ q := by have := h.lt; omega


end Go.Proofs.Ythhagejcgobfgaa
namespace Go.Proofs.Ythhagejcgobfgaa

/-- The c-th number of the u-th wave. -/
def wv (u c : Nat) : Int := ([1, 1, 1, 1, 1, 1, -1, -1, 1, -1, -1, 1, 1, -1, 1, -1] : List Int).getD (4 * u + c) 0

/-- The sums of a block's rows, with rows as columns. -/
def turn (b : Nat → Int) (i : Nat) : Int :=
  b (4 * (i % 4)) * wv (i / 4) 0 + b (4 * (i % 4) + 1) * wv (i / 4) 1 + b (4 * (i % 4) + 2) * wv (i / 4) 2 + b (4 * (i % 4) + 3) * wv (i / 4) 3

def cl (m x : Int) : Int := max (-m) (min x m)
end Go.Proofs.Ythhagejcgobfgaa
namespace Go.Proofs.Ythhagejcgobfgaa

def BitsAt (l : List Nat) (a : Nat) (bs : List Bool) : Prop := a + bs.length ≤ 8 * l.length ∧ ∀ i, i < bs.length → bitAt l (a + i) = bs.getD i false
theorem BitsAt.left {l : List Nat} {a : Nat} {x y : List Bool} (h : BitsAt l a (x ++ y)) : BitsAt l a x := by
  refine ⟨by have := h.1; simp at this; omega, fun i hi => ?_⟩
  rw [h.2 i (by simp; omega), List.getD_eq_getElem?_getD, List.getD_eq_getElem?_getD, List.getElem?_append_left hi]
def rdBad (r : Nat × Int × Option Nat) : Prop := r.2.2.isNone = true ∨ 15 < r.1 ∨ r.2.1 = 0
instance (r : Nat × Int × Option Nat) : Decidable (rdBad r) := by unfold rdBad; infer_instance
theorem rdStep_signed_le (l : List Nat) (most : Int) (hm : 0 ≤ most) (st : Option Nat) : -most ≤ (rdStep (signedRd l most) st).1 ∧ (rdStep (signedRd l most) st).1 ≤ most := by
  cases st with
  | none => simp [rdStep]; omega
  | some a =>
    cases h : wholeAt l a with
    | none =>
      have e : rdStep (signedRd l most) (some a) = (0, none) := by simp [rdStep, signedRd, h]
      rw [e]; simp only; omega
    | some p =>
      obtain ⟨n, a'⟩ := p
      by_cases hc : most < unsign n ∨ most < -unsign n
      · have e : rdStep (signedRd l most) (some a) = (0, none) := by simp [rdStep, signedRd, h, hc]
        rw [e]; simp only; omega
      · have e : rdStep (signedRd l most) (some a) = (unsign n, some a') := by simp [rdStep, signedRd, h, hc]
        rw [e]; simp only; omega

end Go.Proofs.Ythhagejcgobfgaa
namespace Go.Proofs.Ythhagejcgobfgaa

def Short (c : Nat) (bs : List Bool) : Prop := bs.length ≤ c
theorem Short.nil : Short 0 [] := Nat.le_refl _
theorem Short.fits {c : Nat} {bs : List Bool} (h : Short c bs) (hc : c < 1099511627776) : bs.length < 1099511627776 := by
  unfold Short at h; omega
theorem Short.bytes {c : Nat} {bs : List Bool} (h : Short c bs) (hc : c + 8 < 1099511627776) : (pack bs).length < 1099511627776 := by
  unfold Short at h; rw [pack_length]; unfold nbytes; omega
end Go.Proofs.Ythhagejcgobfgaa
namespace Go.Proofs.Ythhagejcgobfgaa
open Go.RowKit

theorem Kept.fin {w w' : World} (h : Kept (fun _ => False) w w') : Below w.heap.size w w' := h.below (Nat.le_refl _) (fun _ _ x => x)

theorem BytesArg.cells {w : World} {a : Option Addr} {n cap : Nat} {l : List Nat} (h : BytesArg w (.slice a n cap) l) :
    0 < n → ∃ b off, a = some ⟨b, off, none⟩ ∧ b < w.heap.size ∧ ∀ i, i < n → w.cell? ⟨b, off + i, none⟩ = some (.int .u8 (l.getD i 0 : Nat)) := by
  obtain ⟨a2, cap2, e, _, _, _, _, hc⟩ := h
  cases e; exact hc

theorem BytesArg.shape {w : World} {v : Value} {l : List Nat} (h : BytesArg w v l) : ∃ a cap, v = .slice a l.length cap := by
  obtain ⟨a, cap, rfl, _⟩ := h; exact ⟨a, cap, rfl⟩

theorem Row.shape {w : World} {B : Nat} {v : Value} {l : List Nat} (h : Row w B v l) : ∃ a cap, v = .slice a l.length cap := by
  rcases h.1.2 with ⟨rfl, h0⟩ | ⟨g, cap, cur, rfl, _⟩
  · exact ⟨none, 0, by rw [h0]⟩
  · exact ⟨_, _, rfl⟩

theorem BytesArg.cut {w : World} {a : Option Addr} {len cap : Nat} {l : List Nat} (h : BytesArg w (.slice a len cap) l) (i j cap' : Nat) (hi : i ≤ j) (hj : j ≤ l.length) (hc : j - i ≤ cap') (hm : cap' ≤ maxLen) (a' : Option Addr)
    (ha : 0 < j - i → a' = a.map (·.add i)) (h0 : a' = none → cap' = 0) : BytesArg w (.slice a' (j - i) cap') ((l.drop i).take (j - i)) := by
  obtain ⟨a2, cap2, e, h1, h2, h3, h256, hcell⟩ := h
  cases e
  have hl : ((l.drop i).take (j - i)).length = j - i := by simp; omega
  refine ⟨a', cap', by rw [hl], by rw [hl]; exact hc, hm, h0, fun x hx => h256 x (List.mem_of_mem_drop (List.mem_of_mem_take hx)), fun hpos => ?_⟩
  rw [hl] at hpos
  obtain ⟨b, off, rfl, hb, hx⟩ := hcell (by omega)
  refine ⟨b, off + i, by rw [ha hpos]; simp [Addr.add_lit], hb, fun t ht => ?_⟩
  rw [hl] at ht
  have e1 := hx (i + t) (by omega)
  rw [Nat.add_assoc, e1]
  have ht2 : t < j - i := ht
  simp [List.getD, ht2]

end Go.Proofs.Ythhagejcgobfgaa
namespace Go.Proofs.Ythhagejcgobfgaa

structure FD where
  W : Int
  H : Int
  p0 : List Nat
  p1 : List Nat
  p2 : List Nat
def FD.none : FD := ⟨0, 0, [], [], []⟩
def FD.pl (f : FD) (p : Int) : List Nat := if p = 0 then f.p0 else if p = 1 then f.p1 else f.p2

def sideB (n : Int) : Bool := decide (8 ≤ n) && decide (n ≤ 64) && decide (Int.tmod n 8 = 0)
theorem sideB_iff (n : Int) : sideB n = true ↔ 8 ≤ n ∧ n ≤ 64 ∧ n % 8 = 0 := by
  unfold sideB
  simp only [Bool.and_eq_true, decide_eq_true_eq]
  constructor
  · rintro ⟨⟨h1, h2⟩, h3⟩; rw [Int.tmod_eq_emod_of_nonneg (by omega)] at h3; exact ⟨h1, h2, h3⟩
  · rintro ⟨h1, h2, h3⟩; refine ⟨⟨h1, h2⟩, ?_⟩; rw [Int.tmod_eq_emod_of_nonneg (by omega)]; exact h3
theorem area_bounds {w h : Int} (hw : sideB w = true) (hh : sideB h = true) : 64 ≤ w * h ∧ w * h ≤ 4096 := by
  rw [sideB_iff] at hw hh
  have h1 : 8 * 8 ≤ w * h := Int.mul_le_mul hw.1 hh.1 (by omega) (by omega)
  have h2 : w * h ≤ 64 * 64 := Int.mul_le_mul hw.2.1 hh.2.1 (by omega) (by omega)
  omega
theorem tdiv2 {n : Int} (h : 0 ≤ n) : Int.tdiv n 2 = n / 2 := Int.tdiv_eq_ediv_of_nonneg h
theorem tdiv4 {n : Int} (h : 0 ≤ n) : Int.tdiv n 4 = n / 4 := Int.tdiv_eq_ediv_of_nonneg h
/-- May it be? -/
def okF (f : FD) : Prop := sideB f.W = true ∧ sideB f.H = true ∧ (f.p0.length : Int) = f.W * f.H ∧ (f.p1.length : Int) = Int.tdiv (f.W * f.H) 4 ∧ (f.p2.length : Int) = Int.tdiv (f.W * f.H) 4
instance (f : FD) : Decidable (okF f) := by unfold okF; infer_instance
def sizeF (f : FD) (p : Int) : Int × Int := if okF f ∧ 0 ≤ p ∧ p ≤ 2 then (if p = 0 then (f.W, f.H) else (Int.tdiv f.W 2, Int.tdiv f.H 2)) else (0, 0)
theorem sizeF_no {f : FD} {p : Int} (h : ¬ (okF f ∧ 0 ≤ p ∧ p ≤ 2)) : sizeF f p = (0, 0) := if_neg h
/-- A plane that there is. -/
theorem size_some {f : FD} {p : Int} (h : (sizeF f p).1 ≠ 0) : okF f ∧ 0 ≤ p ∧ p ≤ 2 := by
  unfold sizeF at h
  split at h
  · assumption
  · exact absurd rfl h
theorem size_bounds (f : FD) (p : Int) : 0 ≤ (sizeF f p).1 ∧ (sizeF f p).1 ≤ 64 ∧ 0 ≤ (sizeF f p).2 ∧ (sizeF f p).2 ≤ 64 := by
  by_cases h : okF f ∧ 0 ≤ p ∧ p ≤ 2
  · have hw := (sideB_iff _).1 h.1.1
    have hh := (sideB_iff _).1 h.1.2.1
    unfold sizeF; rw [if_pos h]
    split
    · simp only; omega
    · simp only; rw [tdiv2 (by omega), tdiv2 (by omega)]; omega
  · rw [sizeF_no h]; simp
theorem size_pos {f : FD} {p : Int} (h : okF f ∧ 0 ≤ p ∧ p ≤ 2) : 4 ≤ (sizeF f p).1 ∧ 4 ≤ (sizeF f p).2 ∧ (sizeF f p).1 * (sizeF f p).2 = ((f.pl p).length : Int) := by
  have hw := (sideB_iff _).1 h.1.1
  have hh := (sideB_iff _).1 h.1.2.1
  obtain ⟨⟨hs1, hs2, h0, h1, h2⟩, hp0, hp2⟩ := h
  have ha := area_bounds hs1 hs2
  unfold sizeF; rw [if_pos ⟨⟨hs1, hs2, h0, h1, h2⟩, hp0, hp2⟩]
  by_cases hp : p = 0
  · rw [if_pos hp]; unfold FD.pl; rw [if_pos hp]
    simp only
    exact ⟨by omega, by omega, h0.symm⟩
  · rw [if_neg hp]
    have hl : ((f.pl p).length : Int) = Int.tdiv (f.W * f.H) 4 := by
      unfold FD.pl; rw [if_neg hp]; split
      · exact h1
      · exact h2
    simp only
    rw [tdiv2 (by omega), tdiv2 (by omega), hl, tdiv4 (by omega)]
    refine ⟨by omega, by omega, ?_⟩
    obtain ⟨a, hA⟩ : ∃ a, f.W = 2 * a := ⟨f.W / 2, by omega⟩
    obtain ⟨b, hB⟩ : ∃ b, f.H = 2 * b := ⟨f.H / 2, by omega⟩
    rw [hA, hB, show 2 * a / 2 = a by omega, show 2 * b / 2 = b by omega, show 2 * a * (2 * b) = 4 * (a * b) by rw [Int.mul_assoc, Int.mul_left_comm a 2 b, ← Int.mul_assoc]; rfl]
    omega
theorem cell_in {w h x y : Int} (hw : 1 ≤ w) (hx : 0 ≤ x) (hx2 : x ≤ w - 1) (hy : 0 ≤ y) (hy2 : y ≤ h - 1) : 0 ≤ y * w ∧ 0 ≤ y * w + x ∧ y * w + x < w * h := by
  have h1 : 0 ≤ y * w := Int.mul_nonneg hy (by omega)
  have h2 : y * w ≤ (h - 1) * w := Int.mul_le_mul_of_nonneg_right hy2 (by omega)
  have h3 : (h - 1) * w = w * h - w := by rw [Int.sub_mul, Int.one_mul, Int.mul_comm]
  omega
end Go.Proofs.Ythhagejcgobfgaa
namespace Go.Proofs.Ythhagejcgobfgaa

def alikeF (a b : FD) : Prop := okF a ∧ okF b ∧ a.W = b.W ∧ a.H = b.H
instance (a b : FD) : Decidable (alikeF a b) := by unfold alikeF; infer_instance
def within (w h u v : Int) : Prop := 0 ≤ u ∧ u < w ∧ 0 ≤ v ∧ v < h
instance (w h u v : Int) : Decidable (within w h u v) := by unfold within; infer_instance
theorem within_cell {f : FD} {p u v : Int} (h : within (sizeF f p).1 (sizeF f p).2 u v) : (sizeF f p).1 ≠ 0 ∧ 0 ≤ v * (sizeF f p).1 ∧ v * (sizeF f p).1 ≤ 4096 ∧ 0 ≤ v * (sizeF f p).1 + u ∧ v * (sizeF f p).1 + u < ((f.pl p).length : Int) := by
  obtain ⟨h1, h2, h3, h4⟩ := h
  have hne : (sizeF f p).1 ≠ 0 := by omega
  obtain ⟨_, _, hl⟩ := size_pos (size_some hne)
  have hb := size_bounds f p
  have hc := cell_in (w := (sizeF f p).1) (h := (sizeF f p).2) (x := u) (y := v) (by omega) (by omega) (by omega) (by omega) (by omega)
  have h5 : (sizeF f p).1 * (sizeF f p).2 ≤ 64 * 64 := Int.mul_le_mul hb.2.1 hb.2.2.2 hb.2.2.1 (by omega)
  rw [hl] at hc h5
  exact ⟨hne, by omega, by omega, by omega, by omega⟩

def pn (n : Nat) : Nat → Nat
  | 0 => n
  | _ => n / 4
end Go.Proofs.Ythhagejcgobfgaa
namespace Go.Proofs.Ythhagejcgobfgaa

theorem FD.eq {a b : FD} (h1 : a.W = b.W) (h2 : a.H = b.H) (h3 : a.p0 = b.p0) (h4 : a.p1 = b.p1) (h5 : a.p2 = b.p2) : a = b := by
  cases a; cases b; simp only at *; subst h1; subst h2; subst h3; subst h4; subst h5; rfl
structure Inside (f : FD) (k x y : Int) : Prop where
  ok : okF f
  k0 : 0 ≤ k
  k2 : k ≤ 2
  x0 : 0 ≤ x
  x1 : x + 4 ≤ (sizeF f k).1
  y0 : 0 ≤ y
  y1 : y + 4 ≤ (sizeF f k).2
def jAt (f : FD) (k x y : Int) (i : Nat) : Nat := ((y + ((i / 4 : Nat) : Int)) * (sizeF f k).1 + (x + ((i % 4 : Nat) : Int))).toNat
theorem Inside.within {f : FD} {k x y : Int} (h : Inside f k x y) (i : Nat) (hi : i < 16) : within (sizeF f k).1 (sizeF f k).2 (x + ((i % 4 : Nat) : Int)) (y + ((i / 4 : Nat) : Int)) := by
  have h1 := h.x0; have h2 := h.x1; have h3 := h.y0; have h4 := h.y1
  exact ⟨by omega, by omega, by omega, by omega⟩
theorem Inside.lt {f : FD} {k x y : Int} (h : Inside f k x y) (i : Nat) (hi : i < 16) : jAt f k x y i < (f.pl k).length := by
  have := within_cell (h.within i hi)
  unfold jAt; omega
theorem Inside.inj {f : FD} {k x y : Int} (h : Inside f k x y) (i i' : Nat) (hi : i < 16) (hi' : i' < 16) (e : jAt f k x y i = jAt f k x y i') : i = i' := by
  have w1 := within_cell (h.within i hi)
  have w2 := within_cell (h.within i' hi')
  have hx1 := h.x1; have hx0 := h.x0
  unfold jAt at e
  have e2 : (y + ((i / 4 : Nat) : Int)) * (sizeF f k).1 + (x + ((i % 4 : Nat) : Int)) = (y + ((i' / 4 : Nat) : Int)) * (sizeF f k).1 + (x + ((i' % 4 : Nat) : Int)) := by omega
  rw [Int.add_mul, Int.add_mul] at e2
  have hw : 4 ≤ (sizeF f k).1 := by omega
  generalize (sizeF f k).1 = w at *
  have hq : i / 4 = i' / 4 := by
    by_cases hlt : i / 4 < i' / 4
    · have : ((i / 4 : Nat) : Int) * w + w ≤ ((i' / 4 : Nat) : Int) * w := by
        have h5 : (((i / 4 : Nat) : Int) + 1) * w ≤ ((i' / 4 : Nat) : Int) * w := Int.mul_le_mul_of_nonneg_right (by omega) (by omega)
        rw [Int.add_mul, Int.one_mul] at h5; exact h5
      omega
    · by_cases hgt : i' / 4 < i / 4
      · have : ((i' / 4 : Nat) : Int) * w + w ≤ ((i / 4 : Nat) : Int) * w := by
          have h5 : (((i' / 4 : Nat) : Int) + 1) * w ≤ ((i / 4 : Nat) : Int) * w := Int.mul_le_mul_of_nonneg_right (by omega) (by omega)
          rw [Int.add_mul, Int.one_mul] at h5; exact h5
        omega
      · omega
  rw [hq] at e2
  omega
end Go.Proofs.Ythhagejcgobfgaa
namespace Go.Proofs.Ythhagejcgobfgaa

def placeF (f : FD) (p x y : Int) : Prop := okF f ∧ 0 ≤ p ∧ p ≤ 2 ∧ 0 ≤ x ∧ x ≤ 64 ∧ 0 ≤ y ∧ y ≤ 64
instance (f : FD) (p x y : Int) : Decidable (placeF f p x y) := by unfold placeF; infer_instance
end Go.Proofs.Ythhagejcgobfgaa
namespace Go.Proofs.Ythhagejcgobfgaa

def vecOk (X Y : Int) : Prop := -31 ≤ X ∧ X ≤ 31 ∧ -31 ≤ Y ∧ Y ≤ 31
instance (X Y : Int) : Decidable (vecOk X Y) := by unfold vecOk; infer_instance
def vecE (X Y : Int) : Int := if vecOk X Y then 0 else 90
theorem vecE_yes {X Y : Int} (h : vecOk X Y) : vecE X Y = 0 := if_pos h
theorem vecE_no {X Y : Int} (h : ¬ vecOk X Y) : vecE X Y = 90 := if_neg h
theorem vecE_iff (X Y : Int) : vecE X Y = 0 ↔ vecOk X Y := by unfold vecE; split <;> simp_all
def c100 (n : Int) : Int := min (max n (-100)) 100
end Go.Proofs.Ythhagejcgobfgaa
namespace Go.Proofs.Ythhagejcgobfgaa

def med (a b c : Int) : Int := max (min a b) (min (max a b) c)
theorem med_swap (a b c : Int) : med a b c = med b a c := by unfold med; omega
theorem med_three (a : Int) : med a a a = a := by unfold med; omega
structure VF where
  w : Int
  h : Int
  X : Int → Int → Int
  Y : Int → Int → Int
def inV (f : VF) (x y : Int) : Prop := 0 ≤ x ∧ x < f.w ∧ 0 ≤ y ∧ y < f.h
instance (f : VF) (x y : Int) : Decidable (inV f x y) := by unfold inV; infer_instance
structure OkV (f : VF) : Prop where
  w : 1 ≤ f.w ∧ f.w ≤ 16
  h : 1 ≤ f.h ∧ f.h ≤ 16
  out : ∀ x y, ¬ inV f x y → f.X x y = 0 ∧ f.Y x y = 0
  low : ∀ x y, vecOk (f.X x y) (f.Y x y)
def sidesOk (w h : Int) : Prop := 1 ≤ w ∧ w ≤ 16 ∧ 1 ≤ h ∧ h ≤ 16
instance (w h : Int) : Decidable (sidesOk w h) := by unfold sidesOk; infer_instance
def newV (w h : Int) : VF := ⟨w, h, fun _ _ => 0, fun _ _ => 0⟩
theorem okV_new {w h : Int} (k : sidesOk w h) : OkV (newV w h) := ⟨⟨k.1, k.2.1⟩, ⟨k.2.2.1, k.2.2.2⟩, fun _ _ _ => ⟨rfl, rfl⟩, fun _ _ => by show vecOk 0 0; decide⟩
def setE (f : VF) (x y X Y : Int) : Int := if inV f x y then vecE X Y else 1
def layV (f : VF) (x y X Y : Int) : VF := ⟨f.w, f.h, fun a b => if a = x ∧ b = y then X else f.X a b, fun a b => if a = x ∧ b = y then Y else f.Y a b⟩
def setV (f : VF) (x y X Y : Int) : VF := if inV f x y ∧ vecOk X Y then layV f x y X Y else f
theorem set_no {f : VF} {x y X Y : Int} (h : ¬ inV f x y) : setE f x y X Y = 1 ∧ setV f x y X Y = f := ⟨if_neg h, if_neg fun k => h k.1⟩
theorem set_none {f : VF} {x y X Y : Int} (h : inV f x y) (hv : ¬ vecOk X Y) : setE f x y X Y = 90 ∧ setV f x y X Y = f := ⟨by unfold setE; rw [if_pos h, vecE_no hv], if_neg fun k => hv k.2⟩
theorem set_yes {f : VF} {x y X Y : Int} (h : inV f x y) (hv : vecOk X Y) : setE f x y X Y = 0 ∧ setV f x y X Y = layV f x y X Y := ⟨by unfold setE; rw [if_pos h, vecE_yes hv], if_pos ⟨h, hv⟩⟩
theorem okV_lay {f : VF} (k : OkV f) {x y X Y : Int} (h : inV f x y) (hv : vecOk X Y) : OkV (layV f x y X Y) := by
  refine ⟨k.w, k.h, fun a b hn => ?_, fun a b => ?_⟩
  · have hn' : ¬ inV f a b := hn
    have : ¬ (a = x ∧ b = y) := fun e => hn' (by rw [e.1, e.2]; exact h)
    show (if a = x ∧ b = y then X else f.X a b) = 0 ∧ (if a = x ∧ b = y then Y else f.Y a b) = 0
    rw [if_neg this, if_neg this]; exact k.out a b hn'
  · show vecOk (if a = x ∧ b = y then X else f.X a b) (if a = x ∧ b = y then Y else f.Y a b)
    split
    · exact hv
    · exact k.low a b
def gX (f : VF) (x y : Int) : Int := med (f.X (x - 1) y) (f.X x (y - 1)) (f.X (x + 1) (y - 1))
def gY (f : VF) (x y : Int) : Int := med (f.Y (x - 1) y) (f.Y x (y - 1)) (f.Y (x + 1) (y - 1))
theorem guess_far {f : VF} (k : OkV f) {x y : Int} (h : x < -5 ∨ 100 < x ∨ y < -5 ∨ 100 < y) : gX f x y = 0 ∧ gY f x y = 0 := by
  have hw := k.w; have hh := k.h
  have a := k.out (x - 1) y (by unfold inV; omega)
  have b := k.out x (y - 1) (by unfold inV; omega)
  have c := k.out (x + 1) (y - 1) (by unfold inV; omega)
  unfold gX gY; rw [a.1, a.2, b.1, b.2, c.1, c.2]; exact ⟨med_three 0, med_three 0⟩

def vecBits (X Y gx gy : Int) : List Bool := signedBits (cl 64 X - cl 64 gx) ++ signedBits (cl 64 Y - cl 64 gy)
theorem cl64 (n : Int) : -64 ≤ cl 64 n ∧ cl 64 n ≤ 64 := by unfold cl; omega
def rdX (l : List Nat) (s : Option Nat) : Int × Option Nat := rdStep (signedRd l 128) s
def rdOk (l : List Nat) (gx gy : Int) (s : Option Nat) : Prop := (rdX l (rdX l s).2).2 ≠ none ∧ vecOk ((rdX l s).1 + cl 64 gx) ((rdX l (rdX l s).2).1 + cl 64 gy)
instance (l : List Nat) (gx gy : Int) (s : Option Nat) : Decidable (rdOk l gx gy s) := by unfold rdOk; infer_instance
def vrX (l : List Nat) (gx gy : Int) (s : Option Nat) : Int := if rdOk l gx gy s then (rdX l s).1 + cl 64 gx else 0
def vrY (l : List Nat) (gx gy : Int) (s : Option Nat) : Int := if rdOk l gx gy s then (rdX l (rdX l s).2).1 + cl 64 gy else 0
def vrE (l : List Nat) (gx gy : Int) (s : Option Nat) : Int := if rdOk l gx gy s then 0 else 90
def vrS (l : List Nat) (s : Option Nat) : Option Nat := (rdX l (rdX l s).2).2
theorem vr_yes {l : List Nat} {gx gy : Int} {s : Option Nat} (h : rdOk l gx gy s) : vrX l gx gy s = (rdX l s).1 + cl 64 gx ∧ vrY l gx gy s = (rdX l (rdX l s).2).1 + cl 64 gy ∧ vrE l gx gy s = 0 := ⟨if_pos h, if_pos h, if_pos h⟩
theorem vr_no {l : List Nat} {gx gy : Int} {s : Option Nat} (h : ¬ rdOk l gx gy s) : vrX l gx gy s = 0 ∧ vrY l gx gy s = 0 ∧ vrE l gx gy s = 90 := ⟨if_neg h, if_neg h, if_neg h⟩
theorem rdX_le (l : List Nat) (s : Option Nat) : -128 ≤ (rdX l s).1 ∧ (rdX l s).1 ≤ 128 := rdStep_signed_le l 128 (by omega) s
end Go.Proofs.Ythhagejcgobfgaa
namespace Go.Proofs.Ythhagejcgobfgaa
open Go.RowKit

/-- Bytes that can be read. -/
def Byt (w : World) (T : Nat → Prop) (v : Value) (l : List Nat) : Prop := BytesArg w v l ∧ Live w T ∧ (0 < l.length → ∀ a n c, v = .slice (some a) n c → T a.block)
theorem Byt.live {w : World} {T : Nat → Prop} {v : Value} {l : List Nat} (h : Byt w T v l) : Live w T := h.2.1
theorem Byt.all {S : Nat → Prop} {w w' : World} {T : Nat → Prop} {v : Value} {l : List Nat} (h : Byt w T v l) (k : Kept S w w') (ha : Apart T S) : Byt w' T v l := by
  refine ⟨?_, h.2.1.mono k, h.2.2⟩
  obtain ⟨⟨a, cap, rfl, h1, h2, h3, hl, hc⟩, hL, hT⟩ := h
  refine ⟨a, cap, rfl, h1, h2, h3, hl, fun hpos => ?_⟩
  obtain ⟨b, off, rfl, hb, hcell⟩ := hc hpos
  exact ⟨b, off, rfl, Nat.lt_of_lt_of_le hb k.size, fun i hi => (World.cell?_of_block (k.block b hb (ha b (hT hpos _ _ _ rfl)))).trans (hcell i hi)⟩
theorem Byt.new {w : World} {g : Nat} {l : List Nat} (h : w.heap[g]? = some (.cells (byteVals l).toArray 5 (0, 0))) (hm : l.length ≤ maxLen) (h256 : ∀ x ∈ l, x < 256) : Byt w (onB g) (.slice (some ⟨g, 0, none⟩) l.length l.length) l := by
  refine ⟨(Row.of_new (B := 0) h (Nat.zero_le _) hm h256).bytes, onB_live (lt_of_heap h), fun _ a n c e => ?_⟩
  cases e; rfl
theorem Byt.nil (w : World) : Byt w noB (.slice none 0 0) [] := ⟨BytesArg.nil w, fun _ h => h.elim, fun h => absurd h (Nat.lt_irrefl 0)⟩

/-- A writer. -/
def Wri (w : World) (T : Nat → Prop) (p : Nat) (bs : List Bool) : Prop := ∃ r, T = WrFoot p r ∧ WrIs w p r bs
theorem Wri.live {w : World} {T : Nat → Prop} {p : Nat} {bs : List Bool} (h : Wri w T p bs) : Live w T := by
  obtain ⟨r, rfl, h⟩ := h; exact fun i hi => h.foot_lt hi
theorem Wri.all {S : Nat → Prop} {w w' : World} {T : Nat → Prop} {p : Nat} {bs : List Bool} (h : Wri w T p bs) (k : Kept S w w') (ha : Apart T S) : Wri w' T p bs := by
  obtain ⟨r, rfl, h⟩ := h; exact ⟨r, rfl, h.kept k ha⟩
theorem wrote_thing {w w' : World} {p : Nat} {r : Option Nat} {bs : List Bool} (h : Wrote w w' p r bs) : ∃ T', Kept (WrFoot p r) w w' ∧ Wri w' T' p bs ∧ Grew w (WrFoot p r) T' := by
  obtain ⟨r', h1, h2, h3⟩ := h
  refine ⟨WrFoot p r', h3, ⟨r', rfl, h1⟩, fun i hi => ?_⟩
  rcases hi with rfl | hi
  · exact .inl (.inl rfl)
  · rcases h2 with rfl | ⟨g, rfl, hg⟩
    · exact .inl (.inr hi)
    · cases hi; exact .inr hg

/-- A reader. -/
def Rdi (w : World) (T : Nat → Prop) (p : Nat) (l : List Nat) (st : Option Nat) : Prop := Fair l ∧ ∃ g, T = (fun i => i = p ∨ i = g) ∧ RdIs w p g l st
theorem Rdi.live {w : World} {T : Nat → Prop} {p : Nat} {l : List Nat} {st : Option Nat} (h : Rdi w T p l st) : Live w T := by
  obtain ⟨_, g, rfl, h⟩ := h
  have := h.lt
  intro i hi
  rcases hi with rfl | rfl
  · exact this.1
  · exact this.2.1
theorem Rdi.all {S : Nat → Prop} {w w' : World} {T : Nat → Prop} {p : Nat} {l : List Nat} {st : Option Nat} (h : Rdi w T p l st) (k : Kept S w w') (ha : Apart T S) : Rdi w' T p l st := by
  obtain ⟨hf, g, rfl, h⟩ := h; exact ⟨hf, g, rfl, h.kept k (ha p (.inl rfl)) (ha g (.inr rfl))⟩

/-- The document's reader. -/
def Rfi (w : World) (T : Nat → Prop) (p : Nat) (l : List Nat) (st : Option Nat) : Prop := Fair l ∧ l.length ≤ 1000 ∧ T = onB p ∧ RfIs w p l st
theorem Rfi.live {w : World} {T : Nat → Prop} {p : Nat} {l : List Nat} {st : Option Nat} (h : Rfi w T p l st) : Live w T := by
  obtain ⟨_, _, rfl, h⟩ := h
  cases st with
  | none => obtain ⟨a, _, h⟩ := h; exact onB_live (lt_of_heap h)
  | some a => exact onB_live (lt_of_heap h.2)
theorem Rfi.all {S : Nat → Prop} {w w' : World} {T : Nat → Prop} {p : Nat} {l : List Nat} {st : Option Nat} (h : Rfi w T p l st) (k : Kept S w w') (ha : Apart T S) : Rfi w' T p l st := by
  obtain ⟨hf, h1, rfl, h⟩ := h
  refine ⟨hf, h1, rfl, ?_⟩
  cases st with
  | none => obtain ⟨a, h0, h⟩ := h; exact ⟨a, h0, h.kept k (ha p rfl)⟩
  | some a => exact ⟨h.1, h.2.kept k (ha p rfl)⟩

theorem t_signed (p : Nat) (bs : List Bool) (n : Int) (T_w : Nat → Prop) (w0 : World) (hm : bs.length + 64 < 1099511627776) (h_w : Wri w0 T_w p bs) :
    Calls Try.prog 36 #[.pointer (some ⟨p, 0, none⟩), .int .i64 n] w0 fun e w' => ∃ (T_w' : Nat → Prop), e = .returned (.tuple #[]) ∧ Kept T_w w0 w' ∧ (Wri w' T_w' p (bs ++ signedBits n) ∧ Grew w0 T_w T_w') := by
  obtain ⟨r, rfl, h⟩ := h_w
  exact (signed_any p r bs n w0 hm h).mono fun _ _ ⟨e, hw⟩ => by obtain ⟨T', k, x, g⟩ := wrote_thing hw; exact ⟨T', e, k, x, g⟩

theorem t_many (p : Nat) (bs : List Bool) (T_w : Nat → Prop) (w0 : World) (h_w : Wri w0 T_w p bs) :
    Calls Try.prog 23 #[.pointer (some ⟨p, 0, none⟩)] w0 fun e w' => e = .returned (.int .i64 ((bs.length : Nat) : Int)) ∧ Kept (fun _ => False) w0 w' := by
  obtain ⟨r, rfl, h⟩ := h_w
  exact (many_any p r bs w0 h).mono fun _ _ ⟨e, hw⟩ => by subst hw; exact ⟨e, Kept.refl _ _⟩

theorem t_bytes (p : Nat) (bs : List Bool) (T_w : Nat → Prop) (w0 : World) (hm : bs.length < 1099511627776) (h_w : Wri w0 T_w p bs) :
    Calls Try.prog 24 #[.pointer (some ⟨p, 0, none⟩)] w0 fun e w' => ∃ (v1 : Value) (T1 : Nat → Prop), e = .returned v1 ∧ Kept (fun _ => False) w0 w' ∧ (Byt w' T1 v1 (pack bs) ∧ Grew w0 noB T1) := by
  obtain ⟨r, rfl, h⟩ := h_w
  refine (bytes_any p r bs w0 hm h).mono fun _ _ hn => ?_
  obtain ⟨g, e, hg, hh, k⟩ := hn
  exact ⟨_, onB g, e, k, Byt.new hh (by rw [pack_length]; unfold nbytes; have hM : 1099511627776 ≤ maxLen := (by decide); omega) (pack_bytes bs), onB_new hg⟩

theorem t_new (v : Value) (l : List Nat) (T_b : Nat → Prop) (w0 : World) (hm : l.length < 1099511627776) (h_b : Byt w0 T_b v l) :
    Calls Try.prog 20 #[v] w0 fun e w' => ∃ (v1 : Nat) (T1 : Nat → Prop), e = .returned (.pointer (some ⟨v1, 0, none⟩)) ∧ Kept (fun _ => False) w0 w' ∧ (Rdi w' T1 v1 l (some 0) ∧ Grew w0 noB T1) := by
  refine (new_any v l w0 hm h_b.1.slice).mono fun _ _ ⟨p, g, e, hr, h1, h2, k⟩ => ?_
  exact ⟨p, _, e, k, ⟨h_b.1.fair hm, g, rfl, hr⟩, fun i hi => .inr (by rcases hi with rfl | rfl <;> assumption)⟩

end Go.Proofs.Ythhagejcgobfgaa
namespace Go.Proofs.Ythhagejcgobfgaa
open Go.RowKit

theorem BytesArg.new (w : World) (l : List Nat) (hl : l.length ≤ maxLen) (h : ∀ x ∈ l, x < 256) : BytesArg (w.alloc (.cells (byteVals l).toArray 5)) (.slice (some ⟨w.heap.size, 0, none⟩) l.length l.length) l :=
  (Row.of_new (B := 0) (heap_alloc_new w _) (Nat.zero_le _) hl h).bytes

theorem y_len {ρ : Operand → Value} {o : Oper} {w : World} {R : Value → World → Prop} {c : Call} {x : Operand} {t e : TypeId} {a : Option Addr} {n cap : Nat} (ho : o.op = .call c) (hc : c.callee = .builtin .len) (hx : c.args = #[x]) (ht : c.argTypes = #[t]) (hu : Try.prog.underlying t = some (.slice e))
    (h1 : ρ x = .slice a n cap) (h : R (.int .i64 (n : Int)) w) : Yields Try.prog ρ o w R := by
  obtain ⟨cl, xs, ts⟩ := c
  simp only at hc hx ht
  subst hc; subst hx; subst ht
  exact y_val (v := .int .i64 (n : Int)) (w' := w) (by simp [execOp, ho, h1, resolve, invoke, builtin, run_underlying hu, Builtin.len_]; rfl) h

def Pd.bytes (l : List Nat) : Pd := ⟨fun v w => BytesArg w v l, fun _ _ _ h k => h.all k⟩

end Go.Proofs.Ythhagejcgobfgaa
namespace Go.Proofs.Ythhagejcgobfgaa
open Go.RowKit

/-- One cell. -/
def Cel (w : World) (p : Nat) (t : TypeId) (v : Value) : Prop := w.heap[p]? = some (.cells #[v] t (0, 0))
theorem Cel.all {S : Nat → Prop} {w w' : World} {p : Nat} {t : TypeId} {v : Value} (h : Cel w p t v) (k : Kept S w w') (hn : ¬ S p) : Cel w' p t v := k.at h hn
theorem Cel.lt {w : World} {p : Nat} {t : TypeId} {v : Value} (h : Cel w p t v) : p < w.heap.size := lt_of_heap h
theorem Cel.cell {w : World} {p : Nat} {t : TypeId} {v : Value} (h : Cel w p t v) : w.cell? ⟨p, 0, none⟩ = some v := by rw [cell_of_heap h]; rfl

def oneC : Value → Bool
  | .int _ _ | .bool _ | .pointer _ | .slice _ _ _ | .string _ => true
  | _ => false

def plainD : TypeDesc → Bool
  | .struct _ | .array _ _ => false
  | _ => true

section
variable {ro : Option Nat} {P : Program} {ρ : Operand → Value} {o : Oper} {w : World} {R : Value → World → Prop}
theorem y_ldA {ty : TypeId} {x : Operand} {a : Addr} {v : Value} {d : TypeDesc} (ho : o.op = .load ty x) (hx : ρ x = .pointer (some a)) (hu : P.underlying ty = some d) (hd : plainD d = true) (hc : w.cell? a = some v) (h : R v w) : Yields P ρ o w R := by
  have hA : (isAgg ty).run P w = .ok false w := by
    cases d <;> first | (simp [plainD] at hd; done) | simp [isAgg, run_underlying hu]
  exact y_val (v := v) (w' := w) (by simp [execOp, ho, hx, Instr.loadAt, Instr.sureAddr, loadVar, hA, hc]) h
theorem y_nilc {x : Operand} {a : Addr} (ho : o.op = .nilCheck x) (hx : ρ x = .pointer (some a)) (h : R (.pointer (some a)) w) : Yields P ρ o w R :=
  y_val (by simp [execOp, ho, hx]) h
theorem y_fieldR {s : TypeId} {x : Operand} {fs : Array Field} {i b off off' n : Nat} {f : Field} (ho : o.op = .fieldAddr s x i) (hx : ρ x = .pointer (some ⟨b, off, none⟩)) (hu : P.underlying s = some (.struct fs)) (hf : fs[i]? = some f) (hs : (P.info? f.type).map (·.size) = some n) (hn : n ≠ 0) (hoff : off + f.offset = off')
    (h : R (.pointer (some ⟨b, off', none⟩)) w) : Yields P ρ o w R := by
  cases hq : P.info? f.type with
  | none => simp [hq] at hs
  | some j =>
    have hs' : j.size = n := by simpa [hq] using hs
    exact y_val (v := .pointer (some ⟨b, off', none⟩)) (w' := w) (by simp [execOp, ho, hx, Instr.fieldAt, run_underlying hu, hf, Instr.sureAddr, fieldPlace, sizeOf, typeInfo, hq, hs', hn, Addr.add_lit, hoff]) h
end


section
variable {ro : Option Nat} {N : Nat} {Q : (Exit → (Nat → Value) → World → Prop)} {F : Nat → Value} {w : World} {o : Oper} {P : Program}
theorem wl_box_wri {ops : Array Oper} {rest : List Oper} {x : Operand} (hg : o.guard = none) (hd : fits N o.dst = true) (ho : o.op = .box 41 x) (hx : ev (cutF N F) x = .agg #[.slice none 0 0, .int .i64 0])
    (h : ∀ p w' T, Wri w' T p [] → Grew w noB T → Kept (fun _ => False) w w' → wl ro P N ops Q rest (putF F o.dst (.pointer (some ⟨p, 0, none⟩))) w') : wl ro P N ops Q (o :: rest) F w :=
  wl_op hg hd (y_of (v := .pointer (some ⟨w.heap.size, 0, none⟩)) (w' := w.alloc (.cells #[.slice none 0 0, .int .i64 0] 41)) (by simp [execOp, ho, hx, go_sem])
    (h _ _ _ ⟨none, rfl, WrIs.new w⟩ (fun i hi => .inr (by rcases hi with rfl | hi; exact Nat.le_refl _; cases hi)) ((Kept.refl _ _).alloc _)))
end
end Go.Proofs.Ythhagejcgobfgaa
namespace Go.Proofs.Ythhagejcgobfgaa
open Go.RowKit

theorem up_other (F : Nat → Value) (d : Nat) (v : Value) {t : Nat} (h : t ≠ d) : up F d v t = F t := by
  unfold up
  cases hb : Nat.beq t d with
  | false => rfl
  | true => exact absurd (Nat.eq_of_beq_eq_true hb) h
/-- What the body of the loop has been given so far. -/
def Jat {α : Type} (w : World) (_U : Nat → Prop) (J : List α → World → Prop) (pre : List α) : Prop := J pre w ∧ AbidesFrom w.heap.size J
theorem Jat.all {α : Type} {w w' : World} {U : Nat → Prop} {J : List α → World → Prop} {pre : List α} (h : Jat w U J pre) (k : Kept (fun _ => False) w w') (_ : Apart U (fun _ => False)) : Jat w' U J pre :=
  ⟨h.2 _ _ _ none h.1 ⟨k.os, k.tape, k.output, k.size, fun i hi _ => k.block i hi id⟩ (fun _ e => by cases e),
   fun s W W' row hs hg hr => h.2 s W W' row hs hg (fun r e => ⟨Nat.le_trans k.size (hr r e).1, (hr r e).2⟩)⟩
theorem Jat.next {α : Type} {w w' : World} {U : Nat → Prop} {J : List α → World → Prop} {pre xs : List α} (h : Jat w U J pre) (hs : w.heap.size ≤ w'.heap.size) (hj : J xs w') : Jat w' U J xs :=
  ⟨hj, fun s W W' row hs' hg hr => h.2 s W W' row hs' hg (fun r e => ⟨Nat.le_trans hs (hr r e).1, (hr r e).2⟩)⟩

def RowNew (B : Nat) (A : World) (row : Option Nat) : Prop := ∀ r, row = some r → B ≤ r ∧ ∃ o : Obj, A.heap[r]? = some o ∧ o.isCells = false
def Cells (A : World) (T : Nat → Prop) : Prop := ∀ i, T i → ∃ o : Obj, A.heap[i]? = some o ∧ o.isCells = true
theorem kept_row {A B : World} {row : Option Nat} (hg : A.grownBy B row) : Kept (fun k => some k = row) A B := ⟨hg.os, hg.tape, hg.output, hg.size, fun k hk hn => hg.block k hk hn⟩
theorem Cells.apart {A : World} {T : Nat → Prop} {row : Option Nat} {n : Nat} (h : Cells A T) (hr : RowNew n A row) : Apart T (fun k => some k = row) := fun i hi e => by
  obtain ⟨o, ho, hc⟩ := h i hi
  obtain ⟨_, o', ho', hc'⟩ := hr i e.symm
  rw [ho] at ho'; cases ho'; rw [hc] at hc'; cases hc'
theorem Kept.row {S : Nat → Prop} {w0 A B : World} {row : Option Nat} {n : Nat} (h : Kept S w0 A) (hg : A.grownBy B row) (hr : RowNew n A row) (hn : w0.heap.size ≤ n) : Kept S w0 B := h.grown hg (fun k e hk => absurd (hr k e).1 (by omega))
theorem Cells.or {A : World} {T U : Nat → Prop} (h : Cells A T) (k : Cells A U) : Cells A (fun i => T i ∨ U i) := fun i hi => hi.elim (h i) (k i)
theorem cells_of_heap {A : World} {p : Nat} {c : Array Value} {t : TypeId} {z : Nat × Nat} (h : A.heap[p]? = some (.cells c t z)) : Cells A (onB p) := fun i hi => by
  cases hi; exact ⟨_, h, rfl⟩
theorem Blk.cells {w : World} {p : Nat} {t : TypeId} {b : Nat → Int} (h : Blk w p t b) : Cells w (onB p) := cells_of_heap h
theorem Cel.cells {w : World} {p : Nat} {t : TypeId} {v : Value} (h : Cel w p t v) : Cells w (onB p) := cells_of_heap h
theorem Wri.cells {w : World} {T : Nat → Prop} {p : Nat} {bs : List Bool} (h : Wri w T p bs) : Cells w T := by
  obtain ⟨r, rfl, v, h1, ho, hv, _⟩ := h
  intro i hi
  rcases hi with rfl | hi
  · exact ⟨_, h1, rfl⟩
  · rcases ho.2 with ⟨hn, _⟩ | ⟨g, cap, cur, rfl, hb, hg, rest⟩
    · subst hn; rw [← hv] at hi; cases hi
    · rw [← hv] at hi; cases hi; exact ⟨_, hg, rfl⟩
theorem Blk.row {A B : World} {row : Option Nat} {n p : Nat} {t : TypeId} {b : Nat → Int} (h : Blk A p t b) (hg : A.grownBy B row) (hr : RowNew n A row) : Blk B p t b := h.all (kept_row hg) (h.cells.apart hr p rfl)
theorem Cel.row {A B : World} {row : Option Nat} {n p : Nat} {t : TypeId} {v : Value} (h : Cel A p t v) (hg : A.grownBy B row) (hr : RowNew n A row) : Cel B p t v := h.all (kept_row hg) (h.cells.apart hr p rfl)
theorem Wri.row {A B : World} {row : Option Nat} {n p : Nat} {T : Nat → Prop} {bs : List Bool} (h : Wri A T p bs) (hg : A.grownBy B row) (hr : RowNew n A row) : Wri B T p bs := h.all (kept_row hg) (h.cells.apart hr)

def Mrk (w : World) (D : Nat) : Prop := w.heap[D]? = some (.deferred (some []))
theorem Mrk.all {S : Nat → Prop} {w w' : World} {D : Nat} (h : Mrk w D) (k : Kept S w w') (hn : ¬ S D) : Mrk w' D := k.at h hn
theorem Mrk.lt {w : World} {D : Nat} (h : Mrk w D) : D < w.heap.size := lt_of_heap h
theorem Mrk.apart {w : World} {D : Nat} {T : Nat → Prop} (h : Mrk w D) (hc : Cells w T) : Apart (onB D) T := fun i hi ht => by
  cases hi
  obtain ⟨o, ho, hx⟩ := hc _ ht
  rw [show w.heap[D]? = _ from h] at ho; cases ho; cases hx
end Go.Proofs.Ythhagejcgobfgaa
namespace Go.Proofs.Ythhagejcgobfgaa
open Go.RowKit

def Stc (w : World) (p : Nat) (t : TypeId) (vs : List Value) : Prop := w.heap[p]? = some (.cells vs.toArray t (0, 0))
theorem Stc.all {S : Nat → Prop} {w w' : World} {p : Nat} {t : TypeId} {vs : List Value} (h : Stc w p t vs) (k : Kept S w w') (hn : ¬ S p) : Stc w' p t vs := k.at h hn
theorem Stc.lt {w : World} {p : Nat} {t : TypeId} {vs : List Value} (h : Stc w p t vs) : p < w.heap.size := lt_of_heap h
theorem Stc.cells {w : World} {p : Nat} {t : TypeId} {vs : List Value} (h : Stc w p t vs) : Cells w (onB p) := cells_of_heap h
theorem Stc.row {A B : World} {row : Option Nat} {n p : Nat} {t : TypeId} {vs : List Value} (h : Stc A p t vs) (hg : A.grownBy B row) (hr : RowNew n A row) : Stc B p t vs := h.all (kept_row hg) (h.cells.apart hr p rfl)
theorem Stc.cell {w : World} {p : Nat} {t : TypeId} {vs : List Value} {i : Nat} {v : Value} (h : Stc w p t vs) (hi : vs[i]? = some v) : w.cell? ⟨p, i, none⟩ = some v := by
  rw [cell_of_heap h]; simpa using hi
theorem Stc.set {w : World} {p : Nat} {t : TypeId} {vs : List Value} (h : Stc w p t vs) (k : Nat) (v : Value) : Stc (w.setCell ⟨p, k, none⟩ v) p t (vs.set k v) := by
  unfold Stc at *
  simp [World.setCell, Array.getElem?_modify, h]
def StcT (P : Program) (ty : TypeId) (n : Nat) : Prop := ∃ d, P.underlying ty = some d ∧ d.isRow = true ∧ (P.info? ty).map (·.size) = some n
/-- Each takes one cell. -/
def OneAll (vs : List Value) : Prop := ∀ v ∈ vs, v.oneCell' = true
theorem oneN : OneAll [] := fun _ h => by cases h
theorem oneI {v : Value} {vs : List Value} (h : v.oneCell' = true) (k : OneAll vs) : OneAll (v :: vs) := fun x hx => by
  rcases List.mem_cons.1 hx with rfl | hx
  · exact h
  · exact k x hx
theorem Byt.oneC {w : World} {T : Nat → Prop} {v : Value} {l : List Nat} (h : Byt w T v l) : oneC v = true := by
  obtain ⟨⟨a, cap, rfl, _⟩, _⟩ := h; rfl
theorem Byt.one {w : World} {T : Nat → Prop} {v : Value} {l : List Nat} (h : Byt w T v l) : v.oneCell' = true := by
  obtain ⟨⟨a, cap, rfl, _⟩, _⟩ := h; rfl

section
variable {ro : Option Nat} {P : Program} {N : Nat} {Q : (Exit → (Nat → Value) → World → Prop)} {F : Nat → Value} {w : World} {o : Oper}
theorem wl_box_stc {ops : Array Oper} {rest : List Oper} {t : TypeId} {x : Operand} {vs : List Value} (hg : o.guard = none) (hd : fits N o.dst = true) (ho : o.op = .box t x) (hx : ev (cutF N F) x = .agg vs.toArray)
    (h : ∀ p w', Stc w' p t vs → Grew w noB (onB p) → Kept (fun _ => False) w w' → wl ro P N ops Q rest (putF F o.dst (.pointer (some ⟨p, 0, none⟩))) w') : wl ro P N ops Q (o :: rest) F w :=
  wl_op hg hd (y_of (v := .pointer (some ⟨w.heap.size, 0, none⟩)) (w' := w.alloc (.cells vs.toArray t)) (by simp [execOp, ho, hx, go_sem]) (h _ _ (heap_alloc_new w _) (onB_new (Nat.le_refl _)) ((Kept.refl _ _).alloc _)))
theorem wl_alloc_stc {ops : Array Oper} {rest : List Oper} {t : TypeId} {n : Nat} {vs : List Value} (hg : o.guard = none) (hd : fits N o.dst = true) (ho : o.op = .alloc t) (hi : (P.info? t).map (fun i => (i.zero, i.size)) = some (some (.agg vs.toArray), n))
    (h : ∀ p w', Stc w' p t vs → Grew w noB (onB p) → Kept (fun _ => False) w w' → wl ro P N ops Q rest (putF F o.dst (.pointer (some ⟨p, 0, none⟩))) w') : wl ro P N ops Q (o :: rest) F w :=
  wl_op hg hd (y_of (v := .pointer (some ⟨w.heap.size, 0, none⟩)) (w' := w.alloc (.cells vs.toArray t)) (by simp [execOp, ho, (zero_of_info hi).1, go_sem]) (h _ _ (heap_alloc_new w _) (onB_new (Nat.le_refl _)) ((Kept.refl _ _).alloc _)))
theorem wl_store_stc {ops : Array Oper} {rest : List Oper} {ty t : TypeId} {x y : Operand} {p : Nat} {vs us : List Value} (hT : StcT P ty us.length) (hg : o.guard = none) (hdn : o.dst = none) (ho : o.op = .store ty x y) (hx : ev (cutF N F) x = .pointer (some ⟨p, 0, none⟩)) (hy : ev (cutF N F) y = .agg us.toArray) (hB : Stc w p t vs) (hl : vs.length = us.length) (h1 : OneAll us)
    (h : ∀ w', Stc w' p t us → Kept (fun k => k = p) w w' → wl ro P N ops Q rest F w') : wl ro P N ops Q (o :: rest) F w := by
  obtain ⟨d, _, _, hsz⟩ := hT
  refine wl_op hg (by rw [hdn]; rfl) (y_store_row ty x y ho p _ us.toArray t hx hy hB (by simpa using hl) (by rw [List.size_toArray]; exact hsz) (all_oneCell_toArray h1) fun w' hw hk => ?_)
  rw [hdn]
  exact h w' hw hk
end
section
variable {P : Program} {ρ : Operand → Value} {o : Oper} {w : World} {R : Value → World → Prop}
theorem y_load_stc {ty t : TypeId} {x : Operand} {p : Nat} {vs : List Value} (hT : StcT P ty vs.length) (ho : o.op = .load ty x) (hx : ρ x = .pointer (some ⟨p, 0, none⟩)) (hB : Stc w p t vs) (h : R (.agg vs.toArray) w) : Yields P ρ o w R := by
  obtain ⟨d, hu, hd, hs⟩ := hT
  exact y_load_row ho p hx _ t (0, 0) d hB hu hd (by rw [List.size_toArray]; exact hs) h
theorem y_ld_stc {ty t : TypeId} {x : Operand} {p k : Nat} {vs : List Value} {v : Value} {d : TypeDesc} (ho : o.op = .load ty x) (hx : ρ x = .pointer (some ⟨p, k, none⟩)) (hu : P.underlying ty = some d) (hB : Stc w p t vs) (hk : vs[k]? = some v) (hd : plainD d = true) (h : R v w) : Yields P ρ o w R := y_ldA ho hx hu hd (hB.cell hk) h
theorem res_stc {N : Nat} {F : Nat → Value} {p : Tmp} {ty t : TypeId} {q : Nat} {vs : List Value} (hT : StcT P ty vs.length) (ht : Nat.blt p N = true) (hp : F p = .pointer (some ⟨q, 0, none⟩)) (hB : Stc w q t vs) : ResOk P N F w (.cell p ty) (.agg vs.toArray) := by
  obtain ⟨d, hu, hd, hs⟩ := hT
  exact ⟨ht, _, hp, run_loadVar_whole w q t ty _ (0, 0) d hB hu hd (by rw [List.size_toArray]; exact hs)⟩
theorem end_stc {N : Nat} {F : Nat → Value} {fn : Func} {p : Tmp} {ty t : TypeId} {q : Nat} {vs : List Value} {E : Ending → World → Prop} (hT : StcT P ty vs.length) (hm : F N = undef) (ht : Nat.blt p N = true) (h : fn.results = #[.cell p ty]) (hp : F p = .pointer (some ⟨q, 0, none⟩)) (hB : Stc w q t vs) (hR : E (.returned (.agg vs.toArray)) w) : endP P fn N E .ret F w := by
  obtain ⟨d, hu, hd, hs⟩ := hT
  exact ⟨hm, fun a ha => ⟨_, results_cell h _ _ q (by rw [ha.at' p ht]; exact hp) _ t (0, 0) d hB hu hd (by rw [List.size_toArray]; exact hs), hR⟩⟩
end

end Go.Proofs.Ythhagejcgobfgaa
namespace Go.Proofs.Ythhagejcgobfgaa
open Go.RowKit

/-- One more operation is listed. -/
def upL (L : Nat → Bool) (i : Nat) : Nat → Bool := fun j => if j = i then true else L j
/-- One more answer. -/
def upV (v : Nat → Value) (i : Nat) (x : Value) : Nat → Value := fun j => if j = i then x else v j

/-- Whether each operation that writes a slot waits for operation i. -/
def late (os : List Oper) (t : Tmp) (i : Nat) : Bool := os.all fun o => o.dst != some t || o.after.toList.any fun e => Region.binds .any e && e.on == i

/-- What is asked of one operation. -/
def StepJ (os : List Oper) (P : Program) (D : List (Option Tmp)) (J : (Nat → Bool) → (Nat → Value) → World → Prop) (a0 : Act) (i : Nat) (o : Oper) : Prop :=
  ∀ (L : Nat → Bool) (v : Nat → Value) (a : Act) (w : World), J L v w → L i = false → (∀ e ∈ o.after.toList, Region.binds .any e = true → L e.on = true) →
    (∀ t, some t ∉ D → a.eval (.tmp t) = a0.eval (.tmp t)) → (∀ j d, L j = true → D[j]? = some (some d) → a.eval (.tmp d) = v j) → (∀ t, late os t i = true → a.eval (.tmp t) = a0.eval (.tmp t)) →
    (goes D o a = true → Yields P a.eval o w (fun x w' => J (upL L i) (upV v i x) w')) ∧ (goes D o a = false → J (upL L i) (upV v i undef) w)

def StepsJ (os : List Oper) (P : Program) (D : List (Option Tmp)) (J : (Nat → Bool) → (Nat → Value) → World → Prop) (a0 : Act) : Nat → List Oper → Prop
  | _, [] => True
  | i, o :: r => StepJ os P D J a0 i o ∧ StepsJ os P D J a0 (i + 1) r

theorem StepsJ.at {all : List Oper} {P : Program} {D : List (Option Tmp)} {J : (Nat → Bool) → (Nat → Value) → World → Prop} {a0 : Act} : ∀ {i : Nat} {os : List Oper}, StepsJ all P D J a0 i os → ∀ k o, os[k]? = some o → StepJ all P D J a0 (i + k) o := by
  intro i os
  induction os generalizing i with
  | nil => intro _ k o h; simp at h
  | cons x r ih =>
    intro h k o hk
    cases k with
    | zero => simp at hk; subst hk; exact h.1
    | succ k =>
      simp at hk
      have := ih h.2 k o hk
      rwa [show i + 1 + k = i + (k + 1) by omega] at this

structure MidJ (ops : Array Oper) (D : List (Option Tmp)) (J : (Nat → Bool) → (Nat → Value) → World → Prop) (a0 : Act) (v : Nat → Value) (listed : Array Bool) (a : Act) (w : World) : Prop where
  size : a.tmps.size = a0.tmps.size
  ls : listed.size = ops.size
  defers : a.defers = a0.defers
  out : ∀ t, (∀ j, listed.getD j false = true → D[j]? ≠ some (some t)) → a.tmps.getD t undef = a0.tmps.getD t undef
  here : ∀ j d, listed.getD j false = true → D[j]? = some (some d) → a.tmps.getD d undef = v j
  good : J (fun j => listed.getD j false) v w
  cl : ∀ (k : Nat) (o : Oper), ops[k]? = some o → listed.getD k false = true → ∀ e ∈ o.after.toList, Region.binds .any e = true → listed.getD e.on false = true

theorem wpAny_inv {P : Program} {ops : Array Oper} {Q : Exit → Act → World → Prop} {a0 : Act} (D : List (Option Tmp)) (J : (Nat → Bool) → (Nat → Value) → World → Prop)
    (hpl : plain a0.tmps.size 0 D ops.toList = true) (hsteps : StepsJ ops.toList P D J a0 0 ops.toList)
    (hend : ∀ (L : Nat → Bool) (v : Nat → Value) (w : World), J L v w → (∀ i, i < ops.size → L i = true) → Q .normal (putAll v 0 D a0) w) :
    ∀ (fuel : Nat) (listed : Array Bool) (v : Nat → Value) (a : Act) (w : World), MidJ ops D J a0 v listed a w → (fuel = 0 → Region.ready .any ops listed = []) →
      (List.range ops.size).countP (fun i => !listed.getD i false) ≤ fuel → wpAny P .any ops Q fuel listed a w := by
  obtain ⟨hDl, hpa⟩ := plain_at hpl
  have hlen : D.length = ops.size := by simpa using hDl
  have hback : ∀ (k : Nat) (o : Oper), ops[k]? = some o → ∀ e ∈ o.after.toList, Region.binds .any e = true → e.on < k := by
    intro k o hk e he hb
    have := (hpa k o (by simpa using hk)).2.2 e he hb
    omega
  have fin : ∀ (listed : Array Bool) (v : Nat → Value) (a : Act) (w : World), MidJ ops D J a0 v listed a w → Region.ready .any ops listed = [] → Q .normal a w := by
    intro listed v a w hm hr
    have hall := all_listed hback hr hm.ls
    have hp := putAll_frame v D 0 a0
    have ha : a = putAll v 0 D a0 := by
      have ht : a.tmps = (putAll v 0 D a0).tmps := by
        apply Array.ext
        · rw [hm.size, hp.1]
        · intro t h1 h2
          have e : a.tmps.getD t undef = (putAll v 0 D a0).tmps.getD t undef := by
            by_cases hmem : some t ∈ D
            · obtain ⟨j, hj⟩ := List.mem_iff_getElem?.1 hmem
              have hjs : j < ops.size := by rw [← hlen]; exact (List.getElem?_eq_some_iff.1 hj).1
              obtain ⟨g1, g2, _⟩ := hpa j ops[j] (by simp [hjs])
              have hdst : ops[j].dst = some t := by rw [hj] at g1; exact (Option.some.inj g1).symm
              obtain ⟨k1, k2⟩ := g2 t hdst
              rw [hm.here j t (hall j hjs) hj, hp.2.2.2 j t hj k2 k1, Nat.zero_add]
            · rw [hp.2.2.1 t hmem, hm.out t (fun j _ hj => hmem (List.mem_of_getElem? hj))]
          simpa [Array.getD_eq_getD_getElem?, h1, h2] using e
      have hd : a.defers = (putAll v 0 D a0).defers := by rw [hm.defers, hp.2.1]
      cases a
      cases hq : putAll v 0 D a0
      rw [hq] at ht hd
      simp only at ht hd
      rw [ht, hd]
    rw [ha]
    exact hend _ v w hm.good hall
  intro fuel
  induction fuel with
  | zero =>
    intro listed v a w hm h0 _
    exact ⟨h0 rfl, fin listed v a w hm (h0 rfl)⟩
  | succ fuel ih =>
    intro listed v a w hm _ hcount
    refine ⟨fin listed v a w hm, fun i hi => ?_⟩
    obtain ⟨hlt, hnl, o, ho, haft⟩ := mem_ready hi
    have hlsz : i < listed.size := by rw [hm.ls]; exact hlt
    have hnl' : listed.getD i false = false := by simpa [Array.getD, hlsz] using hnl
    obtain ⟨g1, g2, g3⟩ := hpa i o (by simpa using ho)
    have hstep := hsteps.at i o (by simpa using ho)
    rw [Nat.zero_add] at hstep
    have hout : ∀ t, some t ∉ D → a.eval (.tmp t) = a0.eval (.tmp t) := fun t ht => hm.out t (fun j _ hj => ht (List.mem_of_getElem? hj))
    have hlate : ∀ t, late ops.toList t i = true → a.eval (.tmp t) = a0.eval (.tmp t) := by
      intro t ht
      refine hm.out t fun j hj hD => ?_
      have hjs : j < ops.size := by rw [← hlen]; exact (List.getElem?_eq_some_iff.1 hD).1
      obtain ⟨k1, _, _⟩ := hpa j ops[j] (by simp [hjs])
      have hdst : ops[j].dst = some t := by rw [hD] at k1; exact (Option.some.inj k1).symm
      unfold late at ht
      have h1 := List.all_eq_true.1 ht ops[j] (by simp)
      simp only [hdst, bne_self_eq_false, Bool.false_or] at h1
      obtain ⟨e, he, hb⟩ := List.any_eq_true.1 h1
      simp only [Bool.and_eq_true, beq_iff_eq] at hb
      have h2 := hm.cl j ops[j] (by simp [hjs]) hj e he hb.1
      rw [hb.2, hnl'] at h2
      cases h2
    obtain ⟨s1, s2⟩ := hstep (fun j => listed.getD j false) v a w hm.good hnl' haft hout (fun j d hj hD => hm.here j d hj hD) hlate
    -- what is left when it answers x in the world w'
    have next : ∀ (x : Value) (w' : World), J (upL (fun j => listed.getD j false) i) (upV v i x) w' → wpAny P .any ops Q fuel (listed.setIfInBounds i true) (a.put o.dst x) w' := by
      intro x w' hJ
      have hcnt : (List.range ops.size).countP (fun j => !(listed.setIfInBounds i true).getD j false) ≤ fuel := by
        have h1 : (List.range ops.size).countP (fun j => !(listed.setIfInBounds i true).getD j false) < (List.range ops.size).countP (fun j => !listed.getD j false) := by
          have hmemi : i ∈ List.range ops.size := by simpa using hlt
          have key : ∀ (l : List Nat), i ∈ l → (∀ j, (!(listed.setIfInBounds i true).getD j false) = true → (!listed.getD j false) = true) → l.countP (fun j => !(listed.setIfInBounds i true).getD j false) < l.countP (fun j => !listed.getD j false) := by
            intro l
            induction l with
            | nil => intro h; cases h
            | cons y r ihl =>
              intro hy himp
              have hle : r.countP (fun j => !(listed.setIfInBounds i true).getD j false) ≤ r.countP (fun j => !listed.getD j false) := List.countP_mono_left fun j _ hj => himp j hj
              by_cases hyi : y = i
              · subst hyi
                have e1 : (!(listed.setIfInBounds y true).getD y false) = false := by rw [getD_set_true _ _ _ hlsz, if_pos rfl]; rfl
                have e2 : (!listed.getD y false) = true := by rw [hnl']; rfl
                rw [List.countP_cons, List.countP_cons]
                simp only [e1, e2, if_true, Bool.false_eq_true, if_false]
                omega
              · have hir : i ∈ r := by
                  rcases List.mem_cons.1 hy with h | h
                  · exact absurd h.symm hyi
                  · exact h
                have := ihl hir himp
                rw [List.countP_cons, List.countP_cons]
                have e3 : (listed.setIfInBounds i true).getD y false = listed.getD y false := by rw [getD_set_true _ _ _ hlsz, if_neg hyi]
                rw [e3]; omega
          refine key _ hmemi fun j hj => ?_
          rw [getD_set_true _ _ _ hlsz] at hj
          by_cases hji : j = i
          · rw [if_pos hji] at hj; cases hj
          · rwa [if_neg hji] at hj
        omega
      have hmid : MidJ ops D J a0 (upV v i x) (listed.setIfInBounds i true) (a.put o.dst x) w' := by
        refine ⟨?_, by simpa using hm.ls, ?_, ?_, ?_, ?_, ?_⟩
        · rw [← hm.size]; cases o.dst <;> simp [Act.put]
        · rw [← hm.defers]; cases o.dst <;> rfl
        · intro t ht
          have hold := hm.out t (fun j hj => ht j (by rw [getD_set_true _ _ _ hlsz]; split <;> first | rfl | exact hj))
          have hne : o.dst ≠ some t := by
            intro e
            exact ht i (by rw [getD_set_true _ _ _ hlsz, if_pos rfl]) (by rw [g1, e])
          rw [← hold]
          cases hd : o.dst with
          | none => rfl
          | some d =>
            have : d ≠ t := fun e => hne (by rw [hd, e])
            simp only [Act.put, Array.getD_eq_getD_getElem?, Array.getElem?_setIfInBounds_ne this]
        · intro j d hj hD
          by_cases hji : j = i
          · subst hji
            have hd : o.dst = some d := by rw [g1] at hD; exact Option.some.inj hD
            have hsz : d < a.tmps.size := by rw [hm.size]; exact (g2 d hd).1
            simp [hd, Act.put, Array.getD_eq_getD_getElem?, hsz, upV]
          · rw [getD_set_true _ _ _ hlsz, if_neg hji] at hj
            have hold := hm.here j d hj hD
            rw [show upV v i x j = v j from if_neg hji, ← hold]
            cases hd : o.dst with
            | none => rfl
            | some y =>
              have hne : y ≠ d := by
                rintro rfl
                rw [hd] at g1
                rcases Nat.lt_or_gt_of_ne hji with hlt2 | hgt2
                · have hjs : j < ops.size := by rw [← hlen]; exact (List.getElem?_eq_some_iff.1 hD).1
                  obtain ⟨k1, k2, _⟩ := hpa j ops[j] (by simp [hjs])
                  have hdst : ops[j].dst = some y := by rw [hD] at k1; exact (Option.some.inj k1).symm
                  exact (k2 y hdst).2 i hlt2 g1
                · exact (g2 y hd).2 j hgt2 hD
              simp only [Act.put, Array.getD_eq_getD_getElem?, Array.getElem?_setIfInBounds_ne hne]
        · have e : (fun j => (listed.setIfInBounds i true).getD j false) = upL (fun j => listed.getD j false) i := by
            funext j; exact getD_set_true _ _ _ hlsz
          rw [e]; exact hJ
        · intro k o' hk hl e he hb
          rw [getD_set_true _ _ _ hlsz] at hl ⊢
          by_cases hee : e.on = i
          · rw [if_pos hee]
          · rw [if_neg hee]
            by_cases hki : k = i
            · subst hki
              rw [ho] at hk
              cases hk
              exact haft e he hb
            · rw [if_neg hki] at hl
              exact hm.cl k o' hk hl e he hb
      refine ih _ _ _ _ hmid ?_ hcnt
      intro hz
      subst hz
      have hz0 : (List.range ops.size).countP (fun j => !(listed.setIfInBounds i true).getD j false) = 0 := by omega
      rw [List.countP_eq_zero] at hz0
      cases hr : Region.ready .any ops (listed.setIfInBounds i true) with
      | nil => rfl
      | cons y r =>
        have hy : y ∈ Region.ready .any ops (listed.setIfInBounds i true) := by rw [hr]; simp
        obtain ⟨q1, q2, _⟩ := mem_ready hy
        have := hz0 y (by simpa using q1)
        have hys : y < (listed.setIfInBounds i true).size := by simp [hm.ls]; exact q1
        have q3 : (listed.setIfInBounds i true).getD y false = false := by rw [← getD_same _ y hys]; exact q2
        rw [q3] at this
        exact absurd rfl this
    have hwant : Region.wanted o (yielded ops a.tmps) = goes D o a := by
      unfold Region.wanted goes
      cases hg : o.guard with
      | none => rfl
      | some p =>
        obtain ⟨j, want⟩ := p
        simp only [yielded]
        by_cases hj : j < ops.size
        · obtain ⟨k1, k2, _⟩ := hpa j ops[j] (by simp [hj])
          have hDj : D.getD j none = ops[j].dst := by simp [List.getD, k1]
          rw [hDj]
          simp only [Array.getElem?_eq_getElem hj, Option.bind_some]
          cases hd : ops[j].dst with
          | none => simp
          | some d =>
            have hsz : d < a.tmps.size := by rw [hm.size]; exact (k2 d hd).1
            simp only [Option.bind_some, Array.getElem?_eq_getElem hsz]
            have he : a.eval (.tmp d) = a.tmps[d] := by simp [Act.eval, Array.getD, hsz]
            rw [he]
            cases a.tmps[d] <;> simp
        · have hDj : D.getD j none = none := by simp [List.getD, List.getElem?_eq_none (show D.length ≤ j by omega)]
          rw [hDj]
          simp [Array.getElem?_eq_none (show ops.size ≤ j by omega)]
    unfold wpOp
    rw [ho]
    simp only [hwant]
    cases hgo : goes D o a with
    | true =>
      simp only [if_true]
      refine .inl (Yields.wp ?_)
      have := s1 hgo
      revert this
      unfold Yields
      generalize (execOp a.eval o).run P w = res
      intro h
      cases res with
      | ok n w' =>
        cases n <;> simp only at h ⊢ <;> first
          | exact next _ _ h
          | exact h.elim
          | exact Calls.mono h (fun e w'' ⟨y, he, hk⟩ => ⟨y, he, next _ _ hk⟩)
      | halt y w' => exact h.elim
    | false =>
      simp only [Bool.false_eq_true, if_false]
      exact next undef w (s2 hgo)


theorem wp_region_inv {P : Program} {id : Nat} {ops : Array Oper} {Q : Exit → Act → World → Prop} {a0 : Act} {w0 : World} (D : List (Option Tmp)) (J : (Nat → Bool) → (Nat → Value) → World → Prop)
    (hm : P.follows .mixedOrders = true) (hpl : plain a0.tmps.size 0 D ops.toList = true) (h0 : J (fun _ => false) (fun _ => undef) w0.drew) (hsteps : StepsJ ops.toList P D J a0 0 ops.toList)
    (hend : ∀ (L : Nat → Bool) (v : Nat → Value) (w : World), J L v w → (∀ i, i < ops.size → L i = true) → Q .normal (putAll v 0 D a0) w) : (Code.region id ops true).wp P Q a0 w0 := by
  refine wp_region_any hm ?_
  have hno : ∀ j, (Array.replicate ops.size false).getD j false = false := by
    intro j
    by_cases h : j < ops.size <;> simp [Array.getD, h]
  refine wpAny_inv D J hpl hsteps hend ops.size _ (fun _ => undef) a0 _ ⟨rfl, by simp, rfl, fun _ _ => rfl, fun j _ hj => ?_, ?_, fun k _ _ hl => ?_⟩ ?_ ?_
  · rw [hno] at hj; cases hj
  · have e : (fun j => (Array.replicate ops.size false).getD j false) = fun _ => false := funext hno
    rw [e]; exact h0
  · rw [hno] at hl; cases hl
  · intro h0
    cases hr : Region.ready .any ops (Array.replicate ops.size false) with
    | nil => rfl
    | cons y r =>
      have hy : y ∈ Region.ready .any ops (Array.replicate ops.size false) := by rw [hr]; simp
      have := (mem_ready hy).1
      omega
  · exact Nat.le_trans (List.countP_le_length) (by simp)
end Go.Proofs.Ythhagejcgobfgaa
