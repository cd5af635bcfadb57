/- Bytes in memory: slices that came in or are the call's own, read as lists of numbers; append onto a row of bytes of the call's own; bytes as a text. -/
import Derived.Test.YtipimcnjcpckeaaDoorChecked
import Derived.Test.YtipimcnjcpckeaaDoorHeap
import Derived.Laws.OwnMore
namespace Go.Proofs.YtipimcnjcpckeaaDoor
open Go.RowKit

/-- The cells of bytes. -/
def byteVals (l : List Nat) : List Value := l.map fun x : Nat => .int .u8 (x : Int)

theorem byteVals_length (l : List Nat) : (byteVals l).length = l.length := by simp [byteVals]
theorem byteVals_append (a b : List Nat) : byteVals (a ++ b) = byteVals a ++ byteVals b := by simp [byteVals]
theorem byteVals_one (l : List Nat) : ∀ u ∈ byteVals l, u.oneCell' = true := by
  intro u hu
  obtain ⟨x, _, rfl⟩ := List.mem_map.1 hu
  rfl
theorem byteVals_at (l : List Nat) (i : Nat) (h : i < l.length) : (byteVals l)[i]? = some (.int .u8 (l.getD i 0 : Nat)) := by
  simp [byteVals, List.getD, h]

theorem Tryd.info_u8 : (Tryd.prog.info? 5).map (fun i => (i.zero, i.size, i.bytes)) = some (some (.int .u8 0), 1, 1) := by kernel_rfl

/-- A slice of the bytes l that can be read. -/
def BytesArg (w : World) (v : Value) (l : List Nat) : Prop :=
  ∃ a cap, v = .slice a l.length cap ∧ l.length ≤ cap ∧ cap ≤ maxLen ∧ (a = none → cap = 0) ∧ (∀ x ∈ l, x < 256) ∧
    (0 < l.length → ∃ b off, a = some ⟨b, off, none⟩ ∧ b < w.heap.size ∧ ∀ i, i < l.length → w.cell? ⟨b, off + i, none⟩ = some (.int .u8 (l.getD i 0 : Nat)))

theorem BytesArg.kept {S : Nat → Prop} {w w' : World} {v : Value} {l : List Nat} (h : BytesArg w v l) (k : Kept S w w') (hs : ∀ i, i < w.heap.size → ¬ S i) : BytesArg w' v l := by
  obtain ⟨a, cap, rfl, h1, h2, h3, hl, hc⟩ := h
  refine ⟨a, cap, rfl, h1, h2, h3, hl, fun hpos => ?_⟩
  obtain ⟨b, off, rfl, hb, hcell⟩ := hc hpos
  exact ⟨b, off, rfl, Nat.lt_of_lt_of_le hb k.size, fun i hi => (World.cell?_of_block (k.block b hb (hs b hb))).trans (hcell i hi)⟩

theorem BytesArg.all {w w' : World} {v : Value} {l : List Nat} (h : BytesArg w v l) (k : Kept (fun _ => False) w w') : BytesArg w' v l := h.kept k (fun _ _ x => x)

theorem BytesArg.lt256 {w : World} {v : Value} {l : List Nat} (h : BytesArg w v l) : ∀ x ∈ l, x < 256 := by
  obtain ⟨a, cap, rfl, h1, h2, h3, hl, hc⟩ := h; exact hl

theorem BytesArg.nil (w : World) : BytesArg w (.slice none 0 0) [] := ⟨none, 0, rfl, Nat.le_refl _, Nat.zero_le _, fun _ => rfl, by simp, by simp⟩

theorem getD_lt {l : List Nat} (h : ∀ x ∈ l, x < 256) (i : Nat) : l.getD i 0 < 256 := by
  rw [List.getD]
  cases e : l[i]? with
  | none => simp
  | some x => simpa using h x (List.mem_of_getElem? e)

/-- A row of the call's own, of the bytes l; its block is B or above. -/
def Row (w : World) (B : Nat) (v : Value) (l : List Nat) : Prop := w.ownsRow B 5 1 v l.length (byteVals l) ∧ ∀ x ∈ l, x < 256

theorem Row.nil (w : World) (B : Nat) : Row w B (.slice none 0 0) [] := ⟨World.ownsRow_nil w B _ _, by simp⟩

theorem Row.lt {w : World} {B : Nat} {v : Value} {l : List Nat} (h : Row w B v l) : ∀ k, v.ownBlock = some k → B ≤ k ∧ k < w.heap.size := h.1.lt

theorem Row.kept {S : Nat → Prop} {w w' : World} {B : Nat} {v : Value} {l : List Nat} (h : Row w B v l) (k : Kept S w w') (hs : ∀ g, v.ownBlock = some g → ¬ S g) : Row w' B v l := by
  obtain ⟨⟨h0, h1⟩, h2⟩ := h
  refine ⟨⟨h0, ?_⟩, h2⟩
  rcases h1 with hn | ⟨g, cap, cur, rfl, hb, hg, rest⟩
  · exact .inl hn
  · exact .inr ⟨g, cap, cur, rfl, hb, k.at hg (hs g rfl), rest⟩

theorem Row.all {w w' : World} {B : Nat} {v : Value} {l : List Nat} (h : Row w B v l) (k : Kept (fun _ => False) w w') : Row w' B v l := h.kept k (fun _ _ x => x)

theorem Row.base {w : World} {B B' : Nat} {v : Value} {l : List Nat} (h : Row w B v l) (hb : B' ≤ B) : Row w B' v l := by
  obtain ⟨⟨h0, h1⟩, h2⟩ := h
  refine ⟨⟨h0, ?_⟩, h2⟩
  rcases h1 with hn | ⟨g, cap, cur, rfl, hb', rest⟩
  · exact .inl hn
  · exact .inr ⟨g, cap, cur, rfl, by omega, rest⟩

theorem Row.bytes {w : World} {B : Nat} {v : Value} {l : List Nat} (h : Row w B v l) : BytesArg w v l := by
  obtain ⟨h, h256⟩ := h
  rcases h.2 with ⟨rfl, h0⟩ | ⟨g, cap, cur, rfl, hb, hg, hc, hm, hs, ht⟩
  · have hl : l = [] := List.eq_nil_of_length_eq_zero h0
    subst hl; exact BytesArg.nil w
  · refine ⟨some ⟨g, 0, none⟩, cap, rfl, hc, hm, by simp, h256, fun hpos => ⟨g, 0, rfl, lt_of_heap hg, fun i hi => ?_⟩⟩
    rw [Nat.zero_add, h.cellAt i (by omega)]
    exact byteVals_at l i hi

theorem Row.of_new {w : World} {B g : Nat} {l : List Nat} (h : w.heap[g]? = some (.cells (byteVals l).toArray 5 (0, 0))) (hB : B ≤ g) (hm : l.length ≤ maxLen) (h256 : ∀ x ∈ l, x < 256) :
    Row w B (.slice (some ⟨g, 0, none⟩) l.length l.length) l := by
  refine ⟨⟨by rw [byteVals_length]; omega, .inr ⟨g, l.length, _, rfl, hB, h, Nat.le_refl _, hm, by simp [byteVals_length], ?_⟩⟩, h256⟩
  rw [List.take_of_length_le (by simp [byteVals_length])]

/-- What append leaves: a row of all of them. -/
def Appended (w w' : World) (B : Nat) (v v' : Value) (l : List Nat) : Prop := Row w' B v' l ∧ w.grownBy w' v.ownBlock

theorem run_append_bytes (w : World) (ty : TypeId) (B : Nat) (v x : Value) (l m : List Nat) (hown : Row w B v l) (hx : BytesArg w x m) (hl : l.length + m.length < 1099511627776) (hB : B ≤ w.heap.size) :
    ∃ v' w', (Builtin.append_ #[25, 25] ty #[v, x]).run Tryd.prog w = .ok v' w' ∧ Appended w w' B v v' (l ++ m) := by
  obtain ⟨i0, hi, hz0, hz1, hz2⟩ := info_parts Tryd.info_u8
  obtain ⟨a, cap, rfl, h1, h2, h3, h256, hc⟩ := hx
  have hall : ∀ y ∈ l ++ m, y < 256 := by
    intro y hy
    rcases List.mem_append.1 hy with h | h
    · exact hown.2 y h
    · exact h256 y h
  have hlm : l.length + m.length ≤ maxLen := by unfold maxLen; omega
  cases a with
  | none =>
    have hc0 := h3 rfl
    subst hc0
    have hm : m = [] := List.eq_nil_of_length_eq_zero (by omega)
    subst hm
    refine ⟨v, w, run_append_owned_none w B _ ty _ i0 1 Tryd.underlying25 hi v _ _ hown.1, ⟨by simpa using hown.1, hall⟩, ⟨rfl, rfl, rfl, Nat.le_refl _, fun _ _ _ => rfl⟩⟩
  | some ad =>
    have hcells : ∀ j u, (byteVals m)[j]? = some u → w.cell? (ad.add j) = some u := by
      intro j u hj
      have hjl : j < m.length := by
        have := (List.getElem?_eq_some_iff.1 hj).1
        rwa [byteVals_length] at this
      obtain ⟨b, off, he, hb, hcell⟩ := hc (by omega)
      cases he
      rw [Addr.add_lit, hcell j hjl, ← hj, byteVals_at m j hjl]
    obtain ⟨v', w', hr, ho, hg, _⟩ := run_append_own (P := Tryd.prog) w B 25 ty 5 i0 (.int .u8 0) 1 1 Tryd.underlying25 hi hz0 hz1 hz2 rfl (by decide) v l.length (byteVals l) hown.1 ad m.length cap (byteVals m)
      (by rw [byteVals_length]; omega) hcells (byteVals_one m) hlm (by omega) hB
    refine ⟨v', w', hr, ⟨?_, hall⟩, hg⟩
    rw [List.length_append, byteVals_append]; exact ho

/-- The numbers of a text's letters. -/
def lettersOf (s : ByteArray) : List Nat := s.data.toList.map fun c => c.toNat

set_option maxRecDepth 100000 in
theorem lettersOf_lt (s : ByteArray) : ∀ x ∈ lettersOf s, x < 256 := by
  intro x hx
  obtain ⟨c, _, rfl⟩ := List.mem_map.1 hx
  exact c.toNat_lt

theorem lettersOf_length (s : ByteArray) : (lettersOf s).length = s.size := by unfold lettersOf; rw [List.length_map, Array.length_toList]; rfl

theorem letters_cells (s : ByteArray) : (s.extract 0 s.size).data.map (fun b => Value.int .u8 b.toNat) = (byteVals (lettersOf s)).toArray := by
  have e : s.extract 0 s.size = s := ByteArray.extract_zero_size
  rw [e]
  apply Array.ext'
  simp [byteVals, lettersOf]

/-- append of a text's letters. -/
theorem run_append_letters (w : World) (ty : TypeId) (B : Nat) (v : Value) (l : List Nat) (s : ByteArray) (hown : Row w B v l) (h0 : 0 < s.size) (hl : l.length + s.size < 1099511627776) (hB : B ≤ w.heap.size) :
    ∃ v' w', (Builtin.append_ #[25, 9] ty #[v, .string s]).run Tryd.prog w = .ok v' w' ∧ Appended w w' B v v' (l ++ lettersOf s) := by
  obtain ⟨i0, hi, hz0, hz1, hz2⟩ := info_parts Tryd.info_u8
  obtain ⟨hrow, h256⟩ := hown
  have hall : ∀ y ∈ l ++ lettersOf s, y < 256 := by
    intro y hy
    rcases List.mem_append.1 hy with h | h
    · exact h256 y h
    · exact lettersOf_lt s y h
  have hLL : (l ++ lettersOf s).length = l.length + s.size := by rw [List.length_append, lettersOf_length]
  have hlen : (byteVals l ++ byteVals (lettersOf s)).length = (l.length + s.size) * 1 := by rw [List.length_append, byteVals_length, byteVals_length, lettersOf_length]; omega
  have grown : ∀ (old : Nat) (row : Option Nat),
      (w.drew.alloc (.cells ((byteVals l).toArray ++ (byteVals (lettersOf s)).toArray ++ Builtin.zeroCells (Value.int .u8 0).cells (grownCap w (l.length + s.size) old 5 - (l.length + s.size))) 5)).ownsRow B 5 1
        (.slice (some ⟨w.heap.size, 0, none⟩) (l.length + s.size) (grownCap w (l.length + s.size) old 5)) (l.length + s.size) (byteVals l ++ byteVals (lettersOf s)) ∧
      w.grownBy (w.drew.alloc (.cells ((byteVals l).toArray ++ (byteVals (lettersOf s)).toArray ++ Builtin.zeroCells (Value.int .u8 0).cells (grownCap w (l.length + s.size) old 5 - (l.length + s.size))) 5)) row := by
    intro old row
    have hge := grownCap_ge w (l.length + s.size) old 5
    have hcm : grownCap w (l.length + s.size) old 5 ≤ maxLen := grownCap_le_maxLen w (l.length + s.size) old _ (by unfold maxLen; omega)
    refine ⟨⟨hlen, .inr ⟨w.heap.size, _, _, rfl, hB, heap_alloc_new w.drew _, hge, hcm, ?_, ?_⟩⟩, ⟨rfl, rfl, rfl, by simp, fun k hk _ => Below.heap_alloc w.drew _ k hk⟩⟩
    · have hz : (Value.int .u8 0).cells.size = 1 := rfl
      simp only [Array.size_append, List.size_toArray, size_zeroCells, hz, byteVals_length, lettersOf_length]
      omega
    · simp only [Array.toList_append, List.append_assoc]
      rw [← List.append_assoc, ← hlen]
      exact List.take_left
  rcases hrow.2 with ⟨rfl, hn0⟩ | ⟨g, cap, cur, rfl, hbg, hg, hnc, hcm, hcs, htake⟩
  · have hx : l = [] := List.eq_nil_of_length_eq_zero hn0
    subst hx
    have hr := run_append_nil_string (P := Tryd.prog) w 25 9 ty 5 i0 (.int .u8 0) Tryd.underlying25 Tryd.underlying9 hi hz0 s h0 (by omega) (by rw [hz2]; simp at hl; omega)
    have hgr := grown 0 none
    have e1 : s.data.map (fun b => Value.int .u8 b.toNat) = (byteVals (lettersOf s)).toArray := by rw [← letters_cells]; simp
    rw [e1] at hr
    simp only [List.length_nil, Nat.zero_add] at hgr
    have hbn : byteVals [] = [] := rfl
    rw [hbn, List.nil_append] at hgr
    have hgr2 := hgr.1
    simp only [Array.empty_append] at hgr hgr2
    refine ⟨_, _, hr, ⟨?_, hall⟩, hgr.2⟩
    simp only [List.nil_append, lettersOf_length]
    exact hgr2
  · by_cases hroom : l.length + s.size ≤ cap
    · have hfit : l.length * i0.size + (byteVals (lettersOf s)).length ≤ cur.size := by rw [hz1, byteVals_length, lettersOf_length, hcs]; omega
      have hst := run_storeCells_at Tryd.prog g (l.length * i0.size) 5 (byteVals (lettersOf s)) 0 cur w hg (by simpa using hfit) (byteVals_one _)
      simp only [Nat.add_zero] at hst
      have hr : (Builtin.append_ #[25, 9] ty #[.slice (some ⟨g, 0, none⟩) l.length cap, .string s]).run Tryd.prog w =
          .ok (.slice (some ⟨g, 0, none⟩) (l.length + s.size) cap) (w.setRow g (cur.toList.take (l.length * i0.size) ++ byteVals (lettersOf s) ++ cur.toList.drop (l.length * i0.size + (byteVals (lettersOf s)).length)).toArray) := by
        have hf : (Builtin.firstCells i0.size s.size (.string s)) = pure (byteVals (lettersOf s)).toArray := by rw [← letters_cells]; rfl
        simp [Builtin.append_, run_underlying Tryd.underlying25, run_underlying Tryd.underlying9, sizeOf, typeInfo, hi, Builtin.lenOf, hroom, hf, Addr.add_lit, hst]
      refine ⟨_, _, hr, ⟨⟨?_, .inr ⟨g, cap, _, ?_, hbg, setRow_heap w g cur _ _ _ hg, by rw [hLL]; exact hroom, hcm, ?_, ?_⟩⟩, hall⟩, ⟨rfl, rfl, rfl, by simp, fun k _ hk => setRow_other w g k _ (fun e => hk (by simp [Value.ownBlock, e]))⟩⟩
      · rw [byteVals_length]; omega
      · rw [hLL]
      · simp only [List.size_toArray, List.length_append, List.length_take, List.length_drop, Array.length_toList, hz1]
        rw [hz1] at hfit
        omega
      · rw [hz1, htake, byteVals_append, hLL, ← hlen]
        exact List.take_left
    · have hnn : ¬ (9223372036854775807 < ((l.length : Int) + (s.size : Int))) := by omega
      have hfits := growslice_fits (need := l.length + s.size) (old := cap) (bytes := 1) (by omega) (by omega)
      have h48' : ¬ (281474976710656 < Builtin.nextslicecap (l.length + s.size) cap * i0.bytes) := by rw [hz2]; omega
      have hfo := run_firstCells_some (P := Tryd.prog) w.drew i0.size l.length ⟨g, 0, none⟩ l.length cap (byteVals l) (by rw [hz1, byteVals_length]; omega) (by simpa using hrow.cells (g := g) rfl)
      have hr : (Builtin.append_ #[25, 9] ty #[.slice (some ⟨g, 0, none⟩) l.length cap, .string s]).run Tryd.prog w =
          .ok (.slice (some ⟨w.heap.size, 0, none⟩) (l.length + s.size) (grownCap w (l.length + s.size) cap 5))
            (w.drew.alloc (.cells ((byteVals l).toArray ++ (byteVals (lettersOf s)).toArray ++ Builtin.zeroCells (Value.int .u8 0).cells (grownCap w (l.length + s.size) cap 5 - (l.length + s.size))) 5)) := by
        have hf : (Builtin.firstCells i0.size s.size (.string s)) = pure (byteVals (lettersOf s)).toArray := by rw [← letters_cells]; rfl
        simp [Builtin.append_, run_underlying Tryd.underlying25, run_underlying Tryd.underlying9, sizeOf, typeInfo, zeroValue, hi, hz0, Builtin.lenOf, hroom, hnn, h48', Question.forced, hf, hfo, newRow, grownCap]
        congr 2
        apply Array.ext'
        simp [List.append_assoc]
      have hgr := grown cap (Value.ownBlock (.slice (some ⟨g, 0, none⟩) l.length cap))
      refine ⟨_, _, hr, ⟨?_, hall⟩, hgr.2⟩
      rw [hLL, byteVals_append]; exact hgr.1

theorem wpList_append_bytes (w : World) {ops : Array Oper} {rest : List Oper} {o : Oper} {a : Act} {Q : Exit → Act → World → Prop} (hgd : o.guard = none) (s x : Operand)
    (ho : o.op = .call { callee := .builtin .append, args := #[s, x], argTypes := #[25, 25] })
    (B : Nat) (v y : Value) (l m : List Nat) (hs : a.eval s = v) (hown : Row w B v l) (hx : a.eval x = y) (hy : BytesArg w y m) (hl : l.length + m.length < 1099511627776) (hB : B ≤ w.heap.size)
    (h : ∀ v' w', Appended w w' B v v' (l ++ m) → wpList Tryd.prog ops Q rest (a.put o.dst v') w') : wpList Tryd.prog ops Q (o :: rest) a w := by
  refine wpList_plain hgd fun K hK => ?_
  obtain ⟨v', w', hr, h2⟩ := run_append_bytes w o.type B v y l m hown hy hl hB
  unfold Oper.wp execOp
  simp only [ho, resolve, invoke, builtin, Sem.run_bind, Sem.run_pure, Result.andThen_ok, List.map_toArray, List.map_cons, List.map_nil, hs, hx, hr]
  exact hK _ _ (h v' w' h2)

theorem wpList_append_letters (w : World) {ops : Array Oper} {rest : List Oper} {o : Oper} {a : Act} {Q : Exit → Act → World → Prop} (hgd : o.guard = none) (s x : Operand)
    (ho : o.op = .call { callee := .builtin .append, args := #[s, x], argTypes := #[25, 9] })
    (B : Nat) (v : Value) (t : ByteArray) (l : List Nat) (hs : a.eval s = v) (hown : Row w B v l) (hx : a.eval x = .string t) (h0 : 0 < t.size) (hl : l.length + t.size < 1099511627776) (hB : B ≤ w.heap.size)
    (h : ∀ v' w', Appended w w' B v v' (l ++ lettersOf t) → wpList Tryd.prog ops Q rest (a.put o.dst v') w') : wpList Tryd.prog ops Q (o :: rest) a w := by
  refine wpList_plain hgd fun K hK => ?_
  obtain ⟨v', w', hr, h2⟩ := run_append_letters w o.type B v l t hown h0 hl hB
  unfold Oper.wp execOp
  simp only [ho, resolve, invoke, builtin, Sem.run_bind, Sem.run_pure, Result.andThen_ok, List.map_toArray, List.map_cons, List.map_nil, hs, hx, hr]
  exact hK _ _ (h v' w' h2)

/-- A byte that lies in a block of its own. -/
theorem BytesArg.box (w : World) (c : Nat) (h : c < 256) : BytesArg (w.alloc (.cells #[.int .u8 (c : Int)] 5)) (.slice (some ⟨w.heap.size, 0, none⟩) 1 1) [c] := by
  refine ⟨_, 1, rfl, Nat.le_refl _, by unfold maxLen; omega, by simp, by simpa using h, fun _ => ⟨w.heap.size, 0, rfl, by simp, fun i hi => ?_⟩⟩
  have hi0 : i = 0 := by simpa using hi
  subst hi0
  simp

/-- Behind w0 there is a row of the bytes l; of what was there in w0 nothing has turned. -/
def Own (w0 w : World) (v : Value) (l : List Nat) : Prop := Row w w0.heap.size v l ∧ Kept (fun _ => False) w0 w

theorem Own.nil {w0 w : World} (k : Kept (fun _ => False) w0 w) : Own w0 w (.slice none 0 0) [] := ⟨Row.nil w _, k⟩

theorem Own.all {w0 w w' : World} {v : Value} {l : List Nat} (h : Own w0 w v l) (k : Kept (fun _ => False) w w') : Own w0 w' v l := ⟨h.1.all k, h.2.trans k (fun _ _ x => x)⟩

theorem Own.appended {w0 w w' : World} {v v' : Value} {l m : List Nat} (h : Own w0 w v l) (ha : Appended w w' w0.heap.size v v' m) : Own w0 w' v' m :=
  ⟨ha.1, h.2.grown ha.2 (fun k hk hlt => by have := (h.1.lt k hk).1; omega)⟩

/-- The text of bytes. -/
def textOf (l : List Nat) : ByteArray := (l.map fun n : Nat => (n : Int)).foldl (fun r n => r.push (UInt8.ofNat n.toNat)) ByteArray.empty

theorem textOf_toList (l : List Nat) : (textOf l).data.toList = l.map UInt8.ofNat := by
  have key : ∀ (l : List Nat) (r : ByteArray), ((l.map fun n : Nat => (n : Int)).foldl (fun r n => r.push (UInt8.ofNat n.toNat)) r).data.toList = r.data.toList ++ l.map UInt8.ofNat := by
    intro l
    induction l with
    | nil => intro r; simp
    | cons c t ih =>
      intro r
      simp only [List.map_cons, List.foldl_cons, Int.toNat_natCast]
      rw [ih]; simp [ByteArray.push]
  unfold textOf; rw [key]; simp

theorem textOf_inj {l m : List Nat} (hl : ∀ x ∈ l, x < 256) (hm : ∀ x ∈ m, x < 256) (h : textOf l = textOf m) : l = m := by
  have e : l.map UInt8.ofNat = m.map UInt8.ofNat := by rw [← textOf_toList, ← textOf_toList, h]
  have back : ∀ k : List Nat, (∀ x ∈ k, x < 256) → (k.map UInt8.ofNat).map UInt8.toNat = k := by
    intro k hk
    rw [List.map_map]
    conv => rhs; rw [← List.map_id k]
    apply List.map_congr_left
    intro x hx
    have := hk x hx
    simp; omega
  rw [← back l hl, ← back m hm, e]

theorem textOf_size (l : List Nat) : (textOf l).size = l.length := by
  have h := congrArg List.length (textOf_toList l)
  rw [List.length_map, Array.length_toList] at h
  exact h

theorem toList_data (s : ByteArray) : s.toList = s.data.toList := by
  have := Go.ByteArray.toList_eq s
  exact this

/-- Whether two texts are alike. -/
theorem textOf_beq {l m : List Nat} (hl : ∀ x ∈ l, x < 256) (hm : ∀ x ∈ m, x < 256) : ((textOf l).toList == (textOf m).toList) = decide (l = m) := by
  by_cases h : l = m
  · subst h; simp
  · have : (textOf l).toList ≠ (textOf m).toList := fun e => by
      rw [toList_data, toList_data] at e
      exact h (textOf_inj hl hm (by
        have e2 := congrArg List.toArray e
        simp only [Array.toArray_toList] at e2
        generalize textOf l = x at e2 ⊢
        generalize textOf m = y at e2 ⊢
        cases x; cases y; cases e2; rfl))
    simp [h, this]

theorem BytesArg.text {w : World} {v : Value} {l : List Nat} (h : BytesArg w v l) : (convert 25 9 v).run Tryd.prog w = .ok (.string (textOf l)) w := by
  obtain ⟨a, cap, rfl, h1, h2, h3, h256, hc⟩ := h
  rw [run_convert_bytes_string w 25 9 5 _ _ _ Tryd.underlying25 Tryd.underlying5 Tryd.underlying9]
  cases a with
  | none =>
    have hc0 := h3 rfl
    subst hc0
    have hl : l = [] := List.eq_nil_of_length_eq_zero (by omega)
    subst hl
    simp [Conv.bytesToString, textOf]
  | some ad =>
    have hl := run_loadCells_list (P := Tryd.prog) w ad (byteVals l) (by
      intro j u hj
      have hjl : j < l.length := by
        have := (List.getElem?_eq_some_iff.1 hj).1
        rwa [byteVals_length] at this
      obtain ⟨b, off, he, hb, hcell⟩ := hc (by omega)
      cases he
      rw [Addr.add_lit, hcell j hjl, ← hj, byteVals_at l j hjl])
    rw [byteVals_length] at hl
    have e : (byteVals l).toArray = ((l.map fun n : Nat => (n : Int)).map (Value.int .u8)).toArray := by simp [byteVals]
    rw [e] at hl
    exact run_bytesToString w ad l.length cap _ hl
end Go.Proofs.YtipimcnjcpckeaaDoor
