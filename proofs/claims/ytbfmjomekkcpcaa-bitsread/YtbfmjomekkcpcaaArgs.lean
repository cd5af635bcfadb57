/- Bytes that came in; a reader of the law's own. -/
import Derived.Test.YtbfmjomekkcpcaaTwo
import Derived.OpenShut
namespace Go.Proofs.Ytbfmjomekkcpcaa
open Go.RowKit

/-- A slice of bytes that came in. -/
def BytesArg (w : World) (v : Value) (l : List Nat) : Prop :=
  ∃ a cap, v = .slice a l.length cap ∧ (∀ x ∈ l, x < 256) ∧ (0 < l.length → ∃ b off, a = some ⟨b, off, none⟩ ∧ b < w.heap.size ∧ ∀ i, i < l.length → w.cell? ⟨b, off + i, none⟩ = some (.int .u8 (l.getD i 0 : Nat)))

theorem BytesArg.of_row {w : World} {a : Option Addr} {len cap : Nat} {zs : List Int}
    (h : (a = none ∧ len = 0 ∧ cap = 0 ∧ zs = []) ∨ ∃ x, a = some x ∧ len ≤ cap ∧ cap ≤ maxLen ∧ zs.length = cap ∧ (∀ i, i < zs.length → w.cell? (x.add i) = some (.int .u8 (zs.getD i 0))) ∧ ∀ n ∈ zs, (Lit.int .u8 n).wf = true) :
    ∃ l : List Nat, l.length = len ∧ BytesArg w (.slice a len cap) l := by
  rcases h with ⟨rfl, rfl, rfl, rfl⟩ | ⟨x, rfl, hlc, hcm, hz, hcell, hwf⟩
  · exact ⟨[], rfl, none, 0, rfl, by simp, by simp⟩
  · refine ⟨(zs.take len).map Int.toNat, by simp; omega, some x, cap, by simp; omega, ?_, ?_⟩
    · intro y hy
      obtain ⟨z, hz1, rfl⟩ := List.mem_map.1 hy
      have := bounds_u8 (hwf z (List.mem_of_mem_take hz1))
      omega
    · intro hpos
      have hpos' : 0 < zs.length := by simp at hpos; omega
      obtain ⟨b, off, rfl, hc⟩ := ints_at hcell hpos'
      refine ⟨b, off, rfl, World.block_lt_of_cell? w _ (hc 0 hpos'), fun i hi => ?_⟩
      have hi' : i < zs.length := by simp at hi; omega
      rw [hc i hi']
      have hwi := bounds_u8 (hwf zs[i] (List.getElem_mem hi'))
      have hil : i < len := by simp at hi; omega
      simp [List.getD, hi', hil]
      omega

theorem BytesArg.kept {S : Nat → Prop} {w w' : World} {v : Value} {l : List Nat} (h : BytesArg w v l) (k : Kept S w w') (hs : ∀ i, i < w.heap.size → ¬ S i) : BytesArg w' v l := by
  obtain ⟨a, cap, rfl, hl, hc⟩ := h
  refine ⟨a, cap, rfl, hl, fun hpos => ?_⟩
  obtain ⟨b, off, rfl, hb, hcell⟩ := hc hpos
  exact ⟨b, off, rfl, Nat.lt_of_lt_of_le hb k.size, fun i hi => (World.cell?_of_block (k.block b hb (hs b hb))).trans (hcell i hi)⟩

theorem BytesArg.slice {w : World} {v : Value} {l : List Nat} (h : BytesArg w v l) : SliceOf w v l := by
  obtain ⟨a, cap, rfl, hl, hc⟩ := h
  refine ⟨a, cap, rfl, fun hpos => ?_⟩
  obtain ⟨b, off, rfl, hb, hcell⟩ := hc hpos
  refine ⟨⟨b, off, none⟩, rfl, fun j u hj => ?_⟩
  have hjl : j < l.length := by
    have := (List.getElem?_eq_some_iff.1 hj).1
    rwa [byteVals_length] at this
  rw [Addr.add_lit, hcell j hjl]
  rw [← hj]; simp [byteVals, List.getD, hjl]

theorem BytesArg.fair {w : World} {v : Value} {l : List Nat} (h : BytesArg w v l) (hl : l.length < 1099511627776) : Fair l := by
  obtain ⟨a, cap, rfl, hx, hc⟩ := h
  exact ⟨hx, hl⟩

/-- A reader that was made behind w0; of what was there in w0 nothing has turned. -/
def Rdr (w0 w : World) (p g : Nat) (l : List Nat) (st : Option Nat) : Prop := RdIs w p g l st ∧ w0.heap.size ≤ p ∧ w0.heap.size ≤ g ∧ Kept (fun _ => False) w0 w

theorem Rdr.done {w0 w w' : World} {p g : Nat} {l : List Nat} {st : Option Nat} {r : Int × Option Nat} {e : Ending} (h : Rdr w0 w p g l st) (hd : RdDone w p g l r e w') : e = .returned (.int .i64 r.1) ∧ Rdr w0 w' p g l r.2 := by
  obtain ⟨h1, h2, h3⟩ := hd
  exact ⟨h1, h2, h.2.1, h.2.2.1, h.2.2.2.trans h3 (fun i hi x => by have := h.2.1; omega)⟩

theorem Rdr.kept {w0 w w' : World} {p g : Nat} {l : List Nat} {st : Option Nat} (h : Rdr w0 w p g l st) (k : Kept (fun _ => False) w w') : Rdr w0 w' p g l st :=
  ⟨h.1.kept k id id, h.2.1, h.2.2.1, h.2.2.2.trans k (fun _ _ x => x)⟩

theorem rbit_rdr {w0 w : World} {p g : Nat} {l : List Nat} {st : Option Nat} (hl : Fair l) (h : Rdr w0 w p g l st) :
    Calls Try.prog 22 #[.pointer (some ⟨p, 0, none⟩)] w fun e w' => e = .returned (.int .i64 (rdStep (nextAt l) st).1) ∧ Rdr w0 w' p g l (rdStep (nextAt l) st).2 :=
  (rbit_any p g l st w hl h.1).mono fun _ _ hd => h.done hd

theorem rfixed_rdr {w0 w : World} {p g : Nat} {l : List Nat} {st : Option Nat} (m : Int) (hl : Fair l) (h : Rdr w0 w p g l st) :
    Calls Try.prog 24 #[.pointer (some ⟨p, 0, none⟩), .int .i64 m] w fun e w' => e = .returned (.int .i64 (rdStep (fixedRd l m) st).1) ∧ Rdr w0 w' p g l (rdStep (fixedRd l m) st).2 :=
  (rfixed_any p g l st m w hl h.1).mono fun _ _ hd => h.done hd

theorem rwhole_rdr {w0 w : World} {p g : Nat} {l : List Nat} {st : Option Nat} (m : Int) (hl : Fair l) (h : Rdr w0 w p g l st) :
    Calls Try.prog 25 #[.pointer (some ⟨p, 0, none⟩), .int .i64 m] w fun e w' => e = .returned (.int .i64 (rdStep (wholeRd l m) st).1) ∧ Rdr w0 w' p g l (rdStep (wholeRd l m) st).2 :=
  (rwhole_any p g l st m w hl h.1).mono fun _ _ hd => h.done hd

theorem rsigned_rdr {w0 w : World} {p g : Nat} {l : List Nat} {st : Option Nat} (m : Int) (hl : Fair l) (h : Rdr w0 w p g l st) :
    Calls Try.prog 27 #[.pointer (some ⟨p, 0, none⟩), .int .i64 m] w fun e w' => e = .returned (.int .i64 (rdStep (signedRd l m) st).1) ∧ Rdr w0 w' p g l (rdStep (signedRd l m) st).2 :=
  (rsigned_any p g l st m w hl h.1).mono fun _ _ hd => h.done hd

theorem done_rdr {w0 w : World} {p g : Nat} {l : List Nat} {st : Option Nat} (hl : Fair l) (h : Rdr w0 w p g l st) :
    Calls Try.prog 30 #[.pointer (some ⟨p, 0, none⟩)] w fun e w' => e = .returned (.int .i64 (doneOf l st)) ∧ Rdr w0 w' p g l st :=
  (done_any p g l st w hl h.1).mono fun _ _ ⟨a, n, b⟩ => ⟨a, by subst b; exact h.kept ((Kept.refl _ _).drewN n)⟩

theorem new_rdr {w0 w : World} {v : Value} {l : List Nat} (hl : l.length < 1099511627776) (hs : SliceOf w v l) (hk : Kept (fun _ => False) w0 w) :
    Calls Try.prog 20 #[v] w fun e w' => ∃ p g, e = .returned (.pointer (some ⟨p, 0, none⟩)) ∧ Rdr w0 w' p g l (some 0) ∧ w.heap.size ≤ p ∧ w.heap.size ≤ g ∧ Kept (fun _ => False) w w' :=
  (new_any v l w hl hs).mono fun _ _ ⟨p, g, a, b, c, d, k⟩ => ⟨p, g, a, ⟨b, by have := hk.size; omega, by have := hk.size; omega, hk.trans k (fun _ _ x => x)⟩, c, d, k⟩

end Go.Proofs.Ytbfmjomekkcpcaa
