/- Writers of the law's own, one alone and two side by side, over all that the law has written so far. -/
import Derived.Test.YtipimcnjcpckeaaDoorWrA
namespace Go.Proofs.YtipimcnjcpckeaaDoor
open Go.RowKit

/-- A writer that was made behind w0; of what was there in w0 nothing has turned. -/
def One (w0 w : World) (p : Nat) (bs : List Bool) : Prop :=
  ∃ r, WrIs w p r bs ∧ (∀ i, WrFoot p r i → w0.heap.size ≤ i) ∧ Kept (fun _ => False) w0 w

theorem One.step {w0 w : World} {p : Nat} {bs : List Bool} (h : One w0 w p bs) : ∃ r, WrIs w p r bs ∧ ∀ w' bs', Wrote w w' p r bs' → One w0 w' p bs' := by
  obtain ⟨r, h1, h2, h3⟩ := h
  refine ⟨r, h1, fun w' bs' hw => ?_⟩
  obtain ⟨r', g1, g2, g3⟩ := hw
  refine ⟨r', g1, ?_, h3.trans g3 (fun i hi hf => by have := h2 i hf; omega)⟩
  intro i hi
  rcases hi with rfl | hi
  · exact h2 _ (.inl rfl)
  · rcases g2 with rfl | ⟨g, rfl, hg⟩
    · exact h2 i (.inr hi)
    · simp at hi; have := h3.size; omega

theorem One.new {w0 w : World} (h : Kept (fun _ => False) w0 w) : One w0 (w.alloc (.cells #[.slice none 0 0, .int .i64 0] 27)) w.heap.size [] := by
  refine ⟨none, WrIs.new w, ?_, h.alloc _⟩
  intro i hi
  rcases hi with rfl | hi
  · exact h.size
  · cases hi

theorem One.kept {w0 w w' : World} {p : Nat} {bs : List Bool} (h : One w0 w p bs) (k : Kept (fun _ => False) w w') : One w0 w' p bs := by
  obtain ⟨r, h1, h2, h3⟩ := h
  exact ⟨r, h1.kept k (fun _ _ x => x), h2, h3.trans k (fun _ _ x => x)⟩

theorem One.all {w0 w : World} {p : Nat} {bs : List Bool} (h : One w0 w p bs) : Kept (fun _ => False) w0 w := by
  obtain ⟨r, h1, h2, h3⟩ := h; exact h3

/-- Two writers, side by side. -/
def Two (w0 w : World) (p q : Nat) (bs cs : List Bool) : Prop :=
  ∃ r s, WrIs w p r bs ∧ WrIs w q s cs ∧ (∀ i, WrFoot p r i → w0.heap.size ≤ i) ∧ (∀ i, WrFoot q s i → w0.heap.size ≤ i) ∧ (∀ i, WrFoot p r i → ¬ WrFoot q s i) ∧ Kept (fun _ => False) w0 w

theorem Two.swap {w0 w : World} {p q : Nat} {bs cs : List Bool} (h : Two w0 w p q bs cs) : Two w0 w q p cs bs := by
  obtain ⟨r, s, h1, h2, h3, h4, h5, h6⟩ := h
  exact ⟨s, r, h2, h1, h4, h3, fun i a b => h5 i b a, h6⟩

theorem Two.step {w0 w : World} {p q : Nat} {bs cs : List Bool} (h : Two w0 w p q bs cs) : ∃ r, WrIs w p r bs ∧ ∀ w' bs', Wrote w w' p r bs' → Two w0 w' p q bs' cs := by
  obtain ⟨r, s, h1, h2, h3, h4, h5, h6⟩ := h
  refine ⟨r, h1, fun w' bs' hw => ?_⟩
  obtain ⟨r', g1, g2, g3⟩ := hw
  refine ⟨r', s, g1, h2.kept g3 (fun i hi hf => h5 i hf hi), ?_, h4, ?_, h6.trans g3 (fun i hi hf => by have := h3 i hf; omega)⟩
  · intro i hi
    rcases hi with rfl | hi
    · exact h3 _ (.inl rfl)
    · rcases g2 with rfl | ⟨g, rfl, hg⟩
      · exact h3 i (.inr hi)
      · simp at hi; have := h6.size; omega
  · intro i hi hf
    rcases hi with rfl | hi
    · exact h5 _ (.inl rfl) hf
    · rcases g2 with rfl | ⟨g, rfl, hg⟩
      · exact h5 i (.inr hi) hf
      · have := h2.foot_lt hf; simp at hi; omega

theorem Two.new {w0 w : World} (h : Kept (fun _ => False) w0 w) :
    Two w0 ((w.alloc (.cells #[.slice none 0 0, .int .i64 0] 27)).alloc (.cells #[.slice none 0 0, .int .i64 0] 27)) w.heap.size (w.heap.size + 1) [] [] := by
  have h2 := WrIs.new (w.alloc (.cells #[.slice none 0 0, .int .i64 0] 27))
  have e : (w.alloc (.cells #[.slice none 0 0, .int .i64 0] 27)).heap.size = w.heap.size + 1 := by simp
  rw [e] at h2
  refine ⟨none, none, (WrIs.new w).kept ((Kept.refl (fun _ => False) _).alloc _) (fun _ _ x => x), h2, ?_, ?_, ?_, (h.alloc _).alloc _⟩
  · intro i hi
    rcases hi with rfl | hi
    · exact h.size
    · cases hi
  · intro i hi
    rcases hi with rfl | hi
    · have := h.size; omega
    · cases hi
  · intro i hi hf
    rcases hi with rfl | hi
    · rcases hf with h | h
      · omega
      · cases h
    · cases hi

theorem Two.kept {w0 w w' : World} {p q : Nat} {bs cs : List Bool} (h : Two w0 w p q bs cs) (k : Kept (fun _ => False) w w') : Two w0 w' p q bs cs := by
  obtain ⟨r, s, h1, h2, h3, h4, h5, h6⟩ := h
  exact ⟨r, s, h1.kept k (fun _ _ x => x), h2.kept k (fun _ _ x => x), h3, h4, h5, h6.trans k (fun _ _ x => x)⟩

theorem Two.all {w0 w : World} {p q : Nat} {bs cs : List Bool} (h : Two w0 w p q bs cs) : Kept (fun _ => False) w0 w := by
  obtain ⟨r, s, h1, h2, h3, h4, h5, h6⟩ := h; exact h6

theorem Two.left {w0 w : World} {p q : Nat} {bs cs : List Bool} (h : Two w0 w p q bs cs) : One w0 w p bs := by
  obtain ⟨r, s, h1, h2, h3, h4, h5, h6⟩ := h; exact ⟨r, h1, h3, h6⟩

/- The writer's calls, over One and Two. -/

theorem many_one {w0 w : World} {p : Nat} {bs : List Bool} (h : One w0 w p bs) :
    Calls Tryd.prog 14 #[.pointer (some ⟨p, 0, none⟩)] w fun e w' => e = .returned (.int .i64 (bs.length : Int)) ∧ w = w' := by
  obtain ⟨r, h1, h2, h3⟩ := h; exact many_any p r bs w h1

theorem bytes_one {w0 w : World} {p : Nat} {bs : List Bool} (h : One w0 w p bs) (hm : bs.length < 1099511627776) :
    Calls Tryd.prog 15 #[.pointer (some ⟨p, 0, none⟩)] w fun e w' => NewBytes w w' (pack bs) e := by
  obtain ⟨r, h1, h2, h3⟩ := h; exact bytes_any p r bs w hm h1

theorem bit_two {w0 w : World} {p q : Nat} {bs cs : List Bool} (b : Int) (h : Two w0 w p q bs cs) (hm : bs.length < 1099511627776) :
    Calls Tryd.prog 39 #[.pointer (some ⟨p, 0, none⟩), .int .i64 b] w fun e w' => e = .returned (.tuple #[]) ∧ Two w0 w' p q (bs ++ [lowBit b]) cs := by
  obtain ⟨r, h1, h2⟩ := h.step
  exact (bit_any p r bs b w hm h1).mono fun e w' ⟨a, b⟩ => ⟨a, h2 _ _ b⟩

theorem fixed_two {w0 w : World} {p q : Nat} {bs cs : List Bool} (n k : Int) (h : Two w0 w p q bs cs) (h0 : 0 ≤ k) (h1 : k ≤ 32) (hm : bs.length + 32 < 1099511627776) :
    Calls Tryd.prog 41 #[.pointer (some ⟨p, 0, none⟩), .int .i64 n, .int .i64 k] w fun e w' => e = .returned (.tuple #[]) ∧ Two w0 w' p q (bs ++ fixedBits n k.toNat) cs := by
  obtain ⟨r, g1, g2⟩ := h.step
  exact (fixed_int p r bs n k w h0 h1 hm g1).mono fun e w' ⟨a, b⟩ => ⟨a, g2 _ _ b⟩

theorem signed_two {w0 w : World} {p q : Nat} {bs cs : List Bool} (n : Int) (h : Two w0 w p q bs cs) (hm : bs.length + 64 < 1099511627776) :
    Calls Tryd.prog 25 #[.pointer (some ⟨p, 0, none⟩), .int .i64 n] w fun e w' => e = .returned (.tuple #[]) ∧ Two w0 w' p q (bs ++ signedBits n) cs := by
  obtain ⟨r, g1, g2⟩ := h.step
  exact (signed_any p r bs n w hm g1).mono fun e w' ⟨a, b⟩ => ⟨a, g2 _ _ b⟩

theorem bit_one {w0 w : World} {p : Nat} {bs : List Bool} (b : Int) (h : One w0 w p bs) (hm : bs.length < 1099511627776) :
    Calls Tryd.prog 39 #[.pointer (some ⟨p, 0, none⟩), .int .i64 b] w fun e w' => e = .returned (.tuple #[]) ∧ One w0 w' p (bs ++ [lowBit b]) := by
  obtain ⟨r, h1, h2⟩ := h.step
  exact (bit_any p r bs b w hm h1).mono fun e w' ⟨a, b⟩ => ⟨a, h2 _ _ b⟩

theorem fixed_one {w0 w : World} {p : Nat} {bs : List Bool} (n k : Int) (h : One w0 w p bs) (h0 : 0 ≤ k) (h1 : k ≤ 32) (hm : bs.length + 32 < 1099511627776) :
    Calls Tryd.prog 41 #[.pointer (some ⟨p, 0, none⟩), .int .i64 n, .int .i64 k] w fun e w' => e = .returned (.tuple #[]) ∧ One w0 w' p (bs ++ fixedBits n k.toNat) := by
  obtain ⟨r, g1, g2⟩ := h.step
  exact (fixed_int p r bs n k w h0 h1 hm g1).mono fun e w' ⟨a, b⟩ => ⟨a, g2 _ _ b⟩

theorem whole_one {w0 w : World} {p : Nat} {bs : List Bool} (n : Int) (h : One w0 w p bs) (hm : bs.length + 64 < 1099511627776) :
    Calls Tryd.prog 24 #[.pointer (some ⟨p, 0, none⟩), .int .i64 n] w fun e w' => e = .returned (.tuple #[]) ∧ One w0 w' p (bs ++ wholeBits n) := by
  obtain ⟨r, g1, g2⟩ := h.step
  exact (whole_any p r bs n w hm g1).mono fun e w' ⟨a, b⟩ => ⟨a, g2 _ _ b⟩

theorem signed_one {w0 w : World} {p : Nat} {bs : List Bool} (n : Int) (h : One w0 w p bs) (hm : bs.length + 64 < 1099511627776) :
    Calls Tryd.prog 25 #[.pointer (some ⟨p, 0, none⟩), .int .i64 n] w fun e w' => e = .returned (.tuple #[]) ∧ One w0 w' p (bs ++ signedBits n) := by
  obtain ⟨r, g1, g2⟩ := h.step
  exact (signed_any p r bs n w hm g1).mono fun e w' ⟨a, b⟩ => ⟨a, g2 _ _ b⟩

theorem end_one {w0 w : World} {p : Nat} {bs : List Bool} (h : One w0 w p bs) (hm : bs.length + 8 < 1099511627776) :
    Calls Tryd.prog 23 #[.pointer (some ⟨p, 0, none⟩)] w fun e w' => e = .returned (.tuple #[]) ∧ One w0 w' p (bs ++ endBits bs.length) := by
  obtain ⟨r, g1, g2⟩ := h.step
  exact (end_any p r bs w hm g1).mono fun e w' ⟨a, b⟩ => ⟨a, g2 _ _ b⟩

end Go.Proofs.YtipimcnjcpckeaaDoor
