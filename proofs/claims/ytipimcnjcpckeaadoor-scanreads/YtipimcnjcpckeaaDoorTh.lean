/- Bytes, writers and readers as things: by the blocks that are theirs. -/
import Derived.Test.YtipimcnjcpckeaaDoorSf
import Derived.Test.YtipimcnjcpckeaaDoorRfR5
import Derived.Test.YtipimcnjcpckeaaDoorWrC
namespace Go.Proofs.YtipimcnjcpckeaaDoor
open Go.RowKit

/-- Bytes that can be read. -/
def Byt (w : World) (T : Nat → Prop) (v : Value) (l : List Nat) : Prop := BytesArg w v l ∧ Live w T ∧ (0 < l.length → ∀ a n c, v = .slice (some a) n c → T a.block)
theorem Byt.live {w : World} {T : Nat → Prop} {v : Value} {l : List Nat} (h : Byt w T v l) : Live w T := h.2.1
theorem Byt.all {S : Nat → Prop} {w w' : World} {T : Nat → Prop} {v : Value} {l : List Nat} (h : Byt w T v l) (k : Kept S w w') (ha : Apart T S) : Byt w' T v l := by
  refine ⟨?_, h.2.1.mono k, h.2.2⟩
  obtain ⟨⟨a, cap, rfl, h1, h2, h3, hl, hc⟩, hL, hT⟩ := h
  refine ⟨a, cap, rfl, h1, h2, h3, hl, fun hpos => ?_⟩
  obtain ⟨b, off, rfl, hb, hcell⟩ := hc hpos
  exact ⟨b, off, rfl, Nat.lt_of_lt_of_le hb k.size, fun i hi => (World.cell?_of_block (k.block b hb (ha b (hT hpos _ _ _ rfl)))).trans (hcell i hi)⟩
/-- The block of bytes. -/
def bytB (v : Value) (l : List Nat) : Nat → Prop := fun i => 0 < l.length ∧ ∃ a n c, v = .slice (some a) n c ∧ i = a.block
theorem Byt.arg {w : World} {v : Value} {l : List Nat} (h : BytesArg w v l) : Byt w (bytB v l) v l := by
  refine ⟨h, fun i hi => ?_, fun hp a n c e => ⟨hp, a, n, c, e, rfl⟩⟩
  obtain ⟨hp, a, n, c, rfl, rfl⟩ := hi
  obtain ⟨a', cap, e, h1, h2, h3, hl, hc⟩ := h
  obtain ⟨b, off, rfl, hb, _⟩ := hc hp
  cases e; exact hb
theorem Byt.new {w : World} {g : Nat} {l : List Nat} (h : w.heap[g]? = some (.cells (byteVals l).toArray 5 (0, 0))) (hm : l.length ≤ maxLen) (h256 : ∀ x ∈ l, x < 256) : Byt w (onB g) (.slice (some ⟨g, 0, none⟩) l.length l.length) l := by
  refine ⟨(Row.of_new (B := 0) h (Nat.zero_le _) hm h256).bytes, onB_live (lt_of_heap h), fun _ a n c e => ?_⟩
  cases e; rfl
theorem Byt.nil (w : World) : Byt w noB (.slice none 0 0) [] := ⟨BytesArg.nil w, fun _ h => h.elim, fun h => absurd h (Nat.lt_irrefl 0)⟩

/-- A writer. -/
def Wri (w : World) (T : Nat → Prop) (p : Nat) (bs : List Bool) : Prop := ∃ r, T = WrFoot p r ∧ WrIs w p r bs
theorem Wri.live {w : World} {T : Nat → Prop} {p : Nat} {bs : List Bool} (h : Wri w T p bs) : Live w T := by
  obtain ⟨r, rfl, h⟩ := h; exact fun i hi => h.foot_lt hi
theorem Wri.all {S : Nat → Prop} {w w' : World} {T : Nat → Prop} {p : Nat} {bs : List Bool} (h : Wri w T p bs) (k : Kept S w w') (ha : Apart T S) : Wri w' T p bs := by
  obtain ⟨r, rfl, h⟩ := h; exact ⟨r, rfl, h.kept k ha⟩
theorem Wri.cast {w : World} {T : Nat → Prop} {p : Nat} {bs cs : List Bool} (h : Wri w T p bs) (e : bs = cs) : Wri w T p cs := e ▸ h
theorem wrote_thing {w w' : World} {p : Nat} {r : Option Nat} {bs : List Bool} (h : Wrote w w' p r bs) : ∃ T', Kept (WrFoot p r) w w' ∧ Wri w' T' p bs ∧ Grew w (WrFoot p r) T' := by
  obtain ⟨r', h1, h2, h3⟩ := h
  refine ⟨WrFoot p r', h3, ⟨r', rfl, h1⟩, fun i hi => ?_⟩
  rcases hi with rfl | hi
  · exact .inl (.inl rfl)
  · rcases h2 with rfl | ⟨g, rfl, hg⟩
    · exact .inl (.inr hi)
    · cases hi; exact .inr hg

/-- A reader. -/
def Rdi (w : World) (T : Nat → Prop) (p : Nat) (l : List Nat) (st : Option Nat) : Prop := Fair l ∧ ∃ g, T = (fun i => i = p ∨ i = g) ∧ RdIs w p g l st
theorem Rdi.live {w : World} {T : Nat → Prop} {p : Nat} {l : List Nat} {st : Option Nat} (h : Rdi w T p l st) : Live w T := by
  obtain ⟨_, g, rfl, h⟩ := h
  have := h.lt
  intro i hi
  rcases hi with rfl | rfl
  · exact this.1
  · exact this.2.1
theorem Rdi.all {S : Nat → Prop} {w w' : World} {T : Nat → Prop} {p : Nat} {l : List Nat} {st : Option Nat} (h : Rdi w T p l st) (k : Kept S w w') (ha : Apart T S) : Rdi w' T p l st := by
  obtain ⟨hf, g, rfl, h⟩ := h; exact ⟨hf, g, rfl, h.kept k (ha p (.inl rfl)) (ha g (.inr rfl))⟩

/-- The document's reader. -/
def Rfi (w : World) (T : Nat → Prop) (p : Nat) (l : List Nat) (st : Option Nat) : Prop := Fair l ∧ l.length ≤ 1000 ∧ T = onB p ∧ RfIs w p l st
theorem Rfi.live {w : World} {T : Nat → Prop} {p : Nat} {l : List Nat} {st : Option Nat} (h : Rfi w T p l st) : Live w T := by
  obtain ⟨_, _, rfl, h⟩ := h
  cases st with
  | none => obtain ⟨a, _, h⟩ := h; exact onB_live (lt_of_heap h)
  | some a => exact onB_live (lt_of_heap h.2)
theorem Rfi.all {S : Nat → Prop} {w w' : World} {T : Nat → Prop} {p : Nat} {l : List Nat} {st : Option Nat} (h : Rfi w T p l st) (k : Kept S w w') (ha : Apart T S) : Rfi w' T p l st := by
  obtain ⟨hf, h1, rfl, h⟩ := h
  refine ⟨hf, h1, rfl, ?_⟩
  cases st with
  | none => obtain ⟨a, h0, h⟩ := h; exact ⟨a, h0, h.kept k (ha p rfl)⟩
  | some a => exact ⟨h.1, h.2.kept k (ha p rfl)⟩

/-! The calls. -/
theorem t_bit (p : Nat) (bs : List Bool) (n : Int) (T_w : Nat → Prop) (w0 : World) (hm : bs.length < 1099511627776) (h_w : Wri w0 T_w p bs) :
    Calls Tryd.prog 39 #[.pointer (some ⟨p, 0, none⟩), .int .i64 n] w0 fun e w' => ∃ (T_w' : Nat → Prop), e = .returned (.tuple #[]) ∧ Kept T_w w0 w' ∧ (Wri w' T_w' p (bs ++ [lowBit n]) ∧ Grew w0 T_w T_w') := by
  obtain ⟨r, rfl, h⟩ := h_w
  exact (bit_any p r bs n w0 hm h).mono fun _ _ ⟨e, hw⟩ => by obtain ⟨T', k, x, g⟩ := wrote_thing hw; exact ⟨T', e, k, x, g⟩

theorem t_fixed (p : Nat) (bs : List Bool) (n k : Int) (T_w : Nat → Prop) (w0 : World) (h0 : 0 ≤ k) (h1 : k ≤ 32) (hm : bs.length + 32 < 1099511627776) (h_w : Wri w0 T_w p bs) :
    Calls Tryd.prog 41 #[.pointer (some ⟨p, 0, none⟩), .int .i64 n, .int .i64 k] w0 fun e w' => ∃ (T_w' : Nat → Prop), e = .returned (.tuple #[]) ∧ Kept T_w w0 w' ∧ (Wri w' T_w' p (bs ++ fixedBits n k.toNat) ∧ Grew w0 T_w T_w') := by
  obtain ⟨r, rfl, h⟩ := h_w
  exact (fixed_int p r bs n k w0 h0 h1 hm h).mono fun _ _ ⟨e, hw⟩ => by obtain ⟨T', k, x, g⟩ := wrote_thing hw; exact ⟨T', e, k, x, g⟩

theorem t_whole (p : Nat) (bs : List Bool) (n : Int) (T_w : Nat → Prop) (w0 : World) (hm : bs.length + 64 < 1099511627776) (h_w : Wri w0 T_w p bs) :
    Calls Tryd.prog 24 #[.pointer (some ⟨p, 0, none⟩), .int .i64 n] w0 fun e w' => ∃ (T_w' : Nat → Prop), e = .returned (.tuple #[]) ∧ Kept T_w w0 w' ∧ (Wri w' T_w' p (bs ++ wholeBits n) ∧ Grew w0 T_w T_w') := by
  obtain ⟨r, rfl, h⟩ := h_w
  exact (whole_any p r bs n w0 hm h).mono fun _ _ ⟨e, hw⟩ => by obtain ⟨T', k, x, g⟩ := wrote_thing hw; exact ⟨T', e, k, x, g⟩

theorem t_signed (p : Nat) (bs : List Bool) (n : Int) (T_w : Nat → Prop) (w0 : World) (hm : bs.length + 64 < 1099511627776) (h_w : Wri w0 T_w p bs) :
    Calls Tryd.prog 25 #[.pointer (some ⟨p, 0, none⟩), .int .i64 n] w0 fun e w' => ∃ (T_w' : Nat → Prop), e = .returned (.tuple #[]) ∧ Kept T_w w0 w' ∧ (Wri w' T_w' p (bs ++ signedBits n) ∧ Grew w0 T_w T_w') := by
  obtain ⟨r, rfl, h⟩ := h_w
  exact (signed_any p r bs n w0 hm h).mono fun _ _ ⟨e, hw⟩ => by obtain ⟨T', k, x, g⟩ := wrote_thing hw; exact ⟨T', e, k, x, g⟩

theorem t_end (p : Nat) (bs : List Bool) (T_w : Nat → Prop) (w0 : World) (hm : bs.length + 8 < 1099511627776) (h_w : Wri w0 T_w p bs) :
    Calls Tryd.prog 23 #[.pointer (some ⟨p, 0, none⟩)] w0 fun e w' => ∃ (T_w' : Nat → Prop), e = .returned (.tuple #[]) ∧ Kept T_w w0 w' ∧ (Wri w' T_w' p (bs ++ endBits bs.length) ∧ Grew w0 T_w T_w') := by
  obtain ⟨r, rfl, h⟩ := h_w
  exact (end_any p r bs w0 hm h).mono fun _ _ ⟨e, hw⟩ => by obtain ⟨T', k, x, g⟩ := wrote_thing hw; exact ⟨T', e, k, x, g⟩

theorem t_many (p : Nat) (bs : List Bool) (T_w : Nat → Prop) (w0 : World) (h_w : Wri w0 T_w p bs) :
    Calls Tryd.prog 14 #[.pointer (some ⟨p, 0, none⟩)] w0 fun e w' => e = .returned (.int .i64 ((bs.length : Nat) : Int)) ∧ Kept (fun _ => False) w0 w' := by
  obtain ⟨r, rfl, h⟩ := h_w
  exact (many_any p r bs w0 h).mono fun _ _ ⟨e, hw⟩ => by subst hw; exact ⟨e, Kept.refl _ _⟩

theorem t_bytes (p : Nat) (bs : List Bool) (T_w : Nat → Prop) (w0 : World) (hm : bs.length < 1099511627776) (h_w : Wri w0 T_w p bs) :
    Calls Tryd.prog 15 #[.pointer (some ⟨p, 0, none⟩)] w0 fun e w' => ∃ (v1 : Value) (T1 : Nat → Prop), e = .returned v1 ∧ Kept (fun _ => False) w0 w' ∧ (Byt w' T1 v1 (pack bs) ∧ Grew w0 noB T1) := by
  obtain ⟨r, rfl, h⟩ := h_w
  refine (bytes_any p r bs w0 hm h).mono fun _ _ hn => ?_
  obtain ⟨g, e, hg, hh, k⟩ := hn
  exact ⟨_, onB g, e, k, Byt.new hh (by rw [pack_length]; unfold nbytes; have hM : 1099511627776 ≤ maxLen := (by decide); omega) (pack_bytes bs), onB_new hg⟩

theorem t_new (v : Value) (l : List Nat) (T_b : Nat → Prop) (w0 : World) (hm : l.length < 1099511627776) (h_b : Byt w0 T_b v l) :
    Calls Tryd.prog 17 #[v] w0 fun e w' => ∃ (v1 : Nat) (T1 : Nat → Prop), e = .returned (.pointer (some ⟨v1, 0, none⟩)) ∧ Kept (fun _ => False) w0 w' ∧ (Rdi w' T1 v1 l (some 0) ∧ Grew w0 noB T1) := by
  refine (new_any v l w0 hm h_b.1.slice).mono fun _ _ ⟨p, g, e, hr, h1, h2, k⟩ => ?_
  exact ⟨p, _, e, k, ⟨h_b.1.fair hm, g, rfl, hr⟩, fun i hi => .inr (by rcases hi with rfl | rfl <;> assumption)⟩

theorem rd_thing {w w' : World} {p g : Nat} {l : List Nat} {r : Int × Option Nat} {e : Ending} (hf : Fair l) (h : RdDone w p g l r e w') :
    ∃ (T_r' : Nat → Prop), e = .returned (.int .i64 r.1) ∧ Kept (fun i => i = p ∨ i = g) w w' ∧ (Rdi w' T_r' p l r.2 ∧ Grew w (fun i => i = p ∨ i = g) T_r') := by
  obtain ⟨h1, h2, h3⟩ := h
  exact ⟨_, h1, h3.mono (fun _ _ e => .inl e), ⟨hf, g, rfl, h2⟩, Grew.refl _ _⟩
theorem t_rwhole (p : Nat) (l : List Nat) (st : Option Nat) (m : Int) (T_r : Nat → Prop) (w0 : World) (h_r : Rdi w0 T_r p l st) :
    Calls Tryd.prog 26 #[.pointer (some ⟨p, 0, none⟩), .int .i64 m] w0 fun e w' => ∃ (T_r' : Nat → Prop), e = .returned (.int .i64 (rdStep (wholeRd l m) st).1) ∧ Kept T_r w0 w' ∧ (Rdi w' T_r' p l (rdStep (wholeRd l m) st).2 ∧ Grew w0 T_r T_r') := by
  obtain ⟨hf, g, rfl, h⟩ := h_r
  exact (rwhole_any p g l st m w0 hf h).mono fun _ _ hd => rd_thing hf hd
theorem t_rsigned (p : Nat) (l : List Nat) (st : Option Nat) (m : Int) (T_r : Nat → Prop) (w0 : World) (h_r : Rdi w0 T_r p l st) :
    Calls Tryd.prog 33 #[.pointer (some ⟨p, 0, none⟩), .int .i64 m] w0 fun e w' => ∃ (T_r' : Nat → Prop), e = .returned (.int .i64 (rdStep (signedRd l m) st).1) ∧ Kept T_r w0 w' ∧ (Rdi w' T_r' p l (rdStep (signedRd l m) st).2 ∧ Grew w0 T_r T_r') := by
  obtain ⟨hf, g, rfl, h⟩ := h_r
  exact (rsigned_any p g l st m w0 hf h).mono fun _ _ hd => rd_thing hf hd
theorem t_done (p : Nat) (l : List Nat) (st : Option Nat) (T_r : Nat → Prop) (w0 : World) (h_r : Rdi w0 T_r p l st) :
    Calls Tryd.prog 21 #[.pointer (some ⟨p, 0, none⟩)] w0 fun e w' => e = .returned (.int .i64 (doneOf l st)) ∧ Kept (fun _ => False) w0 w' := by
  obtain ⟨hf, g, rfl, h⟩ := h_r
  exact (done_any p g l st w0 hf h).mono fun _ _ ⟨e, n, hw⟩ => by subst hw; exact ⟨e, (Kept.refl _ _).drewN n⟩
theorem t_lost (p : Nat) (l : List Nat) (st : Option Nat) (T_r : Nat → Prop) (w0 : World) (h_r : Rdi w0 T_r p l st) :
    Calls Tryd.prog 32 #[.pointer (some ⟨p, 0, none⟩)] w0 fun e w' => e = .returned (.bool (st.isNone)) ∧ Kept (fun _ => False) w0 w' := by
  obtain ⟨hf, g, rfl, h⟩ := h_r
  exact (lost_any p g l st w0 h).mono fun _ _ ⟨e, hw⟩ => by subst hw; exact ⟨e, Kept.refl _ _⟩

/-! The document's. -/
theorem rf_thing {w w' : World} {p : Nat} {l : List Nat} {r : Int × Option Nat} {e : Ending} (hf : Fair l) (hl : l.length ≤ 1000) (h : RfDone w p l r e w') :
    ∃ (T_r' : Nat → Prop), e = .returned (.int .i64 r.1) ∧ Kept (onB p) w w' ∧ (Rfi w' T_r' p l r.2 ∧ Grew w (onB p) T_r') := by
  obtain ⟨h1, h2, h3⟩ := h
  exact ⟨_, h1, h3, ⟨hf, hl, rfl, h2⟩, Grew.refl _ _⟩
theorem t_fwhole (p : Nat) (l : List Nat) (st : Option Nat) (m : Int) (T_r : Nat → Prop) (w0 : World) (h_r : Rfi w0 T_r p l st) :
    Calls Tryd.prog 35 #[.pointer (some ⟨p, 0, none⟩), .int .i64 m] w0 fun e w' => ∃ (T_r' : Nat → Prop), e = .returned (.int .i64 (rdStep (wholeRd l m) st).1) ∧ Kept T_r w0 w' ∧ (Rfi w' T_r' p l (rdStep (wholeRd l m) st).2 ∧ Grew w0 T_r T_r') := by
  obtain ⟨hf, hl, rfl, h⟩ := h_r
  exact (rf_whole p l st m w0 hl h).mono fun _ _ hd => rf_thing hf hl hd
theorem t_fsigned (p : Nat) (l : List Nat) (st : Option Nat) (m : Int) (T_r : Nat → Prop) (w0 : World) (h_r : Rfi w0 T_r p l st) :
    Calls Tryd.prog 36 #[.pointer (some ⟨p, 0, none⟩), .int .i64 m] w0 fun e w' => ∃ (T_r' : Nat → Prop), e = .returned (.int .i64 (rdStep (signedRd l m) st).1) ∧ Kept T_r w0 w' ∧ (Rfi w' T_r' p l (rdStep (signedRd l m) st).2 ∧ Grew w0 T_r T_r') := by
  obtain ⟨hf, hl, rfl, h⟩ := h_r
  exact (rf_signed p l st m w0 hl h).mono fun _ _ hd => rf_thing hf hl hd
theorem t_fdone (p : Nat) (l : List Nat) (st : Option Nat) (T_r : Nat → Prop) (w0 : World) (h_r : Rfi w0 T_r p l st) :
    Calls Tryd.prog 22 #[.pointer (some ⟨p, 0, none⟩)] w0 fun e w' => e = .returned (.int .i64 (doneOf l st)) ∧ Kept (fun _ => False) w0 w' := by
  obtain ⟨hf, hl, rfl, h⟩ := h_r
  exact (rf_done p l st w0 hl hf h).mono fun _ _ ⟨e, n, hw⟩ => by subst hw; exact ⟨e, (Kept.refl _ _).drewN n⟩
theorem t_refwhole (n : Int) (w0 : World) : Calls Tryd.prog 29 #[.int .i64 n] w0 fun e w' => e = .returned (.string (strOf (wholeBits n))) ∧ Kept (fun _ => False) w0 w' :=
  (ref_whole n w0).mono fun _ _ ⟨e, hw⟩ => by subst hw; exact ⟨e, Kept.refl _ _⟩
theorem t_refsigned (n : Int) (w0 : World) : Calls Tryd.prog 30 #[.int .i64 n] w0 fun e w' => e = .returned (.string (strOf (signedBits n))) ∧ Kept (fun _ => False) w0 w' :=
  (ref_signed n w0).mono fun _ _ ⟨e, hw⟩ => by subst hw; exact ⟨e, Kept.refl _ _⟩
theorem t_refbytes (bs : List Bool) (w0 : World) (hm : bs.length < 1000000) : Calls Tryd.prog 16 #[.string (strOf bs)] w0 fun e w' => ∃ (v1 : Value) (T1 : Nat → Prop), e = .returned v1 ∧ Kept (fun _ => False) w0 w' ∧ (Byt w' T1 v1 (pack bs) ∧ Grew w0 noB T1) := by
  refine (ref_bytes bs w0 hm).mono fun _ w' ⟨v, e, ho, hf, k⟩ => ?_
  have hR : Row w' 0 v (pack bs) := ⟨ho, pack_bytes bs⟩
  refine ⟨v, fun i => v.ownBlock = some i, e, k, ⟨hR.bytes, fun i hi => (hR.lt i hi).2, fun hp a n c e => ?_⟩, fun i hi => ?_⟩
  · subst e; rfl
  · rcases hf with h | ⟨g, h, hg⟩
    · rw [h] at hi; cases hi
    · rw [h] at hi; cases hi; exact .inr hg
theorem t_refbits (v : Value) (l : List Nat) (T_b : Nat → Prop) (w0 : World) (hm : l.length ≤ 1000) (h_b : Byt w0 T_b v l) :
    Calls Tryd.prog 18 #[v] w0 fun e w' => e = .returned (.string (strOf (bitsOf l))) ∧ Kept (fun _ => False) w0 w' :=
  (ref_bits v l w0 hm h_b.1).mono fun _ _ ⟨e, hw⟩ => by subst hw; exact ⟨e, Kept.refl _ _⟩
end Go.Proofs.YtipimcnjcpckeaaDoor
