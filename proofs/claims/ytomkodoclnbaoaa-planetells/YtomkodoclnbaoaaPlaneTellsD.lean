/- What PlaneTells reaches of my texts, part 4. -/
import Derived.Test.YtomkodoclnbaoaaPlaneTellsC
namespace Go.Proofs.Ytomkodoclnbaoaa

theorem FD.eq {a b : FD} (h1 : a.W = b.W) (h2 : a.H = b.H) (h3 : a.p0 = b.p0) (h4 : a.p1 = b.p1) (h5 : a.p2 = b.p2) : a = b := by
  cases a; cases b; simp only at *; subst h1; subst h2; subst h3; subst h4; subst h5; rfl
theorem ok_of {f g : FD} (h : okF f) (hw : g.W = f.W) (hh : g.H = f.H) (h0 : g.p0.length = f.p0.length) (h1 : g.p1.length = f.p1.length) (h2 : g.p2.length = f.p2.length) : okF g := by
  obtain ⟨a, b, c, d, e⟩ := h
  exact ⟨by rw [hw]; exact a, by rw [hh]; exact b, by rw [hw, hh, h0]; exact c, by rw [hw, hh, h1]; exact d, by rw [hw, hh, h2]; exact e⟩
theorem getD_set (l : List Nat) (i q x : Nat) : (l.set i x).getD q 0 = if i = q ∧ q < l.length then x else l.getD q 0 := by
  by_cases h : i = q
  · subst h
    by_cases hl : i < l.length
    · rw [if_pos ⟨rfl, hl⟩]; simp [List.getD, hl]
    · rw [if_neg (fun h => hl h.2)]; simp [List.getD, hl]
  · rw [if_neg (fun e => h e.1)]; simp [List.getD, List.getElem?_set_ne h]
structure Inside (f : FD) (k x y : Int) : Prop where
  ok : okF f
  k0 : 0 ≤ k
  k2 : k ≤ 2
  x0 : 0 ≤ x
  x1 : x + 4 ≤ (sizeF f k).1
  y0 : 0 ≤ y
  y1 : y + 4 ≤ (sizeF f k).2
def jAt (f : FD) (k x y : Int) (i : Nat) : Nat := ((y + ((i / 4 : Nat) : Int)) * (sizeF f k).1 + (x + ((i % 4 : Nat) : Int))).toNat
theorem Inside.within {f : FD} {k x y : Int} (h : Inside f k x y) (i : Nat) (hi : i < 16) : within (sizeF f k).1 (sizeF f k).2 (x + ((i % 4 : Nat) : Int)) (y + ((i / 4 : Nat) : Int)) := by
  have h1 := h.x0; have h2 := h.x1; have h3 := h.y0; have h4 := h.y1
  exact ⟨by omega, by omega, by omega, by omega⟩
theorem Inside.lt {f : FD} {k x y : Int} (h : Inside f k x y) (i : Nat) (hi : i < 16) : jAt f k x y i < (f.pl k).length := by
  have := within_cell (h.within i hi)
  unfold jAt; omega
theorem Inside.inj {f : FD} {k x y : Int} (h : Inside f k x y) (i i' : Nat) (hi : i < 16) (hi' : i' < 16) (e : jAt f k x y i = jAt f k x y i') : i = i' := by
  have w1 := within_cell (h.within i hi)
  have w2 := within_cell (h.within i' hi')
  have hx1 := h.x1; have hx0 := h.x0
  unfold jAt at e
  have e2 : (y + ((i / 4 : Nat) : Int)) * (sizeF f k).1 + (x + ((i % 4 : Nat) : Int)) = (y + ((i' / 4 : Nat) : Int)) * (sizeF f k).1 + (x + ((i' % 4 : Nat) : Int)) := by omega
  rw [Int.add_mul, Int.add_mul] at e2
  have hw : 4 ≤ (sizeF f k).1 := by omega
  generalize (sizeF f k).1 = w at *
  have hq : i / 4 = i' / 4 := by
    by_cases hlt : i / 4 < i' / 4
    · have : ((i / 4 : Nat) : Int) * w + w ≤ ((i' / 4 : Nat) : Int) * w := by
        have h5 : (((i / 4 : Nat) : Int) + 1) * w ≤ ((i' / 4 : Nat) : Int) * w := Int.mul_le_mul_of_nonneg_right (by omega) (by omega)
        rw [Int.add_mul, Int.one_mul] at h5; exact h5
      omega
    · by_cases hgt : i' / 4 < i / 4
      · have : ((i' / 4 : Nat) : Int) * w + w ≤ ((i / 4 : Nat) : Int) * w := by
          have h5 : (((i' / 4 : Nat) : Int) + 1) * w ≤ ((i / 4 : Nat) : Int) * w := Int.mul_le_mul_of_nonneg_right (by omega) (by omega)
          rw [Int.add_mul, Int.one_mul] at h5; exact h5
        omega
      · omega
  rw [hq] at e2
  omega
theorem setp_pl (f : FD) (p : Int) (j n : Nat) (hp : 0 ≤ p) (hp2 : p ≤ 2) : (f.setp p j n).pl p = (f.pl p).set j n ∧ ∀ q, 0 ≤ q → q ≤ 2 → q ≠ p → (f.setp p j n).pl q = f.pl q := by
  have h3 : p = 0 ∨ p = 1 ∨ p = 2 := by omega
  have hq3 : ∀ q : Int, 0 ≤ q → q ≤ 2 → q = 0 ∨ q = 1 ∨ q = 2 := by omega
  rcases h3 with rfl | rfl | rfl
  · refine ⟨rfl, fun q h1 h2 h3 => ?_⟩
    rcases hq3 q h1 h2 with rfl | rfl | rfl
    · exact absurd rfl h3
    · rfl
    · rfl
  · refine ⟨rfl, fun q h1 h2 h3 => ?_⟩
    rcases hq3 q h1 h2 with rfl | rfl | rfl
    · rfl
    · exact absurd rfl h3
    · rfl
  · refine ⟨rfl, fun q h1 h2 h3 => ?_⟩
    rcases hq3 q h1 h2 with rfl | rfl | rfl
    · rfl
    · rfl
    · exact absurd rfl h3
end Go.Proofs.Ytomkodoclnbaoaa
namespace Go.Proofs.Ytomkodoclnbaoaa

def newF (w h : Int) (s : Nat) : FD := if sideB w = true ∧ sideB h = true then ⟨w, h, List.replicate (w * h).toNat s, List.replicate (w * h / 4).toNat s, List.replicate (w * h / 4).toNat s⟩ else FD.none
def newE (w h : Int) : Int := if sideB w = true ∧ sideB h = true then 0 else 70
theorem newF_yes {w h : Int} (s : Nat) (hw : sideB w = true) (hh : sideB h = true) : newF w h s = ⟨w, h, List.replicate (w * h).toNat s, List.replicate (w * h / 4).toNat s, List.replicate (w * h / 4).toNat s⟩ := if_pos ⟨hw, hh⟩
theorem newF_no {w h : Int} (s : Nat) (hn : ¬ (sideB w = true ∧ sideB h = true)) : newF w h s = FD.none := if_neg hn
theorem newE_yes {w h : Int} (hw : sideB w = true) (hh : sideB h = true) : newE w h = 0 := if_pos ⟨hw, hh⟩
theorem newE_no {w h : Int} (hn : ¬ (sideB w = true ∧ sideB h = true)) : newE w h = 70 := if_neg hn
theorem new_ok {w h : Int} (s : Nat) (hw : sideB w = true) (hh : sideB h = true) : okF (newF w h s) := by
  rw [newF_yes s hw hh]
  have ha := area_bounds hw hh
  refine ⟨hw, hh, ?_, ?_, ?_⟩
  · simp only [List.length_replicate]; omega
  · simp only [List.length_replicate]; rw [tdiv4 (by omega)]; omega
  · simp only [List.length_replicate]; rw [tdiv4 (by omega)]; omega
end Go.Proofs.Ytomkodoclnbaoaa
namespace Go.Proofs.Ytomkodoclnbaoaa
open Go.RowKit

/-- A part of a slice of bytes: from l, up to h, its room up to m. -/
def subV (v : Value) (l h m : Nat) : Value := match v with
  | .slice a _ _ => .slice (if m = l then a else a.map (·.add l)) (h - l) (m - l)
  | _ => undef
def capV : Value → Nat
  | .slice _ _ c => c
  | _ => 0
theorem Byt.cap {w : World} {T : Nat → Prop} {v : Value} {l : List Nat} (h : Byt w T v l) : l.length ≤ capV v ∧ capV v ≤ maxLen := by
  obtain ⟨⟨a, cap, rfl, h1, h2, _⟩, _⟩ := h; exact ⟨h1, h2⟩
theorem Byt.sub {w : World} {T : Nat → Prop} {v : Value} {l : List Nat} (hb : Byt w T v l) {i j m : Nat} (h1 : i ≤ j) (h2 : j ≤ m) (h3 : j ≤ l.length) (h4 : m ≤ capV v) : Byt w T (subV v i j m) ((l.drop i).take (j - i)) := by
  have hc := hb.cap
  obtain ⟨hB, hL, hT⟩ := hb
  obtain ⟨a, cap, rfl, k1, k2, k3, k4, k5⟩ := hB
  have hB : BytesArg w (.slice a l.length cap) l := ⟨a, cap, rfl, k1, k2, k3, k4, k5⟩
  have hm : m ≤ cap := h4
  refine ⟨hB.cut i j (m - i) h1 h3 (by omega) (by omega) (if m = i then a else a.map (fun z : Addr => z.add i)) (fun hp => by rw [if_neg (by omega)]) (fun h0 => ?_), hL, fun hp a' n c e => ?_⟩
  · split at h0
    · omega
    · have : a = none := by cases a <;> simp_all
      have := k3 this; omega
  · have hlen : 0 < j - i := by
      have : ((l.drop i).take (j - i)).length = j - i := by simp; omega
      omega
    simp only [subV] at e
    rw [if_neg (by omega)] at e
    cases a with
    | none => simp at e
    | some a0 =>
      simp at e
      obtain ⟨e1, _, _⟩ := e
      have hblk : a'.block = a0.block := by rw [← e1]; unfold Addr.add; split <;> rfl
      rw [hblk]
      exact hT (by omega) a0 _ _ rfl
theorem sub_addr {w : World} {T : Nat → Prop} {v : Value} {l : List Nat} (hb : Byt w T v l) {i j m : Nat} (t : Nat) (h2 : j ≤ m) (h3 : j ≤ l.length) (ht : t < j - i) : bytAddr (subV v i j m) t = bytAddr v (i + t) := by
  obtain ⟨⟨a, cap, rfl, _, _, _, _, k5⟩, _⟩ := hb
  obtain ⟨b, off, rfl, _, _⟩ := k5 (by omega)
  simp only [subV, bytAddr]
  rw [if_neg (by omega)]
  simp [Addr.add_lit, Nat.add_assoc]
section
variable {ρ : Operand → Value} {o : Oper} {w : World} {R : Value → World → Prop}
theorem y_cut3 {x lo hi mx : Operand} {T : Nat → Prop} {v : Value} {l : List Nat} {kl kh km : IntKind} (i j m : Nat) {il ih im : Int} (ho : o.op = .slice 22 x (some lo) (some hi) (some mx)) (hx : ρ x = v) (hl : ρ lo = .int kl il) (hh : ρ hi = .int kh ih) (hm : ρ mx = .int km im) (e1 : il = (i : Int)) (e2 : ih = (j : Int)) (e3 : im = (m : Int)) (hb : Byt w T v l) (h1 : i ≤ j) (h2 : j ≤ m) (h3 : m ≤ l.length) (h : R (subV v i j m) w) : Yields Try.prog ρ o w R := by
  subst e1; subst e2; subst e3
  have hc := hb.cap
  obtain ⟨⟨a, cap, rfl, k1, _⟩, _⟩ := hb
  obtain ⟨i0, hi0, hz0, hz1, hz2⟩ := info_parts Try.info_u8
  have hmc : m ≤ cap := by omega
  refine y_val (v := subV (.slice a l.length cap) i j m) (w' := w) ?_ h
  have b1 : (Instr.sliceBounds true l.length cap (some (.int kl (i : Int))) (some (.int kh (j : Int))) (some (.int km (m : Int)))).run Try.prog w = .ok (i, j, m) w := by
    simp [Instr.sliceBounds, Instr.sliceBound, asIntOf, hmc, h1, h2]
  simp [execOp, ho, hx, hl, hh, hm, Instr.sliceAt, Instr.slice, run_underlying Try.underlying22, b1, sizeOf, typeInfo, hi0, hz1, subV]
theorem y_atS {x ix : Operand} {T : Nat → Prop} {v : Value} {l : List Nat} {k : IntKind} {i j m : Nat} (t : Nat) {it : Int} (ho : o.op = .indexAddr 22 x ix) (hx : ρ x = subV v i j m) (hi : ρ ix = .int k it) (hij : it = (t : Int)) (hb : Byt w T v l) (h1 : i ≤ j) (h2 : j ≤ m) (h3 : j ≤ l.length) (h4 : m ≤ capV v) (ht : t < j - i) (h : R (bytAddr v (i + t)) w) : Yields Try.prog ρ o w R := by
  have hl : ((l.drop i).take (j - i)).length = j - i := by simp; omega
  refine y_atB t ho hx hi hij (hb.sub h1 h2 h3 h4) (by rw [hl]; exact ht) ?_
  rw [sub_addr hb t h2 h3 ht]; exact h
theorem sub_len {w : World} {T : Nat → Prop} {v : Value} {l : List Nat} (hb : Byt w T v l) (i j m : Nat) : ∃ a, subV v i j m = .slice a (j - i) (m - i) := by
  obtain ⟨⟨a, cap, rfl, _⟩, _⟩ := hb
  exact ⟨_, rfl⟩
theorem y_lenS {c : Call} {x : Operand} {T : Nat → Prop} {v : Value} {l : List Nat} {i j m : Nat} (ho : o.op = .call c) (hc : c = { callee := .builtin .len, args := #[x], argTypes := #[22] }) (hx : ρ x = subV v i j m) (hb : Byt w T v l) (h : R (.int .i64 ((j - i : Nat) : Int)) w) : Yields Try.prog ρ o w R := by
  subst hc
  obtain ⟨a, e⟩ := sub_len hb i j m
  rw [e] at hx
  exact y_len ho rfl rfl rfl Try.underlying22 hx h
end
end Go.Proofs.Ytomkodoclnbaoaa
namespace Go.Proofs.Ytomkodoclnbaoaa
open Go.RowKit

section
variable {ρ : Operand → Value} {o : Oper} {w : World} {R : Value → World → Prop}
theorem y_ldPl {t : TypeId} {x : Operand} {p k : Nat} {vs : List Value} {a b c : Value} (ho : o.op = .load 23 x) (hx : ρ x = .pointer (some ⟨p, k, none⟩)) (hB : Stc w p t vs) (h0 : vs[k]? = some a) (h1 : vs[k + 1]? = some b) (h2 : vs[k + 2]? = some c) (h : R (.agg #[a, b, c]) w) : Yields Try.prog ρ o w R := by
  have hr : w.rangeAt p k [a, b, c] := by
    intro j v hj
    match j, hj with
    | 0, hj => obtain rfl : a = v := by simpa using hj
               exact hB.cell h0
    | 1, hj => obtain rfl : b = v := by simpa using hj
               exact hB.cell h1
    | 2, hj => obtain rfl : c = v := by simpa using hj
               exact hB.cell h2
    | n + 3, hj => simp at hj
  refine y_val (v := .agg #[a, b, c]) (w' := w) ?_ h
  simp only [execOp, ho, hx, Sem.run_bind, run_loadAt_mid w p k 23 [a, b, c] _ hr Try.underlying23 rfl (by kernel_rfl), Result.andThen_ok, Sem.run_pure]
theorem y_ixPl {x y : Operand} {k : IntKind} {cs : Array Value} {v : Value} (j : Nat) (ho : o.op = .index 23 x y) (hx : ρ x = .agg cs) (hy : ρ y = .int k (j : Int)) (hj : j < 3) (hv : cs[j]? = some v) (h : R v w) : Yields Try.prog ρ o w R := by
  have hs : (Try.prog.info? 22).map (·.size) = some 1 := by kernel_rfl
  cases hq : Try.prog.info? 22 with
  | none => simp [hq] at hs
  | some i =>
    have hs' : i.size = 1 := by simpa [hq] using hs
    have hp : (part 22 cs j).run Try.prog w = .ok v w := by simp [part, isAgg, run_underlying Try.underlying22, hv]
    have h1 : (0 : Int) ≤ (j : Int) := by omega
    have h2 : (j : Int) < 3 := by omega
    exact y_val (v := v) (w' := w) (by simp [execOp, ho, hx, hy, Instr.index, run_underlying Try.underlying23, asIntOf, sizeOf, typeInfo, hq, hs', hj, hp]) h
theorem y_cut2L {x lo : Operand} {T : Nat → Prop} {v : Value} {l : List Nat} {kl : IntKind} {i j m : Nat} (k : Nat) {il : Int} (ho : o.op = .slice 22 x (some lo) none none) (hx : ρ x = subV v i j m) (hl : ρ lo = .int kl il) (e1 : il = (k : Int)) (hb : Byt w T v l) (h1 : k ≤ j - i) (h : R (subV (subV v i j m) k (j - i) (m - i)) w) : Yields Try.prog ρ o w R := by
  subst e1
  obtain ⟨a, e⟩ := sub_len hb i j m
  obtain ⟨i0, hi0, hz0, hz1, hz2⟩ := info_parts Try.info_u8
  refine y_val (v := subV (subV v i j m) k (j - i) (m - i)) (w' := w) ?_ h
  rw [e] at hx ⊢
  have b1 : (Instr.sliceBounds true (j - i) (m - i) (some (.int kl (k : Int))) none none).run Try.prog w = .ok (k, j - i, m - i) w := by
    simp [Instr.sliceBounds, Instr.sliceBound, asIntOf, h1]
  simp [execOp, ho, hx, hl, Instr.sliceAt, Instr.slice, run_underlying Try.underlying22, b1, sizeOf, typeInfo, hi0, hz1, subV]
theorem y_cut2H {x hi : Operand} {T : Nat → Prop} {v : Value} {l : List Nat} {kl : IntKind} {i j m : Nat} (k : Nat) {il : Int} (ho : o.op = .slice 22 x none (some hi) none) (hx : ρ x = subV v i j m) (hl : ρ hi = .int kl il) (e1 : il = (k : Int)) (hb : Byt w T v l) (h1 : k ≤ m - i) (h : R (subV (subV v i j m) 0 k (m - i)) w) : Yields Try.prog ρ o w R := by
  subst e1
  obtain ⟨a, e⟩ := sub_len hb i j m
  obtain ⟨i0, hi0, hz0, hz1, hz2⟩ := info_parts Try.info_u8
  refine y_val (v := subV (subV v i j m) 0 k (m - i)) (w' := w) ?_ h
  rw [e] at hx ⊢
  have b1 : (Instr.sliceBounds true (j - i) (m - i) none (some (.int kl (k : Int))) none).run Try.prog w = .ok (0, k, m - i) w := by
    simp [Instr.sliceBounds, Instr.sliceBound, asIntOf, h1]
  simp [execOp, ho, hx, hl, Instr.sliceAt, Instr.slice, run_underlying Try.underlying22, b1, sizeOf, typeInfo, hi0, hz1, subV]
theorem y_cut3T {x hi mx : Operand} {T : Nat → Prop} {v : Value} {l : List Nat} {kh km : IntKind} (j m : Nat) {ih im : Int} (ho : o.op = .slice 22 x none (some hi) (some mx)) (hx : ρ x = v) (hh : ρ hi = .int kh ih) (hm : ρ mx = .int km im) (e2 : ih = (j : Int)) (e3 : im = (m : Int)) (hb : Byt w T v l) (h2 : j ≤ m) (h4 : m ≤ l.length) (h : R (subV v 0 j m) w) : Yields Try.prog ρ o w R := by
  subst e2; subst e3
  obtain ⟨⟨a, cap, rfl, k1, _⟩, _⟩ := hb
  obtain ⟨i0, hi0, hz0, hz1, hz2⟩ := info_parts Try.info_u8
  have hmc : m ≤ cap := by omega
  refine y_val (v := subV (.slice a l.length cap) 0 j m) (w' := w) ?_ h
  have b1 : (Instr.sliceBounds true l.length cap none (some (.int kh (j : Int))) (some (.int km (m : Int)))).run Try.prog w = .ok (0, j, m) w := by
    simp [Instr.sliceBounds, Instr.sliceBound, asIntOf, hmc, h2]
  simp [execOp, ho, hx, hh, hm, Instr.sliceAt, Instr.slice, run_underlying Try.underlying22, b1, sizeOf, typeInfo, hi0, hz1, subV]
end

/-- A part of bytes of one's own: where it lies. -/
def PartAt (x v : Value) (off n : Nat) : Prop := ∃ d cp, x = .slice d n cp ∧ (0 < n → ∀ g nn cc, v = .slice (some ⟨g, 0, none⟩) nn cc → d = some ⟨g, off, none⟩)
theorem part_sub {w : World} {T : Nat → Prop} {v : Value} {l : List Nat} (hb : Byt w T v l) {i j m : Nat} (h2 : j ≤ m) : PartAt (subV v i j m) v i (j - i) := by
  obtain ⟨⟨a, cap, rfl, k1, k2, k3, k4, k5⟩, k6⟩ := hb
  clear k3 k4 k5 k6
  refine ⟨_, _, rfl, fun hp g nn cc e => ?_⟩
  cases e
  rw [if_neg (by omega)]
  simp [Addr.add_lit]
theorem part_sub2 {w : World} {T : Nat → Prop} {v : Value} {l : List Nat} (hb : Byt w T v l) {i j m k q r : Nat} (h2 : j ≤ m) (h3 : q ≤ j - i) (hr : r = i + k) : PartAt (subV (subV v i j m) k q (m - i)) v r (q - k) := by
  subst hr
  obtain ⟨⟨a, cap, rfl, k1, k2, k3, k4, k5⟩, k6⟩ := hb
  clear k3 k4 k5 k6
  refine ⟨_, _, rfl, fun hp g nn cc e => ?_⟩
  cases e
  rw [if_neg (by omega), if_neg (by omega)]
  simp [Addr.add_lit]
section
variable {ro : Option Nat} {N : Nat} {Q : (Exit → (Nat → Value) → World → Prop)} {F : Nat → Value} {w : World} {o : Oper}
theorem run_copyM {ρ : Operand → Value} {c : Call} {x y : Operand} {T U : Nat → Prop} {v u : Value} {l m : List Nat} {off n : Nat} (ho : o.op = .call c) (hc : c = { callee := .builtin .copy, args := #[x, y], argTypes := #[22, 22] }) (hx : PartAt (ρ x) v off n) (hy : ρ y = u) (hv : Owb w T v l) (hu : Byt w U u m) (hoff : off + n ≤ l.length) :
    ∃ w', (execOp ρ o).run Try.prog w = .ok (.value (.int .i64 ((min n m.length : Nat) : Int))) w' ∧ Owb w' T v (l.take off ++ (m.take n ++ l.drop (off + min n m.length))) ∧ Kept T w w' := by
  subst hc
  have hsz : (Try.prog.info? 5).map (·.size) = some 1 := by
    obtain ⟨i0, hi0, hz0, hz1, hz2⟩ := info_parts Try.info_u8
    rw [hi0]; simp [hz1]
  have hlen : (l.take off ++ (m.take n ++ l.drop (off + min n m.length))).length = l.length := by simp; omega
  have hml : (m.take n).length = min n m.length := by simp
  have hall : ∀ y ∈ l.take off ++ (m.take n ++ l.drop (off + min n m.length)), y < 256 := by
    intro y hy
    rcases List.mem_append.1 hy with h' | h'
    · exact hv.lt256 y (List.mem_of_mem_take h')
    · rcases List.mem_append.1 h' with h' | h'
      · exact hu.lt256 y (List.mem_of_mem_take h')
      · exact hv.lt256 y (List.mem_of_mem_drop h')
  obtain ⟨d, cp, hxx, hd⟩ := hx
  by_cases h0 : min n m.length = 0
  · have h0' : min m.length n = 0 := by omega
    obtain ⟨⟨a, cap, rfl, k1, k2, k3, h256, hcu⟩, _⟩ := hu
    clear hcu hd
    have hm : m.take n = [] := List.eq_nil_of_length_eq_zero (by omega)
    have hrun := run_copy_none (P := Try.prog) w 22 22 o.type 5 d a n cp m.length cap Try.underlying22 hsz h0'
    refine ⟨w, by rw [h0]; simp [execOp, ho, resolve, invoke, builtin, hxx, hy, hrun, Result.andThen]; rfl, ?_, Kept.refl _ _⟩
    rw [h0, hm, List.nil_append, Nat.add_zero, List.take_append_drop]; exact hv
  · have hm0 : 0 < m.length := by omega
    have hn0 : 0 < n := by omega
    obtain ⟨⟨a, cap, rfl, k1, k2, k3, h256, hcu⟩, hu2⟩ := hu
    clear k3 hu2
    obtain ⟨b, o1, rfl, hb1, hcell⟩ := hcu hm0
    clear hcu
    replace hd := hd hn0
    rcases hv.1.1.2 with ⟨rfl, hz⟩ | ⟨g, cp2, cur, rfl, hb, hgg, hnc, hcm, hcs, htake⟩
    · omega
    · obtain rfl := hd g _ _ rfl
      have hbl : (byteVals (m.take n)).length = min n m.length := by rw [byteVals_length, hml]
      have hrun := run_copy_row (P := Try.prog) w 22 22 o.type 5 g off n cp ⟨b, o1, none⟩ m.length cap cur 5 (byteVals (m.take n)) Try.underlying22 hsz hgg (by rw [hbl]; show min n m.length = min m.length n; omega) (fun t u ht => by
        have hjl : t < (m.take n).length := by
          have := (List.getElem?_eq_some_iff.1 ht).1
          rwa [byteVals_length] at this
        rw [Addr.add_lit, hcell t (by omega), ← ht, byteVals_at (m.take n) t hjl]
        rw [show (m.take n).getD t 0 = m.getD t 0 by simp [List.getD, show t < n by omega]]) (by rw [hbl]; omega) (byteVals_one _)
      refine ⟨w.setRow g (cur.toList.take off ++ byteVals (m.take n) ++ cur.toList.drop (off + (byteVals (m.take n)).length)).toArray, by simp [execOp, ho, resolve, invoke, builtin, hxx, hy, hrun, Result.andThen, hbl]; rfl, ⟨⟨⟨?_, .inr ⟨g, cp2, _, ?_, hb, setRow_heap w g cur _ _ _ hgg, ?_, hcm, ?_, ?_⟩⟩, hall⟩, hv.2⟩, (Kept.refl T w).setRow g (fun _ => (hv.2 g).2 rfl) _⟩
      · rw [byteVals_length]; omega
      · rw [hlen]
      · omega
      · simp [byteVals_length]; omega
      · have htk : cur.toList.take l.length = byteVals l := by simpa using htake
        have hcl : cur.toList = byteVals l ++ cur.toList.drop l.length := by rw [← htk, List.take_append_drop]
        rw [hcl]
        generalize cur.toList.drop l.length = rest2
        have hli : off ≤ (byteVals l).length := by rw [byteVals_length]; omega
        have hlj : off + (byteVals (m.take n)).length ≤ (byteVals l).length := by rw [hbl, byteVals_length]; omega
        rw [List.take_append_of_le_length hli, List.drop_append_of_le_length hlj, hlen, Nat.mul_one]
        have e2 : byteVals (l.take off ++ (m.take n ++ l.drop (off + min n m.length))) = (byteVals l).take off ++ (byteVals (m.take n) ++ (byteVals l).drop (off + (byteVals (m.take n)).length)) := by
          rw [hbl]
          simp [byteVals, List.map_take, List.map_drop]
        rw [e2]
        have e3 : ((byteVals l).take off ++ byteVals (m.take n) ++ ((byteVals l).drop (off + (byteVals (m.take n)).length) ++ rest2)) = ((byteVals l).take off ++ (byteVals (m.take n) ++ (byteVals l).drop (off + (byteVals (m.take n)).length))) ++ rest2 := by simp
        rw [e3, List.take_append_of_le_length (by simp [byteVals_length]; omega)]
        rw [List.take_of_length_le (by simp [byteVals_length]; omega)]
theorem wl_copyM {ops : Array Oper} {rest : List Oper} {c : Call} {x y : Operand} {T U : Nat → Prop} {v u : Value} {l m : List Nat} {off n : Nat} {X : Value} (hg : o.guard = none) (hd : fits N o.dst = true) (ho : o.op = .call c) (hc : c = { callee := .builtin .copy, args := #[x, y], argTypes := #[22, 22] }) (hxX : ev (cutF N F) x = X) (hp : PartAt X v off n) (hy : ev (cutF N F) y = u) (hv : Owb w T v l) (hu : Byt w U u m) (hoff : off + n ≤ l.length)
    (h : ∀ w', Owb w' T v (l.take off ++ (m.take n ++ l.drop (off + min n m.length))) → Kept T w w' → wl ro Try.prog N ops Q rest (putF F o.dst (.int .i64 ((min n m.length : Nat) : Int))) w') : wl ro Try.prog N ops Q (o :: rest) F w := by
  obtain ⟨w', hr, h1, h2⟩ := run_copyM ho hc (by rw [hxX]; exact hp) hy hv hu hoff
  exact wl_op hg hd (y_val hr (h w' h1 h2))
end

theorem stcT_by4 : StcT Try.prog 56 4 := ⟨_, Try.underlying56, rfl, by kernel_rfl⟩
def arrV (p k : Nat) : Value := .slice (some (if 4 = k then ⟨p, 0, none⟩ else ⟨p, k, none⟩)) (4 - k) (4 - k)
theorem Stc.bytes {w : World} {p t : Nat} {a b c d : Nat} (h : Stc w p t [.int .u8 (a : Int), .int .u8 (b : Int), .int .u8 (c : Int), .int .u8 (d : Int)]) (ha : a < 256) (hb : b < 256) (hc : c < 256) (hd : d < 256) {k : Nat} (hk : k ≤ 4) : Byt w (onB p) (arrV p k) ([a, b, c, d].drop k) := by
  have hl : ([a, b, c, d].drop k).length = 4 - k := by simp
  refine ⟨⟨some (if 4 = k then ⟨p, 0, none⟩ else ⟨p, k, none⟩), 4 - k, by rw [hl]; rfl, by omega, Nat.le_trans (Nat.sub_le 4 k) (by decide), (fun e => by cases e), ?_, fun hp => ⟨p, k, by rw [if_neg (by omega)], h.lt, fun i hi => ?_⟩⟩, onB_live h.lt, fun _ a' n c' e => ?_⟩
  · intro x hx
    have := List.mem_of_mem_drop hx
    simp at this
    omega
  · rw [hl] at hi
    have hc := h.cell (i := k + i) (v := .int .u8 (([a, b, c, d].drop k).getD i 0 : Nat)) (by
      have : k = 0 ∨ k = 1 ∨ k = 2 ∨ k = 3 := by omega
      have hi4 : i = 0 ∨ i = 1 ∨ i = 2 ∨ i = 3 := by omega
      rcases this with rfl | rfl | rfl | rfl <;> rcases hi4 with rfl | rfl | rfl | rfl <;> first | rfl | omega)
    exact hc
  · unfold arrV at e
    simp only [Value.slice.injEq, Option.some.injEq] at e
    rw [← e.1]
    split <;> rfl
section
variable {ρ : Operand → Value} {o : Oper} {w : World} {R : Value → World → Prop}
theorem y_cutA {x lo : Operand} {p : Nat} {kl : IntKind} (k : Nat) {il : Int} (ho : o.op = .slice 56 x (some lo) none none) (hx : ρ x = .pointer (some ⟨p, 0, none⟩)) (hl : ρ lo = .int kl il) (e1 : il = (k : Int)) (hk : k ≤ 4) (h : R (arrV p k) w) : Yields Try.prog ρ o w R := by
  subst e1
  obtain ⟨i0, hi0, hz0, hz1, hz2⟩ := info_parts Try.info_u8
  refine y_val (v := arrV p k) (w' := w) ?_ h
  have b1 : (Instr.sliceBounds false 4 4 (some (.int kl (k : Int))) none none).run Try.prog w = .ok (k, 4, 4) w := by
    simp [Instr.sliceBounds, Instr.sliceBound, asIntOf, hk]
  simp [execOp, ho, hx, hl, Instr.sliceAt, Instr.sureAddr, run_underlying Try.underlying56, b1, sizeOf, typeInfo, hi0, hz1, arrV, Addr.add_lit]
end

theorem digits_bytes : ∀ (n t : Nat) (acc : List Nat), (∀ x ∈ acc, x < 256) → ∃ l : List Nat, Extern.BytealgMakeNoZero.digits n t (byteVals acc).toArray = (byteVals l).toArray ∧ (∀ x ∈ l, x < 256) ∧ l.length = acc.length + n
  | 0, _, acc, h => ⟨acc, rfl, h, rfl⟩
  | n + 1, t, acc, h => by
    obtain ⟨l, h1, h2, h3⟩ := digits_bytes n (t / 256) (acc ++ [t % 256]) (by
      intro x hx
      rcases List.mem_append.1 hx with hx | hx
      · exact h x hx
      · simp at hx; omega)
    refine ⟨l, ?_, h2, by simp at h3; omega⟩
    rw [Extern.BytealgMakeNoZero.digits, ← h1]
    congr 1
    simp [byteVals]
theorem run_makeNoZero_bytes (w : World) (n : Nat) (hn : n < 1099511627776) :
    ∃ cs : Array Value, (Extern.BytealgMakeNoZero.makeNoZero #[3] #[22] #[.int .i64 n]).run Try.prog w = .ok (.slice (some ⟨w.heap.size, 0, none⟩) n cs.size) (w.drew.drew.alloc (.cells cs 5)) ∧ n ≤ cs.size ∧ cs.size ≤ maxLen ∧ ∃ l : List Nat, cs = (byteVals l).toArray ∧ (∀ x ∈ l, x < 256) ∧ l.length = cs.size := by
  obtain ⟨cs, hr, h1, h2⟩ := Lib.run_makeNoZero (P := Try.prog) w #[3] 22 5 Try.underlying22 n (by omega)
  refine ⟨cs, hr, h1, h2 (Nat.le_trans (Nat.le_of_lt hn) (by decide)), ?_⟩
  have h0 : ¬ (n : Int) < 0 := by omega
  have h3 : ¬ (281474976710656 : Int) < (n : Int) := by omega
  have hd : Extern.BytealgMakeNoZero.makeNoZero #[3] #[22] #[.int .i64 n] = underlying 22 >>= _ := rfl
  have hr2 := hr
  rw [hd] at hr2
  simp [run_underlying Try.underlying22, h0, h3, Question.forced, newRow] at hr2
  have e := congrArg (fun W : World => W.heap[w.drew.drew.heap.size]?) hr2.2
  simp only [heap_alloc_new] at e
  have e2 := (Obj.cells.inj (Option.some.inj e)).1
  rw [hr2.1] at e2
  obtain ⟨T, hT⟩ : ∃ T, Extern.BytealgMakeNoZero.digits cs.size T #[] = cs := ⟨_, e2⟩
  obtain ⟨l, k1, k2, k3⟩ := digits_bytes cs.size T [] (by simp)
  exact ⟨l, hT.symm.trans k1, k2, by simpa using k3⟩
/-- bytes that are made, whatever they are: 'n' of them, of a row of their own. -/
theorem wl_mnz {ro : Option Nat} {N : Nat} {Q : (Exit → (Nat → Value) → World → Prop)} {F : Nat → Value} {w : World} {o : Oper} {ops : Array Oper} {rest : List Oper} {c : Call} {x : Operand} {f : FuncId} {fn : Func} {n : Nat} {i : Int} (hg : o.guard = none) (hd : fits N o.dst = true) (ho : o.op = .call c) (hc : c = { callee := .value (.func f), args := #[x], argTypes := #[3] }) (hx : ev (cutF N F) x = .int .i64 i) (hi : i = (n : Int)) (hn : n < 1099511627776)
    (hf : Try.prog.funcs[f]? = some fn) (hname : (fn.name == "runtime.NumGoroutine") = false) (hb : fn.body.isNone = true) (hnx : Extern.findNext fn = none) (he : Extern.find fn = some (Extern.BytealgMakeNoZero.makeNoZero #[3] #[22]))
    (h : ∀ v w' T (l : List Nat), Owb w' T v l → l.length = n → Grew w noB T → Kept (fun _ => False) w w' → wl ro Try.prog N ops Q rest (putF F o.dst v) w') : wl ro Try.prog N ops Q (o :: rest) F w := by
  subst hc; subst hi
  obtain ⟨cs, hrun, hle, hmx, hcap⟩ := run_makeNoZero_bytes w n hn
  obtain ⟨J, hJ, hJ2, hJ3⟩ := hcap
  have hcall : (callFunc f #[.int .i64 (n : Int)]).run Try.prog w = .ok (.value (.slice (some ⟨w.heap.size, 0, none⟩) n cs.size)) (w.drew.drew.alloc (.cells cs 5)) := by
    rw [run_callFunc_extern hf hname hb hnx he, hrun]; rfl
  have hsz : cs.size = J.length := by rw [hJ]; simp [byteVals_length]
  refine wl_op hg hd (y_val (v := .slice (some ⟨w.heap.size, 0, none⟩) n cs.size) (w' := w.drew.drew.alloc (.cells cs 5)) (by simp [execOp, ho, resolve, ev_func, Deferred.ofValue, invoke, hx, hcall]) (h _ _ _ (J.take n) (Owb.of ⟨⟨by rw [byteVals_length]; omega, .inr ⟨w.heap.size, cs.size, cs, by rw [List.length_take, Nat.min_eq_left (by omega)], Nat.zero_le _, ?_, by rw [List.length_take]; omega, hmx, by omega, ?_⟩⟩, fun y hy => hJ2 y (List.mem_of_mem_take hy)⟩) (by rw [List.length_take]; omega) (fun i hi => .inr ?_) (((Kept.refl _ w).drew.drew).alloc _)))
  · exact heap_alloc_new w.drew.drew _
  · rw [hJ, List.length_take, Nat.min_eq_left (by omega), Nat.mul_one]
    simp [byteVals, List.map_take]
  · cases hi; exact Nat.le_refl _
end Go.Proofs.Ytomkodoclnbaoaa
