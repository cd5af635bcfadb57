/- A range over a function: the loop, and the side of the function. -/
import Derived.Test.YtipimcnjcpckeaaDoorSw
import Derived.Test.YtipimcnjcpckeaaDoorTh
import Derived.Test.YtipimcnjcpckeaaDoorSs
import Derived.RangeFuncNested
namespace Go.Proofs.YtipimcnjcpckeaaDoor
open Go.RowKit

/-! Frames of a round. -/
theorem up_same (F : Nat → Value) (d : Nat) (v : Value) : up F d v d = v := by
  unfold up
  cases hb : Nat.beq d d with
  | true => rfl
  | false => exact absurd rfl (Nat.ne_of_beq_eq_false hb)
theorem up_other (F : Nat → Value) (d : Nat) (v : Value) {t : Nat} (h : t ≠ d) : up F d v t = F t := by
  unfold up
  cases hb : Nat.beq t d with
  | false => rfl
  | true => exact absurd (Nat.eq_of_beq_eq_true hb) h
theorem Fr.last {N : Nat} {F : Nat → Value} {a : Act} (h : Fr N F a) (v : Value) (ds : List Deferred) (hd : ds = marked v) : Fr N (up F N v) { tmps := a.tmps, defers := ds } := by
  refine ⟨h.size, ?_, fun t ht => ?_⟩
  · show ds = marked (up F N v N)
    rw [up_same, hd]
  · have hlt : t < N := by simpa [Nat.blt_eq] using ht
    show a.tmps.getD t undef = up F N v t
    rw [up_other F N v (Nat.ne_of_lt hlt)]
    exact h.at' t ht
theorem Fr.mark {N : Nat} {F : Nat → Value} {a : Act} (h : Fr N F a) (D : Nat) : Fr N (up F N (markV (D :: marksOf (F N)))) { a with defers := { target := .collected D, args := #[] } :: a.defers } := by
  refine h.last _ _ ?_
  rw [h.defers]
  unfold marked
  rw [marksOf_markV]; rfl
theorem Fr.rounds {N : Nat} : ∀ (l : List (Tmp × Value)) (F : Nat → Value) (a : Act), Fr N F a → (l.all fun p => Nat.blt p.1 N) = true → Fr N (l.foldl (fun F p => up F p.1 p.2) F) { tmps := l.foldl (fun t p => t.setIfInBounds p.1 p.2) a.tmps, defers := a.defers } := by
  intro l
  induction l with
  | nil => intro F a h _; exact h
  | cons p l ih =>
    intro F a h hl
    simp only [List.all_cons, Bool.and_eq_true] at hl
    exact ih (up F p.1 p.2) (a.put (some p.1) p.2) (h.put (d := some p.1) hl.1 p.2) hl.2
/-- The frame in which a round begins. -/
def loopF (N : Nat) (F : Nat → Value) (l : List (Tmp × Value)) : Nat → Value := l.foldl (fun F p => up F p.1 p.2) (up F N undef)
theorem all_zip {N : Nat} : ∀ (pl : List Tmp) (vs : List Value), (pl.all fun p => Nat.blt p N) = true → ((pl.zip vs).all fun p => Nat.blt p.1 N) = true := by
  intro pl
  induction pl with
  | nil => intro vs _; simp
  | cons p pl ih =>
    intro vs h
    cases vs with
    | nil => simp
    | cons v vs =>
      simp only [List.all_cons, Bool.and_eq_true] at h
      simp only [List.zip_cons_cons, List.all_cons, Bool.and_eq_true]
      exact ⟨h.1, ih vs h.2⟩

/-! The loop. -/
def roundP (B : Nat) (Kp : World → World → Prop) (J : World → Prop) (W : World) : Exit → (Nat → Value) → World → Prop
  | .normal, _, W' => KeepsFrom B W W' ∧ Kp W W' ∧ J W'
  | _, _, _ => False
def heldP (W : World) (Ax : (Nat → Value) → Prop) : Exit → (Nat → Value) → World → Prop
  | .normal, F, W' => W' = W ∧ Ax F
  | _, _, _ => False
theorem held_normal {W : World} {Ax : (Nat → Value) → Prop} {F : Nat → Value} (h : Ax F) : heldP W Ax .normal F W := ⟨rfl, h⟩

theorem wq_range {α : Type} {P : Program} {N : Nat} {Q : Exit → (Nat → Value) → World → Prop} {F : Nat → Value} {w : World} {g : Operand} {ps : Array Tmp} {assign body : Code} {gf : Nat} {lb : Array Value}
    {encs : α → List Value} {U : Nat → Prop} {S Sp : List α → Prop} {M : Nat}
    (hg : ev (cutF N F) g = .func (.func gf) #[] lb) (eg : ∀ args w, (callFunc gf args).run P w = .ok (.enter gf args) w)
    (hseq : SeqStopsK Fence.wide 1 P gf lb (fun x => (encs x).toArray) (Kept U) S Sp M w) (hU : ∀ i, w.heap.size ≤ i → U i)
    (pl : List Tmp) (hpl : ps = pl.toArray) (hps : ∀ x, (encs x).length = pl.length) (hpN : (pl.all fun p => Nat.blt p N) = true)
    (I : List α → World → Prop) (hI : OwnFrom w.heap.size I) (h0 : I [] w) (Ax : α → (Nat → Value) → Prop)
    (hassign : ∀ l x W, wq (some (l + 1)) P N assign (heldP W (Ax x)) (loopF N F (pl.zip (encs x))) W)
    (hbody : ∀ (l : Nat) (pre : List α) (x : α) (F' : Nat → Value) (W : World), I pre W → Ax x F' → pre.length < M → wq (some (l + 1)) P N body (roundP w.heap.size (Kept U) (I (pre ++ [x])) W) F' W)
    (hdone : ∀ (D : Nat) (xs : List α) (W : World), w.heap.size ≤ D → S xs → I xs W → W.heap[D]? = some (.deferred (some [])) → Q .normal (up F N (markV (D :: marksOf (F N)))) W) :
    wq none P N (.rangeFunc g ps assign body) Q F w := by
  subst hpl
  intro a ha
  refine wpIn_wide.2 ((wpIn_wide (n := 2)).1 ?_)
  refine wpIn_rangeFunc_ownH rfl (by decide) (gf := gf) (lb := lb) (by rw [ha.eval]; exact hg) trivial eg hseq
    (fun h k => h.trans k (fun _ _ x => x)) (fun W l o o' hl ho hc hw => ?_) (Below.refl _ _) (fun x => by simp [hps]) I (fun _ _ _ => False) hI (fun _ _ _ _ _ h _ _ => h) h0
    (fun x a' _ => ∃ F', Fr N F' a' ∧ Ax x F') (fun _ _ _ _ _ _ h _ _ => h) ?_ ?_ ?_ ?_
  · exact (Kept.refl U W).grown (grownBy_putObj' W l o') (fun k e hk => by cases e; exact hU _ hl)
  · intro l pre x W K hi hK
    have hz : ((pl.toArray.zip (encs x).toArray).foldl (fun t (p, v) => t.setIfInBounds p v) a.tmps) = (pl.zip (encs x)).foldl (fun t p => t.setIfInBounds p.1 p.2) a.tmps := by simp
    rw [hz]
    have hf : Fr N (loopF N F (pl.zip (encs x))) { tmps := (pl.zip (encs x)).foldl (fun t p => t.setIfInBounds p.1 p.2) a.tmps, defers := [] } :=
      Fr.rounds _ _ _ (ha.last undef [] rfl) (all_zip pl _ hpN)
    refine wpIn_mono (hassign l x W _ hf) ?_
    rintro e a' w' ⟨F', hF, hq⟩
    cases e <;> first
      | (obtain ⟨rfl, hx⟩ := hq; exact hK a' _ (KeepsFrom.refl _ _) (Kept.refl _ _) hi ⟨F', hF, hx⟩)
      | exact hq.elim
  · rintro l pre x a' W _ _ hi ⟨F', hF, hx⟩ hlt
    refine wpIn_mono (hbody l pre x F' W hi hx hlt a' hF) ?_
    rintro e a'' w' ⟨F'', _, hq⟩
    cases e <;> first | exact hq | exact hq.elim
  · intro D xs W hD hS hi hd
    exact ⟨_, ha.mark D, hdone D xs W hD hS hi hd⟩
  · intro D c pre W _ _ h _
    exact h.elim

/-! The side of the function that is ranged over. -/
section
variable {P : Program} {N : Nat} {Q : (Exit → (Nat → Value) → World → Prop)} {F : Nat → Value} {w : World}
theorem wq_region_y {id : Nat} {os : List Oper} (h : wl (some 0) P N os.toArray Q os F w) : wq none P N (.region id os.toArray false) Q F w := wq_region (l := some 0) h
theorem wl_yield {ops : Array Oper} {o : Oper} {rest : List Oper} {R : Ending → World → Prop} {l : Nat} {c : Call} {cx : Operand} {xs : List Operand} {vs : List Value} (hg : o.guard = none) (hd : fits N o.dst = true) (ho : o.op = .call c) (hc : c.callee = .value cx) (hcx : ev (cutF N F) cx = .func (.yield l) #[] #[])
    (hx : c.args = xs.toArray) (hv : xs.map (ev (cutF N F)) = vs) (hY : YieldAt Fence.wide 0 P l vs.toArray w R)
    (h : ∀ e w', R e w' → ∃ v, e = .returned v ∧ wl (some 0) P N ops Q rest (putF F o.dst v) w') : wl (some 0) P N ops Q (o :: rest) F w := by
  intro a ha
  show wpListIn Fence.wide 0 P ops (Fp N Q) (o :: rest) a w
  refine wpListIn_step fun K hK => ?_
  rw [if_pos (by unfold Region.wanted; rw [hg])]
  refine ⟨fun f _ => trivial, ?_⟩
  have hnd : ∀ c, o.op ≠ .defer c := fun c' e => by rw [ho] at e; cases e
  rw [Oper.semAt_eq _ _ _ hnd]
  obtain ⟨cl, ars, ts⟩ := c
  simp only at hc hx
  subst hc; subst hx; subst hv
  obtain ⟨fn, tmps, assign, body, hy, hR⟩ := hY
  have e : (execOp a.eval o).run P w = .ok (.round l fn tmps assign body) w := by
    rw [ha.eval, ← hy]
    simp [execOp, ho, resolve, hcx, Deferred.ofValue, invoke]
  rw [e]
  refine ⟨fun e => (by cases e), hR.mono ?_⟩
  intro e' w' hr
  obtain ⟨v, rfl, hk⟩ := h e' w' hr
  exact hK _ _ (hk _ (ha.put hd v))
end
/-- What the body of the loop has been given so far. -/
def Jat {α : Type} (w : World) (_U : Nat → Prop) (J : List α → World → Prop) (pre : List α) : Prop := J pre w ∧ AbidesFrom w.heap.size J
theorem Jat.all {α : Type} {w w' : World} {U : Nat → Prop} {J : List α → World → Prop} {pre : List α} (h : Jat w U J pre) (k : Kept (fun _ => False) w w') (_ : Apart U (fun _ => False)) : Jat w' U J pre :=
  ⟨h.2 _ _ _ none h.1 ⟨k.os, k.tape, k.output, k.size, fun i hi _ => k.block i hi id⟩ (fun _ e => by cases e),
   fun s W W' row hs hg hr => h.2 s W W' row hs hg (fun r e => ⟨Nat.le_trans k.size (hr r e).1, (hr r e).2⟩)⟩
theorem Jat.next {α : Type} {w w' : World} {U : Nat → Prop} {J : List α → World → Prop} {pre xs : List α} (h : Jat w U J pre) (hs : w.heap.size ≤ w'.heap.size) (hj : J xs w') : Jat w' U J xs :=
  ⟨hj, fun s W W' row hs' hg hr => h.2 s W W' row hs' hg (fun r e => ⟨Nat.le_trans hs (hr r e).1, (hr r e).2⟩)⟩

/-! What the loop's own records turn, and what not. -/
def RowNew (B : Nat) (A : World) (row : Option Nat) : Prop := ∀ r, row = some r → B ≤ r ∧ ∃ o : Obj, A.heap[r]? = some o ∧ o.isCells = false
def Cells (A : World) (T : Nat → Prop) : Prop := ∀ i, T i → ∃ o : Obj, A.heap[i]? = some o ∧ o.isCells = true
theorem kept_row {A B : World} {row : Option Nat} (hg : A.grownBy B row) : Kept (fun k => some k = row) A B := ⟨hg.os, hg.tape, hg.output, hg.size, fun k hk hn => hg.block k hk hn⟩
theorem Cells.apart {A : World} {T : Nat → Prop} {row : Option Nat} {n : Nat} (h : Cells A T) (hr : RowNew n A row) : Apart T (fun k => some k = row) := fun i hi e => by
  obtain ⟨o, ho, hc⟩ := h i hi
  obtain ⟨_, o', ho', hc'⟩ := hr i e.symm
  rw [ho] at ho'; cases ho'; rw [hc] at hc'; cases hc'
theorem Kept.row {S : Nat → Prop} {w0 A B : World} {row : Option Nat} {n : Nat} (h : Kept S w0 A) (hg : A.grownBy B row) (hr : RowNew n A row) (hn : w0.heap.size ≤ n) : Kept S w0 B := h.grown hg (fun k e hk => absurd (hr k e).1 (by omega))
theorem Cells.keeps {W W' : World} {S : Nat → Prop} (hc : Cells W S) (k : Kept S W W') (B : Nat) : KeepsFrom B W W' := ⟨k.size, fun i o _ hi ho => by
  have hlt := (Array.getElem?_eq_some_iff.1 hi).1
  refine (k.block i hlt fun hs => ?_).trans hi
  obtain ⟨o', h1, h2⟩ := hc i hs
  rw [hi] at h1; cases h1; rw [ho] at h2; cases h2⟩
theorem Cells.or {A : World} {T U : Nat → Prop} (h : Cells A T) (k : Cells A U) : Cells A (fun i => T i ∨ U i) := fun i hi => hi.elim (h i) (k i)
theorem Cells.no {A : World} : Cells A (fun _ => False) := fun _ h => h.elim
theorem cells_of_heap {A : World} {p : Nat} {c : Array Value} {t : TypeId} {z : Nat × Nat} (h : A.heap[p]? = some (.cells c t z)) : Cells A (onB p) := fun i hi => by
  cases hi; exact ⟨_, h, rfl⟩
theorem Blk.cells {w : World} {p : Nat} {t : TypeId} {b : Nat → Int} (h : Blk w p t b) : Cells w (onB p) := cells_of_heap h
theorem Cel.cells {w : World} {p : Nat} {t : TypeId} {v : Value} (h : Cel w p t v) : Cells w (onB p) := cells_of_heap h
theorem Wri.cells {w : World} {T : Nat → Prop} {p : Nat} {bs : List Bool} (h : Wri w T p bs) : Cells w T := by
  obtain ⟨r, rfl, v, h1, ho, hv, _⟩ := h
  intro i hi
  rcases hi with rfl | hi
  · exact ⟨_, h1, rfl⟩
  · rcases ho.2 with ⟨hn, _⟩ | ⟨g, cap, cur, rfl, hb, hg, rest⟩
    · subst hn; rw [← hv] at hi; cases hi
    · rw [← hv] at hi; cases hi; exact ⟨_, hg, rfl⟩
theorem Blk.row {A B : World} {row : Option Nat} {n p : Nat} {t : TypeId} {b : Nat → Int} (h : Blk A p t b) (hg : A.grownBy B row) (hr : RowNew n A row) : Blk B p t b := h.all (kept_row hg) (h.cells.apart hr p rfl)
theorem Cel.row {A B : World} {row : Option Nat} {n p : Nat} {t : TypeId} {v : Value} (h : Cel A p t v) (hg : A.grownBy B row) (hr : RowNew n A row) : Cel B p t v := h.all (kept_row hg) (h.cells.apart hr p rfl)
theorem Wri.row {A B : World} {row : Option Nat} {n p : Nat} {T : Nat → Prop} {bs : List Bool} (h : Wri A T p bs) (hg : A.grownBy B row) (hr : RowNew n A row) : Wri B T p bs := h.all (kept_row hg) (h.cells.apart hr)

/-! The block of a loop's marks. -/
def Mrk (w : World) (D : Nat) : Prop := w.heap[D]? = some (.deferred (some []))
theorem Mrk.all {S : Nat → Prop} {w w' : World} {D : Nat} (h : Mrk w D) (k : Kept S w w') (hn : ¬ S D) : Mrk w' D := k.at h hn
theorem Mrk.lt {w : World} {D : Nat} (h : Mrk w D) : D < w.heap.size := lt_of_heap h
theorem Mrk.apart {w : World} {D : Nat} {T : Nat → Prop} (h : Mrk w D) (hc : Cells w T) : Apart (onB D) T := fun i hi ht => by
  cases hi
  obtain ⟨o, ho, hx⟩ := hc _ ht
  rw [show w.heap[D]? = _ from h] at ho; cases ho; cases hx
theorem kept_shut (w : World) (D : Nat) : Kept (onB D) w (shut [D] w) := (Kept.refl (onB D) w).grown (grownBy_putObj' w D _) (fun k e _ => by cases e; rfl)
theorem Mrk.opens {w : World} {D : Nat} (h : Mrk w D) : Opens [D] w := ⟨h, trivial⟩

section
variable {P : Program} {fn : Func} {N : Nat} {R : Ending → World → Prop} {F : Nat → Value} {w : World}
theorem endm_tmp {ms : List Nat} {t : Tmp} {v : Value} (hm : F N = markV ms) (ho : Opens ms w) (ht : Nat.blt t N = true) (h : fn.results = #[.tmp t]) (hv : F t = v) (hR : R (.returned v) (shut ms w)) : endM P fn N R .ret F w :=
  ⟨ms, hm, ho, fun a ha => ⟨v, by rw [results_tmp h]; rw [ha.at' t ht, hv], hR⟩⟩
theorem endm_none {ms : List Nat} (hm : F N = markV ms) (ho : Opens ms w) (h : fn.results = #[]) (hR : R (.returned (.tuple #[])) (shut ms w)) : endM P fn N R .normal F w := ⟨ms, hm, ho, fun _ _ => ⟨_, results_none h _ _ _, hR⟩⟩
theorem endm_none_ret {ms : List Nat} (hm : F N = markV ms) (ho : Opens ms w) (h : fn.results = #[]) (hR : R (.returned (.tuple #[])) (shut ms w)) : endM P fn N R .ret F w := ⟨ms, hm, ho, fun _ _ => ⟨_, results_none h _ _ _, hR⟩⟩
end
end Go.Proofs.YtipimcnjcpckeaaDoor
