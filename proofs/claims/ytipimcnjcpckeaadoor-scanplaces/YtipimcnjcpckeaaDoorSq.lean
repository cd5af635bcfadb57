/- A frame as what each slot holds; each kind of code by what it leaves of that. No program in it. -/
import Derived.Test.YtipimcnjcpckeaaDoorRt
import Derived.Test.YtipimcnjcpckeaaDoorYb
import Derived.Deep.LoopGhost
import Derived.TacticsIn
import Derived.RangeFuncCalls
namespace Go.Proofs.YtipimcnjcpckeaaDoor
open Go.RowKit

/-- The blocks of the loops over functions that are behind: they lie in F behind the slots. -/
def marksOf : Value → List Nat
  | .tuple vs => vs.toList.filterMap fun | .int .i64 n => some n.toNat | _ => none
  | _ => []
def markV (ms : List Nat) : Value := .tuple (ms.map fun D : Nat => Value.int .i64 (D : Int)).toArray
theorem marksOf_markV (ms : List Nat) : marksOf (markV ms) = ms := by
  unfold marksOf markV
  induction ms with
  | nil => rfl
  | cons D ms ih => simpa using ih
def marked (v : Value) : List Deferred := (marksOf v).map fun D => { target := .collected D, args := #[] }

/-- What the slots hold. -/
structure Fr (N : Nat) (F : Nat → Value) (a : Act) : Prop where
  size : a.tmps.size = N
  defers : a.defers = marked (F N)
  at' : ∀ t, Nat.blt t N = true → a.tmps.getD t undef = F t

def ev (F : Nat → Value) : Operand → Value
  | .tmp t => F t
  | .const v => v
  | .global g => .pointer (some ⟨g, 0, none⟩)
  | .func f => .func (.func f) #[] #[]
/-- The slots alone. -/
def cutF (N : Nat) (F : Nat → Value) : Nat → Value := fun t => cond (Nat.blt t N) (F t) undef

theorem eval_ev (a : Act) : a.eval = ev (fun t => a.tmps.getD t undef) := by funext x; cases x <;> rfl
theorem Fr.cut {N : Nat} {F : Nat → Value} {a : Act} (h : Fr N F a) : (fun t => a.tmps.getD t undef) = cutF N F := by
  funext t
  unfold cutF
  cases hb : Nat.blt t N with
  | true => exact h.at' t hb
  | false =>
    have hle : N ≤ t := by
      rcases Nat.lt_or_ge t N with h1 | h1
      · have hb2 : Nat.blt t N = true := by simpa [Nat.blt_eq] using h1
        rw [hb2] at hb; cases hb
      · exact h1
    simp [Array.getD_eq_getD_getElem?, Array.getElem?_eq_none (by rw [h.size]; exact hle)]
theorem Fr.eval {N : Nat} {F : Nat → Value} {a : Act} (h : Fr N F a) : a.eval = ev (cutF N F) := by rw [eval_ev, h.cut]

def up (F : Nat → Value) (d : Nat) (v : Value) : Nat → Value := fun t => cond (Nat.beq t d) v (F t)
def putF (F : Nat → Value) : Option Tmp → Value → Nat → Value
  | none, _ => F
  | some d, v => up F d v
def fits (N : Nat) : Option Tmp → Bool
  | none => true
  | some d => Nat.blt d N

theorem Fr.put {N : Nat} {F : Nat → Value} {a : Act} (h : Fr N F a) {d : Option Tmp} (hd : fits N d = true) (v : Value) : Fr N (putF F d v) (a.put d v) := by
  cases d with
  | none => exact h
  | some d =>
    have hdn : d < N := by simpa [fits, Nat.blt_eq] using hd
    have hlt : d < a.tmps.size := by rw [h.size]; exact hdn
    have hN : up F d v N = F N := by
      unfold up
      cases hb : Nat.beq N d with
      | false => rfl
      | true => exact absurd (Nat.eq_of_beq_eq_true hb) (Nat.ne_of_gt hdn)
    refine ⟨by rw [← h.size]; simp [Act.put], ?_, fun t ht => ?_⟩
    · show a.defers = marked (up F d v N)
      rw [hN]; exact h.defers
    · show (a.tmps.setIfInBounds d v).getD t undef = up F d v t
      unfold up
      by_cases e : t = d
      · subst e; simp [Array.getD_eq_getD_getElem?, hlt]
      · have : Nat.beq t d = false := by
          cases hb : Nat.beq t d with
          | false => rfl
          | true => exact absurd (Nat.eq_of_beq_eq_true hb) e
        rw [this, cond_false, ← h.at' t ht]
        simp only [Array.getD_eq_getD_getElem?, Array.getElem?_setIfInBounds_ne (Ne.symm e)]

def Fp (N : Nat) (Q : (Exit → (Nat → Value) → World → Prop)) : Exit → Act → World → Prop := fun e a w => ∃ F, Fr N F a ∧ Q e F w
/-- Where the code runs: in a function's own run (none; some 0: where it calls the body of a loop over it), or in a round of a range over a function, whose record is l (some (l + 1)). -/
def fen : Option Nat → Fence
  | none => Fence.wide
  | some 0 => Fence.wide
  | some (l + 1) => Fence.wide.inRound l
theorem fen_fn (l : Option Nat) (f : FuncId) : (fen l).fn f := by
  rcases l with _ | _ | l <;> trivial
theorem fen_depth (l : Option Nat) : (fen l).depth = none := by
  rcases l with _ | _ | l <;> rfl
def wq (l : Option Nat) (P : Program) (N : Nat) (c : Code) (Q : (Exit → (Nat → Value) → World → Prop)) (F : Nat → Value) (w : World) : Prop := ∀ a, Fr N F a → c.wpIn (fen l) 0 P (Fp N Q) a w

theorem not_deferred {P : Program} {ρ : Operand → Value} {o : Oper} {w : World} {R : Value → World → Prop} (h : Yields P ρ o w R) : ∀ c, o.op ≠ .defer c := by
  intro c hc
  unfold Yields at h
  simp only [execOp, hc, Sem.run_bind] at h
  cases hr : (resolve ρ c o.type).run P w with
  | ok d w' => simp [hr] at h
  | halt x w' => simp [hr] at h
theorem calls_fen {l : Option Nat} {n : Nat} {P : Program} {f : FuncId} {args : Array Value} {w : World} {R : Ending → World → Prop} (h : Calls P f args w R) : CallsIn (fen l) n P f args w R := by
  rcases l with _ | _ | l
  · exact callsIn_wide.2 h
  · exact callsIn_wide.2 h
  · exact CallsIn.inRound l (callsIn_wide.2 h)
theorem Yields.wpIn {l : Option Nat} {P : Program} {a : Act} {o : Oper} {w : World} {K : Act → World → Prop} {Q : Exit → Act → World → Prop} (h : Yields P a.eval o w (fun v w' => K (a.put o.dst v) w')) : o.wpIn (fen l) 0 P a w K Q := by
  refine ⟨fun f _ => fen_fn l f, ?_⟩
  rw [Oper.semAt_eq _ _ _ (not_deferred h)]
  unfold Yields at h
  generalize (execOp a.eval o).run P w = r at *
  cases r with
  | ok n w' =>
    cases n <;> simp only at h <;> first
      | exact h
      | exact h.elim
      | exact ⟨fun e => (by rw [fen_depth] at e; cases e), (calls_fen h).mono (fun e w'' ⟨v, he, hk⟩ => by subst he; exact hk)⟩
  | halt x w' => exact h.elim

def thenP (next : (Nat → Value) → World → Prop) (Q : (Exit → (Nat → Value) → World → Prop)) : (Exit → (Nat → Value) → World → Prop)
  | .normal, F, w => next F w
  | e, F, w => Q e F w
def inP (id : Nat) (Q : (Exit → (Nat → Value) → World → Prop)) : (Exit → (Nat → Value) → World → Prop)
  | .exit id', F, w => if id' = id then Q .normal F w else Q (.exit id') F w
  | e, F, w => Q e F w

section
variable {l : Option Nat} {P : Program} {N : Nat} {Q : (Exit → (Nat → Value) → World → Prop)} {F : Nat → Value} {w : World}

theorem then_normal {next : (Nat → Value) → World → Prop} (h : next F w) : thenP next Q .normal F w := h
theorem then_exit {next : (Nat → Value) → World → Prop} {id : Nat} (h : Q (.exit id) F w) : thenP next Q (.exit id) F w := h
theorem then_ret {next : (Nat → Value) → World → Prop} (h : Q .ret F w) : thenP next Q .ret F w := h
theorem in_normal {id : Nat} (h : Q .normal F w) : inP id Q .normal F w := h
theorem in_here {id : Nat} (h : Q .normal F w) : inP id Q (.exit id) F w := by simp only [inP, if_true]; exact h
theorem in_other {id id' : Nat} (hn : id' ≠ id) (h : Q (.exit id') F w) : inP id Q (.exit id') F w := by simp only [inP, if_neg hn]; exact h
theorem in_ret {id : Nat} (h : Q .ret F w) : inP id Q .ret F w := h

theorem wq_seq {x y : Code} (h : wq l P N x (thenP (wq l P N y Q) Q) F w) : wq l P N (.seq x y) Q F w := by
  intro a ha
  refine wpIn_seq (wpIn_mono (h a ha) ?_)
  rintro e a' w' ⟨F', hF, hq⟩
  cases e <;> first | exact hq a' hF | exact ⟨F', hF, hq⟩
theorem wq_skip (h : Q .normal F w) : wq l P N .skip Q F w := fun _ ha => wpIn_skip ⟨F, ha, h⟩
theorem wq_exit {id : Nat} (h : Q (.exit id) F w) : wq l P N (.exit id) Q F w := fun _ ha => wpIn_exit ⟨F, ha, h⟩
theorem wq_ret (h : Q .ret F w) : wq l P N .ret Q F w := fun _ ha => wpIn_ret ⟨F, ha, h⟩
theorem wq_cond {c : Operand} {x y : Code} {t : Bool} (hc : ev (cutF N F) c = .bool t) (ht : t = true → wq l P N x Q F w) (hf : t = false → wq l P N y Q F w) : wq l P N (.cond c x y) Q F w :=
  fun a ha => wpIn_cond_split (by rw [ha.eval]; exact hc) (fun e => ht e a ha) (fun e => hf e a ha)
theorem wq_block {id : Nat} {c : Code} (h : wq l P N c (inP id Q) F w) : wq l P N (.block id c) Q F w := by
  intro a ha
  refine wpIn_block (wpIn_mono (h a ha) ?_)
  rintro e a' w' ⟨F', hF, hq⟩
  cases e with
  | exit id' =>
    simp only [inP] at hq
    simp only [Exit.inBlock]
    split
    · rename_i e; rw [if_pos e] at hq; exact ⟨F', hF, hq⟩
    · rename_i e; rw [if_neg e] at hq; exact ⟨F', hF, hq⟩
  | _ => exact ⟨F', hF, hq⟩
theorem wq_loop {c : Code} (I : Nat → (Nat → Value) → World → Prop) (n0 : Nat) (h0 : I n0 F w)
    (round : ∀ n F w, I n F w → wq l P N c (thenP (fun F' w' => ∃ n', n' < n ∧ I n' F' w') Q) F w) : wq l P N (.loop c) Q F w := by
  intro a ha
  refine wpIn_loop (fun a w => ∃ n, ∃ F, Fr N F a ∧ I n F w) (fun a w => leastOf (fun n => ∃ F, Fr N F a ∧ I n F w)) ⟨n0, F, ha, h0⟩ ?_
  intro a w hex
  have hl := leastOf_spec hex
  generalize leastOf (fun n => ∃ F, Fr N F a ∧ I n F w) = n at hl
  obtain ⟨⟨F, hF, hI⟩, _⟩ := hl
  refine wpIn_mono (round n F w hI a hF) ?_
  rintro e a' w' ⟨F', hF', hq⟩
  cases e with
  | normal =>
    obtain ⟨n', hlt, hI'⟩ := hq
    refine ⟨⟨n', F', hF', hI'⟩, Nat.lt_of_le_of_lt ?_ hlt⟩
    exact (leastOf_spec (p := fun n => ∃ F, Fr N F a' ∧ I n F w') ⟨n', F', hF', hI'⟩).2 n' ⟨F', hF', hI'⟩
  | _ => exact ⟨F', hF', hq⟩

/-! A region whose order is that of the text. -/
def lists (l : Option Nat) (P : Program) (ops : Array Oper) (Q : Exit → Act → World → Prop) (rest : List Oper) (a : Act) (w : World) : Prop :=
  match l with
  | none => wpList P ops Q rest a w
  | some l => wpListIn (fen (some l)) 0 P ops Q rest a w
def wl (l : Option Nat) (P : Program) (N : Nat) (ops : Array Oper) (Q : (Exit → (Nat → Value) → World → Prop)) (rest : List Oper) (F : Nat → Value) (w : World) : Prop := ∀ a, Fr N F a → lists l P ops (Fp N Q) rest a w

theorem lists_step {l : Option Nat} {P : Program} {ops : Array Oper} {Q : Exit → Act → World → Prop} {o : Oper} {rest : List Oper} {a : Act} {w : World} (hw : Region.wanted o (yielded ops a.tmps) = true) (h : Yields P a.eval o w (fun v w' => lists l P ops Q rest (a.put o.dst v) w')) : lists l P ops Q (o :: rest) a w := by
  cases l with
  | none =>
    refine BigFrame.wpList_want hw fun K hK => Yields.wp ?_
    revert h
    unfold Yields
    generalize (execOp a.eval o).run P w = r
    intro h
    cases r with
    | ok n w' =>
      cases n <;> simp only at h ⊢ <;> first
        | exact hK _ _ h
        | exact h.elim
        | exact Calls.mono h (fun e w'' ⟨v, he, hk⟩ => ⟨v, he, hK _ _ hk⟩)
    | halt x w' => exact h.elim
  | some l =>
    refine wpListIn_step fun K hK => ?_
    rw [if_pos hw]
    refine Yields.wpIn (l := some l) ?_
    revert h
    unfold Yields
    generalize (execOp a.eval o).run P w = r
    intro h
    cases r with
    | ok n w' =>
      cases n <;> simp only at h ⊢ <;> first
        | exact hK _ _ h
        | exact h.elim
        | exact Calls.mono h (fun e w'' ⟨v, he, hk⟩ => ⟨v, he, hK _ _ hk⟩)
    | halt x w' => exact h.elim
theorem lists_pass {l : Option Nat} {P : Program} {ops : Array Oper} {Q : Exit → Act → World → Prop} {o : Oper} {rest : List Oper} {a : Act} {w : World} (hw : Region.wanted o (yielded ops a.tmps) = false) (h : lists l P ops Q rest (a.put o.dst undef) w) : lists l P ops Q (o :: rest) a w := by
  cases l with
  | none =>
    show wpList P ops Q (o :: rest) a w
    unfold wpList
    rw [hw]; exact h
  | some l =>
    show wpListIn (fen (some l)) 0 P ops Q (o :: rest) a w
    unfold wpListIn
    rw [hw]; exact ⟨fun f _ => fen_fn _ f, h⟩
theorem lists_region {l : Option Nat} {P : Program} {Q : Exit → Act → World → Prop} {id : Nat} {ops : List Oper} {a : Act} {w : World} (h : lists l P ops.toArray Q ops a w) : (Code.region id ops.toArray false).wpIn (fen l) 0 P Q a w := by
  cases l with
  | none => exact wpIn_wide.2 (wp_region_lit h)
  | some l => exact wpIn_region_lit h
theorem lists_nil {l : Option Nat} {P : Program} {ops : Array Oper} {Q : Exit → Act → World → Prop} {a : Act} {w : World} (h : Q .normal a w) : lists l P ops Q [] a w := by
  cases l <;> exact h

theorem wq_region {id : Nat} {os : List Oper} (h : wl l P N os.toArray Q os F w) : wq l P N (.region id os.toArray false) Q F w := fun a ha => lists_region (h a ha)
theorem wl_nil {ops : Array Oper} (h : ∀ F', (∀ t, F' t = F t) → Q .normal F' w) : wl l P N ops Q [] F w := fun _ ha => lists_nil ⟨F, ha, h F fun _ => rfl⟩

theorem puts_of {N : Nat} {F : Nat → Value} {a : Act} {l : Option Nat} {P : Program} {ops : Array Oper} {Q : (Exit → (Nat → Value) → World → Prop)} {o : Oper} {rest : List Oper} {w : World} (ha : Fr N F a) (hd : fits N o.dst = true) (h : Yields P (ev (cutF N F)) o w (fun v w' => wl l P N ops Q rest (putF F o.dst v) w')) :
    Yields P a.eval o w (fun v w' => lists l P ops (Fp N Q) rest (a.put o.dst v) w') := by
  rw [← ha.eval] at h
  revert h
  unfold Yields
  generalize (execOp a.eval o).run P w = r
  intro h
  cases r with
  | ok n w' =>
    cases n <;> simp only at h ⊢ <;> first
      | exact h _ (ha.put hd _)
      | exact h.elim
      | exact Calls.mono h (fun e w'' ⟨v, he, hk⟩ => ⟨v, he, hk _ (ha.put hd _)⟩)
  | halt x w' => exact h.elim
theorem wl_op {ops : Array Oper} {o : Oper} {rest : List Oper} (hg : o.guard = none) (hd : fits N o.dst = true) (h : Yields P (ev (cutF N F)) o w (fun v w' => wl l P N ops Q rest (putF F o.dst v) w')) : wl l P N ops Q (o :: rest) F w :=
  fun _ ha => lists_step (by unfold Region.wanted; rw [hg]) (puts_of ha hd h)

theorem yielded_of {ops : Array Oper} {a : Act} {j : Nat} {d : Tmp} (ha : Fr N F a) (hj : (ops[j]?).bind (·.dst) = some d) (hd : Nat.blt d N = true) : yielded ops a.tmps j = match F d with | .bool b => some b | _ => none := by
  have hlt : d < a.tmps.size := by rw [ha.size]; simpa [Nat.blt_eq] using hd
  have he : a.tmps[d] = F d := by rw [← ha.at' d hd]; simp [Array.getD, hlt]
  unfold yielded
  rw [hj]
  simp only [Option.bind_some, Array.getElem?_eq_getElem hlt, he]
  cases F d <;> rfl

theorem wl_when {ops : Array Oper} {o : Oper} {rest : List Oper} (j : Nat) (want : Bool) (d : Tmp) (hg : o.guard = some (j, want)) (hj : (ops[j]?).bind (·.dst) = some d) (hdn : Nat.blt d N = true) (hv : F d = .bool want) (hd : fits N o.dst = true)
    (h : Yields P (ev (cutF N F)) o w (fun v w' => wl l P N ops Q rest (putF F o.dst v) w')) : wl l P N ops Q (o :: rest) F w := by
  intro a ha
  refine lists_step ?_ (puts_of ha hd h)
  unfold Region.wanted
  rw [hg]
  simp only [yielded_of ha hj hdn, hv]
  simp

theorem wl_unless {ops : Array Oper} {o : Oper} {rest : List Oper} (j : Nat) (want : Bool) (d : Tmp) (hg : o.guard = some (j, want)) (hj : (ops[j]?).bind (·.dst) = some d) (hdn : Nat.blt d N = true) (hv : F d = .bool (!want) ∨ F d = undef) (hd : fits N o.dst = true)
    (h : wl l P N ops Q rest (putF F o.dst undef) w) : wl l P N ops Q (o :: rest) F w := by
  intro a ha
  refine lists_pass ?_ (h _ (ha.put hd _))
  unfold Region.wanted
  rw [hg]
  simp only [yielded_of ha hj hdn]
  rcases hv with hv | hv <;> rw [hv]
  · cases want <;> simp
  · simp [undef]

/-- A call that answers one value and turns nothing that is there. -/
theorem wl_call {ops : Array Oper} {o : Oper} {rest : List Oper} {R : Value → World → Prop} (hg : o.guard = none) (hd : fits N o.dst = true) (hy : Yields P (ev (cutF N F)) o w R) (h : ∀ v w', R v w' → wl l P N ops Q rest (putF F o.dst v) w') : wl l P N ops Q (o :: rest) F w := by
  refine wl_op hg hd ?_
  revert hy
  unfold Yields
  generalize (execOp (ev (cutF N F)) o).run P w = r
  intro hy
  cases r with
  | ok n w' =>
    cases n <;> simp only at hy ⊢ <;> first
      | exact h _ _ hy
      | exact hy.elim
      | exact Calls.mono hy (fun e w'' ⟨v, he, hk⟩ => ⟨v, he, h _ _ hk⟩)
  | halt x w' => exact hy.elim

/-! A region that draws its order: each operation looked at once, then what comes last as it stands. -/
def DepsF (D : List (Option Tmp)) (G : Nat → Value → World → Prop) (F : Nat → Value) (w : World) : List Edge → Prop
  | [] => True
  | e :: r => (Region.binds .any e = true → match D.getD e.on none with
    | some d => G e.on (F d) w
    | none => True) ∧ DepsF D G F w r

theorem Deps.toF {D : List (Option Tmp)} {G : Nat → Value → World → Prop} {a : Act} {w : World} : ∀ {es : List Edge}, Deps D G a w es → DepsF D G (fun t => a.tmps.getD t undef) w es := by
  intro es
  induction es with
  | nil => intro _; exact trivial
  | cons e r ih => intro h; exact ⟨h.1, ih h.2⟩

theorem DepsF.get {D : List (Option Tmp)} {G : Nat → Value → World → Prop} {F : Nat → Value} {w : World} : ∀ {es : List Edge} (k : Nat) {e : Edge} {d : Tmp}, DepsF D G F w es → es[k]? = some e → Region.binds .any e = true → D.getD e.on none = some d → G e.on (F d) w := by
  intro es
  induction es with
  | nil => intro k e d _ h; simp at h
  | cons x r ih =>
    intro k e d h hk hb hd
    cases k with
    | zero =>
      simp at hk
      subst hk
      have := h.1 hb
      rw [hd] at this
      exact this
    | succ k => exact ih k h.2 (by simpa using hk) hb hd

/-- What is asked of one operation. -/
def StepF (N : Nat) (P : Program) (D : List (Option Tmp)) (Gs : List Pd) (F0 : Nat → Value) (w0 : World) (i : Nat) (o : Oper) : Prop :=
  ∀ (F : Nat → Value) (w : World), Kept (fun _ => False) w0 w → (∀ t, Nat.blt t N = true → some t ∉ D → F t = F0 t) → DepsF D (Said Gs) F w o.after.toList →
    match o.guard with
    | none => Yields P (ev F) o w (fun v w' => Said Gs i v w' ∧ Kept (fun _ => False) w w')
    | some (j, want) => ∃ d, D.getD j none = some d ∧
      ((F d = .bool want ∧ Yields P (ev F) o w (fun v w' => Said Gs i v w' ∧ Kept (fun _ => False) w w')) ∨ ((F d = .bool (!want) ∨ F d = undef) ∧ Said Gs i undef w))

def StepsF (N : Nat) (P : Program) (D : List (Option Tmp)) (Gs : List Pd) (F0 : Nat → Value) (w0 : World) : Nat → List Oper → Prop
  | _, [] => True
  | i, o :: r => StepF N P D Gs F0 w0 i o ∧ StepsF N P D Gs F0 w0 (i + 1) r

theorem StepF.step {D : List (Option Tmp)} {Gs : List Pd} {w0 : World} {i : Nat} {o : Oper} {a0 : Act} (ha : Fr N F a0) (h : StepF N P D Gs F w0 i o) : Step P (Kept (fun _ => False)) D (Said Gs) a0 w0 i o := by
  intro a w hR hout hD
  have h1 := h (fun t => a.tmps.getD t undef) w hR (fun t hb ht => by rw [← ha.at' t hb]; exact hout t ht) hD.toF
  rw [← eval_ev a] at h1
  unfold goes
  cases hg : o.guard with
  | none => rw [hg] at h1; exact ⟨fun _ => h1, fun e => by cases e⟩
  | some g =>
    obtain ⟨j, want⟩ := g
    rw [hg] at h1
    obtain ⟨d, hd, h1⟩ := h1
    simp only [hd]
    have hev : a.eval (.tmp d) = a.tmps.getD d undef := rfl
    rcases h1 with ⟨hv, hy⟩ | ⟨hv, hs⟩
    · rw [hev, hv]; exact ⟨fun _ => hy, fun e => by simp at e⟩
    · refine ⟨fun e => ?_, fun _ => hs⟩
      rcases hv with hv | hv
      · rw [hev, hv] at e; cases want <;> simp at e
      · rw [hev, hv] at e; simp [undef] at e

theorem StepsF.steps {D : List (Option Tmp)} {Gs : List Pd} {w0 : World} {a0 : Act} (ha : Fr N F a0) : ∀ {os : List Oper} {i : Nat}, StepsF N P D Gs F w0 i os → Steps P (Kept (fun _ => False)) D (Said Gs) a0 w0 i os := by
  intro os
  induction os with
  | nil => intro i _; exact trivial
  | cons o r ih => intro i h; exact ⟨h.1.step ha, ih h.2⟩

theorem stepsF_nil {D : List (Option Tmp)} {Gs : List Pd} {F0 : Nat → Value} {w0 : World} {i : Nat} : StepsF N P D Gs F0 w0 i [] := trivial
theorem stepsF_cons {D : List (Option Tmp)} {Gs : List Pd} {F0 : Nat → Value} {w0 : World} {i : Nat} {o : Oper} {r : List Oper} (h : StepF N P D Gs F0 w0 i o) (k : StepsF N P D Gs F0 w0 (i + 1) r) : StepsF N P D Gs F0 w0 i (o :: r) := ⟨h, k⟩

theorem StepF.one {D : List (Option Tmp)} {Gs : List Pd} {F0 : Nat → Value} {w0 : World} {i : Nat} {o : Oper} (hg : o.guard = none)
    (h : ∀ (F : Nat → Value) (w : World), Kept (fun _ => False) w0 w → (∀ t, Nat.blt t N = true → some t ∉ D → F t = F0 t) → DepsF D (Said Gs) F w o.after.toList → Yields P (ev F) o w (fun v w' => Said Gs i v w' ∧ Kept (fun _ => False) w w')) : StepF N P D Gs F0 w0 i o := by
  intro F w h1 h2 h3
  rw [hg]
  exact h F w h1 h2 h3
theorem StepF.when {D : List (Option Tmp)} {Gs : List Pd} {F0 : Nat → Value} {w0 : World} {i : Nat} {o : Oper} (j : Nat) (want : Bool) (d : Tmp) (hg : o.guard = some (j, want)) (hd : D.getD j none = some d)
    (h : ∀ (F : Nat → Value) (w : World), Kept (fun _ => False) w0 w → (∀ t, Nat.blt t N = true → some t ∉ D → F t = F0 t) → DepsF D (Said Gs) F w o.after.toList → F d = .bool want ∧ Yields P (ev F) o w (fun v w' => Said Gs i v w' ∧ Kept (fun _ => False) w w')) : StepF N P D Gs F0 w0 i o := by
  intro F w h1 h2 h3
  rw [hg]
  exact ⟨d, hd, .inl (h F w h1 h2 h3)⟩
theorem StepF.unless {D : List (Option Tmp)} {Gs : List Pd} {F0 : Nat → Value} {w0 : World} {i : Nat} {o : Oper} (j : Nat) (want : Bool) (d : Tmp) (hg : o.guard = some (j, want)) (hd : D.getD j none = some d)
    (h : ∀ (F : Nat → Value) (w : World), Kept (fun _ => False) w0 w → (∀ t, Nat.blt t N = true → some t ∉ D → F t = F0 t) → DepsF D (Said Gs) F w o.after.toList → (F d = .bool (!want) ∨ F d = undef) ∧ Said Gs i undef w) : StepF N P D Gs F0 w0 i o := by
  intro F w h1 h2 h3
  rw [hg]
  exact ⟨d, hd, .inr (h F w h1 h2 h3)⟩

def putsF (v : Nat → Value) : Nat → List (Option Tmp) → (Nat → Value) → Nat → Value
  | _, [], F => F
  | i, d :: r, F => putsF v (i + 1) r (putF F d (v i))

theorem plain_fits {size : Nat} : ∀ {i : Nat} {D : List (Option Tmp)} {os : List Oper}, plain size i D os = true → ∀ d ∈ D, fits size d = true := by
  intro i D os
  induction os generalizing i D with
  | nil =>
    intro h
    cases D with
    | nil => intro d hd; cases hd
    | cons d D => simp [plain] at h
  | cons o r ih =>
    intro h
    cases D with
    | nil => intro d hd; cases hd
    | cons x D =>
      simp only [plain, Bool.and_eq_true] at h
      obtain ⟨⟨⟨h1, h2⟩, h3⟩, h4⟩ := h
      intro d hd
      rcases List.mem_cons.1 hd with rfl | hd
      · cases d with
        | none => rfl
        | some d =>
          simp only [Bool.and_eq_true, decide_eq_true_eq] at h2
          simpa [fits, Nat.blt_eq] using h2.1
      · exact ih h4 d hd

theorem putAll_fr (v : Nat → Value) : ∀ (D : List (Option Tmp)) (i : Nat) (F : Nat → Value) (a : Act), Fr N F a → (∀ d ∈ D, fits N d = true) → Fr N (putsF v i D F) (putAll v i D a) := by
  intro D
  induction D with
  | nil => intro i F a h _; exact h
  | cons d r ih => intro i F a h hf; exact ih (i + 1) _ _ (h.put (hf d (by simp)) _) (fun x hx => hf x (by simp [hx]))

theorem wq_said {id : Nat} {ops : Array Oper} (D : List (Option Tmp)) (Gs : List Pd) (hm : P.follows .mixedOrders = true) (hpl : plain N 0 D ops.toList = true) (hsteps : StepsF N P D Gs F w 0 ops.toList)
    (hend : ∀ (v : Nat → Value) (F' : Nat → Value) (w' : World), Kept (fun _ => False) w w' → (∀ i, i < ops.size → Said Gs i (v i) w') → (∀ t, F' t = putsF v 0 D F t) → Q .normal F' w') : wq none P N (.region id ops true) Q F w := by
  intro a ha
  refine wpIn_wide.2 ?_
  refine wp_region_said D Gs hm (by rw [ha.size]; exact hpl) (hsteps.steps ha) fun v w' hk hG => ?_
  exact ⟨putsF v 0 D F, putAll_fr v D 0 F a ha (plain_fits hpl), hend v _ w' hk hG fun _ => rfl⟩

theorem wq_tail {id : Nat} {ops : Array Oper} (n : Nat) (D : List (Option Tmp)) (Gs : List Pd) (hm : P.follows .mixedOrders = true) (hta : tailed ops.toList n = true) (hpl : plain N 0 D (ops.toList.take n) = true) (hsteps : StepsF N P D Gs F w 0 (ops.toList.take n))
    (hend : ∀ (v : Nat → Value) (F' : Nat → Value) (w' : World), Kept (fun _ => False) w w' → (∀ i, i < n → Said Gs i (v i) w') → (∀ t, F' t = putsF v 0 D F t) → wl none P N ops Q (ops.toList.drop n) F' w') : wq none P N (.region id ops true) Q F w := by
  intro a ha
  refine wpIn_wide.2 ?_
  refine wp_region_tail n D Gs hm hta (by rw [ha.size]; exact hpl) (hsteps.steps ha) fun v w' hk hG => ?_
  exact hend v _ w' hk hG (fun _ => rfl) _ (putAll_fr v D 0 F a ha (plain_fits hpl))
end

/-! A whole function. -/
def endP (P : Program) (fn : Func) (N : Nat) (R : Ending → World → Prop) : (Exit → (Nat → Value) → World → Prop)
  | .normal, F, w | .ret, F, w => F N = undef ∧ ∀ a, Fr N F a → ∃ v, (results fn a.tmps).run P w = .ok v w ∧ R (.returned v) w
  | _, _, _ => False

def argF (args : List Value) : Nat → Value := fun t => args.getD t undef

theorem calls_wq {P : Program} {f : FuncId} {fn : Func} {c : Code} {args : List Value} {w : World} {R : Ending → World → Prop} (N : Nat) (hf : P.funcs[f]? = some fn) (hb : fn.body = some c) (hn : fn.ntmps = N) (hl : args.length ≤ N)
    (h : wq none P N c (endP P fn N R) (argF args) w) : Calls P f args.toArray w R := by
  refine calls_of_wp hf hb ?_
  subst hn
  have hs : (args.toArray ++ Array.replicate (fn.ntmps - args.toArray.size) undef).size = fn.ntmps := by simp; omega
  have hu : argF args fn.ntmps = undef := by
    unfold argF
    rw [List.getD_eq_getElem?_getD, List.getElem?_eq_none hl]; rfl
  refine wp_mono (wpIn_wide.1 (h _ ⟨hs, by rw [hu]; rfl, fun t _ => ?_⟩)) ?_
  · unfold argF
    simp only [Array.getD_eq_getD_getElem?, List.getD_eq_getElem?_getD]
    by_cases h1 : t < args.length
    · rw [Array.getElem?_append_left (by simpa using h1)]; simp
    · rw [Array.getElem?_append_right (by simp; omega), List.getElem?_eq_none (by omega)]
      by_cases h2 : t < fn.ntmps
      · rw [Array.getElem?_replicate]; split <;> rfl
      · rw [Array.getElem?_eq_none (by simp; omega)]
  · rintro e a' w' ⟨F', hF, hq⟩
    cases e <;> first
      | exact ⟨by rw [hF.defers, hq.1]; rfl, hq.2 a' hF⟩
      | exact hq.elim

section
variable {P : Program} {fn : Func} {N : Nat} {R : Ending → World → Prop} {F : Nat → Value} {w : World}
theorem end_tmp {t : Tmp} {v : Value} (hm : F N = undef) (ht : Nat.blt t N = true) (h : fn.results = #[.tmp t]) (hv : F t = v) (hR : R (.returned v) w) : endP P fn N R .ret F w :=
  ⟨hm, fun a ha => ⟨v, by rw [results_tmp h]; rw [ha.at' t ht, hv], hR⟩⟩
theorem end_none (hm : F N = undef) (h : fn.results = #[]) (hR : R (.returned (.tuple #[])) w) : endP P fn N R .normal F w := ⟨hm, fun _ _ => ⟨_, results_none h _ _ _, hR⟩⟩
theorem end_none_ret (hm : F N = undef) (h : fn.results = #[]) (hR : R (.returned (.tuple #[])) w) : endP P fn N R .ret F w := ⟨hm, fun _ _ => ⟨_, results_none h _ _ _, hR⟩⟩

/-- What a result is. -/
def ResOk (P : Program) (N : Nat) (F : Nat → Value) (w : World) : ResultVar → Value → Prop
  | .tmp t, v => Nat.blt t N = true ∧ F t = v
  | .cell a t, v => Nat.blt a N = true ∧ ∃ ad, F a = .pointer (some ad) ∧ (loadVar t ad).run P w = .ok v w
theorem res_tmp {t : Tmp} {v : Value} (ht : Nat.blt t N = true) (h : F t = v) : ResOk P N F w (.tmp t) v := ⟨ht, h⟩
theorem end_2 {r1 r2 : ResultVar} {v1 v2 : Value} (hm : F N = undef) (h : fn.results = #[r1, r2]) (h1 : ResOk P N F w r1 v1) (h2 : ResOk P N F w r2 v2)
    (hR : R (.returned (.tuple #[v1, v2])) w) : endP P fn N R .ret F w := by
  refine ⟨hm, fun a ha => ⟨_, ?_, hR⟩⟩
  cases r1 <;> cases r2 <;> simp only [ResOk] at h1 h2
  · obtain ⟨b1, h1⟩ := h1; obtain ⟨b2, h2⟩ := h2
    rw [← ha.at' _ b1] at h1; rw [← ha.at' _ b2] at h2
    simp [results, h] at *; simp [h1, h2]
  · obtain ⟨b1, h1⟩ := h1; obtain ⟨b2, ad, e, hl⟩ := h2
    rw [← ha.at' _ b1] at h1; rw [← ha.at' _ b2] at e
    simp [results, h] at *; simp [h1, e, asAddr, hl]
  · obtain ⟨b1, ad, e, hl⟩ := h1; obtain ⟨b2, h2⟩ := h2
    rw [← ha.at' _ b2] at h2; rw [← ha.at' _ b1] at e
    simp [results, h] at *; simp [h2, e, asAddr, hl]
  · obtain ⟨b1, ad, e, hl⟩ := h1; obtain ⟨b2, ad2, e2, hl2⟩ := h2
    rw [← ha.at' _ b1] at e; rw [← ha.at' _ b2] at e2
    simp [results, h] at *; simp [e, e2, asAddr, hl, hl2]
theorem end_3 {t1 t2 t3 : Tmp} {v1 v2 v3 : Value} (hm : F N = undef) (h : fn.results = #[.tmp t1, .tmp t2, .tmp t3]) (h1 : ResOk P N F w (.tmp t1) v1) (h2 : ResOk P N F w (.tmp t2) v2) (h3 : ResOk P N F w (.tmp t3) v3)
    (hR : R (.returned (.tuple #[v1, v2, v3])) w) : endP P fn N R .ret F w := by
  refine ⟨hm, fun a ha => ⟨_, ?_, hR⟩⟩
  obtain ⟨b1, h1⟩ := h1; obtain ⟨b2, h2⟩ := h2; obtain ⟨b3, h3⟩ := h3
  rw [← ha.at' _ b1] at h1; rw [← ha.at' _ b2] at h2; rw [← ha.at' _ b3] at h3
  simp [results, h] at *; simp [h1, h2, h3]
end
end Go.Proofs.YtipimcnjcpckeaaDoor
