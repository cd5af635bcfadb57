/- What MotionStays reaches of my texts, part 4. -/
import Derived.Test.YtceoidglhakanaaMotionStaysC
namespace Go.Proofs.Ytceoidglhakanaa
open Go.RowKit

theorem Byt.row {A B : World} {row : Option Nat} {n : Nat} {T : Nat → Prop} {v : Value} {l : List Nat} (h : Byt A T v l) (hg : A.grownBy B row) (hr : RowNew n A row) : Byt B T v l := by
  obtain ⟨⟨a, cap, rfl, h1, h2, h3, hl, hc⟩, hL, hT⟩ := h
  have k := kept_row hg
  refine ⟨⟨a, cap, rfl, h1, h2, h3, hl, fun hpos => ?_⟩, hL.mono k, hT⟩
  obtain ⟨b, off, rfl, hb, hcell⟩ := hc hpos
  refine ⟨b, off, rfl, Nat.lt_of_lt_of_le hb k.size, fun i hi => (World.cell?_of_block (k.block b hb fun e => ?_)).trans (hcell i hi)⟩
  obtain ⟨_, o, ho, hn⟩ := hr b e.symm
  have := hcell 0 hpos
  unfold World.cell? at this
  simp only at this
  rw [ho] at this
  cases o <;> simp_all [Obj.isCells]
theorem Mrk.far {w : World} {D : Nat} {T : Nat → Prop} (hd : w.heap.size ≤ D) (hL : Live w T) : Apart (onB D) T := fun i hi ht => by
  cases hi
  exact absurd (hL _ ht) (by omega)

def asP (B : Nat) (Kp : World → World → Prop) (I : World → Prop) (Ax : (Nat → Value) → World → Prop) (W : World) : Exit → (Nat → Value) → World → Prop
  | .normal, F, W' => KeepsFrom B W W' ∧ Kp W W' ∧ I W' ∧ Ax F W'
  | _, _, _ => False
def roundR (B : Nat) (Kp : World → World → Prop) (J Jx : World → Prop) (W : World) : Exit → (Nat → Value) → World → Prop
  | .normal, _, W' => KeepsFrom B W W' ∧ Kp W W' ∧ J W'
  | .ret, _, W' => KeepsFrom B W W' ∧ Jx W'
  | _, _, _ => False
def atRet {α : Type} (Ix : List α → World → Prop) : Code → List α → World → Prop
  | .ret, pre, W => Ix pre W
  | _, _, _ => False
theorem atRet_own {α : Type} {B : Nat} {Ix : List α → World → Prop} (h : OwnFrom B Ix) : ∀ c, OwnFrom B (atRet Ix c) := by
  intro c s W W' row hs hg hr
  cases c <;> first | exact h s W W' row hs hg hr | exact hs.elim

theorem wq_rangeR {α : Type} {P : Program} {N : Nat} {Q : Exit → (Nat → Value) → World → Prop} {F : Nat → Value} {w : World} {g : Operand} {ps : Array Tmp} {assign body : Code} {gf : Nat} {lb : Array Value}
    {encs : α → List Value} {U : Nat → Prop} {S Sp : List α → Prop} {M : Nat}
    (hg : ev (cutF N F) g = .func (.func gf) #[] lb) (eg : ∀ args w, (callFunc gf args).run P w = .ok (.enter gf args) w)
    (hseq : SeqStopsK Fence.wide 1 P gf lb (fun x => (encs x).toArray) (Kept U) S Sp M w) (hU : ∀ i, w.heap.size ≤ i → U i)
    (pl : List Tmp) (hpl : ps = pl.toArray) (hps : ∀ x, (encs x).length = pl.length) (hpN : (pl.all fun p => Nat.blt p N) = true)
    (I Ix : List α → World → Prop) (hI : OwnFrom w.heap.size I) (hIx : OwnFrom w.heap.size Ix) (h0 : I [] w) (Ax : α → (Nat → Value) → World → Prop) (hAx : ∀ x FF, OwnFrom w.heap.size (fun (_ : Unit) W => Ax x FF W))
    (hassign : ∀ l pre x W, I pre W → wq (some (l + 1)) P N assign (asP w.heap.size (Kept U) (I pre) (Ax x) W) (loopF N F (pl.zip (encs x))) W)
    (hbody : ∀ (l : Nat) (pre : List α) (x : α) (F' : Nat → Value) (W : World), I pre W → Ax x F' W → pre.length < M → wq (some (l + 1)) P N body (roundR w.heap.size (Kept U) (I (pre ++ [x])) (Ix (pre ++ [x])) W) F' W)
    (hdone : ∀ (D : Nat) (xs : List α) (W : World), w.heap.size ≤ D → S xs → I xs W → W.heap[D]? = some (.deferred (some [])) → Q .normal (up F N (markV (D :: marksOf (F N)))) W)
    (hstop : ∀ (D : Nat) (pre : List α) (W : World), w.heap.size ≤ D → Ix pre W → W.heap[D]? = some (.deferred (some [])) → Q .ret (up F N (markV (D :: marksOf (F N)))) W) :
    wq none P N (.rangeFunc g ps assign body) Q F w := by
  subst hpl
  intro a ha
  refine wpIn_wide.2 ((wpIn_wide (n := 2)).1 ?_)
  refine wpIn_rangeFunc_ownH rfl (by decide) (gf := gf) (lb := lb) (by rw [ha.eval]; exact hg) trivial eg hseq
    (fun h k => h.trans k (fun _ _ x => x)) (fun W l o o' hl ho hc hw => ?_) (Below.refl _ _) (fun x => by simp [hps]) I (atRet Ix) hI (atRet_own hIx) h0
    (fun x a' W => ∃ F', Fr N F' a' ∧ Ax x F' W) (fun x a' s W W' row h hg hr => ?_) ?_ ?_ ?_ ?_
  · exact (Kept.refl U W).grown (grownBy_putObj' W l o') (fun k e hk => by cases e; exact hU _ hl)
  · obtain ⟨F', hF, hx⟩ := h
    exact ⟨F', hF, hAx x F' s W W' row hx hg hr⟩
  · intro l pre x W K hi hK
    have hz : ((pl.toArray.zip (encs x).toArray).foldl (fun t (p, v) => t.setIfInBounds p v) a.tmps) = (pl.zip (encs x)).foldl (fun t p => t.setIfInBounds p.1 p.2) a.tmps := by simp
    rw [hz]
    have hf : Fr N (loopF N F (pl.zip (encs x))) { tmps := (pl.zip (encs x)).foldl (fun t p => t.setIfInBounds p.1 p.2) a.tmps, defers := [] } :=
      Fr.rounds _ _ _ (ha.last undef [] rfl) (all_zip pl _ hpN)
    refine wpIn_mono (hassign l pre x W hi _ hf) ?_
    rintro e a' w' ⟨F', hF, hq⟩
    cases e <;> first
      | (obtain ⟨h1, h2, h3, h4⟩ := hq; exact hK a' _ h1 h2 h3 ⟨F', hF, h4⟩)
      | exact hq.elim
  · rintro l pre x a' W _ _ hi ⟨F', hF, hx⟩ hlt
    refine wpIn_mono (hbody l pre x F' W hi hx hlt a' hF) ?_
    rintro e a'' w' ⟨F'', _, hq⟩
    cases e <;> first | exact hq | exact hq.elim
  · intro D xs W hD hS hi hd
    exact ⟨_, ha.mark D, hdone D xs W hD hS hi hd⟩
  · intro D c pre W hD _ h hd
    cases c <;> first
      | exact wpIn_ret ⟨_, ha.mark D, hstop D pre W hD h hd⟩
      | exact h.elim

section
variable {P : Program} {N : Nat} {Q : (Exit → (Nat → Value) → World → Prop)} {F : Nat → Value} {w : World}
theorem wl_yieldw {ops : Array Oper} {o : Oper} {rest : List Oper} {R : Ending → World → Prop} {l : Nat} {c : Call} {cx : Operand} {xs : List Operand} {vs : List Value} (j : Nat) (want : Bool) (d : Tmp) (hg : o.guard = some (j, want)) (hj : (ops[j]?).bind (·.dst) = some d) (hdn : Nat.blt d N = true) (hv' : F d = .bool want) (hd : fits N o.dst = true) (ho : o.op = .call c) (hc : c.callee = .value cx) (hcx : ev (cutF N F) cx = .func (.yield l) #[] #[])
    (hx : c.args = xs.toArray) (hv : xs.map (ev (cutF N F)) = vs) (hY : YieldAt Fence.wide 0 P l vs.toArray w R)
    (h : ∀ e w', R e w' → ∃ v, e = .returned v ∧ wl (some 0) P N ops Q rest (putF F o.dst v) w') : wl (some 0) P N ops Q (o :: rest) F w := by
  intro a ha
  show wpListIn Fence.wide 0 P ops (Fp N Q) (o :: rest) a w
  refine wpListIn_step fun K hK => ?_
  rw [if_pos (by unfold Region.wanted; rw [hg]; simp only [yielded_of ha hj hdn, hv']; simp)]
  refine ⟨fun f _ => trivial, ?_⟩
  have hnd : ∀ c, o.op ≠ .defer c := fun c' e => by rw [ho] at e; cases e
  rw [Oper.semAt_eq _ _ _ hnd]
  obtain ⟨cl, ars, ts⟩ := c
  simp only at hc hx
  subst hc; subst hx; subst hv
  obtain ⟨fn, tmps, assign, body, hy, hR⟩ := hY
  have e : (execOp a.eval o).run P w = .ok (.round l fn tmps assign body) w := by
    rw [ha.eval, ← hy]
    simp [execOp, ho, resolve, hcx, Deferred.ofValue, invoke]
  rw [e]
  refine ⟨fun e => (by cases e), hR.mono ?_⟩
  intro e' w' hr
  obtain ⟨v, rfl, hk⟩ := h e' w' hr
  exact hK _ _ (hk _ (ha.put hd v))
end

section
variable {P : Program} {fn : Func} {N : Nat} {R : Ending → World → Prop} {F : Nat → Value} {w : World}
theorem res_cel {p : Tmp} {ty t : TypeId} {q : Nat} {v : Value} {d : TypeDesc} (hu : P.underlying ty = some d) (hd : plainD d = true) (ht : Nat.blt p N = true) (hp : F p = .pointer (some ⟨q, 0, none⟩)) (hB : Cel w q t v) : ResOk P N F w (.cell p ty) v := by
  refine ⟨ht, _, hp, ?_⟩
  have hc := hB.cell
  cases d <;> simp [plainD] at hd <;> simp [loadVar, isAgg, run_underlying hu, hc, go_sem]
theorem endm_2 {ms : List Nat} {r1 r2 : ResultVar} {v1 v2 : Value} (hm : F N = markV ms) (ho : Opens ms w) (h : fn.results = #[r1, r2]) (h1 : ResOk P N F (shut ms w) r1 v1) (h2 : ResOk P N F (shut ms w) r2 v2)
    (hR : R (.returned (.tuple #[v1, v2])) (shut ms w)) : endM P fn N R .ret F w := by
  refine ⟨ms, hm, ho, fun a ha => ⟨_, ?_, hR⟩⟩
  cases r1 <;> cases r2 <;> simp only [ResOk] at h1 h2
  · obtain ⟨b1, h1⟩ := h1; obtain ⟨b2, h2⟩ := h2
    rw [← ha.at' _ b1] at h1; rw [← ha.at' _ b2] at h2
    simp [results, h] at *; simp [h1, h2]
  · obtain ⟨b1, h1⟩ := h1; obtain ⟨b2, ad, e, hl⟩ := h2
    rw [← ha.at' _ b1] at h1; rw [← ha.at' _ b2] at e
    simp [results, h] at *; simp [h1, e, asAddr, hl]
  · obtain ⟨b1, ad, e, hl⟩ := h1; obtain ⟨b2, h2⟩ := h2
    rw [← ha.at' _ b1] at e; rw [← ha.at' _ b2] at h2
    simp [results, h] at *; simp [h2, e, asAddr, hl]
  · obtain ⟨b1, ad, e, hl⟩ := h1; obtain ⟨b2, ad2, e2, hl2⟩ := h2
    rw [← ha.at' _ b1] at e; rw [← ha.at' _ b2] at e2
    simp [results, h] at *; simp [e, e2, asAddr, hl, hl2]
end

theorem y_storeStc {P : Program} {ρ : Operand → Value} {o : Oper} {w : World} {R : Value → World → Prop} {ty t : TypeId} {x y : Operand} {p : Nat} {vs us : List Value} (hT : StcT P ty us.length) (ho : o.op = .store ty x y) (hx : ρ x = .pointer (some ⟨p, 0, none⟩)) (hy : ρ y = .agg us.toArray) (hB : Stc w p t vs) (hl : vs.length = us.length) (h1 : OneAll us)
    (h : ∀ w', Stc w' p t us → Kept (fun k => k = p) w w' → R undef w') : Yields P ρ o w R := by
  obtain ⟨d, _, _, hsz⟩ := hT
  exact y_store_row ty x y ho p _ us.toArray t hx hy hB (by simpa using hl) (by rw [List.size_toArray]; exact hsz) (all_oneCell_toArray h1) fun w' hw hk => h w' hw hk
section
variable {P : Program} {ρ : Operand → Value} {o : Oper} {w : World} {R : Value → World → Prop}
theorem y_shlR {t t' : TypeId} {k k' : IntKind} {x y : Operand} {m r : Int} (n : Nat) (ho : o.op = .binOp .shl t x y t') (hx : ρ x = .int k m) (hy : ρ y = .int k' (n : Int)) (hr : k.wrap (m * 2 ^ min n k.bits) = r) (h : R (.int k r) w) : Yields P ρ o w R :=
  y_of (v := .int k (k.wrap (m * 2 ^ min n k.bits))) (w' := w) (by
    have h0 : (0 : Int) ≤ (n : Int) := by omega
    simp only [execOp, ho, hx, hy, binOp_shl, shift_shl_any k k' m (n : Int) h0, Int.toNat_natCast, eqGuard]
    rfl) (by rw [hr]; exact h)
theorem y_andR {P : Program} {ρ : Operand → Value} {o : Oper} {w : World} {R : Value → World → Prop} {t t' : TypeId} {k : IntKind} {x y : Operand} {m n r : Int} (ho : o.op = .binOp .and t x y t') (hx : ρ x = .int k m) (hy : ρ y = .int k n) (hr : bits .and k m n = r) (h : R (.int k r) w) : Yields P ρ o w R :=
  y_of (v := .int k (bits .and k m n)) (w' := w) (by simp [execOp, ho, hx, hy, go_sem]) (by rw [hr]; exact h)
end
end Go.Proofs.Ytceoidglhakanaa
namespace Go.Proofs.Ytceoidglhakanaa
open Go.RowKit

/-- What is asked of one operation. U tells which operation uses an answer up. -/
def StepU (U : Nat → Option Nat) (P : Program) (R : World → Prop) (D : List (Option Tmp)) (G H : Nat → Value → World → Prop) (a0 : Act) (i : Nat) (o : Oper) : Prop :=
  ∀ (a : Act) (w : World), R w → (∀ t, some t ∉ D → a.eval (.tmp t) = a0.eval (.tmp t)) → Deps D (fun j v w => (U j = none ∨ U j = some i) → G j v w) a w o.after.toList →
    (goes D o a = true → Yields P a.eval o w (fun v w' => G i v w' ∧ R w' ∧ (∀ j x, j ≠ i → U j ≠ some i → G j x w → G j x w') ∧ (∀ j x, U j ≠ some i → H j x w → H j x w') ∧ ∀ j d, U j = some i → D[j]? = some (some d) → H j (a.eval (.tmp d)) w')) ∧ (goes D o a = false → G i undef w ∧ ∀ j, U j ≠ some i)
def StepsU (U : Nat → Option Nat) (P : Program) (R : World → Prop) (D : List (Option Tmp)) (G H : Nat → Value → World → Prop) (a0 : Act) : Nat → List Oper → Prop
  | _, [] => True
  | i, o :: r => StepU U P R D G H a0 i o ∧ StepsU U P R D G H a0 (i + 1) r
theorem StepsU.at {U : Nat → Option Nat} {P : Program} {R : World → Prop} {D : List (Option Tmp)} {G H : Nat → Value → World → Prop} {a0 : Act} : ∀ {i : Nat} {os : List Oper}, StepsU U P R D G H a0 i os → ∀ k o, os[k]? = some o → StepU U P R D G H a0 (i + k) o := by
  intro i os
  induction os generalizing i with
  | nil => intro _ k o h; simp at h
  | cons x r ih =>
    intro h k o hk
    cases k with
    | zero => simp at hk; subst hk; exact h.1
    | succ k =>
      simp at hk
      have := ih h.2 k o hk
      rwa [show i + 1 + k = i + (k + 1) by omega] at this
end Go.Proofs.Ytceoidglhakanaa
namespace Go.Proofs.Ytceoidglhakanaa
open Go.RowKit

/-- Which operation uses an answer up. -/
def usedBy (l : List (Nat × Nat)) (j : Nat) : Option Nat := (l.find? fun q => q.1 == j).map (·.2)
theorem usedBy_mem {l : List (Nat × Nat)} {j k : Nat} (h : usedBy l j = some k) : (j, k) ∈ l := by
  unfold usedBy at h
  cases hf : l.find? fun q => q.1 == j with
  | none => rw [hf] at h; cases h
  | some q =>
    rw [hf] at h
    cases h
    have h1 := List.find?_some hf
    have h2 := List.mem_of_find?_eq_some hf
    have : q.1 = j := by simpa using h1
    rw [← this]; exact h2
def noUse (l : List (Nat × Nat)) (i : Nat) : Bool := l.all fun q => q.2 != i
theorem noUse_at {l : List (Nat × Nat)} {i : Nat} (h : noUse l i = true) (j : Nat) : usedBy l j ≠ some i := fun e => by
  have := List.all_eq_true.1 h _ (usedBy_mem e)
  simp at this
def oneUse (l : List (Nat × Nat)) (i j : Nat) : Bool := l.all fun q => q.2 != i || q.1 == j
theorem oneUse_at {l : List (Nat × Nat)} {i j : Nat} (h : oneUse l i j = true) {j' : Nat} (e : usedBy l j' = some i) : j' = j := by
  have := List.all_eq_true.1 h _ (usedBy_mem e)
  simpa using this
/-- What is told to operation i. -/
def Told (l : List (Nat × Nat)) (Gs : List Pd) (i : Nat) : Nat → Value → World → Prop := fun j v w => (usedBy l j = none ∨ usedBy l j = some i) → Said Gs j v w
/-- What operation i leaves. -/
def Left (l : List (Nat × Nat)) (D : List (Option Tmp)) (Gs Hs : List Pd) (w0 : World) (i : Nat) (ρ : Operand → Value) (w : World) (v : Value) (w' : World) : Prop :=
  Said Gs i v w' ∧ Kept (fun _ => False) w0 w' ∧ (∀ j x, j ≠ i → usedBy l j ≠ some i → Said Gs j x w → Said Gs j x w') ∧ (∀ j x, usedBy l j ≠ some i → Said Hs j x w → Said Hs j x w') ∧ ∀ j d, usedBy l j = some i → D[j]? = some (some d) → Said Hs j (ρ (.tmp d)) w'
section
variable {P : Program} {N : Nat} {F : Nat → Value} {w : World} {Q : Exit → (Nat → Value) → World → Prop}

def StepFU (l : List (Nat × Nat)) (N : Nat) (P : Program) (D : List (Option Tmp)) (Gs Hs : List Pd) (F0 : Nat → Value) (w0 : World) (i : Nat) (o : Oper) : Prop :=
  ∀ (F : Nat → Value) (w : World), Kept (fun _ => False) w0 w → (∀ t, Nat.blt t N = true → some t ∉ D → F t = F0 t) → DepsF D (Told l Gs i) F w o.after.toList →
    match o.guard with
    | none => Yields P (ev F) o w (Left l D Gs Hs w0 i (ev F) w)
    | some (j, want) => ∃ d, D.getD j none = some d ∧
      ((F d = .bool want ∧ Yields P (ev F) o w (Left l D Gs Hs w0 i (ev F) w)) ∨ ((F d = .bool (!want) ∨ F d = undef) ∧ Said Gs i undef w ∧ noUse l i = true))
def StepsFU (l : List (Nat × Nat)) (N : Nat) (P : Program) (D : List (Option Tmp)) (Gs Hs : List Pd) (F0 : Nat → Value) (w0 : World) : Nat → List Oper → Prop
  | _, [] => True
  | i, o :: r => StepFU l N P D Gs Hs F0 w0 i o ∧ StepsFU l N P D Gs Hs F0 w0 (i + 1) r
theorem StepFU.step {l : List (Nat × Nat)} {D : List (Option Tmp)} {Gs Hs : List Pd} {w0 : World} {i : Nat} {o : Oper} {a0 : Act} (ha : Fr N F a0) (h : StepFU l N P D Gs Hs F w0 i o) : StepU (usedBy l) P (Kept (fun _ => False) w0) D (Said Gs) (Said Hs) a0 i o := by
  intro a w hR hout hD
  have h1 := h (fun t => a.tmps.getD t undef) w hR (fun t hb ht => by rw [← ha.at' t hb]; exact hout t ht) hD.toF
  rw [← eval_ev a] at h1
  unfold goes
  cases hg : o.guard with
  | none => rw [hg] at h1; exact ⟨fun _ => h1, fun e => by cases e⟩
  | some g =>
    obtain ⟨j, want⟩ := g
    rw [hg] at h1
    obtain ⟨d, hd, h1⟩ := h1
    simp only [hd]
    have hev : a.eval (.tmp d) = a.tmps.getD d undef := rfl
    rcases h1 with ⟨hv, hy⟩ | ⟨hv, hs⟩
    · rw [hev, hv]; exact ⟨fun _ => hy, fun e => by simp at e⟩
    · refine ⟨fun e => ?_, fun _ => ⟨hs.1, noUse_at hs.2⟩⟩
      rcases hv with hv | hv
      · rw [hev, hv] at e; cases want <;> simp at e
      · rw [hev, hv] at e; simp [undef] at e
theorem StepsFU.steps {l : List (Nat × Nat)} {D : List (Option Tmp)} {Gs Hs : List Pd} {w0 : World} {a0 : Act} (ha : Fr N F a0) : ∀ {os : List Oper} {i : Nat}, StepsFU l N P D Gs Hs F w0 i os → StepsU (usedBy l) P (Kept (fun _ => False) w0) D (Said Gs) (Said Hs) a0 i os := by
  intro os
  induction os with
  | nil => intro i _; exact trivial
  | cons o r ih => intro i h; exact ⟨h.1.step ha, ih h.2⟩
theorem left_plain {l : List (Nat × Nat)} {D : List (Option Tmp)} {Gs Hs : List Pd} {w0 w w' : World} {i : Nat} {ρ : Operand → Value} {v : Value} (hn : noUse l i = true) (hR : Kept (fun _ => False) w0 w) (h : Said Gs i v w' ∧ Kept (fun _ => False) w w') : Left l D Gs Hs w0 i ρ w v w' :=
  ⟨h.1, hR.trans h.2 (fun _ _ x => x), fun j _ _ _ hj => (Gs.getD j Pd.any).stays _ _ _ hj h.2, fun j _ _ hj => (Hs.getD j Pd.any).stays _ _ _ hj h.2, fun j _ e => absurd e (noUse_at hn j)⟩
theorem Yields.mono' {ρ : Operand → Value} {o : Oper} {R R' : Value → World → Prop} (h : Yields P ρ o w R) (hr : ∀ v w', R v w' → R' v w') : Yields P ρ o w R' := by
  revert h
  unfold Yields
  generalize (execOp ρ o).run P w = r
  intro h
  cases r with
  | ok n w' =>
    cases n <;> simp only at h ⊢ <;> first
      | exact hr _ _ h
      | exact h.elim
      | exact Calls.mono h (fun e w'' ⟨y, he, hk⟩ => ⟨y, he, hr _ _ hk⟩)
  | halt y w' => exact h.elim
theorem StepFU.one {l : List (Nat × Nat)} {D : List (Option Tmp)} {Gs Hs : List Pd} {F0 : Nat → Value} {w0 : World} {i : Nat} {o : Oper} (hn : noUse l i = true) (hg : o.guard = none)
    (h : ∀ (F : Nat → Value) (w : World), Kept (fun _ => False) w0 w → (∀ t, Nat.blt t N = true → some t ∉ D → F t = F0 t) → DepsF D (Told l Gs i) F w o.after.toList → Yields P (ev F) o w (fun v w' => Said Gs i v w' ∧ Kept (fun _ => False) w w')) : StepFU l N P D Gs Hs F0 w0 i o := by
  intro F w h1 h2 h3
  rw [hg]
  exact (h F w h1 h2 h3).mono' fun _ _ x => left_plain hn h1 x
theorem StepFU.when {l : List (Nat × Nat)} {D : List (Option Tmp)} {Gs Hs : List Pd} {F0 : Nat → Value} {w0 : World} {i : Nat} {o : Oper} (hn : noUse l i = true) (j : Nat) (want : Bool) (d : Tmp) (hg : o.guard = some (j, want)) (hd : D.getD j none = some d)
    (h : ∀ (F : Nat → Value) (w : World), Kept (fun _ => False) w0 w → (∀ t, Nat.blt t N = true → some t ∉ D → F t = F0 t) → DepsF D (Told l Gs i) F w o.after.toList → F d = .bool want ∧ Yields P (ev F) o w (fun v w' => Said Gs i v w' ∧ Kept (fun _ => False) w w')) : StepFU l N P D Gs Hs F0 w0 i o := by
  intro F w h1 h2 h3
  rw [hg]
  obtain ⟨hv, hy⟩ := h F w h1 h2 h3
  exact ⟨d, hd, .inl ⟨hv, hy.mono' fun _ _ x => left_plain hn h1 x⟩⟩
def Pd.under (Ty : TypeId → Prop) (p : Pd) : Prop := ∀ v w w' S, p.says v w → Kept S w w' → (∀ i, S i → ∀ c e f, w.heap[i]? = some (.cells c e f) → Ty e) → p.says v w'
theorem under_any {Ty : TypeId → Prop} : Pd.any.under Ty := fun _ _ _ _ _ _ _ => trivial
def AllUnder (Ty : TypeId → Prop) (skip : Nat → Bool) : Nat → List Pd → Prop
  | _, [] => True
  | k, p :: r => (skip k = true ∨ p.under Ty) ∧ AllUnder Ty skip (k + 1) r
theorem AllUnder.at {Ty : TypeId → Prop} {skip : Nat → Bool} : ∀ {Gs : List Pd} {k : Nat}, AllUnder Ty skip k Gs → ∀ j, skip (k + j) = false → (Gs.getD j Pd.any).under Ty := by
  intro Gs
  induction Gs with
  | nil => intro k _ j _; exact under_any
  | cons p r ih =>
    intro k h j hj
    cases j with
    | zero =>
      rcases h.1 with e | e
      · rw [Nat.add_zero] at hj; rw [hj] at e; cases e
      · exact e
    | succ j => exact ih h.2 j (by rw [show k + 1 + j = k + (j + 1) by omega]; exact hj)
/-- The operation that uses an answer up: it turns blocks that were made here. -/
theorem StepFU.turn {l : List (Nat × Nat)} {D : List (Option Tmp)} {Gs Hs : List Pd} {F0 : Nat → Value} {w0 : World} {i : Nat} {o : Oper} (j : Nat) (d : Tmp) (Ty : TypeId → Prop) (hg : o.guard = none) (hd : D[j]? = some (some d)) (h1u : oneUse l i j = true) (hu : AllUnder Ty (fun q => decide (q = i ∨ usedBy l q = some i)) 0 Gs) (hu2 : AllUnder Ty (fun q => decide (usedBy l q = some i)) 0 Hs)
    (h : ∀ (F : Nat → Value) (w : World), Kept (fun _ => False) w0 w → (∀ t, Nat.blt t N = true → some t ∉ D → F t = F0 t) → DepsF D (Told l Gs i) F w o.after.toList →
      Yields P (ev F) o w (fun v w' => Said Gs i v w' ∧ Said Hs j (F d) w' ∧ ∃ S, Kept S w w' ∧ (∀ x, S x → w0.heap.size ≤ x) ∧ ∀ x, S x → ∀ c e f, w.heap[x]? = some (.cells c e f) → Ty e)) : StepFU l N P D Gs Hs F0 w0 i o := by
  intro F w h1 h2 h3
  rw [hg]
  refine (h F w h1 h2 h3).mono' fun v w' ⟨hs, hs2, S, k, hn, ht⟩ => ⟨hs, h1.trans k (fun x hx hS => absurd (hn x hS) (by omega)), fun q x hj hU hx => ?_, fun q x hU hx => ?_, fun q d' hU hq => ?_⟩
  · exact hu.at q (by rw [Nat.zero_add]; exact decide_eq_false (fun e => e.elim hj hU)) x w w' S hx k ht
  · exact hu2.at q (by rw [Nat.zero_add]; exact decide_eq_false hU) x w w' S hx k ht
  · have e := oneUse_at h1u hU
    subst e
    rw [hd] at hq
    cases hq
    exact hs2

end
end Go.Proofs.Ytceoidglhakanaa
namespace Go.Proofs.Ytceoidglhakanaa
open Go.RowKit

/-- What is said of an operation: what it answers; that it turns the block of operation j; that it makes a block that holds zs until operation k, and us from then on; that it turns a block that was there. -/
inductive Pc where
  | eq (v : Value)
  | turn (j : Nat)
  | blk (t : TypeId) (zs : List Value) (k : Nat) (us : List Value)
  | told (p : Nat) (t : TypeId) (zs us : List Value)
def Pc.none : Pc := .eq undef
def isBlk : Pc → Bool
  | .blk _ _ _ _ => true
  | _ => false
def HoldC (n0 : Nat) (p : Pc) (L : Nat → Bool) (v : Value) (w : World) : Prop := match p with
  | .eq x => v = x
  | .turn _ => True
  | .told _ _ _ _ => True
  | .blk t zs k us => ∃ q, v = .pointer (some ⟨q, 0, none⟩) ∧ n0 ≤ q ∧ Stc w q t (if L k = true then us else zs)
/-- The blocks that were there and are turned: they are there, and none is another one. -/
def NotTold (p : Nat) : List Pc → Prop
  | [] => True
  | .told q _ _ _ :: r => p ≠ q ∧ NotTold p r
  | .eq _ :: r => NotTold p r
  | .turn _ :: r => NotTold p r
  | .blk _ _ _ _ :: r => NotTold p r
def Olds (S : Nat → Prop) (w0 : World) : List Pc → Prop
  | [] => True
  | .told p t zs _ :: r => (S p ∧ Stc w0 p t zs ∧ NotTold p r) ∧ Olds S w0 r
  | .eq _ :: r => Olds S w0 r
  | .turn _ :: r => Olds S w0 r
  | .blk _ _ _ _ :: r => Olds S w0 r
theorem NotTold.at {p : Nat} : ∀ {Gs : List Pc}, NotTold p Gs → ∀ i q t zs us, Gs.getD i Pc.none = .told q t zs us → p ≠ q := by
  intro Gs
  induction Gs with
  | nil => intro _ i q t zs us h; cases h
  | cons g r ih =>
    intro h i q t zs us e
    cases i with
    | zero =>
      have e : g = .told q t zs us := by simpa using e
      subst e; exact h.1
    | succ i =>
      have e : r.getD i Pc.none = .told q t zs us := by simpa using e
      cases g <;> first | exact ih h.2 i q t zs us e | exact ih h i q t zs us e
theorem Olds.at {S : Nat → Prop} {w0 : World} : ∀ {Gs : List Pc}, Olds S w0 Gs → ∀ i p t zs us, Gs.getD i Pc.none = .told p t zs us → S p ∧ Stc w0 p t zs := by
  intro Gs
  induction Gs with
  | nil => intro _ i q t zs us h; cases h
  | cons g r ih =>
    intro h i q t zs us e
    cases i with
    | zero =>
      have e : g = .told q t zs us := by simpa using e
      subst e; exact ⟨h.1.1, h.1.2.1⟩
    | succ i =>
      have e : r.getD i Pc.none = .told q t zs us := by simpa using e
      cases g <;> first | exact ih h.2 i q t zs us e | exact ih h i q t zs us e
theorem Olds.ne {S : Nat → Prop} {w0 : World} : ∀ {Gs : List Pc}, Olds S w0 Gs → ∀ i j p t zs us p' t' zs' us', i ≠ j → Gs.getD i Pc.none = .told p t zs us → Gs.getD j Pc.none = .told p' t' zs' us' → p ≠ p' := by
  intro Gs
  induction Gs with
  | nil => intro _ i j p t zs us p' t' zs' us' _ h; cases h
  | cons g r ih =>
    intro h i j p t zs us p' t' zs' us' hij e1 e2
    cases i with
    | zero =>
      have e1 : g = .told p t zs us := by simpa using e1
      subst e1
      cases j with
      | zero => exact absurd rfl hij
      | succ j => exact h.1.2.2.at j p' t' zs' us' (by simpa using e2)
    | succ i =>
      cases j with
      | zero =>
        have e2 : g = .told p' t' zs' us' := by simpa using e2
        subst e2
        exact fun e => h.1.2.2.at i p t zs us (by simpa using e1) e.symm
      | succ j =>
        have hr : Olds S w0 r := by cases g <;> first | exact h.2 | exact h
        exact ih hr i j p t zs us p' t' zs' us' (fun e => hij (by rw [e])) (by simpa using e1) (by simpa using e2)
structure JC (S : Nat → Prop) (w0 : World) (Gs : List Pc) (L : Nat → Bool) (v : Nat → Value) (w : World) : Prop where
  kept : Kept S w0 w
  olds : ∀ i p t zs us, Gs.getD i Pc.none = .told p t zs us → Stc w p t (if L i = true then us else zs)
  holds : ∀ i, L i = true → HoldC w0.heap.size (Gs.getD i Pc.none) L (v i) w
  apart : ∀ i j, i ≠ j → L i = true → L j = true → isBlk (Gs.getD i Pc.none) = true → isBlk (Gs.getD j Pc.none) = true → v i ≠ v j
  clos : ∀ k j, L k = true → Gs.getD k Pc.none = .turn j → L j = true
/-- Each block is turned by one operation, that waits for it. -/
def wfAt (os : List Oper) (D : List (Option Tmp)) (Gs : List Pc) (i : Nat) : Pc → Bool
  | .eq _ => true
  | .told _ _ _ _ => true
  | .turn j => (match Gs.getD j Pc.none with | .blk _ _ k _ => k == i | _ => false) && (match D.getD j none with | some _ => true | none => false) && (match os[i]? with | some o => waitsOn o j | none => false)
  | .blk _ _ k _ => match Gs.getD k Pc.none with | .turn j => j == i | _ => false
def wfC (os : List Oper) (D : List (Option Tmp)) (Gs : List Pc) : Bool := (List.range Gs.length).all fun i => wfAt os D Gs i (Gs.getD i Pc.none)
theorem wfC_at {os : List Oper} {D : List (Option Tmp)} {Gs : List Pc} (h : wfC os D Gs = true) (i : Nat) : wfAt os D Gs i (Gs.getD i Pc.none) = true := by
  by_cases hi : i < Gs.length
  · exact List.all_eq_true.1 h i (List.mem_range.2 hi)
  · have : Gs.getD i Pc.none = Pc.none := by simp [List.getD, List.getElem?_eq_none (show Gs.length ≤ i by omega)]
    rw [this]; rfl
theorem wf_blk {os : List Oper} {D : List (Option Tmp)} {Gs : List Pc} (h : wfC os D Gs = true) {i k : Nat} {t : TypeId} {zs us : List Value} (e : Gs.getD i Pc.none = .blk t zs k us) : Gs.getD k Pc.none = .turn i := by
  have := wfC_at h i
  rw [e] at this
  simp only [wfAt] at this
  split at this
  · rename_i j hj; rw [hj]; have : j = i := by simpa using this
    rw [this]
  · cases this

/-- What is told to operation i of those that it waits for. -/
def ToldC (n0 : Nat) (Gs : List Pc) (i : Nat) : Nat → Value → World → Prop := fun j v w => match Gs.getD j Pc.none with
  | .eq x => v = x
  | .turn _ => True
  | .told _ _ _ _ => True
  | .blk t zs k _ => k = i → ∃ q, v = .pointer (some ⟨q, 0, none⟩) ∧ n0 ≤ q ∧ Stc w q t zs
def LeftC (Gs : List Pc) (D : List (Option Tmp)) (i : Nat) (ρ : Operand → Value) (w : World) (v : Value) (w' : World) : Prop := match Gs.getD i Pc.none with
  | .eq x => v = x ∧ Kept (fun _ => False) w w'
  | .blk t zs _ _ => ∃ q, v = .pointer (some ⟨q, 0, none⟩) ∧ w.heap.size ≤ q ∧ Stc w' q t zs ∧ Kept (fun _ => False) w w'
  | .told p t _ us => Stc w' p t us ∧ Kept (onB p) w w'
  | .turn j => ∃ d q, D.getD j none = some d ∧ ρ (.tmp d) = .pointer (some ⟨q, 0, none⟩) ∧ (∀ t zs us, Gs.getD j Pc.none = .blk t zs i us → Stc w' q t us) ∧ Kept (onB q) w w'
section
variable {P : Program} {N : Nat} {F : Nat → Value} {w : World} {Q : Exit → (Nat → Value) → World → Prop}
def StepFC (S : Nat → Prop) (N : Nat) (P : Program) (D : List (Option Tmp)) (Gs : List Pc) (F0 : Nat → Value) (w0 : World) (i : Nat) (o : Oper) : Prop :=
  ∀ (F : Nat → Value) (w : World), Kept S w0 w → (∀ t, Nat.blt t N = true → some t ∉ D → F t = F0 t) → DepsF D (ToldC w0.heap.size Gs i) F w o.after.toList → (∀ p t zs us, Gs.getD i Pc.none = .told p t zs us → Stc w p t zs) →
    match o.guard with
    | none => Yields P (ev F) o w (LeftC Gs D i (ev F) w)
    | some (j, want) => ∃ d, D.getD j none = some d ∧
      ((F d = .bool want ∧ Yields P (ev F) o w (LeftC Gs D i (ev F) w)) ∨ ((F d = .bool (!want) ∨ F d = undef) ∧ Gs.getD i Pc.none = .eq undef))
def StepsFC (S : Nat → Prop) (N : Nat) (P : Program) (D : List (Option Tmp)) (Gs : List Pc) (F0 : Nat → Value) (w0 : World) : Nat → List Oper → Prop
  | _, [] => True
  | i, o :: r => StepFC S N P D Gs F0 w0 i o ∧ StepsFC S N P D Gs F0 w0 (i + 1) r
theorem stepsFC_nil {S : Nat → Prop} {D : List (Option Tmp)} {Gs : List Pc} {F0 : Nat → Value} {w0 : World} {i : Nat} : StepsFC S N P D Gs F0 w0 i [] := trivial
theorem stepsFC_cons {S : Nat → Prop} {D : List (Option Tmp)} {Gs : List Pc} {F0 : Nat → Value} {w0 : World} {i : Nat} {o : Oper} {r : List Oper} (h : StepFC S N P D Gs F0 w0 i o) (k : StepsFC S N P D Gs F0 w0 (i + 1) r) : StepsFC S N P D Gs F0 w0 i (o :: r) := ⟨h, k⟩
theorem StepFC.one {S : Nat → Prop} {D : List (Option Tmp)} {Gs : List Pc} {F0 : Nat → Value} {w0 : World} {i : Nat} {o : Oper} (hg : o.guard = none)
    (h : ∀ (F : Nat → Value) (w : World), Kept S w0 w → (∀ t, Nat.blt t N = true → some t ∉ D → F t = F0 t) → DepsF D (ToldC w0.heap.size Gs i) F w o.after.toList → Yields P (ev F) o w (LeftC Gs D i (ev F) w)) : StepFC S N P D Gs F0 w0 i o := by
  intro F w h1 h2 h3 _
  rw [hg]
  exact h F w h1 h2 h3
theorem StepFC.old {S : Nat → Prop} {D : List (Option Tmp)} {Gs : List Pc} {F0 : Nat → Value} {w0 : World} {i p : Nat} {t : TypeId} {zs us : List Value} {o : Oper} (hg : o.guard = none) (he : Gs.getD i Pc.none = .told p t zs us)
    (h : ∀ (F : Nat → Value) (w : World), Kept S w0 w → (∀ t, Nat.blt t N = true → some t ∉ D → F t = F0 t) → DepsF D (ToldC w0.heap.size Gs i) F w o.after.toList → Stc w p t zs → Yields P (ev F) o w (fun _ w' => Stc w' p t us ∧ Kept (onB p) w w')) : StepFC S N P D Gs F0 w0 i o := by
  intro F w h1 h2 h3 h4
  rw [hg]
  refine (h F w h1 h2 h3 (h4 _ _ _ _ he)).mono' fun v w' hx => ?_
  unfold LeftC
  rw [he]; exact hx
theorem StepFC.when {S : Nat → Prop} {D : List (Option Tmp)} {Gs : List Pc} {F0 : Nat → Value} {w0 : World} {i : Nat} {o : Oper} (j : Nat) (want : Bool) (d : Tmp) (hg : o.guard = some (j, want)) (hd : D.getD j none = some d)
    (h : ∀ (F : Nat → Value) (w : World), Kept S w0 w → (∀ t, Nat.blt t N = true → some t ∉ D → F t = F0 t) → DepsF D (ToldC w0.heap.size Gs i) F w o.after.toList → F d = .bool want ∧ Yields P (ev F) o w (LeftC Gs D i (ev F) w)) : StepFC S N P D Gs F0 w0 i o := by
  intro F w h1 h2 h3 _
  rw [hg]
  exact ⟨d, hd, .inl (h F w h1 h2 h3)⟩
theorem upL_here {L : Nat → Bool} {i : Nat} : upL L i i = true := if_pos rfl
theorem upL_ne {L : Nat → Bool} {i j : Nat} (h : j ≠ i) : upL L i j = L j := if_neg h
theorem upV_here {v : Nat → Value} {i : Nat} {x : Value} : upV v i x i = x := if_pos rfl
theorem upV_ne {v : Nat → Value} {i j : Nat} {x : Value} (h : j ≠ i) : upV v i x j = v j := if_neg h
theorem getElem_getD {α : Type} {l : List α} {d x : α} {i : Nat} (h : l.getD i d = x) (hn : x ≠ d) : l[i]? = some x := by
  unfold List.getD at h
  cases hq : l[i]? with
  | none => rw [hq] at h; exact absurd h.symm hn
  | some y => rw [hq] at h; simpa using h

/-- One more operation that is no turn. -/
theorem JC.more {S : Nat → Prop} {os : List Oper} {D : List (Option Tmp)} {Gs : List Pc} {w0 w w' : World} {L : Nat → Bool} {v : Nat → Value} {i : Nat} {x : Value} (hwf : wfC os D Gs = true) (h : JC S w0 Gs L v w) (hi : L i = false) (k : Kept (fun _ => False) w w')
    (hnt : ∀ j, Gs.getD i Pc.none ≠ .turn j) (hnd : ∀ p t zs us, Gs.getD i Pc.none ≠ .told p t zs us) (hx : HoldC w0.heap.size (Gs.getD i Pc.none) (upL L i) x w') (hb : isBlk (Gs.getD i Pc.none) = true → ∃ q, x = .pointer (some ⟨q, 0, none⟩) ∧ w.heap.size ≤ q) : JC S w0 Gs (upL L i) (upV v i x) w' := by
  have hkeep : ∀ j, L j = true → HoldC w0.heap.size (Gs.getD j Pc.none) (upL L i) (v j) w' := by
    intro j hj
    have := h.holds j hj
    revert this
    cases e : Gs.getD j Pc.none with
    | eq y => exact id
    | turn y => exact id
    | told y1 y2 y3 y4 => exact id
    | blk t zs kk us =>
      rintro ⟨q, e1, e2, e3⟩
      have hki : kk ≠ i := fun e' => hnt j (by rw [← e']; exact wf_blk hwf e)
      refine ⟨q, e1, e2, ?_⟩
      rw [upL_ne hki]
      exact e3.all k id
  refine ⟨h.kept.trans k (fun _ _ x => x.elim), fun j p t zs us hj => ?_, fun j hj => ?_, fun a b hab ha hb' hA hB => ?_, fun a b ha hab => ?_⟩
  · have hji : j ≠ i := fun e => hnd p t zs us (by rw [← e]; exact hj)
    rw [upL_ne hji]
    exact (h.olds j p t zs us hj).all k id
  · by_cases hji : j = i
    · subst hji; rw [upV_here]; exact hx
    · rw [upL_ne hji] at hj; rw [upV_ne hji]; exact hkeep j hj
  · have hnew : ∀ c, c ≠ i → L c = true → isBlk (Gs.getD c Pc.none) = true → isBlk (Gs.getD i Pc.none) = true → v c ≠ x := by
      intro c _ hc hC hI e
      obtain ⟨q, e1, e2⟩ := hb hI
      have := h.holds c hc
      revert this hC
      cases e' : Gs.getD c Pc.none with
      | eq y => intro hC; cases hC
      | turn y => intro hC; cases hC
      | told y1 y2 y3 y4 => intro hC; cases hC
      | blk t zs kk us =>
        rintro - ⟨q', f1, f2, f3⟩
        rw [f1, e1] at e
        cases e
        have := f3.lt
        omega
    by_cases hai : a = i
    · subst hai
      have hba : b ≠ a := fun e => hab e.symm
      rw [upL_ne hba] at hb'
      rw [upV_here, upV_ne hba]
      exact fun e => hnew b hba hb' hB hA e.symm
    · rw [upL_ne hai] at ha
      rw [upV_ne hai]
      by_cases hbi : b = i
      · subst hbi; rw [upV_here]; exact hnew a hai ha hA hB
      · rw [upL_ne hbi] at hb'; rw [upV_ne hbi]; exact h.apart a b hab ha hb' hA hB
  · by_cases hai : a = i
    · subst hai; exact absurd hab (hnt b)
    · rw [upL_ne hai] at ha
      have := h.clos a b ha hab
      by_cases hbi : b = i
      · subst hbi; exact upL_here
      · rw [upL_ne hbi]; exact this
/-- One more turn. -/
theorem JC.turned {S : Nat → Prop} {os : List Oper} {D : List (Option Tmp)} {Gs : List Pc} {w0 w w' : World} {L : Nat → Bool} {v : Nat → Value} {i j q : Nat} {x : Value} (hwf : wfC os D Gs = true) (hO : Olds S w0 Gs) (h : JC S w0 Gs L v w) (hi : L i = false) (hj : L j = true) (he : Gs.getD i Pc.none = .turn j)
    (hv : v j = .pointer (some ⟨q, 0, none⟩)) (hq : ∀ t zs us, Gs.getD j Pc.none = .blk t zs i us → Stc w' q t us) (k : Kept (onB q) w w') : JC S w0 Gs (upL L i) (upV v i x) w' := by
  have hw := wfC_at hwf i
  rw [he] at hw
  simp only [wfAt, Bool.and_eq_true] at hw
  have hn0 : w0.heap.size ≤ q := by
    have := h.holds j hj
    revert this
    obtain ⟨⟨h1, _⟩, _⟩ := hw
    cases e : Gs.getD j Pc.none with
    | eq y => rw [e] at h1; cases h1
    | turn y => rw [e] at h1; cases h1
    | told y1 y2 y3 y4 => rw [e] at h1; cases h1
    | blk t zs kk us =>
      rintro ⟨q', e1, e2, _⟩
      rw [hv] at e1; cases e1; exact e2
  have hjB : isBlk (Gs.getD j Pc.none) = true := by
    obtain ⟨⟨h1, _⟩, _⟩ := hw
    cases e : Gs.getD j Pc.none with
    | eq y => rw [e] at h1; cases h1
    | turn y => rw [e] at h1; cases h1
    | told y1 y2 y3 y4 => rw [e] at h1; cases h1
    | blk t zs kk us => rfl
  refine ⟨h.kept.trans k (fun b hb e => by cases e; omega), fun a p t zs us ha => ?_, fun a ha => ?_, fun a b hab ha hb hA hB => ?_, fun a b ha hab => ?_⟩
  · have hai : a ≠ i := fun e => by rw [e, he] at ha; cases ha
    rw [upL_ne hai]
    exact (h.olds a p t zs us ha).all k (fun e => by have := (hO.at a p t zs us ha).2.lt; rw [show p = q from e] at this; omega)
  · by_cases hai : a = i
    · subst hai; rw [upV_here, he]; exact trivial
    · rw [upL_ne hai] at ha; rw [upV_ne hai]
      have := h.holds a ha
      revert this
      cases e : Gs.getD a Pc.none with
      | eq y => exact id
      | turn y => exact id
      | told y1 y2 y3 y4 => exact id
      | blk t zs kk us =>
        rintro ⟨q', e1, e2, e3⟩
        have hk := wf_blk hwf e
        by_cases haj : a = j
        · subst haj
          have hki : kk = i := by
            obtain ⟨⟨h1, _⟩, _⟩ := hw
            rw [e] at h1; simpa using h1
          subst hki
          rw [hv] at e1; cases e1
          refine ⟨q, hv, hn0, ?_⟩
          rw [if_pos upL_here]
          exact hq t zs us e
        · have hki : kk ≠ i := fun e' => by rw [e', he] at hk; cases hk; exact haj rfl
          refine ⟨q', e1, e2, ?_⟩
          rw [upL_ne hki]
          refine e3.all k (fun e' => ?_)
          have := h.apart a j haj ha hj (by rw [e]; rfl) hjB
          rw [e1, hv] at this
          exact this (by rw [show q' = q from e'])
  · have hni : ∀ c, isBlk (Gs.getD c Pc.none) = true → c ≠ i := fun c hc e => by rw [e, he] at hc; cases hc
    rw [upV_ne (hni a hA), upV_ne (hni b hB)]
    rw [upL_ne (hni a hA)] at ha
    rw [upL_ne (hni b hB)] at hb
    exact h.apart a b hab ha hb hA hB
  · by_cases hai : a = i
    · subst hai
      rw [he] at hab; cases hab
      by_cases hji : j = a
      · subst hji; exact upL_here
      · rw [upL_ne hji]; exact hj
    · rw [upL_ne hai] at ha
      have := h.clos a b ha hab
      by_cases hbi : b = i
      · subst hbi; exact upL_here
      · rw [upL_ne hbi]; exact this

/-- One more turn of a block that was there. -/
theorem JC.oldTurned {S : Nat → Prop} {os : List Oper} {D : List (Option Tmp)} {Gs : List Pc} {w0 w w' : World} {L : Nat → Bool} {v : Nat → Value} {i p : Nat} {t : TypeId} {zs us : List Value} {x : Value} (hwf : wfC os D Gs = true) (hO : Olds S w0 Gs) (h : JC S w0 Gs L v w) (he : Gs.getD i Pc.none = .told p t zs us)
    (hq : Stc w' p t us) (k : Kept (onB p) w w') : JC S w0 Gs (upL L i) (upV v i x) w' := by
  have hp := hO.at i p t zs us he
  have hni : ∀ c, isBlk (Gs.getD c Pc.none) = true → c ≠ i := fun c hc e => by rw [e, he] at hc; cases hc
  refine ⟨h.kept.trans k (fun b hb e => by cases e; exact hp.1), fun a p' t' zs' us' ha => ?_, fun a ha => ?_, fun a b hab ha hb hA hB => ?_, fun a b ha hab => ?_⟩
  · by_cases hai : a = i
    · subst hai
      rw [he] at ha; cases ha
      rw [if_pos upL_here]; exact hq
    · rw [upL_ne hai]
      exact (h.olds a p' t' zs' us' ha).all k (fun e => hO.ne a i p' t' zs' us' p t zs us hai ha he e)
  · by_cases hai : a = i
    · subst hai; rw [upV_here, he]; exact trivial
    · rw [upL_ne hai] at ha; rw [upV_ne hai]
      have := h.holds a ha
      revert this
      cases e : Gs.getD a Pc.none with
      | eq y => exact id
      | turn y => exact id
      | told y1 y2 y3 y4 => exact id
      | blk t zs kk us =>
        rintro ⟨q', e1, e2, e3⟩
        have hk := wf_blk hwf e
        have hki : kk ≠ i := fun e' => by rw [e', he] at hk; cases hk
        refine ⟨q', e1, e2, ?_⟩
        rw [upL_ne hki]
        exact e3.all k (fun e' => by have := hp.2.lt; rw [show q' = p from e'] at e2; omega)
  · rw [upV_ne (hni a hA), upV_ne (hni b hB)]
    rw [upL_ne (hni a hA)] at ha
    rw [upL_ne (hni b hB)] at hb
    exact h.apart a b hab ha hb hA hB
  · have hai : a ≠ i := fun e => by rw [e, he] at hab; cases hab
    rw [upL_ne hai] at ha
    have := h.clos a b ha hab
    by_cases hbi : b = i
    · subst hbi; exact upL_here
    · rw [upL_ne hbi]; exact this

theorem StepFC.step {S : Nat → Prop} {os : List Oper} {D : List (Option Tmp)} {Gs : List Pc} {w0 : World} {i : Nat} {o : Oper} {a0 : Act} (hwf : wfC os D Gs = true) (hO : Olds S w0 Gs) (ho : os[i]? = some o) (ha : Fr N F a0) (h : StepFC S N P D Gs F w0 i o) : StepJ os P D (JC S w0 Gs) a0 i o := by
  intro L v a w hJ hi hdone hout hhere _
  have hdeps : DepsF D (ToldC w0.heap.size Gs i) (fun t => a.tmps.getD t undef) w o.after.toList := by
    refine Deps.toF (Deps.mk fun e he hb d hd => ?_)
    have hl := hdone e he hb
    have hDe := getElem_getD hd (by simp)
    have hv := hhere e.on d hl hDe
    rw [hv]
    have := hJ.holds e.on hl
    unfold ToldC
    revert this
    cases e' : Gs.getD e.on Pc.none with
    | eq y => exact id
    | turn y => exact id
    | told y1 y2 y3 y4 => exact id
    | blk t zs kk us =>
      rintro ⟨q, e1, e2, e3⟩ hk
      refine ⟨q, e1, e2, ?_⟩
      subst hk
      rw [hi, if_neg (by simp)] at e3
      exact e3
  have h1 := h (fun t => a.tmps.getD t undef) w hJ.kept (fun t hb ht => by rw [← ha.at' t hb]; exact hout t ht) hdeps (fun p t zs us e => by have := hJ.olds i p t zs us e; rw [hi, if_neg (by simp)] at this; exact this)
  rw [← eval_ev a] at h1
  have hleft : ∀ x w', LeftC Gs D i a.eval w x w' → JC S w0 Gs (upL L i) (upV v i x) w' := by
    intro x w' hx
    unfold LeftC at hx
    cases e : Gs.getD i Pc.none with
    | eq y =>
      rw [e] at hx
      exact hJ.more hwf hi hx.2 (fun j hj => by rw [e] at hj; cases hj) (fun _ _ _ _ hj => by rw [e] at hj; cases hj) (by rw [e]; exact hx.1) (by rw [e]; intro hb; cases hb)
    | blk t zs kk us =>
      rw [e] at hx
      obtain ⟨q, e1, e2, e3, e4⟩ := hx
      have hk := wf_blk hwf e
      have hki : kk ≠ i := fun e' => by rw [e', e] at hk; cases hk
      have hLk : L kk = false := by
        cases hq : L kk with
        | false => rfl
        | true => have := hJ.clos kk i hq hk; rw [hi] at this; cases this
      refine hJ.more hwf hi e4 (fun j hj => by rw [e] at hj; cases hj) (fun _ _ _ _ hj => by rw [e] at hj; cases hj) ?_ (fun _ => ⟨q, e1, e2⟩)
      rw [e]
      refine ⟨q, e1, Nat.le_trans hJ.kept.size e2, ?_⟩
      rw [upL_ne hki, hLk, if_neg (by simp)]
      exact e3
    | told p t zs us =>
      rw [e] at hx
      exact hJ.oldTurned hwf hO e hx.1 hx.2
    | turn j =>
      rw [e] at hx
      obtain ⟨d, q, hd, e1, e2, e3⟩ := hx
      have hw := wfC_at hwf i
      rw [e] at hw
      simp only [wfAt, Bool.and_eq_true, ho] at hw
      obtain ⟨ed, hed, hb, hon⟩ := waitsOn_iff.1 hw.2
      have hLj := hdone ed hed hb
      rw [hon] at hLj
      have hv := hhere j d hLj (getElem_getD hd (by simp))
      exact hJ.turned hwf hO hi hLj e (by rw [← hv]; exact e1) e2 e3
  unfold goes
  cases hg : o.guard with
  | none => rw [hg] at h1; exact ⟨fun _ => h1.mono' hleft, fun e => by cases e⟩
  | some g =>
    obtain ⟨j, want⟩ := g
    rw [hg] at h1
    obtain ⟨d, hd, h1⟩ := h1
    simp only [hd]
    have hev : a.eval (.tmp d) = a.tmps.getD d undef := rfl
    rcases h1 with ⟨hv, hy⟩ | ⟨hv, hs⟩
    · rw [hev, hv]; exact ⟨fun _ => hy.mono' hleft, fun e => by simp at e⟩
    · refine ⟨fun e => ?_, fun _ => hJ.more hwf hi (Kept.refl _ _) (fun j hj => by rw [hs] at hj; cases hj) (fun _ _ _ _ hj => by rw [hs] at hj; cases hj) (by rw [hs]; rfl) (by rw [hs]; intro hb; cases hb)⟩
      rcases hv with hv | hv
      · rw [hev, hv] at e; cases want <;> simp at e
      · rw [hev, hv] at e; simp [undef] at e
theorem StepsFC.steps {S : Nat → Prop} {all : List Oper} {D : List (Option Tmp)} {Gs : List Pc} {w0 : World} {a0 : Act} (hwf : wfC all D Gs = true) (hO : Olds S w0 Gs) (ha : Fr N F a0) : ∀ {os : List Oper} {i : Nat}, (∀ k o, os[k]? = some o → all[i + k]? = some o) → StepsFC S N P D Gs F w0 i os → StepsJ all P D (JC S w0 Gs) a0 i os := by
  intro os
  induction os with
  | nil => intro i _ _; exact trivial
  | cons o r ih =>
    intro i hat h
    exact ⟨h.1.step hwf hO (hat 0 o rfl) ha, ih (fun k o' hk => by have := hat (k + 1) o' hk; rwa [show i + (k + 1) = i + 1 + k by omega] at this) h.2⟩
/-- What is known behind the region. -/
def EndC (n0 : Nat) (Gs : List Pc) (i : Nat) (v : Value) (w : World) : Prop := match Gs.getD i Pc.none with
  | .eq x => v = x
  | .turn _ => True
  | .told p t _ us => Stc w p t us
  | .blk t _ _ us => ∃ q, v = .pointer (some ⟨q, 0, none⟩) ∧ n0 ≤ q ∧ Stc w q t us
theorem wq_cells {S : Nat → Prop} {id : Nat} {ops : Array Oper} (D : List (Option Tmp)) (Gs : List Pc) (hm : P.follows .mixedOrders = true) (hpl : plain N 0 D ops.toList = true) (hwf : wfC ops.toList D Gs = true) (hsz : Gs.length = ops.size) (hO : Olds S w Gs) (hsteps : StepsFC S N P D Gs F w 0 ops.toList)
    (hend : ∀ (v : Nat → Value) (F' : Nat → Value) (w' : World), Kept S w w' → (∀ i, i < ops.size → EndC w.heap.size Gs i (v i) w') → (∀ i j, i ≠ j → i < ops.size → j < ops.size → isBlk (Gs.getD i Pc.none) = true → isBlk (Gs.getD j Pc.none) = true → v i ≠ v j) → (∀ t, F' t = putsF v 0 D F t) → Q .normal F' w') : wq none P N (.region id ops true) Q F w := by
  intro a ha
  refine wpIn_wide.2 ?_
  refine wp_region_inv D (JC S w Gs) hm (by rw [ha.size]; exact hpl) ⟨(Kept.refl _ w).drew, fun i p t zs us e => (by rw [if_neg (by simp)]; exact (hO.at i p t zs us e).2.all ((Kept.refl (fun _ => False) w).drew) (fun z => z)), fun _ e => (by cases e), fun _ _ _ e => (by cases e), fun _ _ e => (by cases e)⟩ (hsteps.steps hwf hO ha (fun k o hk => by rw [Nat.zero_add]; exact hk)) fun L v w' hJ hL => ?_
  refine ⟨putsF v 0 D F, putAll_fr v D 0 F a ha (plain_fits hpl), hend v _ w' hJ.kept (fun i hi => ?_) (fun i j hij hi hj hI hJ' => hJ.apart i j hij (hL i hi) (hL j hj) hI hJ') fun _ => rfl⟩
  have := hJ.holds i (hL i hi)
  unfold EndC
  revert this
  cases e : Gs.getD i Pc.none with
  | eq y => exact fun z => z
  | turn y => exact fun z => z
  | told p t zs us =>
    intro _
    have := hJ.olds i p t zs us e
    rw [if_pos (hL i hi)] at this
    exact this
  | blk t zs kk us =>
    rintro ⟨q, e1, e2, e3⟩
    have hk := wf_blk hwf e
    have hkk : kk < ops.size := by
      rw [← hsz]
      rcases Nat.lt_or_ge kk Gs.length with h' | h'
      · exact h'
      · have : Gs.getD kk Pc.none = Pc.none := by simp [List.getD, List.getElem?_eq_none h']
        rw [this] at hk; cases hk
    rw [if_pos (hL kk hkk)] at e3
    exact ⟨q, e1, e2, e3⟩
end
theorem apart_of_ne {v1 v2 : Value} {p q : Nat} (h : v1 ≠ v2) (e1 : v1 = .pointer (some ⟨p, 0, none⟩)) (e2 : v2 = .pointer (some ⟨q, 0, none⟩)) : Apart (onB p) (onB q) := fun i h1 h2 => by
  unfold onB at h1 h2
  subst h1; subst h2
  exact h (e1.trans e2.symm)
theorem y_storeCel {P : Program} {ρ : Operand → Value} {o : Oper} {w : World} {R : Value → World → Prop} {ty t : TypeId} {x y : Operand} {p : Nat} {v v' : Value} (ho : o.op = .store ty x y) (hx : ρ x = .pointer (some ⟨p, 0, none⟩)) (hy : ρ y = v') (hB : Cel w p t v) (hv : oneC v' = true)
    (hs : (P.info? ty).map (·.size) = some 1)
    (h : ∀ u w', Cel w' p t v' → Kept (onB p) w w' → R u w') : Yields P ρ o w R := by
  have hc := hB.cell
  have hf : w.frozen? ⟨p, 0, none⟩ = false := frozen_of_heap hB
  cases hq : P.info? ty with
  | none => simp [hq] at hs
  | some i =>
    have hs' : i.size = 1 := by simpa [hq] using hs
    have e : (execOp ρ o).run P w = .ok .skip (w.setCell ⟨p, 0, none⟩ v') ∨ (execOp ρ o).run P w = .ok (.value undef) (w.setCell ⟨p, 0, none⟩ v') := by
      cases v' <;> first | (simp [oneC] at hv; done) | simp [execOp, ho, hx, hy, Instr.storeAt, Instr.sureAddr, storeVar, sizeOf, typeInfo, hq, hs', Value.cells, hc, hf, go_sem]
    have hn : Cel (w.setCell ⟨p, 0, none⟩ v') p t v' := by unfold Cel; rw [heap_setCell_same _ _ _ _ hB]; rfl
    have k : Kept (onB p) w (w.setCell ⟨p, 0, none⟩ v') := (Kept.refl (onB p) w).setCell ⟨p, 0, none⟩ (fun _ => rfl) _
    unfold Yields
    rcases e with e | e <;> rw [e] <;> exact h _ _ hn k
end Go.Proofs.Ytceoidglhakanaa
namespace Go.Proofs.Ytceoidglhakanaa
open Go.RowKit

def sameVec (a b c d : Int) : Bool := decide (a = c) && decide (b = d)
theorem Try.vecFields : (Try.prog.fieldsOf 27).toList.map (fun f => (f.name, f.type, f.offset)) = [("X", 3, 0), ("Y", 3, 1)] := by kernel_rfl
theorem part_int (w : World) (xs : Array Value) (i : Nat) (z : Int) (h : xs[i]? = some (.int .i64 z)) : (part 3 xs i).run Try.prog w = .ok (.int .i64 z) w := by
  simp [part, isAgg, run_underlying Try.underlying3, h]
theorem run_same_vec (w : World) (a b c d : Int) : (Op.equalIn 10000 27 (.agg #[.int .i64 a, .int .i64 b]) (.agg #[.int .i64 c, .int .i64 d])).run Try.prog w = .ok (sameVec a b c d) w := by
  rw [run_equalIn_struct w 9999 _ _ _ (by kernel_rfl) (by kernel_rfl)]
  have hf := Try.vecFields
  generalize (Try.prog.fieldsOf 27).toList = fs at hf
  have hlen : fs.length = 2 := by simpa using congrArg List.length hf
  have p1 := part_int w #[.int .i64 a, .int .i64 b] 0 a rfl
  have p2 := part_int w #[.int .i64 c, .int .i64 d] 0 c rfl
  have p3 := part_int w #[.int .i64 a, .int .i64 b] 1 b rfl
  have p4 := part_int w #[.int .i64 c, .int .i64 d] 1 d rfl
  match fs, hlen with
  | [f0, f1], _ =>
    simp only [List.map_cons, List.map_nil, List.cons.injEq, Prod.mk.injEq, and_true] at hf
    obtain ⟨⟨n0, t0, o0⟩, ⟨n1, t1, o1⟩⟩ := hf
    simp only [Op.eqFields, n0, t0, o0, n1, t1, o1]
    rw [if_pos (by decide), if_pos (by decide)]
    simp only [Sem.run_bind, p1, p2, Result.andThen_ok, run_equalIn_int w 9998 3 .i64 .i64 _ _ Try.underlying3]
    unfold sameVec
    by_cases h1 : a = c
    · subst h1
      simp only [beq_self_eq_true, Bool.not_true, Bool.false_eq_true, if_false, Sem.run_bind, p3, p4, Result.andThen_ok, run_equalIn_int w 9998 3 .i64 .i64 _ _ Try.underlying3]
      by_cases h2 : b = d
      · subst h2; simp
      · have : (b == d) = false := by simpa using h2
        simp [this, h2]
    · have : (a == c) = false := by simpa using h1
      simp [this, h1]
theorem Try.guard_vec : Try.prog.eqGuardType Try.prog.depth 27 = false := by kernel_rfl
section
variable {ρ : Operand → Value} {o : Oper} {w : World} {R : Value → World → Prop}
theorem y_eqlVec {t' : TypeId} {x y : Operand} {a b c d : Int} {q : Bool} (ho : o.op = .binOp .eql 27 x y t') (hx : ρ x = .agg #[.int .i64 a, .int .i64 b]) (hy : ρ y = .agg #[.int .i64 c, .int .i64 d]) (hr : sameVec a b c d = q) (h : R (.bool q) w) : Yields Try.prog ρ o w R :=
  y_of (v := .bool (sameVec a b c d)) (w' := w) (by simp only [execOp, ho, hx, hy, Sem.run_bind, run_eqGuard_agg w .eql _ _ _ _ _ Try.guard_vec, run_eql_struct, run_same_vec, Result.andThen_ok, Sem.run_pure]) (by rw [hr]; exact h)
end

def Cin (w : World) (T : Nat → Prop) (p : Nat) (n : Int) : Prop := T = onB p ∧ Cel w p 3 (.int .i64 n)
theorem Cin.live {w : World} {T : Nat → Prop} {p : Nat} {n : Int} (h : Cin w T p n) : Live w T := by
  obtain ⟨rfl, h⟩ := h; exact onB_live h.lt
theorem Cin.all {S : Nat → Prop} {w w' : World} {T : Nat → Prop} {p : Nat} {n : Int} (h : Cin w T p n) (k : Kept S w w') (ha : Apart T S) : Cin w' T p n := by
  obtain ⟨rfl, h⟩ := h; exact ⟨rfl, h.all k (ha p rfl)⟩
theorem Cin.cells {w : World} {T : Nat → Prop} {p : Nat} {n : Int} (h : Cin w T p n) : Cells w T := by
  obtain ⟨rfl, h⟩ := h; exact h.cells
theorem Cin.row {A B : World} {row : Option Nat} {m p : Nat} {T : Nat → Prop} {n : Int} (h : Cin A T p n) (hg : A.grownBy B row) (hr : RowNew m A row) : Cin B T p n := h.all (kept_row hg) (h.cells.apart hr)

theorem kept_of_below {w w' : World} (h : Below w.heap.size w w') : Kept (fun _ => False) w w' := ⟨h.os, h.tape, h.output, h.size, fun k hk _ => h.block k hk⟩
theorem and_1 : ∀ k : Fin 513, bits .and .i64 ((k.1 : Int) - 256) 1 = ((k.1 : Int) - 256) % 2 := by decide +kernel
theorem and_one {u : Int} (h : -256 ≤ u ∧ u ≤ 256) : bits .and .i64 u 1 = u % 2 := by
  have := and_1 ⟨(u + 256).toNat, by omega⟩
  simp only at this
  rwa [show (((u + 256).toNat : Nat) : Int) - 256 = u by omega] at this

set_option maxHeartbeats 4000000 in
set_option maxRecDepth 100000 in
theorem mo_clamped (n a b : Int) (w0 : World) :
    Calls Try.prog 30 #[.int .i64 (n), .int .i64 (a), .int .i64 (b)] w0 fun e w' => e = .returned (.int .i64 (max a (min n b))) ∧ Kept (fun _ => False) w0 w' := by
  refine calls_wq (args := [.int .i64 (n), .int .i64 (a), .int .i64 (b)]) 12 Try.func30 rfl rfl (Nat.le_of_ble_eq_true rfl) ?_
  have K0 := Kept.refl (fun _ => False) w0
  refine wq_seq ?_
  refine wq_region ?_
  refine wl_v (.int .i64 (0)) rfl rfl (y_asg rfl rfl ⟨rfl, rfl⟩) ?_
  refine wl_nil fun F1 hF2 => ?_
  have s3 : F1 0 = .int .i64 (n) := (hF2 0).trans rfl
  have s4 : F1 1 = .int .i64 (a) := (hF2 1).trans rfl
  have s5 : F1 2 = .int .i64 (b) := (hF2 2).trans rfl
  have s6 : F1 12 = undef := (hF2 12).trans rfl
  clear hF2
  refine then_normal ?_
  refine wq_seq ?_
  refine wq_region ?_
  refine wl_v (.int .i64 (a)) rfl rfl (y_mov rfl s4 ⟨rfl, rfl⟩) ?_
  refine wl_v (.int .i64 (n)) rfl rfl (y_mov rfl s3 ⟨rfl, rfl⟩) ?_
  refine wl_v (.int .i64 (b)) rfl rfl (y_mov rfl s5 ⟨rfl, rfl⟩) ?_
  refine wl_v (.int .i64 (min (n) (b))) rfl rfl (y_minR rfl rfl rfl rfl ⟨rfl, rfl⟩) ?_
  refine wl_v (.int .i64 (max (a) (min (n) (b)))) rfl rfl (y_maxR rfl rfl rfl rfl ⟨rfl, rfl⟩) ?_
  refine wl_v (.int .i64 (max (a) (min (n) (b)))) rfl rfl (y_asg rfl rfl ⟨rfl, rfl⟩) ?_
  refine wl_nil fun F7 hF8 => ?_
  have s9 : F7 12 = undef := (hF8 12).trans s6
  have s10 : F7 6 = .int .i64 (max (a) (min (n) (b))) := (hF8 6).trans rfl
  clear hF8
  refine then_normal ?_
  refine wq_ret ?_
  exact end_tmp (v := .int .i64 (max (a) (min (n) (b)))) s9 rfl rfl s10 ⟨rfl, K0⟩
set_option maxHeartbeats 4000000 in
set_option maxRecDepth 100000 in
theorem mo_mayGo (n : Int) (w0 : World) :
    Calls Try.prog 29 #[.int .i64 (n)] w0 fun e w' => e = .returned (.bool (decide (-31 ≤ n ∧ n ≤ 31))) ∧ Kept (fun _ => False) w0 w' := by
  refine calls_wq (args := [.int .i64 (n)]) 9 Try.func29 rfl rfl (Nat.le_of_ble_eq_true rfl) ?_
  have K0 := Kept.refl (fun _ => False) w0
  refine wq_seq ?_
  refine wq_region ?_
  refine wl_v (.bool false) rfl rfl (y_asg rfl rfl ⟨rfl, rfl⟩) ?_
  refine wl_nil fun F1 hF2 => ?_
  have s3 : F1 0 = .int .i64 (n) := (hF2 0).trans rfl
  have s4 : F1 9 = undef := (hF2 9).trans rfl
  clear hF2
  refine then_normal ?_
  refine wq_seq ?_
  by_cases d5 : (-31) ≤ (n)
  · skip
    refine wq_region ?_
    refine wl_v (.int .i64 (n)) rfl rfl (y_mov rfl s3 ⟨rfl, rfl⟩) ?_
    refine wl_v (.bool true) rfl rfl (y_geq rfl rfl rfl (decide_eq_true d5) ⟨rfl, rfl⟩) ?_
    refine wl_v (.bool true) rfl rfl (y_mov rfl rfl ⟨rfl, rfl⟩) ?_
    refine wl_vw (.int .i64 (n)) 2 true 5 rfl rfl rfl rfl rfl (y_mov rfl s3 ⟨rfl, rfl⟩) ?_
    refine wl_vw (.bool (decide ((n) ≤ (31)))) 2 true 5 rfl rfl rfl rfl rfl (y_leq rfl rfl rfl rfl ⟨rfl, rfl⟩) ?_
    refine wl_v (.bool (decide ((n) ≤ (31)))) rfl rfl (y_pickT rfl rfl rfl ⟨rfl, rfl⟩) ?_
    refine wl_v (.bool (decide ((n) ≤ (31)))) rfl rfl (y_asg rfl rfl ⟨rfl, rfl⟩) ?_
    refine wl_nil fun F6 hF7 => ?_
    have s8 : F6 9 = undef := (hF7 9).trans s4
    have s9 : F6 2 = .bool (decide ((n) ≤ (31))) := (hF7 2).trans rfl
    clear hF7
    refine then_normal ?_
    refine wq_ret ?_
    exact end_tmp (v := .bool (decide ((n) ≤ (31)))) s8 rfl rfl s9 ⟨(retB (by first | exact (decide_eq_true (by omega)).symm | exact (decide_eq_false (by omega)).symm | exact decide_eq_decide.2 (by omega))), K0⟩
  · skip
    refine wq_region ?_
    refine wl_v (.int .i64 (n)) rfl rfl (y_mov rfl s3 ⟨rfl, rfl⟩) ?_
    refine wl_v (.bool false) rfl rfl (y_geq rfl rfl rfl (decide_eq_false d5) ⟨rfl, rfl⟩) ?_
    refine wl_v (.bool false) rfl rfl (y_mov rfl rfl ⟨rfl, rfl⟩) ?_
    refine wl_unless 2 true 5 rfl rfl rfl (Or.inl rfl) rfl ?_
    refine wl_unless 2 true 5 rfl rfl rfl (Or.inl rfl) rfl ?_
    refine wl_v (.bool false) rfl rfl (y_pickF rfl rfl rfl ⟨rfl, rfl⟩) ?_
    refine wl_v (.bool false) rfl rfl (y_asg rfl rfl ⟨rfl, rfl⟩) ?_
    refine wl_nil fun F10 hF11 => ?_
    have s12 : F10 9 = undef := (hF11 9).trans s4
    have s13 : F10 2 = .bool false := (hF11 2).trans rfl
    clear hF11
    refine then_normal ?_
    refine wq_ret ?_
    exact end_tmp (v := .bool false) s12 rfl rfl s13 ⟨(retB (by first | exact (decide_eq_true (by omega)).symm | exact (decide_eq_false (by omega)).symm | exact decide_eq_decide.2 (by omega))), K0⟩
set_option maxHeartbeats 4000000 in
set_option maxRecDepth 100000 in
theorem mo_mayPlace (n : Int) (w0 : World) :
    Calls Try.prog 27 #[.int .i64 (n)] w0 fun e w' => e = .returned (.bool (decide (0 ≤ n ∧ n ≤ 64))) ∧ Kept (fun _ => False) w0 w' := by
  refine calls_wq (args := [.int .i64 (n)]) 9 Try.func27 rfl rfl (Nat.le_of_ble_eq_true rfl) ?_
  have K0 := Kept.refl (fun _ => False) w0
  refine wq_seq ?_
  refine wq_region ?_
  refine wl_v (.bool false) rfl rfl (y_asg rfl rfl ⟨rfl, rfl⟩) ?_
  refine wl_nil fun F1 hF2 => ?_
  have s3 : F1 0 = .int .i64 (n) := (hF2 0).trans rfl
  have s4 : F1 9 = undef := (hF2 9).trans rfl
  clear hF2
  refine then_normal ?_
  refine wq_seq ?_
  by_cases d5 : (0) ≤ (n)
  · skip
    refine wq_region ?_
    refine wl_v (.int .i64 (n)) rfl rfl (y_mov rfl s3 ⟨rfl, rfl⟩) ?_
    refine wl_v (.bool true) rfl rfl (y_geq rfl rfl rfl (decide_eq_true d5) ⟨rfl, rfl⟩) ?_
    refine wl_v (.bool true) rfl rfl (y_mov rfl rfl ⟨rfl, rfl⟩) ?_
    refine wl_vw (.int .i64 (n)) 2 true 5 rfl rfl rfl rfl rfl (y_mov rfl s3 ⟨rfl, rfl⟩) ?_
    refine wl_vw (.bool (decide ((n) ≤ (64)))) 2 true 5 rfl rfl rfl rfl rfl (y_leq rfl rfl rfl rfl ⟨rfl, rfl⟩) ?_
    refine wl_v (.bool (decide ((n) ≤ (64)))) rfl rfl (y_pickT rfl rfl rfl ⟨rfl, rfl⟩) ?_
    refine wl_v (.bool (decide ((n) ≤ (64)))) rfl rfl (y_asg rfl rfl ⟨rfl, rfl⟩) ?_
    refine wl_nil fun F6 hF7 => ?_
    have s8 : F6 9 = undef := (hF7 9).trans s4
    have s9 : F6 2 = .bool (decide ((n) ≤ (64))) := (hF7 2).trans rfl
    clear hF7
    refine then_normal ?_
    refine wq_ret ?_
    exact end_tmp (v := .bool (decide ((n) ≤ (64)))) s8 rfl rfl s9 ⟨(retB (by first | exact (decide_eq_true (by omega)).symm | exact (decide_eq_false (by omega)).symm | exact decide_eq_decide.2 (by omega))), K0⟩
  · skip
    refine wq_region ?_
    refine wl_v (.int .i64 (n)) rfl rfl (y_mov rfl s3 ⟨rfl, rfl⟩) ?_
    refine wl_v (.bool false) rfl rfl (y_geq rfl rfl rfl (decide_eq_false d5) ⟨rfl, rfl⟩) ?_
    refine wl_v (.bool false) rfl rfl (y_mov rfl rfl ⟨rfl, rfl⟩) ?_
    refine wl_unless 2 true 5 rfl rfl rfl (Or.inl rfl) rfl ?_
    refine wl_unless 2 true 5 rfl rfl rfl (Or.inl rfl) rfl ?_
    refine wl_v (.bool false) rfl rfl (y_pickF rfl rfl rfl ⟨rfl, rfl⟩) ?_
    refine wl_v (.bool false) rfl rfl (y_asg rfl rfl ⟨rfl, rfl⟩) ?_
    refine wl_nil fun F10 hF11 => ?_
    have s12 : F10 9 = undef := (hF11 9).trans s4
    have s13 : F10 2 = .bool false := (hF11 2).trans rfl
    clear hF11
    refine then_normal ?_
    refine wq_ret ?_
    exact end_tmp (v := .bool false) s12 rfl rfl s13 ⟨(retB (by first | exact (decide_eq_true (by omega)).symm | exact (decide_eq_false (by omega)).symm | exact decide_eq_decide.2 (by omega))), K0⟩
set_option maxHeartbeats 4000000 in
set_option maxRecDepth 100000 in
theorem mo_within (n : Int) (w0 : World) :
    Calls Try.prog 51 #[.int .i64 (n)] w0 fun e w' => e = .returned (.int .i64 (c34 n)) ∧ Kept (fun _ => False) w0 w' := by
  refine calls_wq (args := [.int .i64 (n)]) 5 Try.func51 rfl rfl (Nat.le_of_ble_eq_true rfl) ?_
  have K0 := Kept.refl (fun _ => False) w0
  refine wq_seq ?_
  refine wq_region ?_
  refine wl_v (.int .i64 (0)) rfl rfl (y_asg rfl rfl ⟨rfl, rfl⟩) ?_
  refine wl_nil fun F1 hF2 => ?_
  have s3 : F1 0 = .int .i64 (n) := (hF2 0).trans rfl
  have s4 : F1 5 = undef := (hF2 5).trans rfl
  clear hF2
  refine then_normal ?_
  refine wq_seq ?_
  refine wq_region ?_
  refine wl_v (.int .i64 (n)) rfl rfl (y_mov rfl s3 ⟨rfl, rfl⟩) ?_
  refine wl_call (R := fun v_ w_ => v_ = .int .i64 (c34 n) ∧ Kept (fun _ => False) w0 w_) rfl rfl (y_cs rfl rfl rfl (fun _ _ => by kernel_rfl) (ev_func _) (vsC rfl (vsC rfl (vsC rfl vsN))) (mo_clamped (n) (-34) (34)  _   ) (fun e_ w_ h_ => ⟨_, h_.1, rfl, h_.2⟩)) ?_
  rintro _ w5 ⟨rfl, k6⟩
  have K7 := K0.trans k6 (fun _ _ x => x.elim)
  refine wl_v (.int .i64 (c34 n)) rfl rfl (y_asg rfl rfl ⟨rfl, rfl⟩) ?_
  refine wl_nil fun F8 hF9 => ?_
  have s10 : F8 5 = undef := (hF9 5).trans s4
  have s11 : F8 2 = .int .i64 (c34 n) := (hF9 2).trans rfl
  clear hF9
  refine then_normal ?_
  refine wq_ret ?_
  exact end_tmp (v := .int .i64 (c34 n)) s10 rfl rfl s11 ⟨rfl, K7⟩
set_option maxHeartbeats 4000000 in
set_option maxRecDepth 100000 in
theorem mo_mean (s m : Int) (w0 : World) (hs : 0 ≤ s ∧ s ≤ 4000) (hm : m = 1 ∨ m = 2 ∨ m = 4) :
    Calls Try.prog 32 #[.int .i64 (s), .int .i64 (m)] w0 fun e w' => e = .returned (.int .i64 ((s + m / 2) / m)) ∧ Kept (fun _ => False) w0 w' := by
  refine calls_wq (args := [.int .i64 (s), .int .i64 (m)]) 11 Try.func32 rfl rfl (Nat.le_of_ble_eq_true rfl) ?_
  have K0 := Kept.refl (fun _ => False) w0
  refine wq_seq ?_
  refine wq_region ?_
  refine wl_v (.int .i64 (0)) rfl rfl (y_asg rfl rfl ⟨rfl, rfl⟩) ?_
  refine wl_nil fun F1 hF2 => ?_
  have s3 : F1 0 = .int .i64 (s) := (hF2 0).trans rfl
  have s4 : F1 1 = .int .i64 (m) := (hF2 1).trans rfl
  have s5 : F1 11 = undef := (hF2 11).trans rfl
  clear hF2
  refine then_normal ?_
  refine wq_seq ?_
  refine wq_region ?_
  refine wl_v (.int .i64 (s)) rfl rfl (y_mov rfl s3 ⟨rfl, rfl⟩) ?_
  refine wl_v (.int .i64 (m)) rfl rfl (y_mov rfl s4 ⟨rfl, rfl⟩) ?_
  refine wl_v (.int .i64 (m / 2)) rfl rfl (y_quo rfl rfl rfl (by first | decide | omega) (i64_i (tdiv2 (by omega)) (by omega)) ⟨rfl, rfl⟩) ?_
  refine wl_v (.int .i64 (s + m / 2)) rfl rfl (y_add rfl rfl rfl (i64_i rfl (by omega)) ⟨rfl, rfl⟩) ?_
  refine wl_v (.int .i64 (m)) rfl rfl (y_mov rfl s4 ⟨rfl, rfl⟩) ?_
  refine wl_v (.int .i64 ((s + m / 2) / m)) rfl rfl (y_quo rfl rfl rfl (by first | decide | omega) (i64_i (Int.tdiv_eq_ediv_of_nonneg (by omega)) (by rcases hm with rfl | rfl | rfl <;> omega)) ⟨rfl, rfl⟩) ?_
  refine wl_v (.int .i64 ((s + m / 2) / m)) rfl rfl (y_asg rfl rfl ⟨rfl, rfl⟩) ?_
  refine wl_nil fun F6 hF7 => ?_
  have s8 : F6 11 = undef := (hF7 11).trans s5
  have s9 : F6 4 = .int .i64 ((s + m / 2) / m) := (hF7 4).trans rfl
  clear hF7
  refine then_normal ?_
  refine wq_ret ?_
  exact end_tmp (v := .int .i64 ((s + m / 2) / m)) s8 rfl rfl s9 ⟨rfl, K0⟩
set_option maxHeartbeats 4000000 in
set_option maxRecDepth 100000 in
theorem mo_check (X Y : Int) (w0 : World) :
    Calls Try.prog 13 #[.agg #[.int .i64 (X), .int .i64 (Y)]] w0 fun e w' => e = .returned (.int .i64 (vecE X Y)) ∧ Kept (fun _ => False) w0 w' := by
  refine calls_wq (args := [.agg #[.int .i64 (X), .int .i64 (Y)]]) 13 Try.func13 rfl rfl (Nat.le_of_ble_eq_true rfl) ?_
  have K0 := Kept.refl (fun _ => False) w0
  refine wq_seq ?_
  refine wq_region ?_
  refine wl_box_stc (vs := [.int .i64 (X), .int .i64 (Y)]) rfl rfl rfl rfl fun p1 w2 B4 g5 k3 => ?_
  have gr6 : Grew w0 noB (onB p1) := Grew.new K0 g5
  have K7 := K0.trans k3 (fun _ _ x => x.elim)
  refine wl_v (.int .i64 (0)) rfl rfl (y_asg rfl rfl ⟨rfl, rfl⟩) ?_
  refine wl_nil fun F8 hF9 => ?_
  have s10 : F8 13 = undef := (hF9 13).trans rfl
  have s11 : F8 1 = .pointer (some ⟨p1, 0, none⟩) := (hF9 1).trans rfl
  clear hF9
  refine then_normal ?_
  refine wq_seq ?_
  refine wq_seq ?_
  by_cases d12 : -31 ≤ (X) ∧ (X) ≤ 31
  · skip
    by_cases d13 : -31 ≤ (Y) ∧ (Y) ≤ 31
    · skip
      refine wq_region ?_
      refine wl_v (.pointer (some ⟨p1, 0, none⟩)) rfl rfl (y_fieldR (n := 1) rfl s11 Try.underlying27 rfl (by kernel_rfl) (by decide) rfl ⟨rfl, rfl⟩) ?_
      refine wl_v (.int .i64 (X)) rfl rfl (y_ld_stc rfl rfl Try.underlying3 B4 rfl rfl ⟨rfl, rfl⟩) ?_
      refine wl_call (R := fun v_ w_ => v_ = .bool true ∧ Kept (fun _ => False) w2 w_) rfl rfl (y_cs rfl rfl rfl (fun _ _ => by kernel_rfl) (ev_func _) (vsC rfl vsN) (mo_mayGo (X)  _   ) (fun e_ w_ h_ => ⟨_, h_.1, (congrArg Value.bool (decide_eq_true d12)), h_.2⟩)) ?_
      rintro _ w14 ⟨rfl, k15⟩
      have B16 := B4.all k15 id
      have K17 := K7.trans k15 (fun _ _ x => x.elim)
      refine wl_v (.bool false) rfl rfl (y_not rfl rfl rfl ⟨rfl, rfl⟩) ?_
      refine wl_v (.bool false) rfl rfl (y_mov rfl rfl ⟨rfl, rfl⟩) ?_
      refine wl_vw (.pointer (some ⟨p1, 1, none⟩)) 4 false 7 rfl rfl rfl rfl rfl (y_fieldR (n := 1) rfl s11 Try.underlying27 rfl (by kernel_rfl) (by decide) rfl ⟨rfl, rfl⟩) ?_
      refine wl_vw (.int .i64 (Y)) 4 false 7 rfl rfl rfl rfl rfl (y_ld_stc rfl rfl Try.underlying3 B16 rfl rfl ⟨rfl, rfl⟩) ?_
      refine wl_callw (R := fun v_ w_ => v_ = .bool true ∧ Kept (fun _ => False) w14 w_) 4 false 7 rfl rfl rfl rfl rfl (y_cs rfl rfl rfl (fun _ _ => by kernel_rfl) (ev_func _) (vsC rfl vsN) (mo_mayGo (Y)  _   ) (fun e_ w_ h_ => ⟨_, h_.1, (congrArg Value.bool (decide_eq_true d13)), h_.2⟩)) ?_
      rintro _ w18 ⟨rfl, k19⟩
      have B20 := B16.all k19 id
      have K21 := K17.trans k19 (fun _ _ x => x.elim)
      refine wl_vw (.bool false) 4 false 7 rfl rfl rfl rfl rfl (y_not rfl rfl rfl ⟨rfl, rfl⟩) ?_
      refine wl_v (.bool false) rfl rfl (y_pickF rfl rfl rfl ⟨rfl, rfl⟩) ?_
      refine wl_nil fun F22 hF23 => ?_
      have s24 : F22 13 = undef := (hF23 13).trans s10
      have s25 : F22 12 = .bool false := (hF23 12).trans rfl
      clear hF23
      refine then_normal ?_
      refine wq_cond (t := false) s25 (fun e => by cases e) (fun _ => ?_)
      refine wq_skip ?_
      refine then_normal ?_
      refine wq_seq ?_
      refine wq_region ?_
      refine wl_v (.int .i64 (0)) rfl rfl (y_asg rfl rfl ⟨rfl, rfl⟩) ?_
      refine wl_nil fun F26 hF27 => ?_
      have s28 : F26 13 = undef := (hF27 13).trans s24
      have s29 : F26 2 = .int .i64 (0) := (hF27 2).trans rfl
      clear hF27
      refine then_normal ?_
      refine wq_ret ?_
      exact end_tmp (v := .int .i64 (0)) s28 rfl rfl s29 ⟨(by first | rw [vecE_yes (by unfold vecOk; omega)] | rw [vecE_no (by unfold vecOk; omega)]), K21⟩
    · skip
      refine wq_region ?_
      refine wl_v (.pointer (some ⟨p1, 0, none⟩)) rfl rfl (y_fieldR (n := 1) rfl s11 Try.underlying27 rfl (by kernel_rfl) (by decide) rfl ⟨rfl, rfl⟩) ?_
      refine wl_v (.int .i64 (X)) rfl rfl (y_ld_stc rfl rfl Try.underlying3 B4 rfl rfl ⟨rfl, rfl⟩) ?_
      refine wl_call (R := fun v_ w_ => v_ = .bool true ∧ Kept (fun _ => False) w2 w_) rfl rfl (y_cs rfl rfl rfl (fun _ _ => by kernel_rfl) (ev_func _) (vsC rfl vsN) (mo_mayGo (X)  _   ) (fun e_ w_ h_ => ⟨_, h_.1, (congrArg Value.bool (decide_eq_true d12)), h_.2⟩)) ?_
      rintro _ w30 ⟨rfl, k31⟩
      have B32 := B4.all k31 id
      have K33 := K7.trans k31 (fun _ _ x => x.elim)
      refine wl_v (.bool false) rfl rfl (y_not rfl rfl rfl ⟨rfl, rfl⟩) ?_
      refine wl_v (.bool false) rfl rfl (y_mov rfl rfl ⟨rfl, rfl⟩) ?_
      refine wl_vw (.pointer (some ⟨p1, 1, none⟩)) 4 false 7 rfl rfl rfl rfl rfl (y_fieldR (n := 1) rfl s11 Try.underlying27 rfl (by kernel_rfl) (by decide) rfl ⟨rfl, rfl⟩) ?_
      refine wl_vw (.int .i64 (Y)) 4 false 7 rfl rfl rfl rfl rfl (y_ld_stc rfl rfl Try.underlying3 B32 rfl rfl ⟨rfl, rfl⟩) ?_
      refine wl_callw (R := fun v_ w_ => v_ = .bool false ∧ Kept (fun _ => False) w30 w_) 4 false 7 rfl rfl rfl rfl rfl (y_cs rfl rfl rfl (fun _ _ => by kernel_rfl) (ev_func _) (vsC rfl vsN) (mo_mayGo (Y)  _   ) (fun e_ w_ h_ => ⟨_, h_.1, (congrArg Value.bool (decide_eq_false d13)), h_.2⟩)) ?_
      rintro _ w34 ⟨rfl, k35⟩
      have B36 := B32.all k35 id
      have K37 := K33.trans k35 (fun _ _ x => x.elim)
      refine wl_vw (.bool true) 4 false 7 rfl rfl rfl rfl rfl (y_not rfl rfl rfl ⟨rfl, rfl⟩) ?_
      refine wl_v (.bool true) rfl rfl (y_pickF rfl rfl rfl ⟨rfl, rfl⟩) ?_
      refine wl_nil fun F38 hF39 => ?_
      have s40 : F38 13 = undef := (hF39 13).trans s10
      have s41 : F38 12 = .bool true := (hF39 12).trans rfl
      clear hF39
      refine then_normal ?_
      refine wq_cond (t := true) s41 (fun _ => ?_) (fun e => by cases e)
      refine wq_seq ?_
      refine wq_region ?_
      refine wl_v (.int .i64 (90)) rfl rfl (y_asg rfl rfl ⟨rfl, rfl⟩) ?_
      refine wl_nil fun F42 hF43 => ?_
      have s44 : F42 13 = undef := (hF43 13).trans s40
      have s45 : F42 2 = .int .i64 (90) := (hF43 2).trans rfl
      clear hF43
      refine then_normal ?_
      refine wq_ret ?_
      refine then_ret ?_
      exact end_tmp (v := .int .i64 (90)) s44 rfl rfl s45 ⟨(by first | rw [vecE_yes (by unfold vecOk; omega)] | rw [vecE_no (by unfold vecOk; omega)]), K37⟩
  · skip
    refine wq_region ?_
    refine wl_v (.pointer (some ⟨p1, 0, none⟩)) rfl rfl (y_fieldR (n := 1) rfl s11 Try.underlying27 rfl (by kernel_rfl) (by decide) rfl ⟨rfl, rfl⟩) ?_
    refine wl_v (.int .i64 (X)) rfl rfl (y_ld_stc rfl rfl Try.underlying3 B4 rfl rfl ⟨rfl, rfl⟩) ?_
    refine wl_call (R := fun v_ w_ => v_ = .bool false ∧ Kept (fun _ => False) w2 w_) rfl rfl (y_cs rfl rfl rfl (fun _ _ => by kernel_rfl) (ev_func _) (vsC rfl vsN) (mo_mayGo (X)  _   ) (fun e_ w_ h_ => ⟨_, h_.1, (congrArg Value.bool (decide_eq_false d12)), h_.2⟩)) ?_
    rintro _ w46 ⟨rfl, k47⟩
    have B48 := B4.all k47 id
    have K49 := K7.trans k47 (fun _ _ x => x.elim)
    refine wl_v (.bool true) rfl rfl (y_not rfl rfl rfl ⟨rfl, rfl⟩) ?_
    refine wl_v (.bool true) rfl rfl (y_mov rfl rfl ⟨rfl, rfl⟩) ?_
    refine wl_unless 4 false 7 rfl rfl rfl (Or.inl rfl) rfl ?_
    refine wl_unless 4 false 7 rfl rfl rfl (Or.inl rfl) rfl ?_
    refine wl_unless 4 false 7 rfl rfl rfl (Or.inl rfl) rfl ?_
    refine wl_unless 4 false 7 rfl rfl rfl (Or.inl rfl) rfl ?_
    refine wl_v (.bool true) rfl rfl (y_pickT rfl rfl rfl ⟨rfl, rfl⟩) ?_
    refine wl_nil fun F50 hF51 => ?_
    have s52 : F50 13 = undef := (hF51 13).trans s10
    have s53 : F50 12 = .bool true := (hF51 12).trans rfl
    clear hF51
    refine then_normal ?_
    refine wq_cond (t := true) s53 (fun _ => ?_) (fun e => by cases e)
    refine wq_seq ?_
    refine wq_region ?_
    refine wl_v (.int .i64 (90)) rfl rfl (y_asg rfl rfl ⟨rfl, rfl⟩) ?_
    refine wl_nil fun F54 hF55 => ?_
    have s56 : F54 13 = undef := (hF55 13).trans s52
    have s57 : F54 2 = .int .i64 (90) := (hF55 2).trans rfl
    clear hF55
    refine then_normal ?_
    refine wq_ret ?_
    refine then_ret ?_
    exact end_tmp (v := .int .i64 (90)) s56 rfl rfl s57 ⟨(by first | rw [vecE_yes (by unfold vecOk; omega)] | rw [vecE_no (by unfold vecOk; omega)]), K49⟩
set_option maxHeartbeats 4000000 in
set_option maxRecDepth 100000 in
theorem mo_both (a b : Nat → Int) (w0 : World) :
    Calls Try.prog 17 #[blkV (a), blkV (b)] w0 fun e w' => e = .returned (blkV (bothB a b)) ∧ Kept (fun _ => False) w0 w' := by
  refine calls_wq (args := [blkV (a), blkV (b)]) 23 Try.func17 rfl rfl (Nat.le_of_ble_eq_true rfl) ?_
  have K0 := Kept.refl (fun _ => False) w0
  refine wq_seq ?_
  refine wq_region ?_
  refine wl_box_blk rfl rfl rfl rfl fun p1 w2 e5 B3 k4 => ?_
  have g6 := onB_new (Nat.le_of_eq e5.symm)
  have gr7 : Grew w0 noB (onB p1) := Grew.new K0 g6
  clear e5 g6
  have K8 := K0.trans k4 (fun _ _ x => x.elim)
  refine wl_box_blk rfl rfl rfl rfl fun p9 w10 e13 B11 k12 => ?_
  have g14 := onB_new (Nat.le_of_eq e13.symm)
  have gr15 : Grew w0 noB (onB p9) := Grew.new K8 g14
  have ap16 : Apart (onB p9) (onB p1) := Apart.new g14 (onB_live (B3).lt)
  clear e13 g14
  have B17 := B3.all k12 id
  have K18 := K8.trans k12 (fun _ _ x => x.elim)
  refine wl_alloc_blk rfl rfl rfl blkT_block.2.2 fun p19 w20 e23 B21 k22 => ?_
  have g24 := onB_new (Nat.le_of_eq e23.symm)
  have gr25 : Grew w0 noB (onB p19) := Grew.new K18 g24
  have ap26 : Apart (onB p19) (onB p1) := Apart.new g24 (onB_live (B17).lt)
  have ap27 : Apart (onB p19) (onB p9) := Apart.new g24 (onB_live (B11).lt)
  clear e23 g24
  have B28 := B17.all k22 id
  have B29 := B11.all k22 id
  have K30 := K18.trans k22 (fun _ _ x => x.elim)
  refine wl_nil fun F31 hF32 => ?_
  have s33 : F31 23 = undef := (hF32 23).trans rfl
  have s34 : F31 2 = .pointer (some ⟨p1, 0, none⟩) := (hF32 2).trans rfl
  have s35 : F31 3 = .pointer (some ⟨p9, 0, none⟩) := (hF32 3).trans rfl
  have s36 : F31 4 = .pointer (some ⟨p19, 0, none⟩) := (hF32 4).trans rfl
  clear hF32
  refine then_normal ?_
  refine wq_seq ?_
  refine wq_seq ?_
  refine wq_region ?_
  refine wl_v (.int .i64 (0)) rfl rfl (y_mov rfl rfl ⟨rfl, rfl⟩) ?_
  refine wl_nil fun F37 hF38 => ?_
  have s39 : F37 23 = undef := (hF38 23).trans s33
  have s40 : F37 2 = .pointer (some ⟨p1, 0, none⟩) := (hF38 2).trans s34
  have s41 : F37 3 = .pointer (some ⟨p9, 0, none⟩) := (hF38 3).trans s35
  have s42 : F37 4 = .pointer (some ⟨p19, 0, none⟩) := (hF38 4).trans s36
  have s43 : F37 6 = .int .i64 (0) := (hF38 6).trans rfl
  clear hF38
  refine then_normal ?_
  refine wq_block ?_
  refine wq_loop (fun nn FF ww => ∃ (i : Nat), (i ≤ 16) ∧ nn = 16 - i ∧ FF 2 = .pointer (some ⟨p1, 0, none⟩) ∧ FF 3 = .pointer (some ⟨p9, 0, none⟩) ∧ FF 4 = .pointer (some ⟨p19, 0, none⟩) ∧ FF 23 = undef ∧ FF 6 = .int .i64 (((i : Nat) : Int)) ∧ Kept (fun _ => False) w0 ww ∧ Blk ww p1 31 (upto i a (bothB a b)) ∧ Blk ww p9 31 (b) ∧ Blk ww p19 31 (fun _ => 0)) (16 - (0)) ⟨0, by omega, rfl, s40, s41, s42, s39, s43, K30, B28.first, B29, B21⟩ ?_
  rintro n47 F44 w45 ⟨i, i48, hn47, s49, s50, s51, s52, s53, K46, B54, B55, B56⟩
  refine wq_seq ?_
  refine wq_region ?_
  refine wl_v (.bool (decide ((((i : Nat) : Int)) < (16)))) rfl rfl (y_lss rfl s53 rfl rfl ⟨rfl, rfl⟩) ?_
  refine wl_nil fun F57 hF58 => ?_
  have s59 : F57 2 = .pointer (some ⟨p1, 0, none⟩) := (hF58 2).trans s49
  have s60 : F57 3 = .pointer (some ⟨p9, 0, none⟩) := (hF58 3).trans s50
  have s61 : F57 4 = .pointer (some ⟨p19, 0, none⟩) := (hF58 4).trans s51
  have s62 : F57 23 = undef := (hF58 23).trans s52
  have s63 : F57 6 = .int .i64 (((i : Nat) : Int)) := (hF58 6).trans s53
  have s64 : F57 7 = .bool (decide ((((i : Nat) : Int)) < (16))) := (hF58 7).trans rfl
  clear hF58
  refine then_normal ?_
  refine wq_seq ?_
  refine wq_cond s64 (fun c65 => ?_) (fun c65 => ?_)
  · replace c65 := of_decide_eq_true c65
    refine wq_skip ?_
    refine then_normal ?_
    refine wq_seq ?_
    refine wq_block ?_
    refine wq_seq ?_
    refine wq_region ?_
    refine wl_v (.int .i64 (((i : Nat) : Int))) rfl rfl (y_mov rfl s63 ⟨rfl, rfl⟩) ?_
    refine wl_v (.int .i64 (((i : Nat) : Int))) rfl rfl (y_asg rfl rfl ⟨rfl, rfl⟩) ?_
    refine wl_nil fun F66 hF67 => ?_
    have s68 : F66 2 = .pointer (some ⟨p1, 0, none⟩) := (hF67 2).trans s59
    have s69 : F66 3 = .pointer (some ⟨p9, 0, none⟩) := (hF67 3).trans s60
    have s70 : F66 4 = .pointer (some ⟨p19, 0, none⟩) := (hF67 4).trans s61
    have s71 : F66 23 = undef := (hF67 23).trans s62
    have s72 : F66 6 = .int .i64 (((i : Nat) : Int)) := (hF67 6).trans s63
    have s73 : F66 5 = .int .i64 (((i : Nat) : Int)) := (hF67 5).trans rfl
    clear hF67
    refine then_normal ?_
    have h1 := c8_le (a i)
    have h2 := c8_le (b i)
    refine wq_tail 12 [some 9, some 10, some 11, some 12, some 13, some 14, some 15, some 16, some 17, some 18, some 19, some 20] [Pd.eq (.int .i64 (((i : Nat) : Int))), Pd.eq (.int .i64 (((i : Nat) : Int))), Pd.eq (.pointer (some ⟨p1, i, none⟩)), Pd.eq (.int .i64 (a i)), Pd.eq (.int .i64 (c8 (a i))), Pd.eq (.int .i64 (((i : Nat) : Int))), Pd.eq (.pointer (some ⟨p9, i, none⟩)), Pd.eq (.int .i64 ((b) (i))), Pd.eq (.int .i64 (c8 (b i))), Pd.eq (.int .i64 ((c8 (a i)) + (c8 (b i)))), Pd.eq (.int .i64 ((c8 (a i) + c8 (b i) + 1) / 2)), Pd.eq (.pointer (some ⟨p1, i, none⟩))] (by kernel_rfl) (by kernel_rfl) (by kernel_rfl) ?_ ?_
    · refine stepsF_cons ?_ ?_
      · refine StepF.one rfl fun F_ w_ hR hout hD => ?_
        exact (y_mov rfl ((hout 5 rfl (by decide)).trans s73) ⟨rfl, Kept.refl _ _⟩)
      refine stepsF_cons ?_ ?_
      · refine StepF.one rfl fun F_ w_ hR hout hD => ?_
        exact (y_mov rfl ((hout 5 rfl (by decide)).trans s73) ⟨rfl, Kept.refl _ _⟩)
      refine stepsF_cons ?_ ?_
      · refine StepF.one rfl fun F_ w_ hR hout hD => ?_
        have g10 : F_ 10 = .int .i64 (((i : Nat) : Int)) := hD.get 0 rfl rfl rfl
        exact (y_atR (i) (s := 1) rfl ((hout 2 rfl (by decide)).trans s68) g10 (by omega) Try.underlying31 (by omega) (by kernel_rfl) (by omega) ⟨rfl, Kept.refl _ _⟩)
      refine stepsF_cons ?_ ?_
      · refine StepF.one rfl fun F_ w_ hR hout hD => ?_
        have g11 : F_ 11 = .pointer (some ⟨p1, i, none⟩) := hD.get 0 rfl rfl rfl
        exact (y_ldR rfl g11 Try.underlying3 ((((B54.all hR id)).cell (by omega)).trans (some_int (upto_at i _ _))) ⟨rfl, Kept.refl _ _⟩)
      refine stepsF_cons ?_ ?_
      · refine StepF.one rfl fun F_ w_ hR hout hD => ?_
        have g12 : F_ 12 = .int .i64 (a i) := hD.get 0 rfl rfl rfl
        exact (y_cs rfl rfl rfl (fun _ _ => by kernel_rfl) (ev_func _) (vsC g12 (vsC rfl (vsC rfl vsN))) (mo_clamped (a i) (0) (255)  _   ) (fun e_ w_ h_ => ⟨_, h_.1, congrArg (Value.int .i64) (by unfold c8; omega), h_.2⟩))
      refine stepsF_cons ?_ ?_
      · refine StepF.one rfl fun F_ w_ hR hout hD => ?_
        exact (y_mov rfl ((hout 5 rfl (by decide)).trans s73) ⟨rfl, Kept.refl _ _⟩)
      refine stepsF_cons ?_ ?_
      · refine StepF.one rfl fun F_ w_ hR hout hD => ?_
        have g14 : F_ 14 = .int .i64 (((i : Nat) : Int)) := hD.get 0 rfl rfl rfl
        exact (y_atR (i) (s := 1) rfl ((hout 3 rfl (by decide)).trans s69) g14 (by omega) Try.underlying31 (by omega) (by kernel_rfl) (by omega) ⟨rfl, Kept.refl _ _⟩)
      refine stepsF_cons ?_ ?_
      · refine StepF.one rfl fun F_ w_ hR hout hD => ?_
        have g15 : F_ 15 = .pointer (some ⟨p9, i, none⟩) := hD.get 0 rfl rfl rfl
        exact (y_ldR rfl g15 Try.underlying3 (((B55.all hR id)).cell (by omega)) ⟨rfl, Kept.refl _ _⟩)
      refine stepsF_cons ?_ ?_
      · refine StepF.one rfl fun F_ w_ hR hout hD => ?_
        have g16 : F_ 16 = .int .i64 ((b) (i)) := hD.get 0 rfl rfl rfl
        exact (y_cs rfl rfl rfl (fun _ _ => by kernel_rfl) (ev_func _) (vsC g16 (vsC rfl (vsC rfl vsN))) (mo_clamped ((b) (i)) (0) (255)  _   ) (fun e_ w_ h_ => ⟨_, h_.1, congrArg (Value.int .i64) (by unfold c8; omega), h_.2⟩))
      refine stepsF_cons ?_ ?_
      · refine StepF.one rfl fun F_ w_ hR hout hD => ?_
        have g13 : F_ 13 = .int .i64 (c8 (a i)) := hD.get 0 rfl rfl rfl
        have g17 : F_ 17 = .int .i64 (c8 (b i)) := hD.get 1 rfl rfl rfl
        exact (y_add rfl g13 g17 (i64_i rfl (by omega)) ⟨rfl, Kept.refl _ _⟩)
      refine stepsF_cons ?_ ?_
      · refine StepF.one rfl fun F_ w_ hR hout hD => ?_
        have g18 : F_ 18 = .int .i64 ((c8 (a i)) + (c8 (b i))) := hD.get 0 rfl rfl rfl
        exact (y_cs rfl rfl rfl (fun _ _ => by kernel_rfl) (ev_func _) (vsC g18 (vsC rfl vsN)) (mo_mean ((c8 (a i)) + (c8 (b i))) (2)  _ (by omega) (by omega)  ) (fun e_ w_ h_ => ⟨_, h_.1, congrArg (Value.int .i64) (by omega), h_.2⟩))
      refine stepsF_cons ?_ ?_
      · refine StepF.one rfl fun F_ w_ hR hout hD => ?_
        have g9 : F_ 9 = .int .i64 (((i : Nat) : Int)) := hD.get 0 rfl rfl rfl
        exact (y_atR (i) (s := 1) rfl ((hout 2 rfl (by decide)).trans s68) g9 (by omega) Try.underlying31 (by omega) (by kernel_rfl) (by omega) ⟨rfl, Kept.refl _ _⟩)
      exact stepsF_nil
    intro v74 F75 w76 k77 G78 hF79
    have B81 := B54.all k77 id
    have B82 := B55.all k77 id
    have B83 := B56.all k77 id
    have K84 := K46.trans k77 (fun _ _ x => x.elim)
    have s85 : F75 2 = .pointer (some ⟨p1, 0, none⟩) := (hF79 2).trans s68
    have s86 : F75 3 = .pointer (some ⟨p9, 0, none⟩) := (hF79 3).trans s69
    have s87 : F75 4 = .pointer (some ⟨p19, 0, none⟩) := (hF79 4).trans s70
    have s88 : F75 23 = undef := (hF79 23).trans s71
    have s89 : F75 6 = .int .i64 (((i : Nat) : Int)) := (hF79 6).trans s72
    have s90 : F75 19 = .int .i64 ((c8 (a i) + c8 (b i) + 1) / 2) := (hF79 19).trans (G78 10 (by decide))
    have s91 : F75 20 = .pointer (some ⟨p1, i, none⟩) := (hF79 20).trans (G78 11 (by decide))
    clear G78 hF79
    refine wl_set_blk rfl rfl rfl s91 s90 B81 (by omega) (by kernel_rfl) fun w92 B93 k94 => ?_
    have B95 := B82.all k94 (fun x => ((ap16) p9 rfl x))
    have B96 := B83.all k94 (fun x => ((ap26) p19 rfl x))
    have K97 := K84.trans k94 (Grew.ok (S := fun _ => False) gr7 noB_le)
    refine wl_nil fun F98 hF99 => ?_
    have s100 : F98 2 = .pointer (some ⟨p1, 0, none⟩) := (hF99 2).trans s85
    have s101 : F98 3 = .pointer (some ⟨p9, 0, none⟩) := (hF99 3).trans s86
    have s102 : F98 4 = .pointer (some ⟨p19, 0, none⟩) := (hF99 4).trans s87
    have s103 : F98 23 = undef := (hF99 23).trans s88
    have s104 : F98 6 = .int .i64 (((i : Nat) : Int)) := (hF99 6).trans s89
    clear hF99
    refine in_normal ?_
    refine then_normal ?_
    refine wq_region ?_
    refine wl_v (.int .i64 (((i + 1 : Nat) : Int))) rfl rfl (y_add rfl s104 rfl (i64_n (by omega) (by omega)) ⟨rfl, rfl⟩) ?_
    refine wl_v (.int .i64 (((i + 1 : Nat) : Int))) rfl rfl (y_mov rfl rfl ⟨rfl, rfl⟩) ?_
    refine wl_nil fun F105 hF106 => ?_
    have s107 : F105 2 = .pointer (some ⟨p1, 0, none⟩) := (hF106 2).trans s100
    have s108 : F105 3 = .pointer (some ⟨p9, 0, none⟩) := (hF106 3).trans s101
    have s109 : F105 4 = .pointer (some ⟨p19, 0, none⟩) := (hF106 4).trans s102
    have s110 : F105 23 = undef := (hF106 23).trans s103
    have s111 : F105 6 = .int .i64 (((i + 1 : Nat) : Int)) := (hF106 6).trans rfl
    clear hF106
    exact then_normal ⟨(16 - (i + 1)), by omega, i + 1, by omega, rfl, s107, s108, s109, s110, s111, K97, (B93.next (bothB_at a b i).symm), B95, B96⟩
  · replace c65 := of_decide_eq_false c65
    refine wq_exit ?_
    refine then_exit ?_
    refine then_exit ?_
    have l112 : 16 = i := by omega
    subst l112
    have B113 : Blk w45 p1 31 (bothB a b) := (B54.last)
    refine in_here ?_
    refine then_normal ?_
    refine wq_seq ?_
    refine wq_region ?_
    refine wl_v (blkV (bothB a b)) rfl rfl (y_load_blk blkT_block rfl s59 B113 ⟨rfl, rfl⟩) ?_
    refine wl_store_blk blkT_block rfl rfl rfl s61 rfl B56 fun w114 B115 k116 => ?_
    have B117 := B113.all k116 (fun x => (((ap26).symm) p1 rfl x))
    have B118 := B55.all k116 (fun x => (((ap27).symm) p9 rfl x))
    have K119 := K46.trans k116 (Grew.ok (S := fun _ => False) gr25 noB_le)
    refine wl_nil fun F120 hF121 => ?_
    have s122 : F120 4 = .pointer (some ⟨p19, 0, none⟩) := (hF121 4).trans s61
    have s123 : F120 23 = undef := (hF121 23).trans s62
    clear hF121
    refine then_normal ?_
    refine wq_ret ?_
    exact end_blk blkT_block s123 rfl rfl s122 B115 ⟨rfl, K119⟩
set_option maxHeartbeats 4000000 in
set_option maxRecDepth 100000 in
theorem mo_sample (p x y : Int) (f : FD) (f0 f1 f2 : Value) (T_f0 : Nat → Prop) (T_f1 : Nat → Prop) (T_f2 : Nat → Prop) (w0 : World) (h_f0 : Byt w0 T_f0 f0 ((f).p0)) (h_f1 : Byt w0 T_f1 f1 ((f).p1)) (h_f2 : Byt w0 T_f2 f2 ((f).p2)) :
    Calls Try.prog 15 #[.agg #[.int .i64 ((f).W), .int .i64 ((f).H), f0, f1, f2], .int .i64 (p), .int .i64 (x), .int .i64 (y)] w0 fun e w' => e = .returned (.int .i64 (smpF f p x y)) ∧ Kept (fun _ => False) w0 w' := by
  refine calls_wq (args := [.agg #[.int .i64 ((f).W), .int .i64 ((f).H), f0, f1, f2], .int .i64 (p), .int .i64 (x), .int .i64 (y)]) 72 Try.func15 rfl rfl (Nat.le_of_ble_eq_true rfl) ?_
  have K0 := Kept.refl (fun _ => False) w0
  have hb : Bytes3 f := ⟨h_f0.lt256, h_f1.lt256, h_f2.lt256⟩
  obtain ⟨u, hu⟩ : ∃ u, u = c256 x := ⟨_, rfl⟩
  obtain ⟨v, hv⟩ : ∃ v, v = c256 y := ⟨_, rfl⟩
  have hu2 : -256 ≤ u ∧ u ≤ 256 := by rw [hu]; unfold c256; omega
  have hv2 : -256 ≤ v ∧ v ≤ 256 := by rw [hv]; unfold c256; omega
  have hm : smpF f p x y = mid f p u v := by rw [hu, hv]; rfl
  have a1 := atF_le hb p (u / 2) (v / 2)
  have a2 := atF_le hb p ((u + 1) / 2) (v / 2)
  have a3 := atF_le hb p (u / 2) ((v + 1) / 2)
  have a4 := atF_le hb p ((u + 1) / 2) ((v + 1) / 2)
  obtain ⟨N, hN⟩ : ∃ N : Nat, (N : Int) = u % 2 + v % 2 := ⟨(u % 2 + v % 2).toNat, by omega⟩
  obtain ⟨M, hM⟩ : ∃ M : Int, M = 2 ^ N := ⟨_, rfl⟩
  have hM2 : (N = 0 ∧ M = 1) ∨ (N = 1 ∧ M = 2) ∨ (N = 2 ∧ M = 4) := by rcases (by omega : N = 0 ∨ N = 1 ∨ N = 2) with h | h | h <;> subst h <;> simp [hM]
  have g_f0 := Grew.refl w0 T_f0
  have g_f1 := Grew.refl w0 T_f1
  have g_f2 := Grew.refl w0 T_f2
  refine wq_seq ?_
  refine wq_region ?_
  refine wl_box_stc (vs := [.int .i64 ((f).W), .int .i64 ((f).H), f0, f1, f2]) rfl rfl rfl rfl fun p1 w2 B4 g5 k3 => ?_
  have gr6 : Grew w0 noB (onB p1) := Grew.new K0 g5
  have ap7 : Apart (onB p1) (T_f0) := Apart.new g5 (h_f0).live
  have ap8 : Apart (onB p1) (T_f1) := Apart.new g5 (h_f1).live
  have ap9 : Apart (onB p1) (T_f2) := Apart.new g5 (h_f2).live
  have B10 := h_f0.all k3 Apart.none
  have B11 := h_f1.all k3 Apart.none
  have B12 := h_f2.all k3 Apart.none
  have K13 := K0.trans k3 (fun _ _ x => x.elim)
  refine wl_v (.int .i64 (0)) rfl rfl (y_asg rfl rfl ⟨rfl, rfl⟩) ?_
  refine wl_nil fun F14 hF15 => ?_
  have s16 : F14 1 = .int .i64 (p) := (hF15 1).trans rfl
  have s17 : F14 2 = .int .i64 (x) := (hF15 2).trans rfl
  have s18 : F14 3 = .int .i64 (y) := (hF15 3).trans rfl
  have s19 : F14 72 = undef := (hF15 72).trans rfl
  have s20 : F14 4 = .pointer (some ⟨p1, 0, none⟩) := (hF15 4).trans rfl
  clear hF15
  refine then_normal ?_
  refine wq_seq ?_
  refine wq_region ?_
  refine wl_v (.int .i64 (x)) rfl rfl (y_mov rfl s17 ⟨rfl, rfl⟩) ?_
  refine wl_call (R := fun v_ w_ => v_ = .int .i64 (u) ∧ Kept (fun _ => False) w2 w_) rfl rfl (y_cs rfl rfl rfl (fun _ _ => by kernel_rfl) (ev_func _) (vsC rfl (vsC rfl (vsC rfl vsN))) (mo_clamped (x) (-256) (256)  _   ) (fun e_ w_ h_ => ⟨_, h_.1, congrArg (Value.int .i64) (by rw [hu]; unfold c256; omega), h_.2⟩)) ?_
  rintro _ w21 ⟨rfl, k22⟩
  have B23 := B10.all k22 Apart.none
  have B24 := B11.all k22 Apart.none
  have B25 := B12.all k22 Apart.none
  have B26 := B4.all k22 id
  have K27 := K13.trans k22 (fun _ _ x => x.elim)
  refine wl_v (.int .i64 (y)) rfl rfl (y_mov rfl s18 ⟨rfl, rfl⟩) ?_
  refine wl_call (R := fun v_ w_ => v_ = .int .i64 (v) ∧ Kept (fun _ => False) w21 w_) rfl rfl (y_cs rfl rfl rfl (fun _ _ => by kernel_rfl) (ev_func _) (vsC rfl (vsC rfl (vsC rfl vsN))) (mo_clamped (y) (-256) (256)  _   ) (fun e_ w_ h_ => ⟨_, h_.1, congrArg (Value.int .i64) (by rw [hv]; unfold c256; omega), h_.2⟩)) ?_
  rintro _ w28 ⟨rfl, k29⟩
  have B30 := B23.all k29 Apart.none
  have B31 := B24.all k29 Apart.none
  have B32 := B25.all k29 Apart.none
  have B33 := B26.all k29 id
  have K34 := K27.trans k29 (fun _ _ x => x.elim)
  refine wl_v (.int .i64 (u)) rfl rfl (y_asg rfl rfl ⟨rfl, rfl⟩) ?_
  refine wl_v (.int .i64 (v)) rfl rfl (y_asg rfl rfl ⟨rfl, rfl⟩) ?_
  refine wl_nil fun F35 hF36 => ?_
  have s37 : F35 1 = .int .i64 (p) := (hF36 1).trans s16
  have s38 : F35 72 = undef := (hF36 72).trans s19
  have s39 : F35 4 = .pointer (some ⟨p1, 0, none⟩) := (hF36 4).trans s20
  have s40 : F35 2 = .int .i64 (u) := (hF36 2).trans rfl
  have s41 : F35 3 = .int .i64 (v) := (hF36 3).trans rfl
  clear hF36
  refine then_normal ?_
  refine wq_seq ?_
  refine wq_region ?_
  refine wl_v (.int .i64 (u)) rfl rfl (y_mov rfl s40 ⟨rfl, rfl⟩) ?_
  refine wl_v (.int .i64 (u / 2)) rfl rfl (y_shrR 1 rfl rfl rfl (by decide) ((by simp)) ⟨rfl, rfl⟩) ?_
  refine wl_v (.int .i64 (v)) rfl rfl (y_mov rfl s41 ⟨rfl, rfl⟩) ?_
  refine wl_v (.int .i64 (v / 2)) rfl rfl (y_shrR 1 rfl rfl rfl (by decide) ((by simp)) ⟨rfl, rfl⟩) ?_
  refine wl_v (.int .i64 (u / 2)) rfl rfl (y_asg rfl rfl ⟨rfl, rfl⟩) ?_
  refine wl_v (.int .i64 (v / 2)) rfl rfl (y_asg rfl rfl ⟨rfl, rfl⟩) ?_
  refine wl_nil fun F42 hF43 => ?_
  have s44 : F42 1 = .int .i64 (p) := (hF43 1).trans s37
  have s45 : F42 72 = undef := (hF43 72).trans s38
  have s46 : F42 4 = .pointer (some ⟨p1, 0, none⟩) := (hF43 4).trans s39
  have s47 : F42 2 = .int .i64 (u) := (hF43 2).trans s40
  have s48 : F42 3 = .int .i64 (v) := (hF43 3).trans s41
  have s49 : F42 9 = .int .i64 (u / 2) := (hF43 9).trans rfl
  have s50 : F42 10 = .int .i64 (v / 2) := (hF43 10).trans rfl
  clear hF43
  refine then_normal ?_
  refine wq_seq ?_
  refine wq_region ?_
  refine wl_v (.int .i64 (u)) rfl rfl (y_mov rfl s47 ⟨rfl, rfl⟩) ?_
  refine wl_v (.int .i64 (u % 2)) rfl rfl (y_andR rfl rfl rfl (and_one hu2) ⟨rfl, rfl⟩) ?_
  refine wl_v (.int .i64 (v)) rfl rfl (y_mov rfl s48 ⟨rfl, rfl⟩) ?_
  refine wl_v (.int .i64 (v % 2)) rfl rfl (y_andR rfl rfl rfl (and_one hv2) ⟨rfl, rfl⟩) ?_
  refine wl_v (.int .i64 (u % 2)) rfl rfl (y_asg rfl rfl ⟨rfl, rfl⟩) ?_
  refine wl_v (.int .i64 (v % 2)) rfl rfl (y_asg rfl rfl ⟨rfl, rfl⟩) ?_
  refine wl_nil fun F51 hF52 => ?_
  have s53 : F51 1 = .int .i64 (p) := (hF52 1).trans s44
  have s54 : F51 72 = undef := (hF52 72).trans s45
  have s55 : F51 4 = .pointer (some ⟨p1, 0, none⟩) := (hF52 4).trans s46
  have s56 : F51 9 = .int .i64 (u / 2) := (hF52 9).trans s49
  have s57 : F51 10 = .int .i64 (v / 2) := (hF52 10).trans s50
  have s58 : F51 11 = .int .i64 (u % 2) := (hF52 11).trans rfl
  have s59 : F51 12 = .int .i64 (v % 2) := (hF52 12).trans rfl
  clear hF52
  refine then_normal ?_
  refine wq_seq ?_
  refine wq_region ?_
  refine wl_v (.int .i64 (0)) rfl rfl (y_asg rfl rfl ⟨rfl, rfl⟩) ?_
  refine wl_nil fun F60 hF61 => ?_
  have s62 : F60 1 = .int .i64 (p) := (hF61 1).trans s53
  have s63 : F60 72 = undef := (hF61 72).trans s54
  have s64 : F60 4 = .pointer (some ⟨p1, 0, none⟩) := (hF61 4).trans s55
  have s65 : F60 9 = .int .i64 (u / 2) := (hF61 9).trans s56
  have s66 : F60 10 = .int .i64 (v / 2) := (hF61 10).trans s57
  have s67 : F60 11 = .int .i64 (u % 2) := (hF61 11).trans s58
  have s68 : F60 12 = .int .i64 (v % 2) := (hF61 12).trans s59
  have s69 : F60 13 = .int .i64 (0) := (hF61 13).trans rfl
  clear hF61
  refine then_normal ?_
  refine wq_seq ?_
  refine wq_seq ?_
  refine wq_region ?_
  refine wl_v (.int .i64 (u % 2)) rfl rfl (y_mov rfl s67 ⟨rfl, rfl⟩) ?_
  refine wl_v (.int .i64 (v % 2)) rfl rfl (y_mov rfl s68 ⟨rfl, rfl⟩) ?_
  refine wl_v (.int .i64 (((N : Nat) : Int))) rfl rfl (y_add rfl rfl rfl (i64_i hN.symm (by omega)) ⟨rfl, rfl⟩) ?_
  refine wl_nil fun F70 hF71 => ?_
  have s72 : F70 1 = .int .i64 (p) := (hF71 1).trans s62
  have s73 : F70 72 = undef := (hF71 72).trans s63
  have s74 : F70 4 = .pointer (some ⟨p1, 0, none⟩) := (hF71 4).trans s64
  have s75 : F70 9 = .int .i64 (u / 2) := (hF71 9).trans s65
  have s76 : F70 10 = .int .i64 (v / 2) := (hF71 10).trans s66
  have s77 : F70 11 = .int .i64 (u % 2) := (hF71 11).trans s67
  have s78 : F70 12 = .int .i64 (v % 2) := (hF71 12).trans s68
  have s79 : F70 13 = .int .i64 (0) := (hF71 13).trans s69
  have s80 : F70 28 = .int .i64 (((N : Nat) : Int)) := (hF71 28).trans rfl
  clear hF71
  refine then_normal ?_
  refine wq_block ?_
  refine wq_seq ?_
  refine wq_block ?_
  refine wq_seq ?_
  refine wq_block ?_
  refine wq_seq ?_
  refine wq_block ?_
  refine wq_seq ?_
  refine wq_seq ?_
  refine wq_seq ?_
  refine wq_region ?_
  refine wl_v (.bool (decide ((((N : Nat) : Int)) = (2)))) rfl rfl (y_eqlI rfl s80 rfl rfl ⟨rfl, rfl⟩) ?_
  refine wl_v (.bool (decide ((((N : Nat) : Int)) = (2)))) rfl rfl (y_asg rfl rfl ⟨rfl, rfl⟩) ?_
  refine wl_nil fun F81 hF82 => ?_
  have s83 : F81 1 = .int .i64 (p) := (hF82 1).trans s72
  have s84 : F81 72 = undef := (hF82 72).trans s73
  have s85 : F81 4 = .pointer (some ⟨p1, 0, none⟩) := (hF82 4).trans s74
  have s86 : F81 9 = .int .i64 (u / 2) := (hF82 9).trans s75
  have s87 : F81 10 = .int .i64 (v / 2) := (hF82 10).trans s76
  have s88 : F81 11 = .int .i64 (u % 2) := (hF82 11).trans s77
  have s89 : F81 12 = .int .i64 (v % 2) := (hF82 12).trans s78
  have s90 : F81 13 = .int .i64 (0) := (hF82 13).trans s79
  have s91 : F81 28 = .int .i64 (((N : Nat) : Int)) := (hF82 28).trans s80
  have s92 : F81 29 = .bool (decide ((((N : Nat) : Int)) = (2))) := (hF82 29).trans rfl
  clear hF82
  refine then_normal ?_
  refine wq_cond s92 (fun c93 => ?_) (fun c93 => ?_)
  · replace c93 := of_decide_eq_true c93
    refine wq_exit ?_
    refine then_exit ?_
    refine then_exit ?_
    refine in_here ?_
    refine then_normal ?_
    refine wq_tail 15 [some 33, some 34, some 35, some 36, some 37, some 38, some 39, some 40, some 41, some 42, some 43, some 44, some 45, some 46, some 47] [Pd.eq (.int .i64 (0)), Pd.eq (.agg #[.int .i64 ((f).W), .int .i64 ((f).H), f0, f1, f2]), Pd.eq (.int .i64 (p)), Pd.eq (.int .i64 (u / 2)), Pd.eq (.int .i64 ((u + 1) / 2)), Pd.eq (.int .i64 (v / 2)), Pd.eq (.int .i64 (atF (f) (p) ((u + 1) / 2) (v / 2))), Pd.eq (.agg #[.int .i64 ((f).W), .int .i64 ((f).H), f0, f1, f2]), Pd.eq (.int .i64 (p)), Pd.eq (.int .i64 (u / 2)), Pd.eq (.int .i64 (v / 2)), Pd.eq (.int .i64 ((v + 1) / 2)), Pd.eq (.int .i64 (atF (f) (p) (u / 2) ((v + 1) / 2))), Pd.eq (.int .i64 ((atF (f) (p) ((u + 1) / 2) (v / 2)) + (atF (f) (p) (u / 2) ((v + 1) / 2)))), Pd.eq (.int .i64 ((0) + ((atF (f) (p) ((u + 1) / 2) (v / 2)) + (atF (f) (p) (u / 2) ((v + 1) / 2)))))] (by kernel_rfl) (by kernel_rfl) (by kernel_rfl) ?_ ?_
    · refine stepsF_cons ?_ ?_
      · refine StepF.one rfl fun F_ w_ hR hout hD => ?_
        exact (y_mov rfl ((hout 13 rfl (by decide)).trans s90) ⟨rfl, Kept.refl _ _⟩)
      refine stepsF_cons ?_ ?_
      · refine StepF.one rfl fun F_ w_ hR hout hD => ?_
        exact (y_load_stc stcT_frame rfl ((hout 4 rfl (by decide)).trans s85) (B33.all hR id) ⟨rfl, Kept.refl _ _⟩)
      refine stepsF_cons ?_ ?_
      · refine StepF.one rfl fun F_ w_ hR hout hD => ?_
        exact (y_mov rfl ((hout 1 rfl (by decide)).trans s83) ⟨rfl, Kept.refl _ _⟩)
      refine stepsF_cons ?_ ?_
      · refine StepF.one rfl fun F_ w_ hR hout hD => ?_
        exact (y_mov rfl ((hout 9 rfl (by decide)).trans s86) ⟨rfl, Kept.refl _ _⟩)
      refine stepsF_cons ?_ ?_
      · refine StepF.one rfl fun F_ w_ hR hout hD => ?_
        have g36 : F_ 36 = .int .i64 (u / 2) := hD.get 0 rfl rfl rfl
        exact (y_add rfl g36 rfl (i64_i (by omega) (by omega)) ⟨rfl, Kept.refl _ _⟩)
      refine stepsF_cons ?_ ?_
      · refine StepF.one rfl fun F_ w_ hR hout hD => ?_
        exact (y_mov rfl ((hout 10 rfl (by decide)).trans s87) ⟨rfl, Kept.refl _ _⟩)
      refine stepsF_cons ?_ ?_
      · refine StepF.one rfl fun F_ w_ hR hout hD => ?_
        have g34 : F_ 34 = .agg #[.int .i64 ((f).W), .int .i64 ((f).H), f0, f1, f2] := hD.get 0 rfl rfl rfl
        have g35 : F_ 35 = .int .i64 (p) := hD.get 1 rfl rfl rfl
        have g37 : F_ 37 = .int .i64 ((u + 1) / 2) := hD.get 2 rfl rfl rfl
        have g38 : F_ 38 = .int .i64 (v / 2) := hD.get 3 rfl rfl rfl
        exact (y_cs rfl rfl rfl (fun _ _ => by kernel_rfl) (ev_func _) (vsC g34 (vsC g35 (vsC g37 (vsC g38 vsN)))) (pl_at (p) ((u + 1) / 2) (v / 2) (f) (f0) (f1) (f2) (T_f0) (T_f1) (T_f2) _  (B30.all hR Apart.none) (B31.all hR Apart.none) (B32.all hR Apart.none) ) (fun e_ w_ h_ => ⟨_, h_.1, rfl, h_.2⟩))
      refine stepsF_cons ?_ ?_
      · refine StepF.one rfl fun F_ w_ hR hout hD => ?_
        exact (y_load_stc stcT_frame rfl ((hout 4 rfl (by decide)).trans s85) (B33.all hR id) ⟨rfl, Kept.refl _ _⟩)
      refine stepsF_cons ?_ ?_
      · refine StepF.one rfl fun F_ w_ hR hout hD => ?_
        exact (y_mov rfl ((hout 1 rfl (by decide)).trans s83) ⟨rfl, Kept.refl _ _⟩)
      refine stepsF_cons ?_ ?_
      · refine StepF.one rfl fun F_ w_ hR hout hD => ?_
        exact (y_mov rfl ((hout 9 rfl (by decide)).trans s86) ⟨rfl, Kept.refl _ _⟩)
      refine stepsF_cons ?_ ?_
      · refine StepF.one rfl fun F_ w_ hR hout hD => ?_
        exact (y_mov rfl ((hout 10 rfl (by decide)).trans s87) ⟨rfl, Kept.refl _ _⟩)
      refine stepsF_cons ?_ ?_
      · refine StepF.one rfl fun F_ w_ hR hout hD => ?_
        have g43 : F_ 43 = .int .i64 (v / 2) := hD.get 0 rfl rfl rfl
        exact (y_add rfl g43 rfl (i64_i (by omega) (by omega)) ⟨rfl, Kept.refl _ _⟩)
      refine stepsF_cons ?_ ?_
      · refine StepF.one rfl fun F_ w_ hR hout hD => ?_
        have g40 : F_ 40 = .agg #[.int .i64 ((f).W), .int .i64 ((f).H), f0, f1, f2] := hD.get 0 rfl rfl rfl
        have g41 : F_ 41 = .int .i64 (p) := hD.get 1 rfl rfl rfl
        have g42 : F_ 42 = .int .i64 (u / 2) := hD.get 2 rfl rfl rfl
        have g44 : F_ 44 = .int .i64 ((v + 1) / 2) := hD.get 3 rfl rfl rfl
        exact (y_cs rfl rfl rfl (fun _ _ => by kernel_rfl) (ev_func _) (vsC g40 (vsC g41 (vsC g42 (vsC g44 vsN)))) (pl_at (p) (u / 2) ((v + 1) / 2) (f) (f0) (f1) (f2) (T_f0) (T_f1) (T_f2) _  (B30.all hR Apart.none) (B31.all hR Apart.none) (B32.all hR Apart.none) ) (fun e_ w_ h_ => ⟨_, h_.1, rfl, h_.2⟩))
      refine stepsF_cons ?_ ?_
      · refine StepF.one rfl fun F_ w_ hR hout hD => ?_
        have g39 : F_ 39 = .int .i64 (atF (f) (p) ((u + 1) / 2) (v / 2)) := hD.get 0 rfl rfl rfl
        have g45 : F_ 45 = .int .i64 (atF (f) (p) (u / 2) ((v + 1) / 2)) := hD.get 1 rfl rfl rfl
        exact (y_add rfl g39 g45 (i64_i rfl (by omega)) ⟨rfl, Kept.refl _ _⟩)
      refine stepsF_cons ?_ ?_
      · refine StepF.one rfl fun F_ w_ hR hout hD => ?_
        have g33 : F_ 33 = .int .i64 (0) := hD.get 0 rfl rfl rfl
        have g46 : F_ 46 = .int .i64 ((atF (f) (p) ((u + 1) / 2) (v / 2)) + (atF (f) (p) (u / 2) ((v + 1) / 2))) := hD.get 1 rfl rfl rfl
        exact (y_add rfl g33 g46 (i64_i rfl (by omega)) ⟨rfl, Kept.refl _ _⟩)
      exact stepsF_nil
    intro v94 F95 w96 k97 G98 hF99
    have B101 := B30.all k97 Apart.none
    have B102 := B31.all k97 Apart.none
    have B103 := B32.all k97 Apart.none
    have B104 := B33.all k97 id
    have K105 := K34.trans k97 (fun _ _ x => x.elim)
    have s106 : F95 1 = .int .i64 (p) := (hF99 1).trans s83
    have s107 : F95 72 = undef := (hF99 72).trans s84
    have s108 : F95 4 = .pointer (some ⟨p1, 0, none⟩) := (hF99 4).trans s85
    have s109 : F95 9 = .int .i64 (u / 2) := (hF99 9).trans s86
    have s110 : F95 10 = .int .i64 (v / 2) := (hF99 10).trans s87
    have s111 : F95 11 = .int .i64 (u % 2) := (hF99 11).trans s88
    have s112 : F95 12 = .int .i64 (v % 2) := (hF99 12).trans s89
    have s113 : F95 13 = .int .i64 (0) := (hF99 13).trans s90
    have s114 : F95 47 = .int .i64 ((0) + ((atF (f) (p) ((u + 1) / 2) (v / 2)) + (atF (f) (p) (u / 2) ((v + 1) / 2)))) := (hF99 47).trans (G98 14 (by decide))
    clear G98 hF99
    refine wl_v (.int .i64 ((0) + ((atF (f) (p) ((u + 1) / 2) (v / 2)) + (atF (f) (p) (u / 2) ((v + 1) / 2))))) rfl rfl (y_asg rfl s114 ⟨rfl, rfl⟩) ?_
    refine wl_nil fun F115 hF116 => ?_
    have s117 : F115 1 = .int .i64 (p) := (hF116 1).trans s106
    have s118 : F115 72 = undef := (hF116 72).trans s107
    have s119 : F115 4 = .pointer (some ⟨p1, 0, none⟩) := (hF116 4).trans s108
    have s120 : F115 9 = .int .i64 (u / 2) := (hF116 9).trans s109
    have s121 : F115 10 = .int .i64 (v / 2) := (hF116 10).trans s110
    have s122 : F115 11 = .int .i64 (u % 2) := (hF116 11).trans s111
    have s123 : F115 12 = .int .i64 (v % 2) := (hF116 12).trans s112
    have s124 : F115 13 = .int .i64 ((0) + ((atF (f) (p) ((u + 1) / 2) (v / 2)) + (atF (f) (p) (u / 2) ((v + 1) / 2)))) := (hF116 13).trans rfl
    clear hF116
    refine in_normal ?_
    refine then_normal ?_
    refine wq_region ?_
    refine wl_v (.int .i64 ((0) + ((atF (f) (p) ((u + 1) / 2) (v / 2)) + (atF (f) (p) (u / 2) ((v + 1) / 2))))) rfl rfl (y_mov rfl s124 ⟨rfl, rfl⟩) ?_
    refine wl_v (.agg #[.int .i64 ((f).W), .int .i64 ((f).H), f0, f1, f2]) rfl rfl (y_load_stc stcT_frame rfl s119 B104 ⟨rfl, rfl⟩) ?_
    refine wl_v (.int .i64 (p)) rfl rfl (y_mov rfl s117 ⟨rfl, rfl⟩) ?_
    refine wl_v (.int .i64 (u / 2)) rfl rfl (y_mov rfl s120 ⟨rfl, rfl⟩) ?_
    refine wl_v (.int .i64 (u % 2)) rfl rfl (y_mov rfl s122 ⟨rfl, rfl⟩) ?_
    refine wl_v (.int .i64 ((u + 1) / 2)) rfl rfl (y_add rfl rfl rfl (i64_i (by omega) (by omega)) ⟨rfl, rfl⟩) ?_
    refine wl_v (.int .i64 (v / 2)) rfl rfl (y_mov rfl s121 ⟨rfl, rfl⟩) ?_
    refine wl_v (.int .i64 (v % 2)) rfl rfl (y_mov rfl s123 ⟨rfl, rfl⟩) ?_
    refine wl_v (.int .i64 ((v + 1) / 2)) rfl rfl (y_add rfl rfl rfl (i64_i (by omega) (by omega)) ⟨rfl, rfl⟩) ?_
    refine wl_call (R := fun v_ w_ => v_ = .int .i64 (atF (f) (p) ((u + 1) / 2) ((v + 1) / 2)) ∧ Kept (fun _ => False) w96 w_) rfl rfl (y_cs rfl rfl rfl (fun _ _ => by kernel_rfl) (ev_func _) (vsC rfl (vsC rfl (vsC rfl (vsC rfl vsN)))) (pl_at (p) ((u + 1) / 2) ((v + 1) / 2) (f) (f0) (f1) (f2) (T_f0) (T_f1) (T_f2) _  B101 B102 B103 ) (fun e_ w_ h_ => ⟨_, h_.1, rfl, h_.2⟩)) ?_
    rintro _ w125 ⟨rfl, k126⟩
    have B127 := B101.all k126 Apart.none
    have B128 := B102.all k126 Apart.none
    have B129 := B103.all k126 Apart.none
    have B130 := B104.all k126 id
    have K131 := K105.trans k126 (fun _ _ x => x.elim)
    refine wl_v (.int .i64 (((0) + ((atF (f) (p) ((u + 1) / 2) (v / 2)) + (atF (f) (p) (u / 2) ((v + 1) / 2)))) + (atF (f) (p) ((u + 1) / 2) ((v + 1) / 2)))) rfl rfl (y_add rfl rfl rfl (i64_i rfl (by omega)) ⟨rfl, rfl⟩) ?_
    refine wl_v (.int .i64 (((0) + ((atF (f) (p) ((u + 1) / 2) (v / 2)) + (atF (f) (p) (u / 2) ((v + 1) / 2)))) + (atF (f) (p) ((u + 1) / 2) ((v + 1) / 2)))) rfl rfl (y_asg rfl rfl ⟨rfl, rfl⟩) ?_
    refine wl_nil fun F132 hF133 => ?_
    have s134 : F132 1 = .int .i64 (p) := (hF133 1).trans s117
    have s135 : F132 72 = undef := (hF133 72).trans s118
    have s136 : F132 4 = .pointer (some ⟨p1, 0, none⟩) := (hF133 4).trans s119
    have s137 : F132 9 = .int .i64 (u / 2) := (hF133 9).trans s120
    have s138 : F132 10 = .int .i64 (v / 2) := (hF133 10).trans s121
    have s139 : F132 11 = .int .i64 (u % 2) := (hF133 11).trans s122
    have s140 : F132 12 = .int .i64 (v % 2) := (hF133 12).trans s123
    have s141 : F132 13 = .int .i64 (((0) + ((atF (f) (p) ((u + 1) / 2) (v / 2)) + (atF (f) (p) (u / 2) ((v + 1) / 2)))) + (atF (f) (p) ((u + 1) / 2) ((v + 1) / 2))) := (hF133 13).trans rfl
    clear hF133
    refine in_normal ?_
    refine then_normal ?_
    refine wq_seq ?_
    refine wq_region ?_
    refine wl_v (.int .i64 (((0) + ((atF (f) (p) ((u + 1) / 2) (v / 2)) + (atF (f) (p) (u / 2) ((v + 1) / 2)))) + (atF (f) (p) ((u + 1) / 2) ((v + 1) / 2)))) rfl rfl (y_mov rfl s141 ⟨rfl, rfl⟩) ?_
    refine wl_v (.agg #[.int .i64 ((f).W), .int .i64 ((f).H), f0, f1, f2]) rfl rfl (y_load_stc stcT_frame rfl s136 B130 ⟨rfl, rfl⟩) ?_
    refine wl_v (.int .i64 (p)) rfl rfl (y_mov rfl s134 ⟨rfl, rfl⟩) ?_
    refine wl_v (.int .i64 (u / 2)) rfl rfl (y_mov rfl s137 ⟨rfl, rfl⟩) ?_
    refine wl_v (.int .i64 (v / 2)) rfl rfl (y_mov rfl s138 ⟨rfl, rfl⟩) ?_
    refine wl_call (R := fun v_ w_ => v_ = .int .i64 (atF (f) (p) (u / 2) (v / 2)) ∧ Kept (fun _ => False) w125 w_) rfl rfl (y_cs rfl rfl rfl (fun _ _ => by kernel_rfl) (ev_func _) (vsC rfl (vsC rfl (vsC rfl (vsC rfl vsN)))) (pl_at (p) (u / 2) (v / 2) (f) (f0) (f1) (f2) (T_f0) (T_f1) (T_f2) _  B127 B128 B129 ) (fun e_ w_ h_ => ⟨_, h_.1, rfl, h_.2⟩)) ?_
    rintro _ w142 ⟨rfl, k143⟩
    have B144 := B127.all k143 Apart.none
    have B145 := B128.all k143 Apart.none
    have B146 := B129.all k143 Apart.none
    have B147 := B130.all k143 id
    have K148 := K131.trans k143 (fun _ _ x => x.elim)
    refine wl_v (.int .i64 ((((0) + ((atF (f) (p) ((u + 1) / 2) (v / 2)) + (atF (f) (p) (u / 2) ((v + 1) / 2)))) + (atF (f) (p) ((u + 1) / 2) ((v + 1) / 2))) + (atF (f) (p) (u / 2) (v / 2)))) rfl rfl (y_add rfl rfl rfl (i64_i rfl (by omega)) ⟨rfl, rfl⟩) ?_
    refine wl_v (.int .i64 ((((0) + ((atF (f) (p) ((u + 1) / 2) (v / 2)) + (atF (f) (p) (u / 2) ((v + 1) / 2)))) + (atF (f) (p) ((u + 1) / 2) ((v + 1) / 2))) + (atF (f) (p) (u / 2) (v / 2)))) rfl rfl (y_asg rfl rfl ⟨rfl, rfl⟩) ?_
    refine wl_nil fun F149 hF150 => ?_
    have s151 : F149 72 = undef := (hF150 72).trans s135
    have s152 : F149 11 = .int .i64 (u % 2) := (hF150 11).trans s139
    have s153 : F149 12 = .int .i64 (v % 2) := (hF150 12).trans s140
    have s154 : F149 13 = .int .i64 ((((0) + ((atF (f) (p) ((u + 1) / 2) (v / 2)) + (atF (f) (p) (u / 2) ((v + 1) / 2)))) + (atF (f) (p) ((u + 1) / 2) ((v + 1) / 2))) + (atF (f) (p) (u / 2) (v / 2))) := (hF150 13).trans rfl
    clear hF150
    refine then_normal ?_
    refine wq_exit ?_
    refine in_here ?_
    refine then_normal ?_
    refine wq_seq ?_
    refine wq_region ?_
    refine wl_v (.int .i64 ((((0) + ((atF (f) (p) ((u + 1) / 2) (v / 2)) + (atF (f) (p) (u / 2) ((v + 1) / 2)))) + (atF (f) (p) ((u + 1) / 2) ((v + 1) / 2))) + (atF (f) (p) (u / 2) (v / 2)))) rfl rfl (y_mov rfl s154 ⟨rfl, rfl⟩) ?_
    refine wl_v (.int .i64 (u % 2)) rfl rfl (y_mov rfl s152 ⟨rfl, rfl⟩) ?_
    refine wl_v (.int .i64 (v % 2)) rfl rfl (y_mov rfl s153 ⟨rfl, rfl⟩) ?_
    refine wl_v (.int .i64 (((N : Nat) : Int))) rfl rfl (y_add rfl rfl rfl (i64_i hN.symm (by omega)) ⟨rfl, rfl⟩) ?_
    refine wl_v (.int .i64 (M)) rfl rfl (y_shlR (N) rfl rfl rfl ((by rcases hM2 with ⟨h1, h2⟩ | ⟨h1, h2⟩ | ⟨h1, h2⟩ <;> subst h1 <;> rw [h2] <;> rfl)) ⟨rfl, rfl⟩) ?_
    refine wl_call (R := fun v_ w_ => v_ = .int .i64 (mid f p u v) ∧ Kept (fun _ => False) w142 w_) rfl rfl (y_cs rfl rfl rfl (fun _ _ => by kernel_rfl) (ev_func _) (vsC rfl (vsC rfl vsN)) (mo_mean ((((0) + ((atF (f) (p) ((u + 1) / 2) (v / 2)) + (atF (f) (p) (u / 2) ((v + 1) / 2)))) + (atF (f) (p) ((u + 1) / 2) ((v + 1) / 2))) + (atF (f) (p) (u / 2) (v / 2))) (M)  _ (by omega) (by omega)  ) (fun e_ w_ h_ => ⟨_, h_.1, congrArg (Value.int .i64) (by first | (rw [(by omega : M = 4)]; have e := mid_none (f := f) (p := p) (u := u) (v := v) (by omega) (by omega); omega) | (rw [(by omega : M = 2)]; rcases (by omega : u % 2 = 0 ∨ v % 2 = 0) with h0 | h0; (have e := mid_down (f := f) (p := p) (u := u) (v := v) (by omega) (by omega); rw [show (u + 1) / 2 = u / 2 by omega]; omega); (have e := mid_side (f := f) (p := p) (u := u) (v := v) (by omega) (by omega); rw [show (v + 1) / 2 = v / 2 by omega]; omega)) | (rw [(by omega : M = 1)]; have e := mid_both (f := f) (p := p) (u := u) (v := v) (by omega) (by omega); omega)), h_.2⟩)) ?_
    rintro _ w155 ⟨rfl, k156⟩
    have B157 := B144.all k156 Apart.none
    have B158 := B145.all k156 Apart.none
    have B159 := B146.all k156 Apart.none
    have B160 := B147.all k156 id
    have K161 := K148.trans k156 (fun _ _ x => x.elim)
    refine wl_v (.int .i64 (mid f p u v)) rfl rfl (y_asg rfl rfl ⟨rfl, rfl⟩) ?_
    refine wl_nil fun F162 hF163 => ?_
    have s164 : F162 72 = undef := (hF163 72).trans s151
    have s165 : F162 8 = .int .i64 (mid f p u v) := (hF163 8).trans rfl
    clear hF163
    refine then_normal ?_
    refine wq_ret ?_
    exact end_tmp (v := .int .i64 (mid f p u v)) s164 rfl rfl s165 ⟨(by rw [hm]), K161⟩
  · replace c93 := of_decide_eq_false c93
    refine wq_skip ?_
    refine then_normal ?_
    refine wq_seq ?_
    refine wq_region ?_
    refine wl_v (.bool (decide ((((N : Nat) : Int)) = (1)))) rfl rfl (y_eqlI rfl s91 rfl rfl ⟨rfl, rfl⟩) ?_
    refine wl_v (.bool (decide ((((N : Nat) : Int)) = (1)))) rfl rfl (y_asg rfl rfl ⟨rfl, rfl⟩) ?_
    refine wl_nil fun F166 hF167 => ?_
    have s168 : F166 1 = .int .i64 (p) := (hF167 1).trans s83
    have s169 : F166 72 = undef := (hF167 72).trans s84
    have s170 : F166 4 = .pointer (some ⟨p1, 0, none⟩) := (hF167 4).trans s85
    have s171 : F166 9 = .int .i64 (u / 2) := (hF167 9).trans s86
    have s172 : F166 10 = .int .i64 (v / 2) := (hF167 10).trans s87
    have s173 : F166 11 = .int .i64 (u % 2) := (hF167 11).trans s88
    have s174 : F166 12 = .int .i64 (v % 2) := (hF167 12).trans s89
    have s175 : F166 13 = .int .i64 (0) := (hF167 13).trans s90
    have s176 : F166 31 = .bool (decide ((((N : Nat) : Int)) = (1))) := (hF167 31).trans rfl
    clear hF167
    refine then_normal ?_
    refine wq_cond s176 (fun c177 => ?_) (fun c177 => ?_)
    · replace c177 := of_decide_eq_true c177
      refine wq_exit ?_
      refine then_exit ?_
      refine in_other (by decide) ?_
      refine then_exit ?_
      refine in_here ?_
      refine then_normal ?_
      refine wq_region ?_
      refine wl_v (.int .i64 (0)) rfl rfl (y_mov rfl s175 ⟨rfl, rfl⟩) ?_
      refine wl_v (.agg #[.int .i64 ((f).W), .int .i64 ((f).H), f0, f1, f2]) rfl rfl (y_load_stc stcT_frame rfl s170 B33 ⟨rfl, rfl⟩) ?_
      refine wl_v (.int .i64 (p)) rfl rfl (y_mov rfl s168 ⟨rfl, rfl⟩) ?_
      refine wl_v (.int .i64 (u / 2)) rfl rfl (y_mov rfl s171 ⟨rfl, rfl⟩) ?_
      refine wl_v (.int .i64 (u % 2)) rfl rfl (y_mov rfl s173 ⟨rfl, rfl⟩) ?_
      refine wl_v (.int .i64 ((u + 1) / 2)) rfl rfl (y_add rfl rfl rfl (i64_i (by omega) (by omega)) ⟨rfl, rfl⟩) ?_
      refine wl_v (.int .i64 (v / 2)) rfl rfl (y_mov rfl s172 ⟨rfl, rfl⟩) ?_
      refine wl_v (.int .i64 (v % 2)) rfl rfl (y_mov rfl s174 ⟨rfl, rfl⟩) ?_
      refine wl_v (.int .i64 ((v + 1) / 2)) rfl rfl (y_add rfl rfl rfl (i64_i (by omega) (by omega)) ⟨rfl, rfl⟩) ?_
      refine wl_call (R := fun v_ w_ => v_ = .int .i64 (atF (f) (p) ((u + 1) / 2) ((v + 1) / 2)) ∧ Kept (fun _ => False) w28 w_) rfl rfl (y_cs rfl rfl rfl (fun _ _ => by kernel_rfl) (ev_func _) (vsC rfl (vsC rfl (vsC rfl (vsC rfl vsN)))) (pl_at (p) ((u + 1) / 2) ((v + 1) / 2) (f) (f0) (f1) (f2) (T_f0) (T_f1) (T_f2) _  B30 B31 B32 ) (fun e_ w_ h_ => ⟨_, h_.1, rfl, h_.2⟩)) ?_
      rintro _ w178 ⟨rfl, k179⟩
      have B180 := B30.all k179 Apart.none
      have B181 := B31.all k179 Apart.none
      have B182 := B32.all k179 Apart.none
      have B183 := B33.all k179 id
      have K184 := K34.trans k179 (fun _ _ x => x.elim)
      refine wl_v (.int .i64 ((0) + (atF (f) (p) ((u + 1) / 2) ((v + 1) / 2)))) rfl rfl (y_add rfl rfl rfl (i64_i rfl (by omega)) ⟨rfl, rfl⟩) ?_
      refine wl_v (.int .i64 ((0) + (atF (f) (p) ((u + 1) / 2) ((v + 1) / 2)))) rfl rfl (y_asg rfl rfl ⟨rfl, rfl⟩) ?_
      refine wl_nil fun F185 hF186 => ?_
      have s187 : F185 1 = .int .i64 (p) := (hF186 1).trans s168
      have s188 : F185 72 = undef := (hF186 72).trans s169
      have s189 : F185 4 = .pointer (some ⟨p1, 0, none⟩) := (hF186 4).trans s170
      have s190 : F185 9 = .int .i64 (u / 2) := (hF186 9).trans s171
      have s191 : F185 10 = .int .i64 (v / 2) := (hF186 10).trans s172
      have s192 : F185 11 = .int .i64 (u % 2) := (hF186 11).trans s173
      have s193 : F185 12 = .int .i64 (v % 2) := (hF186 12).trans s174
      have s194 : F185 13 = .int .i64 ((0) + (atF (f) (p) ((u + 1) / 2) ((v + 1) / 2))) := (hF186 13).trans rfl
      clear hF186
      refine in_normal ?_
      refine then_normal ?_
      refine wq_seq ?_
      refine wq_region ?_
      refine wl_v (.int .i64 ((0) + (atF (f) (p) ((u + 1) / 2) ((v + 1) / 2)))) rfl rfl (y_mov rfl s194 ⟨rfl, rfl⟩) ?_
      refine wl_v (.agg #[.int .i64 ((f).W), .int .i64 ((f).H), f0, f1, f2]) rfl rfl (y_load_stc stcT_frame rfl s189 B183 ⟨rfl, rfl⟩) ?_
      refine wl_v (.int .i64 (p)) rfl rfl (y_mov rfl s187 ⟨rfl, rfl⟩) ?_
      refine wl_v (.int .i64 (u / 2)) rfl rfl (y_mov rfl s190 ⟨rfl, rfl⟩) ?_
      refine wl_v (.int .i64 (v / 2)) rfl rfl (y_mov rfl s191 ⟨rfl, rfl⟩) ?_
      refine wl_call (R := fun v_ w_ => v_ = .int .i64 (atF (f) (p) (u / 2) (v / 2)) ∧ Kept (fun _ => False) w178 w_) rfl rfl (y_cs rfl rfl rfl (fun _ _ => by kernel_rfl) (ev_func _) (vsC rfl (vsC rfl (vsC rfl (vsC rfl vsN)))) (pl_at (p) (u / 2) (v / 2) (f) (f0) (f1) (f2) (T_f0) (T_f1) (T_f2) _  B180 B181 B182 ) (fun e_ w_ h_ => ⟨_, h_.1, rfl, h_.2⟩)) ?_
      rintro _ w195 ⟨rfl, k196⟩
      have B197 := B180.all k196 Apart.none
      have B198 := B181.all k196 Apart.none
      have B199 := B182.all k196 Apart.none
      have B200 := B183.all k196 id
      have K201 := K184.trans k196 (fun _ _ x => x.elim)
      refine wl_v (.int .i64 (((0) + (atF (f) (p) ((u + 1) / 2) ((v + 1) / 2))) + (atF (f) (p) (u / 2) (v / 2)))) rfl rfl (y_add rfl rfl rfl (i64_i rfl (by omega)) ⟨rfl, rfl⟩) ?_
      refine wl_v (.int .i64 (((0) + (atF (f) (p) ((u + 1) / 2) ((v + 1) / 2))) + (atF (f) (p) (u / 2) (v / 2)))) rfl rfl (y_asg rfl rfl ⟨rfl, rfl⟩) ?_
      refine wl_nil fun F202 hF203 => ?_
      have s204 : F202 72 = undef := (hF203 72).trans s188
      have s205 : F202 11 = .int .i64 (u % 2) := (hF203 11).trans s192
      have s206 : F202 12 = .int .i64 (v % 2) := (hF203 12).trans s193
      have s207 : F202 13 = .int .i64 (((0) + (atF (f) (p) ((u + 1) / 2) ((v + 1) / 2))) + (atF (f) (p) (u / 2) (v / 2))) := (hF203 13).trans rfl
      clear hF203
      refine then_normal ?_
      refine wq_exit ?_
      refine in_here ?_
      refine then_normal ?_
      refine wq_seq ?_
      refine wq_region ?_
      refine wl_v (.int .i64 (((0) + (atF (f) (p) ((u + 1) / 2) ((v + 1) / 2))) + (atF (f) (p) (u / 2) (v / 2)))) rfl rfl (y_mov rfl s207 ⟨rfl, rfl⟩) ?_
      refine wl_v (.int .i64 (u % 2)) rfl rfl (y_mov rfl s205 ⟨rfl, rfl⟩) ?_
      refine wl_v (.int .i64 (v % 2)) rfl rfl (y_mov rfl s206 ⟨rfl, rfl⟩) ?_
      refine wl_v (.int .i64 (((N : Nat) : Int))) rfl rfl (y_add rfl rfl rfl (i64_i hN.symm (by omega)) ⟨rfl, rfl⟩) ?_
      refine wl_v (.int .i64 (M)) rfl rfl (y_shlR (N) rfl rfl rfl ((by rcases hM2 with ⟨h1, h2⟩ | ⟨h1, h2⟩ | ⟨h1, h2⟩ <;> subst h1 <;> rw [h2] <;> rfl)) ⟨rfl, rfl⟩) ?_
      refine wl_call (R := fun v_ w_ => v_ = .int .i64 (mid f p u v) ∧ Kept (fun _ => False) w195 w_) rfl rfl (y_cs rfl rfl rfl (fun _ _ => by kernel_rfl) (ev_func _) (vsC rfl (vsC rfl vsN)) (mo_mean (((0) + (atF (f) (p) ((u + 1) / 2) ((v + 1) / 2))) + (atF (f) (p) (u / 2) (v / 2))) (M)  _ (by omega) (by omega)  ) (fun e_ w_ h_ => ⟨_, h_.1, congrArg (Value.int .i64) (by first | (rw [(by omega : M = 4)]; have e := mid_none (f := f) (p := p) (u := u) (v := v) (by omega) (by omega); omega) | (rw [(by omega : M = 2)]; rcases (by omega : u % 2 = 0 ∨ v % 2 = 0) with h0 | h0; (have e := mid_down (f := f) (p := p) (u := u) (v := v) (by omega) (by omega); rw [show (u + 1) / 2 = u / 2 by omega]; omega); (have e := mid_side (f := f) (p := p) (u := u) (v := v) (by omega) (by omega); rw [show (v + 1) / 2 = v / 2 by omega]; omega)) | (rw [(by omega : M = 1)]; have e := mid_both (f := f) (p := p) (u := u) (v := v) (by omega) (by omega); omega)), h_.2⟩)) ?_
      rintro _ w208 ⟨rfl, k209⟩
      have B210 := B197.all k209 Apart.none
      have B211 := B198.all k209 Apart.none
      have B212 := B199.all k209 Apart.none
      have B213 := B200.all k209 id
      have K214 := K201.trans k209 (fun _ _ x => x.elim)
      refine wl_v (.int .i64 (mid f p u v)) rfl rfl (y_asg rfl rfl ⟨rfl, rfl⟩) ?_
      refine wl_nil fun F215 hF216 => ?_
      have s217 : F215 72 = undef := (hF216 72).trans s204
      have s218 : F215 8 = .int .i64 (mid f p u v) := (hF216 8).trans rfl
      clear hF216
      refine then_normal ?_
      refine wq_ret ?_
      exact end_tmp (v := .int .i64 (mid f p u v)) s217 rfl rfl s218 ⟨(by rw [hm]), K214⟩
    · replace c177 := of_decide_eq_false c177
      refine wq_skip ?_
      refine then_normal ?_
      refine wq_exit ?_
      refine in_other (by decide) ?_
      refine then_exit ?_
      refine in_other (by decide) ?_
      refine then_exit ?_
      refine in_here ?_
      refine then_normal ?_
      refine wq_seq ?_
      refine wq_region ?_
      refine wl_v (.int .i64 (0)) rfl rfl (y_mov rfl s175 ⟨rfl, rfl⟩) ?_
      refine wl_v (.agg #[.int .i64 ((f).W), .int .i64 ((f).H), f0, f1, f2]) rfl rfl (y_load_stc stcT_frame rfl s170 B33 ⟨rfl, rfl⟩) ?_
      refine wl_v (.int .i64 (p)) rfl rfl (y_mov rfl s168 ⟨rfl, rfl⟩) ?_
      refine wl_v (.int .i64 (u / 2)) rfl rfl (y_mov rfl s171 ⟨rfl, rfl⟩) ?_
      refine wl_v (.int .i64 (v / 2)) rfl rfl (y_mov rfl s172 ⟨rfl, rfl⟩) ?_
      refine wl_call (R := fun v_ w_ => v_ = .int .i64 (atF (f) (p) (u / 2) (v / 2)) ∧ Kept (fun _ => False) w28 w_) rfl rfl (y_cs rfl rfl rfl (fun _ _ => by kernel_rfl) (ev_func _) (vsC rfl (vsC rfl (vsC rfl (vsC rfl vsN)))) (pl_at (p) (u / 2) (v / 2) (f) (f0) (f1) (f2) (T_f0) (T_f1) (T_f2) _  B30 B31 B32 ) (fun e_ w_ h_ => ⟨_, h_.1, rfl, h_.2⟩)) ?_
      rintro _ w219 ⟨rfl, k220⟩
      have B221 := B30.all k220 Apart.none
      have B222 := B31.all k220 Apart.none
      have B223 := B32.all k220 Apart.none
      have B224 := B33.all k220 id
      have K225 := K34.trans k220 (fun _ _ x => x.elim)
      refine wl_v (.int .i64 ((0) + (atF (f) (p) (u / 2) (v / 2)))) rfl rfl (y_add rfl rfl rfl (i64_i rfl (by omega)) ⟨rfl, rfl⟩) ?_
      refine wl_v (.int .i64 ((0) + (atF (f) (p) (u / 2) (v / 2)))) rfl rfl (y_asg rfl rfl ⟨rfl, rfl⟩) ?_
      refine wl_nil fun F226 hF227 => ?_
      have s228 : F226 72 = undef := (hF227 72).trans s169
      have s229 : F226 11 = .int .i64 (u % 2) := (hF227 11).trans s173
      have s230 : F226 12 = .int .i64 (v % 2) := (hF227 12).trans s174
      have s231 : F226 13 = .int .i64 ((0) + (atF (f) (p) (u / 2) (v / 2))) := (hF227 13).trans rfl
      clear hF227
      refine then_normal ?_
      refine wq_exit ?_
      refine in_here ?_
      refine then_normal ?_
      refine wq_seq ?_
      refine wq_region ?_
      refine wl_v (.int .i64 ((0) + (atF (f) (p) (u / 2) (v / 2)))) rfl rfl (y_mov rfl s231 ⟨rfl, rfl⟩) ?_
      refine wl_v (.int .i64 (u % 2)) rfl rfl (y_mov rfl s229 ⟨rfl, rfl⟩) ?_
      refine wl_v (.int .i64 (v % 2)) rfl rfl (y_mov rfl s230 ⟨rfl, rfl⟩) ?_
      refine wl_v (.int .i64 (((N : Nat) : Int))) rfl rfl (y_add rfl rfl rfl (i64_i hN.symm (by omega)) ⟨rfl, rfl⟩) ?_
      refine wl_v (.int .i64 (M)) rfl rfl (y_shlR (N) rfl rfl rfl ((by rcases hM2 with ⟨h1, h2⟩ | ⟨h1, h2⟩ | ⟨h1, h2⟩ <;> subst h1 <;> rw [h2] <;> rfl)) ⟨rfl, rfl⟩) ?_
      refine wl_call (R := fun v_ w_ => v_ = .int .i64 (mid f p u v) ∧ Kept (fun _ => False) w219 w_) rfl rfl (y_cs rfl rfl rfl (fun _ _ => by kernel_rfl) (ev_func _) (vsC rfl (vsC rfl vsN)) (mo_mean ((0) + (atF (f) (p) (u / 2) (v / 2))) (M)  _ (by omega) (by omega)  ) (fun e_ w_ h_ => ⟨_, h_.1, congrArg (Value.int .i64) (by first | (rw [(by omega : M = 4)]; have e := mid_none (f := f) (p := p) (u := u) (v := v) (by omega) (by omega); omega) | (rw [(by omega : M = 2)]; rcases (by omega : u % 2 = 0 ∨ v % 2 = 0) with h0 | h0; (have e := mid_down (f := f) (p := p) (u := u) (v := v) (by omega) (by omega); rw [show (u + 1) / 2 = u / 2 by omega]; omega); (have e := mid_side (f := f) (p := p) (u := u) (v := v) (by omega) (by omega); rw [show (v + 1) / 2 = v / 2 by omega]; omega)) | (rw [(by omega : M = 1)]; have e := mid_both (f := f) (p := p) (u := u) (v := v) (by omega) (by omega); omega)), h_.2⟩)) ?_
      rintro _ w232 ⟨rfl, k233⟩
      have B234 := B221.all k233 Apart.none
      have B235 := B222.all k233 Apart.none
      have B236 := B223.all k233 Apart.none
      have B237 := B224.all k233 id
      have K238 := K225.trans k233 (fun _ _ x => x.elim)
      refine wl_v (.int .i64 (mid f p u v)) rfl rfl (y_asg rfl rfl ⟨rfl, rfl⟩) ?_
      refine wl_nil fun F239 hF240 => ?_
      have s241 : F239 72 = undef := (hF240 72).trans s228
      have s242 : F239 8 = .int .i64 (mid f p u v) := (hF240 8).trans rfl
      clear hF240
      refine then_normal ?_
      refine wq_ret ?_
      exact end_tmp (v := .int .i64 (mid f p u v)) s241 rfl rfl s242 ⟨(by rw [hm]), K238⟩
set_option maxHeartbeats 4000000 in
set_option maxRecDepth 100000 in
theorem mo_predict (p x y X Y : Int) (f : FD) (f0 f1 f2 : Value) (T_f0 : Nat → Prop) (T_f1 : Nat → Prop) (T_f2 : Nat → Prop) (w0 : World) (h_f0 : Byt w0 T_f0 f0 ((f).p0)) (h_f1 : Byt w0 T_f1 f1 ((f).p1)) (h_f2 : Byt w0 T_f2 f2 ((f).p2)) :
    Calls Try.prog 11 #[.agg #[.int .i64 ((f).W), .int .i64 ((f).H), f0, f1, f2], .int .i64 (p), .int .i64 (x), .int .i64 (y), .agg #[.int .i64 (X), .int .i64 (Y)]] w0 fun e w' => e = .returned (.tuple #[blkV (mvB f p x y X Y), .int .i64 (mvE f p x y X Y)]) ∧ Kept (fun _ => False) w0 w' := by
  refine calls_wq (args := [.agg #[.int .i64 ((f).W), .int .i64 ((f).H), f0, f1, f2], .int .i64 (p), .int .i64 (x), .int .i64 (y), .agg #[.int .i64 (X), .int .i64 (Y)]]) 69 Try.func11 rfl rfl (Nat.le_of_ble_eq_true rfl) ?_
  have K0 := Kept.refl (fun _ => False) w0
  have g_f0 := Grew.refl w0 T_f0
  have g_f1 := Grew.refl w0 T_f1
  have g_f2 := Grew.refl w0 T_f2
  refine wq_seq ?_
  refine wq_region ?_
  refine wl_box_stc (vs := [.int .i64 ((f).W), .int .i64 ((f).H), f0, f1, f2]) rfl rfl rfl rfl fun p1 w2 B4 g5 k3 => ?_
  have gr6 : Grew w0 noB (onB p1) := Grew.new K0 g5
  have ap7 : Apart (onB p1) (T_f0) := Apart.new g5 (h_f0).live
  have ap8 : Apart (onB p1) (T_f1) := Apart.new g5 (h_f1).live
  have ap9 : Apart (onB p1) (T_f2) := Apart.new g5 (h_f2).live
  have B10 := h_f0.all k3 Apart.none
  have B11 := h_f1.all k3 Apart.none
  have B12 := h_f2.all k3 Apart.none
  have K13 := K0.trans k3 (fun _ _ x => x.elim)
  refine wl_box_stc (vs := [.int .i64 (X), .int .i64 (Y)]) rfl rfl rfl rfl fun p14 w15 B17 g18 k16 => ?_
  have gr19 : Grew w0 noB (onB p14) := Grew.new K13 g18
  have ap20 : Apart (onB p14) (T_f0) := Apart.new g18 (B10).live
  have ap21 : Apart (onB p14) (T_f1) := Apart.new g18 (B11).live
  have ap22 : Apart (onB p14) (T_f2) := Apart.new g18 (B12).live
  have ap23 : Apart (onB p14) (onB p1) := Apart.new g18 (onB_live (B4).lt)
  have B24 := B10.all k16 Apart.none
  have B25 := B11.all k16 Apart.none
  have B26 := B12.all k16 Apart.none
  have B27 := B4.all k16 id
  have K28 := K13.trans k16 (fun _ _ x => x.elim)
  refine wl_alloc_blk rfl rfl rfl blkT_block.2.2 fun p29 w30 e33 B31 k32 => ?_
  have g34 := onB_new (Nat.le_of_eq e33.symm)
  have gr35 : Grew w0 noB (onB p29) := Grew.new K28 g34
  have ap36 : Apart (onB p29) (T_f0) := Apart.new g34 (B24).live
  have ap37 : Apart (onB p29) (T_f1) := Apart.new g34 (B25).live
  have ap38 : Apart (onB p29) (T_f2) := Apart.new g34 (B26).live
  have ap39 : Apart (onB p29) (onB p1) := Apart.new g34 (onB_live (B27).lt)
  have ap40 : Apart (onB p29) (onB p14) := Apart.new g34 (onB_live (B17).lt)
  clear e33 g34
  have B41 := B24.all k32 Apart.none
  have B42 := B25.all k32 Apart.none
  have B43 := B26.all k32 Apart.none
  have B44 := B27.all k32 id
  have B45 := B17.all k32 id
  have K46 := K28.trans k32 (fun _ _ x => x.elim)
  refine wl_v (.int .i64 (0)) rfl rfl (y_asg rfl rfl ⟨rfl, rfl⟩) ?_
  refine wl_nil fun F47 hF48 => ?_
  have s49 : F47 1 = .int .i64 (p) := (hF48 1).trans rfl
  have s50 : F47 2 = .int .i64 (x) := (hF48 2).trans rfl
  have s51 : F47 3 = .int .i64 (y) := (hF48 3).trans rfl
  have s52 : F47 69 = undef := (hF48 69).trans rfl
  have s53 : F47 5 = .pointer (some ⟨p1, 0, none⟩) := (hF48 5).trans rfl
  have s54 : F47 9 = .pointer (some ⟨p14, 0, none⟩) := (hF48 9).trans rfl
  have s55 : F47 10 = .pointer (some ⟨p29, 0, none⟩) := (hF48 10).trans rfl
  clear hF48
  refine then_normal ?_
  refine wq_seq ?_
  refine wq_seq ?_
  by_cases d56 : (checkE (f)) ≠ (0)
  · skip
    refine wq_region ?_
    refine wl_v (.agg #[.int .i64 ((f).W), .int .i64 ((f).H), f0, f1, f2]) rfl rfl (y_load_stc stcT_frame rfl s53 B44 ⟨rfl, rfl⟩) ?_
    refine wl_call (R := fun v_ w_ => v_ = .int .i64 (checkE (f)) ∧ Kept (fun _ => False) w30 w_) rfl rfl (y_cs rfl rfl rfl (fun _ _ => by kernel_rfl) (ev_func _) (vsC rfl vsN) (pl_check (f) (f0) (f1) (f2) (T_f0) (T_f1) (T_f2) _  B41 B42 B43 ) (fun e_ w_ h_ => ⟨_, h_.1, rfl, h_.2⟩)) ?_
    rintro _ w57 ⟨rfl, k58⟩
    have B59 := B41.all k58 Apart.none
    have B60 := B42.all k58 Apart.none
    have B61 := B43.all k58 Apart.none
    have B62 := B44.all k58 id
    have B63 := B45.all k58 id
    have B64 := B31.all k58 id
    have K65 := K46.trans k58 (fun _ _ x => x.elim)
    refine wl_v (.bool true) rfl rfl (y_neqI rfl rfl rfl (decide_eq_true d56) ⟨rfl, rfl⟩) ?_
    refine wl_v (.bool true) rfl rfl (y_mov rfl rfl ⟨rfl, rfl⟩) ?_
    refine wl_unless 3 false 18 rfl rfl rfl (Or.inl rfl) rfl ?_
    refine wl_unless 3 false 18 rfl rfl rfl (Or.inl rfl) rfl ?_
    refine wl_v (.bool true) rfl rfl (y_pickT rfl rfl rfl ⟨rfl, rfl⟩) ?_
    refine wl_v (.bool true) rfl rfl (y_mov rfl rfl ⟨rfl, rfl⟩) ?_
    refine wl_unless 7 false 22 rfl rfl rfl (Or.inl rfl) rfl ?_
    refine wl_unless 7 false 22 rfl rfl rfl (Or.inl rfl) rfl ?_
    refine wl_v (.bool true) rfl rfl (y_pickT rfl rfl rfl ⟨rfl, rfl⟩) ?_
    refine wl_v (.bool true) rfl rfl (y_mov rfl rfl ⟨rfl, rfl⟩) ?_
    refine wl_unless 11 false 26 rfl rfl rfl (Or.inl rfl) rfl ?_
    refine wl_unless 11 false 26 rfl rfl rfl (Or.inl rfl) rfl ?_
    refine wl_unless 11 false 26 rfl rfl rfl (Or.inl rfl) rfl ?_
    refine wl_v (.bool true) rfl rfl (y_pickT rfl rfl rfl ⟨rfl, rfl⟩) ?_
    refine wl_v (.bool true) rfl rfl (y_mov rfl rfl ⟨rfl, rfl⟩) ?_
    refine wl_unless 16 false 31 rfl rfl rfl (Or.inl rfl) rfl ?_
    refine wl_unless 16 false 31 rfl rfl rfl (Or.inl rfl) rfl ?_
    refine wl_unless 16 false 31 rfl rfl rfl (Or.inl rfl) rfl ?_
    refine wl_v (.bool true) rfl rfl (y_pickT rfl rfl rfl ⟨rfl, rfl⟩) ?_
    refine wl_nil fun F66 hF67 => ?_
    have s68 : F66 1 = .int .i64 (p) := (hF67 1).trans s49
    have s69 : F66 2 = .int .i64 (x) := (hF67 2).trans s50
    have s70 : F66 3 = .int .i64 (y) := (hF67 3).trans s51
    have s71 : F66 69 = undef := (hF67 69).trans s52
    have s72 : F66 5 = .pointer (some ⟨p1, 0, none⟩) := (hF67 5).trans s53
    have s73 : F66 9 = .pointer (some ⟨p14, 0, none⟩) := (hF67 9).trans s54
    have s74 : F66 10 = .pointer (some ⟨p29, 0, none⟩) := (hF67 10).trans s55
    have s75 : F66 35 = .bool true := (hF67 35).trans rfl
    clear hF67
    refine then_normal ?_
    refine wq_cond (t := true) s75 (fun _ => ?_) (fun e => by cases e)
    refine wq_seq ?_
    have hno : ¬ placeF f p x y := by rintro ⟨h1, h2, h3, h4, h5, h6, h7⟩; first | exact absurd ((checkE_iff f).2 h1) (by assumption) | omega
    refine wq_region ?_
    refine wl_v (blkV (fun _ => 0)) rfl rfl (y_buildR (cells := (arrL 16 (fun _ => 0)).toArray) rfl (by kernel_rfl) rfl ⟨rfl, rfl⟩) ?_
    refine wl_store_blk blkT_block rfl rfl rfl s74 rfl B64 fun w76 B77 k78 => ?_
    have B79 := B59.all k78 (fun i h x => (((ap36).symm) i h x))
    have B80 := B60.all k78 (fun i h x => (((ap37).symm) i h x))
    have B81 := B61.all k78 (fun i h x => (((ap38).symm) i h x))
    have B82 := B62.all k78 (fun x => (((ap39).symm) p1 rfl x))
    have B83 := B63.all k78 (fun x => (((ap40).symm) p14 rfl x))
    have K84 := K65.trans k78 (Grew.ok (S := fun _ => False) gr35 noB_le)
    refine wl_v (.int .i64 (70)) rfl rfl (y_asg rfl rfl ⟨rfl, rfl⟩) ?_
    refine wl_nil fun F85 hF86 => ?_
    have s87 : F85 69 = undef := (hF86 69).trans s71
    have s88 : F85 10 = .pointer (some ⟨p29, 0, none⟩) := (hF86 10).trans s74
    have s89 : F85 11 = .int .i64 (70) := (hF86 11).trans rfl
    clear hF86
    refine then_normal ?_
    refine wq_ret ?_
    refine then_ret ?_
    exact end_2 s87 rfl (res_blk blkT_block rfl s88 B77) (res_tmp (v := .int .i64 (70)) rfl s89) ⟨(by first | rw [(mv_no hno).1, (mv_no hno).2] | rw [(mv_none hpl hvn).1, (mv_none hpl hvn).2, vecE_no hvn] | rw [(mv_yes hpl hv).1, (mv_yes hpl hv).2]), K84⟩
  · skip
    by_cases d90 : (p) < (0)
    · skip
      refine wq_region ?_
      refine wl_v (.agg #[.int .i64 ((f).W), .int .i64 ((f).H), f0, f1, f2]) rfl rfl (y_load_stc stcT_frame rfl s53 B44 ⟨rfl, rfl⟩) ?_
      refine wl_call (R := fun v_ w_ => v_ = .int .i64 (checkE (f)) ∧ Kept (fun _ => False) w30 w_) rfl rfl (y_cs rfl rfl rfl (fun _ _ => by kernel_rfl) (ev_func _) (vsC rfl vsN) (pl_check (f) (f0) (f1) (f2) (T_f0) (T_f1) (T_f2) _  B41 B42 B43 ) (fun e_ w_ h_ => ⟨_, h_.1, rfl, h_.2⟩)) ?_
      rintro _ w91 ⟨rfl, k92⟩
      have B93 := B41.all k92 Apart.none
      have B94 := B42.all k92 Apart.none
      have B95 := B43.all k92 Apart.none
      have B96 := B44.all k92 id
      have B97 := B45.all k92 id
      have B98 := B31.all k92 id
      have K99 := K46.trans k92 (fun _ _ x => x.elim)
      refine wl_v (.bool false) rfl rfl (y_neqI rfl rfl rfl (decide_eq_false d56) ⟨rfl, rfl⟩) ?_
      refine wl_v (.bool false) rfl rfl (y_mov rfl rfl ⟨rfl, rfl⟩) ?_
      refine wl_vw (.int .i64 (p)) 3 false 18 rfl rfl rfl rfl rfl (y_mov rfl s49 ⟨rfl, rfl⟩) ?_
      refine wl_vw (.bool true) 3 false 18 rfl rfl rfl rfl rfl (y_lss rfl rfl rfl (decide_eq_true d90) ⟨rfl, rfl⟩) ?_
      refine wl_v (.bool true) rfl rfl (y_pickF rfl rfl rfl ⟨rfl, rfl⟩) ?_
      refine wl_v (.bool true) rfl rfl (y_mov rfl rfl ⟨rfl, rfl⟩) ?_
      refine wl_unless 7 false 22 rfl rfl rfl (Or.inl rfl) rfl ?_
      refine wl_unless 7 false 22 rfl rfl rfl (Or.inl rfl) rfl ?_
      refine wl_v (.bool true) rfl rfl (y_pickT rfl rfl rfl ⟨rfl, rfl⟩) ?_
      refine wl_v (.bool true) rfl rfl (y_mov rfl rfl ⟨rfl, rfl⟩) ?_
      refine wl_unless 11 false 26 rfl rfl rfl (Or.inl rfl) rfl ?_
      refine wl_unless 11 false 26 rfl rfl rfl (Or.inl rfl) rfl ?_
      refine wl_unless 11 false 26 rfl rfl rfl (Or.inl rfl) rfl ?_
      refine wl_v (.bool true) rfl rfl (y_pickT rfl rfl rfl ⟨rfl, rfl⟩) ?_
      refine wl_v (.bool true) rfl rfl (y_mov rfl rfl ⟨rfl, rfl⟩) ?_
      refine wl_unless 16 false 31 rfl rfl rfl (Or.inl rfl) rfl ?_
      refine wl_unless 16 false 31 rfl rfl rfl (Or.inl rfl) rfl ?_
      refine wl_unless 16 false 31 rfl rfl rfl (Or.inl rfl) rfl ?_
      refine wl_v (.bool true) rfl rfl (y_pickT rfl rfl rfl ⟨rfl, rfl⟩) ?_
      refine wl_nil fun F100 hF101 => ?_
      have s102 : F100 1 = .int .i64 (p) := (hF101 1).trans s49
      have s103 : F100 2 = .int .i64 (x) := (hF101 2).trans s50
      have s104 : F100 3 = .int .i64 (y) := (hF101 3).trans s51
      have s105 : F100 69 = undef := (hF101 69).trans s52
      have s106 : F100 5 = .pointer (some ⟨p1, 0, none⟩) := (hF101 5).trans s53
      have s107 : F100 9 = .pointer (some ⟨p14, 0, none⟩) := (hF101 9).trans s54
      have s108 : F100 10 = .pointer (some ⟨p29, 0, none⟩) := (hF101 10).trans s55
      have s109 : F100 35 = .bool true := (hF101 35).trans rfl
      clear hF101
      refine then_normal ?_
      refine wq_cond (t := true) s109 (fun _ => ?_) (fun e => by cases e)
      refine wq_seq ?_
      have hno : ¬ placeF f p x y := by rintro ⟨h1, h2, h3, h4, h5, h6, h7⟩; first | exact absurd ((checkE_iff f).2 h1) (by assumption) | omega
      refine wq_region ?_
      refine wl_v (blkV (fun _ => 0)) rfl rfl (y_buildR (cells := (arrL 16 (fun _ => 0)).toArray) rfl (by kernel_rfl) rfl ⟨rfl, rfl⟩) ?_
      refine wl_store_blk blkT_block rfl rfl rfl s108 rfl B98 fun w110 B111 k112 => ?_
      have B113 := B93.all k112 (fun i h x => (((ap36).symm) i h x))
      have B114 := B94.all k112 (fun i h x => (((ap37).symm) i h x))
      have B115 := B95.all k112 (fun i h x => (((ap38).symm) i h x))
      have B116 := B96.all k112 (fun x => (((ap39).symm) p1 rfl x))
      have B117 := B97.all k112 (fun x => (((ap40).symm) p14 rfl x))
      have K118 := K99.trans k112 (Grew.ok (S := fun _ => False) gr35 noB_le)
      refine wl_v (.int .i64 (70)) rfl rfl (y_asg rfl rfl ⟨rfl, rfl⟩) ?_
      refine wl_nil fun F119 hF120 => ?_
      have s121 : F119 69 = undef := (hF120 69).trans s105
      have s122 : F119 10 = .pointer (some ⟨p29, 0, none⟩) := (hF120 10).trans s108
      have s123 : F119 11 = .int .i64 (70) := (hF120 11).trans rfl
      clear hF120
      refine then_normal ?_
      refine wq_ret ?_
      refine then_ret ?_
      exact end_2 s121 rfl (res_blk blkT_block rfl s122 B111) (res_tmp (v := .int .i64 (70)) rfl s123) ⟨(by first | rw [(mv_no hno).1, (mv_no hno).2] | rw [(mv_none hpl hvn).1, (mv_none hpl hvn).2, vecE_no hvn] | rw [(mv_yes hpl hv).1, (mv_yes hpl hv).2]), K118⟩
    · skip
      by_cases d124 : (3) ≤ (p)
      · skip
        refine wq_region ?_
        refine wl_v (.agg #[.int .i64 ((f).W), .int .i64 ((f).H), f0, f1, f2]) rfl rfl (y_load_stc stcT_frame rfl s53 B44 ⟨rfl, rfl⟩) ?_
        refine wl_call (R := fun v_ w_ => v_ = .int .i64 (checkE (f)) ∧ Kept (fun _ => False) w30 w_) rfl rfl (y_cs rfl rfl rfl (fun _ _ => by kernel_rfl) (ev_func _) (vsC rfl vsN) (pl_check (f) (f0) (f1) (f2) (T_f0) (T_f1) (T_f2) _  B41 B42 B43 ) (fun e_ w_ h_ => ⟨_, h_.1, rfl, h_.2⟩)) ?_
        rintro _ w125 ⟨rfl, k126⟩
        have B127 := B41.all k126 Apart.none
        have B128 := B42.all k126 Apart.none
        have B129 := B43.all k126 Apart.none
        have B130 := B44.all k126 id
        have B131 := B45.all k126 id
        have B132 := B31.all k126 id
        have K133 := K46.trans k126 (fun _ _ x => x.elim)
        refine wl_v (.bool false) rfl rfl (y_neqI rfl rfl rfl (decide_eq_false d56) ⟨rfl, rfl⟩) ?_
        refine wl_v (.bool false) rfl rfl (y_mov rfl rfl ⟨rfl, rfl⟩) ?_
        refine wl_vw (.int .i64 (p)) 3 false 18 rfl rfl rfl rfl rfl (y_mov rfl s49 ⟨rfl, rfl⟩) ?_
        refine wl_vw (.bool false) 3 false 18 rfl rfl rfl rfl rfl (y_lss rfl rfl rfl (decide_eq_false d90) ⟨rfl, rfl⟩) ?_
        refine wl_v (.bool false) rfl rfl (y_pickF rfl rfl rfl ⟨rfl, rfl⟩) ?_
        refine wl_v (.bool false) rfl rfl (y_mov rfl rfl ⟨rfl, rfl⟩) ?_
        refine wl_vw (.int .i64 (p)) 7 false 22 rfl rfl rfl rfl rfl (y_mov rfl s49 ⟨rfl, rfl⟩) ?_
        refine wl_vw (.bool true) 7 false 22 rfl rfl rfl rfl rfl (y_geq rfl rfl rfl (decide_eq_true d124) ⟨rfl, rfl⟩) ?_
        refine wl_v (.bool true) rfl rfl (y_pickF rfl rfl rfl ⟨rfl, rfl⟩) ?_
        refine wl_v (.bool true) rfl rfl (y_mov rfl rfl ⟨rfl, rfl⟩) ?_
        refine wl_unless 11 false 26 rfl rfl rfl (Or.inl rfl) rfl ?_
        refine wl_unless 11 false 26 rfl rfl rfl (Or.inl rfl) rfl ?_
        refine wl_unless 11 false 26 rfl rfl rfl (Or.inl rfl) rfl ?_
        refine wl_v (.bool true) rfl rfl (y_pickT rfl rfl rfl ⟨rfl, rfl⟩) ?_
        refine wl_v (.bool true) rfl rfl (y_mov rfl rfl ⟨rfl, rfl⟩) ?_
        refine wl_unless 16 false 31 rfl rfl rfl (Or.inl rfl) rfl ?_
        refine wl_unless 16 false 31 rfl rfl rfl (Or.inl rfl) rfl ?_
        refine wl_unless 16 false 31 rfl rfl rfl (Or.inl rfl) rfl ?_
        refine wl_v (.bool true) rfl rfl (y_pickT rfl rfl rfl ⟨rfl, rfl⟩) ?_
        refine wl_nil fun F134 hF135 => ?_
        have s136 : F134 1 = .int .i64 (p) := (hF135 1).trans s49
        have s137 : F134 2 = .int .i64 (x) := (hF135 2).trans s50
        have s138 : F134 3 = .int .i64 (y) := (hF135 3).trans s51
        have s139 : F134 69 = undef := (hF135 69).trans s52
        have s140 : F134 5 = .pointer (some ⟨p1, 0, none⟩) := (hF135 5).trans s53
        have s141 : F134 9 = .pointer (some ⟨p14, 0, none⟩) := (hF135 9).trans s54
        have s142 : F134 10 = .pointer (some ⟨p29, 0, none⟩) := (hF135 10).trans s55
        have s143 : F134 35 = .bool true := (hF135 35).trans rfl
        clear hF135
        refine then_normal ?_
        refine wq_cond (t := true) s143 (fun _ => ?_) (fun e => by cases e)
        refine wq_seq ?_
        have hno : ¬ placeF f p x y := by rintro ⟨h1, h2, h3, h4, h5, h6, h7⟩; first | exact absurd ((checkE_iff f).2 h1) (by assumption) | omega
        refine wq_region ?_
        refine wl_v (blkV (fun _ => 0)) rfl rfl (y_buildR (cells := (arrL 16 (fun _ => 0)).toArray) rfl (by kernel_rfl) rfl ⟨rfl, rfl⟩) ?_
        refine wl_store_blk blkT_block rfl rfl rfl s142 rfl B132 fun w144 B145 k146 => ?_
        have B147 := B127.all k146 (fun i h x => (((ap36).symm) i h x))
        have B148 := B128.all k146 (fun i h x => (((ap37).symm) i h x))
        have B149 := B129.all k146 (fun i h x => (((ap38).symm) i h x))
        have B150 := B130.all k146 (fun x => (((ap39).symm) p1 rfl x))
        have B151 := B131.all k146 (fun x => (((ap40).symm) p14 rfl x))
        have K152 := K133.trans k146 (Grew.ok (S := fun _ => False) gr35 noB_le)
        refine wl_v (.int .i64 (70)) rfl rfl (y_asg rfl rfl ⟨rfl, rfl⟩) ?_
        refine wl_nil fun F153 hF154 => ?_
        have s155 : F153 69 = undef := (hF154 69).trans s139
        have s156 : F153 10 = .pointer (some ⟨p29, 0, none⟩) := (hF154 10).trans s142
        have s157 : F153 11 = .int .i64 (70) := (hF154 11).trans rfl
        clear hF154
        refine then_normal ?_
        refine wq_ret ?_
        refine then_ret ?_
        exact end_2 s155 rfl (res_blk blkT_block rfl s156 B145) (res_tmp (v := .int .i64 (70)) rfl s157) ⟨(by first | rw [(mv_no hno).1, (mv_no hno).2] | rw [(mv_none hpl hvn).1, (mv_none hpl hvn).2, vecE_no hvn] | rw [(mv_yes hpl hv).1, (mv_yes hpl hv).2]), K152⟩
      · skip
        by_cases d158 : 0 ≤ (x) ∧ (x) ≤ 64
        · skip
          by_cases d159 : 0 ≤ (y) ∧ (y) ≤ 64
          · skip
            refine wq_region ?_
            refine wl_v (.agg #[.int .i64 ((f).W), .int .i64 ((f).H), f0, f1, f2]) rfl rfl (y_load_stc stcT_frame rfl s53 B44 ⟨rfl, rfl⟩) ?_
            refine wl_call (R := fun v_ w_ => v_ = .int .i64 (checkE (f)) ∧ Kept (fun _ => False) w30 w_) rfl rfl (y_cs rfl rfl rfl (fun _ _ => by kernel_rfl) (ev_func _) (vsC rfl vsN) (pl_check (f) (f0) (f1) (f2) (T_f0) (T_f1) (T_f2) _  B41 B42 B43 ) (fun e_ w_ h_ => ⟨_, h_.1, rfl, h_.2⟩)) ?_
            rintro _ w160 ⟨rfl, k161⟩
            have B162 := B41.all k161 Apart.none
            have B163 := B42.all k161 Apart.none
            have B164 := B43.all k161 Apart.none
            have B165 := B44.all k161 id
            have B166 := B45.all k161 id
            have B167 := B31.all k161 id
            have K168 := K46.trans k161 (fun _ _ x => x.elim)
            refine wl_v (.bool false) rfl rfl (y_neqI rfl rfl rfl (decide_eq_false d56) ⟨rfl, rfl⟩) ?_
            refine wl_v (.bool false) rfl rfl (y_mov rfl rfl ⟨rfl, rfl⟩) ?_
            refine wl_vw (.int .i64 (p)) 3 false 18 rfl rfl rfl rfl rfl (y_mov rfl s49 ⟨rfl, rfl⟩) ?_
            refine wl_vw (.bool false) 3 false 18 rfl rfl rfl rfl rfl (y_lss rfl rfl rfl (decide_eq_false d90) ⟨rfl, rfl⟩) ?_
            refine wl_v (.bool false) rfl rfl (y_pickF rfl rfl rfl ⟨rfl, rfl⟩) ?_
            refine wl_v (.bool false) rfl rfl (y_mov rfl rfl ⟨rfl, rfl⟩) ?_
            refine wl_vw (.int .i64 (p)) 7 false 22 rfl rfl rfl rfl rfl (y_mov rfl s49 ⟨rfl, rfl⟩) ?_
            refine wl_vw (.bool false) 7 false 22 rfl rfl rfl rfl rfl (y_geq rfl rfl rfl (decide_eq_false d124) ⟨rfl, rfl⟩) ?_
            refine wl_v (.bool false) rfl rfl (y_pickF rfl rfl rfl ⟨rfl, rfl⟩) ?_
            refine wl_v (.bool false) rfl rfl (y_mov rfl rfl ⟨rfl, rfl⟩) ?_
            refine wl_vw (.int .i64 (x)) 11 false 26 rfl rfl rfl rfl rfl (y_mov rfl s50 ⟨rfl, rfl⟩) ?_
            refine wl_callw (R := fun v_ w_ => v_ = .bool true ∧ Kept (fun _ => False) w160 w_) 11 false 26 rfl rfl rfl rfl rfl (y_cs rfl rfl rfl (fun _ _ => by kernel_rfl) (ev_func _) (vsC rfl vsN) (mo_mayPlace (x)  _   ) (fun e_ w_ h_ => ⟨_, h_.1, (congrArg Value.bool (decide_eq_true d158)), h_.2⟩)) ?_
            rintro _ w169 ⟨rfl, k170⟩
            have B171 := B162.all k170 Apart.none
            have B172 := B163.all k170 Apart.none
            have B173 := B164.all k170 Apart.none
            have B174 := B165.all k170 id
            have B175 := B166.all k170 id
            have B176 := B167.all k170 id
            have K177 := K168.trans k170 (fun _ _ x => x.elim)
            refine wl_vw (.bool false) 11 false 26 rfl rfl rfl rfl rfl (y_not rfl rfl rfl ⟨rfl, rfl⟩) ?_
            refine wl_v (.bool false) rfl rfl (y_pickF rfl rfl rfl ⟨rfl, rfl⟩) ?_
            refine wl_v (.bool false) rfl rfl (y_mov rfl rfl ⟨rfl, rfl⟩) ?_
            refine wl_vw (.int .i64 (y)) 16 false 31 rfl rfl rfl rfl rfl (y_mov rfl s51 ⟨rfl, rfl⟩) ?_
            refine wl_callw (R := fun v_ w_ => v_ = .bool true ∧ Kept (fun _ => False) w169 w_) 16 false 31 rfl rfl rfl rfl rfl (y_cs rfl rfl rfl (fun _ _ => by kernel_rfl) (ev_func _) (vsC rfl vsN) (mo_mayPlace (y)  _   ) (fun e_ w_ h_ => ⟨_, h_.1, (congrArg Value.bool (decide_eq_true d159)), h_.2⟩)) ?_
            rintro _ w178 ⟨rfl, k179⟩
            have B180 := B171.all k179 Apart.none
            have B181 := B172.all k179 Apart.none
            have B182 := B173.all k179 Apart.none
            have B183 := B174.all k179 id
            have B184 := B175.all k179 id
            have B185 := B176.all k179 id
            have K186 := K177.trans k179 (fun _ _ x => x.elim)
            refine wl_vw (.bool false) 16 false 31 rfl rfl rfl rfl rfl (y_not rfl rfl rfl ⟨rfl, rfl⟩) ?_
            refine wl_v (.bool false) rfl rfl (y_pickF rfl rfl rfl ⟨rfl, rfl⟩) ?_
            refine wl_nil fun F187 hF188 => ?_
            have s189 : F187 1 = .int .i64 (p) := (hF188 1).trans s49
            have s190 : F187 2 = .int .i64 (x) := (hF188 2).trans s50
            have s191 : F187 3 = .int .i64 (y) := (hF188 3).trans s51
            have s192 : F187 69 = undef := (hF188 69).trans s52
            have s193 : F187 5 = .pointer (some ⟨p1, 0, none⟩) := (hF188 5).trans s53
            have s194 : F187 9 = .pointer (some ⟨p14, 0, none⟩) := (hF188 9).trans s54
            have s195 : F187 10 = .pointer (some ⟨p29, 0, none⟩) := (hF188 10).trans s55
            have s196 : F187 35 = .bool false := (hF188 35).trans rfl
            clear hF188
            refine then_normal ?_
            refine wq_cond (t := false) s196 (fun e => by cases e) (fun _ => ?_)
            refine wq_skip ?_
            refine then_normal ?_
            refine wq_seq ?_
            refine wq_seq ?_
            have hpl : placeF f p x y := ⟨(checkE_iff f).1 (by first | assumption | (apply Decidable.byContradiction; assumption)), by omega, by omega, by omega, by omega, by omega, by omega⟩
            refine wq_region ?_
            refine wl_v (.agg #[.int .i64 (X), .int .i64 (Y)]) rfl rfl (y_load_stc stcT_vector rfl s194 B184 ⟨rfl, rfl⟩) ?_
            refine wl_call (R := fun v_ w_ => v_ = .int .i64 (vecE (X) (Y)) ∧ Kept (fun _ => False) w178 w_) rfl rfl (y_cs rfl rfl rfl (fun _ _ => by kernel_rfl) (ev_func _) (vsC rfl vsN) (mo_check (X) (Y)  _   ) (fun e_ w_ h_ => ⟨_, h_.1, rfl, h_.2⟩)) ?_
            rintro _ w197 ⟨rfl, k198⟩
            have B199 := B180.all k198 Apart.none
            have B200 := B181.all k198 Apart.none
            have B201 := B182.all k198 Apart.none
            have B202 := B183.all k198 id
            have B203 := B184.all k198 id
            have B204 := B185.all k198 id
            have K205 := K186.trans k198 (fun _ _ x => x.elim)
            refine wl_v (.int .i64 (vecE (X) (Y))) rfl rfl (y_asg rfl rfl ⟨rfl, rfl⟩) ?_
            refine wl_nil fun F206 hF207 => ?_
            have s208 : F206 1 = .int .i64 (p) := (hF207 1).trans s189
            have s209 : F206 2 = .int .i64 (x) := (hF207 2).trans s190
            have s210 : F206 3 = .int .i64 (y) := (hF207 3).trans s191
            have s211 : F206 69 = undef := (hF207 69).trans s192
            have s212 : F206 5 = .pointer (some ⟨p1, 0, none⟩) := (hF207 5).trans s193
            have s213 : F206 9 = .pointer (some ⟨p14, 0, none⟩) := (hF207 9).trans s194
            have s214 : F206 10 = .pointer (some ⟨p29, 0, none⟩) := (hF207 10).trans s195
            have s215 : F206 12 = .int .i64 (vecE (X) (Y)) := (hF207 12).trans rfl
            clear hF207
            refine then_normal ?_
            refine wq_seq ?_
            refine wq_region ?_
            refine wl_v (.int .i64 (vecE (X) (Y))) rfl rfl (y_mov rfl s215 ⟨rfl, rfl⟩) ?_
            refine wl_v (.bool (decide ((vecE (X) (Y)) ≠ (0)))) rfl rfl (y_neqI rfl rfl rfl rfl ⟨rfl, rfl⟩) ?_
            refine wl_nil fun F216 hF217 => ?_
            have s218 : F216 1 = .int .i64 (p) := (hF217 1).trans s208
            have s219 : F216 2 = .int .i64 (x) := (hF217 2).trans s209
            have s220 : F216 3 = .int .i64 (y) := (hF217 3).trans s210
            have s221 : F216 69 = undef := (hF217 69).trans s211
            have s222 : F216 5 = .pointer (some ⟨p1, 0, none⟩) := (hF217 5).trans s212
            have s223 : F216 9 = .pointer (some ⟨p14, 0, none⟩) := (hF217 9).trans s213
            have s224 : F216 10 = .pointer (some ⟨p29, 0, none⟩) := (hF217 10).trans s214
            have s225 : F216 12 = .int .i64 (vecE (X) (Y)) := (hF217 12).trans s215
            have s226 : F216 40 = .bool (decide ((vecE (X) (Y)) ≠ (0))) := (hF217 40).trans rfl
            clear hF217
            refine then_normal ?_
            refine wq_cond s226 (fun c227 => ?_) (fun c227 => ?_)
            · replace c227 := of_decide_eq_true c227
              refine wq_seq ?_
              have hvn : ¬ vecOk X Y := fun h => absurd ((vecE_iff X Y).2 h) (by assumption)
              refine wq_region ?_
              refine wl_v (blkV (fun _ => 0)) rfl rfl (y_buildR (cells := (arrL 16 (fun _ => 0)).toArray) rfl (by kernel_rfl) rfl ⟨rfl, rfl⟩) ?_
              refine wl_v (.int .i64 (vecE (X) (Y))) rfl rfl (y_mov rfl s225 ⟨rfl, rfl⟩) ?_
              refine wl_store_blk blkT_block rfl rfl rfl s224 rfl B204 fun w228 B229 k230 => ?_
              have B231 := B199.all k230 (fun i h x => (((ap36).symm) i h x))
              have B232 := B200.all k230 (fun i h x => (((ap37).symm) i h x))
              have B233 := B201.all k230 (fun i h x => (((ap38).symm) i h x))
              have B234 := B202.all k230 (fun x => (((ap39).symm) p1 rfl x))
              have B235 := B203.all k230 (fun x => (((ap40).symm) p14 rfl x))
              have K236 := K205.trans k230 (Grew.ok (S := fun _ => False) gr35 noB_le)
              refine wl_v (.int .i64 (vecE (X) (Y))) rfl rfl (y_asg rfl rfl ⟨rfl, rfl⟩) ?_
              refine wl_nil fun F237 hF238 => ?_
              have s239 : F237 69 = undef := (hF238 69).trans s221
              have s240 : F237 10 = .pointer (some ⟨p29, 0, none⟩) := (hF238 10).trans s224
              have s241 : F237 11 = .int .i64 (vecE (X) (Y)) := (hF238 11).trans rfl
              clear hF238
              refine then_normal ?_
              refine wq_ret ?_
              refine then_ret ?_
              exact end_2 s239 rfl (res_blk blkT_block rfl s240 B229) (res_tmp (v := .int .i64 (vecE (X) (Y))) rfl s241) ⟨(by first | rw [(mv_no hno).1, (mv_no hno).2] | rw [(mv_none hpl hvn).1, (mv_none hpl hvn).2, vecE_no hvn] | rw [(mv_yes hpl hv).1, (mv_yes hpl hv).2]), K236⟩
            · replace c227 := of_decide_eq_false c227
              refine wq_skip ?_
              refine then_normal ?_
              refine wq_seq ?_
              have hv : vecOk X Y := (vecE_iff X Y).1 (by first | assumption | (apply Decidable.byContradiction; assumption))
              obtain ⟨hv1, hv2, hv3, hv4⟩ := (show vecOk X Y from hv)
              refine wq_region ?_
              refine wl_alloc_blk rfl rfl rfl blkT_block.2.2 fun p242 w243 e246 B244 k245 => ?_
              have g247 := onB_new (Nat.le_of_eq e246.symm)
              have gr248 : Grew w0 noB (onB p242) := Grew.new K205 g247
              have ap249 : Apart (onB p242) (T_f0) := Apart.new g247 (B199).live
              have ap250 : Apart (onB p242) (T_f1) := Apart.new g247 (B200).live
              have ap251 : Apart (onB p242) (T_f2) := Apart.new g247 (B201).live
              have ap252 : Apart (onB p242) (onB p1) := Apart.new g247 (onB_live (B202).lt)
              have ap253 : Apart (onB p242) (onB p14) := Apart.new g247 (onB_live (B203).lt)
              have ap254 : Apart (onB p242) (onB p29) := Apart.new g247 (onB_live (B204).lt)
              clear e246 g247
              have B255 := B199.all k245 Apart.none
              have B256 := B200.all k245 Apart.none
              have B257 := B201.all k245 Apart.none
              have B258 := B202.all k245 id
              have B259 := B203.all k245 id
              have B260 := B204.all k245 id
              have K261 := K205.trans k245 (fun _ _ x => x.elim)
              refine wl_nil fun F262 hF263 => ?_
              have s264 : F262 1 = .int .i64 (p) := (hF263 1).trans s218
              have s265 : F262 2 = .int .i64 (x) := (hF263 2).trans s219
              have s266 : F262 3 = .int .i64 (y) := (hF263 3).trans s220
              have s267 : F262 69 = undef := (hF263 69).trans s221
              have s268 : F262 5 = .pointer (some ⟨p1, 0, none⟩) := (hF263 5).trans s222
              have s269 : F262 9 = .pointer (some ⟨p14, 0, none⟩) := (hF263 9).trans s223
              have s270 : F262 10 = .pointer (some ⟨p29, 0, none⟩) := (hF263 10).trans s224
              have s271 : F262 13 = .pointer (some ⟨p242, 0, none⟩) := (hF263 13).trans rfl
              clear hF263
              refine then_normal ?_
              refine wq_seq ?_
              refine wq_seq ?_
              refine wq_region ?_
              refine wl_v (.int .i64 (0)) rfl rfl (y_mov rfl rfl ⟨rfl, rfl⟩) ?_
              refine wl_nil fun F272 hF273 => ?_
              have s274 : F272 1 = .int .i64 (p) := (hF273 1).trans s264
              have s275 : F272 2 = .int .i64 (x) := (hF273 2).trans s265
              have s276 : F272 3 = .int .i64 (y) := (hF273 3).trans s266
              have s277 : F272 69 = undef := (hF273 69).trans s267
              have s278 : F272 5 = .pointer (some ⟨p1, 0, none⟩) := (hF273 5).trans s268
              have s279 : F272 9 = .pointer (some ⟨p14, 0, none⟩) := (hF273 9).trans s269
              have s280 : F272 10 = .pointer (some ⟨p29, 0, none⟩) := (hF273 10).trans s270
              have s281 : F272 13 = .pointer (some ⟨p242, 0, none⟩) := (hF273 13).trans s271
              have s282 : F272 43 = .int .i64 (0) := (hF273 43).trans rfl
              clear hF273
              refine then_normal ?_
              refine wq_block ?_
              refine wq_loop (fun nn FF ww => ∃ (n : Nat), (n ≤ 16) ∧ nn = 16 - n ∧ FF 1 = .int .i64 (p) ∧ FF 2 = .int .i64 (x) ∧ FF 3 = .int .i64 (y) ∧ FF 5 = .pointer (some ⟨p1, 0, none⟩) ∧ FF 9 = .pointer (some ⟨p14, 0, none⟩) ∧ FF 10 = .pointer (some ⟨p29, 0, none⟩) ∧ FF 13 = .pointer (some ⟨p242, 0, none⟩) ∧ FF 69 = undef ∧ FF 43 = .int .i64 (((n : Nat) : Int)) ∧ Kept (fun _ => False) w0 ww ∧ Byt ww (T_f0) f0 ((f).p0) ∧ Byt ww (T_f1) f1 ((f).p1) ∧ Byt ww (T_f2) f2 ((f).p2) ∧ Stc ww p1 25 [.int .i64 ((f).W), .int .i64 ((f).H), f0, f1, f2] ∧ Stc ww p14 27 [.int .i64 (X), .int .i64 (Y)] ∧ Blk ww p29 31 (fun _ => 0) ∧ Blk ww p242 31 (upto n (fun _ => 0) (mvN f p x y X Y))) (16 - (0)) ⟨0, by omega, rfl, s274, s275, s276, s278, s279, s280, s281, s277, s282, K261, B255, B256, B257, B258, B259, B260, B244.first⟩ ?_
              rintro n286 F283 w284 ⟨n, i287, hn286, s288, s289, s290, s291, s292, s293, s294, s295, s296, K285, B297, B298, B299, B300, B301, B302, B303⟩
              refine wq_seq ?_
              refine wq_region ?_
              refine wl_v (.bool (decide ((((n : Nat) : Int)) < (16)))) rfl rfl (y_lss rfl s296 rfl rfl ⟨rfl, rfl⟩) ?_
              refine wl_nil fun F304 hF305 => ?_
              have s306 : F304 1 = .int .i64 (p) := (hF305 1).trans s288
              have s307 : F304 2 = .int .i64 (x) := (hF305 2).trans s289
              have s308 : F304 3 = .int .i64 (y) := (hF305 3).trans s290
              have s309 : F304 5 = .pointer (some ⟨p1, 0, none⟩) := (hF305 5).trans s291
              have s310 : F304 9 = .pointer (some ⟨p14, 0, none⟩) := (hF305 9).trans s292
              have s311 : F304 10 = .pointer (some ⟨p29, 0, none⟩) := (hF305 10).trans s293
              have s312 : F304 13 = .pointer (some ⟨p242, 0, none⟩) := (hF305 13).trans s294
              have s313 : F304 69 = undef := (hF305 69).trans s295
              have s314 : F304 43 = .int .i64 (((n : Nat) : Int)) := (hF305 43).trans s296
              have s315 : F304 44 = .bool (decide ((((n : Nat) : Int)) < (16))) := (hF305 44).trans rfl
              clear hF305
              refine then_normal ?_
              refine wq_seq ?_
              refine wq_cond s315 (fun c316 => ?_) (fun c316 => ?_)
              · replace c316 := of_decide_eq_true c316
                refine wq_skip ?_
                refine then_normal ?_
                refine wq_seq ?_
                refine wq_block ?_
                refine wq_seq ?_
                refine wq_region ?_
                refine wl_v (.int .i64 (((n : Nat) : Int))) rfl rfl (y_mov rfl s314 ⟨rfl, rfl⟩) ?_
                refine wl_v (.int .i64 (((n : Nat) : Int))) rfl rfl (y_asg rfl rfl ⟨rfl, rfl⟩) ?_
                refine wl_nil fun F317 hF318 => ?_
                have s319 : F317 1 = .int .i64 (p) := (hF318 1).trans s306
                have s320 : F317 2 = .int .i64 (x) := (hF318 2).trans s307
                have s321 : F317 3 = .int .i64 (y) := (hF318 3).trans s308
                have s322 : F317 5 = .pointer (some ⟨p1, 0, none⟩) := (hF318 5).trans s309
                have s323 : F317 9 = .pointer (some ⟨p14, 0, none⟩) := (hF318 9).trans s310
                have s324 : F317 10 = .pointer (some ⟨p29, 0, none⟩) := (hF318 10).trans s311
                have s325 : F317 13 = .pointer (some ⟨p242, 0, none⟩) := (hF318 13).trans s312
                have s326 : F317 69 = undef := (hF318 69).trans s313
                have s327 : F317 43 = .int .i64 (((n : Nat) : Int)) := (hF318 43).trans s314
                have s328 : F317 14 = .int .i64 (((n : Nat) : Int)) := (hF318 14).trans rfl
                clear hF318
                refine then_normal ?_
                refine wq_region ?_
                refine wl_v (.int .i64 (((n : Nat) : Int))) rfl rfl (y_mov rfl s328 ⟨rfl, rfl⟩) ?_
                refine wl_v (.agg #[.int .i64 ((f).W), .int .i64 ((f).H), f0, f1, f2]) rfl rfl (y_load_stc stcT_frame rfl s322 B300 ⟨rfl, rfl⟩) ?_
                refine wl_v (.int .i64 (p)) rfl rfl (y_mov rfl s319 ⟨rfl, rfl⟩) ?_
                refine wl_v (.int .i64 (x)) rfl rfl (y_mov rfl s320 ⟨rfl, rfl⟩) ?_
                refine wl_v (.int .i64 (((n : Nat) : Int))) rfl rfl (y_mov rfl s328 ⟨rfl, rfl⟩) ?_
                refine wl_v (.int .i64 ((((n % 4) : Nat) : Int))) rfl rfl (y_rem rfl rfl rfl (by first | decide | omega) (rem_nat n 4) ⟨rfl, rfl⟩) ?_
                refine wl_v (.int .i64 ((x) + ((((n % 4) : Nat) : Int)))) rfl rfl (y_add rfl rfl rfl (i64_i rfl (by omega)) ⟨rfl, rfl⟩) ?_
                refine wl_v (.int .i64 ((2) * ((x) + ((((n % 4) : Nat) : Int))))) rfl rfl (y_mul rfl rfl rfl (i64_i rfl (by omega)) ⟨rfl, rfl⟩) ?_
                refine wl_v (.pointer (some ⟨p14, 0, none⟩)) rfl rfl (y_fieldR (n := 1) rfl s323 Try.underlying27 rfl (by kernel_rfl) (by decide) rfl ⟨rfl, rfl⟩) ?_
                refine wl_v (.int .i64 (X)) rfl rfl (y_ld_stc rfl rfl Try.underlying3 B301 rfl rfl ⟨rfl, rfl⟩) ?_
                refine wl_v (.int .i64 (((2) * ((x) + ((((n % 4) : Nat) : Int)))) + (X))) rfl rfl (y_add rfl rfl rfl (i64_i rfl (by omega)) ⟨rfl, rfl⟩) ?_
                refine wl_v (.int .i64 (y)) rfl rfl (y_mov rfl s321 ⟨rfl, rfl⟩) ?_
                refine wl_v (.int .i64 (((n : Nat) : Int))) rfl rfl (y_mov rfl s328 ⟨rfl, rfl⟩) ?_
                refine wl_v (.int .i64 ((((n / 4) : Nat) : Int))) rfl rfl (y_quo rfl rfl rfl (by first | decide | omega) (i64_n (quo_nat n 4) (by omega)) ⟨rfl, rfl⟩) ?_
                refine wl_v (.int .i64 ((y) + ((((n / 4) : Nat) : Int)))) rfl rfl (y_add rfl rfl rfl (i64_i rfl (by omega)) ⟨rfl, rfl⟩) ?_
                refine wl_v (.int .i64 ((2) * ((y) + ((((n / 4) : Nat) : Int))))) rfl rfl (y_mul rfl rfl rfl (i64_i rfl (by omega)) ⟨rfl, rfl⟩) ?_
                refine wl_v (.pointer (some ⟨p14, 1, none⟩)) rfl rfl (y_fieldR (n := 1) rfl s323 Try.underlying27 rfl (by kernel_rfl) (by decide) rfl ⟨rfl, rfl⟩) ?_
                refine wl_v (.int .i64 (Y)) rfl rfl (y_ld_stc rfl rfl Try.underlying3 B301 rfl rfl ⟨rfl, rfl⟩) ?_
                refine wl_v (.int .i64 (((2) * ((y) + ((((n / 4) : Nat) : Int)))) + (Y))) rfl rfl (y_add rfl rfl rfl (i64_i rfl (by omega)) ⟨rfl, rfl⟩) ?_
                refine wl_call (R := fun v_ w_ => v_ = .int .i64 (smpF (f) (p) (((2) * ((x) + ((((n % 4) : Nat) : Int)))) + (X)) (((2) * ((y) + ((((n / 4) : Nat) : Int)))) + (Y))) ∧ Kept (fun _ => False) w284 w_) rfl rfl (y_cs rfl rfl rfl (fun _ _ => by kernel_rfl) (ev_func _) (vsC rfl (vsC rfl (vsC rfl (vsC rfl vsN)))) (mo_sample (p) (((2) * ((x) + ((((n % 4) : Nat) : Int)))) + (X)) (((2) * ((y) + ((((n / 4) : Nat) : Int)))) + (Y)) (f) (f0) (f1) (f2) (T_f0) (T_f1) (T_f2) _  B297 B298 B299 ) (fun e_ w_ h_ => ⟨_, h_.1, rfl, h_.2⟩)) ?_
                rintro _ w329 ⟨rfl, k330⟩
                have B331 := B297.all k330 Apart.none
                have B332 := B298.all k330 Apart.none
                have B333 := B299.all k330 Apart.none
                have B334 := B300.all k330 id
                have B335 := B301.all k330 id
                have B336 := B302.all k330 id
                have B337 := B303.all k330 id
                have K338 := K285.trans k330 (fun _ _ x => x.elim)
                refine wl_v (.pointer (some ⟨p242, n, none⟩)) rfl rfl (y_atR (n) (s := 1) rfl s325 rfl (by omega) Try.underlying31 (by omega) (by kernel_rfl) (by omega) ⟨rfl, rfl⟩) ?_
                refine wl_set_blk rfl rfl rfl rfl rfl B337 (by omega) (by kernel_rfl) fun w339 B340 k341 => ?_
                have B342 := B331.all k341 (fun i h x => (((ap249).symm) i h x))
                have B343 := B332.all k341 (fun i h x => (((ap250).symm) i h x))
                have B344 := B333.all k341 (fun i h x => (((ap251).symm) i h x))
                have B345 := B334.all k341 (fun x => (((ap252).symm) p1 rfl x))
                have B346 := B335.all k341 (fun x => (((ap253).symm) p14 rfl x))
                have B347 := B336.all k341 (fun x => (((ap254).symm) p29 rfl x))
                have K348 := K338.trans k341 (Grew.ok (S := fun _ => False) gr248 noB_le)
                refine wl_nil fun F349 hF350 => ?_
                have s351 : F349 1 = .int .i64 (p) := (hF350 1).trans s319
                have s352 : F349 2 = .int .i64 (x) := (hF350 2).trans s320
                have s353 : F349 3 = .int .i64 (y) := (hF350 3).trans s321
                have s354 : F349 5 = .pointer (some ⟨p1, 0, none⟩) := (hF350 5).trans s322
                have s355 : F349 9 = .pointer (some ⟨p14, 0, none⟩) := (hF350 9).trans s323
                have s356 : F349 10 = .pointer (some ⟨p29, 0, none⟩) := (hF350 10).trans s324
                have s357 : F349 13 = .pointer (some ⟨p242, 0, none⟩) := (hF350 13).trans s325
                have s358 : F349 69 = undef := (hF350 69).trans s326
                have s359 : F349 43 = .int .i64 (((n : Nat) : Int)) := (hF350 43).trans s327
                clear hF350
                refine in_normal ?_
                refine then_normal ?_
                refine wq_region ?_
                refine wl_v (.int .i64 (((n + 1 : Nat) : Int))) rfl rfl (y_add rfl s359 rfl (i64_n (by omega) (by omega)) ⟨rfl, rfl⟩) ?_
                refine wl_v (.int .i64 (((n + 1 : Nat) : Int))) rfl rfl (y_mov rfl rfl ⟨rfl, rfl⟩) ?_
                refine wl_nil fun F360 hF361 => ?_
                have s362 : F360 1 = .int .i64 (p) := (hF361 1).trans s351
                have s363 : F360 2 = .int .i64 (x) := (hF361 2).trans s352
                have s364 : F360 3 = .int .i64 (y) := (hF361 3).trans s353
                have s365 : F360 5 = .pointer (some ⟨p1, 0, none⟩) := (hF361 5).trans s354
                have s366 : F360 9 = .pointer (some ⟨p14, 0, none⟩) := (hF361 9).trans s355
                have s367 : F360 10 = .pointer (some ⟨p29, 0, none⟩) := (hF361 10).trans s356
                have s368 : F360 13 = .pointer (some ⟨p242, 0, none⟩) := (hF361 13).trans s357
                have s369 : F360 69 = undef := (hF361 69).trans s358
                have s370 : F360 43 = .int .i64 (((n + 1 : Nat) : Int)) := (hF361 43).trans rfl
                clear hF361
                exact then_normal ⟨(16 - (n + 1)), by omega, n + 1, by omega, rfl, s362, s363, s364, s365, s366, s367, s368, s369, s370, K348, B342, B343, B344, B345, B346, B347, (B340.next rfl)⟩
              · replace c316 := of_decide_eq_false c316
                refine wq_exit ?_
                refine then_exit ?_
                refine then_exit ?_
                have l371 : 16 = n := by omega
                subst l371
                have B372 : Blk w284 p242 31 (mvN f p x y X Y) := (B303.last)
                refine in_here ?_
                refine then_normal ?_
                refine wq_seq ?_
                refine wq_region ?_
                refine wl_v (blkV (mvN f p x y X Y)) rfl rfl (y_load_blk blkT_block rfl s312 B372 ⟨rfl, rfl⟩) ?_
                refine wl_store_blk blkT_block rfl rfl rfl s311 rfl B302 fun w373 B374 k375 => ?_
                have B376 := B297.all k375 (fun i h x => (((ap36).symm) i h x))
                have B377 := B298.all k375 (fun i h x => (((ap37).symm) i h x))
                have B378 := B299.all k375 (fun i h x => (((ap38).symm) i h x))
                have B379 := B300.all k375 (fun x => (((ap39).symm) p1 rfl x))
                have B380 := B301.all k375 (fun x => (((ap40).symm) p14 rfl x))
                have B381 := B372.all k375 (fun x => ((ap254) p242 rfl x))
                have K382 := K285.trans k375 (Grew.ok (S := fun _ => False) gr35 noB_le)
                refine wl_v (.int .i64 (0)) rfl rfl (y_asg rfl rfl ⟨rfl, rfl⟩) ?_
                refine wl_nil fun F383 hF384 => ?_
                have s385 : F383 10 = .pointer (some ⟨p29, 0, none⟩) := (hF384 10).trans s311
                have s386 : F383 69 = undef := (hF384 69).trans s313
                have s387 : F383 11 = .int .i64 (0) := (hF384 11).trans rfl
                clear hF384
                refine then_normal ?_
                refine wq_ret ?_
                exact end_2 s386 rfl (res_blk blkT_block rfl s385 B374) (res_tmp (v := .int .i64 (0)) rfl s387) ⟨(by first | rw [(mv_no hno).1, (mv_no hno).2] | rw [(mv_none hpl hvn).1, (mv_none hpl hvn).2, vecE_no hvn] | rw [(mv_yes hpl hv).1, (mv_yes hpl hv).2]), K382⟩
          · skip
            refine wq_region ?_
            refine wl_v (.agg #[.int .i64 ((f).W), .int .i64 ((f).H), f0, f1, f2]) rfl rfl (y_load_stc stcT_frame rfl s53 B44 ⟨rfl, rfl⟩) ?_
            refine wl_call (R := fun v_ w_ => v_ = .int .i64 (checkE (f)) ∧ Kept (fun _ => False) w30 w_) rfl rfl (y_cs rfl rfl rfl (fun _ _ => by kernel_rfl) (ev_func _) (vsC rfl vsN) (pl_check (f) (f0) (f1) (f2) (T_f0) (T_f1) (T_f2) _  B41 B42 B43 ) (fun e_ w_ h_ => ⟨_, h_.1, rfl, h_.2⟩)) ?_
            rintro _ w388 ⟨rfl, k389⟩
            have B390 := B41.all k389 Apart.none
            have B391 := B42.all k389 Apart.none
            have B392 := B43.all k389 Apart.none
            have B393 := B44.all k389 id
            have B394 := B45.all k389 id
            have B395 := B31.all k389 id
            have K396 := K46.trans k389 (fun _ _ x => x.elim)
            refine wl_v (.bool false) rfl rfl (y_neqI rfl rfl rfl (decide_eq_false d56) ⟨rfl, rfl⟩) ?_
            refine wl_v (.bool false) rfl rfl (y_mov rfl rfl ⟨rfl, rfl⟩) ?_
            refine wl_vw (.int .i64 (p)) 3 false 18 rfl rfl rfl rfl rfl (y_mov rfl s49 ⟨rfl, rfl⟩) ?_
            refine wl_vw (.bool false) 3 false 18 rfl rfl rfl rfl rfl (y_lss rfl rfl rfl (decide_eq_false d90) ⟨rfl, rfl⟩) ?_
            refine wl_v (.bool false) rfl rfl (y_pickF rfl rfl rfl ⟨rfl, rfl⟩) ?_
            refine wl_v (.bool false) rfl rfl (y_mov rfl rfl ⟨rfl, rfl⟩) ?_
            refine wl_vw (.int .i64 (p)) 7 false 22 rfl rfl rfl rfl rfl (y_mov rfl s49 ⟨rfl, rfl⟩) ?_
            refine wl_vw (.bool false) 7 false 22 rfl rfl rfl rfl rfl (y_geq rfl rfl rfl (decide_eq_false d124) ⟨rfl, rfl⟩) ?_
            refine wl_v (.bool false) rfl rfl (y_pickF rfl rfl rfl ⟨rfl, rfl⟩) ?_
            refine wl_v (.bool false) rfl rfl (y_mov rfl rfl ⟨rfl, rfl⟩) ?_
            refine wl_vw (.int .i64 (x)) 11 false 26 rfl rfl rfl rfl rfl (y_mov rfl s50 ⟨rfl, rfl⟩) ?_
            refine wl_callw (R := fun v_ w_ => v_ = .bool true ∧ Kept (fun _ => False) w388 w_) 11 false 26 rfl rfl rfl rfl rfl (y_cs rfl rfl rfl (fun _ _ => by kernel_rfl) (ev_func _) (vsC rfl vsN) (mo_mayPlace (x)  _   ) (fun e_ w_ h_ => ⟨_, h_.1, (congrArg Value.bool (decide_eq_true d158)), h_.2⟩)) ?_
            rintro _ w397 ⟨rfl, k398⟩
            have B399 := B390.all k398 Apart.none
            have B400 := B391.all k398 Apart.none
            have B401 := B392.all k398 Apart.none
            have B402 := B393.all k398 id
            have B403 := B394.all k398 id
            have B404 := B395.all k398 id
            have K405 := K396.trans k398 (fun _ _ x => x.elim)
            refine wl_vw (.bool false) 11 false 26 rfl rfl rfl rfl rfl (y_not rfl rfl rfl ⟨rfl, rfl⟩) ?_
            refine wl_v (.bool false) rfl rfl (y_pickF rfl rfl rfl ⟨rfl, rfl⟩) ?_
            refine wl_v (.bool false) rfl rfl (y_mov rfl rfl ⟨rfl, rfl⟩) ?_
            refine wl_vw (.int .i64 (y)) 16 false 31 rfl rfl rfl rfl rfl (y_mov rfl s51 ⟨rfl, rfl⟩) ?_
            refine wl_callw (R := fun v_ w_ => v_ = .bool false ∧ Kept (fun _ => False) w397 w_) 16 false 31 rfl rfl rfl rfl rfl (y_cs rfl rfl rfl (fun _ _ => by kernel_rfl) (ev_func _) (vsC rfl vsN) (mo_mayPlace (y)  _   ) (fun e_ w_ h_ => ⟨_, h_.1, (congrArg Value.bool (decide_eq_false d159)), h_.2⟩)) ?_
            rintro _ w406 ⟨rfl, k407⟩
            have B408 := B399.all k407 Apart.none
            have B409 := B400.all k407 Apart.none
            have B410 := B401.all k407 Apart.none
            have B411 := B402.all k407 id
            have B412 := B403.all k407 id
            have B413 := B404.all k407 id
            have K414 := K405.trans k407 (fun _ _ x => x.elim)
            refine wl_vw (.bool true) 16 false 31 rfl rfl rfl rfl rfl (y_not rfl rfl rfl ⟨rfl, rfl⟩) ?_
            refine wl_v (.bool true) rfl rfl (y_pickF rfl rfl rfl ⟨rfl, rfl⟩) ?_
            refine wl_nil fun F415 hF416 => ?_
            have s417 : F415 1 = .int .i64 (p) := (hF416 1).trans s49
            have s418 : F415 2 = .int .i64 (x) := (hF416 2).trans s50
            have s419 : F415 3 = .int .i64 (y) := (hF416 3).trans s51
            have s420 : F415 69 = undef := (hF416 69).trans s52
            have s421 : F415 5 = .pointer (some ⟨p1, 0, none⟩) := (hF416 5).trans s53
            have s422 : F415 9 = .pointer (some ⟨p14, 0, none⟩) := (hF416 9).trans s54
            have s423 : F415 10 = .pointer (some ⟨p29, 0, none⟩) := (hF416 10).trans s55
            have s424 : F415 35 = .bool true := (hF416 35).trans rfl
            clear hF416
            refine then_normal ?_
            refine wq_cond (t := true) s424 (fun _ => ?_) (fun e => by cases e)
            refine wq_seq ?_
            have hno : ¬ placeF f p x y := by rintro ⟨h1, h2, h3, h4, h5, h6, h7⟩; first | exact absurd ((checkE_iff f).2 h1) (by assumption) | omega
            refine wq_region ?_
            refine wl_v (blkV (fun _ => 0)) rfl rfl (y_buildR (cells := (arrL 16 (fun _ => 0)).toArray) rfl (by kernel_rfl) rfl ⟨rfl, rfl⟩) ?_
            refine wl_store_blk blkT_block rfl rfl rfl s423 rfl B413 fun w425 B426 k427 => ?_
            have B428 := B408.all k427 (fun i h x => (((ap36).symm) i h x))
            have B429 := B409.all k427 (fun i h x => (((ap37).symm) i h x))
            have B430 := B410.all k427 (fun i h x => (((ap38).symm) i h x))
            have B431 := B411.all k427 (fun x => (((ap39).symm) p1 rfl x))
            have B432 := B412.all k427 (fun x => (((ap40).symm) p14 rfl x))
            have K433 := K414.trans k427 (Grew.ok (S := fun _ => False) gr35 noB_le)
            refine wl_v (.int .i64 (70)) rfl rfl (y_asg rfl rfl ⟨rfl, rfl⟩) ?_
            refine wl_nil fun F434 hF435 => ?_
            have s436 : F434 69 = undef := (hF435 69).trans s420
            have s437 : F434 10 = .pointer (some ⟨p29, 0, none⟩) := (hF435 10).trans s423
            have s438 : F434 11 = .int .i64 (70) := (hF435 11).trans rfl
            clear hF435
            refine then_normal ?_
            refine wq_ret ?_
            refine then_ret ?_
            exact end_2 s436 rfl (res_blk blkT_block rfl s437 B426) (res_tmp (v := .int .i64 (70)) rfl s438) ⟨(by first | rw [(mv_no hno).1, (mv_no hno).2] | rw [(mv_none hpl hvn).1, (mv_none hpl hvn).2, vecE_no hvn] | rw [(mv_yes hpl hv).1, (mv_yes hpl hv).2]), K433⟩
        · skip
          refine wq_region ?_
          refine wl_v (.agg #[.int .i64 ((f).W), .int .i64 ((f).H), f0, f1, f2]) rfl rfl (y_load_stc stcT_frame rfl s53 B44 ⟨rfl, rfl⟩) ?_
          refine wl_call (R := fun v_ w_ => v_ = .int .i64 (checkE (f)) ∧ Kept (fun _ => False) w30 w_) rfl rfl (y_cs rfl rfl rfl (fun _ _ => by kernel_rfl) (ev_func _) (vsC rfl vsN) (pl_check (f) (f0) (f1) (f2) (T_f0) (T_f1) (T_f2) _  B41 B42 B43 ) (fun e_ w_ h_ => ⟨_, h_.1, rfl, h_.2⟩)) ?_
          rintro _ w439 ⟨rfl, k440⟩
          have B441 := B41.all k440 Apart.none
          have B442 := B42.all k440 Apart.none
          have B443 := B43.all k440 Apart.none
          have B444 := B44.all k440 id
          have B445 := B45.all k440 id
          have B446 := B31.all k440 id
          have K447 := K46.trans k440 (fun _ _ x => x.elim)
          refine wl_v (.bool false) rfl rfl (y_neqI rfl rfl rfl (decide_eq_false d56) ⟨rfl, rfl⟩) ?_
          refine wl_v (.bool false) rfl rfl (y_mov rfl rfl ⟨rfl, rfl⟩) ?_
          refine wl_vw (.int .i64 (p)) 3 false 18 rfl rfl rfl rfl rfl (y_mov rfl s49 ⟨rfl, rfl⟩) ?_
          refine wl_vw (.bool false) 3 false 18 rfl rfl rfl rfl rfl (y_lss rfl rfl rfl (decide_eq_false d90) ⟨rfl, rfl⟩) ?_
          refine wl_v (.bool false) rfl rfl (y_pickF rfl rfl rfl ⟨rfl, rfl⟩) ?_
          refine wl_v (.bool false) rfl rfl (y_mov rfl rfl ⟨rfl, rfl⟩) ?_
          refine wl_vw (.int .i64 (p)) 7 false 22 rfl rfl rfl rfl rfl (y_mov rfl s49 ⟨rfl, rfl⟩) ?_
          refine wl_vw (.bool false) 7 false 22 rfl rfl rfl rfl rfl (y_geq rfl rfl rfl (decide_eq_false d124) ⟨rfl, rfl⟩) ?_
          refine wl_v (.bool false) rfl rfl (y_pickF rfl rfl rfl ⟨rfl, rfl⟩) ?_
          refine wl_v (.bool false) rfl rfl (y_mov rfl rfl ⟨rfl, rfl⟩) ?_
          refine wl_vw (.int .i64 (x)) 11 false 26 rfl rfl rfl rfl rfl (y_mov rfl s50 ⟨rfl, rfl⟩) ?_
          refine wl_callw (R := fun v_ w_ => v_ = .bool false ∧ Kept (fun _ => False) w439 w_) 11 false 26 rfl rfl rfl rfl rfl (y_cs rfl rfl rfl (fun _ _ => by kernel_rfl) (ev_func _) (vsC rfl vsN) (mo_mayPlace (x)  _   ) (fun e_ w_ h_ => ⟨_, h_.1, (congrArg Value.bool (decide_eq_false d158)), h_.2⟩)) ?_
          rintro _ w448 ⟨rfl, k449⟩
          have B450 := B441.all k449 Apart.none
          have B451 := B442.all k449 Apart.none
          have B452 := B443.all k449 Apart.none
          have B453 := B444.all k449 id
          have B454 := B445.all k449 id
          have B455 := B446.all k449 id
          have K456 := K447.trans k449 (fun _ _ x => x.elim)
          refine wl_vw (.bool true) 11 false 26 rfl rfl rfl rfl rfl (y_not rfl rfl rfl ⟨rfl, rfl⟩) ?_
          refine wl_v (.bool true) rfl rfl (y_pickF rfl rfl rfl ⟨rfl, rfl⟩) ?_
          refine wl_v (.bool true) rfl rfl (y_mov rfl rfl ⟨rfl, rfl⟩) ?_
          refine wl_unless 16 false 31 rfl rfl rfl (Or.inl rfl) rfl ?_
          refine wl_unless 16 false 31 rfl rfl rfl (Or.inl rfl) rfl ?_
          refine wl_unless 16 false 31 rfl rfl rfl (Or.inl rfl) rfl ?_
          refine wl_v (.bool true) rfl rfl (y_pickT rfl rfl rfl ⟨rfl, rfl⟩) ?_
          refine wl_nil fun F457 hF458 => ?_
          have s459 : F457 1 = .int .i64 (p) := (hF458 1).trans s49
          have s460 : F457 2 = .int .i64 (x) := (hF458 2).trans s50
          have s461 : F457 3 = .int .i64 (y) := (hF458 3).trans s51
          have s462 : F457 69 = undef := (hF458 69).trans s52
          have s463 : F457 5 = .pointer (some ⟨p1, 0, none⟩) := (hF458 5).trans s53
          have s464 : F457 9 = .pointer (some ⟨p14, 0, none⟩) := (hF458 9).trans s54
          have s465 : F457 10 = .pointer (some ⟨p29, 0, none⟩) := (hF458 10).trans s55
          have s466 : F457 35 = .bool true := (hF458 35).trans rfl
          clear hF458
          refine then_normal ?_
          refine wq_cond (t := true) s466 (fun _ => ?_) (fun e => by cases e)
          refine wq_seq ?_
          have hno : ¬ placeF f p x y := by rintro ⟨h1, h2, h3, h4, h5, h6, h7⟩; first | exact absurd ((checkE_iff f).2 h1) (by assumption) | omega
          refine wq_region ?_
          refine wl_v (blkV (fun _ => 0)) rfl rfl (y_buildR (cells := (arrL 16 (fun _ => 0)).toArray) rfl (by kernel_rfl) rfl ⟨rfl, rfl⟩) ?_
          refine wl_store_blk blkT_block rfl rfl rfl s465 rfl B455 fun w467 B468 k469 => ?_
          have B470 := B450.all k469 (fun i h x => (((ap36).symm) i h x))
          have B471 := B451.all k469 (fun i h x => (((ap37).symm) i h x))
          have B472 := B452.all k469 (fun i h x => (((ap38).symm) i h x))
          have B473 := B453.all k469 (fun x => (((ap39).symm) p1 rfl x))
          have B474 := B454.all k469 (fun x => (((ap40).symm) p14 rfl x))
          have K475 := K456.trans k469 (Grew.ok (S := fun _ => False) gr35 noB_le)
          refine wl_v (.int .i64 (70)) rfl rfl (y_asg rfl rfl ⟨rfl, rfl⟩) ?_
          refine wl_nil fun F476 hF477 => ?_
          have s478 : F476 69 = undef := (hF477 69).trans s462
          have s479 : F476 10 = .pointer (some ⟨p29, 0, none⟩) := (hF477 10).trans s465
          have s480 : F476 11 = .int .i64 (70) := (hF477 11).trans rfl
          clear hF477
          refine then_normal ?_
          refine wq_ret ?_
          refine then_ret ?_
          exact end_2 s478 rfl (res_blk blkT_block rfl s479 B468) (res_tmp (v := .int .i64 (70)) rfl s480) ⟨(by first | rw [(mv_no hno).1, (mv_no hno).2] | rw [(mv_none hpl hvn).1, (mv_none hpl hvn).2, vecE_no hvn] | rw [(mv_yes hpl hv).1, (mv_yes hpl hv).2]), K475⟩
set_option maxHeartbeats 4000000 in
set_option maxRecDepth 100000 in
theorem mo_beside (X Y : Int) (w0 : World) :
    Calls Try.prog 35 #[.agg #[.int .i64 (X), .int .i64 (Y)]] w0 fun e w' => ∃ (v1 : Nat) (T1 : Nat → Prop) (v2 : Nat) (T2 : Nat → Prop), e = .returned (.func (.func 52) #[] #[.pointer (some ⟨v1, 0, none⟩), .pointer (some ⟨v2, 0, none⟩)]) ∧ Kept (fun _ => False) w0 w' ∧ (Cin w' T1 v1 (c34 Y) ∧ Grew w0 noB T1) ∧ (Cin w' T2 v2 (c34 X) ∧ Grew w0 noB T2) ∧ Apart T1 T2 := by
  refine calls_wq (args := [.agg #[.int .i64 (X), .int .i64 (Y)]]) 12 Try.func35 rfl rfl (Nat.le_of_ble_eq_true rfl) ?_
  have K0 := Kept.refl (fun _ => False) w0
  refine wq_seq ?_
  refine wq_region ?_
  refine wl_box_stc (vs := [.int .i64 (X), .int .i64 (Y)]) rfl rfl rfl rfl fun p1 w2 B4 g5 k3 => ?_
  have gr6 : Grew w0 noB (onB p1) := Grew.new K0 g5
  have K7 := K0.trans k3 (fun _ _ x => x.elim)
  refine wl_v (Value.nilFunc) rfl rfl (y_asg rfl rfl ⟨rfl, rfl⟩) ?_
  refine wl_nil fun F8 hF9 => ?_
  have s10 : F8 12 = undef := (hF9 12).trans rfl
  have s11 : F8 1 = .pointer (some ⟨p1, 0, none⟩) := (hF9 1).trans rfl
  clear hF9
  refine then_normal ?_
  refine wq_seq ?_
  refine wq_cells (S := fun _ => False) [some 5, some 6, some 7, some 8, some 9, some 10, some 3, some 4, none, none] [Pc.eq (.pointer (some ⟨p1, 0, none⟩)), Pc.eq (.int .i64 (X)), Pc.eq (.int .i64 (c34 (X))), Pc.eq (.pointer (some ⟨p1, 1, none⟩)), Pc.eq (.int .i64 (Y)), Pc.eq (.int .i64 (c34 (Y))), Pc.blk 3 [.int .i64 (0)] 8 [.int .i64 (c34 (X))], Pc.blk 3 [.int .i64 (0)] 9 [.int .i64 (c34 (Y))], Pc.turn 6, Pc.turn 7] (by kernel_rfl) (by kernel_rfl) (by kernel_rfl) rfl trivial ?_ ?_
  · refine stepsFC_cons ?_ ?_
    · refine StepFC.one rfl fun F_ w_ hR hout hD => ?_
      exact (y_fieldR (n := 1) rfl ((hout 1 rfl (by decide)).trans s11) Try.underlying27 rfl (by kernel_rfl) (by decide) rfl ⟨rfl, Kept.refl _ _⟩)
    refine stepsFC_cons ?_ ?_
    · refine StepFC.one rfl fun F_ w_ hR hout hD => ?_
      have g5 : F_ 5 = .pointer (some ⟨p1, 0, none⟩) := hD.get 0 rfl rfl rfl
      exact (y_ld_stc rfl g5 Try.underlying3 (B4.all hR id) rfl rfl ⟨rfl, Kept.refl _ _⟩)
    refine stepsFC_cons ?_ ?_
    · refine StepFC.one rfl fun F_ w_ hR hout hD => ?_
      have g6 : F_ 6 = .int .i64 (X) := hD.get 0 rfl rfl rfl
      exact (y_cs rfl rfl rfl (fun _ _ => by kernel_rfl) (ev_func _) (vsC g6 vsN) (mo_within (X)  _   ) (fun e_ w_ h_ => ⟨_, h_.1, rfl, h_.2⟩))
    refine stepsFC_cons ?_ ?_
    · refine StepFC.one rfl fun F_ w_ hR hout hD => ?_
      exact (y_fieldR (n := 1) rfl ((hout 1 rfl (by decide)).trans s11) Try.underlying27 rfl (by kernel_rfl) (by decide) rfl ⟨rfl, Kept.refl _ _⟩)
    refine stepsFC_cons ?_ ?_
    · refine StepFC.one rfl fun F_ w_ hR hout hD => ?_
      have g8 : F_ 8 = .pointer (some ⟨p1, 1, none⟩) := hD.get 0 rfl rfl rfl
      exact (y_ld_stc rfl g8 Try.underlying3 (B4.all hR id) rfl rfl ⟨rfl, Kept.refl _ _⟩)
    refine stepsFC_cons ?_ ?_
    · refine StepFC.one rfl fun F_ w_ hR hout hD => ?_
      have g9 : F_ 9 = .int .i64 (Y) := hD.get 0 rfl rfl rfl
      exact (y_cs rfl rfl rfl (fun _ _ => by kernel_rfl) (ev_func _) (vsC g9 vsN) (mo_within (Y)  _   ) (fun e_ w_ h_ => ⟨_, h_.1, rfl, h_.2⟩))
    refine stepsFC_cons ?_ ?_
    · refine StepFC.one rfl fun F_ w_ hR hout hD => ?_
      exact y_alloc_cel (v := .int .i64 (0)) rfl (by kernel_rfl) rfl ⟨_, rfl, Nat.le_refl _, heap_alloc_new _ _, (Kept.refl _ _).alloc _⟩
    refine stepsFC_cons ?_ ?_
    · refine StepFC.one rfl fun F_ w_ hR hout hD => ?_
      exact y_alloc_cel (v := .int .i64 (0)) rfl (by kernel_rfl) rfl ⟨_, rfl, Nat.le_refl _, heap_alloc_new _ _, (Kept.refl _ _).alloc _⟩
    refine stepsFC_cons ?_ ?_
    · refine StepFC.one rfl fun F_ w_ hR hout hD => ?_
      obtain ⟨p3_, g3, n3_, h3_⟩ : ∃ q_, F_ 3 = .pointer (some ⟨q_, 0, none⟩) ∧ w2.heap.size ≤ q_ ∧ Stc w_ q_ 3 [.int .i64 (0)] := hD.get 0 rfl rfl rfl rfl
      have g7 : F_ 7 = .int .i64 (c34 (X)) := hD.get 1 rfl rfl rfl
      exact y_storeCel rfl g3 g7 h3_ (by rfl) (by kernel_rfl) fun _ w2_ b_ k_ => ⟨3, p3_, rfl, g3, fun _ _ _ e_ => (by cases e_; exact b_), k_⟩
    refine stepsFC_cons ?_ ?_
    · refine StepFC.one rfl fun F_ w_ hR hout hD => ?_
      obtain ⟨p4_, g4, n4_, h4_⟩ : ∃ q_, F_ 4 = .pointer (some ⟨q_, 0, none⟩) ∧ w2.heap.size ≤ q_ ∧ Stc w_ q_ 3 [.int .i64 (0)] := hD.get 0 rfl rfl rfl rfl
      have g10 : F_ 10 = .int .i64 (c34 (Y)) := hD.get 1 rfl rfl rfl
      exact y_storeCel rfl g4 g10 h4_ (by rfl) (by kernel_rfl) fun _ w2_ b_ k_ => ⟨4, p4_, rfl, g4, fun _ _ _ e_ => (by cases e_; exact b_), k_⟩
    exact stepsFC_nil
  intro v12 F13 w14 k15 G16 H18 hF17
  have B19 := B4.all k15 id
  have K20 := K7.trans k15 (fun _ _ x => x.elim)
  have s21 : F13 12 = undef := (hF17 12).trans s10
  obtain ⟨p24, e23, e25, B26⟩ := G16 6 (by decide)
  replace B26 : Cel w14 p24 3 (.int .i64 (c34 (X))) := B26
  have gr27 : Grew w0 noB (onB p24) := Grew.new K7 (onB_new e25)
  have ap28 : Apart (onB p24) (onB p1) := Apart.new (onB_new e25) (onB_live (B4).lt)
  have s22 : F13 3 = .pointer (some ⟨p24, 0, none⟩) := (hF17 3).trans e23
  obtain ⟨p31, e30, e32, B33⟩ := G16 7 (by decide)
  replace B33 : Cel w14 p31 3 (.int .i64 (c34 (Y))) := B33
  have gr34 : Grew w0 noB (onB p31) := Grew.new K7 (onB_new e32)
  have ap35 : Apart (onB p31) (onB p1) := Apart.new (onB_new e32) (onB_live (B4).lt)
  have ap36 := apart_of_ne (H18 6 7 (by decide) (by decide) (by decide) rfl rfl) e23 e30
  have s29 : F13 4 = .pointer (some ⟨p31, 0, none⟩) := (hF17 4).trans e30
  clear G16 hF17 H18
  refine then_normal ?_
  refine wq_seq ?_
  refine wq_region ?_
  refine wl_v (.func (.func 52) #[] #[.pointer (some ⟨p31, 0, none⟩), .pointer (some ⟨p24, 0, none⟩)]) rfl rfl (y_fnc rfl (vsC s29 (vsC s22 vsN)) ⟨rfl, rfl⟩) ?_
  refine wl_v (.func (.func 52) #[] #[.pointer (some ⟨p31, 0, none⟩), .pointer (some ⟨p24, 0, none⟩)]) rfl rfl (y_asg rfl rfl ⟨rfl, rfl⟩) ?_
  refine wl_nil fun F37 hF38 => ?_
  have s39 : F37 12 = undef := (hF38 12).trans s21
  have s40 : F37 2 = .func (.func 52) #[] #[.pointer (some ⟨p31, 0, none⟩), .pointer (some ⟨p24, 0, none⟩)] := (hF38 2).trans rfl
  clear hF38
  refine then_normal ?_
  refine wq_ret ?_
  exact end_tmp (v := .func (.func 52) #[] #[.pointer (some ⟨p31, 0, none⟩), .pointer (some ⟨p24, 0, none⟩)]) s39 rfl rfl s40 ⟨p31, (onB p31), p24, (onB p24), rfl, K20, ⟨⟨rfl, B33⟩, gr34⟩, ⟨⟨rfl, B26⟩, gr27⟩, (ap36).symm⟩

set_option maxHeartbeats 4000000 in
set_option maxRecDepth 100000 in
theorem bes_go (a c : Int) (q1 q2 : Nat) (l : Nat) (J Jx : List (Vok) → World → Prop) (T_j : Nat → Prop) (w0 : World) (ha : -34 ≤ a ∧ a ≤ 34) (hc : -34 ≤ c ∧ c ≤ 34) (h_q1 : Cel w0 q1 3 (.int .i64 (c))) (ap_q1 : Apart T_j (onB q1)) (h_q2 : Cel w0 q2 3 (.int .i64 (a))) (ap_q2 : Apart T_j (onB q2))
    (hY : ∀ (pre : List (Vok)) (x : Vok) (W1 : World), J pre W1 → pre.length < 25 → YieldAt Fence.wide 0 Try.prog l ((fun x => [.agg #[.int .i64 x.X, .int .i64 x.Y]]) x).toArray W1 fun e W' => (e = .returned (.bool true) ∧ J (pre ++ [x]) W' ∧ Kept T_j W1 W') ∨ (e = .returned (.bool false) ∧ Jx (pre ++ [x]) W')) (h_j : Jat w0 T_j J []) :
    Calls Try.prog 52 #[.func (.yield l) #[] #[], .pointer (some ⟨q1, 0, none⟩), .pointer (some ⟨q2, 0, none⟩)] w0 fun e w' => (∃ v, e = .returned v) ∧ (J (vecsTo a c 25) w' ∨ ∃ pre, Jx pre w') := by
  refine calls_wq (args := [.func (.yield l) #[] #[], .pointer (some ⟨q1, 0, none⟩), .pointer (some ⟨q2, 0, none⟩)]) 35 Try.func52 rfl rfl (Nat.le_of_ble_eq_true rfl) ?_
  have K0 := Kept.refl (T_j) w0
  refine wq_seq ?_
  refine wq_region ?_
  refine wl_v (.int .i64 (c)) rfl rfl (y_load_cel rfl rfl Try.underlying3 h_q1 rfl ⟨rfl, rfl⟩) ?_
  refine wl_v (.int .i64 ((c) - (2))) rfl rfl (y_sub rfl rfl rfl (i64_i rfl (by omega)) ⟨rfl, rfl⟩) ?_
  refine wl_v (.int .i64 ((c) - (2))) rfl rfl (y_asg rfl rfl ⟨rfl, rfl⟩) ?_
  refine wl_nil fun F1 hF2 => ?_
  have s3 : F1 0 = .func (.yield l) #[] #[] := (hF2 0).trans rfl
  have s4 : F1 1 = .pointer (some ⟨q1, 0, none⟩) := (hF2 1).trans rfl
  have s5 : F1 2 = .pointer (some ⟨q2, 0, none⟩) := (hF2 2).trans rfl
  have s6 : F1 35 = undef := (hF2 35).trans rfl
  have s7 : F1 4 = .int .i64 ((c) - (2)) := (hF2 4).trans rfl
  clear hF2
  refine then_normal ?_
  refine wq_block ?_
  refine wq_loop (fun nn FF ww => ∃ (i : Nat), (i ≤ 5) ∧ nn = 5 - i ∧ FF 0 = .func (.yield l) #[] #[] ∧ FF 1 = .pointer (some ⟨q1, 0, none⟩) ∧ FF 2 = .pointer (some ⟨q2, 0, none⟩) ∧ FF 35 = undef ∧ FF 4 = .int .i64 (c - 2 + (i : Int)) ∧ Kept (T_j) w0 ww ∧ Jat ww (T_j) J (vecsTo a c (5 * i)) ∧ Cel ww q1 3 (.int .i64 (c)) ∧ Cel ww q2 3 (.int .i64 (a))) (5 - (0)) ⟨0, by omega, rfl, s3, s4, s5, s6, (s7.trans (congrArg (Value.int .i64) (by omega))), K0, h_j, h_q1, h_q2⟩ ?_
  rintro n11 F8 w9 ⟨i, i12, hn11, s13, s14, s15, s16, s17, K10, B18, B19, B20⟩
  refine wq_seq ?_
  refine wq_seq ?_
  refine wq_region ?_
  refine wl_v (.int .i64 (c - 2 + (i : Int))) rfl rfl (y_mov rfl s17 ⟨rfl, rfl⟩) ?_
  refine wl_v (.int .i64 (c)) rfl rfl (y_load_cel rfl s14 Try.underlying3 B19 rfl ⟨rfl, rfl⟩) ?_
  refine wl_v (.int .i64 ((c) + (2))) rfl rfl (y_add rfl rfl rfl (i64_i rfl (by omega)) ⟨rfl, rfl⟩) ?_
  refine wl_v (.bool (decide ((c - 2 + (i : Int)) ≤ ((c) + (2))))) rfl rfl (y_leq rfl rfl rfl rfl ⟨rfl, rfl⟩) ?_
  refine wl_nil fun F21 hF22 => ?_
  have s23 : F21 0 = .func (.yield l) #[] #[] := (hF22 0).trans s13
  have s24 : F21 1 = .pointer (some ⟨q1, 0, none⟩) := (hF22 1).trans s14
  have s25 : F21 2 = .pointer (some ⟨q2, 0, none⟩) := (hF22 2).trans s15
  have s26 : F21 35 = undef := (hF22 35).trans s16
  have s27 : F21 4 = .int .i64 (c - 2 + (i : Int)) := (hF22 4).trans s17
  have s28 : F21 12 = .bool (decide ((c - 2 + (i : Int)) ≤ ((c) + (2)))) := (hF22 12).trans rfl
  clear hF22
  refine then_normal ?_
  refine wq_cond s28 (fun c29 => ?_) (fun c29 => ?_)
  · replace c29 := of_decide_eq_true c29
    refine wq_skip ?_
    refine then_normal ?_
    refine wq_seq ?_
    refine wq_block ?_
    refine wq_seq ?_
    refine wq_region ?_
    refine wl_v (.int .i64 (a)) rfl rfl (y_load_cel rfl s25 Try.underlying3 B20 rfl ⟨rfl, rfl⟩) ?_
    refine wl_v (.int .i64 ((a) - (2))) rfl rfl (y_sub rfl rfl rfl (i64_i rfl (by omega)) ⟨rfl, rfl⟩) ?_
    refine wl_v (.int .i64 ((a) - (2))) rfl rfl (y_asg rfl rfl ⟨rfl, rfl⟩) ?_
    refine wl_nil fun F30 hF31 => ?_
    have s32 : F30 0 = .func (.yield l) #[] #[] := (hF31 0).trans s23
    have s33 : F30 1 = .pointer (some ⟨q1, 0, none⟩) := (hF31 1).trans s24
    have s34 : F30 2 = .pointer (some ⟨q2, 0, none⟩) := (hF31 2).trans s25
    have s35 : F30 35 = undef := (hF31 35).trans s26
    have s36 : F30 4 = .int .i64 (c - 2 + (i : Int)) := (hF31 4).trans s27
    have s37 : F30 5 = .int .i64 ((a) - (2)) := (hF31 5).trans rfl
    clear hF31
    refine then_normal ?_
    refine wq_block ?_
    refine wq_loop (fun nn FF ww => ∃ (j : Nat), (j ≤ 5) ∧ nn = 5 - j ∧ FF 0 = .func (.yield l) #[] #[] ∧ FF 1 = .pointer (some ⟨q1, 0, none⟩) ∧ FF 2 = .pointer (some ⟨q2, 0, none⟩) ∧ FF 35 = undef ∧ FF 4 = .int .i64 (c - 2 + (i : Int)) ∧ FF 5 = .int .i64 (a - 2 + (j : Int)) ∧ Kept (T_j) w0 ww ∧ Jat ww (T_j) J (vecsTo a c (5 * i + j)) ∧ Cel ww q1 3 (.int .i64 (c)) ∧ Cel ww q2 3 (.int .i64 (a))) (5 - (0)) ⟨0, by omega, rfl, s32, s33, s34, s35, s36, (s37.trans (congrArg (Value.int .i64) (by omega))), K10, B18, B19, B20⟩ ?_
    rintro n41 F38 w39 ⟨j, i42, hn41, s43, s44, s45, s46, s47, s48, K40, B49, B50, B51⟩
    refine wq_seq ?_
    refine wq_seq ?_
    refine wq_region ?_
    refine wl_v (.int .i64 (a - 2 + (j : Int))) rfl rfl (y_mov rfl s48 ⟨rfl, rfl⟩) ?_
    refine wl_v (.int .i64 (a)) rfl rfl (y_load_cel rfl s45 Try.underlying3 B51 rfl ⟨rfl, rfl⟩) ?_
    refine wl_v (.int .i64 ((a) + (2))) rfl rfl (y_add rfl rfl rfl (i64_i rfl (by omega)) ⟨rfl, rfl⟩) ?_
    refine wl_v (.bool (decide ((a - 2 + (j : Int)) ≤ ((a) + (2))))) rfl rfl (y_leq rfl rfl rfl rfl ⟨rfl, rfl⟩) ?_
    refine wl_nil fun F52 hF53 => ?_
    have s54 : F52 0 = .func (.yield l) #[] #[] := (hF53 0).trans s43
    have s55 : F52 1 = .pointer (some ⟨q1, 0, none⟩) := (hF53 1).trans s44
    have s56 : F52 2 = .pointer (some ⟨q2, 0, none⟩) := (hF53 2).trans s45
    have s57 : F52 35 = undef := (hF53 35).trans s46
    have s58 : F52 4 = .int .i64 (c - 2 + (i : Int)) := (hF53 4).trans s47
    have s59 : F52 5 = .int .i64 (a - 2 + (j : Int)) := (hF53 5).trans s48
    have s60 : F52 20 = .bool (decide ((a - 2 + (j : Int)) ≤ ((a) + (2)))) := (hF53 20).trans rfl
    clear hF53
    refine then_normal ?_
    refine wq_cond s60 (fun c61 => ?_) (fun c61 => ?_)
    · replace c61 := of_decide_eq_true c61
      refine wq_skip ?_
      refine then_normal ?_
      refine wq_seq ?_
      refine wq_block ?_
      refine wq_seq ?_
      have s62 : F52 5 = .int .i64 (nx a (5 * i + j)) := s59.trans (congrArg (Value.int .i64) ((nx_in a i (by omega)).symm))
      have s63 : F52 4 = .int .i64 (ny c (5 * i + j)) := s58.trans (congrArg (Value.int .i64) ((ny_in c i (by omega)).symm))
      refine wq_region ?_
      refine wl_v (.int .i64 (nx a (5 * i + j))) rfl rfl (y_mov rfl s62 ⟨rfl, rfl⟩) ?_
      refine wl_v (.int .i64 (ny c (5 * i + j))) rfl rfl (y_mov rfl s63 ⟨rfl, rfl⟩) ?_
      refine wl_v (.agg #[.int .i64 (nx a (5 * i + j)), .int .i64 (ny c (5 * i + j))]) rfl rfl (y_buildL (l' := [(0, .int .i64 (nx a (5 * i + j))), (1, .int .i64 (ny c (5 * i + j)))]) (cells := #[.int .i64 (nx a (5 * i + j)), .int .i64 (ny c (5 * i + j))]) rfl (bpC rfl (bpC rfl bpN)) (by kernel_rfl) rfl ⟨rfl, rfl⟩) ?_
      refine wl_alloc_stc (n := 2) (vs := [.int .i64 (0), .int .i64 (0)]) rfl rfl rfl (by kernel_rfl) fun p64 w65 B67 g68 k66 => ?_
      have gr69 : Grew w0 noB (onB p64) := Grew.new K40 g68
      have gj70 : Grew w39 noB (onB p64) := Grew.new (Kept.refl (fun _ => False) w39) g68
      have ap71 : Apart (onB p64) (onB q1) := Apart.new g68 (onB_live (B50).lt)
      have ap72 : Apart (onB p64) (onB q2) := Apart.new g68 (onB_live (B51).lt)
      have K73 := (Kept.refl (fun _ => False) w39).trans k66 (fun i hi x => x.elim)
      have B74 := B50.all k66 id
      have B75 := B51.all k66 id
      have K76 := K40.trans k66 (fun _ _ x => x.elim)
      refine wl_store_stc (us := [.int .i64 (nx a (5 * i + j)), .int .i64 (ny c (5 * i + j))]) stcT_vector rfl rfl rfl rfl rfl B67 rfl (oneI rfl (oneI rfl oneN)) fun w77 B78 k79 => ?_
      have K80 := K73.trans k79 (fun i hi x => (Grew.ok (S := fun _ => False) gj70 noB_le i hi x))
      have B81 := B74.all k79 (fun x => (((ap71).symm) q1 rfl x))
      have B82 := B75.all k79 (fun x => (((ap72).symm) q2 rfl x))
      have K83 := K76.trans k79 (Grew.ok (S := T_j) gr69 noB_le)
      refine wl_nil fun F84 hF85 => ?_
      have s86 : F84 0 = .func (.yield l) #[] #[] := (hF85 0).trans s54
      have s87 : F84 1 = .pointer (some ⟨q1, 0, none⟩) := (hF85 1).trans s55
      have s88 : F84 2 = .pointer (some ⟨q2, 0, none⟩) := (hF85 2).trans s56
      have s89 : F84 35 = undef := (hF85 35).trans s57
      have s90 : F84 4 = .int .i64 (ny c (5 * i + j)) := (hF85 4).trans s63
      have s91 : F84 5 = .int .i64 (nx a (5 * i + j)) := (hF85 5).trans s62
      have s92 : F84 6 = .pointer (some ⟨p64, 0, none⟩) := (hF85 6).trans rfl
      clear hF85
      refine then_normal ?_
      refine wq_seq ?_
      have hle := vecs_le a c (5 * i + j)
      by_cases d93 : (vecE (nx a (5 * i + j)) (ny c (5 * i + j))) = (0)
      · skip
        refine wq_region_y ?_
        refine wl_v (.agg #[.int .i64 (nx a (5 * i + j)), .int .i64 (ny c (5 * i + j))]) rfl rfl (y_load_stc stcT_vector rfl s92 B78 ⟨rfl, rfl⟩) ?_
        refine wl_call (R := fun v_ w_ => v_ = .int .i64 (vecE (nx a (5 * i + j)) (ny c (5 * i + j))) ∧ Kept (fun _ => False) w77 w_) rfl rfl (y_cs rfl rfl rfl (fun _ _ => by kernel_rfl) (ev_func _) (vsC rfl vsN) (mo_check (nx a (5 * i + j)) (ny c (5 * i + j))  _   ) (fun e_ w_ h_ => ⟨_, h_.1, rfl, h_.2⟩)) ?_
        rintro _ w94 ⟨rfl, k95⟩
        have K96 := K80.trans k95 (fun i hi x => x.elim)
        have B97 := B81.all k95 id
        have B98 := B82.all k95 id
        have B99 := B78.all k95 id
        have K100 := K83.trans k95 (fun _ _ x => x.elim)
        refine wl_v (.bool true) rfl rfl (y_eqlI rfl rfl rfl (decide_eq_true d93) ⟨rfl, rfl⟩) ?_
        refine wl_v (.bool true) rfl rfl (y_mov rfl rfl ⟨rfl, rfl⟩) ?_
        refine wl_vw (.func (.yield l) #[] #[]) 3 true 29 rfl rfl rfl rfl rfl (y_mov rfl s86 ⟨rfl, rfl⟩) ?_
        refine wl_vw (.agg #[.int .i64 (nx a (5 * i + j)), .int .i64 (ny c (5 * i + j))]) 3 true 29 rfl rfl rfl rfl rfl (y_load_stc stcT_vector rfl s92 B99 ⟨rfl, rfl⟩) ?_
        have B105 := B49.all K96 Apart.none
        refine wl_yieldw 3 true 29 rfl rfl rfl rfl rfl rfl rfl rfl rfl (vsC rfl vsN) (hY (vecsTo a c (5 * i + j)) (⟨nx a (5 * i + j), ny c (5 * i + j), (vecE_iff _ _).1 (by assumption)⟩) _ B105.1 (by omega)) ?_
        rintro _ w101 (⟨rfl, j103, k102⟩ | ⟨rfl, x104⟩)
        · refine ⟨_, rfl, ?_⟩
          have B106 := B105.next k102.size j103
          have B107 := B97.all k102 (fun x => (((ap_q1).symm) q1 rfl x))
          have B108 := B98.all k102 (fun x => (((ap_q2).symm) q2 rfl x))
          have K109 := K100.trans k102 (fun _ _ x => x)
          refine wl_vw (.bool false) 3 true 29 rfl rfl rfl rfl rfl (y_not rfl rfl rfl ⟨rfl, rfl⟩) ?_
          refine wl_v (.bool false) rfl rfl (y_pickT rfl rfl rfl ⟨rfl, rfl⟩) ?_
          refine wl_nil fun F110 hF111 => ?_
          have s112 : F110 0 = .func (.yield l) #[] #[] := (hF111 0).trans s86
          have s113 : F110 1 = .pointer (some ⟨q1, 0, none⟩) := (hF111 1).trans s87
          have s114 : F110 2 = .pointer (some ⟨q2, 0, none⟩) := (hF111 2).trans s88
          have s115 : F110 35 = undef := (hF111 35).trans s89
          have s116 : F110 4 = .int .i64 (ny c (5 * i + j)) := (hF111 4).trans s90
          have s117 : F110 5 = .int .i64 (nx a (5 * i + j)) := (hF111 5).trans s91
          have s118 : F110 34 = .bool false := (hF111 34).trans rfl
          clear hF111
          refine then_normal ?_
          refine wq_cond (t := false) s118 (fun e => by cases e) (fun _ => ?_)
          refine wq_skip ?_
          refine in_normal ?_
          refine then_normal ?_
          have enx := nx_in a i (j := j) (by omega)
          refine wq_region ?_
          refine wl_v (.int .i64 (nx a (5 * i + j))) rfl rfl (y_mov rfl s117 ⟨rfl, rfl⟩) ?_
          refine wl_v (.int .i64 ((nx a (5 * i + j)) + (1))) rfl rfl (y_add rfl rfl rfl (i64_i rfl (by omega)) ⟨rfl, rfl⟩) ?_
          refine wl_v (.int .i64 ((nx a (5 * i + j)) + (1))) rfl rfl (y_asg rfl rfl ⟨rfl, rfl⟩) ?_
          refine wl_nil fun F119 hF120 => ?_
          have s121 : F119 0 = .func (.yield l) #[] #[] := (hF120 0).trans s112
          have s122 : F119 1 = .pointer (some ⟨q1, 0, none⟩) := (hF120 1).trans s113
          have s123 : F119 2 = .pointer (some ⟨q2, 0, none⟩) := (hF120 2).trans s114
          have s124 : F119 35 = undef := (hF120 35).trans s115
          have s125 : F119 4 = .int .i64 (ny c (5 * i + j)) := (hF120 4).trans s116
          have s126 : F119 5 = .int .i64 ((nx a (5 * i + j)) + (1)) := (hF120 5).trans rfl
          clear hF120
          exact then_normal ⟨(5 - (j + 1)), by omega, j + 1, by omega, rfl, s121, s122, s123, s124, (s125.trans (congrArg (Value.int .i64) (by have e := ny_in c i (j := j) (by omega); omega))), (s126.trans (congrArg (Value.int .i64) (by have e := nx_in a i (j := j) (by omega); omega))), K109, (by rw [show 5 * i + (j + 1) = 5 * i + j + 1 from rfl]; first | (rw [vecs_take ((vecE_iff _ _).1 (by assumption))]; exact B106) | (rw [vecs_skip (fun h => absurd ((vecE_iff _ _).2 h) (by assumption))]; exact B106)), B107, B108⟩
        · refine ⟨_, rfl, ?_⟩
          refine wl_vw (.bool true) 3 true 29 rfl rfl rfl rfl rfl (y_not rfl rfl rfl ⟨rfl, rfl⟩) ?_
          refine wl_v (.bool true) rfl rfl (y_pickT rfl rfl rfl ⟨rfl, rfl⟩) ?_
          refine wl_nil fun F127 hF128 => ?_
          have s129 : F127 0 = .func (.yield l) #[] #[] := (hF128 0).trans s86
          have s130 : F127 1 = .pointer (some ⟨q1, 0, none⟩) := (hF128 1).trans s87
          have s131 : F127 2 = .pointer (some ⟨q2, 0, none⟩) := (hF128 2).trans s88
          have s132 : F127 35 = undef := (hF128 35).trans s89
          have s133 : F127 4 = .int .i64 (ny c (5 * i + j)) := (hF128 4).trans s90
          have s134 : F127 5 = .int .i64 (nx a (5 * i + j)) := (hF128 5).trans s91
          have s135 : F127 34 = .bool true := (hF128 34).trans rfl
          clear hF128
          refine then_normal ?_
          refine wq_cond (t := true) s135 (fun _ => ?_) (fun e => by cases e)
          refine wq_ret ?_
          refine in_ret ?_
          refine then_ret ?_
          refine then_ret ?_
          refine in_ret ?_
          refine in_ret ?_
          refine then_ret ?_
          refine then_ret ?_
          refine in_ret ?_
          exact end_none_ret s132 rfl ⟨⟨_, rfl⟩, Or.inr ⟨_, x104⟩⟩
      · skip
        refine wq_region_y ?_
        refine wl_v (.agg #[.int .i64 (nx a (5 * i + j)), .int .i64 (ny c (5 * i + j))]) rfl rfl (y_load_stc stcT_vector rfl s92 B78 ⟨rfl, rfl⟩) ?_
        refine wl_call (R := fun v_ w_ => v_ = .int .i64 (vecE (nx a (5 * i + j)) (ny c (5 * i + j))) ∧ Kept (fun _ => False) w77 w_) rfl rfl (y_cs rfl rfl rfl (fun _ _ => by kernel_rfl) (ev_func _) (vsC rfl vsN) (mo_check (nx a (5 * i + j)) (ny c (5 * i + j))  _   ) (fun e_ w_ h_ => ⟨_, h_.1, rfl, h_.2⟩)) ?_
        rintro _ w136 ⟨rfl, k137⟩
        have K138 := K80.trans k137 (fun i hi x => x.elim)
        have B139 := B81.all k137 id
        have B140 := B82.all k137 id
        have B141 := B78.all k137 id
        have K142 := K83.trans k137 (fun _ _ x => x.elim)
        refine wl_v (.bool false) rfl rfl (y_eqlI rfl rfl rfl (decide_eq_false d93) ⟨rfl, rfl⟩) ?_
        refine wl_v (.bool false) rfl rfl (y_mov rfl rfl ⟨rfl, rfl⟩) ?_
        refine wl_unless 3 true 29 rfl rfl rfl (Or.inl rfl) rfl ?_
        refine wl_unless 3 true 29 rfl rfl rfl (Or.inl rfl) rfl ?_
        refine wl_unless 3 true 29 rfl rfl rfl (Or.inl rfl) rfl ?_
        refine wl_unless 3 true 29 rfl rfl rfl (Or.inl rfl) rfl ?_
        refine wl_v (.bool false) rfl rfl (y_pickF rfl rfl rfl ⟨rfl, rfl⟩) ?_
        refine wl_nil fun F143 hF144 => ?_
        have s145 : F143 0 = .func (.yield l) #[] #[] := (hF144 0).trans s86
        have s146 : F143 1 = .pointer (some ⟨q1, 0, none⟩) := (hF144 1).trans s87
        have s147 : F143 2 = .pointer (some ⟨q2, 0, none⟩) := (hF144 2).trans s88
        have s148 : F143 35 = undef := (hF144 35).trans s89
        have s149 : F143 4 = .int .i64 (ny c (5 * i + j)) := (hF144 4).trans s90
        have s150 : F143 5 = .int .i64 (nx a (5 * i + j)) := (hF144 5).trans s91
        have s151 : F143 34 = .bool false := (hF144 34).trans rfl
        clear hF144
        refine then_normal ?_
        refine wq_cond (t := false) s151 (fun e => by cases e) (fun _ => ?_)
        refine wq_skip ?_
        refine in_normal ?_
        refine then_normal ?_
        have enx := nx_in a i (j := j) (by omega)
        refine wq_region ?_
        refine wl_v (.int .i64 (nx a (5 * i + j))) rfl rfl (y_mov rfl s150 ⟨rfl, rfl⟩) ?_
        refine wl_v (.int .i64 ((nx a (5 * i + j)) + (1))) rfl rfl (y_add rfl rfl rfl (i64_i rfl (by omega)) ⟨rfl, rfl⟩) ?_
        refine wl_v (.int .i64 ((nx a (5 * i + j)) + (1))) rfl rfl (y_asg rfl rfl ⟨rfl, rfl⟩) ?_
        refine wl_nil fun F152 hF153 => ?_
        have s154 : F152 0 = .func (.yield l) #[] #[] := (hF153 0).trans s145
        have s155 : F152 1 = .pointer (some ⟨q1, 0, none⟩) := (hF153 1).trans s146
        have s156 : F152 2 = .pointer (some ⟨q2, 0, none⟩) := (hF153 2).trans s147
        have s157 : F152 35 = undef := (hF153 35).trans s148
        have s158 : F152 4 = .int .i64 (ny c (5 * i + j)) := (hF153 4).trans s149
        have s159 : F152 5 = .int .i64 ((nx a (5 * i + j)) + (1)) := (hF153 5).trans rfl
        clear hF153
        have B160 := B49.all K138 Apart.none
        exact then_normal ⟨(5 - (j + 1)), by omega, j + 1, by omega, rfl, s154, s155, s156, s157, (s158.trans (congrArg (Value.int .i64) (by have e := ny_in c i (j := j) (by omega); omega))), (s159.trans (congrArg (Value.int .i64) (by have e := nx_in a i (j := j) (by omega); omega))), K142, (by rw [show 5 * i + (j + 1) = 5 * i + j + 1 from rfl]; first | (rw [vecs_take ((vecE_iff _ _).1 (by assumption))]; exact B160) | (rw [vecs_skip (fun h => absurd ((vecE_iff _ _).2 h) (by assumption))]; exact B160)), B139, B140⟩
    · replace c61 := of_decide_eq_false c61
      refine wq_exit ?_
      refine then_exit ?_
      refine then_exit ?_
      have l161 : 5 = j := by omega
      subst l161
      refine in_here ?_
      refine in_normal ?_
      refine then_normal ?_
      refine wq_region ?_
      refine wl_v (.int .i64 (c - 2 + (i : Int))) rfl rfl (y_mov rfl s58 ⟨rfl, rfl⟩) ?_
      refine wl_v (.int .i64 ((c - 2 + (i : Int)) + (1))) rfl rfl (y_add rfl rfl rfl (i64_i rfl (by omega)) ⟨rfl, rfl⟩) ?_
      refine wl_v (.int .i64 ((c - 2 + (i : Int)) + (1))) rfl rfl (y_asg rfl rfl ⟨rfl, rfl⟩) ?_
      refine wl_nil fun F162 hF163 => ?_
      have s164 : F162 0 = .func (.yield l) #[] #[] := (hF163 0).trans s54
      have s165 : F162 1 = .pointer (some ⟨q1, 0, none⟩) := (hF163 1).trans s55
      have s166 : F162 2 = .pointer (some ⟨q2, 0, none⟩) := (hF163 2).trans s56
      have s167 : F162 35 = undef := (hF163 35).trans s57
      have s168 : F162 4 = .int .i64 ((c - 2 + (i : Int)) + (1)) := (hF163 4).trans rfl
      clear hF163
      exact then_normal ⟨(5 - (i + 1)), by omega, i + 1, by omega, rfl, s164, s165, s166, s167, (s168.trans (congrArg (Value.int .i64) (by omega))), K40, B49, B50, B51⟩
  · replace c29 := of_decide_eq_false c29
    refine wq_exit ?_
    refine then_exit ?_
    refine then_exit ?_
    have l169 : 5 = i := by omega
    subst l169
    refine in_here ?_
    exact end_none s26 rfl ⟨⟨_, rfl⟩, Or.inl (B18.1)⟩
theorem bes_seq (a c : Int) (q1 q2 : Nat) (w : World) (ha : -34 ≤ a ∧ a ≤ 34) (hc : -34 ≤ c ∧ c ≤ 34) (h1 : Cel w q1 3 (.int .i64 c)) (h2 : Cel w q2 3 (.int .i64 a)) :
    SeqStopsK Fence.wide 1 Try.prog 52 #[.pointer (some ⟨q1, 0, none⟩), .pointer (some ⟨q2, 0, none⟩)] (fun x : Vok => [.agg #[.int .i64 x.X, .int .i64 x.Y]].toArray) (Kept (fun i => i ≠ q1 ∧ i ≠ q2)) (fun xs => xs = vecsTo a c 25) (fun _ => True) 25 w := by
  intro l J Jx W hB hJ hJx hY h0
  have k := kept_of_below hB
  refine callsIn_wide.2 ((bes_go a c q1 q2 l J Jx (fun i => i ≠ q1 ∧ i ≠ q2) W ha hc (h1.all k id) (fun i h e => h.1 e) (h2.all k id) (fun i h e => h.2 e) hY ⟨h0, hJ⟩).mono ?_)
  rintro e w' ⟨hv, h⟩
  exact ⟨hv, h.elim (fun h => .inl ⟨_, rfl, h⟩) (fun ⟨pre, h⟩ => .inr ⟨pre, trivial, h⟩)⟩
end Go.Proofs.Ytceoidglhakanaa
