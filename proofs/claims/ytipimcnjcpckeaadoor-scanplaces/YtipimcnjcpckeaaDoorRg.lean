/- A region that draws its order, by what each operation answers wherever it is carried out: one look at each operation, whatever the order. No program in it. -/
import Derived.Test.YtipimcnjcpckeaaDoorHeap
import Derived.Orders
namespace Go.Proofs.YtipimcnjcpckeaaDoor
open Go.RowKit

/-- What an operation yields, and what it leaves. -/
def Yields (P : Program) (ρ : Operand → Value) (o : Oper) (w : World) (R : Value → World → Prop) : Prop :=
  match (execOp ρ o).run P w with
  | .ok (.value v) w' => R v w'
  | .ok .skip w' => R undef w'
  | .ok (.enter f args) w' => Calls P f args w' fun e w'' => ∃ v, e = .returned v ∧ R v w''
  | _ => False

theorem Yields.wp {P : Program} {a : Act} {o : Oper} {w : World} {K : Act → World → Prop} {Q : Exit → Act → World → Prop} (h : Yields P a.eval o w (fun v w' => K (a.put o.dst v) w')) : o.wp P a w K Q := by
  unfold Yields at h
  unfold Oper.wp
  generalize (execOp a.eval o).run P w = r at *
  cases r with
  | ok n w' =>
    cases n <;> simp only [Oper.upon] at h ⊢ <;> first
      | exact h
      | exact h.elim
      | exact Calls.mono h (fun e w'' ⟨v, he, hk⟩ => by subst he; exact hk)
  | halt x w' => exact h.elim

/-- Whether an operation is carried out. -/
def goes (D : List (Option Tmp)) (o : Oper) (a : Act) : Bool :=
  match o.guard with
  | none => true
  | some (j, want) => match D.getD j none with
    | none => false
    | some d => match a.eval (.tmp d) with
      | .bool b => b == want
      | _ => false

/-- What the operations ahead of this one have answered. -/
def Deps (D : List (Option Tmp)) (G : Nat → Value → World → Prop) (a : Act) (w : World) : List Edge → Prop
  | [] => True
  | e :: r => (Region.binds .any e = true → match D.getD e.on none with
    | some d => G e.on (a.eval (.tmp d)) w
    | none => True) ∧ Deps D G a w r

/-- What is asked of one operation. -/
def Step (P : Program) (R : World → World → Prop) (D : List (Option Tmp)) (G : Nat → Value → World → Prop) (a0 : Act) (w0 : World) (i : Nat) (o : Oper) : Prop :=
  ∀ (a : Act) (w : World), R w0 w → (∀ t, some t ∉ D → a.eval (.tmp t) = a0.eval (.tmp t)) → Deps D G a w o.after.toList →
    (goes D o a = true → Yields P a.eval o w (fun v w' => G i v w' ∧ R w w')) ∧ (goes D o a = false → G i undef w)

def Steps (P : Program) (R : World → World → Prop) (D : List (Option Tmp)) (G : Nat → Value → World → Prop) (a0 : Act) (w0 : World) : Nat → List Oper → Prop
  | _, [] => True
  | i, o :: r => Step P R D G a0 w0 i o ∧ Steps P R D G a0 w0 (i + 1) r

/-- The frame with all answers in their slots. -/
def putAll (v : Nat → Value) : Nat → List (Option Tmp) → Act → Act
  | _, [], a => a
  | i, d :: r, a => putAll v (i + 1) r (a.put d (v i))

/-- A slot has one operation, and no operation waits for a later one. -/
def plain (size : Nat) : Nat → List (Option Tmp) → List Oper → Bool
  | _, [], [] => true
  | i, d :: D, o :: r => (o.dst == d) && (match d with | none => true | some d => decide (d < size) && !D.contains (some d)) && (o.after.toList.all fun e => !Region.binds .any e || decide (e.on < i)) && plain size (i + 1) D r
  | _, _, _ => false

theorem plain_at {size : Nat} : ∀ {i : Nat} {D : List (Option Tmp)} {os : List Oper}, plain size i D os = true → D.length = os.length ∧ ∀ k o, os[k]? = some o →
    D[k]? = some o.dst ∧ (∀ d, o.dst = some d → d < size ∧ ∀ j, k < j → D[j]? ≠ some (some d)) ∧ ∀ e ∈ o.after.toList, Region.binds .any e = true → e.on < i + k := by
  intro i D os
  induction os generalizing i D with
  | nil =>
    intro h
    cases D with
    | nil => exact ⟨rfl, by simp⟩
    | cons d D => simp [plain] at h
  | cons o r ih =>
    intro h
    cases D with
    | nil => simp [plain] at h
    | cons d D =>
      simp only [plain, Bool.and_eq_true] at h
      obtain ⟨⟨⟨h1, h2⟩, h3⟩, h4⟩ := h
      have hd : o.dst = d := by simpa using h1
      obtain ⟨hl, hr⟩ := ih h4
      refine ⟨by simp [hl], fun k o' hk => ?_⟩
      cases k with
      | zero =>
        simp at hk
        subst hk
        refine ⟨by simp [hd], fun d' hd' => ?_, fun e he hb => ?_⟩
        · rw [hd'] at hd
          subst hd
          simp only [Bool.and_eq_true, decide_eq_true_eq, Bool.not_eq_true', List.contains_eq_mem, decide_eq_false_iff_not] at h2
          refine ⟨h2.1, fun j hj hD => ?_⟩
          cases j with
          | zero => omega
          | succ j => exact h2.2 (List.mem_of_getElem? (by simpa using hD))
        · have := List.all_eq_true.1 h3 e he
          simp [hb] at this; omega
      | succ k =>
        simp at hk
        obtain ⟨g1, g2, g3⟩ := hr k o' hk
        refine ⟨by simpa using g1, fun d' hd' => ⟨(g2 d' hd').1, fun j hj => ?_⟩, fun e he hb => by have := g3 e he hb; omega⟩
        cases j with
        | zero => omega
        | succ j => simpa using (g2 d' hd').2 j (by omega)

theorem Steps.at {P : Program} {R : World → World → Prop} {D : List (Option Tmp)} {G : Nat → Value → World → Prop} {a0 : Act} {w0 : World} : ∀ {i : Nat} {os : List Oper}, Steps P R D G a0 w0 i os → ∀ k o, os[k]? = some o → Step P R D G a0 w0 (i + k) o := by
  intro i os
  induction os generalizing i with
  | nil => intro _ k o h; simp at h
  | cons x r ih =>
    intro h k o hk
    cases k with
    | zero => simp at hk; subst hk; exact h.1
    | succ k =>
      simp at hk
      have := ih h.2 k o hk
      rwa [show i + 1 + k = i + (k + 1) by omega] at this

theorem Deps.mk {D : List (Option Tmp)} {G : Nat → Value → World → Prop} {a : Act} {w : World} : ∀ {es : List Edge}, (∀ e ∈ es, Region.binds .any e = true → ∀ d, D.getD e.on none = some d → G e.on (a.eval (.tmp d)) w) → Deps D G a w es := by
  intro es
  induction es with
  | nil => intro _; exact trivial
  | cons e r ih =>
    intro h
    refine ⟨fun hb => ?_, ih fun e' he' => h e' (by simp [he'])⟩
    split
    · exact h e (by simp) hb _ ‹_›
    · trivial

/-- What holds when some of the operations have been carried out. -/
structure Mid (ops : Array Oper) (R : World → World → Prop) (D : List (Option Tmp)) (G : Nat → Value → World → Prop) (a0 : Act) (w0 : World) (v : Nat → Value) (listed : Array Bool) (a : Act) (w : World) : Prop where
  size : a.tmps.size = a0.tmps.size
  ls : listed.size = ops.size
  defers : a.defers = a0.defers
  rel : R w0 w
  out : ∀ t, (∀ j, listed.getD j false = true → D[j]? ≠ some (some t)) → a.tmps.getD t undef = a0.tmps.getD t undef
  here : ∀ j d, listed.getD j false = true → D[j]? = some (some d) → a.tmps.getD d undef = v j
  good : ∀ j, listed.getD j false = true → G j (v j) w

theorem getD_set_true (l : Array Bool) (i j : Nat) (hi : i < l.size) : (l.setIfInBounds i true).getD j false = (if j = i then true else l.getD j false) := by
  by_cases h : j = i
  · subst h; simp [Array.getD, hi]
  · rw [if_neg h]
    by_cases hj : j < l.size
    · simp [Array.getD, hj, Ne.symm h]
    · simp [Array.getD, hj]

theorem getD_same (l : Array Bool) (y : Nat) (h : y < l.size) : l.getD y true = l.getD y false := by simp [Array.getD, h]

theorem mem_ready {md : Region.Mode} {ops : Array Oper} {listed : Array Bool} {i : Nat} (h : i ∈ Region.ready md ops listed) :
    i < ops.size ∧ listed.getD i true = false ∧ ∃ o, ops[i]? = some o ∧ ∀ e ∈ o.after.toList, Region.binds md e = true → listed.getD e.on false = true := by
  unfold Region.ready at h
  obtain ⟨h1, h2⟩ := List.mem_filter.1 h
  have hi : i < ops.size := by simpa using h1
  simp only [Bool.and_eq_true, Bool.not_eq_true'] at h2
  refine ⟨hi, h2.1, ops[i], by simp [hi], fun e he hb => ?_⟩
  have h3 := h2.2
  simp only [Array.getElem?_eq_getElem hi, Option.map_some, Option.getD_some] at h3
  have h4 := (Array.all_eq_true'.1 h3) e (by simpa using he)
  simpa [hb] using h4

theorem all_listed {ops : Array Oper} {listed : Array Bool} (hb : ∀ (k : Nat) (o : Oper), ops[k]? = some o → ∀ e ∈ o.after.toList, Region.binds .any e = true → e.on < k) (hr : Region.ready .any ops listed = []) (hls : listed.size = ops.size) : ∀ i, i < ops.size → listed.getD i false = true := by
  intro i
  induction i using Nat.strongRecOn with
  | _ i ih =>
    intro hi
    cases hl : listed.getD i false with
    | true => rfl
    | false =>
      have hmem : i ∈ Region.ready .any ops listed := by
        unfold Region.ready
        refine List.mem_filter.2 ⟨by simpa using hi, ?_⟩
        have hl2 : listed.getD i true = false := by
          have : i < listed.size := by omega
          simpa [Array.getD, this] using hl
        simp only [hl2, Array.getElem?_eq_getElem hi, Option.map_some, Option.getD_some, Bool.not_false, Bool.true_and]
        refine Array.all_eq_true'.2 fun e he => ?_
        cases hbe : Region.binds .any e with
        | false => rfl
        | true =>
          have hlt := hb i ops[i] (by simp [hi]) e (by simpa using he) hbe
          have := ih e.on hlt (by omega)
          simp only [this, Bool.or_true]
      rw [hr] at hmem
      cases hmem

theorem putAll_frame (v : Nat → Value) : ∀ (D : List (Option Tmp)) (i : Nat) (a : Act), (putAll v i D a).tmps.size = a.tmps.size ∧ (putAll v i D a).defers = a.defers ∧
    (∀ t, some t ∉ D → (putAll v i D a).tmps.getD t undef = a.tmps.getD t undef) ∧
    (∀ j d, D[j]? = some (some d) → (∀ k, j < k → D[k]? ≠ some (some d)) → d < a.tmps.size → (putAll v i D a).tmps.getD d undef = v (i + j)) := by
  intro D
  induction D with
  | nil => intro i a; exact ⟨rfl, rfl, fun _ _ => rfl, fun j d h => by simp at h⟩
  | cons x r ih =>
    intro i a
    obtain ⟨h1, h2, h3, h4⟩ := ih (i + 1) (a.put x (v i))
    have hs : (a.put x (v i)).tmps.size = a.tmps.size := by cases x <;> simp [Act.put]
    have hd : (a.put x (v i)).defers = a.defers := by cases x <;> rfl
    refine ⟨h1.trans hs, h2.trans hd, fun t ht => ?_, fun j d hj hlast hlt => ?_⟩
    · simp only [List.mem_cons, not_or] at ht
      rw [putAll, h3 t ht.2]
      cases x with
      | none => rfl
      | some y =>
        have hne : y ≠ t := fun e => ht.1 (by rw [e])
        simp only [Act.put, Array.getD_eq_getD_getElem?, Array.getElem?_setIfInBounds_ne hne]
    · cases j with
      | zero =>
        simp at hj
        subst hj
        have hn : some d ∉ r := by
          intro hm
          obtain ⟨k, hk⟩ := List.mem_iff_getElem?.1 hm
          exact hlast (k + 1) (by omega) (by simpa using hk)
        rw [putAll, h3 d hn]
        simp [Act.put, Array.getD_eq_getD_getElem?, hlt]
      | succ j =>
        have := h4 j d (by simpa using hj) (fun k hk => by simpa using hlast (k + 1) (by omega)) (by rw [hs]; exact hlt)
        rw [putAll, this]; congr 1; omega

theorem wpAny_each {P : Program} {ops : Array Oper} {Q : Exit → Act → World → Prop} {a0 : Act} {w0 : World} (R : World → World → Prop) (D : List (Option Tmp)) (G : Nat → Value → World → Prop)
    (hpl : plain a0.tmps.size 0 D ops.toList = true) (hrf : ∀ a, R a a) (htr : ∀ a b c, R a b → R b c → R a c) (hst : ∀ i v w w', G i v w → R w w' → G i v w') (hsteps : Steps P R D G a0 w0 0 ops.toList)
    (hend : ∀ (v : Nat → Value) (w : World), R w0 w → (∀ i, i < ops.size → G i (v i) w) → Q .normal (putAll v 0 D a0) w) :
    ∀ (fuel : Nat) (listed : Array Bool) (v : Nat → Value) (a : Act) (w : World), Mid ops R D G a0 w0 v listed a w → (fuel = 0 → Region.ready .any ops listed = []) →
      (List.range ops.size).countP (fun i => !listed.getD i false) ≤ fuel → wpAny P .any ops Q fuel listed a w := by
  obtain ⟨hDl, hpa⟩ := plain_at hpl
  have hlen : D.length = ops.size := by simpa using hDl
  have hback : ∀ (k : Nat) (o : Oper), ops[k]? = some o → ∀ e ∈ o.after.toList, Region.binds .any e = true → e.on < k := by
    intro k o hk e he hb
    have := (hpa k o (by simpa using hk)).2.2 e he hb
    omega
  have fin : ∀ (listed : Array Bool) (v : Nat → Value) (a : Act) (w : World), Mid ops R D G a0 w0 v listed a w → Region.ready .any ops listed = [] → Q .normal a w := by
    intro listed v a w hm hr
    have hall := all_listed hback hr hm.ls
    have hp := putAll_frame v D 0 a0
    have ha : a = putAll v 0 D a0 := by
      have ht : a.tmps = (putAll v 0 D a0).tmps := by
        apply Array.ext
        · rw [hm.size, hp.1]
        · intro t h1 h2
          have e : a.tmps.getD t undef = (putAll v 0 D a0).tmps.getD t undef := by
            by_cases hmem : some t ∈ D
            · obtain ⟨j, hj⟩ := List.mem_iff_getElem?.1 hmem
              have hjs : j < ops.size := by rw [← hlen]; exact (List.getElem?_eq_some_iff.1 hj).1
              obtain ⟨g1, g2, _⟩ := hpa j ops[j] (by simp [hjs])
              have hdst : ops[j].dst = some t := by rw [hj] at g1; exact (Option.some.inj g1).symm
              obtain ⟨k1, k2⟩ := g2 t hdst
              rw [hm.here j t (hall j hjs) hj, hp.2.2.2 j t hj k2 k1, Nat.zero_add]
            · rw [hp.2.2.1 t hmem, hm.out t (fun j _ hj => hmem (List.mem_of_getElem? hj))]
          simpa [Array.getD_eq_getD_getElem?, h1, h2] using e
      have hd : a.defers = (putAll v 0 D a0).defers := by rw [hm.defers, hp.2.1]
      cases a
      cases hq : putAll v 0 D a0
      rw [hq] at ht hd
      simp only at ht hd
      rw [ht, hd]
    rw [ha]
    exact hend v w hm.rel (fun i hi => hm.good i (hall i hi))
  intro fuel
  induction fuel with
  | zero =>
    intro listed v a w hm h0 _
    exact ⟨h0 rfl, fin listed v a w hm (h0 rfl)⟩
  | succ fuel ih =>
    intro listed v a w hm _ hcount
    refine ⟨fin listed v a w hm, fun i hi => ?_⟩
    obtain ⟨hlt, hnl, o, ho, haft⟩ := mem_ready hi
    have hlsz : i < listed.size := by rw [hm.ls]; exact hlt
    have hnl' : listed.getD i false = false := by simpa [Array.getD, hlsz] using hnl
    obtain ⟨g1, g2, g3⟩ := hpa i o (by simpa using ho)
    have hstep := hsteps.at i o (by simpa using ho)
    rw [Nat.zero_add] at hstep
    have hout : ∀ t, some t ∉ D → a.eval (.tmp t) = a0.eval (.tmp t) := fun t ht => hm.out t (fun j _ hj => ht (List.mem_of_getElem? hj))
    have hdeps : Deps D G a w o.after.toList := Deps.mk fun e he hb d hd => by
      have hl := haft e he hb
      have hlt' := hback i o ho e he hb
      have hDe : D[e.on]? = some (some d) := by
        have hlt2 : e.on < D.length := by rw [hlen]; omega
        simp only [List.getD, List.getElem?_eq_getElem hlt2, Option.getD_some] at hd
        rw [List.getElem?_eq_getElem hlt2, hd]
      have := hm.here e.on d hl hDe
      show G e.on (a.tmps.getD d undef) w
      rw [this]; exact hm.good e.on hl
    obtain ⟨s1, s2⟩ := hstep a w hm.rel hout hdeps
    -- what is left when it answers x in the world w'
    have next : ∀ (x : Value) (w' : World), G i x w' → R w w' → wpAny P .any ops Q fuel (listed.setIfInBounds i true) (a.put o.dst x) w' := by
      intro x w' hG hR
      have hcnt : (List.range ops.size).countP (fun j => !(listed.setIfInBounds i true).getD j false) ≤ fuel := by
        have h1 : (List.range ops.size).countP (fun j => !(listed.setIfInBounds i true).getD j false) < (List.range ops.size).countP (fun j => !listed.getD j false) := by
          have hmemi : i ∈ List.range ops.size := by simpa using hlt
          have key : ∀ (l : List Nat), i ∈ l → (∀ j, (!(listed.setIfInBounds i true).getD j false) = true → (!listed.getD j false) = true) → l.countP (fun j => !(listed.setIfInBounds i true).getD j false) < l.countP (fun j => !listed.getD j false) := by
            intro l
            induction l with
            | nil => intro h; cases h
            | cons y r ihl =>
              intro hy himp
              have hle : r.countP (fun j => !(listed.setIfInBounds i true).getD j false) ≤ r.countP (fun j => !listed.getD j false) := List.countP_mono_left fun j _ hj => himp j hj
              by_cases hyi : y = i
              · subst hyi
                have e1 : (!(listed.setIfInBounds y true).getD y false) = false := by rw [getD_set_true _ _ _ hlsz, if_pos rfl]; rfl
                have e2 : (!listed.getD y false) = true := by rw [hnl']; rfl
                rw [List.countP_cons, List.countP_cons]
                simp only [e1, e2, if_true, Bool.false_eq_true, if_false]
                omega
              · have hir : i ∈ r := by
                  rcases List.mem_cons.1 hy with h | h
                  · exact absurd h.symm hyi
                  · exact h
                have := ihl hir himp
                rw [List.countP_cons, List.countP_cons]
                have e3 : (listed.setIfInBounds i true).getD y false = listed.getD y false := by rw [getD_set_true _ _ _ hlsz, if_neg hyi]
                rw [e3]; omega
          refine key _ hmemi fun j hj => ?_
          rw [getD_set_true _ _ _ hlsz] at hj
          by_cases hji : j = i
          · rw [if_pos hji] at hj; cases hj
          · rwa [if_neg hji] at hj
        omega
      have hmid : Mid ops R D G a0 w0 (fun j => if j = i then x else v j) (listed.setIfInBounds i true) (a.put o.dst x) w' := by
        refine ⟨?_, by simpa using hm.ls, ?_, htr _ _ _ hm.rel hR, ?_, ?_, ?_⟩
        · rw [← hm.size]; cases o.dst <;> simp [Act.put]
        · rw [← hm.defers]; cases o.dst <;> rfl
        · intro t ht
          have hold := hm.out t (fun j hj => ht j (by rw [getD_set_true _ _ _ hlsz]; split <;> first | rfl | exact hj))
          have hne : o.dst ≠ some t := by
            intro e
            exact ht i (by rw [getD_set_true _ _ _ hlsz, if_pos rfl]) (by rw [g1, e])
          rw [← hold]
          cases hd : o.dst with
          | none => rfl
          | some d =>
            have : d ≠ t := fun e => hne (by rw [hd, e])
            simp only [Act.put, Array.getD_eq_getD_getElem?, Array.getElem?_setIfInBounds_ne this]
        · intro j d hj hD
          by_cases hji : j = i
          · subst hji
            have hd : o.dst = some d := by rw [g1] at hD; exact Option.some.inj hD
            have hsz : d < a.tmps.size := by rw [hm.size]; exact (g2 d hd).1
            simp [hd, Act.put, Array.getD_eq_getD_getElem?, hsz]
          · rw [getD_set_true _ _ _ hlsz, if_neg hji] at hj
            have hold := hm.here j d hj hD
            rw [if_neg hji, ← hold]
            cases hd : o.dst with
            | none => rfl
            | some y =>
              have hne : y ≠ d := by
                rintro rfl
                rw [hd] at g1
                rcases Nat.lt_or_gt_of_ne hji with hlt2 | hgt2
                · have hjs : j < ops.size := by rw [← hlen]; exact (List.getElem?_eq_some_iff.1 hD).1
                  obtain ⟨k1, k2, _⟩ := hpa j ops[j] (by simp [hjs])
                  have hdst : ops[j].dst = some y := by rw [hD] at k1; exact (Option.some.inj k1).symm
                  exact (k2 y hdst).2 i hlt2 g1
                · exact (g2 y hd).2 j hgt2 hD
              simp only [Act.put, Array.getD_eq_getD_getElem?, Array.getElem?_setIfInBounds_ne hne]
        · intro j hj
          by_cases hji : j = i
          · subst hji; simpa using hG
          · rw [getD_set_true _ _ _ hlsz, if_neg hji] at hj
            simp only [if_neg hji]
            exact hst _ _ _ _ (hm.good j hj) hR
      refine ih _ _ _ _ hmid ?_ hcnt
      intro hz
      subst hz
      have hz0 : (List.range ops.size).countP (fun j => !(listed.setIfInBounds i true).getD j false) = 0 := by omega
      rw [List.countP_eq_zero] at hz0
      cases hr : Region.ready .any ops (listed.setIfInBounds i true) with
      | nil => rfl
      | cons y r =>
        have hy : y ∈ Region.ready .any ops (listed.setIfInBounds i true) := by rw [hr]; simp
        obtain ⟨q1, q2, _⟩ := mem_ready hy
        have := hz0 y (by simpa using q1)
        have hys : y < (listed.setIfInBounds i true).size := by simp [hm.ls]; exact q1
        have q3 : (listed.setIfInBounds i true).getD y false = false := by rw [← getD_same _ y hys]; exact q2
        rw [q3] at this
        exact absurd rfl this
    have hwant : Region.wanted o (yielded ops a.tmps) = goes D o a := by
      unfold Region.wanted goes
      cases hg : o.guard with
      | none => rfl
      | some p =>
        obtain ⟨j, want⟩ := p
        simp only [yielded]
        by_cases hj : j < ops.size
        · obtain ⟨k1, k2, _⟩ := hpa j ops[j] (by simp [hj])
          have hDj : D.getD j none = ops[j].dst := by simp [List.getD, k1]
          rw [hDj]
          simp only [Array.getElem?_eq_getElem hj, Option.bind_some]
          cases hd : ops[j].dst with
          | none => simp
          | some d =>
            have hsz : d < a.tmps.size := by rw [hm.size]; exact (k2 d hd).1
            simp only [Option.bind_some, Array.getElem?_eq_getElem hsz]
            have he : a.eval (.tmp d) = a.tmps[d] := by simp [Act.eval, Array.getD, hsz]
            rw [he]
            cases a.tmps[d] <;> simp
        · have hDj : D.getD j none = none := by simp [List.getD, List.getElem?_eq_none (show D.length ≤ j by omega)]
          rw [hDj]
          simp [Array.getElem?_eq_none (show ops.size ≤ j by omega)]
    unfold wpOp
    rw [ho]
    simp only [hwant]
    cases hgo : goes D o a with
    | true =>
      simp only [if_true]
      refine .inl (Yields.wp ?_)
      have := s1 hgo
      revert this
      unfold Yields
      generalize (execOp a.eval o).run P w = res
      intro h
      cases res with
      | ok n w' =>
        cases n <;> simp only at h ⊢ <;> first
          | exact next _ _ h.1 h.2
          | exact h.elim
          | exact Calls.mono h (fun e w'' ⟨y, he, hk⟩ => ⟨y, he, next _ _ hk.1 hk.2⟩)
      | halt y w' => exact h.elim
    | false =>
      simp only [Bool.false_eq_true, if_false]
      exact next undef w (s2 hgo) (hrf w)

/-- A region that draws its order: each operation looked at once. -/
theorem wp_region_each {P : Program} {id : Nat} {ops : Array Oper} {Q : Exit → Act → World → Prop} {a0 : Act} {w0 : World} (R : World → World → Prop) (D : List (Option Tmp)) (G : Nat → Value → World → Prop)
    (hm : P.follows .mixedOrders = true) (hpl : plain a0.tmps.size 0 D ops.toList = true) (hrf : ∀ a, R a a) (htr : ∀ a b c, R a b → R b c → R a c) (hdr : R w0 w0.drew) (hst : ∀ i v w w', G i v w → R w w' → G i v w')
    (hsteps : Steps P R D G a0 w0 0 ops.toList)
    (hend : ∀ (v : Nat → Value) (w : World), R w0 w → (∀ i, i < ops.size → G i (v i) w) → Q .normal (putAll v 0 D a0) w) : (Code.region id ops true).wp P Q a0 w0 := by
  refine wp_region_any hm ?_
  have hno : ∀ j, (Array.replicate ops.size false).getD j false = false := by
    intro j
    by_cases h : j < ops.size <;> simp [Array.getD, h]
  refine wpAny_each R D G hpl hrf htr hst hsteps hend ops.size _ (fun _ => undef) a0 _ ⟨rfl, by simp, rfl, hdr, fun _ _ => rfl, fun j _ hj => ?_, fun j hj => ?_⟩ ?_ ?_
  · rw [hno] at hj; cases hj
  · rw [hno] at hj; cases hj
  · intro h0
    cases hr : Region.ready .any ops (Array.replicate ops.size false) with
    | nil => rfl
    | cons y r =>
      have hy : y ∈ Region.ready .any ops (Array.replicate ops.size false) := by rw [hr]; simp
      have := (mem_ready hy).1
      omega
  · exact Nat.le_trans (List.countP_le_length) (by simp)

theorem Deps.get {D : List (Option Tmp)} {G : Nat → Value → World → Prop} {a : Act} {w : World} : ∀ {es : List Edge} (k : Nat) {e : Edge} {d : Tmp}, Deps D G a w es → es[k]? = some e → Region.binds .any e = true → D.getD e.on none = some d → G e.on (a.eval (.tmp d)) w := by
  intro es
  induction es with
  | nil => intro k e d _ h; simp at h
  | cons x r ih =>
    intro k e d h hk hb hd
    cases k with
    | zero =>
      simp at hk
      subst hk
      have := h.1 hb
      rw [hd] at this
      exact this
    | succ k => exact ih k h.2 (by simpa using hk) hb hd

/-- What is said of a value, and stays so where nothing that is there turns. -/
structure Pd where
  says : Value → World → Prop
  stays : ∀ v w w', says v w → Kept (fun _ => False) w w' → says v w'

def Pd.any : Pd := ⟨fun _ _ => True, fun _ _ _ _ _ => trivial⟩
def Pd.eq (c : Value) : Pd := ⟨fun v _ => v = c, fun _ _ _ h _ => h⟩

/-- What is said of the operations' answers. -/
def Said (Gs : List Pd) (i : Nat) (v : Value) (w : World) : Prop := (Gs.getD i Pd.any).says v w

theorem Step.one {P : Program} {D : List (Option Tmp)} {Gs : List Pd} {a0 : Act} {w0 : World} {i : Nat} {o : Oper} (hg : o.guard = none)
    (h : ∀ (a : Act) (w : World), Kept (fun _ => False) w0 w → (∀ t, some t ∉ D → a.eval (.tmp t) = a0.eval (.tmp t)) → Deps D (Said Gs) a w o.after.toList → Yields P a.eval o w (fun v w' => Said Gs i v w' ∧ Kept (fun _ => False) w w')) :
    Step P (Kept (fun _ => False)) D (Said Gs) a0 w0 i o := by
  intro a w hR hout hD
  refine ⟨fun _ => h a w hR hout hD, fun hgo => ?_⟩
  unfold goes at hgo
  rw [hg] at hgo
  cases hgo

theorem Step.when {P : Program} {D : List (Option Tmp)} {Gs : List Pd} {a0 : Act} {w0 : World} {i : Nat} {o : Oper} (j : Nat) (want : Bool) (d : Tmp) (hg : o.guard = some (j, want)) (hd : D.getD j none = some d)
    (h : ∀ (a : Act) (w : World), Kept (fun _ => False) w0 w → (∀ t, some t ∉ D → a.eval (.tmp t) = a0.eval (.tmp t)) → Deps D (Said Gs) a w o.after.toList → a.eval (.tmp d) = .bool want ∧ Yields P a.eval o w (fun v w' => Said Gs i v w' ∧ Kept (fun _ => False) w w')) :
    Step P (Kept (fun _ => False)) D (Said Gs) a0 w0 i o := by
  intro a w hR hout hD
  obtain ⟨h1, h2⟩ := h a w hR hout hD
  refine ⟨fun _ => h2, fun hgo => ?_⟩
  unfold goes at hgo
  rw [hg] at hgo
  simp only [hd, h1] at hgo
  simp at hgo

/-- An operation that is not carried out. -/
theorem Step.unless {P : Program} {D : List (Option Tmp)} {Gs : List Pd} {a0 : Act} {w0 : World} {i : Nat} {o : Oper} (j : Nat) (want : Bool) (d : Tmp) (hg : o.guard = some (j, want)) (hd : D.getD j none = some d)
    (h : ∀ (a : Act) (w : World), Kept (fun _ => False) w0 w → (∀ t, some t ∉ D → a.eval (.tmp t) = a0.eval (.tmp t)) → Deps D (Said Gs) a w o.after.toList → (a.eval (.tmp d) = .bool (!want) ∨ a.eval (.tmp d) = undef) ∧ Said Gs i undef w) :
    Step P (Kept (fun _ => False)) D (Said Gs) a0 w0 i o := by
  intro a w hR hout hD
  obtain ⟨h1, h2⟩ := h a w hR hout hD
  refine ⟨fun hgo => ?_, fun _ => h2⟩
  unfold goes at hgo
  rw [hg] at hgo
  rcases h1 with h1 | h1
  · simp only [hd, h1] at hgo
    cases want <;> simp at hgo
  · simp only [hd, h1] at hgo
    simp [undef] at hgo

theorem wp_region_said {P : Program} {id : Nat} {ops : Array Oper} {Q : Exit → Act → World → Prop} {a0 : Act} {w0 : World} (D : List (Option Tmp)) (Gs : List Pd)
    (hm : P.follows .mixedOrders = true) (hpl : plain a0.tmps.size 0 D ops.toList = true)
    (hsteps : Steps P (Kept (fun _ => False)) D (Said Gs) a0 w0 0 ops.toList)
    (hend : ∀ (v : Nat → Value) (w : World), Kept (fun _ => False) w0 w → (∀ i, i < ops.size → Said Gs i (v i) w) → Q .normal (putAll v 0 D a0) w) : (Code.region id ops true).wp P Q a0 w0 :=
  wp_region_each (Kept (fun _ => False)) D (Said Gs) hm hpl (fun a => Kept.refl _ a) (fun _ _ _ h k => h.trans k (fun _ _ x => x)) (Kept.refl _ _).drew (fun i _ _ _ h k => (Gs.getD i Pd.any).stays _ _ _ h k) hsteps hend

theorem steps_nil {P : Program} {R : World → World → Prop} {D : List (Option Tmp)} {G : Nat → Value → World → Prop} {a0 : Act} {w0 : World} {i : Nat} : Steps P R D G a0 w0 i [] := trivial
theorem steps_cons {P : Program} {R : World → World → Prop} {D : List (Option Tmp)} {G : Nat → Value → World → Prop} {a0 : Act} {w0 : World} {i : Nat} {o : Oper} {r : List Oper} (h : Step P R D G a0 w0 i o) (k : Steps P R D G a0 w0 (i + 1) r) : Steps P R D G a0 w0 i (o :: r) := ⟨h, k⟩
end Go.Proofs.YtipimcnjcpckeaaDoor
