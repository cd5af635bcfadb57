/- What VectorMedians reaches of my texts, part 2. -/
import Derived.Test.YthhagejcgobfgaaVectorMediansA
namespace Go.Proofs.Ythhagejcgobfgaa
open Go.RowKit

/-- One more operation is listed. -/
def upL (L : Nat → Bool) (i : Nat) : Nat → Bool := fun j => if j = i then true else L j
/-- One more answer. -/
def upV (v : Nat → Value) (i : Nat) (x : Value) : Nat → Value := fun j => if j = i then x else v j

/-- Whether each operation that writes a slot waits for operation i. -/
def late (os : List Oper) (t : Tmp) (i : Nat) : Bool := os.all fun o => o.dst != some t || o.after.toList.any fun e => Region.binds .any e && e.on == i

/-- What is asked of one operation. -/
def StepJ (os : List Oper) (P : Program) (D : List (Option Tmp)) (J : (Nat → Bool) → (Nat → Value) → World → Prop) (a0 : Act) (i : Nat) (o : Oper) : Prop :=
  ∀ (L : Nat → Bool) (v : Nat → Value) (a : Act) (w : World), J L v w → L i = false → (∀ e ∈ o.after.toList, Region.binds .any e = true → L e.on = true) →
    (∀ t, some t ∉ D → a.eval (.tmp t) = a0.eval (.tmp t)) → (∀ j d, L j = true → D[j]? = some (some d) → a.eval (.tmp d) = v j) → (∀ t, late os t i = true → a.eval (.tmp t) = a0.eval (.tmp t)) →
    (goes D o a = true → Yields P a.eval o w (fun x w' => J (upL L i) (upV v i x) w')) ∧ (goes D o a = false → J (upL L i) (upV v i undef) w)

def StepsJ (os : List Oper) (P : Program) (D : List (Option Tmp)) (J : (Nat → Bool) → (Nat → Value) → World → Prop) (a0 : Act) : Nat → List Oper → Prop
  | _, [] => True
  | i, o :: r => StepJ os P D J a0 i o ∧ StepsJ os P D J a0 (i + 1) r

theorem StepsJ.at {all : List Oper} {P : Program} {D : List (Option Tmp)} {J : (Nat → Bool) → (Nat → Value) → World → Prop} {a0 : Act} : ∀ {i : Nat} {os : List Oper}, StepsJ all P D J a0 i os → ∀ k o, os[k]? = some o → StepJ all P D J a0 (i + k) o := by
  intro i os
  induction os generalizing i with
  | nil => intro _ k o h; simp at h
  | cons x r ih =>
    intro h k o hk
    cases k with
    | zero => simp at hk; subst hk; exact h.1
    | succ k =>
      simp at hk
      have := ih h.2 k o hk
      rwa [show i + 1 + k = i + (k + 1) by omega] at this

structure MidJ (ops : Array Oper) (D : List (Option Tmp)) (J : (Nat → Bool) → (Nat → Value) → World → Prop) (a0 : Act) (v : Nat → Value) (listed : Array Bool) (a : Act) (w : World) : Prop where
  size : a.tmps.size = a0.tmps.size
  ls : listed.size = ops.size
  defers : a.defers = a0.defers
  out : ∀ t, (∀ j, listed.getD j false = true → D[j]? ≠ some (some t)) → a.tmps.getD t undef = a0.tmps.getD t undef
  here : ∀ j d, listed.getD j false = true → D[j]? = some (some d) → a.tmps.getD d undef = v j
  good : J (fun j => listed.getD j false) v w
  cl : ∀ (k : Nat) (o : Oper), ops[k]? = some o → listed.getD k false = true → ∀ e ∈ o.after.toList, Region.binds .any e = true → listed.getD e.on false = true

theorem wpAny_inv {P : Program} {ops : Array Oper} {Q : Exit → Act → World → Prop} {a0 : Act} (D : List (Option Tmp)) (J : (Nat → Bool) → (Nat → Value) → World → Prop)
    (hpl : plain a0.tmps.size 0 D ops.toList = true) (hsteps : StepsJ ops.toList P D J a0 0 ops.toList)
    (hend : ∀ (L : Nat → Bool) (v : Nat → Value) (w : World), J L v w → (∀ i, i < ops.size → L i = true) → Q .normal (putAll v 0 D a0) w) :
    ∀ (fuel : Nat) (listed : Array Bool) (v : Nat → Value) (a : Act) (w : World), MidJ ops D J a0 v listed a w → (fuel = 0 → Region.ready .any ops listed = []) →
      (List.range ops.size).countP (fun i => !listed.getD i false) ≤ fuel → wpAny P .any ops Q fuel listed a w := by
  obtain ⟨hDl, hpa⟩ := plain_at hpl
  have hlen : D.length = ops.size := by simpa using hDl
  have hback : ∀ (k : Nat) (o : Oper), ops[k]? = some o → ∀ e ∈ o.after.toList, Region.binds .any e = true → e.on < k := by
    intro k o hk e he hb
    have := (hpa k o (by simpa using hk)).2.2 e he hb
    omega
  have fin : ∀ (listed : Array Bool) (v : Nat → Value) (a : Act) (w : World), MidJ ops D J a0 v listed a w → Region.ready .any ops listed = [] → Q .normal a w := by
    intro listed v a w hm hr
    have hall := all_listed hback hr hm.ls
    have hp := putAll_frame v D 0 a0
    have ha : a = putAll v 0 D a0 := by
      have ht : a.tmps = (putAll v 0 D a0).tmps := by
        apply Array.ext
        · rw [hm.size, hp.1]
        · intro t h1 h2
          have e : a.tmps.getD t undef = (putAll v 0 D a0).tmps.getD t undef := by
            by_cases hmem : some t ∈ D
            · obtain ⟨j, hj⟩ := List.mem_iff_getElem?.1 hmem
              have hjs : j < ops.size := by rw [← hlen]; exact (List.getElem?_eq_some_iff.1 hj).1
              obtain ⟨g1, g2, _⟩ := hpa j ops[j] (by simp [hjs])
              have hdst : ops[j].dst = some t := by rw [hj] at g1; exact (Option.some.inj g1).symm
              obtain ⟨k1, k2⟩ := g2 t hdst
              rw [hm.here j t (hall j hjs) hj, hp.2.2.2 j t hj k2 k1, Nat.zero_add]
            · rw [hp.2.2.1 t hmem, hm.out t (fun j _ hj => hmem (List.mem_of_getElem? hj))]
          simpa [Array.getD_eq_getD_getElem?, h1, h2] using e
      have hd : a.defers = (putAll v 0 D a0).defers := by rw [hm.defers, hp.2.1]
      cases a
      cases hq : putAll v 0 D a0
      rw [hq] at ht hd
      simp only at ht hd
      rw [ht, hd]
    rw [ha]
    exact hend _ v w hm.good hall
  intro fuel
  induction fuel with
  | zero =>
    intro listed v a w hm h0 _
    exact ⟨h0 rfl, fin listed v a w hm (h0 rfl)⟩
  | succ fuel ih =>
    intro listed v a w hm _ hcount
    refine ⟨fin listed v a w hm, fun i hi => ?_⟩
    obtain ⟨hlt, hnl, o, ho, haft⟩ := mem_ready hi
    have hlsz : i < listed.size := by rw [hm.ls]; exact hlt
    have hnl' : listed.getD i false = false := by simpa [Array.getD, hlsz] using hnl
    obtain ⟨g1, g2, g3⟩ := hpa i o (by simpa using ho)
    have hstep := hsteps.at i o (by simpa using ho)
    rw [Nat.zero_add] at hstep
    have hout : ∀ t, some t ∉ D → a.eval (.tmp t) = a0.eval (.tmp t) := fun t ht => hm.out t (fun j _ hj => ht (List.mem_of_getElem? hj))
    have hlate : ∀ t, late ops.toList t i = true → a.eval (.tmp t) = a0.eval (.tmp t) := by
      intro t ht
      refine hm.out t fun j hj hD => ?_
      have hjs : j < ops.size := by rw [← hlen]; exact (List.getElem?_eq_some_iff.1 hD).1
      obtain ⟨k1, _, _⟩ := hpa j ops[j] (by simp [hjs])
      have hdst : ops[j].dst = some t := by rw [hD] at k1; exact (Option.some.inj k1).symm
      unfold late at ht
      have h1 := List.all_eq_true.1 ht ops[j] (by simp)
      simp only [hdst, bne_self_eq_false, Bool.false_or] at h1
      obtain ⟨e, he, hb⟩ := List.any_eq_true.1 h1
      simp only [Bool.and_eq_true, beq_iff_eq] at hb
      have h2 := hm.cl j ops[j] (by simp [hjs]) hj e he hb.1
      rw [hb.2, hnl'] at h2
      cases h2
    obtain ⟨s1, s2⟩ := hstep (fun j => listed.getD j false) v a w hm.good hnl' haft hout (fun j d hj hD => hm.here j d hj hD) hlate
    -- what is left when it answers x in the world w'
    have next : ∀ (x : Value) (w' : World), J (upL (fun j => listed.getD j false) i) (upV v i x) w' → wpAny P .any ops Q fuel (listed.setIfInBounds i true) (a.put o.dst x) w' := by
      intro x w' hJ
      have hcnt : (List.range ops.size).countP (fun j => !(listed.setIfInBounds i true).getD j false) ≤ fuel := by
        have h1 : (List.range ops.size).countP (fun j => !(listed.setIfInBounds i true).getD j false) < (List.range ops.size).countP (fun j => !listed.getD j false) := by
          have hmemi : i ∈ List.range ops.size := by simpa using hlt
          have key : ∀ (l : List Nat), i ∈ l → (∀ j, (!(listed.setIfInBounds i true).getD j false) = true → (!listed.getD j false) = true) → l.countP (fun j => !(listed.setIfInBounds i true).getD j false) < l.countP (fun j => !listed.getD j false) := by
            intro l
            induction l with
            | nil => intro h; cases h
            | cons y r ihl =>
              intro hy himp
              have hle : r.countP (fun j => !(listed.setIfInBounds i true).getD j false) ≤ r.countP (fun j => !listed.getD j false) := List.countP_mono_left fun j _ hj => himp j hj
              by_cases hyi : y = i
              · subst hyi
                have e1 : (!(listed.setIfInBounds y true).getD y false) = false := by rw [getD_set_true _ _ _ hlsz, if_pos rfl]; rfl
                have e2 : (!listed.getD y false) = true := by rw [hnl']; rfl
                rw [List.countP_cons, List.countP_cons]
                simp only [e1, e2, if_true, Bool.false_eq_true, if_false]
                omega
              · have hir : i ∈ r := by
                  rcases List.mem_cons.1 hy with h | h
                  · exact absurd h.symm hyi
                  · exact h
                have := ihl hir himp
                rw [List.countP_cons, List.countP_cons]
                have e3 : (listed.setIfInBounds i true).getD y false = listed.getD y false := by rw [getD_set_true _ _ _ hlsz, if_neg hyi]
                rw [e3]; omega
          refine key _ hmemi fun j hj => ?_
          rw [getD_set_true _ _ _ hlsz] at hj
          by_cases hji : j = i
          · rw [if_pos hji] at hj; cases hj
          · rwa [if_neg hji] at hj
        omega
      have hmid : MidJ ops D J a0 (upV v i x) (listed.setIfInBounds i true) (a.put o.dst x) w' := by
        refine ⟨?_, by simpa using hm.ls, ?_, ?_, ?_, ?_, ?_⟩
        · rw [← hm.size]; cases o.dst <;> simp [Act.put]
        · rw [← hm.defers]; cases o.dst <;> rfl
        · intro t ht
          have hold := hm.out t (fun j hj => ht j (by rw [getD_set_true _ _ _ hlsz]; split <;> first | rfl | exact hj))
          have hne : o.dst ≠ some t := by
            intro e
            exact ht i (by rw [getD_set_true _ _ _ hlsz, if_pos rfl]) (by rw [g1, e])
          rw [← hold]
          cases hd : o.dst with
          | none => rfl
          | some d =>
            have : d ≠ t := fun e => hne (by rw [hd, e])
            simp only [Act.put, Array.getD_eq_getD_getElem?, Array.getElem?_setIfInBounds_ne this]
        · intro j d hj hD
          by_cases hji : j = i
          · subst hji
            have hd : o.dst = some d := by rw [g1] at hD; exact Option.some.inj hD
            have hsz : d < a.tmps.size := by rw [hm.size]; exact (g2 d hd).1
            simp [hd, Act.put, Array.getD_eq_getD_getElem?, hsz, upV]
          · rw [getD_set_true _ _ _ hlsz, if_neg hji] at hj
            have hold := hm.here j d hj hD
            rw [show upV v i x j = v j from if_neg hji, ← hold]
            cases hd : o.dst with
            | none => rfl
            | some y =>
              have hne : y ≠ d := by
                rintro rfl
                rw [hd] at g1
                rcases Nat.lt_or_gt_of_ne hji with hlt2 | hgt2
                · have hjs : j < ops.size := by rw [← hlen]; exact (List.getElem?_eq_some_iff.1 hD).1
                  obtain ⟨k1, k2, _⟩ := hpa j ops[j] (by simp [hjs])
                  have hdst : ops[j].dst = some y := by rw [hD] at k1; exact (Option.some.inj k1).symm
                  exact (k2 y hdst).2 i hlt2 g1
                · exact (g2 y hd).2 j hgt2 hD
              simp only [Act.put, Array.getD_eq_getD_getElem?, Array.getElem?_setIfInBounds_ne hne]
        · have e : (fun j => (listed.setIfInBounds i true).getD j false) = upL (fun j => listed.getD j false) i := by
            funext j; exact getD_set_true _ _ _ hlsz
          rw [e]; exact hJ
        · intro k o' hk hl e he hb
          rw [getD_set_true _ _ _ hlsz] at hl ⊢
          by_cases hee : e.on = i
          · rw [if_pos hee]
          · rw [if_neg hee]
            by_cases hki : k = i
            · subst hki
              rw [ho] at hk
              cases hk
              exact haft e he hb
            · rw [if_neg hki] at hl
              exact hm.cl k o' hk hl e he hb
      refine ih _ _ _ _ hmid ?_ hcnt
      intro hz
      subst hz
      have hz0 : (List.range ops.size).countP (fun j => !(listed.setIfInBounds i true).getD j false) = 0 := by omega
      rw [List.countP_eq_zero] at hz0
      cases hr : Region.ready .any ops (listed.setIfInBounds i true) with
      | nil => rfl
      | cons y r =>
        have hy : y ∈ Region.ready .any ops (listed.setIfInBounds i true) := by rw [hr]; simp
        obtain ⟨q1, q2, _⟩ := mem_ready hy
        have := hz0 y (by simpa using q1)
        have hys : y < (listed.setIfInBounds i true).size := by simp [hm.ls]; exact q1
        have q3 : (listed.setIfInBounds i true).getD y false = false := by rw [← getD_same _ y hys]; exact q2
        rw [q3] at this
        exact absurd rfl this
    have hwant : Region.wanted o (yielded ops a.tmps) = goes D o a := by
      unfold Region.wanted goes
      cases hg : o.guard with
      | none => rfl
      | some p =>
        obtain ⟨j, want⟩ := p
        simp only [yielded]
        by_cases hj : j < ops.size
        · obtain ⟨k1, k2, _⟩ := hpa j ops[j] (by simp [hj])
          have hDj : D.getD j none = ops[j].dst := by simp [List.getD, k1]
          rw [hDj]
          simp only [Array.getElem?_eq_getElem hj, Option.bind_some]
          cases hd : ops[j].dst with
          | none => simp
          | some d =>
            have hsz : d < a.tmps.size := by rw [hm.size]; exact (k2 d hd).1
            simp only [Option.bind_some, Array.getElem?_eq_getElem hsz]
            have he : a.eval (.tmp d) = a.tmps[d] := by simp [Act.eval, Array.getD, hsz]
            rw [he]
            cases a.tmps[d] <;> simp
        · have hDj : D.getD j none = none := by simp [List.getD, List.getElem?_eq_none (show D.length ≤ j by omega)]
          rw [hDj]
          simp [Array.getElem?_eq_none (show ops.size ≤ j by omega)]
    unfold wpOp
    rw [ho]
    simp only [hwant]
    cases hgo : goes D o a with
    | true =>
      simp only [if_true]
      refine .inl (Yields.wp ?_)
      have := s1 hgo
      revert this
      unfold Yields
      generalize (execOp a.eval o).run P w = res
      intro h
      cases res with
      | ok n w' =>
        cases n <;> simp only at h ⊢ <;> first
          | exact next _ _ h
          | exact h.elim
          | exact Calls.mono h (fun e w'' ⟨y, he, hk⟩ => ⟨y, he, next _ _ hk⟩)
      | halt y w' => exact h.elim
    | false =>
      simp only [Bool.false_eq_true, if_false]
      exact next undef w (s2 hgo)


theorem wp_region_inv {P : Program} {id : Nat} {ops : Array Oper} {Q : Exit → Act → World → Prop} {a0 : Act} {w0 : World} (D : List (Option Tmp)) (J : (Nat → Bool) → (Nat → Value) → World → Prop)
    (hm : P.follows .mixedOrders = true) (hpl : plain a0.tmps.size 0 D ops.toList = true) (h0 : J (fun _ => false) (fun _ => undef) w0.drew) (hsteps : StepsJ ops.toList P D J a0 0 ops.toList)
    (hend : ∀ (L : Nat → Bool) (v : Nat → Value) (w : World), J L v w → (∀ i, i < ops.size → L i = true) → Q .normal (putAll v 0 D a0) w) : (Code.region id ops true).wp P Q a0 w0 := by
  refine wp_region_any hm ?_
  have hno : ∀ j, (Array.replicate ops.size false).getD j false = false := by
    intro j
    by_cases h : j < ops.size <;> simp [Array.getD, h]
  refine wpAny_inv D J hpl hsteps hend ops.size _ (fun _ => undef) a0 _ ⟨rfl, by simp, rfl, fun _ _ => rfl, fun j _ hj => ?_, ?_, fun k _ _ hl => ?_⟩ ?_ ?_
  · rw [hno] at hj; cases hj
  · have e : (fun j => (Array.replicate ops.size false).getD j false) = fun _ => false := funext hno
    rw [e]; exact h0
  · rw [hno] at hl; cases hl
  · intro h0
    cases hr : Region.ready .any ops (Array.replicate ops.size false) with
    | nil => rfl
    | cons y r =>
      have hy : y ∈ Region.ready .any ops (Array.replicate ops.size false) := by rw [hr]; simp
      have := (mem_ready hy).1
      omega
  · exact Nat.le_trans (List.countP_le_length) (by simp)
end Go.Proofs.Ythhagejcgobfgaa
namespace Go.Proofs.Ythhagejcgobfgaa
open Go.RowKit

/-- Who holds the row: the latest of these operations (the latest first) that is listed. -/
def hold (L : Nat → Bool) (v : Nat → Value) (C : Nat → List Nat) (vI : Value) (lI : List Nat) : List Nat → Value × List Nat
  | [] => (vI, lI)
  | x :: r => if L x = true then (v x, C x) else hold L v C vI lI r

/-- They are listed in their order. -/
def Closed (L : Nat → Bool) : List Nat → Prop
  | [] => True
  | [_] => True
  | y :: x :: r => (L y = true → L x = true) ∧ Closed L (x :: r)

theorem Closed.later {L : Nat → Bool} : ∀ {ys : List Nat} {x : Nat} {r : List Nat}, Closed L (ys ++ x :: r) → L x = false → ∀ y ∈ ys, L y = false := by
  intro ys
  induction ys with
  | nil => intro x r _ _ y hy; cases hy
  | cons z zs ih =>
    intro x r h hx y hy
    have hrec : Closed L (zs ++ x :: r) := by
      cases zs with
      | nil => exact h.2
      | cons z' zs' => exact h.2
    have hzs := ih hrec hx
    rcases List.mem_cons.1 hy with rfl | hy
    · cases hz : L y with
      | false => rfl
      | true =>
        cases zs with
        | nil => have := h.1 hz; rw [hx] at this; cases this
        | cons z' zs' => have := h.1 hz; rw [hzs z' (by simp)] at this; cases this
    · exact hzs y hy

theorem hold_later {L : Nat → Bool} {v : Nat → Value} {C : Nat → List Nat} {vI : Value} {lI : List Nat} : ∀ {ys r : List Nat}, (∀ y ∈ ys, L y = false) → hold L v C vI lI (ys ++ r) = hold L v C vI lI r := by
  intro ys
  induction ys with
  | nil => intro r _; rfl
  | cons z zs ih =>
    intro r h
    simp only [List.cons_append, hold]
    rw [if_neg (by rw [h z (by simp)]; decide)]
    exact ih (fun y hy => h y (by simp [hy]))

theorem Closed.up {L : Nat → Bool} : ∀ {X : List Nat} {i : Nat}, Closed L X → (∀ ys x r, X = ys ++ i :: x :: r → L x = true) → Closed (upL L i) X := by
  intro X
  induction X with
  | nil => intro i _ _; exact trivial
  | cons y r ih =>
    intro i h hp
    cases r with
    | nil => exact trivial
    | cons x r =>
      refine ⟨fun hy => ?_, ih h.2 fun ys x' r' e => hp (y :: ys) x' r' (by rw [e]; rfl)⟩
      unfold upL at hy ⊢
      by_cases hx : x = i
      · rw [if_pos hx]
      · rw [if_neg hx]
        by_cases hyi : y = i
        · subst hyi; exact hp [] x r rfl
        · rw [if_neg hyi] at hy; exact h.1 hy

theorem Closed.up_other {L : Nat → Bool} {X : List Nat} {i : Nat} (h : Closed L X) (hi : i ∉ X) : Closed (upL L i) X :=
  h.up fun ys x r e => absurd (by rw [e]; simp) hi

theorem hold_up_other {L : Nat → Bool} {v : Nat → Value} {C : Nat → List Nat} {vI : Value} {lI : List Nat} {i : Nat} {x : Value} : ∀ {X : List Nat}, i ∉ X → hold (upL L i) (upV v i x) C vI lI X = hold L v C vI lI X := by
  intro X
  induction X with
  | nil => intro _; rfl
  | cons y r ih =>
    intro hi
    have hy : y ≠ i := fun e => hi (by simp [e])
    simp only [hold]
    rw [show upL L i y = L y from if_neg hy, show upV v i x y = v y from if_neg hy, ih (fun h => hi (by simp [h]))]

/-- The invariant. -/
def OwnJ (w0 : World) (S0 : Nat → Prop) (B : Nat) (vI : Value) (lI : List Nat) (X : List Nat) (C : Nat → List Nat) (G : Nat → Value → World → Prop) (L : Nat → Bool) (v : Nat → Value) (w : World) : Prop :=
  ∃ S : Nat → Prop, (∀ k, S k → k < w.heap.size) ∧ (∀ k, S k → S0 k ∨ w0.heap.size ≤ k) ∧ Kept S w0 w ∧ Closed L X ∧ (∀ j, L j = true → ∀ w', Kept S w w' → G j (v j) w') ∧
    Row w B (hold L v C vI lI X).1 (hold L v C vI lI X).2 ∧ (∀ g, (hold L v C vI lI X).1.ownBlock = some g → S g)

/-- What is asked of an operation that leaves the row alone. -/
theorem StepJ.other {os : List Oper} {P : Program} {D : List (Option Tmp)} {w0 : World} {S0 : Nat → Prop} {B : Nat} {vI : Value} {lI X : List Nat} {C : Nat → List Nat} {G : Nat → Value → World → Prop} {a0 : Act} {i : Nat} {o : Oper} (hi : i ∉ X)
    (h : ∀ (S : Nat → Prop) (a : Act) (w : World), (∀ k, S k → k < w.heap.size) → (∀ w', Kept S w w' → Kept S0 w0 w') → (∀ t, some t ∉ D → a.eval (.tmp t) = a0.eval (.tmp t)) → (∀ t, late os t i = true → a.eval (.tmp t) = a0.eval (.tmp t)) →
      Deps D (fun j x w => ∀ w', Kept S w w' → G j x w') a w o.after.toList → (∀ x, X.head? = some x → ∀ e ∈ o.after.toList, e.on = x → Region.binds .any e = true → ∀ d, D.getD x none = some d → Row w B (a.eval (.tmp d)) (C x)) →
      (goes D o a = true → Yields P a.eval o w (fun x w' => (∀ w'', Kept S w' w'' → G i x w'') ∧ Kept (fun _ => False) w w')) ∧ (goes D o a = false → ∀ w', Kept S w w' → G i undef w')) :
    StepJ os P D (OwnJ w0 S0 B vI lI X C G) a0 i o := by
  intro L v a w ⟨S, hlt, h0, hk, hcl, hg, hrow, hown⟩ hli hedges hout hhere hlate
  have hR : ∀ w', Kept S w w' → Kept S0 w0 w' := fun w' k => (hk.trans k (fun _ _ x => x)).mono (fun b hb hS => by
    rcases h0 b hS with h | h
    · exact h
    · omega)
  have hdeps : Deps D (fun j x w => ∀ w', Kept S w w' → G j x w') a w o.after.toList := Deps.mk fun e he hb d hd => by
    have hL := hedges e he hb
    have hDe : D[e.on]? = some (some d) := by
      cases hx : D[e.on]? with
      | none => simp [List.getD, hx] at hd
      | some y => simp [List.getD, hx] at hd; rw [hd]
    rw [hhere e.on d hL hDe]
    exact hg e.on hL
  have hr : ∀ x, X.head? = some x → ∀ e ∈ o.after.toList, e.on = x → Region.binds .any e = true → ∀ d, D.getD x none = some d → Row w B (a.eval (.tmp d)) (C x) := by
    intro x hx e he hex hb d hd
    subst hex
    have hL := hedges e he hb
    have hDe : D[e.on]? = some (some d) := by
      cases hx : D[e.on]? with
      | none => simp [List.getD, hx] at hd
      | some y => simp [List.getD, hx] at hd; rw [hd]
    rw [hhere e.on d hL hDe]
    cases X with
    | nil => cases hx
    | cons y r =>
      simp at hx
      subst hx
      simpa [hold, hL] using hrow
  obtain ⟨s1, s2⟩ := h S a w hlt hR hout hlate hdeps hr
  have fin : ∀ (x : Value) (w' : World), (∀ w'', Kept S w' w'' → G i x w'') → Kept (fun _ => False) w w' → OwnJ w0 S0 B vI lI X C G (upL L i) (upV v i x) w' := by
    intro x w' hG hkk
    refine ⟨S, fun k hS => Nat.lt_of_lt_of_le (hlt k hS) hkk.size, h0, hk.trans hkk (fun _ _ f => f.elim), hcl.up_other hi, fun j hj w'' k => ?_, ?_, ?_⟩
    · by_cases hji : j = i
      · subst hji; rw [show upV v j x j = x from if_pos rfl]; exact hG w'' k
      · rw [show upL L i j = L j from if_neg hji] at hj
        rw [show upV v i x j = v j from if_neg hji]
        exact hg j hj w'' ((hkk.mono (S' := S) (fun _ _ f => f.elim)).trans k (fun _ _ f => f))
    · rw [hold_up_other hi]; exact hrow.all hkk
    · rw [hold_up_other hi]; exact hown
  refine ⟨fun hgo => ?_, fun hgo => fin undef w (s2 hgo) (Kept.refl _ _)⟩
  have := s1 hgo
  revert this
  unfold Yields
  generalize (execOp a.eval o).run P w = r
  intro hh
  cases r with
  | ok n w' =>
    cases n <;> simp only at hh ⊢ <;> first
      | exact fin _ _ hh.1 hh.2
      | exact hh.elim
      | exact Calls.mono hh (fun e w'' ⟨y, he, hk⟩ => ⟨y, he, fin _ _ hk.1 hk.2⟩)
  | halt x w' => exact hh.elim

/-- Who held the row: the first of these, or whoever came with it. -/
def Prev (D : List (Option Tmp)) (C : Nat → List Nat) (vI : Value) (lI : List Nat) (a : Act) (p : Value) (lp : List Nat) : List Nat → Prop
  | [] => p = vI ∧ lp = lI
  | x :: _ => lp = C x ∧ ∀ d, D.getD x none = some d → p = a.eval (.tmp d)

/-- What is asked of an operation that takes the row on: p is who held it. -/
theorem StepJ.own {os : List Oper} {P : Program} {D : List (Option Tmp)} {w0 : World} {S0 : Nat → Prop} {B : Nat} {vI : Value} {lI X : List Nat} {C : Nat → List Nat} {G : Nat → Value → World → Prop} {a0 : Act} {i : Nat} {o : Oper} (ys r : List Nat) (hX : X = ys ++ i :: r) (hnd : i ∉ ys ∧ i ∉ r)
    (hr : ∀ x, r.head? = some x → ∃ e ∈ o.after.toList, e.on = x ∧ Region.binds .any e = true ∧ ∃ d, D.getD x none = some d) (hG : ∀ x w, G i x w)
    (h : ∀ (S : Nat → Prop) (a : Act) (w : World), (∀ k, S k → k < w.heap.size) → (∀ w', Kept S w w' → Kept S0 w0 w') → (∀ t, some t ∉ D → a.eval (.tmp t) = a0.eval (.tmp t)) → (∀ t, late os t i = true → a.eval (.tmp t) = a0.eval (.tmp t)) →
      Deps D (fun j x w => ∀ w', Kept S w w' → G j x w') a w o.after.toList → ∀ (p : Value) (lp : List Nat), Row w B p lp →
      Prev D C vI lI a p lp r →
      goes D o a = true ∧ Yields P a.eval o w (fun x w' => Row w' B x (C i) ∧ Kept (fun k => p.ownBlock = some k) w w' ∧ (x.ownBlock = p.ownBlock ∨ ∀ g, x.ownBlock = some g → w.heap.size ≤ g))) :
    StepJ os P D (OwnJ w0 S0 B vI lI X C G) a0 i o := by
  intro L v a w ⟨S, hlt, h0, hk, hcl, hg, hrow, hown⟩ hli hedges hout hhere hlate
  subst hX
  have hlater := hcl.later hli
  have hhold : hold L v C vI lI (ys ++ i :: r) = hold L v C vI lI r := by
    rw [hold_later hlater]
    show (if L i = true then (v i, C i) else hold L v C vI lI r) = hold L v C vI lI r
    rw [if_neg (by rw [hli]; decide)]
  rw [hhold] at hrow hown
  have hR : ∀ w', Kept S w w' → Kept S0 w0 w' := fun w' k => (hk.trans k (fun _ _ x => x)).mono (fun b hb hS => by
    rcases h0 b hS with h | h
    · exact h
    · omega)
  have hat : ∀ (j : Nat) (d : Tmp), D.getD j none = some d → D[j]? = some (some d) := by
    intro j d hd
    cases hx : D[j]? with
    | none => simp [List.getD, hx] at hd
    | some y => simp [List.getD, hx] at hd; rw [hd]
  have hdeps : Deps D (fun j x w => ∀ w', Kept S w w' → G j x w') a w o.after.toList := Deps.mk fun e he hb d hd => by
    have hL := hedges e he hb
    rw [hhere e.on d hL (hat e.on d hd)]
    exact hg e.on hL
  have hlx : ∀ x, r.head? = some x → L x = true := by
    intro x hx
    obtain ⟨e, he, rfl, hb, _⟩ := hr x hx
    exact hedges e he hb
  have hp : Prev D C vI lI a (hold L v C vI lI r).1 (hold L v C vI lI r).2 r := by
    clear hhold hrow hown hcl h
    cases r with
    | nil => exact ⟨rfl, rfl⟩
    | cons x r' =>
      have hL := hlx x rfl
      have e1 : hold L v C vI lI (x :: r') = (v x, C x) := by
        show (if L x = true then (v x, C x) else hold L v C vI lI r') = _
        rw [if_pos hL]
      refine ⟨by rw [e1], fun d hd => ?_⟩
      rw [e1, hhere x d hL (hat x d hd)]
  obtain ⟨hgo, hy⟩ := h S a w hlt hR hout hlate hdeps _ _ hrow hp
  generalize (hold L v C vI lI r).1 = p at *
  have fin : ∀ (x : Value) (w' : World), Row w' B x (C i) → Kept (fun k => p.ownBlock = some k) w w' → (x.ownBlock = p.ownBlock ∨ ∀ g, x.ownBlock = some g → w.heap.size ≤ g) → OwnJ w0 S0 B vI lI (ys ++ i :: r) C G (upL L i) (upV v i x) w' := by
    intro x w' hrx hkk hwh
    have hkS : Kept S w w' := hkk.mono (fun k _ e => hown k e)
    refine ⟨fun k => S k ∨ x.ownBlock = some k, ?_, ?_, ?_, ?_, ?_, ?_, ?_⟩
    · rintro k (hS | hx)
      · exact Nat.lt_of_lt_of_le (hlt k hS) hkk.size
      · exact (hrx.lt k hx).2
    · rintro k (hS | hx)
      · exact h0 k hS
      · rcases hwh with e | e
        · exact h0 k (hown k (by rw [← e]; exact hx))
        · exact .inr (Nat.le_trans hk.size (e k hx))
    · exact (hk.trans hkS (fun _ _ x => x)).mono (fun _ _ x => .inl x)
    · refine hcl.up fun ys' x' r' e => ?_
      -- the two ways to part the list are one
      have key : ∀ (zs ys' : List Nat) (x' : Nat) (r r' : List Nat), i ∉ zs → i ∉ ys' → zs ++ i :: r = ys' ++ i :: x' :: r' → r = x' :: r' := by
        intro zs
        induction zs with
        | nil =>
          intro ys' x' r r' _ hy e
          cases ys' with
          | nil => simpa using e
          | cons z zs => simp at e; exact absurd e.1 (fun h => hy (by simp [h]))
        | cons z zs ih =>
          intro ys' x' r r' hz hy e
          cases ys' with
          | nil => simp at e; exact absurd e.1.symm (fun h => hz (by simp [h]))
          | cons y ys'' => simp at e; exact ih ys'' x' r r' (fun h => hz (by simp [h])) (fun h => hy (by simp [h])) e.2
      have hin : i ∉ ys' := by
        intro hm
        have hc : (ys ++ i :: r).count i = 1 := by rw [List.count_append, List.count_eq_zero_of_not_mem hnd.1, List.count_cons_self, List.count_eq_zero_of_not_mem hnd.2]
        rw [e, List.count_append, List.count_cons_self] at hc
        have := List.count_pos_iff.2 hm
        omega
      have := key ys ys' x' r r' hnd.1 hin e
      subst this
      exact hlx x' rfl
    · intro j hj w'' k
      by_cases hji : j = i
      · subst hji; exact hG _ _
      · rw [show upL L i j = L j from if_neg hji] at hj
        rw [show upV v i x j = v j from if_neg hji]
        refine hg j hj w'' (hkS.trans k fun b hb hS => ?_)
        rcases hS with hS | hx
        · exact hS
        · rcases hwh with e | e
          · exact hown b (by rw [← e]; exact hx)
          · have := e b hx; omega
    · have e : hold (upL L i) (upV v i x) C vI lI (ys ++ i :: r) = (x, C i) := by
        rw [hold_later (fun y hym => by rw [show upL L i y = L y from if_neg (fun h : y = i => hnd.1 (by rw [← h]; exact hym))]; exact hlater y hym)]
        show (if upL L i i = true then (upV v i x i, C i) else _) = _
        rw [if_pos (show upL L i i = true from if_pos rfl), show upV v i x i = x from if_pos rfl]
      rw [e]; exact hrx
    · have e : hold (upL L i) (upV v i x) C vI lI (ys ++ i :: r) = (x, C i) := by
        rw [hold_later (fun y hym => by rw [show upL L i y = L y from if_neg (fun h : y = i => hnd.1 (by rw [← h]; exact hym))]; exact hlater y hym)]
        show (if upL L i i = true then (upV v i x i, C i) else _) = _
        rw [if_pos (show upL L i i = true from if_pos rfl), show upV v i x i = x from if_pos rfl]
      rw [e]
      intro g hgx
      exact .inr hgx
  refine ⟨fun _ => ?_, fun hno => ?_⟩
  · revert hy
    unfold Yields
    generalize (execOp a.eval o).run P w = res
    intro hh
    cases res with
    | ok n w' =>
      cases n <;> simp only at hh ⊢ <;> first
        | exact fin _ _ hh.1 hh.2.1 hh.2.2
        | exact hh.elim
        | exact Calls.mono hh (fun e w'' ⟨y, he, hk⟩ => ⟨y, he, fin _ _ hk.1 hk.2.1 hk.2.2⟩)
    | halt x w' => exact hh.elim
  · rw [hgo] at hno; cases hno


section
variable {os : List Oper} {P : Program} {D : List (Option Tmp)} {w0 : World} {S0 : Nat → Prop} {B : Nat} {vI : Value} {lI X : List Nat} {C : Nat → List Nat} {Gs : List Pd} {a0 : Act} {i : Nat} {o : Oper}

theorem StepJ.one (hi : i ∉ X) (hg : o.guard = none)
    (h : ∀ (S : Nat → Prop) (a : Act) (w : World), (∀ k, S k → k < w.heap.size) → (∀ w', Kept S w w' → Kept S0 w0 w') → (∀ t, some t ∉ D → a.eval (.tmp t) = a0.eval (.tmp t)) → (∀ t, late os t i = true → a.eval (.tmp t) = a0.eval (.tmp t)) →
      Deps D (fun j x w => ∀ w', Kept S w w' → Said Gs j x w') a w o.after.toList → (∀ x, X.head? = some x → ∀ e ∈ o.after.toList, e.on = x → Region.binds .any e = true → ∀ d, D.getD x none = some d → Row w B (a.eval (.tmp d)) (C x)) →
      Yields P a.eval o w (fun x w' => (∀ w'', Kept S w' w'' → Said Gs i x w'') ∧ Kept (fun _ => False) w w')) :
    StepJ os P D (OwnJ w0 S0 B vI lI X C (Said Gs)) a0 i o :=
  StepJ.other hi fun S a w hlt hR hout hlate hD hrow => ⟨fun _ => h S a w hlt hR hout hlate hD hrow, fun hno => by unfold goes at hno; rw [hg] at hno; cases hno⟩

theorem goes_of {a : Act} {j : Nat} {want : Bool} {d : Tmp} (hg : o.guard = some (j, want)) (hd : D.getD j none = some d) (h : a.eval (.tmp d) = .bool want) : goes D o a = true := by
  unfold goes
  rw [hg]
  simp only [hd, h]
  simp

theorem StepJ.when (hi : i ∉ X) (j : Nat) (want : Bool) (d : Tmp) (hg : o.guard = some (j, want)) (hd : D.getD j none = some d)
    (h : ∀ (S : Nat → Prop) (a : Act) (w : World), (∀ k, S k → k < w.heap.size) → (∀ w', Kept S w w' → Kept S0 w0 w') → (∀ t, some t ∉ D → a.eval (.tmp t) = a0.eval (.tmp t)) → (∀ t, late os t i = true → a.eval (.tmp t) = a0.eval (.tmp t)) →
      Deps D (fun j x w => ∀ w', Kept S w w' → Said Gs j x w') a w o.after.toList → (∀ x, X.head? = some x → ∀ e ∈ o.after.toList, e.on = x → Region.binds .any e = true → ∀ d, D.getD x none = some d → Row w B (a.eval (.tmp d)) (C x)) →
      a.eval (.tmp d) = .bool want ∧ Yields P a.eval o w (fun x w' => (∀ w'', Kept S w' w'' → Said Gs i x w'') ∧ Kept (fun _ => False) w w')) :
    StepJ os P D (OwnJ w0 S0 B vI lI X C (Said Gs)) a0 i o :=
  StepJ.other hi fun S a w hlt hR hout hlate hD hrow => by
    obtain ⟨h1, h2⟩ := h S a w hlt hR hout hlate hD hrow
    exact ⟨fun _ => h2, fun hno => by rw [goes_of hg hd h1] at hno; cases hno⟩

end

end Go.Proofs.Ythhagejcgobfgaa
namespace Go.Proofs.Ythhagejcgobfgaa
open Go.RowKit

/-- Bytes up to some place. -/
theorem BytesArg.upto {w : World} {v : Value} {l : List Nat} (h : BytesArg w v l) (j : Nat) (hj : j ≤ l.length) (k : IntKind) :
    ∃ v', (Instr.sliceAt 38 v none (some (.int k (j : Int))) none).run Try.prog w = .ok v' w ∧ BytesArg w v' (l.take j) := by
  obtain ⟨a, cap, rfl, h1, h2, h3, h256, hc⟩ := h
  have hb : ¬ cap < j := by omega
  have hb0 : BytesArg w (.slice a l.length cap) l := ⟨a, cap, rfl, h1, h2, h3, h256, hc⟩
  obtain ⟨i0, hi, hz0, hz1, hz2⟩ := info_parts Try.info_u8
  refine ⟨.slice a j cap, ?_, ?_⟩
  · cases a with
    | none => simp [Instr.sliceAt, Instr.slice, Instr.sliceBounds, Instr.sliceBound, asIntOf, run_underlying Try.underlying38, sizeOf, typeInfo, hi, hb]
    | some ad => simp [Instr.sliceAt, Instr.slice, Instr.sliceBounds, Instr.sliceBound, asIntOf, run_underlying Try.underlying38, sizeOf, typeInfo, hi, hb, Addr.add]
  · have := hb0.cut 0 j cap (Nat.zero_le _) hj (by omega) h2 a (fun _ => by cases a with | none => rfl | some ad => simp [Addr.add]) h3
    simpa using this

end Go.Proofs.Ythhagejcgobfgaa
namespace Go.Proofs.Ythhagejcgobfgaa
open Go.RowKit

def Owb (w : World) (T : Nat → Prop) (v : Value) (l : List Nat) : Prop := Row w 0 v l ∧ ∀ i, T i ↔ v.ownBlock = some i
theorem Owb.nil (w : World) : Owb w noB (.slice none 0 0) [] := ⟨Row.nil w 0, fun i => ⟨fun h => h.elim, fun h => by cases h⟩⟩
theorem Owb.live {w : World} {T : Nat → Prop} {v : Value} {l : List Nat} (h : Owb w T v l) : Live w T := fun i hi => (h.1.lt i ((h.2 i).1 hi)).2
theorem Owb.byt {w : World} {T : Nat → Prop} {v : Value} {l : List Nat} (h : Owb w T v l) : Byt w T v l := ⟨h.1.bytes, h.live, fun _ a n c e => (h.2 a.block).2 (by rw [e]; rfl)⟩
theorem Owb.all {S : Nat → Prop} {w w' : World} {T : Nat → Prop} {v : Value} {l : List Nat} (h : Owb w T v l) (k : Kept S w w') (ha : Apart T S) : Owb w' T v l := ⟨h.1.kept k (fun g hg => ha g ((h.2 g).2 hg)), h.2⟩
theorem Owb.one {w : World} {T : Nat → Prop} {v : Value} {l : List Nat} (h : Owb w T v l) : v.oneCell' = true := h.byt.one
theorem Owb.oneC {w : World} {T : Nat → Prop} {v : Value} {l : List Nat} (h : Owb w T v l) : oneC v = true := h.byt.oneC
theorem Owb.cells {w : World} {T : Nat → Prop} {v : Value} {l : List Nat} (h : Owb w T v l) : Cells w T := fun i hi => by
  have hv := (h.2 i).1 hi
  rcases h.1.1.2 with ⟨rfl, _⟩ | ⟨g, cap, cur, rfl, _, hg, _⟩
  · cases hv
  · cases hv; exact ⟨_, hg, rfl⟩
theorem Owb.row {A B : World} {row : Option Nat} {n : Nat} {T : Nat → Prop} {v : Value} {l : List Nat} (h : Owb A T v l) (hg : A.grownBy B row) (hr : RowNew n A row) : Owb B T v l := h.all (kept_row hg) (h.cells.apart hr)
theorem Owb.lt256 {w : World} {T : Nat → Prop} {v : Value} {l : List Nat} (h : Owb w T v l) : ∀ x ∈ l, x < 256 := h.1.2
theorem Byt.lt256 {w : World} {T : Nat → Prop} {v : Value} {l : List Nat} (h : Byt w T v l) : ∀ x ∈ l, x < 256 := h.1.lt256

def bytAddr (v : Value) (j : Nat) : Value := match v with
  | .slice (some a) _ _ => .pointer (some (a.add j))
  | _ => undef
section
variable {ρ : Operand → Value} {o : Oper} {w : World} {R : Value → World → Prop}
theorem Byt.at_ {w : World} {T : Nat → Prop} {v : Value} {l : List Nat} {j : Nat} (hb : Byt w T v l) (hj : j < l.length) : ∃ a, bytAddr v j = .pointer (some a) ∧ w.cell? a = some (.int .u8 (l.getD j 0 : Nat)) := by
  obtain ⟨⟨a, cap, rfl, _, _, _, _, hc⟩, _⟩ := hb
  obtain ⟨b, off, rfl, _, hcell⟩ := hc (by omega)
  exact ⟨⟨b, off + j, none⟩, by rw [bytAddr, Addr.add_lit], hcell j hj⟩
end

end Go.Proofs.Ythhagejcgobfgaa
namespace Go.Proofs.Ythhagejcgobfgaa
open Go.RowKit

def Arr (w : World) (p : Nat) (t : TypeId) (n : Nat) (b : Nat → Int) : Prop := w.heap[p]? = some (.cells (arrL n b).toArray t (0, 0))
def ArrT (t : TypeId) (n : Nat) : Prop := Try.prog.underlying t = some (.array n 3) ∧ (Try.prog.info? t).map (·.size) = some n ∧ ∀ w, (zeroValue t).run Try.prog w = .ok (.agg (arrL n (fun _ => 0)).toArray) w
theorem ArrT.size {t : TypeId} {n : Nat} (h : ArrT t n) (b : Nat → Int) : (Try.prog.info? t).map (·.size) = some (arrL n b).toArray.size := by rw [List.size_toArray, arrL_length]; exact h.2.1

section
variable {w w' : World} {p n : Nat} {t : TypeId} {b c : Nat → Int}
theorem Arr.all {S : Nat → Prop} (h : Arr w p t n b) (k : Kept S w w') (hn : ¬ S p) : Arr w' p t n b := k.at h hn
theorem Arr.congr (h : Arr w p t n b) (e : ∀ i, i < n → b i = c i) : Arr w p t n c := by unfold Arr at *; rw [← arrL_congr e]; exact h
theorem Arr.cell (h : Arr w p t n b) {i : Nat} (hi : i < n) : w.cell? ⟨p, i, none⟩ = some (.int .i64 (b i)) := by
  rw [cell_of_heap h, List.getElem?_toArray]; exact arrL_at hi
theorem Arr.lt (h : Arr w p t n b) : p < w.heap.size := lt_of_heap h
theorem Arr.set (h : Arr w p t n b) (k : Nat) (x : Int) : Arr (w.setCell ⟨p, k, none⟩ (.int .i64 x)) p t n (upd b k x) := by
  unfold Arr; rw [heap_setCell_same _ _ _ _ h, arrL_set]
theorem Arr.new (w : World) (t : TypeId) (n : Nat) (b : Nat → Int) : Arr (w.alloc (.cells (arrL n b).toArray t)) w.heap.size t n b := heap_alloc_new w _
end



section
variable {ro : Option Nat} {P : Program} {ρ : Operand → Value} {o : Oper} {w : World} {R : Value → World → Prop}
theorem y_buildL {t : TypeId} {l : List (Nat × Operand)} {l' : List (Nat × Value)} {cells : Array Value} {v : Value} (ho : o.op = .build t l.toArray) (hl : l.map (fun p => (p.1, ρ p.2)) = l') (hc : P.built t l' = some cells) (hv : .agg cells = v) (h : R v w) : Yields P ρ o w R := by
  subst hl
  exact y_buildR ho (by rw [← hc]; congr 1; simp) hv h
theorem bpN : ([] : List (Nat × Operand)).map (fun p => (p.1, ρ p.2)) = [] := rfl
theorem bpC {i : Nat} {x : Operand} {v : Value} {xs : List (Nat × Operand)} {vs : List (Nat × Value)} (h : ρ x = v) (h2 : xs.map (fun p => (p.1, ρ p.2)) = vs) : ((i, x) :: xs).map (fun p => (p.1, ρ p.2)) = (i, v) :: vs := by simp [h, ← h2]
end
end Go.Proofs.Ythhagejcgobfgaa
namespace Go.Proofs.Ythhagejcgobfgaa
open Go.RowKit

/-- The first k places told anew. -/
def upto (k : Nat) (b c : Nat → Int) : Nat → Int := fun i => if i < k then c i else b i
theorem upto_zero (b c : Nat → Int) : upto 0 b c = b := by funext i; simp [upto]
theorem upto_set (k : Nat) (b c : Nat → Int) : upd (upto k b c) k (c k) = upto (k + 1) b c := by
  funext i
  unfold upd upto
  by_cases h : i = k
  · subst h; simp
  · rw [if_neg h]
    by_cases h2 : i < k
    · rw [if_pos h2, if_pos (by omega)]
    · rw [if_neg h2, if_neg (by omega)]
theorem Blk.first {w : World} {p : Nat} {t : TypeId} {b c : Nat → Int} (h : Blk w p t b) : Blk w p t (upto 0 b c) := by rw [upto_zero]; exact h
theorem Blk.next {w : World} {p : Nat} {t : TypeId} {b c : Nat → Int} {k : Nat} {x : Int} (h : Blk w p t (upd (upto k b c) k x)) (e : x = c k) : Blk w p t (upto (k + 1) b c) := by rw [← upto_set, ← e]; exact h
/-- The first c terms of a row's sum by a wave. -/
def ps (b : Nat → Int) (r u : Nat) : Nat → Int
  | 0 => 0
  | c + 1 => ps b r u c + b (r * 4 + c) * wv u c

end Go.Proofs.Ythhagejcgobfgaa
namespace Go.Proofs.Ythhagejcgobfgaa
open Go.RowKit
/-- A frame that can be read. -/
def FrmV (w : World) (v : Value) (f : FD) : Prop := ∃ (a b c : Value) (Ta Tb Tc : Nat → Prop), v = .agg #[.int .i64 f.W, .int .i64 f.H, a, b, c] ∧ Owb w Ta a f.p0 ∧ Owb w Tb b f.p1 ∧ Owb w Tc c f.p2
theorem FrmV.all {w w' : World} {v : Value} {f : FD} (h : FrmV w v f) (k : Kept (fun _ => False) w w') : FrmV w' v f := by
  obtain ⟨a, b, c, Ta, Tb, Tc, e, h1, h2, h3⟩ := h
  exact ⟨a, b, c, Ta, Tb, Tc, e, h1.all k Apart.none, h2.all k Apart.none, h3.all k Apart.none⟩
theorem Stc.apart {w : World} {p : Nat} {t : TypeId} {vs : List Value} {T : Nat → Prop} {v : Value} {l : List Nat} (h : Stc w p t vs) (ho : Owb w T v l) (ht : t ≠ 5) : Apart (onB p) T := fun i hi hT => by
  cases hi
  have hv := (ho.2 _).1 hT
  rcases ho.1.1.2 with ⟨rfl, _⟩ | ⟨g, cap, cur, rfl, _, hg, _⟩
  · cases hv
  · cases hv
    have h' := h
    unfold Stc at h'
    rw [h'] at hg
    cases hg; exact ht rfl
end Go.Proofs.Ythhagejcgobfgaa
namespace Go.Proofs.Ythhagejcgobfgaa
open Go.RowKit

/-- A part of a slice of bytes: from l, up to h, its room up to m. -/
def subV (v : Value) (l h m : Nat) : Value := match v with
  | .slice a _ _ => .slice (if m = l then a else a.map (·.add l)) (h - l) (m - l)
  | _ => undef
def capV : Value → Nat
  | .slice _ _ c => c
  | _ => 0
theorem Byt.cap {w : World} {T : Nat → Prop} {v : Value} {l : List Nat} (h : Byt w T v l) : l.length ≤ capV v ∧ capV v ≤ maxLen := by
  obtain ⟨⟨a, cap, rfl, h1, h2, _⟩, _⟩ := h; exact ⟨h1, h2⟩
theorem Byt.sub {w : World} {T : Nat → Prop} {v : Value} {l : List Nat} (hb : Byt w T v l) {i j m : Nat} (h1 : i ≤ j) (h2 : j ≤ m) (h3 : j ≤ l.length) (h4 : m ≤ capV v) : Byt w T (subV v i j m) ((l.drop i).take (j - i)) := by
  have hc := hb.cap
  obtain ⟨hB, hL, hT⟩ := hb
  obtain ⟨a, cap, rfl, k1, k2, k3, k4, k5⟩ := hB
  have hB : BytesArg w (.slice a l.length cap) l := ⟨a, cap, rfl, k1, k2, k3, k4, k5⟩
  have hm : m ≤ cap := h4
  refine ⟨hB.cut i j (m - i) h1 h3 (by omega) (by omega) (if m = i then a else a.map (fun z : Addr => z.add i)) (fun hp => by rw [if_neg (by omega)]) (fun h0 => ?_), hL, fun hp a' n c e => ?_⟩
  · split at h0
    · omega
    · have : a = none := by cases a <;> simp_all
      have := k3 this; omega
  · have hlen : 0 < j - i := by
      have : ((l.drop i).take (j - i)).length = j - i := by simp; omega
      omega
    simp only [subV] at e
    rw [if_neg (by omega)] at e
    cases a with
    | none => simp at e
    | some a0 =>
      simp at e
      obtain ⟨e1, _, _⟩ := e
      have hblk : a'.block = a0.block := by rw [← e1]; unfold Addr.add; split <;> rfl
      rw [hblk]
      exact hT (by omega) a0 _ _ rfl
section
variable {ro : Option Nat} {N : Nat} {Q : (Exit → (Nat → Value) → World → Prop)} {F : Nat → Value} {w : World} {o : Oper}
end
end Go.Proofs.Ythhagejcgobfgaa
namespace Go.Proofs.Ythhagejcgobfgaa
open Go.RowKit



def arrV (p k : Nat) : Value := .slice (some (if 4 = k then ⟨p, 0, none⟩ else ⟨p, k, none⟩)) (4 - k) (4 - k)
theorem Stc.bytes {w : World} {p t : Nat} {a b c d : Nat} (h : Stc w p t [.int .u8 (a : Int), .int .u8 (b : Int), .int .u8 (c : Int), .int .u8 (d : Int)]) (ha : a < 256) (hb : b < 256) (hc : c < 256) (hd : d < 256) {k : Nat} (hk : k ≤ 4) : Byt w (onB p) (arrV p k) ([a, b, c, d].drop k) := by
  have hl : ([a, b, c, d].drop k).length = 4 - k := by simp
  refine ⟨⟨some (if 4 = k then ⟨p, 0, none⟩ else ⟨p, k, none⟩), 4 - k, by rw [hl]; rfl, by omega, Nat.le_trans (Nat.sub_le 4 k) (by decide), (fun e => by cases e), ?_, fun hp => ⟨p, k, by rw [if_neg (by omega)], h.lt, fun i hi => ?_⟩⟩, onB_live h.lt, fun _ a' n c' e => ?_⟩
  · intro x hx
    have := List.mem_of_mem_drop hx
    simp at this
    omega
  · rw [hl] at hi
    have hc := h.cell (i := k + i) (v := .int .u8 (([a, b, c, d].drop k).getD i 0 : Nat)) (by
      have : k = 0 ∨ k = 1 ∨ k = 2 ∨ k = 3 := by omega
      have hi4 : i = 0 ∨ i = 1 ∨ i = 2 ∨ i = 3 := by omega
      rcases this with rfl | rfl | rfl | rfl <;> rcases hi4 with rfl | rfl | rfl | rfl <;> first | rfl | omega)
    exact hc
  · unfold arrV at e
    simp only [Value.slice.injEq, Option.some.injEq] at e
    rw [← e.1]
    split <;> rfl

end Go.Proofs.Ythhagejcgobfgaa
namespace Go.Proofs.Ythhagejcgobfgaa
open Go.RowKit

/-- A function that is asked with a number below n, in whatever world in which nothing that was there has changed. -/
def Ask1 (w : World) (n : Nat) (v : Value) (g : Nat → Int) : Prop :=
  ∃ (f : FuncId) (cs : List Value), v = .func (.func f) #[] cs.toArray ∧ (∀ args w, (callFunc f args).run Try.prog w = .ok (.enter f args) w) ∧
    ∀ w', Kept (fun _ => False) w w' → ∀ k : Nat, k < n → Calls Try.prog f (.int .i64 (k : Int) :: cs).toArray w' fun e w'' => e = .returned (.int .i64 (g k)) ∧ Kept (fun _ => False) w' w''
theorem Ask1.all {w w' : World} {n : Nat} {v : Value} {g : Nat → Int} (h : Ask1 w n v g) (k : Kept (fun _ => False) w w') : Ask1 w' n v g := by
  obtain ⟨f, cs, e, hf, h⟩ := h
  exact ⟨f, cs, e, hf, fun w2 k2 => h w2 (k.trans k2 (fun _ _ x => x))⟩
/-- .. with two. -/
def Ask2 (w : World) (n : Nat) (v : Value) (g : Nat → Nat → Int) : Prop :=
  ∃ (f : FuncId) (cs : List Value), v = .func (.func f) #[] cs.toArray ∧ (∀ args w, (callFunc f args).run Try.prog w = .ok (.enter f args) w) ∧
    ∀ w', Kept (fun _ => False) w w' → ∀ i k : Nat, i < n → k < n → Calls Try.prog f (.int .i64 (i : Int) :: .int .i64 (k : Int) :: cs).toArray w' fun e w'' => e = .returned (.int .i64 (g i k)) ∧ Kept (fun _ => False) w' w''
theorem Ask2.all {w w' : World} {n : Nat} {v : Value} {g : Nat → Nat → Int} (h : Ask2 w n v g) (k : Kept (fun _ => False) w w') : Ask2 w' n v g := by
  obtain ⟨f, cs, e, hf, h⟩ := h
  exact ⟨f, cs, e, hf, fun w2 k2 => h w2 (k.trans k2 (fun _ _ x => x))⟩
end Go.Proofs.Ythhagejcgobfgaa
namespace Go.Proofs.Ythhagejcgobfgaa
open Go.RowKit

theorem retB {a b : Bool} (h : a = b) : Ending.returned (.bool a) = .returned (.bool b) := by rw [h]
theorem Arr.first {w : World} {p n : Nat} {t : TypeId} {b c : Nat → Int} (h : Arr w p t n b) : Arr w p t n (upto 0 b c) := by rw [upto_zero]; exact h
theorem Arr.next {w : World} {p n : Nat} {t : TypeId} {b c : Nat → Int} {k : Nat} {x : Int} (h : Arr w p t n (upd (upto k b c) k x)) (e : x = c k) : Arr w p t n (upto (k + 1) b c) := by rw [← upto_set, ← e]; exact h
/-- Four functions, one a mode. -/
def Fns (w : World) (v : Value) (g : Nat → Nat → Nat → Int) : Prop := ∃ c : Nat → Value, v = .agg #[c 0, c 1, c 2, c 3] ∧ ∀ m, m < 4 → Ask2 w 4 (c m) (g m)
theorem Fns.all {w w' : World} {v : Value} {g : Nat → Nat → Nat → Int} (h : Fns w v g) (k : Kept (fun _ => False) w w') : Fns w' v g := by
  obtain ⟨c, e, h⟩ := h; exact ⟨c, e, fun m hm => (h m hm).all k⟩
end Go.Proofs.Ythhagejcgobfgaa
namespace Go.Proofs.Ythhagejcgobfgaa
open Go.RowKit
theorem stcT_vector : StcT Try.prog 33 2 := ⟨_, Try.underlying33, rfl, by kernel_rfl⟩
end Go.Proofs.Ythhagejcgobfgaa
namespace Go.Proofs.Ythhagejcgobfgaa
open Go.RowKit

theorem Byt.row {A B : World} {row : Option Nat} {n : Nat} {T : Nat → Prop} {v : Value} {l : List Nat} (h : Byt A T v l) (hg : A.grownBy B row) (hr : RowNew n A row) : Byt B T v l := by
  obtain ⟨⟨a, cap, rfl, h1, h2, h3, hl, hc⟩, hL, hT⟩ := h
  have k := kept_row hg
  refine ⟨⟨a, cap, rfl, h1, h2, h3, hl, fun hpos => ?_⟩, hL.mono k, hT⟩
  obtain ⟨b, off, rfl, hb, hcell⟩ := hc hpos
  refine ⟨b, off, rfl, Nat.lt_of_lt_of_le hb k.size, fun i hi => (World.cell?_of_block (k.block b hb fun e => ?_)).trans (hcell i hi)⟩
  obtain ⟨_, o, ho, hn⟩ := hr b e.symm
  have := hcell 0 hpos
  unfold World.cell? at this
  simp only at this
  rw [ho] at this
  cases o <;> simp_all [Obj.isCells]
theorem Mrk.far {w : World} {D : Nat} {T : Nat → Prop} (hd : w.heap.size ≤ D) (hL : Live w T) : Apart (onB D) T := fun i hi ht => by
  cases hi
  exact absurd (hL _ ht) (by omega)



section
variable {P : Program} {ρ : Operand → Value} {o : Oper} {w : World} {R : Value → World → Prop}
theorem y_noNil {t t' : TypeId} {x y : Operand} {a : Addr} (ho : o.op = .binOp .eql t x y t') (hx : ρ x = .pointer (some a)) (hy : ρ y = .pointer none) {d : TypeId} (hu : P.underlying t = some (.pointer d)) (h : R (.bool false) w) : Yields P ρ o w R :=
  y_of (v := .bool false) (w' := w) (by
    have hq : P.underlying t = some (.pointer (P.pointee t)) := by simp [Program.pointee, hu]
    simp [execOp, ho, hx, hy, run_eql_pointer_nil w t (some a) hq, go_sem]) h
end
end Go.Proofs.Ythhagejcgobfgaa
namespace Go.Proofs.Ythhagejcgobfgaa
open Go.RowKit

/-- What is asked of one operation. U tells which operation uses an answer up. -/
def StepU (U : Nat → Option Nat) (P : Program) (R : World → Prop) (D : List (Option Tmp)) (G H : Nat → Value → World → Prop) (a0 : Act) (i : Nat) (o : Oper) : Prop :=
  ∀ (a : Act) (w : World), R w → (∀ t, some t ∉ D → a.eval (.tmp t) = a0.eval (.tmp t)) → Deps D (fun j v w => (U j = none ∨ U j = some i) → G j v w) a w o.after.toList →
    (goes D o a = true → Yields P a.eval o w (fun v w' => G i v w' ∧ R w' ∧ (∀ j x, j ≠ i → U j ≠ some i → G j x w → G j x w') ∧ (∀ j x, U j ≠ some i → H j x w → H j x w') ∧ ∀ j d, U j = some i → D[j]? = some (some d) → H j (a.eval (.tmp d)) w')) ∧ (goes D o a = false → G i undef w ∧ ∀ j, U j ≠ some i)
def StepsU (U : Nat → Option Nat) (P : Program) (R : World → Prop) (D : List (Option Tmp)) (G H : Nat → Value → World → Prop) (a0 : Act) : Nat → List Oper → Prop
  | _, [] => True
  | i, o :: r => StepU U P R D G H a0 i o ∧ StepsU U P R D G H a0 (i + 1) r
theorem StepsU.at {U : Nat → Option Nat} {P : Program} {R : World → Prop} {D : List (Option Tmp)} {G H : Nat → Value → World → Prop} {a0 : Act} : ∀ {i : Nat} {os : List Oper}, StepsU U P R D G H a0 i os → ∀ k o, os[k]? = some o → StepU U P R D G H a0 (i + k) o := by
  intro i os
  induction os generalizing i with
  | nil => intro _ k o h; simp at h
  | cons x r ih =>
    intro h k o hk
    cases k with
    | zero => simp at hk; subst hk; exact h.1
    | succ k =>
      simp at hk
      have := ih h.2 k o hk
      rwa [show i + 1 + k = i + (k + 1) by omega] at this
end Go.Proofs.Ythhagejcgobfgaa
namespace Go.Proofs.Ythhagejcgobfgaa
open Go.RowKit

/-- Which operation uses an answer up. -/
def usedBy (l : List (Nat × Nat)) (j : Nat) : Option Nat := (l.find? fun q => q.1 == j).map (·.2)
theorem usedBy_mem {l : List (Nat × Nat)} {j k : Nat} (h : usedBy l j = some k) : (j, k) ∈ l := by
  unfold usedBy at h
  cases hf : l.find? fun q => q.1 == j with
  | none => rw [hf] at h; cases h
  | some q =>
    rw [hf] at h
    cases h
    have h1 := List.find?_some hf
    have h2 := List.mem_of_find?_eq_some hf
    have : q.1 = j := by simpa using h1
    rw [← this]; exact h2
def noUse (l : List (Nat × Nat)) (i : Nat) : Bool := l.all fun q => q.2 != i
theorem noUse_at {l : List (Nat × Nat)} {i : Nat} (h : noUse l i = true) (j : Nat) : usedBy l j ≠ some i := fun e => by
  have := List.all_eq_true.1 h _ (usedBy_mem e)
  simp at this
def oneUse (l : List (Nat × Nat)) (i j : Nat) : Bool := l.all fun q => q.2 != i || q.1 == j
theorem oneUse_at {l : List (Nat × Nat)} {i j : Nat} (h : oneUse l i j = true) {j' : Nat} (e : usedBy l j' = some i) : j' = j := by
  have := List.all_eq_true.1 h _ (usedBy_mem e)
  simpa using this
/-- What is told to operation i. -/
def Told (l : List (Nat × Nat)) (Gs : List Pd) (i : Nat) : Nat → Value → World → Prop := fun j v w => (usedBy l j = none ∨ usedBy l j = some i) → Said Gs j v w
/-- What operation i leaves. -/
def Left (l : List (Nat × Nat)) (D : List (Option Tmp)) (Gs Hs : List Pd) (w0 : World) (i : Nat) (ρ : Operand → Value) (w : World) (v : Value) (w' : World) : Prop :=
  Said Gs i v w' ∧ Kept (fun _ => False) w0 w' ∧ (∀ j x, j ≠ i → usedBy l j ≠ some i → Said Gs j x w → Said Gs j x w') ∧ (∀ j x, usedBy l j ≠ some i → Said Hs j x w → Said Hs j x w') ∧ ∀ j d, usedBy l j = some i → D[j]? = some (some d) → Said Hs j (ρ (.tmp d)) w'
section
variable {P : Program} {N : Nat} {F : Nat → Value} {w : World} {Q : Exit → (Nat → Value) → World → Prop}

def StepFU (l : List (Nat × Nat)) (N : Nat) (P : Program) (D : List (Option Tmp)) (Gs Hs : List Pd) (F0 : Nat → Value) (w0 : World) (i : Nat) (o : Oper) : Prop :=
  ∀ (F : Nat → Value) (w : World), Kept (fun _ => False) w0 w → (∀ t, Nat.blt t N = true → some t ∉ D → F t = F0 t) → DepsF D (Told l Gs i) F w o.after.toList →
    match o.guard with
    | none => Yields P (ev F) o w (Left l D Gs Hs w0 i (ev F) w)
    | some (j, want) => ∃ d, D.getD j none = some d ∧
      ((F d = .bool want ∧ Yields P (ev F) o w (Left l D Gs Hs w0 i (ev F) w)) ∨ ((F d = .bool (!want) ∨ F d = undef) ∧ Said Gs i undef w ∧ noUse l i = true))
def StepsFU (l : List (Nat × Nat)) (N : Nat) (P : Program) (D : List (Option Tmp)) (Gs Hs : List Pd) (F0 : Nat → Value) (w0 : World) : Nat → List Oper → Prop
  | _, [] => True
  | i, o :: r => StepFU l N P D Gs Hs F0 w0 i o ∧ StepsFU l N P D Gs Hs F0 w0 (i + 1) r
theorem StepFU.step {l : List (Nat × Nat)} {D : List (Option Tmp)} {Gs Hs : List Pd} {w0 : World} {i : Nat} {o : Oper} {a0 : Act} (ha : Fr N F a0) (h : StepFU l N P D Gs Hs F w0 i o) : StepU (usedBy l) P (Kept (fun _ => False) w0) D (Said Gs) (Said Hs) a0 i o := by
  intro a w hR hout hD
  have h1 := h (fun t => a.tmps.getD t undef) w hR (fun t hb ht => by rw [← ha.at' t hb]; exact hout t ht) hD.toF
  rw [← eval_ev a] at h1
  unfold goes
  cases hg : o.guard with
  | none => rw [hg] at h1; exact ⟨fun _ => h1, fun e => by cases e⟩
  | some g =>
    obtain ⟨j, want⟩ := g
    rw [hg] at h1
    obtain ⟨d, hd, h1⟩ := h1
    simp only [hd]
    have hev : a.eval (.tmp d) = a.tmps.getD d undef := rfl
    rcases h1 with ⟨hv, hy⟩ | ⟨hv, hs⟩
    · rw [hev, hv]; exact ⟨fun _ => hy, fun e => by simp at e⟩
    · refine ⟨fun e => ?_, fun _ => ⟨hs.1, noUse_at hs.2⟩⟩
      rcases hv with hv | hv
      · rw [hev, hv] at e; cases want <;> simp at e
      · rw [hev, hv] at e; simp [undef] at e
theorem StepsFU.steps {l : List (Nat × Nat)} {D : List (Option Tmp)} {Gs Hs : List Pd} {w0 : World} {a0 : Act} (ha : Fr N F a0) : ∀ {os : List Oper} {i : Nat}, StepsFU l N P D Gs Hs F w0 i os → StepsU (usedBy l) P (Kept (fun _ => False) w0) D (Said Gs) (Said Hs) a0 i os := by
  intro os
  induction os with
  | nil => intro i _; exact trivial
  | cons o r ih => intro i h; exact ⟨h.1.step ha, ih h.2⟩
theorem left_plain {l : List (Nat × Nat)} {D : List (Option Tmp)} {Gs Hs : List Pd} {w0 w w' : World} {i : Nat} {ρ : Operand → Value} {v : Value} (hn : noUse l i = true) (hR : Kept (fun _ => False) w0 w) (h : Said Gs i v w' ∧ Kept (fun _ => False) w w') : Left l D Gs Hs w0 i ρ w v w' :=
  ⟨h.1, hR.trans h.2 (fun _ _ x => x), fun j _ _ _ hj => (Gs.getD j Pd.any).stays _ _ _ hj h.2, fun j _ _ hj => (Hs.getD j Pd.any).stays _ _ _ hj h.2, fun j _ e => absurd e (noUse_at hn j)⟩
theorem Yields.mono' {ρ : Operand → Value} {o : Oper} {R R' : Value → World → Prop} (h : Yields P ρ o w R) (hr : ∀ v w', R v w' → R' v w') : Yields P ρ o w R' := by
  revert h
  unfold Yields
  generalize (execOp ρ o).run P w = r
  intro h
  cases r with
  | ok n w' =>
    cases n <;> simp only at h ⊢ <;> first
      | exact hr _ _ h
      | exact h.elim
      | exact Calls.mono h (fun e w'' ⟨y, he, hk⟩ => ⟨y, he, hr _ _ hk⟩)
  | halt y w' => exact h.elim
theorem StepFU.one {l : List (Nat × Nat)} {D : List (Option Tmp)} {Gs Hs : List Pd} {F0 : Nat → Value} {w0 : World} {i : Nat} {o : Oper} (hn : noUse l i = true) (hg : o.guard = none)
    (h : ∀ (F : Nat → Value) (w : World), Kept (fun _ => False) w0 w → (∀ t, Nat.blt t N = true → some t ∉ D → F t = F0 t) → DepsF D (Told l Gs i) F w o.after.toList → Yields P (ev F) o w (fun v w' => Said Gs i v w' ∧ Kept (fun _ => False) w w')) : StepFU l N P D Gs Hs F0 w0 i o := by
  intro F w h1 h2 h3
  rw [hg]
  exact (h F w h1 h2 h3).mono' fun _ _ x => left_plain hn h1 x
theorem StepFU.when {l : List (Nat × Nat)} {D : List (Option Tmp)} {Gs Hs : List Pd} {F0 : Nat → Value} {w0 : World} {i : Nat} {o : Oper} (hn : noUse l i = true) (j : Nat) (want : Bool) (d : Tmp) (hg : o.guard = some (j, want)) (hd : D.getD j none = some d)
    (h : ∀ (F : Nat → Value) (w : World), Kept (fun _ => False) w0 w → (∀ t, Nat.blt t N = true → some t ∉ D → F t = F0 t) → DepsF D (Told l Gs i) F w o.after.toList → F d = .bool want ∧ Yields P (ev F) o w (fun v w' => Said Gs i v w' ∧ Kept (fun _ => False) w w')) : StepFU l N P D Gs Hs F0 w0 i o := by
  intro F w h1 h2 h3
  rw [hg]
  obtain ⟨hv, hy⟩ := h F w h1 h2 h3
  exact ⟨d, hd, .inl ⟨hv, hy.mono' fun _ _ x => left_plain hn h1 x⟩⟩
def Pd.under (Ty : TypeId → Prop) (p : Pd) : Prop := ∀ v w w' S, p.says v w → Kept S w w' → (∀ i, S i → ∀ c e f, w.heap[i]? = some (.cells c e f) → Ty e) → p.says v w'
theorem under_any {Ty : TypeId → Prop} : Pd.any.under Ty := fun _ _ _ _ _ _ _ => trivial
def AllUnder (Ty : TypeId → Prop) (skip : Nat → Bool) : Nat → List Pd → Prop
  | _, [] => True
  | k, p :: r => (skip k = true ∨ p.under Ty) ∧ AllUnder Ty skip (k + 1) r
theorem AllUnder.at {Ty : TypeId → Prop} {skip : Nat → Bool} : ∀ {Gs : List Pd} {k : Nat}, AllUnder Ty skip k Gs → ∀ j, skip (k + j) = false → (Gs.getD j Pd.any).under Ty := by
  intro Gs
  induction Gs with
  | nil => intro k _ j _; exact under_any
  | cons p r ih =>
    intro k h j hj
    cases j with
    | zero =>
      rcases h.1 with e | e
      · rw [Nat.add_zero] at hj; rw [hj] at e; cases e
      · exact e
    | succ j => exact ih h.2 j (by rw [show k + 1 + j = k + (j + 1) by omega]; exact hj)
/-- The operation that uses an answer up: it turns blocks that were made here. -/
theorem StepFU.turn {l : List (Nat × Nat)} {D : List (Option Tmp)} {Gs Hs : List Pd} {F0 : Nat → Value} {w0 : World} {i : Nat} {o : Oper} (j : Nat) (d : Tmp) (Ty : TypeId → Prop) (hg : o.guard = none) (hd : D[j]? = some (some d)) (h1u : oneUse l i j = true) (hu : AllUnder Ty (fun q => decide (q = i ∨ usedBy l q = some i)) 0 Gs) (hu2 : AllUnder Ty (fun q => decide (usedBy l q = some i)) 0 Hs)
    (h : ∀ (F : Nat → Value) (w : World), Kept (fun _ => False) w0 w → (∀ t, Nat.blt t N = true → some t ∉ D → F t = F0 t) → DepsF D (Told l Gs i) F w o.after.toList →
      Yields P (ev F) o w (fun v w' => Said Gs i v w' ∧ Said Hs j (F d) w' ∧ ∃ S, Kept S w w' ∧ (∀ x, S x → w0.heap.size ≤ x) ∧ ∀ x, S x → ∀ c e f, w.heap[x]? = some (.cells c e f) → Ty e)) : StepFU l N P D Gs Hs F0 w0 i o := by
  intro F w h1 h2 h3
  rw [hg]
  refine (h F w h1 h2 h3).mono' fun v w' ⟨hs, hs2, S, k, hn, ht⟩ => ⟨hs, h1.trans k (fun x hx hS => absurd (hn x hS) (by omega)), fun q x hj hU hx => ?_, fun q x hU hx => ?_, fun q d' hU hq => ?_⟩
  · exact hu.at q (by rw [Nat.zero_add]; exact decide_eq_false (fun e => e.elim hj hU)) x w w' S hx k ht
  · exact hu2.at q (by rw [Nat.zero_add]; exact decide_eq_false hU) x w w' S hx k ht
  · have e := oneUse_at h1u hU
    subst e
    rw [hd] at hq
    cases hq
    exact hs2

end
end Go.Proofs.Ythhagejcgobfgaa
namespace Go.Proofs.Ythhagejcgobfgaa
open Go.RowKit

/-- What is said of an operation: what it answers; that it turns the block of operation j; that it makes a block that holds zs until operation k, and us from then on; that it turns a block that was there. -/
inductive Pc where
  | eq (v : Value)
  | turn (j : Nat)
  | blk (t : TypeId) (zs : List Value) (k : Nat) (us : List Value)
  | told (p : Nat) (t : TypeId) (zs us : List Value)
def Pc.none : Pc := .eq undef
def isBlk : Pc → Bool
  | .blk _ _ _ _ => true
  | _ => false
def HoldC (n0 : Nat) (p : Pc) (L : Nat → Bool) (v : Value) (w : World) : Prop := match p with
  | .eq x => v = x
  | .turn _ => True
  | .told _ _ _ _ => True
  | .blk t zs k us => ∃ q, v = .pointer (some ⟨q, 0, none⟩) ∧ n0 ≤ q ∧ Stc w q t (if L k = true then us else zs)
/-- The blocks that were there and are turned: they are there, and none is another one. -/
def NotTold (p : Nat) : List Pc → Prop
  | [] => True
  | .told q _ _ _ :: r => p ≠ q ∧ NotTold p r
  | .eq _ :: r => NotTold p r
  | .turn _ :: r => NotTold p r
  | .blk _ _ _ _ :: r => NotTold p r
def Olds (S : Nat → Prop) (w0 : World) : List Pc → Prop
  | [] => True
  | .told p t zs _ :: r => (S p ∧ Stc w0 p t zs ∧ NotTold p r) ∧ Olds S w0 r
  | .eq _ :: r => Olds S w0 r
  | .turn _ :: r => Olds S w0 r
  | .blk _ _ _ _ :: r => Olds S w0 r
theorem NotTold.at {p : Nat} : ∀ {Gs : List Pc}, NotTold p Gs → ∀ i q t zs us, Gs.getD i Pc.none = .told q t zs us → p ≠ q := by
  intro Gs
  induction Gs with
  | nil => intro _ i q t zs us h; cases h
  | cons g r ih =>
    intro h i q t zs us e
    cases i with
    | zero =>
      have e : g = .told q t zs us := by simpa using e
      subst e; exact h.1
    | succ i =>
      have e : r.getD i Pc.none = .told q t zs us := by simpa using e
      cases g <;> first | exact ih h.2 i q t zs us e | exact ih h i q t zs us e
theorem Olds.at {S : Nat → Prop} {w0 : World} : ∀ {Gs : List Pc}, Olds S w0 Gs → ∀ i p t zs us, Gs.getD i Pc.none = .told p t zs us → S p ∧ Stc w0 p t zs := by
  intro Gs
  induction Gs with
  | nil => intro _ i q t zs us h; cases h
  | cons g r ih =>
    intro h i q t zs us e
    cases i with
    | zero =>
      have e : g = .told q t zs us := by simpa using e
      subst e; exact ⟨h.1.1, h.1.2.1⟩
    | succ i =>
      have e : r.getD i Pc.none = .told q t zs us := by simpa using e
      cases g <;> first | exact ih h.2 i q t zs us e | exact ih h i q t zs us e
theorem Olds.ne {S : Nat → Prop} {w0 : World} : ∀ {Gs : List Pc}, Olds S w0 Gs → ∀ i j p t zs us p' t' zs' us', i ≠ j → Gs.getD i Pc.none = .told p t zs us → Gs.getD j Pc.none = .told p' t' zs' us' → p ≠ p' := by
  intro Gs
  induction Gs with
  | nil => intro _ i j p t zs us p' t' zs' us' _ h; cases h
  | cons g r ih =>
    intro h i j p t zs us p' t' zs' us' hij e1 e2
    cases i with
    | zero =>
      have e1 : g = .told p t zs us := by simpa using e1
      subst e1
      cases j with
      | zero => exact absurd rfl hij
      | succ j => exact h.1.2.2.at j p' t' zs' us' (by simpa using e2)
    | succ i =>
      cases j with
      | zero =>
        have e2 : g = .told p' t' zs' us' := by simpa using e2
        subst e2
        exact fun e => h.1.2.2.at i p t zs us (by simpa using e1) e.symm
      | succ j =>
        have hr : Olds S w0 r := by cases g <;> first | exact h.2 | exact h
        exact ih hr i j p t zs us p' t' zs' us' (fun e => hij (by rw [e])) (by simpa using e1) (by simpa using e2)
structure JC (S : Nat → Prop) (w0 : World) (Gs : List Pc) (L : Nat → Bool) (v : Nat → Value) (w : World) : Prop where
  kept : Kept S w0 w
  olds : ∀ i p t zs us, Gs.getD i Pc.none = .told p t zs us → Stc w p t (if L i = true then us else zs)
  holds : ∀ i, L i = true → HoldC w0.heap.size (Gs.getD i Pc.none) L (v i) w
  apart : ∀ i j, i ≠ j → L i = true → L j = true → isBlk (Gs.getD i Pc.none) = true → isBlk (Gs.getD j Pc.none) = true → v i ≠ v j
  clos : ∀ k j, L k = true → Gs.getD k Pc.none = .turn j → L j = true
/-- Each block is turned by one operation, that waits for it. -/
def wfAt (os : List Oper) (D : List (Option Tmp)) (Gs : List Pc) (i : Nat) : Pc → Bool
  | .eq _ => true
  | .told _ _ _ _ => true
  | .turn j => (match Gs.getD j Pc.none with | .blk _ _ k _ => k == i | _ => false) && (match D.getD j none with | some _ => true | none => false) && (match os[i]? with | some o => waitsOn o j | none => false)
  | .blk _ _ k _ => match Gs.getD k Pc.none with | .turn j => j == i | _ => false
def wfC (os : List Oper) (D : List (Option Tmp)) (Gs : List Pc) : Bool := (List.range Gs.length).all fun i => wfAt os D Gs i (Gs.getD i Pc.none)
theorem wfC_at {os : List Oper} {D : List (Option Tmp)} {Gs : List Pc} (h : wfC os D Gs = true) (i : Nat) : wfAt os D Gs i (Gs.getD i Pc.none) = true := by
  by_cases hi : i < Gs.length
  · exact List.all_eq_true.1 h i (List.mem_range.2 hi)
  · have : Gs.getD i Pc.none = Pc.none := by simp [List.getD, List.getElem?_eq_none (show Gs.length ≤ i by omega)]
    rw [this]; rfl
theorem wf_blk {os : List Oper} {D : List (Option Tmp)} {Gs : List Pc} (h : wfC os D Gs = true) {i k : Nat} {t : TypeId} {zs us : List Value} (e : Gs.getD i Pc.none = .blk t zs k us) : Gs.getD k Pc.none = .turn i := by
  have := wfC_at h i
  rw [e] at this
  simp only [wfAt] at this
  split at this
  · rename_i j hj; rw [hj]; have : j = i := by simpa using this
    rw [this]
  · cases this

/-- What is told to operation i of those that it waits for. -/
def ToldC (n0 : Nat) (Gs : List Pc) (i : Nat) : Nat → Value → World → Prop := fun j v w => match Gs.getD j Pc.none with
  | .eq x => v = x
  | .turn _ => True
  | .told _ _ _ _ => True
  | .blk t zs k _ => k = i → ∃ q, v = .pointer (some ⟨q, 0, none⟩) ∧ n0 ≤ q ∧ Stc w q t zs
def LeftC (Gs : List Pc) (D : List (Option Tmp)) (i : Nat) (ρ : Operand → Value) (w : World) (v : Value) (w' : World) : Prop := match Gs.getD i Pc.none with
  | .eq x => v = x ∧ Kept (fun _ => False) w w'
  | .blk t zs _ _ => ∃ q, v = .pointer (some ⟨q, 0, none⟩) ∧ w.heap.size ≤ q ∧ Stc w' q t zs ∧ Kept (fun _ => False) w w'
  | .told p t _ us => Stc w' p t us ∧ Kept (onB p) w w'
  | .turn j => ∃ d q, D.getD j none = some d ∧ ρ (.tmp d) = .pointer (some ⟨q, 0, none⟩) ∧ (∀ t zs us, Gs.getD j Pc.none = .blk t zs i us → Stc w' q t us) ∧ Kept (onB q) w w'
section
variable {P : Program} {N : Nat} {F : Nat → Value} {w : World} {Q : Exit → (Nat → Value) → World → Prop}
def StepFC (S : Nat → Prop) (N : Nat) (P : Program) (D : List (Option Tmp)) (Gs : List Pc) (F0 : Nat → Value) (w0 : World) (i : Nat) (o : Oper) : Prop :=
  ∀ (F : Nat → Value) (w : World), Kept S w0 w → (∀ t, Nat.blt t N = true → some t ∉ D → F t = F0 t) → DepsF D (ToldC w0.heap.size Gs i) F w o.after.toList → (∀ p t zs us, Gs.getD i Pc.none = .told p t zs us → Stc w p t zs) →
    match o.guard with
    | none => Yields P (ev F) o w (LeftC Gs D i (ev F) w)
    | some (j, want) => ∃ d, D.getD j none = some d ∧
      ((F d = .bool want ∧ Yields P (ev F) o w (LeftC Gs D i (ev F) w)) ∨ ((F d = .bool (!want) ∨ F d = undef) ∧ Gs.getD i Pc.none = .eq undef))
def StepsFC (S : Nat → Prop) (N : Nat) (P : Program) (D : List (Option Tmp)) (Gs : List Pc) (F0 : Nat → Value) (w0 : World) : Nat → List Oper → Prop
  | _, [] => True
  | i, o :: r => StepFC S N P D Gs F0 w0 i o ∧ StepsFC S N P D Gs F0 w0 (i + 1) r
theorem StepFC.one {S : Nat → Prop} {D : List (Option Tmp)} {Gs : List Pc} {F0 : Nat → Value} {w0 : World} {i : Nat} {o : Oper} (hg : o.guard = none)
    (h : ∀ (F : Nat → Value) (w : World), Kept S w0 w → (∀ t, Nat.blt t N = true → some t ∉ D → F t = F0 t) → DepsF D (ToldC w0.heap.size Gs i) F w o.after.toList → Yields P (ev F) o w (LeftC Gs D i (ev F) w)) : StepFC S N P D Gs F0 w0 i o := by
  intro F w h1 h2 h3 _
  rw [hg]
  exact h F w h1 h2 h3
theorem StepFC.old {S : Nat → Prop} {D : List (Option Tmp)} {Gs : List Pc} {F0 : Nat → Value} {w0 : World} {i p : Nat} {t : TypeId} {zs us : List Value} {o : Oper} (hg : o.guard = none) (he : Gs.getD i Pc.none = .told p t zs us)
    (h : ∀ (F : Nat → Value) (w : World), Kept S w0 w → (∀ t, Nat.blt t N = true → some t ∉ D → F t = F0 t) → DepsF D (ToldC w0.heap.size Gs i) F w o.after.toList → Stc w p t zs → Yields P (ev F) o w (fun _ w' => Stc w' p t us ∧ Kept (onB p) w w')) : StepFC S N P D Gs F0 w0 i o := by
  intro F w h1 h2 h3 h4
  rw [hg]
  refine (h F w h1 h2 h3 (h4 _ _ _ _ he)).mono' fun v w' hx => ?_
  unfold LeftC
  rw [he]; exact hx
theorem StepFC.when {S : Nat → Prop} {D : List (Option Tmp)} {Gs : List Pc} {F0 : Nat → Value} {w0 : World} {i : Nat} {o : Oper} (j : Nat) (want : Bool) (d : Tmp) (hg : o.guard = some (j, want)) (hd : D.getD j none = some d)
    (h : ∀ (F : Nat → Value) (w : World), Kept S w0 w → (∀ t, Nat.blt t N = true → some t ∉ D → F t = F0 t) → DepsF D (ToldC w0.heap.size Gs i) F w o.after.toList → F d = .bool want ∧ Yields P (ev F) o w (LeftC Gs D i (ev F) w)) : StepFC S N P D Gs F0 w0 i o := by
  intro F w h1 h2 h3 _
  rw [hg]
  exact ⟨d, hd, .inl (h F w h1 h2 h3)⟩
theorem upL_here {L : Nat → Bool} {i : Nat} : upL L i i = true := if_pos rfl
theorem upL_ne {L : Nat → Bool} {i j : Nat} (h : j ≠ i) : upL L i j = L j := if_neg h
theorem upV_here {v : Nat → Value} {i : Nat} {x : Value} : upV v i x i = x := if_pos rfl
theorem upV_ne {v : Nat → Value} {i j : Nat} {x : Value} (h : j ≠ i) : upV v i x j = v j := if_neg h
theorem getElem_getD {α : Type} {l : List α} {d x : α} {i : Nat} (h : l.getD i d = x) (hn : x ≠ d) : l[i]? = some x := by
  unfold List.getD at h
  cases hq : l[i]? with
  | none => rw [hq] at h; exact absurd h.symm hn
  | some y => rw [hq] at h; simpa using h

/-- One more operation that is no turn. -/
theorem JC.more {S : Nat → Prop} {os : List Oper} {D : List (Option Tmp)} {Gs : List Pc} {w0 w w' : World} {L : Nat → Bool} {v : Nat → Value} {i : Nat} {x : Value} (hwf : wfC os D Gs = true) (h : JC S w0 Gs L v w) (hi : L i = false) (k : Kept (fun _ => False) w w')
    (hnt : ∀ j, Gs.getD i Pc.none ≠ .turn j) (hnd : ∀ p t zs us, Gs.getD i Pc.none ≠ .told p t zs us) (hx : HoldC w0.heap.size (Gs.getD i Pc.none) (upL L i) x w') (hb : isBlk (Gs.getD i Pc.none) = true → ∃ q, x = .pointer (some ⟨q, 0, none⟩) ∧ w.heap.size ≤ q) : JC S w0 Gs (upL L i) (upV v i x) w' := by
  have hkeep : ∀ j, L j = true → HoldC w0.heap.size (Gs.getD j Pc.none) (upL L i) (v j) w' := by
    intro j hj
    have := h.holds j hj
    revert this
    cases e : Gs.getD j Pc.none with
    | eq y => exact id
    | turn y => exact id
    | told y1 y2 y3 y4 => exact id
    | blk t zs kk us =>
      rintro ⟨q, e1, e2, e3⟩
      have hki : kk ≠ i := fun e' => hnt j (by rw [← e']; exact wf_blk hwf e)
      refine ⟨q, e1, e2, ?_⟩
      rw [upL_ne hki]
      exact e3.all k id
  refine ⟨h.kept.trans k (fun _ _ x => x.elim), fun j p t zs us hj => ?_, fun j hj => ?_, fun a b hab ha hb' hA hB => ?_, fun a b ha hab => ?_⟩
  · have hji : j ≠ i := fun e => hnd p t zs us (by rw [← e]; exact hj)
    rw [upL_ne hji]
    exact (h.olds j p t zs us hj).all k id
  · by_cases hji : j = i
    · subst hji; rw [upV_here]; exact hx
    · rw [upL_ne hji] at hj; rw [upV_ne hji]; exact hkeep j hj
  · have hnew : ∀ c, c ≠ i → L c = true → isBlk (Gs.getD c Pc.none) = true → isBlk (Gs.getD i Pc.none) = true → v c ≠ x := by
      intro c _ hc hC hI e
      obtain ⟨q, e1, e2⟩ := hb hI
      have := h.holds c hc
      revert this hC
      cases e' : Gs.getD c Pc.none with
      | eq y => intro hC; cases hC
      | turn y => intro hC; cases hC
      | told y1 y2 y3 y4 => intro hC; cases hC
      | blk t zs kk us =>
        rintro - ⟨q', f1, f2, f3⟩
        rw [f1, e1] at e
        cases e
        have := f3.lt
        omega
    by_cases hai : a = i
    · subst hai
      have hba : b ≠ a := fun e => hab e.symm
      rw [upL_ne hba] at hb'
      rw [upV_here, upV_ne hba]
      exact fun e => hnew b hba hb' hB hA e.symm
    · rw [upL_ne hai] at ha
      rw [upV_ne hai]
      by_cases hbi : b = i
      · subst hbi; rw [upV_here]; exact hnew a hai ha hA hB
      · rw [upL_ne hbi] at hb'; rw [upV_ne hbi]; exact h.apart a b hab ha hb' hA hB
  · by_cases hai : a = i
    · subst hai; exact absurd hab (hnt b)
    · rw [upL_ne hai] at ha
      have := h.clos a b ha hab
      by_cases hbi : b = i
      · subst hbi; exact upL_here
      · rw [upL_ne hbi]; exact this
/-- One more turn. -/
theorem JC.turned {S : Nat → Prop} {os : List Oper} {D : List (Option Tmp)} {Gs : List Pc} {w0 w w' : World} {L : Nat → Bool} {v : Nat → Value} {i j q : Nat} {x : Value} (hwf : wfC os D Gs = true) (hO : Olds S w0 Gs) (h : JC S w0 Gs L v w) (hi : L i = false) (hj : L j = true) (he : Gs.getD i Pc.none = .turn j)
    (hv : v j = .pointer (some ⟨q, 0, none⟩)) (hq : ∀ t zs us, Gs.getD j Pc.none = .blk t zs i us → Stc w' q t us) (k : Kept (onB q) w w') : JC S w0 Gs (upL L i) (upV v i x) w' := by
  have hw := wfC_at hwf i
  rw [he] at hw
  simp only [wfAt, Bool.and_eq_true] at hw
  have hn0 : w0.heap.size ≤ q := by
    have := h.holds j hj
    revert this
    obtain ⟨⟨h1, _⟩, _⟩ := hw
    cases e : Gs.getD j Pc.none with
    | eq y => rw [e] at h1; cases h1
    | turn y => rw [e] at h1; cases h1
    | told y1 y2 y3 y4 => rw [e] at h1; cases h1
    | blk t zs kk us =>
      rintro ⟨q', e1, e2, _⟩
      rw [hv] at e1; cases e1; exact e2
  have hjB : isBlk (Gs.getD j Pc.none) = true := by
    obtain ⟨⟨h1, _⟩, _⟩ := hw
    cases e : Gs.getD j Pc.none with
    | eq y => rw [e] at h1; cases h1
    | turn y => rw [e] at h1; cases h1
    | told y1 y2 y3 y4 => rw [e] at h1; cases h1
    | blk t zs kk us => rfl
  refine ⟨h.kept.trans k (fun b hb e => by cases e; omega), fun a p t zs us ha => ?_, fun a ha => ?_, fun a b hab ha hb hA hB => ?_, fun a b ha hab => ?_⟩
  · have hai : a ≠ i := fun e => by rw [e, he] at ha; cases ha
    rw [upL_ne hai]
    exact (h.olds a p t zs us ha).all k (fun e => by have := (hO.at a p t zs us ha).2.lt; rw [show p = q from e] at this; omega)
  · by_cases hai : a = i
    · subst hai; rw [upV_here, he]; exact trivial
    · rw [upL_ne hai] at ha; rw [upV_ne hai]
      have := h.holds a ha
      revert this
      cases e : Gs.getD a Pc.none with
      | eq y => exact id
      | turn y => exact id
      | told y1 y2 y3 y4 => exact id
      | blk t zs kk us =>
        rintro ⟨q', e1, e2, e3⟩
        have hk := wf_blk hwf e
        by_cases haj : a = j
        · subst haj
          have hki : kk = i := by
            obtain ⟨⟨h1, _⟩, _⟩ := hw
            rw [e] at h1; simpa using h1
          subst hki
          rw [hv] at e1; cases e1
          refine ⟨q, hv, hn0, ?_⟩
          rw [if_pos upL_here]
          exact hq t zs us e
        · have hki : kk ≠ i := fun e' => by rw [e', he] at hk; cases hk; exact haj rfl
          refine ⟨q', e1, e2, ?_⟩
          rw [upL_ne hki]
          refine e3.all k (fun e' => ?_)
          have := h.apart a j haj ha hj (by rw [e]; rfl) hjB
          rw [e1, hv] at this
          exact this (by rw [show q' = q from e'])
  · have hni : ∀ c, isBlk (Gs.getD c Pc.none) = true → c ≠ i := fun c hc e => by rw [e, he] at hc; cases hc
    rw [upV_ne (hni a hA), upV_ne (hni b hB)]
    rw [upL_ne (hni a hA)] at ha
    rw [upL_ne (hni b hB)] at hb
    exact h.apart a b hab ha hb hA hB
  · by_cases hai : a = i
    · subst hai
      rw [he] at hab; cases hab
      by_cases hji : j = a
      · subst hji; exact upL_here
      · rw [upL_ne hji]; exact hj
    · rw [upL_ne hai] at ha
      have := h.clos a b ha hab
      by_cases hbi : b = i
      · subst hbi; exact upL_here
      · rw [upL_ne hbi]; exact this

/-- One more turn of a block that was there. -/
theorem JC.oldTurned {S : Nat → Prop} {os : List Oper} {D : List (Option Tmp)} {Gs : List Pc} {w0 w w' : World} {L : Nat → Bool} {v : Nat → Value} {i p : Nat} {t : TypeId} {zs us : List Value} {x : Value} (hwf : wfC os D Gs = true) (hO : Olds S w0 Gs) (h : JC S w0 Gs L v w) (he : Gs.getD i Pc.none = .told p t zs us)
    (hq : Stc w' p t us) (k : Kept (onB p) w w') : JC S w0 Gs (upL L i) (upV v i x) w' := by
  have hp := hO.at i p t zs us he
  have hni : ∀ c, isBlk (Gs.getD c Pc.none) = true → c ≠ i := fun c hc e => by rw [e, he] at hc; cases hc
  refine ⟨h.kept.trans k (fun b hb e => by cases e; exact hp.1), fun a p' t' zs' us' ha => ?_, fun a ha => ?_, fun a b hab ha hb hA hB => ?_, fun a b ha hab => ?_⟩
  · by_cases hai : a = i
    · subst hai
      rw [he] at ha; cases ha
      rw [if_pos upL_here]; exact hq
    · rw [upL_ne hai]
      exact (h.olds a p' t' zs' us' ha).all k (fun e => hO.ne a i p' t' zs' us' p t zs us hai ha he e)
  · by_cases hai : a = i
    · subst hai; rw [upV_here, he]; exact trivial
    · rw [upL_ne hai] at ha; rw [upV_ne hai]
      have := h.holds a ha
      revert this
      cases e : Gs.getD a Pc.none with
      | eq y => exact id
      | turn y => exact id
      | told y1 y2 y3 y4 => exact id
      | blk t zs kk us =>
        rintro ⟨q', e1, e2, e3⟩
        have hk := wf_blk hwf e
        have hki : kk ≠ i := fun e' => by rw [e', he] at hk; cases hk
        refine ⟨q', e1, e2, ?_⟩
        rw [upL_ne hki]
        exact e3.all k (fun e' => by have := hp.2.lt; rw [show q' = p from e'] at e2; omega)
  · rw [upV_ne (hni a hA), upV_ne (hni b hB)]
    rw [upL_ne (hni a hA)] at ha
    rw [upL_ne (hni b hB)] at hb
    exact h.apart a b hab ha hb hA hB
  · have hai : a ≠ i := fun e => by rw [e, he] at hab; cases hab
    rw [upL_ne hai] at ha
    have := h.clos a b ha hab
    by_cases hbi : b = i
    · subst hbi; exact upL_here
    · rw [upL_ne hbi]; exact this

theorem StepFC.step {S : Nat → Prop} {os : List Oper} {D : List (Option Tmp)} {Gs : List Pc} {w0 : World} {i : Nat} {o : Oper} {a0 : Act} (hwf : wfC os D Gs = true) (hO : Olds S w0 Gs) (ho : os[i]? = some o) (ha : Fr N F a0) (h : StepFC S N P D Gs F w0 i o) : StepJ os P D (JC S w0 Gs) a0 i o := by
  intro L v a w hJ hi hdone hout hhere _
  have hdeps : DepsF D (ToldC w0.heap.size Gs i) (fun t => a.tmps.getD t undef) w o.after.toList := by
    refine Deps.toF (Deps.mk fun e he hb d hd => ?_)
    have hl := hdone e he hb
    have hDe := getElem_getD hd (by simp)
    have hv := hhere e.on d hl hDe
    rw [hv]
    have := hJ.holds e.on hl
    unfold ToldC
    revert this
    cases e' : Gs.getD e.on Pc.none with
    | eq y => exact id
    | turn y => exact id
    | told y1 y2 y3 y4 => exact id
    | blk t zs kk us =>
      rintro ⟨q, e1, e2, e3⟩ hk
      refine ⟨q, e1, e2, ?_⟩
      subst hk
      rw [hi, if_neg (by simp)] at e3
      exact e3
  have h1 := h (fun t => a.tmps.getD t undef) w hJ.kept (fun t hb ht => by rw [← ha.at' t hb]; exact hout t ht) hdeps (fun p t zs us e => by have := hJ.olds i p t zs us e; rw [hi, if_neg (by simp)] at this; exact this)
  rw [← eval_ev a] at h1
  have hleft : ∀ x w', LeftC Gs D i a.eval w x w' → JC S w0 Gs (upL L i) (upV v i x) w' := by
    intro x w' hx
    unfold LeftC at hx
    cases e : Gs.getD i Pc.none with
    | eq y =>
      rw [e] at hx
      exact hJ.more hwf hi hx.2 (fun j hj => by rw [e] at hj; cases hj) (fun _ _ _ _ hj => by rw [e] at hj; cases hj) (by rw [e]; exact hx.1) (by rw [e]; intro hb; cases hb)
    | blk t zs kk us =>
      rw [e] at hx
      obtain ⟨q, e1, e2, e3, e4⟩ := hx
      have hk := wf_blk hwf e
      have hki : kk ≠ i := fun e' => by rw [e', e] at hk; cases hk
      have hLk : L kk = false := by
        cases hq : L kk with
        | false => rfl
        | true => have := hJ.clos kk i hq hk; rw [hi] at this; cases this
      refine hJ.more hwf hi e4 (fun j hj => by rw [e] at hj; cases hj) (fun _ _ _ _ hj => by rw [e] at hj; cases hj) ?_ (fun _ => ⟨q, e1, e2⟩)
      rw [e]
      refine ⟨q, e1, Nat.le_trans hJ.kept.size e2, ?_⟩
      rw [upL_ne hki, hLk, if_neg (by simp)]
      exact e3
    | told p t zs us =>
      rw [e] at hx
      exact hJ.oldTurned hwf hO e hx.1 hx.2
    | turn j =>
      rw [e] at hx
      obtain ⟨d, q, hd, e1, e2, e3⟩ := hx
      have hw := wfC_at hwf i
      rw [e] at hw
      simp only [wfAt, Bool.and_eq_true, ho] at hw
      obtain ⟨ed, hed, hb, hon⟩ := waitsOn_iff.1 hw.2
      have hLj := hdone ed hed hb
      rw [hon] at hLj
      have hv := hhere j d hLj (getElem_getD hd (by simp))
      exact hJ.turned hwf hO hi hLj e (by rw [← hv]; exact e1) e2 e3
  unfold goes
  cases hg : o.guard with
  | none => rw [hg] at h1; exact ⟨fun _ => h1.mono' hleft, fun e => by cases e⟩
  | some g =>
    obtain ⟨j, want⟩ := g
    rw [hg] at h1
    obtain ⟨d, hd, h1⟩ := h1
    simp only [hd]
    have hev : a.eval (.tmp d) = a.tmps.getD d undef := rfl
    rcases h1 with ⟨hv, hy⟩ | ⟨hv, hs⟩
    · rw [hev, hv]; exact ⟨fun _ => hy.mono' hleft, fun e => by simp at e⟩
    · refine ⟨fun e => ?_, fun _ => hJ.more hwf hi (Kept.refl _ _) (fun j hj => by rw [hs] at hj; cases hj) (fun _ _ _ _ hj => by rw [hs] at hj; cases hj) (by rw [hs]; rfl) (by rw [hs]; intro hb; cases hb)⟩
      rcases hv with hv | hv
      · rw [hev, hv] at e; cases want <;> simp at e
      · rw [hev, hv] at e; simp [undef] at e
theorem StepsFC.steps {S : Nat → Prop} {all : List Oper} {D : List (Option Tmp)} {Gs : List Pc} {w0 : World} {a0 : Act} (hwf : wfC all D Gs = true) (hO : Olds S w0 Gs) (ha : Fr N F a0) : ∀ {os : List Oper} {i : Nat}, (∀ k o, os[k]? = some o → all[i + k]? = some o) → StepsFC S N P D Gs F w0 i os → StepsJ all P D (JC S w0 Gs) a0 i os := by
  intro os
  induction os with
  | nil => intro i _ _; exact trivial
  | cons o r ih =>
    intro i hat h
    exact ⟨h.1.step hwf hO (hat 0 o rfl) ha, ih (fun k o' hk => by have := hat (k + 1) o' hk; rwa [show i + (k + 1) = i + 1 + k by omega] at this) h.2⟩
end
end Go.Proofs.Ythhagejcgobfgaa
namespace Go.Proofs.Ythhagejcgobfgaa
open Go.RowKit

def sameVec (a b c d : Int) : Bool := decide (a = c) && decide (b = d)
theorem sameVec_self (a b : Int) : sameVec a b a b = true := by unfold sameVec; simp
theorem Try.vecFields : (Try.prog.fieldsOf 33).toList.map (fun f => (f.name, f.type, f.offset)) = [("X", 3, 0), ("Y", 3, 1)] := by kernel_rfl
theorem part_int (w : World) (xs : Array Value) (i : Nat) (z : Int) (h : xs[i]? = some (.int .i64 z)) : (part 3 xs i).run Try.prog w = .ok (.int .i64 z) w := by
  simp [part, isAgg, run_underlying Try.underlying3, h]
theorem run_same_vec (w : World) (a b c d : Int) : (Op.equalIn 10000 33 (.agg #[.int .i64 a, .int .i64 b]) (.agg #[.int .i64 c, .int .i64 d])).run Try.prog w = .ok (sameVec a b c d) w := by
  rw [run_equalIn_struct w 9999 _ _ _ (by kernel_rfl) (by kernel_rfl)]
  have hf := Try.vecFields
  generalize (Try.prog.fieldsOf 33).toList = fs at hf
  have hlen : fs.length = 2 := by simpa using congrArg List.length hf
  have p1 := part_int w #[.int .i64 a, .int .i64 b] 0 a rfl
  have p2 := part_int w #[.int .i64 c, .int .i64 d] 0 c rfl
  have p3 := part_int w #[.int .i64 a, .int .i64 b] 1 b rfl
  have p4 := part_int w #[.int .i64 c, .int .i64 d] 1 d rfl
  match fs, hlen with
  | [f0, f1], _ =>
    simp only [List.map_cons, List.map_nil, List.cons.injEq, Prod.mk.injEq, and_true] at hf
    obtain ⟨⟨n0, t0, o0⟩, ⟨n1, t1, o1⟩⟩ := hf
    simp only [Op.eqFields, n0, t0, o0, n1, t1, o1]
    rw [if_pos (by decide), if_pos (by decide)]
    simp only [Sem.run_bind, p1, p2, Result.andThen_ok, run_equalIn_int w 9998 3 .i64 .i64 _ _ Try.underlying3]
    unfold sameVec
    by_cases h1 : a = c
    · subst h1
      simp only [beq_self_eq_true, Bool.not_true, Bool.false_eq_true, if_false, Sem.run_bind, p3, p4, Result.andThen_ok, run_equalIn_int w 9998 3 .i64 .i64 _ _ Try.underlying3]
      by_cases h2 : b = d
      · subst h2; simp
      · have : (b == d) = false := by simpa using h2
        simp [this, h2]
    · have : (a == c) = false := by simpa using h1
      simp [this, h1]
theorem Try.guard_vec : Try.prog.eqGuardType Try.prog.depth 33 = false := by kernel_rfl
section
variable {ρ : Operand → Value} {o : Oper} {w : World} {R : Value → World → Prop}
theorem y_eqlVec {t' : TypeId} {x y : Operand} {a b c d : Int} {q : Bool} (ho : o.op = .binOp .eql 33 x y t') (hx : ρ x = .agg #[.int .i64 a, .int .i64 b]) (hy : ρ y = .agg #[.int .i64 c, .int .i64 d]) (hr : sameVec a b c d = q) (h : R (.bool q) w) : Yields Try.prog ρ o w R :=
  y_of (v := .bool (sameVec a b c d)) (w' := w) (by simp only [execOp, ho, hx, hy, Sem.run_bind, run_eqGuard_agg w .eql _ _ _ _ _ Try.guard_vec, run_eql_struct, run_same_vec, Result.andThen_ok, Sem.run_pure]) (by rw [hr]; exact h)
end

def Cin (w : World) (T : Nat → Prop) (p : Nat) (n : Int) : Prop := T = onB p ∧ Cel w p 3 (.int .i64 n)
theorem Cin.live {w : World} {T : Nat → Prop} {p : Nat} {n : Int} (h : Cin w T p n) : Live w T := by
  obtain ⟨rfl, h⟩ := h; exact onB_live h.lt
theorem Cin.all {S : Nat → Prop} {w w' : World} {T : Nat → Prop} {p : Nat} {n : Int} (h : Cin w T p n) (k : Kept S w w') (ha : Apart T S) : Cin w' T p n := by
  obtain ⟨rfl, h⟩ := h; exact ⟨rfl, h.all k (ha p rfl)⟩
theorem Cin.cells {w : World} {T : Nat → Prop} {p : Nat} {n : Int} (h : Cin w T p n) : Cells w T := by
  obtain ⟨rfl, h⟩ := h; exact h.cells
theorem Cin.row {A B : World} {row : Option Nat} {m p : Nat} {T : Nat → Prop} {n : Int} (h : Cin A T p n) (hg : A.grownBy B row) (hr : RowNew m A row) : Cin B T p n := h.all (kept_row hg) (h.cells.apart hr)

set_option maxHeartbeats 4000000 in
set_option maxRecDepth 100000 in
theorem mo_mayGo (n : Int) (w0 : World) :
    Calls Try.prog 46 #[.int .i64 (n)] w0 fun e w' => e = .returned (.bool (decide (-31 ≤ n ∧ n ≤ 31))) ∧ Kept (fun _ => False) w0 w' := by
  refine calls_wq (args := [.int .i64 (n)]) 9 Try.func46 rfl rfl (Nat.le_of_ble_eq_true rfl) ?_
  have K0 := Kept.refl (fun _ => False) w0
  refine wq_seq ?_
  refine wq_region ?_
  refine wl_v (.bool false) rfl rfl (y_asg rfl rfl ⟨rfl, rfl⟩) ?_
  refine wl_nil fun F1 hF2 => ?_
  have s3 : F1 0 = .int .i64 (n) := (hF2 0).trans rfl
  have s4 : F1 9 = undef := (hF2 9).trans rfl
  clear hF2
  refine then_normal ?_
  refine wq_seq ?_
  by_cases d5 : (-31) ≤ (n)
  · skip
    refine wq_region ?_
    refine wl_v (.int .i64 (n)) rfl rfl (y_mov rfl s3 ⟨rfl, rfl⟩) ?_
    refine wl_v (.bool true) rfl rfl (y_geq rfl rfl rfl (decide_eq_true d5) ⟨rfl, rfl⟩) ?_
    refine wl_v (.bool true) rfl rfl (y_mov rfl rfl ⟨rfl, rfl⟩) ?_
    refine wl_vw (.int .i64 (n)) 2 true 5 rfl rfl rfl rfl rfl (y_mov rfl s3 ⟨rfl, rfl⟩) ?_
    refine wl_vw (.bool (decide ((n) ≤ (31)))) 2 true 5 rfl rfl rfl rfl rfl (y_leq rfl rfl rfl rfl ⟨rfl, rfl⟩) ?_
    refine wl_v (.bool (decide ((n) ≤ (31)))) rfl rfl (y_pickT rfl rfl rfl ⟨rfl, rfl⟩) ?_
    refine wl_v (.bool (decide ((n) ≤ (31)))) rfl rfl (y_asg rfl rfl ⟨rfl, rfl⟩) ?_
    refine wl_nil fun F6 hF7 => ?_
    have s8 : F6 9 = undef := (hF7 9).trans s4
    have s9 : F6 2 = .bool (decide ((n) ≤ (31))) := (hF7 2).trans rfl
    clear hF7
    refine then_normal ?_
    refine wq_ret ?_
    exact end_tmp (v := .bool (decide ((n) ≤ (31)))) s8 rfl rfl s9 ⟨(retB (by first | exact (decide_eq_true (by omega)).symm | exact (decide_eq_false (by omega)).symm | exact decide_eq_decide.2 (by omega))), K0⟩
  · skip
    refine wq_region ?_
    refine wl_v (.int .i64 (n)) rfl rfl (y_mov rfl s3 ⟨rfl, rfl⟩) ?_
    refine wl_v (.bool false) rfl rfl (y_geq rfl rfl rfl (decide_eq_false d5) ⟨rfl, rfl⟩) ?_
    refine wl_v (.bool false) rfl rfl (y_mov rfl rfl ⟨rfl, rfl⟩) ?_
    refine wl_unless 2 true 5 rfl rfl rfl (Or.inl rfl) rfl ?_
    refine wl_unless 2 true 5 rfl rfl rfl (Or.inl rfl) rfl ?_
    refine wl_v (.bool false) rfl rfl (y_pickF rfl rfl rfl ⟨rfl, rfl⟩) ?_
    refine wl_v (.bool false) rfl rfl (y_asg rfl rfl ⟨rfl, rfl⟩) ?_
    refine wl_nil fun F10 hF11 => ?_
    have s12 : F10 9 = undef := (hF11 9).trans s4
    have s13 : F10 2 = .bool false := (hF11 2).trans rfl
    clear hF11
    refine then_normal ?_
    refine wq_ret ?_
    exact end_tmp (v := .bool false) s12 rfl rfl s13 ⟨(retB (by first | exact (decide_eq_true (by omega)).symm | exact (decide_eq_false (by omega)).symm | exact decide_eq_decide.2 (by omega))), K0⟩
set_option maxHeartbeats 4000000 in
set_option maxRecDepth 100000 in
theorem mo_check (X Y : Int) (w0 : World) :
    Calls Try.prog 31 #[.agg #[.int .i64 (X), .int .i64 (Y)]] w0 fun e w' => e = .returned (.int .i64 (vecE X Y)) ∧ Kept (fun _ => False) w0 w' := by
  refine calls_wq (args := [.agg #[.int .i64 (X), .int .i64 (Y)]]) 13 Try.func31 rfl rfl (Nat.le_of_ble_eq_true rfl) ?_
  have K0 := Kept.refl (fun _ => False) w0
  refine wq_seq ?_
  refine wq_region ?_
  refine wl_box_stc (vs := [.int .i64 (X), .int .i64 (Y)]) rfl rfl rfl rfl fun p1 w2 B4 g5 k3 => ?_
  have gr6 : Grew w0 noB (onB p1) := Grew.new K0 g5
  have K7 := K0.trans k3 (fun _ _ x => x.elim)
  refine wl_v (.int .i64 (0)) rfl rfl (y_asg rfl rfl ⟨rfl, rfl⟩) ?_
  refine wl_nil fun F8 hF9 => ?_
  have s10 : F8 13 = undef := (hF9 13).trans rfl
  have s11 : F8 1 = .pointer (some ⟨p1, 0, none⟩) := (hF9 1).trans rfl
  clear hF9
  refine then_normal ?_
  refine wq_seq ?_
  refine wq_seq ?_
  by_cases d12 : -31 ≤ (X) ∧ (X) ≤ 31
  · skip
    by_cases d13 : -31 ≤ (Y) ∧ (Y) ≤ 31
    · skip
      refine wq_region ?_
      refine wl_v (.pointer (some ⟨p1, 0, none⟩)) rfl rfl (y_fieldR (n := 1) rfl s11 Try.underlying33 rfl (by kernel_rfl) (by decide) rfl ⟨rfl, rfl⟩) ?_
      refine wl_v (.int .i64 (X)) rfl rfl (y_ld_stc rfl rfl Try.underlying3 B4 rfl rfl ⟨rfl, rfl⟩) ?_
      refine wl_call (R := fun v_ w_ => v_ = .bool true ∧ Kept (fun _ => False) w2 w_) rfl rfl (y_cs rfl rfl rfl (fun _ _ => by kernel_rfl) (ev_func _) (vsC rfl vsN) (mo_mayGo (X)  _   ) (fun e_ w_ h_ => ⟨_, h_.1, (congrArg Value.bool (decide_eq_true d12)), h_.2⟩)) ?_
      rintro _ w14 ⟨rfl, k15⟩
      have B16 := B4.all k15 id
      have K17 := K7.trans k15 (fun _ _ x => x.elim)
      refine wl_v (.bool false) rfl rfl (y_not rfl rfl rfl ⟨rfl, rfl⟩) ?_
      refine wl_v (.bool false) rfl rfl (y_mov rfl rfl ⟨rfl, rfl⟩) ?_
      refine wl_vw (.pointer (some ⟨p1, 1, none⟩)) 4 false 7 rfl rfl rfl rfl rfl (y_fieldR (n := 1) rfl s11 Try.underlying33 rfl (by kernel_rfl) (by decide) rfl ⟨rfl, rfl⟩) ?_
      refine wl_vw (.int .i64 (Y)) 4 false 7 rfl rfl rfl rfl rfl (y_ld_stc rfl rfl Try.underlying3 B16 rfl rfl ⟨rfl, rfl⟩) ?_
      refine wl_callw (R := fun v_ w_ => v_ = .bool true ∧ Kept (fun _ => False) w14 w_) 4 false 7 rfl rfl rfl rfl rfl (y_cs rfl rfl rfl (fun _ _ => by kernel_rfl) (ev_func _) (vsC rfl vsN) (mo_mayGo (Y)  _   ) (fun e_ w_ h_ => ⟨_, h_.1, (congrArg Value.bool (decide_eq_true d13)), h_.2⟩)) ?_
      rintro _ w18 ⟨rfl, k19⟩
      have B20 := B16.all k19 id
      have K21 := K17.trans k19 (fun _ _ x => x.elim)
      refine wl_vw (.bool false) 4 false 7 rfl rfl rfl rfl rfl (y_not rfl rfl rfl ⟨rfl, rfl⟩) ?_
      refine wl_v (.bool false) rfl rfl (y_pickF rfl rfl rfl ⟨rfl, rfl⟩) ?_
      refine wl_nil fun F22 hF23 => ?_
      have s24 : F22 13 = undef := (hF23 13).trans s10
      have s25 : F22 12 = .bool false := (hF23 12).trans rfl
      clear hF23
      refine then_normal ?_
      refine wq_cond (t := false) s25 (fun e => by cases e) (fun _ => ?_)
      refine wq_skip ?_
      refine then_normal ?_
      refine wq_seq ?_
      refine wq_region ?_
      refine wl_v (.int .i64 (0)) rfl rfl (y_asg rfl rfl ⟨rfl, rfl⟩) ?_
      refine wl_nil fun F26 hF27 => ?_
      have s28 : F26 13 = undef := (hF27 13).trans s24
      have s29 : F26 2 = .int .i64 (0) := (hF27 2).trans rfl
      clear hF27
      refine then_normal ?_
      refine wq_ret ?_
      exact end_tmp (v := .int .i64 (0)) s28 rfl rfl s29 ⟨(by first | rw [vecE_yes (by unfold vecOk; omega)] | rw [vecE_no (by unfold vecOk; omega)]), K21⟩
    · skip
      refine wq_region ?_
      refine wl_v (.pointer (some ⟨p1, 0, none⟩)) rfl rfl (y_fieldR (n := 1) rfl s11 Try.underlying33 rfl (by kernel_rfl) (by decide) rfl ⟨rfl, rfl⟩) ?_
      refine wl_v (.int .i64 (X)) rfl rfl (y_ld_stc rfl rfl Try.underlying3 B4 rfl rfl ⟨rfl, rfl⟩) ?_
      refine wl_call (R := fun v_ w_ => v_ = .bool true ∧ Kept (fun _ => False) w2 w_) rfl rfl (y_cs rfl rfl rfl (fun _ _ => by kernel_rfl) (ev_func _) (vsC rfl vsN) (mo_mayGo (X)  _   ) (fun e_ w_ h_ => ⟨_, h_.1, (congrArg Value.bool (decide_eq_true d12)), h_.2⟩)) ?_
      rintro _ w30 ⟨rfl, k31⟩
      have B32 := B4.all k31 id
      have K33 := K7.trans k31 (fun _ _ x => x.elim)
      refine wl_v (.bool false) rfl rfl (y_not rfl rfl rfl ⟨rfl, rfl⟩) ?_
      refine wl_v (.bool false) rfl rfl (y_mov rfl rfl ⟨rfl, rfl⟩) ?_
      refine wl_vw (.pointer (some ⟨p1, 1, none⟩)) 4 false 7 rfl rfl rfl rfl rfl (y_fieldR (n := 1) rfl s11 Try.underlying33 rfl (by kernel_rfl) (by decide) rfl ⟨rfl, rfl⟩) ?_
      refine wl_vw (.int .i64 (Y)) 4 false 7 rfl rfl rfl rfl rfl (y_ld_stc rfl rfl Try.underlying3 B32 rfl rfl ⟨rfl, rfl⟩) ?_
      refine wl_callw (R := fun v_ w_ => v_ = .bool false ∧ Kept (fun _ => False) w30 w_) 4 false 7 rfl rfl rfl rfl rfl (y_cs rfl rfl rfl (fun _ _ => by kernel_rfl) (ev_func _) (vsC rfl vsN) (mo_mayGo (Y)  _   ) (fun e_ w_ h_ => ⟨_, h_.1, (congrArg Value.bool (decide_eq_false d13)), h_.2⟩)) ?_
      rintro _ w34 ⟨rfl, k35⟩
      have B36 := B32.all k35 id
      have K37 := K33.trans k35 (fun _ _ x => x.elim)
      refine wl_vw (.bool true) 4 false 7 rfl rfl rfl rfl rfl (y_not rfl rfl rfl ⟨rfl, rfl⟩) ?_
      refine wl_v (.bool true) rfl rfl (y_pickF rfl rfl rfl ⟨rfl, rfl⟩) ?_
      refine wl_nil fun F38 hF39 => ?_
      have s40 : F38 13 = undef := (hF39 13).trans s10
      have s41 : F38 12 = .bool true := (hF39 12).trans rfl
      clear hF39
      refine then_normal ?_
      refine wq_cond (t := true) s41 (fun _ => ?_) (fun e => by cases e)
      refine wq_seq ?_
      refine wq_region ?_
      refine wl_v (.int .i64 (90)) rfl rfl (y_asg rfl rfl ⟨rfl, rfl⟩) ?_
      refine wl_nil fun F42 hF43 => ?_
      have s44 : F42 13 = undef := (hF43 13).trans s40
      have s45 : F42 2 = .int .i64 (90) := (hF43 2).trans rfl
      clear hF43
      refine then_normal ?_
      refine wq_ret ?_
      refine then_ret ?_
      exact end_tmp (v := .int .i64 (90)) s44 rfl rfl s45 ⟨(by first | rw [vecE_yes (by unfold vecOk; omega)] | rw [vecE_no (by unfold vecOk; omega)]), K37⟩
  · skip
    refine wq_region ?_
    refine wl_v (.pointer (some ⟨p1, 0, none⟩)) rfl rfl (y_fieldR (n := 1) rfl s11 Try.underlying33 rfl (by kernel_rfl) (by decide) rfl ⟨rfl, rfl⟩) ?_
    refine wl_v (.int .i64 (X)) rfl rfl (y_ld_stc rfl rfl Try.underlying3 B4 rfl rfl ⟨rfl, rfl⟩) ?_
    refine wl_call (R := fun v_ w_ => v_ = .bool false ∧ Kept (fun _ => False) w2 w_) rfl rfl (y_cs rfl rfl rfl (fun _ _ => by kernel_rfl) (ev_func _) (vsC rfl vsN) (mo_mayGo (X)  _   ) (fun e_ w_ h_ => ⟨_, h_.1, (congrArg Value.bool (decide_eq_false d12)), h_.2⟩)) ?_
    rintro _ w46 ⟨rfl, k47⟩
    have B48 := B4.all k47 id
    have K49 := K7.trans k47 (fun _ _ x => x.elim)
    refine wl_v (.bool true) rfl rfl (y_not rfl rfl rfl ⟨rfl, rfl⟩) ?_
    refine wl_v (.bool true) rfl rfl (y_mov rfl rfl ⟨rfl, rfl⟩) ?_
    refine wl_unless 4 false 7 rfl rfl rfl (Or.inl rfl) rfl ?_
    refine wl_unless 4 false 7 rfl rfl rfl (Or.inl rfl) rfl ?_
    refine wl_unless 4 false 7 rfl rfl rfl (Or.inl rfl) rfl ?_
    refine wl_unless 4 false 7 rfl rfl rfl (Or.inl rfl) rfl ?_
    refine wl_v (.bool true) rfl rfl (y_pickT rfl rfl rfl ⟨rfl, rfl⟩) ?_
    refine wl_nil fun F50 hF51 => ?_
    have s52 : F50 13 = undef := (hF51 13).trans s10
    have s53 : F50 12 = .bool true := (hF51 12).trans rfl
    clear hF51
    refine then_normal ?_
    refine wq_cond (t := true) s53 (fun _ => ?_) (fun e => by cases e)
    refine wq_seq ?_
    refine wq_region ?_
    refine wl_v (.int .i64 (90)) rfl rfl (y_asg rfl rfl ⟨rfl, rfl⟩) ?_
    refine wl_nil fun F54 hF55 => ?_
    have s56 : F54 13 = undef := (hF55 13).trans s52
    have s57 : F54 2 = .int .i64 (90) := (hF55 2).trans rfl
    clear hF55
    refine then_normal ?_
    refine wq_ret ?_
    refine then_ret ?_
    exact end_tmp (v := .int .i64 (90)) s56 rfl rfl s57 ⟨(by first | rw [vecE_yes (by unfold vecOk; omega)] | rw [vecE_no (by unfold vecOk; omega)]), K49⟩
end Go.Proofs.Ythhagejcgobfgaa
namespace Go.Proofs.Ythhagejcgobfgaa
open Go.RowKit

def Rdi.ty (e : TypeId) : Prop := e = 79 ∨ e = 5
def Rfi.ty (e : TypeId) : Prop := e = 52
instance (e : TypeId) : Decidable (Rdi.ty e) := by unfold Rdi.ty; infer_instance
instance (e : TypeId) : Decidable (Rfi.ty e) := by unfold Rfi.ty; infer_instance
theorem Rdi.at {w : World} {T : Nat → Prop} {p : Nat} {l : List Nat} {st : Option Nat} (h : Rdi w T p l st) (x : Nat) (hx : T x) : ∃ c e f, w.heap[x]? = some (.cells c e f) ∧ Rdi.ty e := by
  obtain ⟨_, g, rfl, h⟩ := h
  have hr : ∃ a b, RdAt w p g l a b := by
    cases st with
    | none => obtain ⟨a, h⟩ := h; exact ⟨a, _, h⟩
    | some a => exact ⟨a, _, h.2⟩
  obtain ⟨a, b, h1, h2, _⟩ := hr
  rcases hx with rfl | rfl
  · exact ⟨_, _, _, h1, .inl rfl⟩
  · exact ⟨_, _, _, h2, .inr rfl⟩
theorem Rfi.at {w : World} {T : Nat → Prop} {p : Nat} {l : List Nat} {st : Option Nat} (h : Rfi w T p l st) (x : Nat) (hx : T x) : ∃ c e f, w.heap[x]? = some (.cells c e f) ∧ Rfi.ty e := by
  obtain ⟨_, _, rfl, h⟩ := h
  have hr : ∃ a b, RfAt w p l a b := by
    cases st with
    | none => obtain ⟨a, _, h⟩ := h; exact ⟨a, _, h⟩
    | some a => exact ⟨a, _, h.2⟩
  obtain ⟨a, b, h1⟩ := hr
  cases hx
  exact ⟨_, _, _, h1, rfl⟩
end Go.Proofs.Ythhagejcgobfgaa
namespace Go.Proofs.Ythhagejcgobfgaa
open Go.RowKit

/-- A kind of row: the slice's type, its elements', how many cells each has, the cells of an element, the one that is there when it is made. -/
structure RowT (α : Type) where
  t : TypeId
  e : TypeId
  k : Nat
  by_ : Nat
  enc : α → List Value
  d : α
  z : Value
class RowT.Ok {α : Type} (r : RowT α) : Prop where
  slice : Try.prog.underlying r.t = some (.slice r.e)
  info : (Try.prog.info? r.e).map (fun i => (i.zero, i.size, i.bytes)) = some (some r.z, r.k, r.by_)
  cells : r.z.cells.toList = r.enc r.d
  pos : 0 < r.k
  len : ∀ x, (r.enc x).length = r.k
  one : ∀ x, ∀ u ∈ r.enc x, u.oneCell' = true
  small : r.by_ ≤ 64

section
variable {α : Type} {r : RowT α}
theorem flat_len [h : r.Ok] (l : List α) : (l.flatMap r.enc).length = l.length * r.k := by
  induction l with
  | nil => simp
  | cons x l ih => rw [List.flatMap_cons, List.length_append, ih, h.len, List.length_cons, Nat.add_mul]; omega
/-- A row that can be read. -/
def RoA (r : RowT α) (w : World) (T : Nat → Prop) (v : Value) (l : List α) : Prop :=
  ∃ a cap, v = .slice a l.length cap ∧ l.length ≤ cap ∧ cap ≤ maxLen ∧ (a = none → cap = 0) ∧ Live w T ∧
    (0 < l.length → ∃ b off, a = some ⟨b, off, none⟩ ∧ T b ∧ ∀ j u, (l.flatMap r.enc)[j]? = some u → w.cell? ⟨b, off + j, none⟩ = some u)
theorem RoA.nil (r : RowT α) (w : World) : RoA r w noB (.slice none 0 0) [] := ⟨none, 0, rfl, Nat.le_refl _, by unfold maxLen; omega, fun _ => rfl, fun _ h => h.elim, fun h => absurd h (by simp)⟩
theorem RoA.live {w : World} {T : Nat → Prop} {v : Value} {l : List α} (h : RoA r w T v l) : Live w T := by obtain ⟨_, _, _, _, _, _, h, _⟩ := h; exact h
theorem RoA.all {S : Nat → Prop} {w w' : World} {T : Nat → Prop} {v : Value} {l : List α} (h : RoA r w T v l) (k : Kept S w w') (ha : Apart T S) : RoA r w' T v l := by
  obtain ⟨a, cap, rfl, h1, h2, h3, hL, hc⟩ := h
  refine ⟨a, cap, rfl, h1, h2, h3, hL.mono k, fun hp => ?_⟩
  obtain ⟨b, off, rfl, hb, hcell⟩ := hc hp
  exact ⟨b, off, rfl, hb, fun j u hj => (World.cell?_of_block (k.block b (hL b hb) (ha b hb))).trans (hcell j u hj)⟩
theorem RoA.row {A B : World} {row : Option Nat} {n : Nat} {T : Nat → Prop} {v : Value} {l : List α} [hk : r.Ok] (h : RoA r A T v l) (hg : A.grownBy B row) (hr : RowNew n A row) : RoA r B T v l := by
  obtain ⟨a, cap, rfl, h1, h2, h3, hL, hc⟩ := h
  have k := kept_row hg
  refine ⟨a, cap, rfl, h1, h2, h3, hL.mono k, fun hp => ?_⟩
  obtain ⟨b, off, rfl, hb, hcell⟩ := hc hp
  have h0 : 0 < (l.flatMap r.enc).length := by rw [flat_len (r := r)]; exact Nat.mul_pos hp hk.pos
  refine ⟨b, off, rfl, hb, fun j u hj => (World.cell?_of_block (k.block b (hL b hb) fun e => ?_)).trans (hcell j u hj)⟩
  obtain ⟨_, o, ho, hn⟩ := hr b e.symm
  have := hcell 0 _ (List.getElem?_eq_getElem h0)
  unfold World.cell? at this
  simp only at this
  rw [ho] at this
  cases o <;> simp_all [Obj.isCells]
theorem RoA.one {w : World} {T : Nat → Prop} {v : Value} {l : List α} (h : RoA r w T v l) : v.oneCell' = true := by obtain ⟨a, cap, rfl, _⟩ := h; rfl
theorem RoA.oneC {w : World} {T : Nat → Prop} {v : Value} {l : List α} (h : RoA r w T v l) : oneC v = true := by obtain ⟨a, cap, rfl, _⟩ := h; rfl
/-- A row of the call's own. -/
def RoO (r : RowT α) (w : World) (T : Nat → Prop) (v : Value) (l : List α) : Prop := w.ownsRow 0 r.e r.k v l.length (l.flatMap r.enc) ∧ ∀ i, T i ↔ v.ownBlock = some i
theorem RoO.nil (r : RowT α) (w : World) : RoO r w noB (.slice none 0 0) [] := ⟨World.ownsRow_nil w 0 r.e r.k, fun i => ⟨fun h => h.elim, fun h => by cases h⟩⟩
theorem RoO.live {w : World} {T : Nat → Prop} {v : Value} {l : List α} (h : RoO r w T v l) : Live w T := fun i hi => (h.1.lt i ((h.2 i).1 hi)).2
theorem RoO.all {S : Nat → Prop} {w w' : World} {T : Nat → Prop} {v : Value} {l : List α} (h : RoO r w T v l) (k : Kept S w w') (ha : Apart T S) : RoO r w' T v l := by
  refine ⟨⟨h.1.1, ?_⟩, h.2⟩
  rcases h.1.2 with hn | ⟨g, cap, cur, rfl, hb, hg, rest⟩
  · exact .inl hn
  · exact .inr ⟨g, cap, cur, rfl, hb, k.at hg (ha g ((h.2 g).2 rfl)), rest⟩
theorem RoO.roa {w : World} {T : Nat → Prop} {v : Value} {l : List α} (h : RoO r w T v l) : RoA r w T v l := by
  have hL := h.live
  rcases h.1.2 with ⟨rfl, h0⟩ | ⟨g, cap, cur, rfl, hb, hg, h1, h2, h3, h4⟩
  · have : l = [] := List.eq_nil_of_length_eq_zero h0
    subst this
    exact ⟨none, 0, rfl, Nat.le_refl _, by unfold maxLen; omega, fun _ => rfl, hL, fun h => absurd h (by simp)⟩
  · refine ⟨some ⟨g, 0, none⟩, cap, rfl, h1, h2, by simp, hL, fun _ => ⟨g, 0, rfl, (h.2 g).2 rfl, fun j u hj => ?_⟩⟩
    have := h.1.cells (g := g) rfl j u hj
    rwa [Addr.add_lit] at this
theorem RoO.cells {w : World} {T : Nat → Prop} {v : Value} {l : List α} (h : RoO r w T v l) : Cells w T := fun i hi => by
  have hv := (h.2 i).1 hi
  rcases h.1.2 with ⟨rfl, _⟩ | ⟨g, cap, cur, rfl, _, hg, _⟩
  · cases hv
  · cases hv; exact ⟨_, hg, rfl⟩
theorem RoO.row {A B : World} {row : Option Nat} {n : Nat} {T : Nat → Prop} {v : Value} {l : List α} (h : RoO r A T v l) (hg : A.grownBy B row) (hr : RowNew n A row) : RoO r B T v l := h.all (kept_row hg) (h.cells.apart hr)
theorem RoO.one {w : World} {T : Nat → Prop} {v : Value} {l : List α} (h : RoO r w T v l) : v.oneCell' = true := h.roa.one
theorem RoO.oneC {w : World} {T : Nat → Prop} {v : Value} {l : List α} (h : RoO r w T v l) : oneC v = true := h.roa.oneC
end


end Go.Proofs.Ythhagejcgobfgaa
namespace Go.Proofs.Ythhagejcgobfgaa
open Go.RowKit

structure Vc where
  X : Int
  Y : Int
def rVec : RowT Vc := { t := 57, e := 33, k := 2, by_ := 16, enc := fun x => [.int .i64 x.X, .int .i64 x.Y], d := ⟨0, 0⟩, z := .agg #[.int .i64 0, .int .i64 0] }
theorem one_two {a b : Int} : ∀ u ∈ [Value.int .i64 a, Value.int .i64 b], u.oneCell' = true := fun u hu => by
  rcases List.mem_cons.1 hu with rfl | hu
  · rfl
  · rcases List.mem_cons.1 hu with rfl | hu
    · rfl
    · cases hu
instance rVec_ok : RowT.Ok rVec := ⟨Try.underlying57, by kernel_rfl, rfl, by decide, fun _ => rfl, fun _ => one_two, by decide⟩

def vfL (f : VF) : List Vc := (List.range (f.w * f.h).toNat).map fun (i : Nat) => ⟨f.X ((i : Int) % f.w) ((i : Int) / f.w), f.Y ((i : Int) % f.w) ((i : Int) / f.w)⟩
/-- The document's field. -/
def Vfr (w : World) (T : Nat → Prop) (p : Nat) (f : VF) : Prop := ∃ v T2, (∀ i, T i ↔ (onB p i ∨ T2 i)) ∧ Stc w p 69 [.int .i64 f.w, .int .i64 f.h, v] ∧ RoO rVec w T2 v (vfL f) ∧ Apart (onB p) T2 ∧ OkV f
theorem Vfr.live {w : World} {T : Nat → Prop} {p : Nat} {f : VF} (h : Vfr w T p f) : Live w T := by
  obtain ⟨v, T2, hT, h1, h2, _⟩ := h
  exact fun i hi => ((hT i).1 hi).elim (fun e => by cases e; exact h1.lt) (fun e => h2.live i e)
theorem Vfr.all {S : Nat → Prop} {w w' : World} {T : Nat → Prop} {p : Nat} {f : VF} (h : Vfr w T p f) (k : Kept S w w') (ha : Apart T S) : Vfr w' T p f := by
  obtain ⟨v, T2, hT, h1, h2, h3, h4⟩ := h
  exact ⟨v, T2, hT, h1.all k (ha p ((hT p).2 (Or.inl rfl))), h2.all k (fun i hi => ha i ((hT i).2 (Or.inr hi))), h3, h4⟩
theorem Vfr.ok {w : World} {T : Nat → Prop} {p : Nat} {f : VF} (h : Vfr w T p f) : OkV f := by obtain ⟨_, _, _, _, _, _, h⟩ := h; exact h
/-- One, or none. -/
def Vfo (w : World) (T : Nat → Prop) (v : Value) (o : Option VF) : Prop := match o with
  | none => v = .pointer none ∧ T = noB
  | some f => ∃ p, v = .pointer (some ⟨p, 0, none⟩) ∧ Vfr w T p f
theorem Vfo.nil (w : World) : Vfo w noB (.pointer none) none := ⟨rfl, rfl⟩
theorem Vfo.live {w : World} {T : Nat → Prop} {v : Value} {o : Option VF} (h : Vfo w T v o) : Live w T := by
  cases o with
  | none => obtain ⟨_, rfl⟩ := h; exact fun _ h => h.elim
  | some f => obtain ⟨p, _, h⟩ := h; exact h.live
theorem Vfo.all {S : Nat → Prop} {w w' : World} {T : Nat → Prop} {v : Value} {o : Option VF} (h : Vfo w T v o) (k : Kept S w w') (ha : Apart T S) : Vfo w' T v o := by
  cases o with
  | none => exact h
  | some f => obtain ⟨p, e, h⟩ := h; exact ⟨p, e, h.all k ha⟩
theorem Vfo.ok {w : World} {T : Nat → Prop} {v : Value} {f : VF} (h : Vfo w T v (some f)) : OkV f := by obtain ⟨_, _, h⟩ := h; exact h.ok
def optV (m n : Int) : Option VF := if sidesOk m n then some (newV m n) else none
def newVE (m n : Int) : Int := if sidesOk m n then 0 else 1
theorem optV_yes {m n : Int} (h : sidesOk m n) : optV m n = some (newV m n) := if_pos h
theorem optV_no {m n : Int} (h : ¬ sidesOk m n) : optV m n = none := if_neg h
theorem newVE_yes {m n : Int} (h : sidesOk m n) : newVE m n = 0 := if_pos h
theorem newVE_no {m n : Int} (h : ¬ sidesOk m n) : newVE m n = 1 := if_neg h
end Go.Proofs.Ythhagejcgobfgaa
namespace Go.Proofs.Ythhagejcgobfgaa
open Go.RowKit

def pairV (a b : Int) : Value := .agg #[.int .i64 a, .int .i64 b]
/-- A struct of two ints. -/
structure TwoInts (K : TypeId) : Prop where
  und : Try.prog.underlying K = some (.struct (Try.prog.fieldsOf K))
  hel : Try.prog.stoodInHeld K = false
  flds : ∃ n0 n1 : String, n0 ≠ "_" ∧ n1 ≠ "_" ∧ (Try.prog.fieldsOf K).toList.map (fun f => (f.name, f.type, f.offset)) = [(n0, 3, 0), (n1, 3, 1)]
theorem TwoInts.split {K : TypeId} (h : TwoInts K) : ∃ f0 f1 : Field, Try.prog.fieldsOf K = #[f0, f1] ∧ f0.name ≠ "_" ∧ f1.name ≠ "_" ∧ f0.type = 3 ∧ f1.type = 3 ∧ f0.offset = 0 ∧ f1.offset = 1 := by
  obtain ⟨n0, n1, h0, h1, hf⟩ := h.flds
  have hlen : (Try.prog.fieldsOf K).toList.length = 2 := by simpa using congrArg List.length hf
  match hq : (Try.prog.fieldsOf K).toList, hlen with
  | [f0, f1], _ =>
    rw [hq] at hf
    simp only [List.map_cons, List.map_nil, List.cons.injEq, Prod.mk.injEq, and_true] at hf
    obtain ⟨⟨e0, t0, o0⟩, ⟨e1, t1, o1⟩⟩ := hf
    exact ⟨f0, f1, by rw [← hq], by rw [e0]; exact h0, by rw [e1]; exact h1, t0, t1, o0, o1⟩
theorem run_same_two {K : TypeId} (h : TwoInts K) (w : World) (a b c d : Int) : (Op.equal K (pairV a b) (pairV c d)).run Try.prog w = .ok (sameVec a b c d) w := by
  obtain ⟨f0, f1, hf, n0, n1, t0, t1, o0, o1⟩ := h.split
  have e := run_equalIn_struct (P := Try.prog) w 9999 K #[.int .i64 a, .int .i64 b] #[.int .i64 c, .int .i64 d] h.und h.hel
  unfold Op.equal pairV
  refine e.trans ?_
  rw [hf]
  have p1 := part_int w #[.int .i64 a, .int .i64 b] 0 a rfl
  have p2 := part_int w #[.int .i64 c, .int .i64 d] 0 c rfl
  have p3 := part_int w #[.int .i64 a, .int .i64 b] 1 b rfl
  have p4 := part_int w #[.int .i64 c, .int .i64 d] 1 d rfl
  simp only [Op.eqFields, t0, o0, t1, o1]
  rw [if_pos n0, if_pos n1]
  simp only [Sem.run_bind, p1, p2, Result.andThen_ok, run_equalIn_int w 9998 3 .i64 .i64 _ _ Try.underlying3]
  unfold sameVec
  by_cases h1 : a = c
  · subst h1
    simp only [beq_self_eq_true, Bool.not_true, Bool.false_eq_true, if_false, Sem.run_bind, p3, p4, Result.andThen_ok, run_equalIn_int w 9998 3 .i64 .i64 _ _ Try.underlying3]
    by_cases h2 : b = d
    · subst h2; simp
    · have : (b == d) = false := by simpa using h2
      simp [this, h2]
  · have : (a == c) = false := by simpa using h1
    simp [this, h1]
theorem run_check_two {K : TypeId} (h : TwoInts K) (w : World) (em : Bool) (a b : Int) : (Instr.checkKey em 10000 K (pairV a b)).run Try.prog w = .ok () w := by
  obtain ⟨f0, f1, hf, n0, n1, t0, t1, o0, o1⟩ := h.split
  have hu := h.und
  rw [hf] at hu
  have p1 := part_int w #[.int .i64 a, .int .i64 b] 0 a rfl
  have p3 := part_int w #[.int .i64 a, .int .i64 b] 1 b rfl
  have hi : ∀ z : Int, (Instr.checkKey em 9999 3 (.int .i64 z)).run Try.prog w = .ok () w := fun z => by
    have e : ∀ n, (Instr.checkKey em (n + 1) 3 (.int .i64 z)).run Try.prog w = .ok () w := fun n => by
      unfold Instr.checkKey
      simp only [Sem.run_bind, run_underlying Try.underlying3, Result.andThen_ok, Sem.run_pure]
    exact e 9998
  unfold pairV
  have e : ∀ n, (∀ z : Int, (Instr.checkKey em n 3 (.int .i64 z)).run Try.prog w = .ok () w) → (Instr.checkKey em (n + 1) K (.agg #[.int .i64 a, .int .i64 b])).run Try.prog w = .ok () w := fun n hn => by
    unfold Instr.checkKey
    simp [run_underlying hu, n0, n1, t0, t1, o0, o1, p1, p3, hn]
  exact e 9999 hi

/-- A map's entries, as they stand. -/
def entV (es : List MapEntry) (L : List ((Int × Int) × Int × Int)) : Prop := es.map (fun e => (e.key, e.val)) = L.map fun q => (pairV q.1.1 q.1.2, pairV q.2.1 q.2.2)
def idxL (a b : Int) : List ((Int × Int) × Int × Int) → Nat → Option (Nat × Int × Int)
  | [], _ => none
  | q :: r, i => if q.1 = (a, b) then some (i, q.2) else idxL a b r (i + 1)
theorem run_asking {K : TypeId} (h : TwoInts K) (w : World) (a b : Int) : ∀ (L : List ((Int × Int) × Int × Int)) (es : List MapEntry) (i : Nat), entV es L → (Instr.findAsking K (pairV a b) es i).run Try.prog w = .ok ((idxL a b L i).map fun z => (z.1, pairV z.2.1 z.2.2)) w := by
  intro L
  induction L with
  | nil =>
    intro es i he
    have : es = [] := by simpa [entV] using he
    subst this
    simp [Instr.findAsking, idxL]
  | cons q r ih =>
    intro es i he
    cases es with
    | nil => simp [entV] at he
    | cons e es =>
      obtain ⟨⟨c, d⟩, X, Y⟩ := q
      simp only [entV, List.map_cons, List.cons.injEq, Prod.mk.injEq] at he
      obtain ⟨⟨e1, e2⟩, he⟩ := he
      simp only [Instr.findAsking, Sem.run_bind, e1, e2, run_same_two h, Result.andThen_ok, idxL]
      by_cases hk : (c, d) = (a, b)
      · cases hk
        rw [sameVec_self, if_pos rfl, if_pos rfl]; rfl
      · rw [if_neg hk]
        have hs : sameVec a b c d = false := by
          unfold sameVec
          by_cases h1 : a = c
          · subst h1
            rw [decide_eq_false (p := b = d) (fun h2 => hk (by rw [h2])), Bool.and_false]
          · rw [decide_eq_false h1, Bool.false_and]
        rw [hs, if_neg (by simp)]
        exact ih es (i + 1) he
theorem run_find_two {K : TypeId} (h : TwoInts K) (w : World) (a b : Int) (L : List ((Int × Int) × Int × Int)) (es : List MapEntry) (he : entV es L) : (Instr.findKey K (pairV a b) es).run Try.prog w = .ok ((idxL a b L 0).map fun z => (z.1, pairV z.2.1 z.2.2)) w := by
  have ha := run_asking h w a b L es 0 he
  unfold Instr.findKey
  cases es with
  | nil =>
    have : L = [] := by simpa [entV] using he.symm
    subst this
    simp [run_underlying h.und, Instr.findNow, idxL]
  | cons e es =>
    simp only [Sem.run_bind, run_underlying h.und, Result.andThen_ok, Instr.findNow, Instr.sameNow]
    exact ha

abbrev Ents := List ((Int × Int) × Int × Int)
def lookL (a b : Int) : Ents → Int × Int
  | [] => (0, 0)
  | q :: r => if q.1 = (a, b) then q.2 else lookL a b r
def setL (a b X Y : Int) : Ents → Ents
  | [] => [((a, b), X, Y)]
  | q :: r => if q.1 = (a, b) then ((a, b), X, Y) :: r else q :: setL a b X Y r
def delL (a b : Int) : Ents → Ents
  | [] => []
  | q :: r => if q.1 = (a, b) then r else q :: delL a b r
theorem idx_none {a b : Int} : ∀ {L : Ents} {k : Nat}, idxL a b L k = none → lookL a b L = (0, 0) ∧ (∀ X Y, setL a b X Y L = L ++ [((a, b), X, Y)]) ∧ delL a b L = L := by
  intro L
  induction L with
  | nil => intro k _; exact ⟨rfl, fun _ _ => rfl, rfl⟩
  | cons q r ih =>
    intro k h
    rw [idxL] at h
    by_cases hq : q.1 = (a, b)
    · rw [if_pos hq] at h; cases h
    · rw [if_neg hq] at h
      obtain ⟨h1, h2, h3⟩ := ih h
      exact ⟨by rw [lookL, if_neg hq, h1], fun X Y => by rw [setL, if_neg hq, h2, List.cons_append], by rw [delL, if_neg hq, h3]⟩
theorem idx_some {a b : Int} {z : Int × Int} : ∀ {L : Ents} {k j : Nat}, idxL a b L k = some (j, z) → ∃ i, j = k + i ∧ L[i]? = some ((a, b), z) ∧ lookL a b L = z ∧ (∀ X Y, setL a b X Y L = L.set i ((a, b), X, Y)) ∧ delL a b L = L.eraseIdx i := by
  intro L
  induction L with
  | nil => intro k j h; cases h
  | cons q r ih =>
    intro k j h
    rw [idxL] at h
    by_cases hq : q.1 = (a, b)
    · rw [if_pos hq] at h
      cases h
      exact ⟨0, rfl, by rw [List.getElem?_cons_zero, ← hq], by rw [lookL, if_pos hq], fun X Y => by rw [setL, if_pos hq]; rfl, by rw [delL, if_pos hq]; rfl⟩
    · rw [if_neg hq] at h
      obtain ⟨i, h1, h2, h3, h4, h5⟩ := ih h
      exact ⟨i + 1, by omega, by rw [List.getElem?_cons_succ]; exact h2, by rw [lookL, if_neg hq, h3], fun X Y => by rw [setL, if_neg hq, h4]; rfl, by rw [delL, if_neg hq, h5]; rfl⟩
theorem look_set (a b X Y c d : Int) (L : Ents) : lookL c d (setL a b X Y L) = if (c, d) = (a, b) then (X, Y) else lookL c d L := by
  induction L with
  | nil =>
    by_cases h : (c, d) = (a, b)
    · rw [if_pos h, setL]
      simp only [lookL]
      rw [if_pos h.symm]
    · rw [if_neg h, setL]
      simp only [lookL]
      rw [if_neg (fun e => h e.symm)]
  | cons q r ih =>
    rw [setL]
    by_cases hq : q.1 = (a, b)
    · rw [if_pos hq, lookL]
      by_cases h : (c, d) = (a, b)
      · rw [if_pos h, if_pos h.symm]
      · rw [if_neg h, if_neg (fun e => h e.symm), lookL, if_neg (fun e => h (by rw [← e, hq]))]
    · rw [if_neg hq, lookL, lookL, ih]
      by_cases h2 : q.1 = (c, d)
      · rw [if_pos h2, if_pos h2, if_neg (fun e => hq (by rw [h2, e]))]
      · rw [if_neg h2, if_neg h2]
theorem look_out {c d : Int} {L : Ents} (h : (c, d) ∉ L.map (·.1)) : lookL c d L = (0, 0) := by
  induction L with
  | nil => rfl
  | cons q r ih =>
    simp only [List.map_cons, List.mem_cons, not_or] at h
    rw [lookL, if_neg (fun e => h.1 e.symm)]; exact ih h.2
theorem look_del (a b c d : Int) (L : Ents) (hn : (L.map (·.1)).Nodup) : lookL c d (delL a b L) = if (c, d) = (a, b) then (0, 0) else lookL c d L := by
  induction L with
  | nil => rw [delL, lookL]; split <;> rfl
  | cons q r ih =>
    simp only [List.map_cons, List.nodup_cons] at hn
    rw [delL]
    by_cases hq : q.1 = (a, b)
    · rw [if_pos hq]
      by_cases h : (c, d) = (a, b)
      · rw [if_pos h]; exact look_out (by rw [h, ← hq]; exact hn.1)
      · rw [if_neg h, lookL, if_neg (fun e => h (by rw [← e, hq]))]
    · rw [if_neg hq, lookL, lookL, ih hn.2]
      by_cases h2 : q.1 = (c, d)
      · rw [if_pos h2, if_pos h2, if_neg (fun e => hq (by rw [h2, e]))]
      · rw [if_neg h2, if_neg h2]
theorem keys_set (a b X Y : Int) (L : Ents) (k : Int × Int) : k ∈ (setL a b X Y L).map (·.1) ↔ k = (a, b) ∨ k ∈ L.map (·.1) := by
  induction L with
  | nil => simp [setL]
  | cons q r ih =>
    rw [setL]
    by_cases hq : q.1 = (a, b)
    · rw [if_pos hq]; simp only [List.map_cons, List.mem_cons, hq]
      constructor
      · rintro (h | h)
        · exact .inl h
        · exact .inr (.inr h)
      · rintro (h | h | h)
        · exact .inl h
        · exact .inl h
        · exact .inr h
    · rw [if_neg hq]; simp only [List.map_cons, List.mem_cons, ih]
      constructor
      · rintro (h | h | h)
        · exact .inr (.inl h)
        · exact .inl h
        · exact .inr (.inr h)
      · rintro (h | h | h)
        · exact .inr (.inl h)
        · exact .inl h
        · exact .inr (.inr h)
theorem nodup_set (a b X Y : Int) (L : Ents) (hn : (L.map (·.1)).Nodup) : ((setL a b X Y L).map (·.1)).Nodup := by
  induction L with
  | nil => simp [setL]
  | cons q r ih =>
    simp only [List.map_cons, List.nodup_cons] at hn
    rw [setL]
    by_cases hq : q.1 = (a, b)
    · rw [if_pos hq]; simp only [List.map_cons, List.nodup_cons]; exact ⟨by rw [← hq]; exact hn.1, hn.2⟩
    · rw [if_neg hq]; simp only [List.map_cons, List.nodup_cons]
      refine ⟨fun h => ?_, ih hn.2⟩
      rcases (keys_set a b X Y r q.1).1 h with h | h
      · exact hq h
      · exact hn.1 h
theorem del_sub (a b : Int) (L : Ents) : (delL a b L).Sublist L := by
  induction L with
  | nil => exact List.Sublist.refl _
  | cons q r ih =>
    rw [delL]
    split
    · exact List.sublist_cons_self _ _
    · exact ih.cons_cons _
theorem nodup_del (a b : Int) (L : Ents) (hn : (L.map (·.1)).Nodup) : ((delL a b L).map (·.1)).Nodup := List.Nodup.sublist ((del_sub a b L).map _) hn

/-- A map in memory, and what it tells of each place. -/
def Mpf (w : World) (r : Nat) (g : Int → Int → Int × Int) : Prop := ∃ es clock L, w.heap[r]? = some (.map es clock) ∧ entV es.toList L ∧ (L.map (·.1)).Nodup ∧ ∀ a b, lookL a b L = g a b
theorem Mpf.lt {w : World} {r : Nat} {g : Int → Int → Int × Int} (h : Mpf w r g) : r < w.heap.size := by obtain ⟨_, _, _, h, _⟩ := h; exact lt_of_heap h
theorem Mpf.all {S : Nat → Prop} {w w' : World} {r : Nat} {g : Int → Int → Int × Int} (h : Mpf w r g) (k : Kept S w w') (hn : ¬ S r) : Mpf w' r g := by
  obtain ⟨es, clock, L, h1, h2⟩ := h; exact ⟨es, clock, L, k.at h1 hn, h2⟩
theorem Mpf.congr {w : World} {r : Nat} {g g' : Int → Int → Int × Int} (h : Mpf w r g) (e : ∀ a b, g a b = g' a b) : Mpf w r g' := by
  obtain ⟨es, clock, L, h1, h2, h3, h4⟩ := h; exact ⟨es, clock, L, h1, h2, h3, fun a b => (h4 a b).trans (e a b)⟩
def layG (g : Int → Int → Int × Int) (a b X Y : Int) : Int → Int → Int × Int := fun c d => if (c, d) = (a, b) then (X, Y) else g c d

section
variable {ρ : Operand → Value} {o : Oper} {w : World} {R : Value → World → Prop} {M K E : TypeId}
theorem y_look2 {x ix : Operand} {r : Nat} {a b : Int} {g : Int → Int → Int × Int} (hK : TwoInts K) (hM : Try.prog.underlying M = some (.map K E)) (hz : (Try.prog.info? E).bind (·.zero) = some (pairV 0 0)) (ho : o.op = .lookup M x ix false) (hx : ρ x = .map (some r)) (hi : ρ ix = pairV a b) (hB : Mpf w r g) (h : R (pairV (g a b).1 (g a b).2) w) : Yields Try.prog ρ o w R := by
  obtain ⟨es, clock, L, h1, h2, _, h4⟩ := hB
  have hf := run_find_two hK w a b L es.toList h2
  have hc := run_check_two hK w es.isEmpty a b
  have hz' : (zeroValue E).run Try.prog w = .ok (pairV 0 0) w := by
    cases hq : Try.prog.info? E with
    | none => rw [hq] at hz; cases hz
    | some i =>
      have : i.zero = some (pairV 0 0) := by rw [hq] at hz; exact hz
      simp [zeroValue, typeInfo, hq, this]
  refine y_val (v := pairV (g a b).1 (g a b).2) (w' := w) ?_ h
  rw [← h4 a b]
  cases hq : idxL a b L 0 with
  | none =>
    rw [hq] at hf
    rw [(idx_none hq).1]
    simp [execOp, ho, hx, hi, Instr.lookup, run_underlying hM, MapKept.run_getObj_map h1, hc, hf, hz']
  | some z =>
    obtain ⟨j, X, Y⟩ := z
    obtain ⟨i, _, _, e, _⟩ := idx_some hq
    rw [hq] at hf
    rw [e]
    simp [execOp, ho, hx, hi, Instr.lookup, run_underlying hM, MapKept.run_getObj_map h1, hc, hf]
theorem heap_set {w : World} {r : Nat} {ob : Obj} (h : r < w.heap.size) : ({ w with heap := w.heap.setIfInBounds r ob } : World).heap[r]? = some ob := by simp [h]
theorem kept_set (w : World) (r : Nat) (ob : Obj) : Kept (onB r) w { w with heap := w.heap.setIfInBounds r ob } := ⟨rfl, rfl, rfl, by simp, fun i hi hn => by
  have : r ≠ i := fun e => hn e.symm
  simp [Array.getElem?_setIfInBounds_ne this]⟩
theorem map_erase {α β : Type} (f : α → β) : ∀ (l : List α) (i : Nat), (l.eraseIdx i).map f = (l.map f).eraseIdx i := by
  intro l
  induction l with
  | nil => intro i; rfl
  | cons x l ih =>
    intro i
    cases i with
    | zero => rfl
    | succ i => simp [ih i]
theorem entV_at {es : List MapEntry} {L : Ents} (h : entV es L) {i : Nat} {q : (Int × Int) × Int × Int} (hq : L[i]? = some q) : ∃ e, es[i]? = some e ∧ e.key = pairV q.1.1 q.1.2 ∧ e.val = pairV q.2.1 q.2.2 := by
  have := congrArg (fun l => l[i]?) h
  simp only [List.getElem?_map, hq, Option.map_some] at this
  cases he : es[i]? with
  | none => rw [he] at this; cases this
  | some e =>
    rw [he] at this
    simp only [Option.map_some, Option.some.injEq, Prod.mk.injEq] at this
    exact ⟨e, rfl, this.1, this.2⟩
theorem same_bits (a b : Int) : Instr.sameBits 10000 (pairV a b) (pairV a b) = true := by
  have e : ∀ n, Instr.sameBits (n + 1) (pairV a b) (pairV a b) = true := fun n => by
    unfold pairV Instr.sameBits
    simp [Instr.sameBits]
  exact e 9999
theorem y_upd2 {x ix y : Operand} {r : Nat} {a b X Y : Int} {g : Int → Int → Int × Int} (hK : TwoInts K) (hM : Try.prog.underlying M = some (.map K E)) (ho : o.op = .mapUpdate M x ix y) (hx : ρ x = .map (some r)) (hi : ρ ix = pairV a b) (hy : ρ y = pairV X Y) (hB : Mpf w r g)
    (h : ∀ u w', Mpf w' r (layG g a b X Y) → Kept (onB r) w w' → R u w') : Yields Try.prog ρ o w R := by
  obtain ⟨es, clock, L, h1, h2, h3, h4⟩ := hB
  have hlt := lt_of_heap h1
  have hf := run_find_two hK w a b L es.toList h2
  have hc := run_check_two hK w false a b
  have hlay : ∀ c d, lookL c d (setL a b X Y L) = layG g a b X Y c d := fun c d => by rw [look_set]; unfold layG; rw [h4]
  have main : ∀ es' clock', entV es'.toList (setL a b X Y L) → (Instr.mapUpdate M (.map (some r)) (pairV a b) (pairV X Y)).run Try.prog w = .ok () { w with heap := w.heap.setIfInBounds r (.map es' clock') } → Yields Try.prog ρ o w R := by
    intro es' clock' he hr
    have hB' : Mpf { w with heap := w.heap.setIfInBounds r (.map es' clock') } r (layG g a b X Y) := ⟨es', clock', _, heap_set hlt, he, nodup_set a b X Y L h3, hlay⟩
    unfold Yields
    have e : (execOp ρ o).run Try.prog w = .ok .skip { w with heap := w.heap.setIfInBounds r (.map es' clock') } ∨ (execOp ρ o).run Try.prog w = .ok (.value undef) { w with heap := w.heap.setIfInBounds r (.map es' clock') } := by
      simp [execOp, ho, hx, hi, hy, hr]
    rcases e with e | e <;> rw [e] <;> exact h _ _ hB' (kept_set w r _)
  cases hq : idxL a b L 0 with
  | none =>
    rw [hq] at hf
    refine main (es.push { key := pairV a b, val := pairV X Y, born := clock }) (clock + 1) ?_ ?_
    · rw [(idx_none hq).2.1 X Y, Array.toList_push]
      unfold entV at h2 ⊢
      rw [List.map_append, List.map_append, h2]; rfl
    · simp [Instr.mapUpdate, run_underlying hM, MapKept.run_getObj_map h1, hc, hf, MapKept.run_setObj_map _ h1]
  | some z =>
    obtain ⟨j, X0, Y0⟩ := z
    obtain ⟨i, hji, hLi, _, hset, _⟩ := idx_some hq
    have hji : j = i := by omega
    subst hji
    rw [hq] at hf
    obtain ⟨e, he, hek, hev⟩ := entV_at h2 hLi
    have he' : es[j]? = some e := by simpa using he
    refine main (es.modify j fun e => { e with key := pairV a b, val := pairV X Y }) clock ?_ ?_
    · rw [hset X Y]
      unfold entV at h2 ⊢
      apply List.ext_getElem?
      intro n
      have h2n := congrArg (fun l => l[n]?) h2
      simp only [List.getElem?_map] at h2n
      rw [List.getElem?_map, List.getElem?_map, Array.getElem?_toList, Array.getElem?_modify]
      have hes : es.toList[n]? = es[n]? := Array.getElem?_toList
      rw [hes] at h2n
      by_cases hn : j = n
      · subst hn
        rw [if_pos rfl, he', List.getElem?_set_self (List.getElem?_eq_some_iff.1 hLi).1]; rfl
      · rw [if_neg hn, List.getElem?_set_ne hn]; exact h2n
    · have hkk : ((es[j]?).map (·.key)).getD (pairV a b) = pairV a b := by rw [he']; exact hek
      simp [Instr.mapUpdate, run_underlying hM, MapKept.run_getObj_map h1, hc, hf, MapKept.run_setObj_map _ h1, hkk, Instr.keyThatStays, same_bits]
theorem y_del2 {c : Call} {x ix : Operand} {r : Nat} {a b : Int} {g : Int → Int → Int × Int} (hK : TwoInts K) (hM : Try.prog.underlying M = some (.map K E)) (ho : o.op = .call c) (hc' : c = { callee := .builtin .delete, args := #[x, ix], argTypes := #[M, K] }) (hx : ρ x = .map (some r)) (hi : ρ ix = pairV a b) (hB : Mpf w r g)
    (h : ∀ u w', Mpf w' r (layG g a b 0 0) → Kept (onB r) w w' → R u w') : Yields Try.prog ρ o w R := by
  subst hc'
  obtain ⟨es, clock, L, h1, h2, h3, h4⟩ := hB
  have hlt := lt_of_heap h1
  have hf := run_find_two hK w a b L es.toList h2
  have hc := run_check_two hK w es.isEmpty a b
  have hlay : ∀ c d, lookL c d (delL a b L) = layG g a b 0 0 c d := fun c d => by rw [look_del a b c d L h3]; unfold layG; rw [h4]
  have main : ∀ es', entV es'.toList (delL a b L) → (Builtin.delete_ #[M, K] o.type #[.map (some r), pairV a b]).run Try.prog w = .ok (.tuple #[]) { w with heap := w.heap.setIfInBounds r (.map es' clock) } → Yields Try.prog ρ o w R := by
    intro es' he hr
    have hB' : Mpf { w with heap := w.heap.setIfInBounds r (.map es' clock) } r (layG g a b 0 0) := ⟨es', clock, _, heap_set hlt, he, nodup_del a b L h3, hlay⟩
    exact y_val (v := .tuple #[]) (by simp [execOp, ho, resolve, invoke, builtin, hx, hi, hr]) (h _ _ hB' (kept_set w r _))
  cases hq : idxL a b L 0 with
  | none =>
    rw [hq] at hf
    refine main es (by rw [(idx_none hq).2.2]; exact h2) ?_
    simp [Builtin.delete_, run_underlying hM, MapKept.run_getObj_map h1, hc, hf, MapKept.run_setObj_map _ h1]
  | some z =>
    obtain ⟨j, X0, Y0⟩ := z
    obtain ⟨i, hji, hLi, _, _, hdel⟩ := idx_some hq
    have hji : j = i := by omega
    subst hji
    rw [hq] at hf
    refine main (es.eraseIdxIfInBounds j) ?_ ?_
    · rw [hdel]
      unfold entV at h2 ⊢
      rw [Array.toList_eraseIdxIfInBounds, map_erase, map_erase, h2]
    · simp [Builtin.delete_, run_underlying hM, MapKept.run_getObj_map h1, hc, hf, MapKept.run_setObj_map _ h1]
theorem y_makeMap2 (ho : o.op = .makeMap M none) (h : ∀ r w', Mpf w' r (fun _ _ => (0, 0)) → Grew w noB (onB r) → Kept (fun _ => False) w w' → R (.map (some r)) w') : Yields Try.prog ρ o w R :=
  y_val (v := .map (some w.heap.size)) (w' := w.alloc (.map #[] 0)) (by simp [execOp, ho, Instr.makeMap, go_sem]) (h _ _ ⟨#[], 0, [], heap_alloc_new _ _, rfl, by simp, fun _ _ => rfl⟩ (onB_new (Nat.le_refl _)) ((Kept.refl _ _).alloc _))
end
end Go.Proofs.Ythhagejcgobfgaa
namespace Go.Proofs.Ythhagejcgobfgaa
open Go.RowKit

/-- Something in memory, what it is ahead of the operation that turns it, and behind it. -/
structure Thg where
  A : World → Prop
  T : Nat → Prop
  B : (Nat → Prop) → World → Prop
  stA : ∀ (w w' : World) (S : Nat → Prop), A w → Kept S w w' → Apart T S → A w'
  stB : ∀ (w w' : World) (S T' : Nat → Prop), B T' w → Kept S w w' → Apart T' S → B T' w'
  liA : ∀ w, A w → Live w T
  liB : ∀ w T', B T' w → Live w T'
inductive Pt where
  | eq (v : Value)
  | thg (t : Thg) (v : Value)
def Pt.none : Pt := .eq undef
def saysT : Pt → Value
  | .eq v => v
  | .thg _ v => v
/-- Where it lies now. -/
def curT (Gs : List Pt) (L : Nat → Bool) (Tf : Nat → Nat → Prop) (i : Nat) : Nat → Prop := match Gs.getD i Pt.none with
  | .eq _ => noB
  | .thg t _ => if L i = true then Tf i else t.T
/-- That it is. -/
def isT (Gs : List Pt) (L : Nat → Bool) (Tf : Nat → Nat → Prop) (w : World) (i : Nat) : Prop := match Gs.getD i Pt.none with
  | .eq _ => True
  | .thg t _ => if L i = true then t.B (Tf i) w else t.A w
structure JT (S : Nat → Prop) (w0 : World) (Gs : List Pt) (M : List (Nat × Nat)) (L : Nat → Bool) (v : Nat → Value) (Tf : Nat → Nat → Prop) (w : World) : Prop where
  kept : Kept S w0 w
  vals : ∀ i, L i = true → v i = saysT (Gs.getD i Pt.none)
  things : ∀ i, isT Gs L Tf w i
  grew : ∀ i t x, Gs.getD i Pt.none = .thg t x → L i = true → Grew w0 t.T (Tf i)
  apart : ∀ i j, i ≠ j → Apart (curT Gs L Tf i) (curT Gs L Tf j)
  clos : ∀ j i, (j, i) ∈ M → L j = true → L i = true
def OldT (S : Nat → Prop) (w0 : World) (Gs : List Pt) : Prop := (∀ i t x, Gs.getD i Pt.none = .thg t x → (∀ b, t.T b → S b) ∧ t.A w0) ∧ ∀ i j, i ≠ j → Apart (curT Gs (fun _ => false) (fun _ => noB) i) (curT Gs (fun _ => false) (fun _ => noB) j)
def FarT (T : Nat → Prop) : List Pt → Prop
  | [] => True
  | .thg t _ :: r => Apart T t.T ∧ FarT T r
  | .eq _ :: r => FarT T r
def OldsT (S : Nat → Prop) (w0 : World) : List Pt → Prop
  | [] => True
  | .thg t _ :: r => ((∀ b, t.T b → S b) ∧ t.A w0 ∧ FarT t.T r) ∧ OldsT S w0 r
  | .eq _ :: r => OldsT S w0 r
theorem FarT.at {T : Nat → Prop} : ∀ {Gs : List Pt}, FarT T Gs → ∀ i t x, Gs.getD i Pt.none = .thg t x → Apart T t.T := by
  intro Gs
  induction Gs with
  | nil => intro _ i t x h; cases h
  | cons g r ih =>
    intro h i t x e
    cases i with
    | zero =>
      have e : g = .thg t x := by simpa using e
      subst e; exact h.1
    | succ i =>
      have e : r.getD i Pt.none = .thg t x := by simpa using e
      cases g <;> first | exact ih h.2 i t x e | exact ih h i t x e
theorem OldsT.at {S : Nat → Prop} {w0 : World} : ∀ {Gs : List Pt}, OldsT S w0 Gs → ∀ i t x, Gs.getD i Pt.none = .thg t x → (∀ b, t.T b → S b) ∧ t.A w0 := by
  intro Gs
  induction Gs with
  | nil => intro _ i t x h; cases h
  | cons g r ih =>
    intro h i t x e
    cases i with
    | zero =>
      have e : g = .thg t x := by simpa using e
      subst e; exact ⟨h.1.1, h.1.2.1⟩
    | succ i =>
      have e : r.getD i Pt.none = .thg t x := by simpa using e
      cases g <;> first | exact ih h.2 i t x e | exact ih h i t x e
theorem OldsT.far {S : Nat → Prop} {w0 : World} : ∀ {Gs : List Pt}, OldsT S w0 Gs → ∀ i j t x t' x', i < j → Gs.getD i Pt.none = .thg t x → Gs.getD j Pt.none = .thg t' x' → Apart t.T t'.T := by
  intro Gs
  induction Gs with
  | nil => intro _ i j t x t' x' _ h; cases h
  | cons g r ih =>
    intro h i j t x t' x' hij e1 e2
    cases j with
    | zero => omega
    | succ j =>
      have e2 : r.getD j Pt.none = .thg t' x' := by simpa using e2
      cases i with
      | zero =>
        have e1 : g = .thg t x := by simpa using e1
        subst e1; exact h.1.2.2.at j t' x' e2
      | succ i =>
        have e1 : r.getD i Pt.none = .thg t x := by simpa using e1
        cases g <;> first | exact ih h.2 i j t x t' x' (by omega) e1 e2 | exact ih h i j t x t' x' (by omega) e1 e2
theorem OldsT.old {S : Nat → Prop} {w0 : World} {Gs : List Pt} (h : OldsT S w0 Gs) : OldT S w0 Gs := by
  refine ⟨fun i t x e => h.at i t x e, fun i j hij => ?_⟩
  unfold curT
  cases e1 : Gs.getD i Pt.none with
  | eq x => exact fun _ z => z.elim
  | thg t x =>
    cases e2 : Gs.getD j Pt.none with
    | eq y => exact fun _ _ z => z
    | thg t' y =>
      simp only [Bool.false_eq_true, if_false]
      rcases Nat.lt_or_gt_of_ne hij with hlt | hgt
      · exact h.far i j t x t' y hlt e1 e2
      · exact (h.far j i t' y t x hgt e2 e1).symm
/-- What is turned, and lies there. -/
def onT (w0 : World) (Gs : List Pt) (i : Nat) (w : World) : Prop := match Gs.getD i Pt.none with
  | .eq _ => True
  | .thg t _ => ∃ T', t.B T' w ∧ Grew w0 t.T T'
/-- M: who waits for whom, if only by way of others. -/
def ToldT (w0 : World) (Gs : List Pt) (M : List (Nat × Nat)) : Nat → Value → World → Prop := fun j v w => v = saysT (Gs.getD j Pt.none) ∧ onT w0 Gs j w ∧ ∀ i, (j, i) ∈ M → onT w0 Gs i w
def mustOk (os : List Oper) (M : List (Nat × Nat)) : Bool := M.all fun q => match os[q.1]? with | some o => o.after.toList.any (fun e => Region.binds .any e && (e.on == q.2 || M.contains (e.on, q.2))) | none => false
def LeftT (Gs : List Pt) (i : Nat) (w : World) (v : Value) (w' : World) : Prop := match Gs.getD i Pt.none with
  | .eq x => v = x ∧ Kept (fun _ => False) w w'
  | .thg t x => v = x ∧ Kept t.T w w' ∧ ∃ T', t.B T' w' ∧ Grew w t.T T'
theorem cur_live {S : Nat → Prop} {w0 w : World} {Gs : List Pt} {L : Nat → Bool} {v : Nat → Value} {Tf : Nat → Nat → Prop} {M : List (Nat × Nat)} (h : JT S w0 Gs M L v Tf w) (i : Nat) : Live w (curT Gs L Tf i) := by
  have := h.things i
  unfold isT at this
  unfold curT
  cases e : Gs.getD i Pt.none with
  | eq x => exact fun _ h => h.elim
  | thg t x =>
    rw [e] at this
    simp only at this ⊢
    cases hl : L i with
    | true => rw [hl] at this; rw [if_pos rfl] at this ⊢; exact t.liB w _ this
    | false => rw [hl] at this; rw [if_neg (by simp)] at this ⊢; exact t.liA w this
theorem cur_up {Gs : List Pt} {L : Nat → Bool} {Tf Tf' : Nat → Nat → Prop} {i j : Nat} (h : j ≠ i) (hT : Tf' j = Tf j) : curT Gs (fun k => if k = i then true else L k) Tf' j = curT Gs L Tf j := by
  unfold curT
  cases Gs.getD j Pt.none with
  | eq x => rfl
  | thg t x => simp only [if_neg h, hT]
theorem is_up {Gs : List Pt} {L : Nat → Bool} {Tf Tf' : Nat → Nat → Prop} {w : World} {i j : Nat} (h : j ≠ i) (hT : Tf' j = Tf j) : isT Gs (fun k => if k = i then true else L k) Tf' w j = isT Gs L Tf w j := by
  unfold isT
  cases Gs.getD j Pt.none with
  | eq x => rfl
  | thg t x => simp only [if_neg h, hT]
theorem is_kept {S' : Nat → Prop} {Gs : List Pt} {L : Nat → Bool} {Tf : Nat → Nat → Prop} {w w' : World} {j : Nat} (h : isT Gs L Tf w j) (k : Kept S' w w') (ha : Apart (curT Gs L Tf j) S') : isT Gs L Tf w' j := by
  unfold isT at h ⊢
  unfold curT at ha
  cases e : Gs.getD j Pt.none with
  | eq x => trivial
  | thg t x =>
    rw [e] at h ha
    simp only at h ha ⊢
    split
    · rename_i hl; rw [if_pos hl] at h ha; exact t.stB w w' S' _ h k ha
    · rename_i hl; rw [if_neg hl] at h ha; exact t.stA w w' S' h k ha
/-- One more operation. -/
theorem JT.more {S : Nat → Prop} {w0 w w' : World} {Gs : List Pt} {M : List (Nat × Nat)} {L : Nat → Bool} {v : Nat → Value} {Tf : Nat → Nat → Prop} {i : Nat} {x : Value} (hO : OldT S w0 Gs) (h : JT S w0 Gs M L v Tf w) (hi : L i = false) (hM : ∀ k, (i, k) ∈ M → L k = true) (hx : LeftT Gs i w x w') : ∃ Tf', JT S w0 Gs M (upL L i) (upV v i x) Tf' w' := by
  have hcl : ∀ j k, (j, k) ∈ M → upL L i j = true → upL L i k = true := fun j k hm hj => by
    have hk : L k = true := by
      by_cases hji : j = i
      · subst hji; exact hM k hm
      · rw [show upL L i j = L j from if_neg hji] at hj; exact h.clos j k hm hj
    unfold upL; split <;> first | rfl | exact hk
  unfold LeftT at hx
  cases e : Gs.getD i Pt.none with
  | eq y =>
    rw [e] at hx
    refine ⟨Tf, h.kept.trans hx.2 (fun _ _ z => z.elim), fun j hj => ?_, fun j => ?_, fun j t z hj hl => ?_, fun a b hab => ?_, hcl⟩
    · by_cases hji : j = i
      · subst hji; rw [show upV v j x j = x from if_pos rfl, e]; exact hx.1
      · rw [show upL L i j = L j from if_neg hji] at hj; rw [show upV v i x j = v j from if_neg hji]; exact h.vals j hj
    · by_cases hji : j = i
      · subst hji; unfold isT; rw [e]; trivial
      · rw [show isT Gs (upL L i) Tf w' j = isT Gs L Tf w' j from is_up hji rfl]; exact is_kept (h.things j) hx.2 (fun _ _ z => z)
    · have hji : j ≠ i := fun z' => by rw [z', e] at hj; cases hj
      rw [show upL L i j = L j from if_neg hji] at hl; exact h.grew j t z hj hl
    · have hc : ∀ c, curT Gs (upL L i) Tf c = curT Gs L Tf c := fun c => by
        by_cases hci : c = i
        · subst hci; unfold curT; rw [e]
        · exact cur_up hci rfl
      rw [hc, hc]; exact h.apart a b hab
  | thg t y =>
    rw [e] at hx
    obtain ⟨hv, k, T', hB, hG⟩ := hx
    have hcur : curT Gs L Tf i = t.T := by unfold curT; rw [e]; simp [hi]
    have hTf : ∀ c, c ≠ i → (fun c => if c = i then T' else Tf c) c = Tf c := fun c hc => by simp [hc]
    have hci : curT Gs (upL L i) (fun c => if c = i then T' else Tf c) i = T' := by unfold curT; rw [e]; simp [upL]
    have hcj : ∀ c, c ≠ i → curT Gs (upL L i) (fun c => if c = i then T' else Tf c) c = curT Gs L Tf c := fun c hc => cur_up hc (hTf c hc)
    have hnew : ∀ c, c ≠ i → Apart T' (curT Gs L Tf c) := fun c hc => by
      have := h.apart i c (fun z => hc z.symm)
      rw [hcur] at this
      exact this.grew hG (cur_live h c)
    refine ⟨fun c => if c = i then T' else Tf c, h.kept.trans k (fun b _ hb => (hO.1 i t y e).1 b hb), fun j hj => ?_, fun j => ?_, fun j t' z hj hl => ?_, fun a b hab => ?_, hcl⟩
    · by_cases hji : j = i
      · subst hji; rw [show upV v j x j = x from if_pos rfl, e]; exact hv
      · rw [show upL L i j = L j from if_neg hji] at hj; rw [show upV v i x j = v j from if_neg hji]; exact h.vals j hj
    · by_cases hji : j = i
      · subst hji; unfold isT; rw [e]; simp only [upL]; simpa using hB
      · rw [show isT Gs (upL L i) (fun c => if c = i then T' else Tf c) w' j = isT Gs L Tf w' j from is_up hji (hTf j hji)]
        exact is_kept (h.things j) k (by have := h.apart j i hji; rw [hcur] at this; exact this)
    · by_cases hji : j = i
      · subst hji
        rw [e] at hj; cases hj
        simp only [if_true]
        exact fun b hb => (hG b hb).elim .inl (fun hge => .inr (Nat.le_trans h.kept.size hge))
      · rw [show upL L i j = L j from if_neg hji] at hl
        simp only [if_neg hji]; exact h.grew j t' z hj hl
    · by_cases hai : a = i
      · subst hai
        rw [hci, hcj b (fun z => hab z.symm)]; exact hnew b (fun z => hab z.symm)
      · rw [hcj a hai]
        by_cases hbi : b = i
        · subst hbi; rw [hci]; exact (hnew a hai).symm
        · rw [hcj b hbi]; exact h.apart a b hab
theorem y_setStc {P : Program} {ρ : Operand → Value} {o : Oper} {w : World} {R : Value → World → Prop} {ty t : TypeId} {x y : Operand} {p k : Nat} {v u : Value} {vs : List Value} (ho : o.op = .store ty x y) (hx : ρ x = .pointer (some ⟨p, k, none⟩)) (hy : ρ y = v) (hB : Stc w p t vs) (hk : vs[k]? = some u) (hv : oneC v = true)
    (hs : (P.info? ty).map (·.size) = some 1)
    (h : ∀ w', Stc w' p t (vs.set k v) → Kept (fun k => k = p) w w' → R undef w') : Yields P ρ o w R := by
  have hc := hB.cell hk
  have hf : w.frozen? ⟨p, k, none⟩ = false := frozen_of_heap hB
  cases hq : P.info? ty with
  | none => simp [hq] at hs
  | some i =>
    have hs' : i.size = 1 := by simpa [hq] using hs
    have e : (execOp ρ o).run P w = .ok .skip (w.setCell ⟨p, k, none⟩ v) ∨ (execOp ρ o).run P w = .ok (.value undef) (w.setCell ⟨p, k, none⟩ v) := by
      cases v <;> first
        | (simp [oneC] at hv; done)
        | simp [execOp, ho, hx, hy, Instr.storeAt, Instr.sureAddr, storeVar, sizeOf, typeInfo, hq, hs', Value.cells, hc, hf, go_sem]
    unfold Yields
    rcases e with e | e <;> rw [e] <;> exact h _ (hB.set k v) ((Kept.refl (fun k => k = p) w).setCell ⟨p, k, none⟩ (fun _ => rfl) _)
/-- A struct that is stored into. -/
def stcThg (p : Nat) (t : TypeId) (zs us : List Value) : Thg := ⟨fun w => Stc w p t zs, onB p, fun T w => T = onB p ∧ Stc w p t us, fun _ _ _ h k ha => h.all k (ha p rfl), fun _ _ _ _ h k ha => ⟨h.1, h.2.all k (ha p (by rw [h.1]; rfl))⟩, fun _ h => onB_live h.lt, fun _ _ h => by rw [h.1]; exact onB_live h.2.lt⟩
section
variable {P : Program} {N : Nat} {F : Nat → Value} {w : World} {Q : Exit → (Nat → Value) → World → Prop}
def StepFT (S : Nat → Prop) (M : List (Nat × Nat)) (N : Nat) (P : Program) (D : List (Option Tmp)) (Gs : List Pt) (F0 : Nat → Value) (w0 : World) (i : Nat) (o : Oper) : Prop :=
  ∀ (F : Nat → Value) (w : World), Kept S w0 w → (∀ t, Nat.blt t N = true → some t ∉ D → F t = F0 t) → DepsF D (ToldT w0 Gs M) F w o.after.toList → (∀ k t x, (k = i ∨ (k, i) ∈ M) → Gs.getD k Pt.none = .thg t x → t.A w) →
    match o.guard with
    | none => Yields P (ev F) o w (LeftT Gs i w)
    | some (j, want) => ∃ d, D.getD j none = some d ∧
      ((F d = .bool want ∧ Yields P (ev F) o w (LeftT Gs i w)) ∨ ((F d = .bool (!want) ∨ F d = undef) ∧ Gs.getD i Pt.none = .eq undef))
def StepsFT (S : Nat → Prop) (M : List (Nat × Nat)) (N : Nat) (P : Program) (D : List (Option Tmp)) (Gs : List Pt) (F0 : Nat → Value) (w0 : World) : Nat → List Oper → Prop
  | _, [] => True
  | i, o :: r => StepFT S M N P D Gs F0 w0 i o ∧ StepsFT S M N P D Gs F0 w0 (i + 1) r
theorem stepsFT_nil {S : Nat → Prop} {M : List (Nat × Nat)} {D : List (Option Tmp)} {Gs : List Pt} {F0 : Nat → Value} {w0 : World} {i : Nat} : StepsFT S M N P D Gs F0 w0 i [] := trivial
theorem stepsFT_cons {S : Nat → Prop} {M : List (Nat × Nat)} {D : List (Option Tmp)} {Gs : List Pt} {F0 : Nat → Value} {w0 : World} {i : Nat} {o : Oper} {r : List Oper} (h : StepFT S M N P D Gs F0 w0 i o) (k : StepsFT S M N P D Gs F0 w0 (i + 1) r) : StepsFT S M N P D Gs F0 w0 i (o :: r) := ⟨h, k⟩
theorem StepFT.one {S : Nat → Prop} {M : List (Nat × Nat)} {D : List (Option Tmp)} {Gs : List Pt} {F0 : Nat → Value} {w0 : World} {i : Nat} {o : Oper} (hg : o.guard = none)
    (h : ∀ (F : Nat → Value) (w : World), Kept S w0 w → (∀ t, Nat.blt t N = true → some t ∉ D → F t = F0 t) → DepsF D (ToldT w0 Gs M) F w o.after.toList → Yields P (ev F) o w (LeftT Gs i w)) : StepFT S M N P D Gs F0 w0 i o := by
  intro F w h1 h2 h3 _
  rw [hg]; exact h F w h1 h2 h3
/-- What is turned later, by an operation that waits for this one, is as it was. -/
theorem StepFT.oneA {S : Nat → Prop} {M : List (Nat × Nat)} {D : List (Option Tmp)} {Gs : List Pt} {F0 : Nat → Value} {w0 : World} {i : Nat} {o : Oper} (hg : o.guard = none)
    (h : ∀ (F : Nat → Value) (w : World), Kept S w0 w → (∀ t, Nat.blt t N = true → some t ∉ D → F t = F0 t) → DepsF D (ToldT w0 Gs M) F w o.after.toList → (∀ k t x, (k, i) ∈ M → Gs.getD k Pt.none = .thg t x → t.A w) → Yields P (ev F) o w (LeftT Gs i w)) : StepFT S M N P D Gs F0 w0 i o := by
  intro F w h1 h2 h3 h4
  rw [hg]; exact h F w h1 h2 h3 (fun k t x hk => h4 k t x (.inr hk))
theorem StepFT.turn {S : Nat → Prop} {M : List (Nat × Nat)} {D : List (Option Tmp)} {Gs : List Pt} {F0 : Nat → Value} {w0 : World} {i : Nat} {t : Thg} {x : Value} {o : Oper} (hg : o.guard = none) (he : Gs.getD i Pt.none = .thg t x)
    (h : ∀ (F : Nat → Value) (w : World), Kept S w0 w → (∀ t, Nat.blt t N = true → some t ∉ D → F t = F0 t) → DepsF D (ToldT w0 Gs M) F w o.after.toList → t.A w → Yields P (ev F) o w (fun v w' => v = x ∧ Kept t.T w w' ∧ ∃ T', t.B T' w' ∧ Grew w t.T T')) : StepFT S M N P D Gs F0 w0 i o := by
  intro F w h1 h2 h3 h4
  rw [hg]
  refine (h F w h1 h2 h3 (h4 i t x (.inl rfl) he)).mono' fun v w' hx => ?_
  unfold LeftT; rw [he]; exact hx
theorem StepFT.when {S : Nat → Prop} {M : List (Nat × Nat)} {D : List (Option Tmp)} {Gs : List Pt} {F0 : Nat → Value} {w0 : World} {i : Nat} {o : Oper} (j : Nat) (want : Bool) (d : Tmp) (hg : o.guard = some (j, want)) (hd : D.getD j none = some d)
    (h : ∀ (F : Nat → Value) (w : World), Kept S w0 w → (∀ t, Nat.blt t N = true → some t ∉ D → F t = F0 t) → DepsF D (ToldT w0 Gs M) F w o.after.toList → F d = .bool want ∧ Yields P (ev F) o w (LeftT Gs i w)) : StepFT S M N P D Gs F0 w0 i o := by
  intro F w h1 h2 h3 _
  rw [hg]; exact ⟨d, hd, .inl (h F w h1 h2 h3)⟩
theorem StepFT.step {S : Nat → Prop} {M : List (Nat × Nat)} {os : List Oper} {D : List (Option Tmp)} {Gs : List Pt} {w0 : World} {i : Nat} {o : Oper} {a0 : Act} (hO : OldT S w0 Gs) (hmo : mustOk os M = true) (hio : os[i]? = some o) (ha : Fr N F a0) (h : StepFT S M N P D Gs F w0 i o) : StepJ os P D (fun L v w => ∃ Tf, JT S w0 Gs M L v Tf w) a0 i o := by
  rintro L v a w ⟨Tf, hJ⟩ hi hdone hout hhere _
  have hdeps : DepsF D (ToldT w0 Gs M) (fun t => a.tmps.getD t undef) w o.after.toList := by
    refine Deps.toF (Deps.mk fun e he hb d hd => ?_)
    have hl := hdone e he hb
    have hDe : D[e.on]? = some (some d) := by
      unfold List.getD at hd
      cases hq : D[e.on]? with
      | none => rw [hq] at hd; cases hd
      | some y => rw [hq] at hd; simp at hd; rw [hd]
    rw [hhere e.on d hl hDe, hJ.vals e.on hl]
    have key : ∀ c, L c = true → onT w0 Gs c w := fun c hc => by
      have ht := hJ.things c
      unfold onT
      unfold isT at ht
      cases e' : Gs.getD c Pt.none with
      | eq y => trivial
      | thg t y =>
        rw [e'] at ht
        simp only [hc, if_true] at ht
        exact ⟨_, ht, hJ.grew c t y e' hc⟩
    exact ⟨rfl, key _ hl, fun c hc => key c (hJ.clos _ _ hc hl)⟩
  have hM : ∀ k, (i, k) ∈ M → L k = true := fun k hk => by
    have := List.all_eq_true.1 hmo _ hk
    simp only [hio] at this
    obtain ⟨e, he, hb⟩ := List.any_eq_true.1 this
    simp only [Bool.and_eq_true, Bool.or_eq_true, beq_iff_eq] at hb
    have hl := hdone e he hb.1
    rcases hb.2 with h1 | h1
    · rw [← h1]; exact hl
    · exact hJ.clos _ _ (by simpa using h1) hl
  have h1 := h (fun t => a.tmps.getD t undef) w hJ.kept (fun t hb ht => by rw [← ha.at' t hb]; exact hout t ht) hdeps (fun k t x hk e => by
    have hLk : L k = false := by
      rcases hk with rfl | hk
      · exact hi
      · cases hL : L k with
        | false => rfl
        | true => have := hJ.clos k i hk hL; rw [hi] at this; cases this
    have := hJ.things k
    unfold isT at this
    rw [e] at this
    simpa [hLk] using this)
  rw [← eval_ev a] at h1
  unfold goes
  cases hg : o.guard with
  | none => rw [hg] at h1; exact ⟨fun _ => h1.mono' fun x w' hx => hJ.more hO hi hM hx, fun e => by cases e⟩
  | some g =>
    obtain ⟨j, want⟩ := g
    rw [hg] at h1
    obtain ⟨d, hd, h1⟩ := h1
    simp only [hd]
    have hev : a.eval (.tmp d) = a.tmps.getD d undef := rfl
    rcases h1 with ⟨hv, hy⟩ | ⟨hv, hs⟩
    · rw [hev, hv]; exact ⟨fun _ => hy.mono' fun x w' hx => hJ.more hO hi hM hx, fun e => by simp at e⟩
    · refine ⟨fun e => ?_, fun _ => hJ.more hO hi hM (by unfold LeftT; rw [hs]; exact ⟨rfl, Kept.refl _ _⟩)⟩
      rcases hv with hv | hv
      · rw [hev, hv] at e; cases want <;> simp at e
      · rw [hev, hv] at e; simp [undef] at e
theorem StepsFT.steps {S : Nat → Prop} {M : List (Nat × Nat)} {all : List Oper} {D : List (Option Tmp)} {Gs : List Pt} {w0 : World} {a0 : Act} (hO : OldT S w0 Gs) (hmo : mustOk all M = true) (ha : Fr N F a0) : ∀ {os : List Oper} {i : Nat}, (∀ k o, os[k]? = some o → all[i + k]? = some o) → StepsFT S M N P D Gs F w0 i os → StepsJ all P D (fun L v w => ∃ Tf, JT S w0 Gs M L v Tf w) a0 i os := by
  intro os
  induction os with
  | nil => intro i _ _; exact trivial
  | cons o r ih =>
    intro i hat h
    exact ⟨h.1.step hO hmo (hat 0 o rfl) ha, ih (fun k o' hk => by have := hat (k + 1) o' hk; rwa [show i + (k + 1) = i + 1 + k by omega] at this) h.2⟩
theorem wq_turns {S : Nat → Prop} {id : Nat} {ops : Array Oper} (M : List (Nat × Nat)) (D : List (Option Tmp)) (Gs : List Pt) (hm : P.follows .mixedOrders = true) (hpl : plain N 0 D ops.toList = true) (hmo : mustOk ops.toList M = true) (hsz : Gs.length = ops.size) (hO : OldT S w Gs) (hsteps : StepsFT S M N P D Gs F w 0 ops.toList)
    (hend : ∀ (v : Nat → Value) (Tf : Nat → Nat → Prop) (F' : Nat → Value) (w' : World), Kept S w w' → (∀ i, i < ops.size → v i = saysT (Gs.getD i Pt.none)) → (∀ i t x, Gs.getD i Pt.none = .thg t x → t.B (Tf i) w' ∧ Grew w t.T (Tf i)) → (∀ i j t x t' x', i ≠ j → Gs.getD i Pt.none = .thg t x → Gs.getD j Pt.none = .thg t' x' → Apart (Tf i) (Tf j)) → (∀ t, F' t = putsF v 0 D F t) → Q .normal F' w') : wq none P N (.region id ops true) Q F w := by
  intro a ha
  refine wpIn_wide.2 ?_
  refine wp_region_inv D (fun L v w' => ∃ Tf, JT S w Gs M L v Tf w') hm (by rw [ha.size]; exact hpl) ⟨fun _ => noB, (Kept.refl _ w).drew, fun _ e => (by cases e), fun i => ?_, fun _ _ _ _ e => (by cases e), hO.2, fun _ _ _ e => (by cases e)⟩ (hsteps.steps hO hmo ha (fun k o hk => by rw [Nat.zero_add]; exact hk)) fun L v w' ⟨Tf, hJ⟩ hL => ?_
  · unfold isT
    cases e : Gs.getD i Pt.none with
    | eq y => trivial
    | thg t y => exact t.stA w _ (fun _ => False) (hO.1 i t y e).2 (Kept.refl _ w).drew (fun _ _ z => z)
  · have hlt : ∀ i t x, Gs.getD i Pt.none = .thg t x → L i = true := fun i t x e => by
      refine hL i ?_
      rw [← hsz]
      rcases Nat.lt_or_ge i Gs.length with h' | h'
      · exact h'
      · have : Gs.getD i Pt.none = Pt.none := by simp [List.getD, List.getElem?_eq_none h']
        rw [this] at e; cases e
    refine ⟨putsF v 0 D F, putAll_fr v D 0 F a ha (plain_fits hpl), hend v Tf _ w' hJ.kept (fun i hi => hJ.vals i (hL i hi)) (fun i t x e => ?_) (fun i j t x t' x' hij e1 e2 => ?_) fun _ => rfl⟩
    · have := hJ.things i
      unfold isT at this
      rw [e] at this
      simp only [hlt i t x e, if_true] at this
      exact ⟨this, hJ.grew i t x e (hlt i t x e)⟩
    · have := hJ.apart i j hij
      unfold curT at this
      rw [e1, e2] at this
      simpa only [hlt i t x e1, hlt j t' x' e2, if_true] using this
end
end Go.Proofs.Ythhagejcgobfgaa
namespace Go.Proofs.Ythhagejcgobfgaa
open Go.RowKit

def vfG (f : VF) : Int → Int → Int × Int := fun a b => (f.X a b, f.Y a b)
def Vfp (w : World) (T : Nat → Prop) (p : Nat) (f : VF) : Prop := ∃ r, (∀ i, T i ↔ (onB p i ∨ onB r i)) ∧ Stc w p 67 [.int .i64 f.w, .int .i64 f.h, .map (some r)] ∧ Mpf w r (vfG f) ∧ Apart (onB p) (onB r) ∧ OkV f
theorem Vfp.live {w : World} {T : Nat → Prop} {p : Nat} {f : VF} (h : Vfp w T p f) : Live w T := by
  obtain ⟨r, hT, h1, h2, _⟩ := h
  exact fun i hi => ((hT i).1 hi).elim (fun e => by cases e; exact h1.lt) (fun e => by cases e; exact h2.lt)
theorem Vfp.all {S : Nat → Prop} {w w' : World} {T : Nat → Prop} {p : Nat} {f : VF} (h : Vfp w T p f) (k : Kept S w w') (ha : Apart T S) : Vfp w' T p f := by
  obtain ⟨r, hT, h1, h2, h3, h4⟩ := h
  exact ⟨r, hT, h1.all k (ha p ((hT p).2 (Or.inl rfl))), h2.all k (ha r ((hT r).2 (Or.inr rfl))), h3, h4⟩
theorem Vfp.ok {w : World} {T : Nat → Prop} {p : Nat} {f : VF} (h : Vfp w T p f) : OkV f := by obtain ⟨_, _, _, _, _, h⟩ := h; exact h
/-- One, or none. -/
def Vpo (w : World) (T : Nat → Prop) (v : Value) (o : Option VF) : Prop := match o with
  | none => v = .pointer none ∧ T = noB
  | some f => ∃ p, v = .pointer (some ⟨p, 0, none⟩) ∧ Vfp w T p f
theorem Vpo.nil (w : World) : Vpo w noB (.pointer none) none := ⟨rfl, rfl⟩
theorem Vpo.live {w : World} {T : Nat → Prop} {v : Value} {o : Option VF} (h : Vpo w T v o) : Live w T := by
  cases o with
  | none => obtain ⟨_, rfl⟩ := h; exact fun _ h => h.elim
  | some f => obtain ⟨p, _, h⟩ := h; exact h.live
theorem Vpo.all {S : Nat → Prop} {w w' : World} {T : Nat → Prop} {v : Value} {o : Option VF} (h : Vpo w T v o) (k : Kept S w w') (ha : Apart T S) : Vpo w' T v o := by
  cases o with
  | none => exact h
  | some f => obtain ⟨p, e, h⟩ := h; exact ⟨p, e, h.all k ha⟩
theorem Vpo.ok {w : World} {T : Nat → Prop} {v : Value} {f : VF} (h : Vpo w T v (some f)) : OkV f := by obtain ⟨_, _, h⟩ := h; exact h.ok
/-- Whether a pointer is none. -/
theorem Vpo.isnil {w : World} {T : Nat → Prop} {v : Value} {o : Option VF} (h : Vpo w T v o) : ∃ a, v = .pointer a ∧ a.isNone = o.isNone := by
  cases o with
  | none => exact ⟨none, h.1, rfl⟩
  | some f => obtain ⟨p, e, _⟩ := h; exact ⟨_, e, rfl⟩
theorem Vfo.isnil {w : World} {T : Nat → Prop} {v : Value} {o : Option VF} (h : Vfo w T v o) : ∃ a, v = .pointer a ∧ a.isNone = o.isNone := by
  cases o with
  | none => exact ⟨none, h.1, rfl⟩
  | some f => obtain ⟨p, e, _⟩ := h; exact ⟨_, e, rfl⟩
section
variable {P : Program} {ρ : Operand → Value} {o : Oper} {w : World} {R : Value → World → Prop}
theorem y_eqlNone {t t' : TypeId} {x y : Operand} {v : Value} {n b : Bool} {d : TypeId} (ho : o.op = .binOp .eql t x y t') (hx : ρ x = v) (hy : ρ y = .pointer none) (hu : P.underlying t = some (.pointer d)) (hn : ∃ a, v = .pointer a ∧ a.isNone = n) (hr : n = b) (h : R (.bool b) w) : Yields P ρ o w R := by
  obtain ⟨a, rfl, rfl⟩ := hn
  subst hr
  refine y_of (v := .bool a.isNone) (w' := w) ?_ h
  have hq : P.underlying t = some (.pointer (P.pointee t)) := by simp [Program.pointee, hu]
  simp [execOp, ho, hx, hy, run_eql_pointer_nil w t a hq, go_sem]
end
def setO (o : Option VF) (x y X Y : Int) : Int := match o with | none => 1 | some f => setE f x y X Y
def gOX (o : Option VF) (x y : Int) : Int := match o with | none => 0 | some f => gX f x y
def gOY (o : Option VF) (x y : Int) : Int := match o with | none => 0 | some f => gY f x y
def putO (o : Option VF) (x y X Y : Int) : Option VF := o.map fun f => setV f x y X Y
def inI (n : Int) : Prop := -9223372036854775808 ≤ n ∧ n ≤ 9223372036854775807

end Go.Proofs.Ythhagejcgobfgaa
