/- What BlockStill reaches of my texts, part 3. -/
import Derived.Test.YtdcbabgcbkdlhaaDoorBlockStillB
set_option maxRecDepth 100000
set_option maxRecDepth 100000
namespace Go.Proofs.YtdcbabgcbkdlhaaDoor
open Go.RowKit

/-- One more operation is listed. -/
def upL (L : Nat → Bool) (i : Nat) : Nat → Bool := fun j => if j = i then true else L j
/-- One more answer. -/
def upV (v : Nat → Value) (i : Nat) (x : Value) : Nat → Value := fun j => if j = i then x else v j

/-- Whether each operation that writes a slot waits for operation i. -/
def late (os : List Oper) (t : Tmp) (i : Nat) : Bool := os.all fun o => o.dst != some t || o.after.toList.any fun e => Region.binds .any e && e.on == i

/-- What is asked of one operation. -/
def StepJ (os : List Oper) (P : Program) (D : List (Option Tmp)) (J : (Nat → Bool) → (Nat → Value) → World → Prop) (a0 : Act) (i : Nat) (o : Oper) : Prop :=
  ∀ (L : Nat → Bool) (v : Nat → Value) (a : Act) (w : World), J L v w → L i = false → (∀ e ∈ o.after.toList, Region.binds .any e = true → L e.on = true) →
    (∀ t, some t ∉ D → a.eval (.tmp t) = a0.eval (.tmp t)) → (∀ j d, L j = true → D[j]? = some (some d) → a.eval (.tmp d) = v j) → (∀ t, late os t i = true → a.eval (.tmp t) = a0.eval (.tmp t)) →
    (goes D o a = true → Yields P a.eval o w (fun x w' => J (upL L i) (upV v i x) w')) ∧ (goes D o a = false → J (upL L i) (upV v i undef) w)

def StepsJ (os : List Oper) (P : Program) (D : List (Option Tmp)) (J : (Nat → Bool) → (Nat → Value) → World → Prop) (a0 : Act) : Nat → List Oper → Prop
  | _, [] => True
  | i, o :: r => StepJ os P D J a0 i o ∧ StepsJ os P D J a0 (i + 1) r

theorem StepsJ.at {all : List Oper} {P : Program} {D : List (Option Tmp)} {J : (Nat → Bool) → (Nat → Value) → World → Prop} {a0 : Act} : ∀ {i : Nat} {os : List Oper}, StepsJ all P D J a0 i os → ∀ k o, os[k]? = some o → StepJ all P D J a0 (i + k) o := by
  intro i os
  induction os generalizing i with
  | nil => intro _ k o h; simp at h
  | cons x r ih =>
    intro h k o hk
    cases k with
    | zero => simp at hk; subst hk; exact h.1
    | succ k =>
      simp at hk
      have := ih h.2 k o hk
      rwa [show i + 1 + k = i + (k + 1) by omega] at this

structure MidJ (ops : Array Oper) (D : List (Option Tmp)) (J : (Nat → Bool) → (Nat → Value) → World → Prop) (a0 : Act) (v : Nat → Value) (listed : Array Bool) (a : Act) (w : World) : Prop where
  size : a.tmps.size = a0.tmps.size
  ls : listed.size = ops.size
  defers : a.defers = a0.defers
  out : ∀ t, (∀ j, listed.getD j false = true → D[j]? ≠ some (some t)) → a.tmps.getD t undef = a0.tmps.getD t undef
  here : ∀ j d, listed.getD j false = true → D[j]? = some (some d) → a.tmps.getD d undef = v j
  good : J (fun j => listed.getD j false) v w
  cl : ∀ (k : Nat) (o : Oper), ops[k]? = some o → listed.getD k false = true → ∀ e ∈ o.after.toList, Region.binds .any e = true → listed.getD e.on false = true

theorem wpAny_inv {P : Program} {ops : Array Oper} {Q : Exit → Act → World → Prop} {a0 : Act} (D : List (Option Tmp)) (J : (Nat → Bool) → (Nat → Value) → World → Prop)
    (hpl : plain a0.tmps.size 0 D ops.toList = true) (hsteps : StepsJ ops.toList P D J a0 0 ops.toList)
    (hend : ∀ (L : Nat → Bool) (v : Nat → Value) (w : World), J L v w → (∀ i, i < ops.size → L i = true) → Q .normal (putAll v 0 D a0) w) :
    ∀ (fuel : Nat) (listed : Array Bool) (v : Nat → Value) (a : Act) (w : World), MidJ ops D J a0 v listed a w → (fuel = 0 → Region.ready .any ops listed = []) →
      (List.range ops.size).countP (fun i => !listed.getD i false) ≤ fuel → wpAny P .any ops Q fuel listed a w := by
  obtain ⟨hDl, hpa⟩ := plain_at hpl
  have hlen : D.length = ops.size := by simpa using hDl
  have hback : ∀ (k : Nat) (o : Oper), ops[k]? = some o → ∀ e ∈ o.after.toList, Region.binds .any e = true → e.on < k := by
    intro k o hk e he hb
    have := (hpa k o (by simpa using hk)).2.2 e he hb
    omega
  have fin : ∀ (listed : Array Bool) (v : Nat → Value) (a : Act) (w : World), MidJ ops D J a0 v listed a w → Region.ready .any ops listed = [] → Q .normal a w := by
    intro listed v a w hm hr
    have hall := all_listed hback hr hm.ls
    have hp := putAll_frame v D 0 a0
    have ha : a = putAll v 0 D a0 := by
      have ht : a.tmps = (putAll v 0 D a0).tmps := by
        apply Array.ext
        · rw [hm.size, hp.1]
        · intro t h1 h2
          have e : a.tmps.getD t undef = (putAll v 0 D a0).tmps.getD t undef := by
            by_cases hmem : some t ∈ D
            · obtain ⟨j, hj⟩ := List.mem_iff_getElem?.1 hmem
              have hjs : j < ops.size := by rw [← hlen]; exact (List.getElem?_eq_some_iff.1 hj).1
              obtain ⟨g1, g2, _⟩ := hpa j ops[j] (by simp [hjs])
              have hdst : ops[j].dst = some t := by rw [hj] at g1; exact (Option.some.inj g1).symm
              obtain ⟨k1, k2⟩ := g2 t hdst
              rw [hm.here j t (hall j hjs) hj, hp.2.2.2 j t hj k2 k1, Nat.zero_add]
            · rw [hp.2.2.1 t hmem, hm.out t (fun j _ hj => hmem (List.mem_of_getElem? hj))]
          simpa [Array.getD_eq_getD_getElem?, h1, h2] using e
      have hd : a.defers = (putAll v 0 D a0).defers := by rw [hm.defers, hp.2.1]
      cases a
      cases hq : putAll v 0 D a0
      rw [hq] at ht hd
      simp only at ht hd
      rw [ht, hd]
    rw [ha]
    exact hend _ v w hm.good hall
  intro fuel
  induction fuel with
  | zero =>
    intro listed v a w hm h0 _
    exact ⟨h0 rfl, fin listed v a w hm (h0 rfl)⟩
  | succ fuel ih =>
    intro listed v a w hm _ hcount
    refine ⟨fin listed v a w hm, fun i hi => ?_⟩
    obtain ⟨hlt, hnl, o, ho, haft⟩ := mem_ready hi
    have hlsz : i < listed.size := by rw [hm.ls]; exact hlt
    have hnl' : listed.getD i false = false := by simpa [Array.getD, hlsz] using hnl
    obtain ⟨g1, g2, g3⟩ := hpa i o (by simpa using ho)
    have hstep := hsteps.at i o (by simpa using ho)
    rw [Nat.zero_add] at hstep
    have hout : ∀ t, some t ∉ D → a.eval (.tmp t) = a0.eval (.tmp t) := fun t ht => hm.out t (fun j _ hj => ht (List.mem_of_getElem? hj))
    have hlate : ∀ t, late ops.toList t i = true → a.eval (.tmp t) = a0.eval (.tmp t) := by
      intro t ht
      refine hm.out t fun j hj hD => ?_
      have hjs : j < ops.size := by rw [← hlen]; exact (List.getElem?_eq_some_iff.1 hD).1
      obtain ⟨k1, _, _⟩ := hpa j ops[j] (by simp [hjs])
      have hdst : ops[j].dst = some t := by rw [hD] at k1; exact (Option.some.inj k1).symm
      unfold late at ht
      have h1 := List.all_eq_true.1 ht ops[j] (by simp)
      simp only [hdst, bne_self_eq_false, Bool.false_or] at h1
      obtain ⟨e, he, hb⟩ := List.any_eq_true.1 h1
      simp only [Bool.and_eq_true, beq_iff_eq] at hb
      have h2 := hm.cl j ops[j] (by simp [hjs]) hj e he hb.1
      rw [hb.2, hnl'] at h2
      cases h2
    obtain ⟨s1, s2⟩ := hstep (fun j => listed.getD j false) v a w hm.good hnl' haft hout (fun j d hj hD => hm.here j d hj hD) hlate
    -- what is left when it answers x in the world w'
    have next : ∀ (x : Value) (w' : World), J (upL (fun j => listed.getD j false) i) (upV v i x) w' → wpAny P .any ops Q fuel (listed.setIfInBounds i true) (a.put o.dst x) w' := by
      intro x w' hJ
      have hcnt : (List.range ops.size).countP (fun j => !(listed.setIfInBounds i true).getD j false) ≤ fuel := by
        have h1 : (List.range ops.size).countP (fun j => !(listed.setIfInBounds i true).getD j false) < (List.range ops.size).countP (fun j => !listed.getD j false) := by
          have hmemi : i ∈ List.range ops.size := by simpa using hlt
          have key : ∀ (l : List Nat), i ∈ l → (∀ j, (!(listed.setIfInBounds i true).getD j false) = true → (!listed.getD j false) = true) → l.countP (fun j => !(listed.setIfInBounds i true).getD j false) < l.countP (fun j => !listed.getD j false) := by
            intro l
            induction l with
            | nil => intro h; cases h
            | cons y r ihl =>
              intro hy himp
              have hle : r.countP (fun j => !(listed.setIfInBounds i true).getD j false) ≤ r.countP (fun j => !listed.getD j false) := List.countP_mono_left fun j _ hj => himp j hj
              by_cases hyi : y = i
              · subst hyi
                have e1 : (!(listed.setIfInBounds y true).getD y false) = false := by rw [getD_set_true _ _ _ hlsz, if_pos rfl]; rfl
                have e2 : (!listed.getD y false) = true := by rw [hnl']; rfl
                rw [List.countP_cons, List.countP_cons]
                simp only [e1, e2, if_true, Bool.false_eq_true, if_false]
                omega
              · have hir : i ∈ r := by
                  rcases List.mem_cons.1 hy with h | h
                  · exact absurd h.symm hyi
                  · exact h
                have := ihl hir himp
                rw [List.countP_cons, List.countP_cons]
                have e3 : (listed.setIfInBounds i true).getD y false = listed.getD y false := by rw [getD_set_true _ _ _ hlsz, if_neg hyi]
                rw [e3]; omega
          refine key _ hmemi fun j hj => ?_
          rw [getD_set_true _ _ _ hlsz] at hj
          by_cases hji : j = i
          · rw [if_pos hji] at hj; cases hj
          · rwa [if_neg hji] at hj
        omega
      have hmid : MidJ ops D J a0 (upV v i x) (listed.setIfInBounds i true) (a.put o.dst x) w' := by
        refine ⟨?_, by simpa using hm.ls, ?_, ?_, ?_, ?_, ?_⟩
        · rw [← hm.size]; cases o.dst <;> simp [Act.put]
        · rw [← hm.defers]; cases o.dst <;> rfl
        · intro t ht
          have hold := hm.out t (fun j hj => ht j (by rw [getD_set_true _ _ _ hlsz]; split <;> first | rfl | exact hj))
          have hne : o.dst ≠ some t := by
            intro e
            exact ht i (by rw [getD_set_true _ _ _ hlsz, if_pos rfl]) (by rw [g1, e])
          rw [← hold]
          cases hd : o.dst with
          | none => rfl
          | some d =>
            have : d ≠ t := fun e => hne (by rw [hd, e])
            simp only [Act.put, Array.getD_eq_getD_getElem?, Array.getElem?_setIfInBounds_ne this]
        · intro j d hj hD
          by_cases hji : j = i
          · subst hji
            have hd : o.dst = some d := by rw [g1] at hD; exact Option.some.inj hD
            have hsz : d < a.tmps.size := by rw [hm.size]; exact (g2 d hd).1
            simp [hd, Act.put, Array.getD_eq_getD_getElem?, hsz, upV]
          · rw [getD_set_true _ _ _ hlsz, if_neg hji] at hj
            have hold := hm.here j d hj hD
            rw [show upV v i x j = v j from if_neg hji, ← hold]
            cases hd : o.dst with
            | none => rfl
            | some y =>
              have hne : y ≠ d := by
                rintro rfl
                rw [hd] at g1
                rcases Nat.lt_or_gt_of_ne hji with hlt2 | hgt2
                · have hjs : j < ops.size := by rw [← hlen]; exact (List.getElem?_eq_some_iff.1 hD).1
                  obtain ⟨k1, k2, _⟩ := hpa j ops[j] (by simp [hjs])
                  have hdst : ops[j].dst = some y := by rw [hD] at k1; exact (Option.some.inj k1).symm
                  exact (k2 y hdst).2 i hlt2 g1
                · exact (g2 y hd).2 j hgt2 hD
              simp only [Act.put, Array.getD_eq_getD_getElem?, Array.getElem?_setIfInBounds_ne hne]
        · have e : (fun j => (listed.setIfInBounds i true).getD j false) = upL (fun j => listed.getD j false) i := by
            funext j; exact getD_set_true _ _ _ hlsz
          rw [e]; exact hJ
        · intro k o' hk hl e he hb
          rw [getD_set_true _ _ _ hlsz] at hl ⊢
          by_cases hee : e.on = i
          · rw [if_pos hee]
          · rw [if_neg hee]
            by_cases hki : k = i
            · subst hki
              rw [ho] at hk
              cases hk
              exact haft e he hb
            · rw [if_neg hki] at hl
              exact hm.cl k o' hk hl e he hb
      refine ih _ _ _ _ hmid ?_ hcnt
      intro hz
      subst hz
      have hz0 : (List.range ops.size).countP (fun j => !(listed.setIfInBounds i true).getD j false) = 0 := by omega
      rw [List.countP_eq_zero] at hz0
      cases hr : Region.ready .any ops (listed.setIfInBounds i true) with
      | nil => rfl
      | cons y r =>
        have hy : y ∈ Region.ready .any ops (listed.setIfInBounds i true) := by rw [hr]; simp
        obtain ⟨q1, q2, _⟩ := mem_ready hy
        have := hz0 y (by simpa using q1)
        have hys : y < (listed.setIfInBounds i true).size := by simp [hm.ls]; exact q1
        have q3 : (listed.setIfInBounds i true).getD y false = false := by rw [← getD_same _ y hys]; exact q2
        rw [q3] at this
        exact absurd rfl this
    have hwant : Region.wanted o (yielded ops a.tmps) = goes D o a := by
      unfold Region.wanted goes
      cases hg : o.guard with
      | none => rfl
      | some p =>
        obtain ⟨j, want⟩ := p
        simp only [yielded]
        by_cases hj : j < ops.size
        · obtain ⟨k1, k2, _⟩ := hpa j ops[j] (by simp [hj])
          have hDj : D.getD j none = ops[j].dst := by simp [List.getD, k1]
          rw [hDj]
          simp only [Array.getElem?_eq_getElem hj, Option.bind_some]
          cases hd : ops[j].dst with
          | none => simp
          | some d =>
            have hsz : d < a.tmps.size := by rw [hm.size]; exact (k2 d hd).1
            simp only [Option.bind_some, Array.getElem?_eq_getElem hsz]
            have he : a.eval (.tmp d) = a.tmps[d] := by simp [Act.eval, Array.getD, hsz]
            rw [he]
            cases a.tmps[d] <;> simp
        · have hDj : D.getD j none = none := by simp [List.getD, List.getElem?_eq_none (show D.length ≤ j by omega)]
          rw [hDj]
          simp [Array.getElem?_eq_none (show ops.size ≤ j by omega)]
    unfold wpOp
    rw [ho]
    simp only [hwant]
    cases hgo : goes D o a with
    | true =>
      simp only [if_true]
      refine .inl (Yields.wp ?_)
      have := s1 hgo
      revert this
      unfold Yields
      generalize (execOp a.eval o).run P w = res
      intro h
      cases res with
      | ok n w' =>
        cases n <;> simp only at h ⊢ <;> first
          | exact next _ _ h
          | exact h.elim
          | exact Calls.mono h (fun e w'' ⟨y, he, hk⟩ => ⟨y, he, next _ _ hk⟩)
      | halt y w' => exact h.elim
    | false =>
      simp only [Bool.false_eq_true, if_false]
      exact next undef w (s2 hgo)


theorem wp_region_inv {P : Program} {id : Nat} {ops : Array Oper} {Q : Exit → Act → World → Prop} {a0 : Act} {w0 : World} (D : List (Option Tmp)) (J : (Nat → Bool) → (Nat → Value) → World → Prop)
    (hm : P.follows .mixedOrders = true) (hpl : plain a0.tmps.size 0 D ops.toList = true) (h0 : J (fun _ => false) (fun _ => undef) w0.drew) (hsteps : StepsJ ops.toList P D J a0 0 ops.toList)
    (hend : ∀ (L : Nat → Bool) (v : Nat → Value) (w : World), J L v w → (∀ i, i < ops.size → L i = true) → Q .normal (putAll v 0 D a0) w) : (Code.region id ops true).wp P Q a0 w0 := by
  refine wp_region_any hm ?_
  have hno : ∀ j, (Array.replicate ops.size false).getD j false = false := by
    intro j
    by_cases h : j < ops.size <;> simp [Array.getD, h]
  refine wpAny_inv D J hpl hsteps hend ops.size _ (fun _ => undef) a0 _ ⟨rfl, by simp, rfl, fun _ _ => rfl, fun j _ hj => ?_, ?_, fun k _ _ hl => ?_⟩ ?_ ?_
  · rw [hno] at hj; cases hj
  · have e : (fun j => (Array.replicate ops.size false).getD j false) = fun _ => false := funext hno
    rw [e]; exact h0
  · rw [hno] at hl; cases hl
  · intro h0
    cases hr : Region.ready .any ops (Array.replicate ops.size false) with
    | nil => rfl
    | cons y r =>
      have hy : y ∈ Region.ready .any ops (Array.replicate ops.size false) := by rw [hr]; simp
      have := (mem_ready hy).1
      omega
  · exact Nat.le_trans (List.countP_le_length) (by simp)
end Go.Proofs.YtdcbabgcbkdlhaaDoor
set_option maxRecDepth 100000
namespace Go.Proofs.YtdcbabgcbkdlhaaDoor
open Go.RowKit

/-- What is asked of one operation. U tells which operation uses an answer up. -/
def StepU (U : Nat → Option Nat) (P : Program) (R : World → Prop) (D : List (Option Tmp)) (G H : Nat → Value → World → Prop) (a0 : Act) (i : Nat) (o : Oper) : Prop :=
  ∀ (a : Act) (w : World), R w → (∀ t, some t ∉ D → a.eval (.tmp t) = a0.eval (.tmp t)) → Deps D (fun j v w => (U j = none ∨ U j = some i) → G j v w) a w o.after.toList →
    (goes D o a = true → Yields P a.eval o w (fun v w' => G i v w' ∧ R w' ∧ (∀ j x, j ≠ i → U j ≠ some i → G j x w → G j x w') ∧ (∀ j x, U j ≠ some i → H j x w → H j x w') ∧ ∀ j d, U j = some i → D[j]? = some (some d) → H j (a.eval (.tmp d)) w')) ∧ (goes D o a = false → G i undef w ∧ ∀ j, U j ≠ some i)
def StepsU (U : Nat → Option Nat) (P : Program) (R : World → Prop) (D : List (Option Tmp)) (G H : Nat → Value → World → Prop) (a0 : Act) : Nat → List Oper → Prop
  | _, [] => True
  | i, o :: r => StepU U P R D G H a0 i o ∧ StepsU U P R D G H a0 (i + 1) r
theorem StepsU.at {U : Nat → Option Nat} {P : Program} {R : World → Prop} {D : List (Option Tmp)} {G H : Nat → Value → World → Prop} {a0 : Act} : ∀ {i : Nat} {os : List Oper}, StepsU U P R D G H a0 i os → ∀ k o, os[k]? = some o → StepU U P R D G H a0 (i + k) o := by
  intro i os
  induction os generalizing i with
  | nil => intro _ k o h; simp at h
  | cons x r ih =>
    intro h k o hk
    cases k with
    | zero => simp at hk; subst hk; exact h.1
    | succ k =>
      simp at hk
      have := ih h.2 k o hk
      rwa [show i + 1 + k = i + (k + 1) by omega] at this
end Go.Proofs.YtdcbabgcbkdlhaaDoor
set_option maxRecDepth 100000
namespace Go.Proofs.YtdcbabgcbkdlhaaDoor
open Go.RowKit

/-- Which operation uses an answer up. -/
def usedBy (l : List (Nat × Nat)) (j : Nat) : Option Nat := (l.find? fun q => q.1 == j).map (·.2)
theorem usedBy_mem {l : List (Nat × Nat)} {j k : Nat} (h : usedBy l j = some k) : (j, k) ∈ l := by
  unfold usedBy at h
  cases hf : l.find? fun q => q.1 == j with
  | none => rw [hf] at h; cases h
  | some q =>
    rw [hf] at h
    cases h
    have h1 := List.find?_some hf
    have h2 := List.mem_of_find?_eq_some hf
    have : q.1 = j := by simpa using h1
    rw [← this]; exact h2
def noUse (l : List (Nat × Nat)) (i : Nat) : Bool := l.all fun q => q.2 != i
theorem noUse_at {l : List (Nat × Nat)} {i : Nat} (h : noUse l i = true) (j : Nat) : usedBy l j ≠ some i := fun e => by
  have := List.all_eq_true.1 h _ (usedBy_mem e)
  simp at this
def oneUse (l : List (Nat × Nat)) (i j : Nat) : Bool := l.all fun q => q.2 != i || q.1 == j
theorem oneUse_at {l : List (Nat × Nat)} {i j : Nat} (h : oneUse l i j = true) {j' : Nat} (e : usedBy l j' = some i) : j' = j := by
  have := List.all_eq_true.1 h _ (usedBy_mem e)
  simpa using this
/-- What is told to operation i. -/
def Told (l : List (Nat × Nat)) (Gs : List Pd) (i : Nat) : Nat → Value → World → Prop := fun j v w => (usedBy l j = none ∨ usedBy l j = some i) → Said Gs j v w
/-- What operation i leaves. -/
def Left (l : List (Nat × Nat)) (D : List (Option Tmp)) (Gs Hs : List Pd) (w0 : World) (i : Nat) (ρ : Operand → Value) (w : World) (v : Value) (w' : World) : Prop :=
  Said Gs i v w' ∧ Kept (fun _ => False) w0 w' ∧ (∀ j x, j ≠ i → usedBy l j ≠ some i → Said Gs j x w → Said Gs j x w') ∧ (∀ j x, usedBy l j ≠ some i → Said Hs j x w → Said Hs j x w') ∧ ∀ j d, usedBy l j = some i → D[j]? = some (some d) → Said Hs j (ρ (.tmp d)) w'
section
variable {P : Program} {N : Nat} {F : Nat → Value} {w : World} {Q : Exit → (Nat → Value) → World → Prop}

def StepFU (l : List (Nat × Nat)) (N : Nat) (P : Program) (D : List (Option Tmp)) (Gs Hs : List Pd) (F0 : Nat → Value) (w0 : World) (i : Nat) (o : Oper) : Prop :=
  ∀ (F : Nat → Value) (w : World), Kept (fun _ => False) w0 w → (∀ t, Nat.blt t N = true → some t ∉ D → F t = F0 t) → DepsF D (Told l Gs i) F w o.after.toList →
    match o.guard with
    | none => Yields P (ev F) o w (Left l D Gs Hs w0 i (ev F) w)
    | some (j, want) => ∃ d, D.getD j none = some d ∧
      ((F d = .bool want ∧ Yields P (ev F) o w (Left l D Gs Hs w0 i (ev F) w)) ∨ ((F d = .bool (!want) ∨ F d = undef) ∧ Said Gs i undef w ∧ noUse l i = true))
def StepsFU (l : List (Nat × Nat)) (N : Nat) (P : Program) (D : List (Option Tmp)) (Gs Hs : List Pd) (F0 : Nat → Value) (w0 : World) : Nat → List Oper → Prop
  | _, [] => True
  | i, o :: r => StepFU l N P D Gs Hs F0 w0 i o ∧ StepsFU l N P D Gs Hs F0 w0 (i + 1) r
theorem StepFU.step {l : List (Nat × Nat)} {D : List (Option Tmp)} {Gs Hs : List Pd} {w0 : World} {i : Nat} {o : Oper} {a0 : Act} (ha : Fr N F a0) (h : StepFU l N P D Gs Hs F w0 i o) : StepU (usedBy l) P (Kept (fun _ => False) w0) D (Said Gs) (Said Hs) a0 i o := by
  intro a w hR hout hD
  have h1 := h (fun t => a.tmps.getD t undef) w hR (fun t hb ht => by rw [← ha.at' t hb]; exact hout t ht) hD.toF
  rw [← eval_ev a] at h1
  unfold goes
  cases hg : o.guard with
  | none => rw [hg] at h1; exact ⟨fun _ => h1, fun e => by cases e⟩
  | some g =>
    obtain ⟨j, want⟩ := g
    rw [hg] at h1
    obtain ⟨d, hd, h1⟩ := h1
    simp only [hd]
    have hev : a.eval (.tmp d) = a.tmps.getD d undef := rfl
    rcases h1 with ⟨hv, hy⟩ | ⟨hv, hs⟩
    · rw [hev, hv]; exact ⟨fun _ => hy, fun e => by simp at e⟩
    · refine ⟨fun e => ?_, fun _ => ⟨hs.1, noUse_at hs.2⟩⟩
      rcases hv with hv | hv
      · rw [hev, hv] at e; cases want <;> simp at e
      · rw [hev, hv] at e; simp [undef] at e
theorem StepsFU.steps {l : List (Nat × Nat)} {D : List (Option Tmp)} {Gs Hs : List Pd} {w0 : World} {a0 : Act} (ha : Fr N F a0) : ∀ {os : List Oper} {i : Nat}, StepsFU l N P D Gs Hs F w0 i os → StepsU (usedBy l) P (Kept (fun _ => False) w0) D (Said Gs) (Said Hs) a0 i os := by
  intro os
  induction os with
  | nil => intro i _; exact trivial
  | cons o r ih => intro i h; exact ⟨h.1.step ha, ih h.2⟩
theorem left_plain {l : List (Nat × Nat)} {D : List (Option Tmp)} {Gs Hs : List Pd} {w0 w w' : World} {i : Nat} {ρ : Operand → Value} {v : Value} (hn : noUse l i = true) (hR : Kept (fun _ => False) w0 w) (h : Said Gs i v w' ∧ Kept (fun _ => False) w w') : Left l D Gs Hs w0 i ρ w v w' :=
  ⟨h.1, hR.trans h.2 (fun _ _ x => x), fun j _ _ _ hj => (Gs.getD j Pd.any).stays _ _ _ hj h.2, fun j _ _ hj => (Hs.getD j Pd.any).stays _ _ _ hj h.2, fun j _ e => absurd e (noUse_at hn j)⟩
theorem Yields.mono' {ρ : Operand → Value} {o : Oper} {R R' : Value → World → Prop} (h : Yields P ρ o w R) (hr : ∀ v w', R v w' → R' v w') : Yields P ρ o w R' := by
  revert h
  unfold Yields
  generalize (execOp ρ o).run P w = r
  intro h
  cases r with
  | ok n w' =>
    cases n <;> simp only at h ⊢ <;> first
      | exact hr _ _ h
      | exact h.elim
      | exact Calls.mono h (fun e w'' ⟨y, he, hk⟩ => ⟨y, he, hr _ _ hk⟩)
  | halt y w' => exact h.elim
theorem StepFU.one {l : List (Nat × Nat)} {D : List (Option Tmp)} {Gs Hs : List Pd} {F0 : Nat → Value} {w0 : World} {i : Nat} {o : Oper} (hn : noUse l i = true) (hg : o.guard = none)
    (h : ∀ (F : Nat → Value) (w : World), Kept (fun _ => False) w0 w → (∀ t, Nat.blt t N = true → some t ∉ D → F t = F0 t) → DepsF D (Told l Gs i) F w o.after.toList → Yields P (ev F) o w (fun v w' => Said Gs i v w' ∧ Kept (fun _ => False) w w')) : StepFU l N P D Gs Hs F0 w0 i o := by
  intro F w h1 h2 h3
  rw [hg]
  exact (h F w h1 h2 h3).mono' fun _ _ x => left_plain hn h1 x
def Pd.under (Ty : TypeId → Prop) (p : Pd) : Prop := ∀ v w w' S, p.says v w → Kept S w w' → (∀ i, S i → ∀ c e f, w.heap[i]? = some (.cells c e f) → Ty e) → p.says v w'
theorem under_any {Ty : TypeId → Prop} : Pd.any.under Ty := fun _ _ _ _ _ _ _ => trivial
def AllUnder (Ty : TypeId → Prop) (skip : Nat → Bool) : Nat → List Pd → Prop
  | _, [] => True
  | k, p :: r => (skip k = true ∨ p.under Ty) ∧ AllUnder Ty skip (k + 1) r
theorem AllUnder.at {Ty : TypeId → Prop} {skip : Nat → Bool} : ∀ {Gs : List Pd} {k : Nat}, AllUnder Ty skip k Gs → ∀ j, skip (k + j) = false → (Gs.getD j Pd.any).under Ty := by
  intro Gs
  induction Gs with
  | nil => intro k _ j _; exact under_any
  | cons p r ih =>
    intro k h j hj
    cases j with
    | zero =>
      rcases h.1 with e | e
      · rw [Nat.add_zero] at hj; rw [hj] at e; cases e
      · exact e
    | succ j => exact ih h.2 j (by rw [show k + 1 + j = k + (j + 1) by omega]; exact hj)
/-- The operation that uses an answer up: it turns blocks that were made here. -/
theorem StepFU.turn {l : List (Nat × Nat)} {D : List (Option Tmp)} {Gs Hs : List Pd} {F0 : Nat → Value} {w0 : World} {i : Nat} {o : Oper} (j : Nat) (d : Tmp) (Ty : TypeId → Prop) (hg : o.guard = none) (hd : D[j]? = some (some d)) (h1u : oneUse l i j = true) (hu : AllUnder Ty (fun q => decide (q = i ∨ usedBy l q = some i)) 0 Gs) (hu2 : AllUnder Ty (fun q => decide (usedBy l q = some i)) 0 Hs)
    (h : ∀ (F : Nat → Value) (w : World), Kept (fun _ => False) w0 w → (∀ t, Nat.blt t N = true → some t ∉ D → F t = F0 t) → DepsF D (Told l Gs i) F w o.after.toList →
      Yields P (ev F) o w (fun v w' => Said Gs i v w' ∧ Said Hs j (F d) w' ∧ ∃ S, Kept S w w' ∧ (∀ x, S x → w0.heap.size ≤ x) ∧ ∀ x, S x → ∀ c e f, w.heap[x]? = some (.cells c e f) → Ty e)) : StepFU l N P D Gs Hs F0 w0 i o := by
  intro F w h1 h2 h3
  rw [hg]
  refine (h F w h1 h2 h3).mono' fun v w' ⟨hs, hs2, S, k, hn, ht⟩ => ⟨hs, h1.trans k (fun x hx hS => absurd (hn x hS) (by omega)), fun q x hj hU hx => ?_, fun q x hU hx => ?_, fun q d' hU hq => ?_⟩
  · exact hu.at q (by rw [Nat.zero_add]; exact decide_eq_false (fun e => e.elim hj hU)) x w w' S hx k ht
  · exact hu2.at q (by rw [Nat.zero_add]; exact decide_eq_false hU) x w w' S hx k ht
  · have e := oneUse_at h1u hU
    subst e
    rw [hd] at hq
    cases hq
    exact hs2

end
end Go.Proofs.YtdcbabgcbkdlhaaDoor
set_option maxRecDepth 100000
namespace Go.Proofs.YtdcbabgcbkdlhaaDoor
open Go.RowKit

/-- Something in memory, what it is ahead of the operation that turns it, and behind it. -/
structure Thg where
  A : World → Prop
  T : Nat → Prop
  B : (Nat → Prop) → World → Prop
  stA : ∀ (w w' : World) (S : Nat → Prop), A w → Kept S w w' → Apart T S → A w'
  stB : ∀ (w w' : World) (S T' : Nat → Prop), B T' w → Kept S w w' → Apart T' S → B T' w'
  liA : ∀ w, A w → Live w T
  liB : ∀ w T', B T' w → Live w T'
inductive Pt where
  | eq (v : Value)
  | thg (t : Thg) (v : Value)
def Pt.none : Pt := .eq undef
def saysT : Pt → Value
  | .eq v => v
  | .thg _ v => v
/-- Where it lies now. -/
def curT (Gs : List Pt) (L : Nat → Bool) (Tf : Nat → Nat → Prop) (i : Nat) : Nat → Prop := match Gs.getD i Pt.none with
  | .eq _ => noB
  | .thg t _ => if L i = true then Tf i else t.T
/-- That it is. -/
def isT (Gs : List Pt) (L : Nat → Bool) (Tf : Nat → Nat → Prop) (w : World) (i : Nat) : Prop := match Gs.getD i Pt.none with
  | .eq _ => True
  | .thg t _ => if L i = true then t.B (Tf i) w else t.A w
structure JT (S : Nat → Prop) (w0 : World) (Gs : List Pt) (M : List (Nat × Nat)) (L : Nat → Bool) (v : Nat → Value) (Tf : Nat → Nat → Prop) (w : World) : Prop where
  kept : Kept S w0 w
  vals : ∀ i, L i = true → v i = saysT (Gs.getD i Pt.none)
  things : ∀ i, isT Gs L Tf w i
  grew : ∀ i t x, Gs.getD i Pt.none = .thg t x → L i = true → Grew w0 t.T (Tf i)
  apart : ∀ i j, i ≠ j → Apart (curT Gs L Tf i) (curT Gs L Tf j)
  clos : ∀ j i, (j, i) ∈ M → L j = true → L i = true
def OldT (S : Nat → Prop) (w0 : World) (Gs : List Pt) : Prop := (∀ i t x, Gs.getD i Pt.none = .thg t x → (∀ b, t.T b → S b) ∧ t.A w0) ∧ ∀ i j, i ≠ j → Apart (curT Gs (fun _ => false) (fun _ => noB) i) (curT Gs (fun _ => false) (fun _ => noB) j)
def FarT (T : Nat → Prop) : List Pt → Prop
  | [] => True
  | .thg t _ :: r => Apart T t.T ∧ FarT T r
  | .eq _ :: r => FarT T r
def OldsT (S : Nat → Prop) (w0 : World) : List Pt → Prop
  | [] => True
  | .thg t _ :: r => ((∀ b, t.T b → S b) ∧ t.A w0 ∧ FarT t.T r) ∧ OldsT S w0 r
  | .eq _ :: r => OldsT S w0 r
theorem FarT.at {T : Nat → Prop} : ∀ {Gs : List Pt}, FarT T Gs → ∀ i t x, Gs.getD i Pt.none = .thg t x → Apart T t.T := by
  intro Gs
  induction Gs with
  | nil => intro _ i t x h; cases h
  | cons g r ih =>
    intro h i t x e
    cases i with
    | zero =>
      have e : g = .thg t x := by simpa using e
      subst e; exact h.1
    | succ i =>
      have e : r.getD i Pt.none = .thg t x := by simpa using e
      cases g <;> first | exact ih h.2 i t x e | exact ih h i t x e
theorem OldsT.at {S : Nat → Prop} {w0 : World} : ∀ {Gs : List Pt}, OldsT S w0 Gs → ∀ i t x, Gs.getD i Pt.none = .thg t x → (∀ b, t.T b → S b) ∧ t.A w0 := by
  intro Gs
  induction Gs with
  | nil => intro _ i t x h; cases h
  | cons g r ih =>
    intro h i t x e
    cases i with
    | zero =>
      have e : g = .thg t x := by simpa using e
      subst e; exact ⟨h.1.1, h.1.2.1⟩
    | succ i =>
      have e : r.getD i Pt.none = .thg t x := by simpa using e
      cases g <;> first | exact ih h.2 i t x e | exact ih h i t x e
theorem OldsT.far {S : Nat → Prop} {w0 : World} : ∀ {Gs : List Pt}, OldsT S w0 Gs → ∀ i j t x t' x', i < j → Gs.getD i Pt.none = .thg t x → Gs.getD j Pt.none = .thg t' x' → Apart t.T t'.T := by
  intro Gs
  induction Gs with
  | nil => intro _ i j t x t' x' _ h; cases h
  | cons g r ih =>
    intro h i j t x t' x' hij e1 e2
    cases j with
    | zero => omega
    | succ j =>
      have e2 : r.getD j Pt.none = .thg t' x' := by simpa using e2
      cases i with
      | zero =>
        have e1 : g = .thg t x := by simpa using e1
        subst e1; exact h.1.2.2.at j t' x' e2
      | succ i =>
        have e1 : r.getD i Pt.none = .thg t x := by simpa using e1
        cases g <;> first | exact ih h.2 i j t x t' x' (by omega) e1 e2 | exact ih h i j t x t' x' (by omega) e1 e2
theorem OldsT.old {S : Nat → Prop} {w0 : World} {Gs : List Pt} (h : OldsT S w0 Gs) : OldT S w0 Gs := by
  refine ⟨fun i t x e => h.at i t x e, fun i j hij => ?_⟩
  unfold curT
  cases e1 : Gs.getD i Pt.none with
  | eq x => exact fun _ z => z.elim
  | thg t x =>
    cases e2 : Gs.getD j Pt.none with
    | eq y => exact fun _ _ z => z
    | thg t' y =>
      simp only [Bool.false_eq_true, if_false]
      rcases Nat.lt_or_gt_of_ne hij with hlt | hgt
      · exact h.far i j t x t' y hlt e1 e2
      · exact (h.far j i t' y t x hgt e2 e1).symm
/-- What is turned, and lies there. -/
def onT (w0 : World) (Gs : List Pt) (i : Nat) (w : World) : Prop := match Gs.getD i Pt.none with
  | .eq _ => True
  | .thg t _ => ∃ T', t.B T' w ∧ Grew w0 t.T T'
/-- M: who waits for whom, if only by way of others. -/
def ToldT (w0 : World) (Gs : List Pt) (M : List (Nat × Nat)) : Nat → Value → World → Prop := fun j v w => v = saysT (Gs.getD j Pt.none) ∧ onT w0 Gs j w ∧ ∀ i, (j, i) ∈ M → onT w0 Gs i w
def mustOk (os : List Oper) (M : List (Nat × Nat)) : Bool := M.all fun q => match os[q.1]? with | some o => o.after.toList.any (fun e => Region.binds .any e && (e.on == q.2 || M.contains (e.on, q.2))) | none => false
def LeftT (Gs : List Pt) (i : Nat) (w : World) (v : Value) (w' : World) : Prop := match Gs.getD i Pt.none with
  | .eq x => v = x ∧ Kept (fun _ => False) w w'
  | .thg t x => v = x ∧ Kept t.T w w' ∧ ∃ T', t.B T' w' ∧ Grew w t.T T'
theorem cur_live {S : Nat → Prop} {w0 w : World} {Gs : List Pt} {L : Nat → Bool} {v : Nat → Value} {Tf : Nat → Nat → Prop} {M : List (Nat × Nat)} (h : JT S w0 Gs M L v Tf w) (i : Nat) : Live w (curT Gs L Tf i) := by
  have := h.things i
  unfold isT at this
  unfold curT
  cases e : Gs.getD i Pt.none with
  | eq x => exact fun _ h => h.elim
  | thg t x =>
    rw [e] at this
    simp only at this ⊢
    cases hl : L i with
    | true => rw [hl] at this; rw [if_pos rfl] at this ⊢; exact t.liB w _ this
    | false => rw [hl] at this; rw [if_neg (by simp)] at this ⊢; exact t.liA w this
theorem cur_up {Gs : List Pt} {L : Nat → Bool} {Tf Tf' : Nat → Nat → Prop} {i j : Nat} (h : j ≠ i) (hT : Tf' j = Tf j) : curT Gs (fun k => if k = i then true else L k) Tf' j = curT Gs L Tf j := by
  unfold curT
  cases Gs.getD j Pt.none with
  | eq x => rfl
  | thg t x => simp only [if_neg h, hT]
theorem is_up {Gs : List Pt} {L : Nat → Bool} {Tf Tf' : Nat → Nat → Prop} {w : World} {i j : Nat} (h : j ≠ i) (hT : Tf' j = Tf j) : isT Gs (fun k => if k = i then true else L k) Tf' w j = isT Gs L Tf w j := by
  unfold isT
  cases Gs.getD j Pt.none with
  | eq x => rfl
  | thg t x => simp only [if_neg h, hT]
theorem is_kept {S' : Nat → Prop} {Gs : List Pt} {L : Nat → Bool} {Tf : Nat → Nat → Prop} {w w' : World} {j : Nat} (h : isT Gs L Tf w j) (k : Kept S' w w') (ha : Apart (curT Gs L Tf j) S') : isT Gs L Tf w' j := by
  unfold isT at h ⊢
  unfold curT at ha
  cases e : Gs.getD j Pt.none with
  | eq x => trivial
  | thg t x =>
    rw [e] at h ha
    simp only at h ha ⊢
    split
    · rename_i hl; rw [if_pos hl] at h ha; exact t.stB w w' S' _ h k ha
    · rename_i hl; rw [if_neg hl] at h ha; exact t.stA w w' S' h k ha
/-- One more operation. -/
theorem JT.more {S : Nat → Prop} {w0 w w' : World} {Gs : List Pt} {M : List (Nat × Nat)} {L : Nat → Bool} {v : Nat → Value} {Tf : Nat → Nat → Prop} {i : Nat} {x : Value} (hO : OldT S w0 Gs) (h : JT S w0 Gs M L v Tf w) (hi : L i = false) (hM : ∀ k, (i, k) ∈ M → L k = true) (hx : LeftT Gs i w x w') : ∃ Tf', JT S w0 Gs M (upL L i) (upV v i x) Tf' w' := by
  have hcl : ∀ j k, (j, k) ∈ M → upL L i j = true → upL L i k = true := fun j k hm hj => by
    have hk : L k = true := by
      by_cases hji : j = i
      · subst hji; exact hM k hm
      · rw [show upL L i j = L j from if_neg hji] at hj; exact h.clos j k hm hj
    unfold upL; split <;> first | rfl | exact hk
  unfold LeftT at hx
  cases e : Gs.getD i Pt.none with
  | eq y =>
    rw [e] at hx
    refine ⟨Tf, h.kept.trans hx.2 (fun _ _ z => z.elim), fun j hj => ?_, fun j => ?_, fun j t z hj hl => ?_, fun a b hab => ?_, hcl⟩
    · by_cases hji : j = i
      · subst hji; rw [show upV v j x j = x from if_pos rfl, e]; exact hx.1
      · rw [show upL L i j = L j from if_neg hji] at hj; rw [show upV v i x j = v j from if_neg hji]; exact h.vals j hj
    · by_cases hji : j = i
      · subst hji; unfold isT; rw [e]; trivial
      · rw [show isT Gs (upL L i) Tf w' j = isT Gs L Tf w' j from is_up hji rfl]; exact is_kept (h.things j) hx.2 (fun _ _ z => z)
    · have hji : j ≠ i := fun z' => by rw [z', e] at hj; cases hj
      rw [show upL L i j = L j from if_neg hji] at hl; exact h.grew j t z hj hl
    · have hc : ∀ c, curT Gs (upL L i) Tf c = curT Gs L Tf c := fun c => by
        by_cases hci : c = i
        · subst hci; unfold curT; rw [e]
        · exact cur_up hci rfl
      rw [hc, hc]; exact h.apart a b hab
  | thg t y =>
    rw [e] at hx
    obtain ⟨hv, k, T', hB, hG⟩ := hx
    have hcur : curT Gs L Tf i = t.T := by unfold curT; rw [e]; simp [hi]
    have hTf : ∀ c, c ≠ i → (fun c => if c = i then T' else Tf c) c = Tf c := fun c hc => by simp [hc]
    have hci : curT Gs (upL L i) (fun c => if c = i then T' else Tf c) i = T' := by unfold curT; rw [e]; simp [upL]
    have hcj : ∀ c, c ≠ i → curT Gs (upL L i) (fun c => if c = i then T' else Tf c) c = curT Gs L Tf c := fun c hc => cur_up hc (hTf c hc)
    have hnew : ∀ c, c ≠ i → Apart T' (curT Gs L Tf c) := fun c hc => by
      have := h.apart i c (fun z => hc z.symm)
      rw [hcur] at this
      exact this.grew hG (cur_live h c)
    refine ⟨fun c => if c = i then T' else Tf c, h.kept.trans k (fun b _ hb => (hO.1 i t y e).1 b hb), fun j hj => ?_, fun j => ?_, fun j t' z hj hl => ?_, fun a b hab => ?_, hcl⟩
    · by_cases hji : j = i
      · subst hji; rw [show upV v j x j = x from if_pos rfl, e]; exact hv
      · rw [show upL L i j = L j from if_neg hji] at hj; rw [show upV v i x j = v j from if_neg hji]; exact h.vals j hj
    · by_cases hji : j = i
      · subst hji; unfold isT; rw [e]; simp only [upL]; simpa using hB
      · rw [show isT Gs (upL L i) (fun c => if c = i then T' else Tf c) w' j = isT Gs L Tf w' j from is_up hji (hTf j hji)]
        exact is_kept (h.things j) k (by have := h.apart j i hji; rw [hcur] at this; exact this)
    · by_cases hji : j = i
      · subst hji
        rw [e] at hj; cases hj
        simp only [if_true]
        exact fun b hb => (hG b hb).elim .inl (fun hge => .inr (Nat.le_trans h.kept.size hge))
      · rw [show upL L i j = L j from if_neg hji] at hl
        simp only [if_neg hji]; exact h.grew j t' z hj hl
    · by_cases hai : a = i
      · subst hai
        rw [hci, hcj b (fun z => hab z.symm)]; exact hnew b (fun z => hab z.symm)
      · rw [hcj a hai]
        by_cases hbi : b = i
        · subst hbi; rw [hci]; exact (hnew a hai).symm
        · rw [hcj b hbi]; exact h.apart a b hab
theorem y_setStc {P : Program} {ρ : Operand → Value} {o : Oper} {w : World} {R : Value → World → Prop} {ty t : TypeId} {x y : Operand} {p k : Nat} {v u : Value} {vs : List Value} (ho : o.op = .store ty x y) (hx : ρ x = .pointer (some ⟨p, k, none⟩)) (hy : ρ y = v) (hB : Stc w p t vs) (hk : vs[k]? = some u) (hv : oneC v = true)
    (hs : (P.info? ty).map (·.size) = some 1)
    (h : ∀ w', Stc w' p t (vs.set k v) → Kept (fun k => k = p) w w' → R undef w') : Yields P ρ o w R := by
  have hc := hB.cell hk
  have hf : w.frozen? ⟨p, k, none⟩ = false := frozen_of_heap hB
  cases hq : P.info? ty with
  | none => simp [hq] at hs
  | some i =>
    have hs' : i.size = 1 := by simpa [hq] using hs
    have e : (execOp ρ o).run P w = .ok .skip (w.setCell ⟨p, k, none⟩ v) ∨ (execOp ρ o).run P w = .ok (.value undef) (w.setCell ⟨p, k, none⟩ v) := by
      cases v <;> first
        | (simp [oneC] at hv; done)
        | simp [execOp, ho, hx, hy, Instr.storeAt, Instr.sureAddr, storeVar, sizeOf, typeInfo, hq, hs', Value.cells, hc, hf, go_sem]
    unfold Yields
    rcases e with e | e <;> rw [e] <;> exact h _ (hB.set k v) ((Kept.refl (fun k => k = p) w).setCell ⟨p, k, none⟩ (fun _ => rfl) _)
/-- A struct that is stored into. -/
def stcThg (p : Nat) (t : TypeId) (zs us : List Value) : Thg := ⟨fun w => Stc w p t zs, onB p, fun T w => T = onB p ∧ Stc w p t us, fun _ _ _ h k ha => h.all k (ha p rfl), fun _ _ _ _ h k ha => ⟨h.1, h.2.all k (ha p (by rw [h.1]; rfl))⟩, fun _ h => onB_live h.lt, fun _ _ h => by rw [h.1]; exact onB_live h.2.lt⟩
section
variable {P : Program} {N : Nat} {F : Nat → Value} {w : World} {Q : Exit → (Nat → Value) → World → Prop}
def StepFT (S : Nat → Prop) (M : List (Nat × Nat)) (N : Nat) (P : Program) (D : List (Option Tmp)) (Gs : List Pt) (F0 : Nat → Value) (w0 : World) (i : Nat) (o : Oper) : Prop :=
  ∀ (F : Nat → Value) (w : World), Kept S w0 w → (∀ t, Nat.blt t N = true → some t ∉ D → F t = F0 t) → DepsF D (ToldT w0 Gs M) F w o.after.toList → (∀ k t x, (k = i ∨ (k, i) ∈ M) → Gs.getD k Pt.none = .thg t x → t.A w) →
    match o.guard with
    | none => Yields P (ev F) o w (LeftT Gs i w)
    | some (j, want) => ∃ d, D.getD j none = some d ∧
      ((F d = .bool want ∧ Yields P (ev F) o w (LeftT Gs i w)) ∨ ((F d = .bool (!want) ∨ F d = undef) ∧ Gs.getD i Pt.none = .eq undef))
def StepsFT (S : Nat → Prop) (M : List (Nat × Nat)) (N : Nat) (P : Program) (D : List (Option Tmp)) (Gs : List Pt) (F0 : Nat → Value) (w0 : World) : Nat → List Oper → Prop
  | _, [] => True
  | i, o :: r => StepFT S M N P D Gs F0 w0 i o ∧ StepsFT S M N P D Gs F0 w0 (i + 1) r
theorem stepsFT_nil {S : Nat → Prop} {M : List (Nat × Nat)} {D : List (Option Tmp)} {Gs : List Pt} {F0 : Nat → Value} {w0 : World} {i : Nat} : StepsFT S M N P D Gs F0 w0 i [] := trivial
theorem stepsFT_cons {S : Nat → Prop} {M : List (Nat × Nat)} {D : List (Option Tmp)} {Gs : List Pt} {F0 : Nat → Value} {w0 : World} {i : Nat} {o : Oper} {r : List Oper} (h : StepFT S M N P D Gs F0 w0 i o) (k : StepsFT S M N P D Gs F0 w0 (i + 1) r) : StepsFT S M N P D Gs F0 w0 i (o :: r) := ⟨h, k⟩
theorem StepFT.one {S : Nat → Prop} {M : List (Nat × Nat)} {D : List (Option Tmp)} {Gs : List Pt} {F0 : Nat → Value} {w0 : World} {i : Nat} {o : Oper} (hg : o.guard = none)
    (h : ∀ (F : Nat → Value) (w : World), Kept S w0 w → (∀ t, Nat.blt t N = true → some t ∉ D → F t = F0 t) → DepsF D (ToldT w0 Gs M) F w o.after.toList → Yields P (ev F) o w (LeftT Gs i w)) : StepFT S M N P D Gs F0 w0 i o := by
  intro F w h1 h2 h3 _
  rw [hg]; exact h F w h1 h2 h3
/-- What is turned later, by an operation that waits for this one, is as it was. -/
theorem StepFT.oneA {S : Nat → Prop} {M : List (Nat × Nat)} {D : List (Option Tmp)} {Gs : List Pt} {F0 : Nat → Value} {w0 : World} {i : Nat} {o : Oper} (hg : o.guard = none)
    (h : ∀ (F : Nat → Value) (w : World), Kept S w0 w → (∀ t, Nat.blt t N = true → some t ∉ D → F t = F0 t) → DepsF D (ToldT w0 Gs M) F w o.after.toList → (∀ k t x, (k, i) ∈ M → Gs.getD k Pt.none = .thg t x → t.A w) → Yields P (ev F) o w (LeftT Gs i w)) : StepFT S M N P D Gs F0 w0 i o := by
  intro F w h1 h2 h3 h4
  rw [hg]; exact h F w h1 h2 h3 (fun k t x hk => h4 k t x (.inr hk))
theorem StepFT.turn {S : Nat → Prop} {M : List (Nat × Nat)} {D : List (Option Tmp)} {Gs : List Pt} {F0 : Nat → Value} {w0 : World} {i : Nat} {t : Thg} {x : Value} {o : Oper} (hg : o.guard = none) (he : Gs.getD i Pt.none = .thg t x)
    (h : ∀ (F : Nat → Value) (w : World), Kept S w0 w → (∀ t, Nat.blt t N = true → some t ∉ D → F t = F0 t) → DepsF D (ToldT w0 Gs M) F w o.after.toList → t.A w → Yields P (ev F) o w (fun v w' => v = x ∧ Kept t.T w w' ∧ ∃ T', t.B T' w' ∧ Grew w t.T T')) : StepFT S M N P D Gs F0 w0 i o := by
  intro F w h1 h2 h3 h4
  rw [hg]
  refine (h F w h1 h2 h3 (h4 i t x (.inl rfl) he)).mono' fun v w' hx => ?_
  unfold LeftT; rw [he]; exact hx
theorem StepFT.step {S : Nat → Prop} {M : List (Nat × Nat)} {os : List Oper} {D : List (Option Tmp)} {Gs : List Pt} {w0 : World} {i : Nat} {o : Oper} {a0 : Act} (hO : OldT S w0 Gs) (hmo : mustOk os M = true) (hio : os[i]? = some o) (ha : Fr N F a0) (h : StepFT S M N P D Gs F w0 i o) : StepJ os P D (fun L v w => ∃ Tf, JT S w0 Gs M L v Tf w) a0 i o := by
  rintro L v a w ⟨Tf, hJ⟩ hi hdone hout hhere _
  have hdeps : DepsF D (ToldT w0 Gs M) (fun t => a.tmps.getD t undef) w o.after.toList := by
    refine Deps.toF (Deps.mk fun e he hb d hd => ?_)
    have hl := hdone e he hb
    have hDe : D[e.on]? = some (some d) := by
      unfold List.getD at hd
      cases hq : D[e.on]? with
      | none => rw [hq] at hd; cases hd
      | some y => rw [hq] at hd; simp at hd; rw [hd]
    rw [hhere e.on d hl hDe, hJ.vals e.on hl]
    have key : ∀ c, L c = true → onT w0 Gs c w := fun c hc => by
      have ht := hJ.things c
      unfold onT
      unfold isT at ht
      cases e' : Gs.getD c Pt.none with
      | eq y => trivial
      | thg t y =>
        rw [e'] at ht
        simp only [hc, if_true] at ht
        exact ⟨_, ht, hJ.grew c t y e' hc⟩
    exact ⟨rfl, key _ hl, fun c hc => key c (hJ.clos _ _ hc hl)⟩
  have hM : ∀ k, (i, k) ∈ M → L k = true := fun k hk => by
    have := List.all_eq_true.1 hmo _ hk
    simp only [hio] at this
    obtain ⟨e, he, hb⟩ := List.any_eq_true.1 this
    simp only [Bool.and_eq_true, Bool.or_eq_true, beq_iff_eq] at hb
    have hl := hdone e he hb.1
    rcases hb.2 with h1 | h1
    · rw [← h1]; exact hl
    · exact hJ.clos _ _ (by simpa using h1) hl
  have h1 := h (fun t => a.tmps.getD t undef) w hJ.kept (fun t hb ht => by rw [← ha.at' t hb]; exact hout t ht) hdeps (fun k t x hk e => by
    have hLk : L k = false := by
      rcases hk with rfl | hk
      · exact hi
      · cases hL : L k with
        | false => rfl
        | true => have := hJ.clos k i hk hL; rw [hi] at this; cases this
    have := hJ.things k
    unfold isT at this
    rw [e] at this
    simpa [hLk] using this)
  rw [← eval_ev a] at h1
  unfold goes
  cases hg : o.guard with
  | none => rw [hg] at h1; exact ⟨fun _ => h1.mono' fun x w' hx => hJ.more hO hi hM hx, fun e => by cases e⟩
  | some g =>
    obtain ⟨j, want⟩ := g
    rw [hg] at h1
    obtain ⟨d, hd, h1⟩ := h1
    simp only [hd]
    have hev : a.eval (.tmp d) = a.tmps.getD d undef := rfl
    rcases h1 with ⟨hv, hy⟩ | ⟨hv, hs⟩
    · rw [hev, hv]; exact ⟨fun _ => hy.mono' fun x w' hx => hJ.more hO hi hM hx, fun e => by simp at e⟩
    · refine ⟨fun e => ?_, fun _ => hJ.more hO hi hM (by unfold LeftT; rw [hs]; exact ⟨rfl, Kept.refl _ _⟩)⟩
      rcases hv with hv | hv
      · rw [hev, hv] at e; cases want <;> simp at e
      · rw [hev, hv] at e; simp [undef] at e
theorem StepsFT.steps {S : Nat → Prop} {M : List (Nat × Nat)} {all : List Oper} {D : List (Option Tmp)} {Gs : List Pt} {w0 : World} {a0 : Act} (hO : OldT S w0 Gs) (hmo : mustOk all M = true) (ha : Fr N F a0) : ∀ {os : List Oper} {i : Nat}, (∀ k o, os[k]? = some o → all[i + k]? = some o) → StepsFT S M N P D Gs F w0 i os → StepsJ all P D (fun L v w => ∃ Tf, JT S w0 Gs M L v Tf w) a0 i os := by
  intro os
  induction os with
  | nil => intro i _ _; exact trivial
  | cons o r ih =>
    intro i hat h
    exact ⟨h.1.step hO hmo (hat 0 o rfl) ha, ih (fun k o' hk => by have := hat (k + 1) o' hk; rwa [show i + (k + 1) = i + 1 + k by omega] at this) h.2⟩
theorem wq_turns {S : Nat → Prop} {id : Nat} {ops : Array Oper} (M : List (Nat × Nat)) (D : List (Option Tmp)) (Gs : List Pt) (hm : P.follows .mixedOrders = true) (hpl : plain N 0 D ops.toList = true) (hmo : mustOk ops.toList M = true) (hsz : Gs.length = ops.size) (hO : OldT S w Gs) (hsteps : StepsFT S M N P D Gs F w 0 ops.toList)
    (hend : ∀ (v : Nat → Value) (Tf : Nat → Nat → Prop) (F' : Nat → Value) (w' : World), Kept S w w' → (∀ i, i < ops.size → v i = saysT (Gs.getD i Pt.none)) → (∀ i t x, Gs.getD i Pt.none = .thg t x → t.B (Tf i) w' ∧ Grew w t.T (Tf i)) → (∀ i j t x t' x', i ≠ j → Gs.getD i Pt.none = .thg t x → Gs.getD j Pt.none = .thg t' x' → Apart (Tf i) (Tf j)) → (∀ t, F' t = putsF v 0 D F t) → Q .normal F' w') : wq none P N (.region id ops true) Q F w := by
  intro a ha
  refine wpIn_wide.2 ?_
  refine wp_region_inv D (fun L v w' => ∃ Tf, JT S w Gs M L v Tf w') hm (by rw [ha.size]; exact hpl) ⟨fun _ => noB, (Kept.refl _ w).drew, fun _ e => (by cases e), fun i => ?_, fun _ _ _ _ e => (by cases e), hO.2, fun _ _ _ e => (by cases e)⟩ (hsteps.steps hO hmo ha (fun k o hk => by rw [Nat.zero_add]; exact hk)) fun L v w' ⟨Tf, hJ⟩ hL => ?_
  · unfold isT
    cases e : Gs.getD i Pt.none with
    | eq y => trivial
    | thg t y => exact t.stA w _ (fun _ => False) (hO.1 i t y e).2 (Kept.refl _ w).drew (fun _ _ z => z)
  · have hlt : ∀ i t x, Gs.getD i Pt.none = .thg t x → L i = true := fun i t x e => by
      refine hL i ?_
      rw [← hsz]
      rcases Nat.lt_or_ge i Gs.length with h' | h'
      · exact h'
      · have : Gs.getD i Pt.none = Pt.none := by simp [List.getD, List.getElem?_eq_none h']
        rw [this] at e; cases e
    refine ⟨putsF v 0 D F, putAll_fr v D 0 F a ha (plain_fits hpl), hend v Tf _ w' hJ.kept (fun i hi => hJ.vals i (hL i hi)) (fun i t x e => ?_) (fun i j t x t' x' hij e1 e2 => ?_) fun _ => rfl⟩
    · have := hJ.things i
      unfold isT at this
      rw [e] at this
      simp only [hlt i t x e, if_true] at this
      exact ⟨this, hJ.grew i t x e (hlt i t x e)⟩
    · have := hJ.apart i j hij
      unfold curT at this
      rw [e1, e2] at this
      simpa only [hlt i t x e1, hlt j t' x' e2, if_true] using this
end
end Go.Proofs.YtdcbabgcbkdlhaaDoor
set_option maxRecDepth 100000
namespace Go.Proofs.YtdcbabgcbkdlhaaDoor
open Go.RowKit

/-- Who holds the row: the latest of these operations (the latest first) that is listed. -/
def hold (L : Nat → Bool) (v : Nat → Value) (C : Nat → List Nat) (vI : Value) (lI : List Nat) : List Nat → Value × List Nat
  | [] => (vI, lI)
  | x :: r => if L x = true then (v x, C x) else hold L v C vI lI r

/-- They are listed in their order. -/
def Closed (L : Nat → Bool) : List Nat → Prop
  | [] => True
  | [_] => True
  | y :: x :: r => (L y = true → L x = true) ∧ Closed L (x :: r)

theorem Closed.later {L : Nat → Bool} : ∀ {ys : List Nat} {x : Nat} {r : List Nat}, Closed L (ys ++ x :: r) → L x = false → ∀ y ∈ ys, L y = false := by
  intro ys
  induction ys with
  | nil => intro x r _ _ y hy; cases hy
  | cons z zs ih =>
    intro x r h hx y hy
    have hrec : Closed L (zs ++ x :: r) := by
      cases zs with
      | nil => exact h.2
      | cons z' zs' => exact h.2
    have hzs := ih hrec hx
    rcases List.mem_cons.1 hy with rfl | hy
    · cases hz : L y with
      | false => rfl
      | true =>
        cases zs with
        | nil => have := h.1 hz; rw [hx] at this; cases this
        | cons z' zs' => have := h.1 hz; rw [hzs z' (by simp)] at this; cases this
    · exact hzs y hy

theorem hold_later {L : Nat → Bool} {v : Nat → Value} {C : Nat → List Nat} {vI : Value} {lI : List Nat} : ∀ {ys r : List Nat}, (∀ y ∈ ys, L y = false) → hold L v C vI lI (ys ++ r) = hold L v C vI lI r := by
  intro ys
  induction ys with
  | nil => intro r _; rfl
  | cons z zs ih =>
    intro r h
    simp only [List.cons_append, hold]
    rw [if_neg (by rw [h z (by simp)]; decide)]
    exact ih (fun y hy => h y (by simp [hy]))

theorem Closed.up {L : Nat → Bool} : ∀ {X : List Nat} {i : Nat}, Closed L X → (∀ ys x r, X = ys ++ i :: x :: r → L x = true) → Closed (upL L i) X := by
  intro X
  induction X with
  | nil => intro i _ _; exact trivial
  | cons y r ih =>
    intro i h hp
    cases r with
    | nil => exact trivial
    | cons x r =>
      refine ⟨fun hy => ?_, ih h.2 fun ys x' r' e => hp (y :: ys) x' r' (by rw [e]; rfl)⟩
      unfold upL at hy ⊢
      by_cases hx : x = i
      · rw [if_pos hx]
      · rw [if_neg hx]
        by_cases hyi : y = i
        · subst hyi; exact hp [] x r rfl
        · rw [if_neg hyi] at hy; exact h.1 hy

theorem Closed.up_other {L : Nat → Bool} {X : List Nat} {i : Nat} (h : Closed L X) (hi : i ∉ X) : Closed (upL L i) X :=
  h.up fun ys x r e => absurd (by rw [e]; simp) hi

theorem hold_up_other {L : Nat → Bool} {v : Nat → Value} {C : Nat → List Nat} {vI : Value} {lI : List Nat} {i : Nat} {x : Value} : ∀ {X : List Nat}, i ∉ X → hold (upL L i) (upV v i x) C vI lI X = hold L v C vI lI X := by
  intro X
  induction X with
  | nil => intro _; rfl
  | cons y r ih =>
    intro hi
    have hy : y ≠ i := fun e => hi (by simp [e])
    simp only [hold]
    rw [show upL L i y = L y from if_neg hy, show upV v i x y = v y from if_neg hy, ih (fun h => hi (by simp [h]))]

/-- The invariant. -/
def OwnJ (w0 : World) (S0 : Nat → Prop) (B : Nat) (vI : Value) (lI : List Nat) (X : List Nat) (C : Nat → List Nat) (G : Nat → Value → World → Prop) (L : Nat → Bool) (v : Nat → Value) (w : World) : Prop :=
  ∃ S : Nat → Prop, (∀ k, S k → k < w.heap.size) ∧ (∀ k, S k → S0 k ∨ w0.heap.size ≤ k) ∧ Kept S w0 w ∧ Closed L X ∧ (∀ j, L j = true → ∀ w', Kept S w w' → G j (v j) w') ∧
    Row w B (hold L v C vI lI X).1 (hold L v C vI lI X).2 ∧ (∀ g, (hold L v C vI lI X).1.ownBlock = some g → S g)

/-- What is asked of an operation that leaves the row alone. -/
theorem StepJ.other {os : List Oper} {P : Program} {D : List (Option Tmp)} {w0 : World} {S0 : Nat → Prop} {B : Nat} {vI : Value} {lI X : List Nat} {C : Nat → List Nat} {G : Nat → Value → World → Prop} {a0 : Act} {i : Nat} {o : Oper} (hi : i ∉ X)
    (h : ∀ (S : Nat → Prop) (a : Act) (w : World), (∀ k, S k → k < w.heap.size) → (∀ w', Kept S w w' → Kept S0 w0 w') → (∀ t, some t ∉ D → a.eval (.tmp t) = a0.eval (.tmp t)) → (∀ t, late os t i = true → a.eval (.tmp t) = a0.eval (.tmp t)) →
      Deps D (fun j x w => ∀ w', Kept S w w' → G j x w') a w o.after.toList → (∀ x, X.head? = some x → ∀ e ∈ o.after.toList, e.on = x → Region.binds .any e = true → ∀ d, D.getD x none = some d → Row w B (a.eval (.tmp d)) (C x)) →
      (goes D o a = true → Yields P a.eval o w (fun x w' => (∀ w'', Kept S w' w'' → G i x w'') ∧ Kept (fun _ => False) w w')) ∧ (goes D o a = false → ∀ w', Kept S w w' → G i undef w')) :
    StepJ os P D (OwnJ w0 S0 B vI lI X C G) a0 i o := by
  intro L v a w ⟨S, hlt, h0, hk, hcl, hg, hrow, hown⟩ hli hedges hout hhere hlate
  have hR : ∀ w', Kept S w w' → Kept S0 w0 w' := fun w' k => (hk.trans k (fun _ _ x => x)).mono (fun b hb hS => by
    rcases h0 b hS with h | h
    · exact h
    · omega)
  have hdeps : Deps D (fun j x w => ∀ w', Kept S w w' → G j x w') a w o.after.toList := Deps.mk fun e he hb d hd => by
    have hL := hedges e he hb
    have hDe : D[e.on]? = some (some d) := by
      cases hx : D[e.on]? with
      | none => simp [List.getD, hx] at hd
      | some y => simp [List.getD, hx] at hd; rw [hd]
    rw [hhere e.on d hL hDe]
    exact hg e.on hL
  have hr : ∀ x, X.head? = some x → ∀ e ∈ o.after.toList, e.on = x → Region.binds .any e = true → ∀ d, D.getD x none = some d → Row w B (a.eval (.tmp d)) (C x) := by
    intro x hx e he hex hb d hd
    subst hex
    have hL := hedges e he hb
    have hDe : D[e.on]? = some (some d) := by
      cases hx : D[e.on]? with
      | none => simp [List.getD, hx] at hd
      | some y => simp [List.getD, hx] at hd; rw [hd]
    rw [hhere e.on d hL hDe]
    cases X with
    | nil => cases hx
    | cons y r =>
      simp at hx
      subst hx
      simpa [hold, hL] using hrow
  obtain ⟨s1, s2⟩ := h S a w hlt hR hout hlate hdeps hr
  have fin : ∀ (x : Value) (w' : World), (∀ w'', Kept S w' w'' → G i x w'') → Kept (fun _ => False) w w' → OwnJ w0 S0 B vI lI X C G (upL L i) (upV v i x) w' := by
    intro x w' hG hkk
    refine ⟨S, fun k hS => Nat.lt_of_lt_of_le (hlt k hS) hkk.size, h0, hk.trans hkk (fun _ _ f => f.elim), hcl.up_other hi, fun j hj w'' k => ?_, ?_, ?_⟩
    · by_cases hji : j = i
      · subst hji; rw [show upV v j x j = x from if_pos rfl]; exact hG w'' k
      · rw [show upL L i j = L j from if_neg hji] at hj
        rw [show upV v i x j = v j from if_neg hji]
        exact hg j hj w'' ((hkk.mono (S' := S) (fun _ _ f => f.elim)).trans k (fun _ _ f => f))
    · rw [hold_up_other hi]; exact hrow.all hkk
    · rw [hold_up_other hi]; exact hown
  refine ⟨fun hgo => ?_, fun hgo => fin undef w (s2 hgo) (Kept.refl _ _)⟩
  have := s1 hgo
  revert this
  unfold Yields
  generalize (execOp a.eval o).run P w = r
  intro hh
  cases r with
  | ok n w' =>
    cases n <;> simp only at hh ⊢ <;> first
      | exact fin _ _ hh.1 hh.2
      | exact hh.elim
      | exact Calls.mono hh (fun e w'' ⟨y, he, hk⟩ => ⟨y, he, fin _ _ hk.1 hk.2⟩)
  | halt x w' => exact hh.elim

/-- Who held the row: the first of these, or whoever came with it. -/
def Prev (D : List (Option Tmp)) (C : Nat → List Nat) (vI : Value) (lI : List Nat) (a : Act) (p : Value) (lp : List Nat) : List Nat → Prop
  | [] => p = vI ∧ lp = lI
  | x :: _ => lp = C x ∧ ∀ d, D.getD x none = some d → p = a.eval (.tmp d)

/-- What is asked of an operation that takes the row on: p is who held it. -/
theorem StepJ.own {os : List Oper} {P : Program} {D : List (Option Tmp)} {w0 : World} {S0 : Nat → Prop} {B : Nat} {vI : Value} {lI X : List Nat} {C : Nat → List Nat} {G : Nat → Value → World → Prop} {a0 : Act} {i : Nat} {o : Oper} (ys r : List Nat) (hX : X = ys ++ i :: r) (hnd : i ∉ ys ∧ i ∉ r)
    (hr : ∀ x, r.head? = some x → ∃ e ∈ o.after.toList, e.on = x ∧ Region.binds .any e = true ∧ ∃ d, D.getD x none = some d) (hG : ∀ x w, G i x w)
    (h : ∀ (S : Nat → Prop) (a : Act) (w : World), (∀ k, S k → k < w.heap.size) → (∀ w', Kept S w w' → Kept S0 w0 w') → (∀ t, some t ∉ D → a.eval (.tmp t) = a0.eval (.tmp t)) → (∀ t, late os t i = true → a.eval (.tmp t) = a0.eval (.tmp t)) →
      Deps D (fun j x w => ∀ w', Kept S w w' → G j x w') a w o.after.toList → ∀ (p : Value) (lp : List Nat), Row w B p lp →
      Prev D C vI lI a p lp r →
      goes D o a = true ∧ Yields P a.eval o w (fun x w' => Row w' B x (C i) ∧ Kept (fun k => p.ownBlock = some k) w w' ∧ (x.ownBlock = p.ownBlock ∨ ∀ g, x.ownBlock = some g → w.heap.size ≤ g))) :
    StepJ os P D (OwnJ w0 S0 B vI lI X C G) a0 i o := by
  intro L v a w ⟨S, hlt, h0, hk, hcl, hg, hrow, hown⟩ hli hedges hout hhere hlate
  subst hX
  have hlater := hcl.later hli
  have hhold : hold L v C vI lI (ys ++ i :: r) = hold L v C vI lI r := by
    rw [hold_later hlater]
    show (if L i = true then (v i, C i) else hold L v C vI lI r) = hold L v C vI lI r
    rw [if_neg (by rw [hli]; decide)]
  rw [hhold] at hrow hown
  have hR : ∀ w', Kept S w w' → Kept S0 w0 w' := fun w' k => (hk.trans k (fun _ _ x => x)).mono (fun b hb hS => by
    rcases h0 b hS with h | h
    · exact h
    · omega)
  have hat : ∀ (j : Nat) (d : Tmp), D.getD j none = some d → D[j]? = some (some d) := by
    intro j d hd
    cases hx : D[j]? with
    | none => simp [List.getD, hx] at hd
    | some y => simp [List.getD, hx] at hd; rw [hd]
  have hdeps : Deps D (fun j x w => ∀ w', Kept S w w' → G j x w') a w o.after.toList := Deps.mk fun e he hb d hd => by
    have hL := hedges e he hb
    rw [hhere e.on d hL (hat e.on d hd)]
    exact hg e.on hL
  have hlx : ∀ x, r.head? = some x → L x = true := by
    intro x hx
    obtain ⟨e, he, rfl, hb, _⟩ := hr x hx
    exact hedges e he hb
  have hp : Prev D C vI lI a (hold L v C vI lI r).1 (hold L v C vI lI r).2 r := by
    clear hhold hrow hown hcl h
    cases r with
    | nil => exact ⟨rfl, rfl⟩
    | cons x r' =>
      have hL := hlx x rfl
      have e1 : hold L v C vI lI (x :: r') = (v x, C x) := by
        show (if L x = true then (v x, C x) else hold L v C vI lI r') = _
        rw [if_pos hL]
      refine ⟨by rw [e1], fun d hd => ?_⟩
      rw [e1, hhere x d hL (hat x d hd)]
  obtain ⟨hgo, hy⟩ := h S a w hlt hR hout hlate hdeps _ _ hrow hp
  generalize (hold L v C vI lI r).1 = p at *
  have fin : ∀ (x : Value) (w' : World), Row w' B x (C i) → Kept (fun k => p.ownBlock = some k) w w' → (x.ownBlock = p.ownBlock ∨ ∀ g, x.ownBlock = some g → w.heap.size ≤ g) → OwnJ w0 S0 B vI lI (ys ++ i :: r) C G (upL L i) (upV v i x) w' := by
    intro x w' hrx hkk hwh
    have hkS : Kept S w w' := hkk.mono (fun k _ e => hown k e)
    refine ⟨fun k => S k ∨ x.ownBlock = some k, ?_, ?_, ?_, ?_, ?_, ?_, ?_⟩
    · rintro k (hS | hx)
      · exact Nat.lt_of_lt_of_le (hlt k hS) hkk.size
      · exact (hrx.lt k hx).2
    · rintro k (hS | hx)
      · exact h0 k hS
      · rcases hwh with e | e
        · exact h0 k (hown k (by rw [← e]; exact hx))
        · exact .inr (Nat.le_trans hk.size (e k hx))
    · exact (hk.trans hkS (fun _ _ x => x)).mono (fun _ _ x => .inl x)
    · refine hcl.up fun ys' x' r' e => ?_
      -- the two ways to part the list are one
      have key : ∀ (zs ys' : List Nat) (x' : Nat) (r r' : List Nat), i ∉ zs → i ∉ ys' → zs ++ i :: r = ys' ++ i :: x' :: r' → r = x' :: r' := by
        intro zs
        induction zs with
        | nil =>
          intro ys' x' r r' _ hy e
          cases ys' with
          | nil => simpa using e
          | cons z zs => simp at e; exact absurd e.1 (fun h => hy (by simp [h]))
        | cons z zs ih =>
          intro ys' x' r r' hz hy e
          cases ys' with
          | nil => simp at e; exact absurd e.1.symm (fun h => hz (by simp [h]))
          | cons y ys'' => simp at e; exact ih ys'' x' r r' (fun h => hz (by simp [h])) (fun h => hy (by simp [h])) e.2
      have hin : i ∉ ys' := by
        intro hm
        have hc : (ys ++ i :: r).count i = 1 := by rw [List.count_append, List.count_eq_zero_of_not_mem hnd.1, List.count_cons_self, List.count_eq_zero_of_not_mem hnd.2]
        rw [e, List.count_append, List.count_cons_self] at hc
        have := List.count_pos_iff.2 hm
        omega
      have := key ys ys' x' r r' hnd.1 hin e
      subst this
      exact hlx x' rfl
    · intro j hj w'' k
      by_cases hji : j = i
      · subst hji; exact hG _ _
      · rw [show upL L i j = L j from if_neg hji] at hj
        rw [show upV v i x j = v j from if_neg hji]
        refine hg j hj w'' (hkS.trans k fun b hb hS => ?_)
        rcases hS with hS | hx
        · exact hS
        · rcases hwh with e | e
          · exact hown b (by rw [← e]; exact hx)
          · have := e b hx; omega
    · have e : hold (upL L i) (upV v i x) C vI lI (ys ++ i :: r) = (x, C i) := by
        rw [hold_later (fun y hym => by rw [show upL L i y = L y from if_neg (fun h : y = i => hnd.1 (by rw [← h]; exact hym))]; exact hlater y hym)]
        show (if upL L i i = true then (upV v i x i, C i) else _) = _
        rw [if_pos (show upL L i i = true from if_pos rfl), show upV v i x i = x from if_pos rfl]
      rw [e]; exact hrx
    · have e : hold (upL L i) (upV v i x) C vI lI (ys ++ i :: r) = (x, C i) := by
        rw [hold_later (fun y hym => by rw [show upL L i y = L y from if_neg (fun h : y = i => hnd.1 (by rw [← h]; exact hym))]; exact hlater y hym)]
        show (if upL L i i = true then (upV v i x i, C i) else _) = _
        rw [if_pos (show upL L i i = true from if_pos rfl), show upV v i x i = x from if_pos rfl]
      rw [e]
      intro g hgx
      exact .inr hgx
  refine ⟨fun _ => ?_, fun hno => ?_⟩
  · revert hy
    unfold Yields
    generalize (execOp a.eval o).run P w = res
    intro hh
    cases res with
    | ok n w' =>
      cases n <;> simp only at hh ⊢ <;> first
        | exact fin _ _ hh.1 hh.2.1 hh.2.2
        | exact hh.elim
        | exact Calls.mono hh (fun e w'' ⟨y, he, hk⟩ => ⟨y, he, fin _ _ hk.1 hk.2.1 hk.2.2⟩)
    | halt x w' => exact hh.elim
  · rw [hgo] at hno; cases hno


section
variable {os : List Oper} {P : Program} {D : List (Option Tmp)} {w0 : World} {S0 : Nat → Prop} {B : Nat} {vI : Value} {lI X : List Nat} {C : Nat → List Nat} {Gs : List Pd} {a0 : Act} {i : Nat} {o : Oper}

theorem StepJ.one (hi : i ∉ X) (hg : o.guard = none)
    (h : ∀ (S : Nat → Prop) (a : Act) (w : World), (∀ k, S k → k < w.heap.size) → (∀ w', Kept S w w' → Kept S0 w0 w') → (∀ t, some t ∉ D → a.eval (.tmp t) = a0.eval (.tmp t)) → (∀ t, late os t i = true → a.eval (.tmp t) = a0.eval (.tmp t)) →
      Deps D (fun j x w => ∀ w', Kept S w w' → Said Gs j x w') a w o.after.toList → (∀ x, X.head? = some x → ∀ e ∈ o.after.toList, e.on = x → Region.binds .any e = true → ∀ d, D.getD x none = some d → Row w B (a.eval (.tmp d)) (C x)) →
      Yields P a.eval o w (fun x w' => (∀ w'', Kept S w' w'' → Said Gs i x w'') ∧ Kept (fun _ => False) w w')) :
    StepJ os P D (OwnJ w0 S0 B vI lI X C (Said Gs)) a0 i o :=
  StepJ.other hi fun S a w hlt hR hout hlate hD hrow => ⟨fun _ => h S a w hlt hR hout hlate hD hrow, fun hno => by unfold goes at hno; rw [hg] at hno; cases hno⟩

end

end Go.Proofs.YtdcbabgcbkdlhaaDoor
set_option maxRecDepth 100000
namespace Go.Proofs.YtdcbabgcbkdlhaaDoor
open Go.RowKit

theorem y_built1 {ρ : Operand → Value} {o : Oper} {w : World} {R : Value → World → Prop} {x : Operand} {c : Nat} (ho : o.op = .buildSlice 28 1 #[(0, x)]) (hx : ρ x = .int .u8 (c : Int))
    (h : R (.slice (some ⟨w.heap.size, 0, none⟩) 1 1) (w.alloc (.cells (byteVals [c]).toArray 5))) : Yields Tryd.prog ρ o w R :=
  y_val (v := .slice (some ⟨w.heap.size, 0, none⟩) 1 1) (w' := w.alloc (.cells (byteVals [c]).toArray 5)) (by simp [execOp, ho, hx, go_sem]; rfl) h

/-- Bytes up to some place. -/
theorem BytesArg.upto {w : World} {v : Value} {l : List Nat} (h : BytesArg w v l) (j : Nat) (hj : j ≤ l.length) (k : IntKind) :
    ∃ v', (Instr.sliceAt 28 v none (some (.int k (j : Int))) none).run Tryd.prog w = .ok v' w ∧ BytesArg w v' (l.take j) := by
  obtain ⟨a, cap, rfl, h1, h2, h3, h256, hc⟩ := h
  have hb : ¬ cap < j := by omega
  have hb0 : BytesArg w (.slice a l.length cap) l := ⟨a, cap, rfl, h1, h2, h3, h256, hc⟩
  obtain ⟨i0, hi, hz0, hz1, hz2⟩ := info_parts Tryd.info_u8
  refine ⟨.slice a j cap, ?_, ?_⟩
  · cases a with
    | none => simp [Instr.sliceAt, Instr.slice, Instr.sliceBounds, Instr.sliceBound, asIntOf, run_underlying Tryd.underlying28, sizeOf, typeInfo, hi, hb]
    | some ad => simp [Instr.sliceAt, Instr.slice, Instr.sliceBounds, Instr.sliceBound, asIntOf, run_underlying Tryd.underlying28, sizeOf, typeInfo, hi, hb, Addr.add]
  · have := hb0.cut 0 j cap (Nat.zero_le _) hj (by omega) h2 a (fun _ => by cases a with | none => rfl | some ad => simp [Addr.add]) h3
    simpa using this

end Go.Proofs.YtdcbabgcbkdlhaaDoor
set_option maxRecDepth 100000
namespace Go.Proofs.YtdcbabgcbkdlhaaDoor
open Go.RowKit

def Owb (w : World) (T : Nat → Prop) (v : Value) (l : List Nat) : Prop := Row w 0 v l ∧ ∀ i, T i ↔ v.ownBlock = some i
theorem Owb.nil (w : World) : Owb w noB (.slice none 0 0) [] := ⟨Row.nil w 0, fun i => ⟨fun h => h.elim, fun h => by cases h⟩⟩
theorem Owb.live {w : World} {T : Nat → Prop} {v : Value} {l : List Nat} (h : Owb w T v l) : Live w T := fun i hi => (h.1.lt i ((h.2 i).1 hi)).2
theorem Owb.byt {w : World} {T : Nat → Prop} {v : Value} {l : List Nat} (h : Owb w T v l) : Byt w T v l := ⟨h.1.bytes, h.live, fun _ a n c e => (h.2 a.block).2 (by rw [e]; rfl)⟩
theorem Owb.all {S : Nat → Prop} {w w' : World} {T : Nat → Prop} {v : Value} {l : List Nat} (h : Owb w T v l) (k : Kept S w w') (ha : Apart T S) : Owb w' T v l := ⟨h.1.kept k (fun g hg => ha g ((h.2 g).2 hg)), h.2⟩
theorem Owb.one {w : World} {T : Nat → Prop} {v : Value} {l : List Nat} (h : Owb w T v l) : v.oneCell' = true := h.byt.one
theorem Owb.oneC {w : World} {T : Nat → Prop} {v : Value} {l : List Nat} (h : Owb w T v l) : oneC v = true := h.byt.oneC
theorem Owb.cells {w : World} {T : Nat → Prop} {v : Value} {l : List Nat} (h : Owb w T v l) : Cells w T := fun i hi => by
  have hv := (h.2 i).1 hi
  rcases h.1.1.2 with ⟨rfl, _⟩ | ⟨g, cap, cur, rfl, _, hg, _⟩
  · cases hv
  · cases hv; exact ⟨_, hg, rfl⟩
theorem Owb.row {A B : World} {row : Option Nat} {n : Nat} {T : Nat → Prop} {v : Value} {l : List Nat} (h : Owb A T v l) (hg : A.grownBy B row) (hr : RowNew n A row) : Owb B T v l := h.all (kept_row hg) (h.cells.apart hr)
theorem Owb.lt256 {w : World} {T : Nat → Prop} {v : Value} {l : List Nat} (h : Owb w T v l) : ∀ x ∈ l, x < 256 := h.1.2
theorem Owb.of {w : World} {v : Value} {l : List Nat} (h : Row w 0 v l) : Owb w (fun i => v.ownBlock = some i) v l := ⟨h, fun _ => Iff.rfl⟩
theorem Byt.lt256 {w : World} {T : Nat → Prop} {v : Value} {l : List Nat} (h : Byt w T v l) : ∀ x ∈ l, x < 256 := h.1.lt256

def bytAddr (v : Value) (j : Nat) : Value := match v with
  | .slice (some a) _ _ => .pointer (some (a.add j))
  | _ => undef
section
variable {ρ : Operand → Value} {o : Oper} {w : World} {R : Value → World → Prop}
theorem y_atB {x ix : Operand} {T : Nat → Prop} {v : Value} {l : List Nat} {k : IntKind} (j : Nat) {i : Int} (ho : o.op = .indexAddr 28 x ix) (hx : ρ x = v) (hi : ρ ix = .int k i) (hij : i = (j : Int)) (hb : Byt w T v l) (hj : j < l.length) (h : R (bytAddr v j) w) : Yields Tryd.prog ρ o w R := by
  subst hij
  obtain ⟨⟨a, cap, rfl, _, _, _, _, hc⟩, _⟩ := hb
  obtain ⟨b, off, rfl, _, _⟩ := hc (by omega)
  obtain ⟨i0, hi0, hz0, hz1, hz2⟩ := info_parts Tryd.info_u8
  exact y_val (v := bytAddr (.slice (some ⟨b, off, none⟩) l.length cap) j) (w' := w) (by simp [execOp, ho, hx, hi, Instr.indexAt, run_underlying Tryd.underlying28, asIntOf, sizeOf, typeInfo, hi0, hz1, hj, bytAddr]) h
theorem Byt.at_ {w : World} {T : Nat → Prop} {v : Value} {l : List Nat} {j : Nat} (hb : Byt w T v l) (hj : j < l.length) : ∃ a, bytAddr v j = .pointer (some a) ∧ w.cell? a = some (.int .u8 (l.getD j 0 : Nat)) := by
  obtain ⟨⟨a, cap, rfl, _, _, _, _, hc⟩, _⟩ := hb
  obtain ⟨b, off, rfl, _, hcell⟩ := hc (by omega)
  exact ⟨⟨b, off + j, none⟩, by rw [bytAddr, Addr.add_lit], hcell j hj⟩
theorem y_ldB {x : Operand} {T : Nat → Prop} {v : Value} {l : List Nat} {j : Nat} (ho : o.op = .load 5 x) (hx : ρ x = bytAddr v j) (hb : Byt w T v l) (hj : j < l.length) (h : R (.int .u8 ((l.getD j 0 : Nat) : Int)) w) : Yields Tryd.prog ρ o w R := by
  obtain ⟨a, ha, hc⟩ := hb.at_ hj
  exact y_ldA ho (hx.trans ha) Tryd.underlying5 rfl hc h
end

/-- Where what is appended lies: there, or in memory of its own. -/
theorem run_append_where (w : World) (ty : TypeId) (v x : Value) (l m : List Nat) (hown : Row w 0 v l) (hx : BytesArg w x m) (hl : l.length + m.length < 1099511627776) :
    ∃ v' w', (Builtin.append_ #[28, 28] ty #[v, x]).run Tryd.prog w = .ok v' w' ∧ Appended w w' 0 v v' (l ++ m) ∧ (v'.ownBlock = v.ownBlock ∨ ∀ i, v'.ownBlock = some i → w.heap.size ≤ i) := by
  obtain ⟨v', w', hr, hA⟩ := run_append_bytes w ty 0 v x l m hown hx hl (Nat.zero_le _)
  refine ⟨v', w', hr, hA, ?_⟩
  obtain ⟨i0, hi, hz0, hz1, hz2⟩ := info_parts Tryd.info_u8
  obtain ⟨a, cap, rfl, h1, h2, h3, h256, hc⟩ := hx
  rcases hown.1.2 with ⟨rfl, h0⟩ | ⟨g, cp, cur, rfl, hb, hg, hnc, hcm, hcs, htake⟩
  · -- none yet: whatever there is is new
    right
    intro i hi'
    have hnil : l = [] := List.eq_nil_of_length_eq_zero h0
    subst hnil
    obtain ⟨v2, w2, hr2, hA2⟩ := run_append_bytes w ty w.heap.size (.slice none 0 0) (.slice a m.length cap) [] m (Row.nil w _) ⟨a, cap, rfl, h1, h2, h3, h256, hc⟩ (by simpa using hl) (Nat.le_refl _)
    rw [hr] at hr2
    cases hr2
    exact (hA2.1.lt i hi').1
  · cases a with
    | none =>
      have hc0 := h3 rfl
      subst hc0
      have hm : m = [] := List.eq_nil_of_length_eq_zero (by omega)
      subst hm
      left
      have hr2 := run_append_owned_none (P := Tryd.prog) w 0 28 ty _ i0 1 Tryd.underlying28 hi (.slice (some ⟨g, 0, none⟩) l.length cp) _ _ hown.1
      simp only [List.length_nil] at hr
      rw [hr2] at hr
      cases hr; rfl
    | some ad =>
      have hcells : ∀ j u, (byteVals m)[j]? = some u → w.cell? (ad.add j) = some u := by
        intro j u hj
        have hjl : j < m.length := by
          have := (List.getElem?_eq_some_iff.1 hj).1
          rwa [byteVals_length] at this
        obtain ⟨b, off, he, hb, hcell⟩ := hc (by omega)
        cases he
        rw [Addr.add_lit, hcell j hjl, ← hj, byteVals_at m j hjl]
      by_cases hroom : l.length + m.length ≤ cp
      · left
        have hr2 := run_append_room (P := Tryd.prog) w 28 ty 5 i0 Tryd.underlying28 hi g l.length cp cur hg ad m.length cap (byteVals m) (by rw [hz1, byteVals_length]; omega) hcells (byteVals_one m) hroom (by rw [hz1, byteVals_length, hcs]; omega)
        rw [hr2] at hr
        cases hr; rfl
      · right
        intro i hi'
        have hr2 := run_append_grow (P := Tryd.prog) w 28 ty 5 i0 (.int .u8 0) Tryd.underlying28 hi hz0 ⟨g, 0, none⟩ l.length cp (byteVals l) (by rw [hz1, byteVals_length]; omega) (hown.1.cells rfl) ad m.length cap (byteVals m) (by rw [hz1, byteVals_length]; omega) hcells (by omega) (by omega) (growslice_fits (by omega) (by rw [hz2]; omega))
        rw [hr2] at hr
        cases hr
        cases hi'; exact Nat.le_refl _

section
variable {ro : Option Nat} {N : Nat} {Q : (Exit → (Nat → Value) → World → Prop)} {F : Nat → Value} {w : World} {o : Oper}
theorem wl_builtB1 {ops : Array Oper} {rest : List Oper} {x : Operand} {n : Nat} {z : Int} (hg : o.guard = none) (hd : fits N o.dst = true) (ho : o.op = .buildSlice 28 1 #[(0, x)]) (hx : ev (cutF N F) x = .int .u8 z) (hz : z = (n : Int)) (hn : n < 256)
    (h : ∀ v w' T, Owb w' T v [n] → Grew w noB T → Kept (fun _ => False) w w' → wl ro Tryd.prog N ops Q rest (putF F o.dst v) w') : wl ro Tryd.prog N ops Q (o :: rest) F w := by
  subst hz
  refine wl_op hg hd (y_built1 ho hx (h _ _ _ (Owb.of (Row.of_new (B := 0) (l := [n]) (heap_alloc_new w _) (Nat.zero_le _) (show 1 ≤ maxLen by decide) (by simpa using hn))) (fun i hi => .inr ?_) ((Kept.refl _ _).alloc _)))
  cases hi; exact Nat.le_refl _
theorem wl_appendB {ops : Array Oper} {rest : List Oper} {c : Call} {x y : Operand} {T U : Nat → Prop} {v u : Value} {l m : List Nat} (hg : o.guard = none) (hd : fits N o.dst = true) (ho : o.op = .call c) (hc : c = { callee := .builtin .append, args := #[x, y], argTypes := #[28, 28] }) (hx : ev (cutF N F) x = v) (hy : ev (cutF N F) y = u) (hv : Owb w T v l) (hu : Byt w U u m) (hl : l.length + m.length < 1099511627776)
    (h : ∀ v' w' T', Owb w' T' v' (l ++ m) → Grew w T T' → Kept T w w' → wl ro Tryd.prog N ops Q rest (putF F o.dst v') w') : wl ro Tryd.prog N ops Q (o :: rest) F w := by
  subst hc
  obtain ⟨v', w', hr, hA, hw⟩ := run_append_where w o.type v u l m hv.1 hu.1 hl
  refine wl_op hg hd (y_val (v := v') (w' := w') (by simp [execOp, ho, resolve, invoke, builtin, hx, hy, hr]) (h v' w' _ (Owb.of hA.1) (fun i hi => ?_) ((Kept.refl T w).grown hA.2 (fun k e _ => (hv.2 k).2 e))))
  rcases hw with hw | hw
  · exact .inl ((hv.2 i).2 (hw ▸ hi))
  · exact .inr (hw i hi)
end
end Go.Proofs.YtdcbabgcbkdlhaaDoor
set_option maxRecDepth 100000
namespace Go.Proofs.YtdcbabgcbkdlhaaDoor
open Go.RowKit
theorem stcT_frame : StcT Tryd.prog 68 5 := ⟨_, Tryd.underlying68, rfl, by kernel_rfl⟩

end Go.Proofs.YtdcbabgcbkdlhaaDoor
set_option maxRecDepth 100000
namespace Go.Proofs.YtdcbabgcbkdlhaaDoor
open Go.RowKit
/-- A frame that can be read. -/
def FrmV (w : World) (v : Value) (f : FD) : Prop := ∃ (a b c : Value) (Ta Tb Tc : Nat → Prop), v = .agg #[.int .i64 f.W, .int .i64 f.H, a, b, c] ∧ Owb w Ta a f.p0 ∧ Owb w Tb b f.p1 ∧ Owb w Tc c f.p2
theorem FrmV.all {w w' : World} {v : Value} {f : FD} (h : FrmV w v f) (k : Kept (fun _ => False) w w') : FrmV w' v f := by
  obtain ⟨a, b, c, Ta, Tb, Tc, e, h1, h2, h3⟩ := h
  exact ⟨a, b, c, Ta, Tb, Tc, e, h1.all k Apart.none, h2.all k Apart.none, h3.all k Apart.none⟩
theorem Stc.apart {w : World} {p : Nat} {t : TypeId} {vs : List Value} {T : Nat → Prop} {v : Value} {l : List Nat} (h : Stc w p t vs) (ho : Owb w T v l) (ht : t ≠ 5) : Apart (onB p) T := fun i hi hT => by
  cases hi
  have hv := (ho.2 _).1 hT
  rcases ho.1.1.2 with ⟨rfl, _⟩ | ⟨g, cap, cur, rfl, _, hg, _⟩
  · cases hv
  · cases hv
    have h' := h
    unfold Stc at h'
    rw [h'] at hg
    cases hg; exact ht rfl
theorem u8_mod (n : Nat) : IntKind.u8.wrap ((n : Nat) : Int) = ((n % 256 : Nat) : Int) := by
  unfold IntKind.wrap; simp [IntKind.signed, IntKind.bits]
theorem u8_small {n : Nat} (h : n < 256) : IntKind.u8.wrap ((n : Nat) : Int) = ((n : Nat) : Int) := by rw [u8_mod, Nat.mod_eq_of_lt h]

set_option maxHeartbeats 4000000 in
set_option maxRecDepth 100000 in
theorem flaw_frame (w h : Nat) (v : Value) (l : List Nat) (T_b : Nat → Prop) (w0 : World) (hw : w < 256) (hh : h < 256) (h_b : Byt w0 T_b v (l)) :
  Calls Tryd.prog 31 #[.int .u8 (((w : Nat) : Int)), .int .u8 (((h : Nat) : Int)), v] w0 fun e w' => ∃ (v1 : Value) (T1 : Nat → Prop) (v2 : Value) (T2 : Nat → Prop) (v3 : Value) (T3 : Nat → Prop), e = .returned (.agg #[.int .i64 ((mkF w h l).W), .int .i64 ((mkF w h l).H), v1, v2, v3]) ∧ Kept (fun _ => False) w0 w' ∧ (Owb w' T1 v1 ((mkF w h l).p0) ∧ Grew w0 noB T1) ∧ (Owb w' T2 v2 ((mkF w h l).p1) ∧ Grew w0 noB T2) ∧ (Owb w' T3 v3 ((mkF w h l).p2) ∧ Grew w0 noB T3) ∧ Apart T1 T2 ∧ Apart T1 T3 ∧ Apart T2 T3 := by
 refine calls_wq (args := [.int .u8 (((w : Nat) : Int)), .int .u8 (((h : Nat) : Int)), v]) 72 Tryd.func31 rfl rfl (Nat.le_of_ble_eq_true rfl) ?_
 have K0 := Kept.refl (fun _ => False) w0
 obtain ⟨A, hA⟩ : ∃ A, A = sd w := ⟨_, rfl⟩
 obtain ⟨B, hB⟩ : ∃ B, B = sd h := ⟨_, rfl⟩
 obtain ⟨N, hN⟩ : ∃ N, N = A * B := ⟨_, rfl⟩
 have hF : mkF w h l = ⟨(A : Nat), (B : Nat), smps l 0 N, smps l 1 (N / 4), smps l 2 (N / 4)⟩ := by rw [hN, hA, hB]; rfl
 have hA2 : A = 8 * (1 + w % 3) := hA
 have hB2 : B = 8 * (1 + h % 3) := hB
 have hN2 : N ≤ 24 * 24 := by rw [hN]; exact Nat.mul_le_mul (by omega) (by omega)
 have g_b := Grew.refl w0 T_b
 refine wq_seq ?_
 refine wq_region ?_
 refine wl_alloc_stc (n := 5) (vs := [.int .i64 (0), .int .i64 (0), .slice none 0 0, .slice none 0 0, .slice none 0 0]) rfl rfl rfl (by kernel_rfl) fun p1 w2 B4 g5 k3 => ?_
 have gr6 : Grew w0 noB (onB p1) := Grew.new K0 g5
 have B8 := h_b.all k3 Apart.none
 have K9 := K0.trans k3 (fun _ _ x => x.elim)
 refine wl_nil fun F10 hF11 => ?_
 have s12 : F10 0 = .int .u8 (((w : Nat) : Int)) := (hF11 0).trans rfl
 have s13 : F10 1 = .int .u8 (((h : Nat) : Int)) := (hF11 1).trans rfl
 have s14 : F10 2 = v := (hF11 2).trans rfl
 have s15 : F10 72 = undef := (hF11 72).trans rfl
 have s16 : F10 6 = .pointer (some ⟨p1, 0, none⟩) := (hF11 6).trans rfl
 clear hF11
 refine then_normal ?_
 refine wq_seq ?_
 refine wq_region ?_
 refine wl_v (.int .u8 (((w : Nat) : Int))) rfl rfl (y_mov rfl s12 ⟨rfl, rfl⟩) ?_
 refine wl_v (.int .i64 (((w : Nat) : Int))) rfl rfl (y_convR rfl rfl Tryd.underlying5 Tryd.underlying3 (i64_i rfl (by omega)) ⟨rfl, rfl⟩) ?_
 refine wl_v (.int .i64 ((((w % 3) : Nat) : Int))) rfl rfl (y_rem rfl rfl rfl (by first | decide | omega) (rem_nat w 3) ⟨rfl, rfl⟩) ?_
 refine wl_v (.int .i64 (((1 + ((w % 3)) : Nat) : Int))) rfl rfl (y_add rfl rfl rfl (i64_n (by omega) (by omega)) ⟨rfl, rfl⟩) ?_
 refine wl_v (.int .i64 (((A : Nat) : Int))) rfl rfl (y_mul rfl rfl rfl (i64_n (by omega) (by omega)) ⟨rfl, rfl⟩) ?_
 refine wl_v (.int .u8 (((h : Nat) : Int))) rfl rfl (y_mov rfl s13 ⟨rfl, rfl⟩) ?_
 refine wl_v (.int .i64 (((h : Nat) : Int))) rfl rfl (y_convR rfl rfl Tryd.underlying5 Tryd.underlying3 (i64_i rfl (by omega)) ⟨rfl, rfl⟩) ?_
 refine wl_v (.int .i64 ((((h % 3) : Nat) : Int))) rfl rfl (y_rem rfl rfl rfl (by first | decide | omega) (rem_nat h 3) ⟨rfl, rfl⟩) ?_
 refine wl_v (.int .i64 (((1 + ((h % 3)) : Nat) : Int))) rfl rfl (y_add rfl rfl rfl (i64_n (by omega) (by omega)) ⟨rfl, rfl⟩) ?_
 refine wl_v (.int .i64 (((B : Nat) : Int))) rfl rfl (y_mul rfl rfl rfl (i64_n (by omega) (by omega)) ⟨rfl, rfl⟩) ?_
 refine wl_v (.agg #[.int .i64 (((A : Nat) : Int)), .int .i64 (((B : Nat) : Int)), .slice none 0 0, .slice none 0 0, .slice none 0 0]) rfl rfl (y_buildL (l' := [(0, .int .i64 (((A : Nat) : Int))), (1, .int .i64 (((B : Nat) : Int)))]) (cells := #[.int .i64 (((A : Nat) : Int)), .int .i64 (((B : Nat) : Int)), .slice none 0 0, .slice none 0 0, .slice none 0 0]) rfl (bpC rfl (bpC rfl bpN)) (by kernel_rfl) rfl ⟨rfl, rfl⟩) ?_
 refine wl_alloc_stc (n := 5) (vs := [.int .i64 (0), .int .i64 (0), .slice none 0 0, .slice none 0 0, .slice none 0 0]) rfl rfl rfl (by kernel_rfl) fun p17 w18 B20 g21 k19 => ?_
 have gr22 : Grew w0 noB (onB p17) := Grew.new K9 g21
 have ap23 : Apart (onB p17) (T_b) := Apart.new g21 (B8).live
 have ap24 : Apart (onB p17) (onB p1) := Apart.new g21 (onB_live (B4).lt)
 have B25 := B8.all k19 Apart.none
 have B26 := B4.all k19 id
 have K27 := K9.trans k19 (fun _ _ x => x.elim)
 refine wl_store_stc (us := [.int .i64 (((A : Nat) : Int)), .int .i64 (((B : Nat) : Int)), .slice none 0 0, .slice none 0 0, .slice none 0 0]) stcT_frame rfl rfl rfl rfl rfl B20 rfl (oneI rfl (oneI rfl (oneI rfl (oneI rfl (oneI rfl oneN))))) fun w28 B29 k30 => ?_
 have B31 := B25.all k30 (fun i h x => (((ap23).symm) i h x))
 have B32 := B26.all k30 (fun x => (((ap24).symm) p1 rfl x))
 have K33 := K27.trans k30 (Grew.ok (S := fun _ => False) gr22 noB_le)
 refine wl_nil fun F34 hF35 => ?_
 have s36 := (hF35 2).trans s14
 have s37 := (hF35 72).trans s15
 have s38 := (hF35 6).trans s16
 have s39 : F34 7 = .pointer (some ⟨p17, 0, none⟩) := (hF35 7).trans rfl
 clear hF35
 refine then_normal ?_
 refine wq_seq ?_
 refine wq_seq ?_
 refine wq_region ?_
 refine wl_v (.int .i64 (0)) rfl rfl (y_asg rfl rfl ⟨rfl, rfl⟩) ?_
 refine wl_nil fun F40 hF41 => ?_
 have s42 := (hF41 2).trans s36
 have s43 := (hF41 72).trans s37
 have s44 := (hF41 6).trans s38
 have s45 := (hF41 7).trans s39
 have s46 : F40 8 = .int .i64 (0) := (hF41 8).trans rfl
 clear hF41
 refine then_normal ?_
 refine wq_block ?_
 refine wq_rounds 4 ?_
 refine wqr_step ?_
 refine wq_seq ?_
 refine wq_seq ?_
 refine wq_region ?_
 refine wl_v (.int .i64 (0)) rfl rfl (y_mov rfl s46 ⟨rfl, rfl⟩) ?_
 refine wl_v (.bool true) rfl rfl (y_lss rfl rfl rfl rfl ⟨rfl, rfl⟩) ?_
 refine wl_nil fun F47 hF48 => ?_
 have s49 := (hF48 2).trans s42
 have s50 := (hF48 72).trans s43
 have s51 := (hF48 6).trans s44
 have s52 := (hF48 7).trans s45
 have s53 := (hF48 8).trans s46
 have s54 : F47 24 = .bool true := (hF48 24).trans rfl
 clear hF48
 refine then_normal ?_
 refine wq_cond (t := true) s54 (fun _ => ?_) (fun e => by cases e)
 refine wq_skip ?_
 refine then_normal ?_
 refine wq_seq ?_
 refine wq_block ?_
 refine wq_seq ?_
 refine wq_region ?_
 refine wl_v (.pointer (some ⟨p17, 0, none⟩)) rfl rfl (y_fieldR (n := 1) rfl s52 Tryd.underlying68 rfl (by kernel_rfl) (by decide) rfl ⟨rfl, rfl⟩) ?_
 refine wl_v (.int .i64 (((A : Nat) : Int))) rfl rfl (y_ld_stc rfl rfl Tryd.underlying3 B29 rfl rfl ⟨rfl, rfl⟩) ?_
 refine wl_v (.pointer (some ⟨p17, 1, none⟩)) rfl rfl (y_fieldR (n := 1) rfl s52 Tryd.underlying68 rfl (by kernel_rfl) (by decide) rfl ⟨rfl, rfl⟩) ?_
 refine wl_v (.int .i64 (((B : Nat) : Int))) rfl rfl (y_ld_stc rfl rfl Tryd.underlying3 B29 rfl rfl ⟨rfl, rfl⟩) ?_
 refine wl_v (.int .i64 (((N : Nat) : Int))) rfl rfl (y_mul rfl rfl rfl (i64_n (by rw [hN, Int.natCast_mul]) (by omega)) ⟨rfl, rfl⟩) ?_
 refine wl_v (.int .i64 (((N : Nat) : Int))) rfl rfl (y_asg rfl rfl ⟨rfl, rfl⟩) ?_
 refine wl_nil fun F55 hF56 => ?_
 have s57 := (hF56 2).trans s49
 have s58 := (hF56 72).trans s50
 have s59 := (hF56 6).trans s51
 have s60 := (hF56 7).trans s52
 have s61 := (hF56 8).trans s53
 have s62 : F55 9 = .int .i64 (((N : Nat) : Int)) := (hF56 9).trans rfl
 clear hF56
 refine then_normal ?_
 refine wq_seq ?_
 refine wq_seq ?_
 refine wq_region ?_
 refine wl_v (.int .i64 (0)) rfl rfl (y_mov rfl s61 ⟨rfl, rfl⟩) ?_
 refine wl_v (.bool false) rfl rfl (y_gtr rfl rfl rfl rfl ⟨rfl, rfl⟩) ?_
 refine wl_nil fun F63 hF64 => ?_
 have s65 := (hF64 2).trans s57
 have s66 := (hF64 72).trans s58
 have s67 := (hF64 6).trans s59
 have s68 := (hF64 7).trans s60
 have s69 := (hF64 8).trans s61
 have s70 := (hF64 9).trans s62
 have s71 : F63 33 = .bool false := (hF64 33).trans rfl
 clear hF64
 refine then_normal ?_
 refine wq_cond (t := false) s71 (fun e => by cases e) (fun _ => ?_)
 refine wq_skip ?_
 refine then_normal ?_
 refine wq_seq ?_
 have hpn := pn_le N 0
 have s72 : F63 9 = .int .i64 ((((pn N 0) : Nat) : Int)) := s70.trans (congrArg (Value.int .i64) (rfl))
 refine wq_region ?_
 refine wl_v (.int .i64 (0)) rfl rfl (y_asg rfl rfl ⟨rfl, rfl⟩) ?_
 refine wl_nil fun F73 hF74 => ?_
 have s75 := (hF74 2).trans s65
 have s76 := (hF74 72).trans s66
 have s77 := (hF74 6).trans s67
 have s78 := (hF74 7).trans s68
 have s79 := (hF74 8).trans s69
 have s80 := (hF74 9).trans s72
 have s81 : F73 10 = .int .i64 (0) := (hF74 10).trans rfl
 clear hF74
 refine then_normal ?_
 refine wq_block ?_
 refine wq_loop (fun nn FF ww => ∃ (i : Nat), ∃ (q0 : Value), ∃ (T82 : Nat → Prop), (i ≤ (pn N 0)) ∧ nn = (pn N 0) - i ∧ FF 2 = v ∧ FF 6 = .pointer (some ⟨p1, 0, none⟩) ∧ FF 7 = .pointer (some ⟨p17, 0, none⟩) ∧ FF 8 = .int .i64 (0) ∧ FF 9 = .int .i64 ((((pn N 0) : Nat) : Int)) ∧ FF 72 = undef ∧ FF 10 = .int .i64 (((i : Nat) : Int)) ∧ Kept (fun _ => False) w0 ww ∧ Byt ww (T_b) v (l) ∧ Stc ww p1 68 [.int .i64 (0), .int .i64 (0), .slice none 0 0, .slice none 0 0, .slice none 0 0] ∧ Stc ww p17 68 [.int .i64 (((A : Nat) : Int)), .int .i64 (((B : Nat) : Int)), q0, .slice none 0 0, .slice none 0 0] ∧ Owb ww (T82) q0 (smps l 0 i) ∧ Grew w0 (noB) T82 ∧ Apart (T82) (T_b) ∧ Apart (T82) (onB p1) ∧ Apart (T82) (onB p17)) ((pn N 0) - (0)) ⟨0, (.slice none 0 0), noB, by omega, rfl, s75, s77, s78, s79, s80, s76, s81, K33, B31, B32, B29, (Owb.nil _), (Grew.refl _ _), Apart.none.symm, Apart.none.symm, Apart.none.symm⟩ ?_
 rintro n86 F83 w84 ⟨i, q0, T82, i87, hn86, s88, s89, s90, s91, s92, s93, s94, K85, B95, B96, B97, B98, gr99, ap100, ap101, ap102⟩
 refine wq_seq ?_
 refine wq_seq ?_
 refine wq_region ?_
 refine wl_v (.int .i64 (((i : Nat) : Int))) rfl rfl (y_mov rfl s94 ⟨rfl, rfl⟩) ?_
 refine wl_v (.int .i64 ((((pn N 0) : Nat) : Int))) rfl rfl (y_mov rfl s92 ⟨rfl, rfl⟩) ?_
 refine wl_v (.bool (decide ((((i : Nat) : Int)) < ((((pn N 0) : Nat) : Int))))) rfl rfl (y_lss rfl rfl rfl rfl ⟨rfl, rfl⟩) ?_
 refine wl_nil fun F103 hF104 => ?_
 have s105 := (hF104 2).trans s88
 have s106 := (hF104 6).trans s89
 have s107 := (hF104 7).trans s90
 have s108 := (hF104 8).trans s91
 have s109 := (hF104 9).trans s92
 have s110 := (hF104 72).trans s93
 have s111 := (hF104 10).trans s94
 have s112 : F103 38 = .bool (decide ((((i : Nat) : Int)) < ((((pn N 0) : Nat) : Int)))) := (hF104 38).trans rfl
 clear hF104
 refine then_normal ?_
 refine wq_cond s112 (fun c113 => ?_) (fun c113 => ?_)
 ·replace c113 := of_decide_eq_true c113
  refine wq_skip ?_
  refine then_normal ?_
  refine wq_seq ?_
  refine wq_block ?_
  refine wq_seq ?_
  refine wq_region ?_
  refine wl_v (.int .i64 (((i : Nat) : Int))) rfl rfl (y_mov rfl s111 ⟨rfl, rfl⟩) ?_
  refine wl_v (.int .i64 (((i * 3 : Nat) : Int))) rfl rfl (y_mul rfl rfl rfl (i64_n (by omega) (by omega)) ⟨rfl, rfl⟩) ?_
  refine wl_v (.int .u8 ((((i * 3 % 256) : Nat) : Int))) rfl rfl (y_convR rfl rfl Tryd.underlying3 Tryd.underlying5 (u8_mod (i * 3)) ⟨rfl, rfl⟩) ?_
  refine wl_v (.int .u8 ((((i * 3 % 256) : Nat) : Int))) rfl rfl (y_asg rfl rfl ⟨rfl, rfl⟩) ?_
  refine wl_nil fun F114 hF115 => ?_
  have s116 := (hF115 2).trans s105
  have s117 := (hF115 6).trans s106
  have s118 := (hF115 7).trans s107
  have s119 := (hF115 8).trans s108
  have s120 := (hF115 9).trans s109
  have s121 := (hF115 72).trans s110
  have s122 := (hF115 10).trans s111
  have s123 : F114 11 = .int .u8 ((((i * 3 % 256) : Nat) : Int)) := (hF115 11).trans rfl
  clear hF115
  refine then_normal ?_
  refine wq_seq ?_
  refine wq_seq ?_
  refine wq_region ?_
  refine wl_v (v) rfl rfl (y_mov rfl s116 ⟨rfl, rfl⟩) ?_
  refine wl_v (.int .i64 ((((l).length : Nat) : Int))) rfl rfl (y_lenV rfl rfl rfl B95 ⟨rfl, rfl⟩) ?_
  refine wl_v (.bool (decide ((0) < ((((l).length : Nat) : Int))))) rfl rfl (y_gtr rfl rfl rfl rfl ⟨rfl, rfl⟩) ?_
  refine wl_nil fun F124 hF125 => ?_
  have s126 := (hF125 2).trans s116
  have s127 := (hF125 6).trans s117
  have s128 := (hF125 7).trans s118
  have s129 := (hF125 8).trans s119
  have s130 := (hF125 9).trans s120
  have s131 := (hF125 72).trans s121
  have s132 := (hF125 10).trans s122
  have s133 := (hF125 11).trans s123
  have s134 : F124 46 = .bool (decide ((0) < ((((l).length : Nat) : Int)))) := (hF125 46).trans rfl
  clear hF125
  refine then_normal ?_
  refine wq_cond s134 (fun c135 => ?_) (fun c135 => ?_)
  ·replace c135 := of_decide_eq_true c135
   refine wq_region ?_
   refine wl_v (v) rfl rfl (y_mov rfl s126 ⟨rfl, rfl⟩) ?_
   refine wl_v (.int .i64 (((i : Nat) : Int))) rfl rfl (y_mov rfl s132 ⟨rfl, rfl⟩) ?_
   refine wl_v (.int .i64 (0)) rfl rfl (y_mov rfl s129 ⟨rfl, rfl⟩) ?_
   refine wl_v (.int .i64 (((0 : Nat) : Int))) rfl rfl (y_mul rfl rfl rfl (i64_n (by omega) (by omega)) ⟨rfl, rfl⟩) ?_
   refine wl_v (.int .i64 (((i + 0 : Nat) : Int))) rfl rfl (y_add rfl rfl rfl (i64_n (by omega) (by omega)) ⟨rfl, rfl⟩) ?_
   refine wl_v (v) rfl rfl (y_mov rfl s126 ⟨rfl, rfl⟩) ?_
   refine wl_v (.int .i64 ((((l).length : Nat) : Int))) rfl rfl (y_lenV rfl rfl rfl B95 ⟨rfl, rfl⟩) ?_
   refine wl_v (.int .i64 (((((i + 7 * 0) % (l).length) : Nat) : Int))) rfl rfl (y_rem rfl rfl rfl (by first | decide | omega) (rem_nat (i + 7 * 0) (l).length) ⟨rfl, rfl⟩) ?_
   refine wl_v (bytAddr (v) (((i + 7 * 0) % (l).length))) rfl rfl (y_atB (((i + 7 * 0) % (l).length)) rfl rfl rfl (by omega) B95 (Nat.mod_lt _ (by omega)) ⟨rfl, rfl⟩) ?_
   have u136 := getD_lt (B95).lt256 (((i + 7 * 0) % (l).length))
   refine wl_v (.int .u8 ((((l).getD (((i + 7 * 0) % (l).length)) 0 : Nat) : Int))) rfl rfl (y_ldB rfl rfl B95 (Nat.mod_lt _ (by omega)) ⟨rfl, rfl⟩) ?_
   refine wl_v (.int .i64 (((i : Nat) : Int))) rfl rfl (y_mov rfl s132 ⟨rfl, rfl⟩) ?_
   refine wl_v (.int .i64 ((((i / 16) : Nat) : Int))) rfl rfl (y_quo rfl rfl rfl (by first | decide | omega) (i64_n (quo_nat i 16) (by omega)) ⟨rfl, rfl⟩) ?_
   refine wl_v (.int .u8 ((((i / 16) : Nat) : Int))) rfl rfl (y_convR rfl rfl Tryd.underlying3 Tryd.underlying5 (u8_small (by omega)) ⟨rfl, rfl⟩) ?_
   refine wl_v (.int .u8 (((smp l 0 i : Nat) : Int))) rfl rfl (y_add rfl rfl rfl ((by rw [smp_some (by omega)]; exact u8_mod _)) ⟨rfl, rfl⟩) ?_
   refine wl_v (.int .u8 (((smp l 0 i : Nat) : Int))) rfl rfl (y_asg rfl rfl ⟨rfl, rfl⟩) ?_
   refine wl_nil fun F137 hF138 => ?_
   have s139 := (hF138 2).trans s126
   have s140 := (hF138 6).trans s127
   have s141 := (hF138 7).trans s128
   have s142 := (hF138 8).trans s129
   have s143 := (hF138 9).trans s130
   have s144 := (hF138 72).trans s131
   have s145 := (hF138 10).trans s132
   have s146 : F137 11 = .int .u8 (((smp l 0 i : Nat) : Int)) := (hF138 11).trans rfl
   clear hF138
   refine then_normal ?_
   have hsm := smp_lt l 0 i
   have hsl := smps_length l 0 i
   refine wq_region ?_
   refine wl_v (.int .i64 (0)) rfl rfl (y_mov rfl s142 ⟨rfl, rfl⟩) ?_
   refine wl_v (.int .i64 (0)) rfl rfl (y_mov rfl s142 ⟨rfl, rfl⟩) ?_
   refine wl_v (.pointer (some ⟨p17, 2, none⟩)) rfl rfl (y_fieldR (n := 3) rfl s141 Tryd.underlying68 rfl (by kernel_rfl) (by decide) rfl ⟨rfl, rfl⟩) ?_
   refine wl_v (.pointer (some ⟨p17, 2, none⟩)) rfl rfl (y_atR (0) (s := 1) rfl rfl rfl (by omega) Tryd.underlying66 (by omega) (by kernel_rfl) (by omega) ⟨rfl, rfl⟩) ?_
   refine wl_v (q0) rfl rfl (y_ld_stc rfl rfl Tryd.underlying28 B97 rfl rfl ⟨rfl, rfl⟩) ?_
   refine wl_v (.int .u8 (((smp l 0 i : Nat) : Int))) rfl rfl (y_mov rfl s146 ⟨rfl, rfl⟩) ?_
   refine wl_builtB1 (n := smp l 0 i) rfl rfl rfl rfl (by omega) (by omega) fun v147 w148 T152 B150 g151 k149 => ?_
   have B158 := B95.all k149 Apart.none
   have B159 := B96.all k149 id
   have B160 := B97.all k149 id
   have B161 := B98.all k149 Apart.none
   have K162 := K85.trans k149 (fun _ _ x => x.elim)
   refine wl_appendB rfl rfl rfl rfl rfl rfl B161 (B150).byt (by first | omega | (simp; done) | (simp; omega)) fun v163 w164 T168 B166 g167 k165 => ?_
   have gr169 := Grew.trans gr99 K162 g167
   have ap170 : Apart T168 (T_b) := (ap100).grew g167 (B158).live
   have ap171 : Apart T168 (onB p1) := (ap101).grew g167 (onB_live (B159).lt)
   have ap172 : Apart T168 (onB p17) := (ap102).grew g167 (onB_live (B160).lt)
   have B174 := B158.all k165 (fun i h x => (((ap100).symm) i h x))
   have B175 := B159.all k165 (fun x => (((ap101).symm) p1 rfl x))
   have B176 := B160.all k165 (fun x => (((ap102).symm) p17 rfl x))
   have K178 := K162.trans k165 (Grew.ok (S := fun _ => False) gr99 noB_le)
   refine wl_v (.pointer (some ⟨p17, 2, none⟩)) rfl rfl (y_fieldR (n := 3) rfl s141 Tryd.underlying68 rfl (by kernel_rfl) (by decide) rfl ⟨rfl, rfl⟩) ?_
   refine wl_v (.pointer (some ⟨p17, 2, none⟩)) rfl rfl (y_atR (0) (s := 1) rfl rfl rfl (by omega) Tryd.underlying66 (by omega) (by kernel_rfl) (by omega) ⟨rfl, rfl⟩) ?_
   refine wl_set_stc rfl rfl rfl rfl rfl B176 rfl (B166).oneC (by kernel_rfl) fun w179 B180 k181 => ?_
   replace B180 : Stc w179 p17 68 [.int .i64 (((A : Nat) : Int)), .int .i64 (((B : Nat) : Int)), v163, .slice none 0 0, .slice none 0 0] := B180
   have B182 := B174.all k181 (fun i h x => (((ap23).symm) i h x))
   have B183 := B175.all k181 (fun x => (((ap24).symm) p1 rfl x))
   have B185 := B166.all k181 (fun i h x => ((ap172) i h x))
   have K186 := K178.trans k181 (Grew.ok (S := fun _ => False) gr22 noB_le)
   refine wl_nil fun F187 hF188 => ?_
   have s189 := (hF188 2).trans s139
   have s190 := (hF188 6).trans s140
   have s191 := (hF188 7).trans s141
   have s192 := (hF188 8).trans s142
   have s193 := (hF188 9).trans s143
   have s194 := (hF188 72).trans s144
   have s195 := (hF188 10).trans s145
   clear hF188
   refine in_normal ?_
   refine then_normal ?_
   refine wq_region ?_
   refine wl_v (.int .i64 (((i : Nat) : Int))) rfl rfl (y_mov rfl s195 ⟨rfl, rfl⟩) ?_
   refine wl_v (.int .i64 (((i + 1 : Nat) : Int))) rfl rfl (y_add rfl rfl rfl (i64_n (by omega) (by omega)) ⟨rfl, rfl⟩) ?_
   refine wl_v (.int .i64 (((i + 1 : Nat) : Int))) rfl rfl (y_asg rfl rfl ⟨rfl, rfl⟩) ?_
   refine wl_nil fun F196 hF197 => ?_
   have s198 := (hF197 2).trans s189
   have s199 := (hF197 6).trans s190
   have s200 := (hF197 7).trans s191
   have s201 := (hF197 8).trans s192
   have s202 := (hF197 9).trans s193
   have s203 := (hF197 72).trans s194
   have s204 : F196 10 = .int .i64 (((i + 1 : Nat) : Int)) := (hF197 10).trans rfl
   clear hF197
   exact then_normal ⟨((pn N 0) - (i + 1)), by omega, i + 1, (v163), T168, by omega, rfl, s198, s199, s200, s201, s202, s203, s204, K186, B182, B183, B180, (by rw [smps_succ]; exact B185), gr169, ap170, ap171, ap172⟩
  ·replace c135 := of_decide_eq_false c135
   refine wq_skip ?_
   refine then_normal ?_
   have hsm := smp_lt l 0 i
   have hsl := smps_length l 0 i
   have s205 : F124 11 = .int .u8 (((smp l 0 i : Nat) : Int)) := s133.trans (congrArg (Value.int .u8) ((by rw [smp_none (by omega)])))
   refine wq_region ?_
   refine wl_v (.int .i64 (0)) rfl rfl (y_mov rfl s129 ⟨rfl, rfl⟩) ?_
   refine wl_v (.int .i64 (0)) rfl rfl (y_mov rfl s129 ⟨rfl, rfl⟩) ?_
   refine wl_v (.pointer (some ⟨p17, 2, none⟩)) rfl rfl (y_fieldR (n := 3) rfl s128 Tryd.underlying68 rfl (by kernel_rfl) (by decide) rfl ⟨rfl, rfl⟩) ?_
   refine wl_v (.pointer (some ⟨p17, 2, none⟩)) rfl rfl (y_atR (0) (s := 1) rfl rfl rfl (by omega) Tryd.underlying66 (by omega) (by kernel_rfl) (by omega) ⟨rfl, rfl⟩) ?_
   refine wl_v (q0) rfl rfl (y_ld_stc rfl rfl Tryd.underlying28 B97 rfl rfl ⟨rfl, rfl⟩) ?_
   refine wl_v (.int .u8 (((smp l 0 i : Nat) : Int))) rfl rfl (y_mov rfl s205 ⟨rfl, rfl⟩) ?_
   refine wl_builtB1 (n := smp l 0 i) rfl rfl rfl rfl (by omega) (by omega) fun v206 w207 T211 B209 g210 k208 => ?_
   have B217 := B95.all k208 Apart.none
   have B218 := B96.all k208 id
   have B219 := B97.all k208 id
   have B220 := B98.all k208 Apart.none
   have K221 := K85.trans k208 (fun _ _ x => x.elim)
   refine wl_appendB rfl rfl rfl rfl rfl rfl B220 (B209).byt (by first | omega | (simp; done) | (simp; omega)) fun v222 w223 T227 B225 g226 k224 => ?_
   have gr228 := Grew.trans gr99 K221 g226
   have ap229 : Apart T227 (T_b) := (ap100).grew g226 (B217).live
   have ap230 : Apart T227 (onB p1) := (ap101).grew g226 (onB_live (B218).lt)
   have ap231 : Apart T227 (onB p17) := (ap102).grew g226 (onB_live (B219).lt)
   have B233 := B217.all k224 (fun i h x => (((ap100).symm) i h x))
   have B234 := B218.all k224 (fun x => (((ap101).symm) p1 rfl x))
   have B235 := B219.all k224 (fun x => (((ap102).symm) p17 rfl x))
   have K237 := K221.trans k224 (Grew.ok (S := fun _ => False) gr99 noB_le)
   refine wl_v (.pointer (some ⟨p17, 2, none⟩)) rfl rfl (y_fieldR (n := 3) rfl s128 Tryd.underlying68 rfl (by kernel_rfl) (by decide) rfl ⟨rfl, rfl⟩) ?_
   refine wl_v (.pointer (some ⟨p17, 2, none⟩)) rfl rfl (y_atR (0) (s := 1) rfl rfl rfl (by omega) Tryd.underlying66 (by omega) (by kernel_rfl) (by omega) ⟨rfl, rfl⟩) ?_
   refine wl_set_stc rfl rfl rfl rfl rfl B235 rfl (B225).oneC (by kernel_rfl) fun w238 B239 k240 => ?_
   replace B239 : Stc w238 p17 68 [.int .i64 (((A : Nat) : Int)), .int .i64 (((B : Nat) : Int)), v222, .slice none 0 0, .slice none 0 0] := B239
   have B241 := B233.all k240 (fun i h x => (((ap23).symm) i h x))
   have B242 := B234.all k240 (fun x => (((ap24).symm) p1 rfl x))
   have B244 := B225.all k240 (fun i h x => ((ap231) i h x))
   have K245 := K237.trans k240 (Grew.ok (S := fun _ => False) gr22 noB_le)
   refine wl_nil fun F246 hF247 => ?_
   have s248 := (hF247 2).trans s126
   have s249 := (hF247 6).trans s127
   have s250 := (hF247 7).trans s128
   have s251 := (hF247 8).trans s129
   have s252 := (hF247 9).trans s130
   have s253 := (hF247 72).trans s131
   have s254 := (hF247 10).trans s132
   clear hF247
   refine in_normal ?_
   refine then_normal ?_
   refine wq_region ?_
   refine wl_v (.int .i64 (((i : Nat) : Int))) rfl rfl (y_mov rfl s254 ⟨rfl, rfl⟩) ?_
   refine wl_v (.int .i64 (((i + 1 : Nat) : Int))) rfl rfl (y_add rfl rfl rfl (i64_n (by omega) (by omega)) ⟨rfl, rfl⟩) ?_
   refine wl_v (.int .i64 (((i + 1 : Nat) : Int))) rfl rfl (y_asg rfl rfl ⟨rfl, rfl⟩) ?_
   refine wl_nil fun F255 hF256 => ?_
   have s257 := (hF256 2).trans s248
   have s258 := (hF256 6).trans s249
   have s259 := (hF256 7).trans s250
   have s260 := (hF256 8).trans s251
   have s261 := (hF256 9).trans s252
   have s262 := (hF256 72).trans s253
   have s263 : F255 10 = .int .i64 (((i + 1 : Nat) : Int)) := (hF256 10).trans rfl
   clear hF256
   exact then_normal ⟨((pn N 0) - (i + 1)), by omega, i + 1, (v222), T227, by omega, rfl, s257, s258, s259, s260, s261, s262, s263, K245, B241, B242, B239, (by rw [smps_succ]; exact B244), gr228, ap229, ap230, ap231⟩
 ·replace c113 := of_decide_eq_false c113
  refine wq_exit ?_
  refine then_exit ?_
  refine then_exit ?_
  have l264 : (pn N 0) = i := by omega
  subst l264
  refine in_here ?_
  refine in_normal ?_
  refine then_normal ?_
  refine wq_region ?_
  refine wl_v (.int .i64 (0)) rfl rfl (y_mov rfl s108 ⟨rfl, rfl⟩) ?_
  refine wl_v (.int .i64 (((1 : Nat) : Int))) rfl rfl (y_add rfl rfl rfl (i64_n (by omega) (by omega)) ⟨rfl, rfl⟩) ?_
  refine wl_v (.int .i64 (((1 : Nat) : Int))) rfl rfl (y_asg rfl rfl ⟨rfl, rfl⟩) ?_
  refine wl_nil fun F265 hF266 => ?_
  have s267 := (hF266 2).trans s105
  have s268 := (hF266 6).trans s106
  have s269 := (hF266 7).trans s107
  have s270 := (hF266 72).trans s110
  have s271 : F265 8 = .int .i64 (((1 : Nat) : Int)) := (hF266 8).trans rfl
  clear hF266
  refine then_normal ?_
  refine wqr_step ?_
  refine wq_seq ?_
  refine wq_seq ?_
  refine wq_region ?_
  refine wl_v (.int .i64 (((1 : Nat) : Int))) rfl rfl (y_mov rfl s271 ⟨rfl, rfl⟩) ?_
  refine wl_v (.bool true) rfl rfl (y_lss rfl rfl rfl rfl ⟨rfl, rfl⟩) ?_
  refine wl_nil fun F272 hF273 => ?_
  have s274 := (hF273 2).trans s267
  have s275 := (hF273 6).trans s268
  have s276 := (hF273 7).trans s269
  have s277 := (hF273 72).trans s270
  have s278 := (hF273 8).trans s271
  have s279 : F272 24 = .bool true := (hF273 24).trans rfl
  clear hF273
  refine then_normal ?_
  refine wq_cond (t := true) s279 (fun _ => ?_) (fun e => by cases e)
  refine wq_skip ?_
  refine then_normal ?_
  refine wq_seq ?_
  refine wq_block ?_
  refine wq_seq ?_
  refine wq_region ?_
  refine wl_v (.pointer (some ⟨p17, 0, none⟩)) rfl rfl (y_fieldR (n := 1) rfl s276 Tryd.underlying68 rfl (by kernel_rfl) (by decide) rfl ⟨rfl, rfl⟩) ?_
  refine wl_v (.int .i64 (((A : Nat) : Int))) rfl rfl (y_ld_stc rfl rfl Tryd.underlying3 B97 rfl rfl ⟨rfl, rfl⟩) ?_
  refine wl_v (.pointer (some ⟨p17, 1, none⟩)) rfl rfl (y_fieldR (n := 1) rfl s276 Tryd.underlying68 rfl (by kernel_rfl) (by decide) rfl ⟨rfl, rfl⟩) ?_
  refine wl_v (.int .i64 (((B : Nat) : Int))) rfl rfl (y_ld_stc rfl rfl Tryd.underlying3 B97 rfl rfl ⟨rfl, rfl⟩) ?_
  refine wl_v (.int .i64 (((N : Nat) : Int))) rfl rfl (y_mul rfl rfl rfl (i64_n (by rw [hN, Int.natCast_mul]) (by omega)) ⟨rfl, rfl⟩) ?_
  refine wl_v (.int .i64 (((N : Nat) : Int))) rfl rfl (y_asg rfl rfl ⟨rfl, rfl⟩) ?_
  refine wl_nil fun F280 hF281 => ?_
  have s282 := (hF281 2).trans s274
  have s283 := (hF281 6).trans s275
  have s284 := (hF281 7).trans s276
  have s285 := (hF281 72).trans s277
  have s286 := (hF281 8).trans s278
  have s287 : F280 9 = .int .i64 (((N : Nat) : Int)) := (hF281 9).trans rfl
  clear hF281
  refine then_normal ?_
  refine wq_seq ?_
  refine wq_seq ?_
  refine wq_region ?_
  refine wl_v (.int .i64 (((1 : Nat) : Int))) rfl rfl (y_mov rfl s286 ⟨rfl, rfl⟩) ?_
  refine wl_v (.bool true) rfl rfl (y_gtr rfl rfl rfl rfl ⟨rfl, rfl⟩) ?_
  refine wl_nil fun F288 hF289 => ?_
  have s290 := (hF289 2).trans s282
  have s291 := (hF289 6).trans s283
  have s292 := (hF289 7).trans s284
  have s293 := (hF289 72).trans s285
  have s294 := (hF289 8).trans s286
  have s295 := (hF289 9).trans s287
  have s296 : F288 33 = .bool true := (hF289 33).trans rfl
  clear hF289
  refine then_normal ?_
  refine wq_cond (t := true) s296 (fun _ => ?_) (fun e => by cases e)
  refine wq_region ?_
  refine wl_v (.int .i64 (((N : Nat) : Int))) rfl rfl (y_mov rfl s295 ⟨rfl, rfl⟩) ?_
  refine wl_v (.int .i64 ((((N / 4) : Nat) : Int))) rfl rfl (y_quo rfl rfl rfl (by first | decide | omega) (i64_n (quo_nat N 4) (by omega)) ⟨rfl, rfl⟩) ?_
  refine wl_v (.int .i64 ((((N / 4) : Nat) : Int))) rfl rfl (y_asg rfl rfl ⟨rfl, rfl⟩) ?_
  refine wl_nil fun F297 hF298 => ?_
  have s299 := (hF298 2).trans s290
  have s300 := (hF298 6).trans s291
  have s301 := (hF298 7).trans s292
  have s302 := (hF298 72).trans s293
  have s303 := (hF298 8).trans s294
  have s304 : F297 9 = .int .i64 ((((N / 4) : Nat) : Int)) := (hF298 9).trans rfl
  clear hF298
  refine then_normal ?_
  refine wq_seq ?_
  have hpn := pn_le N 1
  have s305 : F297 9 = .int .i64 ((((pn N 1) : Nat) : Int)) := s304.trans (congrArg (Value.int .i64) (rfl))
  refine wq_region ?_
  refine wl_v (.int .i64 (0)) rfl rfl (y_asg rfl rfl ⟨rfl, rfl⟩) ?_
  refine wl_nil fun F306 hF307 => ?_
  have s308 := (hF307 2).trans s299
  have s309 := (hF307 6).trans s300
  have s310 := (hF307 7).trans s301
  have s311 := (hF307 72).trans s302
  have s312 := (hF307 8).trans s303
  have s313 := (hF307 9).trans s305
  have s314 : F306 10 = .int .i64 (0) := (hF307 10).trans rfl
  clear hF307
  refine then_normal ?_
  refine wq_block ?_
  refine wq_loop (fun nn FF ww => ∃ (i : Nat), ∃ (q1 : Value), ∃ (T315 : Nat → Prop), (i ≤ (pn N 1)) ∧ nn = (pn N 1) - i ∧ FF 2 = v ∧ FF 6 = .pointer (some ⟨p1, 0, none⟩) ∧ FF 7 = .pointer (some ⟨p17, 0, none⟩) ∧ FF 8 = .int .i64 (((1 : Nat) : Int)) ∧ FF 9 = .int .i64 ((((pn N 1) : Nat) : Int)) ∧ FF 72 = undef ∧ FF 10 = .int .i64 (((i : Nat) : Int)) ∧ Kept (fun _ => False) w0 ww ∧ Byt ww (T_b) v (l) ∧ Stc ww p1 68 [.int .i64 (0), .int .i64 (0), .slice none 0 0, .slice none 0 0, .slice none 0 0] ∧ Stc ww p17 68 [.int .i64 (((A : Nat) : Int)), .int .i64 (((B : Nat) : Int)), q0, q1, .slice none 0 0] ∧ Owb ww (T82) q0 (smps l 0 (pn N 0)) ∧ Owb ww (T315) q1 (smps l 1 i) ∧ Grew w0 (noB) T315 ∧ Apart (T315) (T_b) ∧ Apart (T315) (onB p1) ∧ Apart (T315) (onB p17) ∧ Apart (T315) (T82)) ((pn N 1) - (0)) ⟨0, (.slice none 0 0), noB, by omega, rfl, s308, s309, s310, s312, s313, s311, s314, K85, B95, B96, B97, B98, (Owb.nil _), (Grew.refl _ _), Apart.none.symm, Apart.none.symm, Apart.none.symm, Apart.none.symm⟩ ?_
  rintro n319 F316 w317 ⟨i, q1, T315, i320, hn319, s321, s322, s323, s324, s325, s326, s327, K318, B328, B329, B330, B331, B332, gr333, ap334, ap335, ap336, ap337⟩
  refine wq_seq ?_
  refine wq_seq ?_
  refine wq_region ?_
  refine wl_v (.int .i64 (((i : Nat) : Int))) rfl rfl (y_mov rfl s327 ⟨rfl, rfl⟩) ?_
  refine wl_v (.int .i64 ((((pn N 1) : Nat) : Int))) rfl rfl (y_mov rfl s325 ⟨rfl, rfl⟩) ?_
  refine wl_v (.bool (decide ((((i : Nat) : Int)) < ((((pn N 1) : Nat) : Int))))) rfl rfl (y_lss rfl rfl rfl rfl ⟨rfl, rfl⟩) ?_
  refine wl_nil fun F338 hF339 => ?_
  have s340 := (hF339 2).trans s321
  have s341 := (hF339 6).trans s322
  have s342 := (hF339 7).trans s323
  have s343 := (hF339 8).trans s324
  have s344 := (hF339 9).trans s325
  have s345 := (hF339 72).trans s326
  have s346 := (hF339 10).trans s327
  have s347 : F338 38 = .bool (decide ((((i : Nat) : Int)) < ((((pn N 1) : Nat) : Int)))) := (hF339 38).trans rfl
  clear hF339
  refine then_normal ?_
  refine wq_cond s347 (fun c348 => ?_) (fun c348 => ?_)
  ·replace c348 := of_decide_eq_true c348
   refine wq_skip ?_
   refine then_normal ?_
   refine wq_seq ?_
   refine wq_block ?_
   refine wq_seq ?_
   refine wq_region ?_
   refine wl_v (.int .i64 (((i : Nat) : Int))) rfl rfl (y_mov rfl s346 ⟨rfl, rfl⟩) ?_
   refine wl_v (.int .i64 (((i * 3 : Nat) : Int))) rfl rfl (y_mul rfl rfl rfl (i64_n (by omega) (by omega)) ⟨rfl, rfl⟩) ?_
   refine wl_v (.int .u8 ((((i * 3 % 256) : Nat) : Int))) rfl rfl (y_convR rfl rfl Tryd.underlying3 Tryd.underlying5 (u8_mod (i * 3)) ⟨rfl, rfl⟩) ?_
   refine wl_v (.int .u8 ((((i * 3 % 256) : Nat) : Int))) rfl rfl (y_asg rfl rfl ⟨rfl, rfl⟩) ?_
   refine wl_nil fun F349 hF350 => ?_
   have s351 := (hF350 2).trans s340
   have s352 := (hF350 6).trans s341
   have s353 := (hF350 7).trans s342
   have s354 := (hF350 8).trans s343
   have s355 := (hF350 9).trans s344
   have s356 := (hF350 72).trans s345
   have s357 := (hF350 10).trans s346
   have s358 : F349 11 = .int .u8 ((((i * 3 % 256) : Nat) : Int)) := (hF350 11).trans rfl
   clear hF350
   refine then_normal ?_
   refine wq_seq ?_
   refine wq_seq ?_
   refine wq_region ?_
   refine wl_v (v) rfl rfl (y_mov rfl s351 ⟨rfl, rfl⟩) ?_
   refine wl_v (.int .i64 ((((l).length : Nat) : Int))) rfl rfl (y_lenV rfl rfl rfl B328 ⟨rfl, rfl⟩) ?_
   refine wl_v (.bool (decide ((0) < ((((l).length : Nat) : Int))))) rfl rfl (y_gtr rfl rfl rfl rfl ⟨rfl, rfl⟩) ?_
   refine wl_nil fun F359 hF360 => ?_
   have s361 := (hF360 2).trans s351
   have s362 := (hF360 6).trans s352
   have s363 := (hF360 7).trans s353
   have s364 := (hF360 8).trans s354
   have s365 := (hF360 9).trans s355
   have s366 := (hF360 72).trans s356
   have s367 := (hF360 10).trans s357
   have s368 := (hF360 11).trans s358
   have s369 : F359 46 = .bool (decide ((0) < ((((l).length : Nat) : Int)))) := (hF360 46).trans rfl
   clear hF360
   refine then_normal ?_
   refine wq_cond s369 (fun c370 => ?_) (fun c370 => ?_)
   ·replace c370 := of_decide_eq_true c370
    refine wq_region ?_
    refine wl_v (v) rfl rfl (y_mov rfl s361 ⟨rfl, rfl⟩) ?_
    refine wl_v (.int .i64 (((i : Nat) : Int))) rfl rfl (y_mov rfl s367 ⟨rfl, rfl⟩) ?_
    refine wl_v (.int .i64 (((1 : Nat) : Int))) rfl rfl (y_mov rfl s364 ⟨rfl, rfl⟩) ?_
    refine wl_v (.int .i64 (((7 : Nat) : Int))) rfl rfl (y_mul rfl rfl rfl (i64_n (by omega) (by omega)) ⟨rfl, rfl⟩) ?_
    refine wl_v (.int .i64 (((i + 7 : Nat) : Int))) rfl rfl (y_add rfl rfl rfl (i64_n (by omega) (by omega)) ⟨rfl, rfl⟩) ?_
    refine wl_v (v) rfl rfl (y_mov rfl s361 ⟨rfl, rfl⟩) ?_
    refine wl_v (.int .i64 ((((l).length : Nat) : Int))) rfl rfl (y_lenV rfl rfl rfl B328 ⟨rfl, rfl⟩) ?_
    refine wl_v (.int .i64 (((((i + 7 * 1) % (l).length) : Nat) : Int))) rfl rfl (y_rem rfl rfl rfl (by first | decide | omega) (rem_nat (i + 7 * 1) (l).length) ⟨rfl, rfl⟩) ?_
    refine wl_v (bytAddr (v) (((i + 7 * 1) % (l).length))) rfl rfl (y_atB (((i + 7 * 1) % (l).length)) rfl rfl rfl (by omega) B328 (Nat.mod_lt _ (by omega)) ⟨rfl, rfl⟩) ?_
    have u371 := getD_lt (B328).lt256 (((i + 7 * 1) % (l).length))
    refine wl_v (.int .u8 ((((l).getD (((i + 7 * 1) % (l).length)) 0 : Nat) : Int))) rfl rfl (y_ldB rfl rfl B328 (Nat.mod_lt _ (by omega)) ⟨rfl, rfl⟩) ?_
    refine wl_v (.int .i64 (((i : Nat) : Int))) rfl rfl (y_mov rfl s367 ⟨rfl, rfl⟩) ?_
    refine wl_v (.int .i64 ((((i / 16) : Nat) : Int))) rfl rfl (y_quo rfl rfl rfl (by first | decide | omega) (i64_n (quo_nat i 16) (by omega)) ⟨rfl, rfl⟩) ?_
    refine wl_v (.int .u8 ((((i / 16) : Nat) : Int))) rfl rfl (y_convR rfl rfl Tryd.underlying3 Tryd.underlying5 (u8_small (by omega)) ⟨rfl, rfl⟩) ?_
    refine wl_v (.int .u8 (((smp l 1 i : Nat) : Int))) rfl rfl (y_add rfl rfl rfl ((by rw [smp_some (by omega)]; exact u8_mod _)) ⟨rfl, rfl⟩) ?_
    refine wl_v (.int .u8 (((smp l 1 i : Nat) : Int))) rfl rfl (y_asg rfl rfl ⟨rfl, rfl⟩) ?_
    refine wl_nil fun F372 hF373 => ?_
    have s374 := (hF373 2).trans s361
    have s375 := (hF373 6).trans s362
    have s376 := (hF373 7).trans s363
    have s377 := (hF373 8).trans s364
    have s378 := (hF373 9).trans s365
    have s379 := (hF373 72).trans s366
    have s380 := (hF373 10).trans s367
    have s381 : F372 11 = .int .u8 (((smp l 1 i : Nat) : Int)) := (hF373 11).trans rfl
    clear hF373
    refine then_normal ?_
    have hsm := smp_lt l 1 i
    have hsl := smps_length l 1 i
    refine wq_region ?_
    refine wl_v (.int .i64 (((1 : Nat) : Int))) rfl rfl (y_mov rfl s377 ⟨rfl, rfl⟩) ?_
    refine wl_v (.int .i64 (((1 : Nat) : Int))) rfl rfl (y_mov rfl s377 ⟨rfl, rfl⟩) ?_
    refine wl_v (.pointer (some ⟨p17, 2, none⟩)) rfl rfl (y_fieldR (n := 3) rfl s376 Tryd.underlying68 rfl (by kernel_rfl) (by decide) rfl ⟨rfl, rfl⟩) ?_
    refine wl_v (.pointer (some ⟨p17, 3, none⟩)) rfl rfl (y_atR (1) (s := 1) rfl rfl rfl (by omega) Tryd.underlying66 (by omega) (by kernel_rfl) (by omega) ⟨rfl, rfl⟩) ?_
    refine wl_v (q1) rfl rfl (y_ld_stc rfl rfl Tryd.underlying28 B330 rfl rfl ⟨rfl, rfl⟩) ?_
    refine wl_v (.int .u8 (((smp l 1 i : Nat) : Int))) rfl rfl (y_mov rfl s381 ⟨rfl, rfl⟩) ?_
    refine wl_builtB1 (n := smp l 1 i) rfl rfl rfl rfl (by omega) (by omega) fun v382 w383 T387 B385 g386 k384 => ?_
    have B394 := B328.all k384 Apart.none
    have B395 := B329.all k384 id
    have B396 := B330.all k384 id
    have B397 := B331.all k384 Apart.none
    have B398 := B332.all k384 Apart.none
    have K399 := K318.trans k384 (fun _ _ x => x.elim)
    refine wl_appendB rfl rfl rfl rfl rfl rfl B398 (B385).byt (by first | omega | (simp; done) | (simp; omega)) fun v400 w401 T405 B403 g404 k402 => ?_
    have gr406 := Grew.trans gr333 K399 g404
    have ap407 : Apart T405 (T_b) := (ap334).grew g404 (B394).live
    have ap408 : Apart T405 (onB p1) := (ap335).grew g404 (onB_live (B395).lt)
    have ap409 : Apart T405 (onB p17) := (ap336).grew g404 (onB_live (B396).lt)
    have ap410 : Apart T405 (T82) := (ap337).grew g404 (B397).live
    have B412 := B394.all k402 (fun i h x => (((ap334).symm) i h x))
    have B413 := B395.all k402 (fun x => (((ap335).symm) p1 rfl x))
    have B414 := B396.all k402 (fun x => (((ap336).symm) p17 rfl x))
    have B415 := B397.all k402 (fun i h x => (((ap337).symm) i h x))
    have K417 := K399.trans k402 (Grew.ok (S := fun _ => False) gr333 noB_le)
    refine wl_v (.pointer (some ⟨p17, 2, none⟩)) rfl rfl (y_fieldR (n := 3) rfl s376 Tryd.underlying68 rfl (by kernel_rfl) (by decide) rfl ⟨rfl, rfl⟩) ?_
    refine wl_v (.pointer (some ⟨p17, 3, none⟩)) rfl rfl (y_atR (1) (s := 1) rfl rfl rfl (by omega) Tryd.underlying66 (by omega) (by kernel_rfl) (by omega) ⟨rfl, rfl⟩) ?_
    refine wl_set_stc rfl rfl rfl rfl rfl B414 rfl (B403).oneC (by kernel_rfl) fun w418 B419 k420 => ?_
    replace B419 : Stc w418 p17 68 [.int .i64 (((A : Nat) : Int)), .int .i64 (((B : Nat) : Int)), q0, v400, .slice none 0 0] := B419
    have B421 := B412.all k420 (fun i h x => (((ap23).symm) i h x))
    have B422 := B413.all k420 (fun x => (((ap24).symm) p1 rfl x))
    have B423 := B415.all k420 (fun i h x => ((ap102) i h x))
    have B425 := B403.all k420 (fun i h x => ((ap409) i h x))
    have K426 := K417.trans k420 (Grew.ok (S := fun _ => False) gr22 noB_le)
    refine wl_nil fun F427 hF428 => ?_
    have s429 := (hF428 2).trans s374
    have s430 := (hF428 6).trans s375
    have s431 := (hF428 7).trans s376
    have s432 := (hF428 8).trans s377
    have s433 := (hF428 9).trans s378
    have s434 := (hF428 72).trans s379
    have s435 := (hF428 10).trans s380
    clear hF428
    refine in_normal ?_
    refine then_normal ?_
    refine wq_region ?_
    refine wl_v (.int .i64 (((i : Nat) : Int))) rfl rfl (y_mov rfl s435 ⟨rfl, rfl⟩) ?_
    refine wl_v (.int .i64 (((i + 1 : Nat) : Int))) rfl rfl (y_add rfl rfl rfl (i64_n (by omega) (by omega)) ⟨rfl, rfl⟩) ?_
    refine wl_v (.int .i64 (((i + 1 : Nat) : Int))) rfl rfl (y_asg rfl rfl ⟨rfl, rfl⟩) ?_
    refine wl_nil fun F436 hF437 => ?_
    have s438 := (hF437 2).trans s429
    have s439 := (hF437 6).trans s430
    have s440 := (hF437 7).trans s431
    have s441 := (hF437 8).trans s432
    have s442 := (hF437 9).trans s433
    have s443 := (hF437 72).trans s434
    have s444 : F436 10 = .int .i64 (((i + 1 : Nat) : Int)) := (hF437 10).trans rfl
    clear hF437
    exact then_normal ⟨((pn N 1) - (i + 1)), by omega, i + 1, (v400), T405, by omega, rfl, s438, s439, s440, s441, s442, s443, s444, K426, B421, B422, B419, B423, (by rw [smps_succ]; exact B425), gr406, ap407, ap408, ap409, ap410⟩
   ·replace c370 := of_decide_eq_false c370
    refine wq_skip ?_
    refine then_normal ?_
    have hsm := smp_lt l 1 i
    have hsl := smps_length l 1 i
    have s445 : F359 11 = .int .u8 (((smp l 1 i : Nat) : Int)) := s368.trans (congrArg (Value.int .u8) ((by rw [smp_none (by omega)])))
    refine wq_region ?_
    refine wl_v (.int .i64 (((1 : Nat) : Int))) rfl rfl (y_mov rfl s364 ⟨rfl, rfl⟩) ?_
    refine wl_v (.int .i64 (((1 : Nat) : Int))) rfl rfl (y_mov rfl s364 ⟨rfl, rfl⟩) ?_
    refine wl_v (.pointer (some ⟨p17, 2, none⟩)) rfl rfl (y_fieldR (n := 3) rfl s363 Tryd.underlying68 rfl (by kernel_rfl) (by decide) rfl ⟨rfl, rfl⟩) ?_
    refine wl_v (.pointer (some ⟨p17, 3, none⟩)) rfl rfl (y_atR (1) (s := 1) rfl rfl rfl (by omega) Tryd.underlying66 (by omega) (by kernel_rfl) (by omega) ⟨rfl, rfl⟩) ?_
    refine wl_v (q1) rfl rfl (y_ld_stc rfl rfl Tryd.underlying28 B330 rfl rfl ⟨rfl, rfl⟩) ?_
    refine wl_v (.int .u8 (((smp l 1 i : Nat) : Int))) rfl rfl (y_mov rfl s445 ⟨rfl, rfl⟩) ?_
    refine wl_builtB1 (n := smp l 1 i) rfl rfl rfl rfl (by omega) (by omega) fun v446 w447 T451 B449 g450 k448 => ?_
    have B458 := B328.all k448 Apart.none
    have B459 := B329.all k448 id
    have B460 := B330.all k448 id
    have B461 := B331.all k448 Apart.none
    have B462 := B332.all k448 Apart.none
    have K463 := K318.trans k448 (fun _ _ x => x.elim)
    refine wl_appendB rfl rfl rfl rfl rfl rfl B462 (B449).byt (by first | omega | (simp; done) | (simp; omega)) fun v464 w465 T469 B467 g468 k466 => ?_
    have gr470 := Grew.trans gr333 K463 g468
    have ap471 : Apart T469 (T_b) := (ap334).grew g468 (B458).live
    have ap472 : Apart T469 (onB p1) := (ap335).grew g468 (onB_live (B459).lt)
    have ap473 : Apart T469 (onB p17) := (ap336).grew g468 (onB_live (B460).lt)
    have ap474 : Apart T469 (T82) := (ap337).grew g468 (B461).live
    have B476 := B458.all k466 (fun i h x => (((ap334).symm) i h x))
    have B477 := B459.all k466 (fun x => (((ap335).symm) p1 rfl x))
    have B478 := B460.all k466 (fun x => (((ap336).symm) p17 rfl x))
    have B479 := B461.all k466 (fun i h x => (((ap337).symm) i h x))
    have K481 := K463.trans k466 (Grew.ok (S := fun _ => False) gr333 noB_le)
    refine wl_v (.pointer (some ⟨p17, 2, none⟩)) rfl rfl (y_fieldR (n := 3) rfl s363 Tryd.underlying68 rfl (by kernel_rfl) (by decide) rfl ⟨rfl, rfl⟩) ?_
    refine wl_v (.pointer (some ⟨p17, 3, none⟩)) rfl rfl (y_atR (1) (s := 1) rfl rfl rfl (by omega) Tryd.underlying66 (by omega) (by kernel_rfl) (by omega) ⟨rfl, rfl⟩) ?_
    refine wl_set_stc rfl rfl rfl rfl rfl B478 rfl (B467).oneC (by kernel_rfl) fun w482 B483 k484 => ?_
    replace B483 : Stc w482 p17 68 [.int .i64 (((A : Nat) : Int)), .int .i64 (((B : Nat) : Int)), q0, v464, .slice none 0 0] := B483
    have B485 := B476.all k484 (fun i h x => (((ap23).symm) i h x))
    have B486 := B477.all k484 (fun x => (((ap24).symm) p1 rfl x))
    have B487 := B479.all k484 (fun i h x => ((ap102) i h x))
    have B489 := B467.all k484 (fun i h x => ((ap473) i h x))
    have K490 := K481.trans k484 (Grew.ok (S := fun _ => False) gr22 noB_le)
    refine wl_nil fun F491 hF492 => ?_
    have s493 := (hF492 2).trans s361
    have s494 := (hF492 6).trans s362
    have s495 := (hF492 7).trans s363
    have s496 := (hF492 8).trans s364
    have s497 := (hF492 9).trans s365
    have s498 := (hF492 72).trans s366
    have s499 := (hF492 10).trans s367
    clear hF492
    refine in_normal ?_
    refine then_normal ?_
    refine wq_region ?_
    refine wl_v (.int .i64 (((i : Nat) : Int))) rfl rfl (y_mov rfl s499 ⟨rfl, rfl⟩) ?_
    refine wl_v (.int .i64 (((i + 1 : Nat) : Int))) rfl rfl (y_add rfl rfl rfl (i64_n (by omega) (by omega)) ⟨rfl, rfl⟩) ?_
    refine wl_v (.int .i64 (((i + 1 : Nat) : Int))) rfl rfl (y_asg rfl rfl ⟨rfl, rfl⟩) ?_
    refine wl_nil fun F500 hF501 => ?_
    have s502 := (hF501 2).trans s493
    have s503 := (hF501 6).trans s494
    have s504 := (hF501 7).trans s495
    have s505 := (hF501 8).trans s496
    have s506 := (hF501 9).trans s497
    have s507 := (hF501 72).trans s498
    have s508 : F500 10 = .int .i64 (((i + 1 : Nat) : Int)) := (hF501 10).trans rfl
    clear hF501
    exact then_normal ⟨((pn N 1) - (i + 1)), by omega, i + 1, (v464), T469, by omega, rfl, s502, s503, s504, s505, s506, s507, s508, K490, B485, B486, B483, B487, (by rw [smps_succ]; exact B489), gr470, ap471, ap472, ap473, ap474⟩
  ·replace c348 := of_decide_eq_false c348
   refine wq_exit ?_
   refine then_exit ?_
   refine then_exit ?_
   have l509 : (pn N 1) = i := by omega
   subst l509
   refine in_here ?_
   refine in_normal ?_
   refine then_normal ?_
   refine wq_region ?_
   refine wl_v (.int .i64 (((1 : Nat) : Int))) rfl rfl (y_mov rfl s343 ⟨rfl, rfl⟩) ?_
   refine wl_v (.int .i64 (((2 : Nat) : Int))) rfl rfl (y_add rfl rfl rfl (i64_n (by omega) (by omega)) ⟨rfl, rfl⟩) ?_
   refine wl_v (.int .i64 (((2 : Nat) : Int))) rfl rfl (y_asg rfl rfl ⟨rfl, rfl⟩) ?_
   refine wl_nil fun F510 hF511 => ?_
   have s512 := (hF511 2).trans s340
   have s513 := (hF511 6).trans s341
   have s514 := (hF511 7).trans s342
   have s515 := (hF511 72).trans s345
   have s516 : F510 8 = .int .i64 (((2 : Nat) : Int)) := (hF511 8).trans rfl
   clear hF511
   refine then_normal ?_
   refine wqr_step ?_
   refine wq_seq ?_
   refine wq_seq ?_
   refine wq_region ?_
   refine wl_v (.int .i64 (((2 : Nat) : Int))) rfl rfl (y_mov rfl s516 ⟨rfl, rfl⟩) ?_
   refine wl_v (.bool true) rfl rfl (y_lss rfl rfl rfl rfl ⟨rfl, rfl⟩) ?_
   refine wl_nil fun F517 hF518 => ?_
   have s519 := (hF518 2).trans s512
   have s520 := (hF518 6).trans s513
   have s521 := (hF518 7).trans s514
   have s522 := (hF518 72).trans s515
   have s523 := (hF518 8).trans s516
   have s524 : F517 24 = .bool true := (hF518 24).trans rfl
   clear hF518
   refine then_normal ?_
   refine wq_cond (t := true) s524 (fun _ => ?_) (fun e => by cases e)
   refine wq_skip ?_
   refine then_normal ?_
   refine wq_seq ?_
   refine wq_block ?_
   refine wq_seq ?_
   refine wq_region ?_
   refine wl_v (.pointer (some ⟨p17, 0, none⟩)) rfl rfl (y_fieldR (n := 1) rfl s521 Tryd.underlying68 rfl (by kernel_rfl) (by decide) rfl ⟨rfl, rfl⟩) ?_
   refine wl_v (.int .i64 (((A : Nat) : Int))) rfl rfl (y_ld_stc rfl rfl Tryd.underlying3 B330 rfl rfl ⟨rfl, rfl⟩) ?_
   refine wl_v (.pointer (some ⟨p17, 1, none⟩)) rfl rfl (y_fieldR (n := 1) rfl s521 Tryd.underlying68 rfl (by kernel_rfl) (by decide) rfl ⟨rfl, rfl⟩) ?_
   refine wl_v (.int .i64 (((B : Nat) : Int))) rfl rfl (y_ld_stc rfl rfl Tryd.underlying3 B330 rfl rfl ⟨rfl, rfl⟩) ?_
   refine wl_v (.int .i64 (((N : Nat) : Int))) rfl rfl (y_mul rfl rfl rfl (i64_n (by rw [hN, Int.natCast_mul]) (by omega)) ⟨rfl, rfl⟩) ?_
   refine wl_v (.int .i64 (((N : Nat) : Int))) rfl rfl (y_asg rfl rfl ⟨rfl, rfl⟩) ?_
   refine wl_nil fun F525 hF526 => ?_
   have s527 := (hF526 2).trans s519
   have s528 := (hF526 6).trans s520
   have s529 := (hF526 7).trans s521
   have s530 := (hF526 72).trans s522
   have s531 := (hF526 8).trans s523
   have s532 : F525 9 = .int .i64 (((N : Nat) : Int)) := (hF526 9).trans rfl
   clear hF526
   refine then_normal ?_
   refine wq_seq ?_
   refine wq_seq ?_
   refine wq_region ?_
   refine wl_v (.int .i64 (((2 : Nat) : Int))) rfl rfl (y_mov rfl s531 ⟨rfl, rfl⟩) ?_
   refine wl_v (.bool true) rfl rfl (y_gtr rfl rfl rfl rfl ⟨rfl, rfl⟩) ?_
   refine wl_nil fun F533 hF534 => ?_
   have s535 := (hF534 2).trans s527
   have s536 := (hF534 6).trans s528
   have s537 := (hF534 7).trans s529
   have s538 := (hF534 72).trans s530
   have s539 := (hF534 8).trans s531
   have s540 := (hF534 9).trans s532
   have s541 : F533 33 = .bool true := (hF534 33).trans rfl
   clear hF534
   refine then_normal ?_
   refine wq_cond (t := true) s541 (fun _ => ?_) (fun e => by cases e)
   refine wq_region ?_
   refine wl_v (.int .i64 (((N : Nat) : Int))) rfl rfl (y_mov rfl s540 ⟨rfl, rfl⟩) ?_
   refine wl_v (.int .i64 ((((N / 4) : Nat) : Int))) rfl rfl (y_quo rfl rfl rfl (by first | decide | omega) (i64_n (quo_nat N 4) (by omega)) ⟨rfl, rfl⟩) ?_
   refine wl_v (.int .i64 ((((N / 4) : Nat) : Int))) rfl rfl (y_asg rfl rfl ⟨rfl, rfl⟩) ?_
   refine wl_nil fun F542 hF543 => ?_
   have s544 := (hF543 2).trans s535
   have s545 := (hF543 6).trans s536
   have s546 := (hF543 7).trans s537
   have s547 := (hF543 72).trans s538
   have s548 := (hF543 8).trans s539
   have s549 : F542 9 = .int .i64 ((((N / 4) : Nat) : Int)) := (hF543 9).trans rfl
   clear hF543
   refine then_normal ?_
   refine wq_seq ?_
   have hpn := pn_le N 2
   have s550 : F542 9 = .int .i64 ((((pn N 2) : Nat) : Int)) := s549.trans (congrArg (Value.int .i64) (rfl))
   refine wq_region ?_
   refine wl_v (.int .i64 (0)) rfl rfl (y_asg rfl rfl ⟨rfl, rfl⟩) ?_
   refine wl_nil fun F551 hF552 => ?_
   have s553 := (hF552 2).trans s544
   have s554 := (hF552 6).trans s545
   have s555 := (hF552 7).trans s546
   have s556 := (hF552 72).trans s547
   have s557 := (hF552 8).trans s548
   have s558 := (hF552 9).trans s550
   have s559 : F551 10 = .int .i64 (0) := (hF552 10).trans rfl
   clear hF552
   refine then_normal ?_
   refine wq_block ?_
   refine wq_loop (fun nn FF ww => ∃ (i : Nat), ∃ (q2 : Value), ∃ (T560 : Nat → Prop), (i ≤ (pn N 2)) ∧ nn = (pn N 2) - i ∧ FF 2 = v ∧ FF 6 = .pointer (some ⟨p1, 0, none⟩) ∧ FF 7 = .pointer (some ⟨p17, 0, none⟩) ∧ FF 8 = .int .i64 (((2 : Nat) : Int)) ∧ FF 9 = .int .i64 ((((pn N 2) : Nat) : Int)) ∧ FF 72 = undef ∧ FF 10 = .int .i64 (((i : Nat) : Int)) ∧ Kept (fun _ => False) w0 ww ∧ Byt ww (T_b) v (l) ∧ Stc ww p1 68 [.int .i64 (0), .int .i64 (0), .slice none 0 0, .slice none 0 0, .slice none 0 0] ∧ Stc ww p17 68 [.int .i64 (((A : Nat) : Int)), .int .i64 (((B : Nat) : Int)), q0, q1, q2] ∧ Owb ww (T82) q0 (smps l 0 (pn N 0)) ∧ Owb ww (T315) q1 (smps l 1 (pn N 1)) ∧ Owb ww (T560) q2 (smps l 2 i) ∧ Grew w0 (noB) T560 ∧ Apart (T560) (T_b) ∧ Apart (T560) (onB p1) ∧ Apart (T560) (onB p17) ∧ Apart (T560) (T82) ∧ Apart (T560) (T315)) ((pn N 2) - (0)) ⟨0, (.slice none 0 0), noB, by omega, rfl, s553, s554, s555, s557, s558, s556, s559, K318, B328, B329, B330, B331, B332, (Owb.nil _), (Grew.refl _ _), Apart.none.symm, Apart.none.symm, Apart.none.symm, Apart.none.symm, Apart.none.symm⟩ ?_
   rintro n564 F561 w562 ⟨i, q2, T560, i565, hn564, s566, s567, s568, s569, s570, s571, s572, K563, B573, B574, B575, B576, B577, B578, gr579, ap580, ap581, ap582, ap583, ap584⟩
   refine wq_seq ?_
   refine wq_seq ?_
   refine wq_region ?_
   refine wl_v (.int .i64 (((i : Nat) : Int))) rfl rfl (y_mov rfl s572 ⟨rfl, rfl⟩) ?_
   refine wl_v (.int .i64 ((((pn N 2) : Nat) : Int))) rfl rfl (y_mov rfl s570 ⟨rfl, rfl⟩) ?_
   refine wl_v (.bool (decide ((((i : Nat) : Int)) < ((((pn N 2) : Nat) : Int))))) rfl rfl (y_lss rfl rfl rfl rfl ⟨rfl, rfl⟩) ?_
   refine wl_nil fun F585 hF586 => ?_
   have s587 := (hF586 2).trans s566
   have s588 := (hF586 6).trans s567
   have s589 := (hF586 7).trans s568
   have s590 := (hF586 8).trans s569
   have s591 := (hF586 9).trans s570
   have s592 := (hF586 72).trans s571
   have s593 := (hF586 10).trans s572
   have s594 : F585 38 = .bool (decide ((((i : Nat) : Int)) < ((((pn N 2) : Nat) : Int)))) := (hF586 38).trans rfl
   clear hF586
   refine then_normal ?_
   refine wq_cond s594 (fun c595 => ?_) (fun c595 => ?_)
   ·replace c595 := of_decide_eq_true c595
    refine wq_skip ?_
    refine then_normal ?_
    refine wq_seq ?_
    refine wq_block ?_
    refine wq_seq ?_
    refine wq_region ?_
    refine wl_v (.int .i64 (((i : Nat) : Int))) rfl rfl (y_mov rfl s593 ⟨rfl, rfl⟩) ?_
    refine wl_v (.int .i64 (((i * 3 : Nat) : Int))) rfl rfl (y_mul rfl rfl rfl (i64_n (by omega) (by omega)) ⟨rfl, rfl⟩) ?_
    refine wl_v (.int .u8 ((((i * 3 % 256) : Nat) : Int))) rfl rfl (y_convR rfl rfl Tryd.underlying3 Tryd.underlying5 (u8_mod (i * 3)) ⟨rfl, rfl⟩) ?_
    refine wl_v (.int .u8 ((((i * 3 % 256) : Nat) : Int))) rfl rfl (y_asg rfl rfl ⟨rfl, rfl⟩) ?_
    refine wl_nil fun F596 hF597 => ?_
    have s598 := (hF597 2).trans s587
    have s599 := (hF597 6).trans s588
    have s600 := (hF597 7).trans s589
    have s601 := (hF597 8).trans s590
    have s602 := (hF597 9).trans s591
    have s603 := (hF597 72).trans s592
    have s604 := (hF597 10).trans s593
    have s605 : F596 11 = .int .u8 ((((i * 3 % 256) : Nat) : Int)) := (hF597 11).trans rfl
    clear hF597
    refine then_normal ?_
    refine wq_seq ?_
    refine wq_seq ?_
    refine wq_region ?_
    refine wl_v (v) rfl rfl (y_mov rfl s598 ⟨rfl, rfl⟩) ?_
    refine wl_v (.int .i64 ((((l).length : Nat) : Int))) rfl rfl (y_lenV rfl rfl rfl B573 ⟨rfl, rfl⟩) ?_
    refine wl_v (.bool (decide ((0) < ((((l).length : Nat) : Int))))) rfl rfl (y_gtr rfl rfl rfl rfl ⟨rfl, rfl⟩) ?_
    refine wl_nil fun F606 hF607 => ?_
    have s608 := (hF607 2).trans s598
    have s609 := (hF607 6).trans s599
    have s610 := (hF607 7).trans s600
    have s611 := (hF607 8).trans s601
    have s612 := (hF607 9).trans s602
    have s613 := (hF607 72).trans s603
    have s614 := (hF607 10).trans s604
    have s615 := (hF607 11).trans s605
    have s616 : F606 46 = .bool (decide ((0) < ((((l).length : Nat) : Int)))) := (hF607 46).trans rfl
    clear hF607
    refine then_normal ?_
    refine wq_cond s616 (fun c617 => ?_) (fun c617 => ?_)
    ·replace c617 := of_decide_eq_true c617
     refine wq_region ?_
     refine wl_v (v) rfl rfl (y_mov rfl s608 ⟨rfl, rfl⟩) ?_
     refine wl_v (.int .i64 (((i : Nat) : Int))) rfl rfl (y_mov rfl s614 ⟨rfl, rfl⟩) ?_
     refine wl_v (.int .i64 (((2 : Nat) : Int))) rfl rfl (y_mov rfl s611 ⟨rfl, rfl⟩) ?_
     refine wl_v (.int .i64 (((14 : Nat) : Int))) rfl rfl (y_mul rfl rfl rfl (i64_n (by omega) (by omega)) ⟨rfl, rfl⟩) ?_
     refine wl_v (.int .i64 (((i + 14 : Nat) : Int))) rfl rfl (y_add rfl rfl rfl (i64_n (by omega) (by omega)) ⟨rfl, rfl⟩) ?_
     refine wl_v (v) rfl rfl (y_mov rfl s608 ⟨rfl, rfl⟩) ?_
     refine wl_v (.int .i64 ((((l).length : Nat) : Int))) rfl rfl (y_lenV rfl rfl rfl B573 ⟨rfl, rfl⟩) ?_
     refine wl_v (.int .i64 (((((i + 7 * 2) % (l).length) : Nat) : Int))) rfl rfl (y_rem rfl rfl rfl (by first | decide | omega) (rem_nat (i + 7 * 2) (l).length) ⟨rfl, rfl⟩) ?_
     refine wl_v (bytAddr (v) (((i + 7 * 2) % (l).length))) rfl rfl (y_atB (((i + 7 * 2) % (l).length)) rfl rfl rfl (by omega) B573 (Nat.mod_lt _ (by omega)) ⟨rfl, rfl⟩) ?_
     have u618 := getD_lt (B573).lt256 (((i + 7 * 2) % (l).length))
     refine wl_v (.int .u8 ((((l).getD (((i + 7 * 2) % (l).length)) 0 : Nat) : Int))) rfl rfl (y_ldB rfl rfl B573 (Nat.mod_lt _ (by omega)) ⟨rfl, rfl⟩) ?_
     refine wl_v (.int .i64 (((i : Nat) : Int))) rfl rfl (y_mov rfl s614 ⟨rfl, rfl⟩) ?_
     refine wl_v (.int .i64 ((((i / 16) : Nat) : Int))) rfl rfl (y_quo rfl rfl rfl (by first | decide | omega) (i64_n (quo_nat i 16) (by omega)) ⟨rfl, rfl⟩) ?_
     refine wl_v (.int .u8 ((((i / 16) : Nat) : Int))) rfl rfl (y_convR rfl rfl Tryd.underlying3 Tryd.underlying5 (u8_small (by omega)) ⟨rfl, rfl⟩) ?_
     refine wl_v (.int .u8 (((smp l 2 i : Nat) : Int))) rfl rfl (y_add rfl rfl rfl ((by rw [smp_some (by omega)]; exact u8_mod _)) ⟨rfl, rfl⟩) ?_
     refine wl_v (.int .u8 (((smp l 2 i : Nat) : Int))) rfl rfl (y_asg rfl rfl ⟨rfl, rfl⟩) ?_
     refine wl_nil fun F619 hF620 => ?_
     have s621 := (hF620 2).trans s608
     have s622 := (hF620 6).trans s609
     have s623 := (hF620 7).trans s610
     have s624 := (hF620 8).trans s611
     have s625 := (hF620 9).trans s612
     have s626 := (hF620 72).trans s613
     have s627 := (hF620 10).trans s614
     have s628 : F619 11 = .int .u8 (((smp l 2 i : Nat) : Int)) := (hF620 11).trans rfl
     clear hF620
     refine then_normal ?_
     have hsm := smp_lt l 2 i
     have hsl := smps_length l 2 i
     refine wq_region ?_
     refine wl_v (.int .i64 (((2 : Nat) : Int))) rfl rfl (y_mov rfl s624 ⟨rfl, rfl⟩) ?_
     refine wl_v (.int .i64 (((2 : Nat) : Int))) rfl rfl (y_mov rfl s624 ⟨rfl, rfl⟩) ?_
     refine wl_v (.pointer (some ⟨p17, 2, none⟩)) rfl rfl (y_fieldR (n := 3) rfl s623 Tryd.underlying68 rfl (by kernel_rfl) (by decide) rfl ⟨rfl, rfl⟩) ?_
     refine wl_v (.pointer (some ⟨p17, 4, none⟩)) rfl rfl (y_atR (2) (s := 1) rfl rfl rfl (by omega) Tryd.underlying66 (by omega) (by kernel_rfl) (by omega) ⟨rfl, rfl⟩) ?_
     refine wl_v (q2) rfl rfl (y_ld_stc rfl rfl Tryd.underlying28 B575 rfl rfl ⟨rfl, rfl⟩) ?_
     refine wl_v (.int .u8 (((smp l 2 i : Nat) : Int))) rfl rfl (y_mov rfl s628 ⟨rfl, rfl⟩) ?_
     refine wl_builtB1 (n := smp l 2 i) rfl rfl rfl rfl (by omega) (by omega) fun v629 w630 T634 B632 g633 k631 => ?_
     have B642 := B573.all k631 Apart.none
     have B643 := B574.all k631 id
     have B644 := B575.all k631 id
     have B645 := B576.all k631 Apart.none
     have B646 := B577.all k631 Apart.none
     have B647 := B578.all k631 Apart.none
     have K648 := K563.trans k631 (fun _ _ x => x.elim)
     refine wl_appendB rfl rfl rfl rfl rfl rfl B647 (B632).byt (by first | omega | (simp; done) | (simp; omega)) fun v649 w650 T654 B652 g653 k651 => ?_
     have gr655 := Grew.trans gr579 K648 g653
     have ap656 : Apart T654 (T_b) := (ap580).grew g653 (B642).live
     have ap657 : Apart T654 (onB p1) := (ap581).grew g653 (onB_live (B643).lt)
     have ap658 : Apart T654 (onB p17) := (ap582).grew g653 (onB_live (B644).lt)
     have ap659 : Apart T654 (T82) := (ap583).grew g653 (B645).live
     have ap660 : Apart T654 (T315) := (ap584).grew g653 (B646).live
     have B662 := B642.all k651 (fun i h x => (((ap580).symm) i h x))
     have B663 := B643.all k651 (fun x => (((ap581).symm) p1 rfl x))
     have B664 := B644.all k651 (fun x => (((ap582).symm) p17 rfl x))
     have B665 := B645.all k651 (fun i h x => (((ap583).symm) i h x))
     have B666 := B646.all k651 (fun i h x => (((ap584).symm) i h x))
     have K668 := K648.trans k651 (Grew.ok (S := fun _ => False) gr579 noB_le)
     refine wl_v (.pointer (some ⟨p17, 2, none⟩)) rfl rfl (y_fieldR (n := 3) rfl s623 Tryd.underlying68 rfl (by kernel_rfl) (by decide) rfl ⟨rfl, rfl⟩) ?_
     refine wl_v (.pointer (some ⟨p17, 4, none⟩)) rfl rfl (y_atR (2) (s := 1) rfl rfl rfl (by omega) Tryd.underlying66 (by omega) (by kernel_rfl) (by omega) ⟨rfl, rfl⟩) ?_
     refine wl_set_stc rfl rfl rfl rfl rfl B664 rfl (B652).oneC (by kernel_rfl) fun w669 B670 k671 => ?_
     replace B670 : Stc w669 p17 68 [.int .i64 (((A : Nat) : Int)), .int .i64 (((B : Nat) : Int)), q0, q1, v649] := B670
     have B672 := B662.all k671 (fun i h x => (((ap23).symm) i h x))
     have B673 := B663.all k671 (fun x => (((ap24).symm) p1 rfl x))
     have B674 := B665.all k671 (fun i h x => ((ap102) i h x))
     have B675 := B666.all k671 (fun i h x => ((ap336) i h x))
     have B677 := B652.all k671 (fun i h x => ((ap658) i h x))
     have K678 := K668.trans k671 (Grew.ok (S := fun _ => False) gr22 noB_le)
     refine wl_nil fun F679 hF680 => ?_
     have s681 := (hF680 2).trans s621
     have s682 := (hF680 6).trans s622
     have s683 := (hF680 7).trans s623
     have s684 := (hF680 8).trans s624
     have s685 := (hF680 9).trans s625
     have s686 := (hF680 72).trans s626
     have s687 := (hF680 10).trans s627
     clear hF680
     refine in_normal ?_
     refine then_normal ?_
     refine wq_region ?_
     refine wl_v (.int .i64 (((i : Nat) : Int))) rfl rfl (y_mov rfl s687 ⟨rfl, rfl⟩) ?_
     refine wl_v (.int .i64 (((i + 1 : Nat) : Int))) rfl rfl (y_add rfl rfl rfl (i64_n (by omega) (by omega)) ⟨rfl, rfl⟩) ?_
     refine wl_v (.int .i64 (((i + 1 : Nat) : Int))) rfl rfl (y_asg rfl rfl ⟨rfl, rfl⟩) ?_
     refine wl_nil fun F688 hF689 => ?_
     have s690 := (hF689 2).trans s681
     have s691 := (hF689 6).trans s682
     have s692 := (hF689 7).trans s683
     have s693 := (hF689 8).trans s684
     have s694 := (hF689 9).trans s685
     have s695 := (hF689 72).trans s686
     have s696 : F688 10 = .int .i64 (((i + 1 : Nat) : Int)) := (hF689 10).trans rfl
     clear hF689
     exact then_normal ⟨((pn N 2) - (i + 1)), by omega, i + 1, (v649), T654, by omega, rfl, s690, s691, s692, s693, s694, s695, s696, K678, B672, B673, B670, B674, B675, (by rw [smps_succ]; exact B677), gr655, ap656, ap657, ap658, ap659, ap660⟩
    ·replace c617 := of_decide_eq_false c617
     refine wq_skip ?_
     refine then_normal ?_
     have hsm := smp_lt l 2 i
     have hsl := smps_length l 2 i
     have s697 : F606 11 = .int .u8 (((smp l 2 i : Nat) : Int)) := s615.trans (congrArg (Value.int .u8) ((by rw [smp_none (by omega)])))
     refine wq_region ?_
     refine wl_v (.int .i64 (((2 : Nat) : Int))) rfl rfl (y_mov rfl s611 ⟨rfl, rfl⟩) ?_
     refine wl_v (.int .i64 (((2 : Nat) : Int))) rfl rfl (y_mov rfl s611 ⟨rfl, rfl⟩) ?_
     refine wl_v (.pointer (some ⟨p17, 2, none⟩)) rfl rfl (y_fieldR (n := 3) rfl s610 Tryd.underlying68 rfl (by kernel_rfl) (by decide) rfl ⟨rfl, rfl⟩) ?_
     refine wl_v (.pointer (some ⟨p17, 4, none⟩)) rfl rfl (y_atR (2) (s := 1) rfl rfl rfl (by omega) Tryd.underlying66 (by omega) (by kernel_rfl) (by omega) ⟨rfl, rfl⟩) ?_
     refine wl_v (q2) rfl rfl (y_ld_stc rfl rfl Tryd.underlying28 B575 rfl rfl ⟨rfl, rfl⟩) ?_
     refine wl_v (.int .u8 (((smp l 2 i : Nat) : Int))) rfl rfl (y_mov rfl s697 ⟨rfl, rfl⟩) ?_
     refine wl_builtB1 (n := smp l 2 i) rfl rfl rfl rfl (by omega) (by omega) fun v698 w699 T703 B701 g702 k700 => ?_
     have B711 := B573.all k700 Apart.none
     have B712 := B574.all k700 id
     have B713 := B575.all k700 id
     have B714 := B576.all k700 Apart.none
     have B715 := B577.all k700 Apart.none
     have B716 := B578.all k700 Apart.none
     have K717 := K563.trans k700 (fun _ _ x => x.elim)
     refine wl_appendB rfl rfl rfl rfl rfl rfl B716 (B701).byt (by first | omega | (simp; done) | (simp; omega)) fun v718 w719 T723 B721 g722 k720 => ?_
     have gr724 := Grew.trans gr579 K717 g722
     have ap725 : Apart T723 (T_b) := (ap580).grew g722 (B711).live
     have ap726 : Apart T723 (onB p1) := (ap581).grew g722 (onB_live (B712).lt)
     have ap727 : Apart T723 (onB p17) := (ap582).grew g722 (onB_live (B713).lt)
     have ap728 : Apart T723 (T82) := (ap583).grew g722 (B714).live
     have ap729 : Apart T723 (T315) := (ap584).grew g722 (B715).live
     have B731 := B711.all k720 (fun i h x => (((ap580).symm) i h x))
     have B732 := B712.all k720 (fun x => (((ap581).symm) p1 rfl x))
     have B733 := B713.all k720 (fun x => (((ap582).symm) p17 rfl x))
     have B734 := B714.all k720 (fun i h x => (((ap583).symm) i h x))
     have B735 := B715.all k720 (fun i h x => (((ap584).symm) i h x))
     have K737 := K717.trans k720 (Grew.ok (S := fun _ => False) gr579 noB_le)
     refine wl_v (.pointer (some ⟨p17, 2, none⟩)) rfl rfl (y_fieldR (n := 3) rfl s610 Tryd.underlying68 rfl (by kernel_rfl) (by decide) rfl ⟨rfl, rfl⟩) ?_
     refine wl_v (.pointer (some ⟨p17, 4, none⟩)) rfl rfl (y_atR (2) (s := 1) rfl rfl rfl (by omega) Tryd.underlying66 (by omega) (by kernel_rfl) (by omega) ⟨rfl, rfl⟩) ?_
     refine wl_set_stc rfl rfl rfl rfl rfl B733 rfl (B721).oneC (by kernel_rfl) fun w738 B739 k740 => ?_
     replace B739 : Stc w738 p17 68 [.int .i64 (((A : Nat) : Int)), .int .i64 (((B : Nat) : Int)), q0, q1, v718] := B739
     have B741 := B731.all k740 (fun i h x => (((ap23).symm) i h x))
     have B742 := B732.all k740 (fun x => (((ap24).symm) p1 rfl x))
     have B743 := B734.all k740 (fun i h x => ((ap102) i h x))
     have B744 := B735.all k740 (fun i h x => ((ap336) i h x))
     have B746 := B721.all k740 (fun i h x => ((ap727) i h x))
     have K747 := K737.trans k740 (Grew.ok (S := fun _ => False) gr22 noB_le)
     refine wl_nil fun F748 hF749 => ?_
     have s750 := (hF749 2).trans s608
     have s751 := (hF749 6).trans s609
     have s752 := (hF749 7).trans s610
     have s753 := (hF749 8).trans s611
     have s754 := (hF749 9).trans s612
     have s755 := (hF749 72).trans s613
     have s756 := (hF749 10).trans s614
     clear hF749
     refine in_normal ?_
     refine then_normal ?_
     refine wq_region ?_
     refine wl_v (.int .i64 (((i : Nat) : Int))) rfl rfl (y_mov rfl s756 ⟨rfl, rfl⟩) ?_
     refine wl_v (.int .i64 (((i + 1 : Nat) : Int))) rfl rfl (y_add rfl rfl rfl (i64_n (by omega) (by omega)) ⟨rfl, rfl⟩) ?_
     refine wl_v (.int .i64 (((i + 1 : Nat) : Int))) rfl rfl (y_asg rfl rfl ⟨rfl, rfl⟩) ?_
     refine wl_nil fun F757 hF758 => ?_
     have s759 := (hF758 2).trans s750
     have s760 := (hF758 6).trans s751
     have s761 := (hF758 7).trans s752
     have s762 := (hF758 8).trans s753
     have s763 := (hF758 9).trans s754
     have s764 := (hF758 72).trans s755
     have s765 : F757 10 = .int .i64 (((i + 1 : Nat) : Int)) := (hF758 10).trans rfl
     clear hF758
     exact then_normal ⟨((pn N 2) - (i + 1)), by omega, i + 1, (v718), T723, by omega, rfl, s759, s760, s761, s762, s763, s764, s765, K747, B741, B742, B739, B743, B744, (by rw [smps_succ]; exact B746), gr724, ap725, ap726, ap727, ap728, ap729⟩
   ·replace c595 := of_decide_eq_false c595
    refine wq_exit ?_
    refine then_exit ?_
    refine then_exit ?_
    have l766 : (pn N 2) = i := by omega
    subst l766
    refine in_here ?_
    refine in_normal ?_
    refine then_normal ?_
    refine wq_region ?_
    refine wl_v (.int .i64 (((2 : Nat) : Int))) rfl rfl (y_mov rfl s590 ⟨rfl, rfl⟩) ?_
    refine wl_v (.int .i64 (((3 : Nat) : Int))) rfl rfl (y_add rfl rfl rfl (i64_n (by omega) (by omega)) ⟨rfl, rfl⟩) ?_
    refine wl_v (.int .i64 (((3 : Nat) : Int))) rfl rfl (y_asg rfl rfl ⟨rfl, rfl⟩) ?_
    refine wl_nil fun F767 hF768 => ?_
    have s770 := (hF768 6).trans s588
    have s771 := (hF768 7).trans s589
    have s772 := (hF768 72).trans s592
    have s773 : F767 8 = .int .i64 (((3 : Nat) : Int)) := (hF768 8).trans rfl
    clear hF768
    refine then_normal ?_
    refine wqr_step ?_
    refine wq_seq ?_
    refine wq_seq ?_
    refine wq_region ?_
    refine wl_v (.int .i64 (((3 : Nat) : Int))) rfl rfl (y_mov rfl s773 ⟨rfl, rfl⟩) ?_
    refine wl_v (.bool false) rfl rfl (y_lss rfl rfl rfl rfl ⟨rfl, rfl⟩) ?_
    refine wl_nil fun F774 hF775 => ?_
    have s777 := (hF775 6).trans s770
    have s778 := (hF775 7).trans s771
    have s779 := (hF775 72).trans s772
    have s781 : F774 24 = .bool false := (hF775 24).trans rfl
    clear hF775
    refine then_normal ?_
    refine wq_cond (t := false) s781 (fun e => by cases e) (fun _ => ?_)
    refine wq_exit ?_
    refine then_exit ?_
    refine then_exit ?_
    refine in_here ?_
    refine then_normal ?_
    refine wq_seq ?_
    refine wq_region ?_
    refine wl_v (.agg #[.int .i64 (((A : Nat) : Int)), .int .i64 (((B : Nat) : Int)), q0, q1, q2]) rfl rfl (y_load_stc stcT_frame rfl s778 B575 ⟨rfl, rfl⟩) ?_
    refine wl_store_stc (us := [.int .i64 (((A : Nat) : Int)), .int .i64 (((B : Nat) : Int)), q0, q1, q2]) stcT_frame rfl rfl rfl s777 rfl B574 rfl (oneI rfl (oneI rfl (oneI (B576).one (oneI (B577).one (oneI (B578).one oneN))))) fun w782 B783 k784 => ?_
    have B787 := B576.all k784 (fun i h x => ((ap101) i h x))
    have B788 := B577.all k784 (fun i h x => ((ap335) i h x))
    have B789 := B578.all k784 (fun i h x => ((ap581) i h x))
    have K790 := K563.trans k784 (Grew.ok (S := fun _ => False) gr6 noB_le)
    refine wl_nil fun F791 hF792 => ?_
    have s793 := (hF792 6).trans s777
    have s794 := (hF792 72).trans s779
    clear hF792
    refine then_normal ?_
    refine wq_ret ?_
    exact end_stc (vs := [.int .i64 (((A : Nat) : Int)), .int .i64 (((B : Nat) : Int)), q0, q1, q2]) stcT_frame s794 rfl rfl s793 B783 ⟨q0, T82, q1, T315, q2, T560, (by rw [hF]), K790, ⟨(by rw [hF]; exact B787), gr99⟩, ⟨(by rw [hF]; exact B788), gr333⟩, ⟨(by rw [hF]; exact B789), gr579⟩, (ap337).symm, (ap583).symm, (ap584).symm⟩
end Go.Proofs.YtdcbabgcbkdlhaaDoor
set_option maxRecDepth 100000
namespace Go.Proofs.YtdcbabgcbkdlhaaDoor
open Go.RowKit

/-- A part of a slice of bytes: from l, up to h, its room up to m. -/
def subV (v : Value) (l h m : Nat) : Value := match v with
  | .slice a _ _ => .slice (if m = l then a else a.map (·.add l)) (h - l) (m - l)
  | _ => undef
def capV : Value → Nat
  | .slice _ _ c => c
  | _ => 0
theorem Byt.cap {w : World} {T : Nat → Prop} {v : Value} {l : List Nat} (h : Byt w T v l) : l.length ≤ capV v ∧ capV v ≤ maxLen := by
  obtain ⟨⟨a, cap, rfl, h1, h2, _⟩, _⟩ := h; exact ⟨h1, h2⟩
theorem Byt.sub {w : World} {T : Nat → Prop} {v : Value} {l : List Nat} (hb : Byt w T v l) {i j m : Nat} (h1 : i ≤ j) (h2 : j ≤ m) (h3 : j ≤ l.length) (h4 : m ≤ capV v) : Byt w T (subV v i j m) ((l.drop i).take (j - i)) := by
  have hc := hb.cap
  obtain ⟨hB, hL, hT⟩ := hb
  obtain ⟨a, cap, rfl, k1, k2, k3, k4, k5⟩ := hB
  have hB : BytesArg w (.slice a l.length cap) l := ⟨a, cap, rfl, k1, k2, k3, k4, k5⟩
  have hm : m ≤ cap := h4
  refine ⟨hB.cut i j (m - i) h1 h3 (by omega) (by omega) (if m = i then a else a.map (fun z : Addr => z.add i)) (fun hp => by rw [if_neg (by omega)]) (fun h0 => ?_), hL, fun hp a' n c e => ?_⟩
  · split at h0
    · omega
    · have : a = none := by cases a <;> simp_all
      have := k3 this; omega
  · have hlen : 0 < j - i := by
      have : ((l.drop i).take (j - i)).length = j - i := by simp; omega
      omega
    simp only [subV] at e
    rw [if_neg (by omega)] at e
    cases a with
    | none => simp at e
    | some a0 =>
      simp at e
      obtain ⟨e1, _, _⟩ := e
      have hblk : a'.block = a0.block := by rw [← e1]; unfold Addr.add; split <;> rfl
      rw [hblk]
      exact hT (by omega) a0 _ _ rfl
theorem sub_addr {w : World} {T : Nat → Prop} {v : Value} {l : List Nat} (hb : Byt w T v l) {i j m : Nat} (t : Nat) (h2 : j ≤ m) (h3 : j ≤ l.length) (ht : t < j - i) : bytAddr (subV v i j m) t = bytAddr v (i + t) := by
  obtain ⟨⟨a, cap, rfl, _, _, _, _, k5⟩, _⟩ := hb
  obtain ⟨b, off, rfl, _, _⟩ := k5 (by omega)
  simp only [subV, bytAddr]
  rw [if_neg (by omega)]
  simp [Addr.add_lit, Nat.add_assoc]
section
variable {ρ : Operand → Value} {o : Oper} {w : World} {R : Value → World → Prop}
theorem y_cut3 {x lo hi mx : Operand} {T : Nat → Prop} {v : Value} {l : List Nat} {kl kh km : IntKind} (i j m : Nat) {il ih im : Int} (ho : o.op = .slice 28 x (some lo) (some hi) (some mx)) (hx : ρ x = v) (hl : ρ lo = .int kl il) (hh : ρ hi = .int kh ih) (hm : ρ mx = .int km im) (e1 : il = (i : Int)) (e2 : ih = (j : Int)) (e3 : im = (m : Int)) (hb : Byt w T v l) (h1 : i ≤ j) (h2 : j ≤ m) (h3 : m ≤ l.length) (h : R (subV v i j m) w) : Yields Tryd.prog ρ o w R := by
  subst e1; subst e2; subst e3
  have hc := hb.cap
  obtain ⟨⟨a, cap, rfl, k1, _⟩, _⟩ := hb
  obtain ⟨i0, hi0, hz0, hz1, hz2⟩ := info_parts Tryd.info_u8
  have hmc : m ≤ cap := by omega
  refine y_val (v := subV (.slice a l.length cap) i j m) (w' := w) ?_ h
  have b1 : (Instr.sliceBounds true l.length cap (some (.int kl (i : Int))) (some (.int kh (j : Int))) (some (.int km (m : Int)))).run Tryd.prog w = .ok (i, j, m) w := by
    simp [Instr.sliceBounds, Instr.sliceBound, asIntOf, hmc, h1, h2]
  simp [execOp, ho, hx, hl, hh, hm, Instr.sliceAt, Instr.slice, run_underlying Tryd.underlying28, b1, sizeOf, typeInfo, hi0, hz1, subV]
theorem y_atS {x ix : Operand} {T : Nat → Prop} {v : Value} {l : List Nat} {k : IntKind} {i j m : Nat} (t : Nat) {it : Int} (ho : o.op = .indexAddr 28 x ix) (hx : ρ x = subV v i j m) (hi : ρ ix = .int k it) (hij : it = (t : Int)) (hb : Byt w T v l) (h1 : i ≤ j) (h2 : j ≤ m) (h3 : j ≤ l.length) (h4 : m ≤ capV v) (ht : t < j - i) (h : R (bytAddr v (i + t)) w) : Yields Tryd.prog ρ o w R := by
  have hl : ((l.drop i).take (j - i)).length = j - i := by simp; omega
  refine y_atB t ho hx hi hij (hb.sub h1 h2 h3 h4) (by rw [hl]; exact ht) ?_
  rw [sub_addr hb t h2 h3 ht]; exact h
end
end Go.Proofs.YtdcbabgcbkdlhaaDoor
set_option maxRecDepth 100000
namespace Go.Proofs.YtdcbabgcbkdlhaaDoor
open Go.RowKit

section
variable {ρ : Operand → Value} {o : Oper} {w : World} {R : Value → World → Prop}
theorem y_ldPl {t : TypeId} {x : Operand} {p k : Nat} {vs : List Value} {a b c : Value} (ho : o.op = .load 66 x) (hx : ρ x = .pointer (some ⟨p, k, none⟩)) (hB : Stc w p t vs) (h0 : vs[k]? = some a) (h1 : vs[k + 1]? = some b) (h2 : vs[k + 2]? = some c) (h : R (.agg #[a, b, c]) w) : Yields Tryd.prog ρ o w R := by
  have hr : w.rangeAt p k [a, b, c] := by
    intro j v hj
    match j, hj with
    | 0, hj => obtain rfl : a = v := by simpa using hj
               exact hB.cell h0
    | 1, hj => obtain rfl : b = v := by simpa using hj
               exact hB.cell h1
    | 2, hj => obtain rfl : c = v := by simpa using hj
               exact hB.cell h2
    | n + 3, hj => simp at hj
  refine y_val (v := .agg #[a, b, c]) (w' := w) ?_ h
  simp only [execOp, ho, hx, Sem.run_bind, run_loadAt_mid w p k 66 [a, b, c] _ hr Tryd.underlying66 rfl (by kernel_rfl), Result.andThen_ok, Sem.run_pure]
theorem y_ixPl {x y : Operand} {k : IntKind} {cs : Array Value} {v : Value} (j : Nat) (ho : o.op = .index 66 x y) (hx : ρ x = .agg cs) (hy : ρ y = .int k (j : Int)) (hj : j < 3) (hv : cs[j]? = some v) (h : R v w) : Yields Tryd.prog ρ o w R := by
  have hs : (Tryd.prog.info? 28).map (·.size) = some 1 := by kernel_rfl
  cases hq : Tryd.prog.info? 28 with
  | none => simp [hq] at hs
  | some i =>
    have hs' : i.size = 1 := by simpa [hq] using hs
    have hp : (part 28 cs j).run Tryd.prog w = .ok v w := by simp [part, isAgg, run_underlying Tryd.underlying28, hv]
    have h1 : (0 : Int) ≤ (j : Int) := by omega
    have h2 : (j : Int) < 3 := by omega
    exact y_val (v := v) (w' := w) (by simp [execOp, ho, hx, hy, Instr.index, run_underlying Tryd.underlying66, asIntOf, sizeOf, typeInfo, hq, hs', hj, hp]) h
end


def arrV (p k : Nat) : Value := .slice (some (if 4 = k then ⟨p, 0, none⟩ else ⟨p, k, none⟩)) (4 - k) (4 - k)
theorem Stc.bytes {w : World} {p t : Nat} {a b c d : Nat} (h : Stc w p t [.int .u8 (a : Int), .int .u8 (b : Int), .int .u8 (c : Int), .int .u8 (d : Int)]) (ha : a < 256) (hb : b < 256) (hc : c < 256) (hd : d < 256) {k : Nat} (hk : k ≤ 4) : Byt w (onB p) (arrV p k) ([a, b, c, d].drop k) := by
  have hl : ([a, b, c, d].drop k).length = 4 - k := by simp
  refine ⟨⟨some (if 4 = k then ⟨p, 0, none⟩ else ⟨p, k, none⟩), 4 - k, by rw [hl]; rfl, by omega, Nat.le_trans (Nat.sub_le 4 k) (by decide), (fun e => by cases e), ?_, fun hp => ⟨p, k, by rw [if_neg (by omega)], h.lt, fun i hi => ?_⟩⟩, onB_live h.lt, fun _ a' n c' e => ?_⟩
  · intro x hx
    have := List.mem_of_mem_drop hx
    simp at this
    omega
  · rw [hl] at hi
    have hc := h.cell (i := k + i) (v := .int .u8 (([a, b, c, d].drop k).getD i 0 : Nat)) (by
      have : k = 0 ∨ k = 1 ∨ k = 2 ∨ k = 3 := by omega
      have hi4 : i = 0 ∨ i = 1 ∨ i = 2 ∨ i = 3 := by omega
      rcases this with rfl | rfl | rfl | rfl <;> rcases hi4 with rfl | rfl | rfl | rfl <;> first | rfl | omega)
    exact hc
  · unfold arrV at e
    simp only [Value.slice.injEq, Option.some.injEq] at e
    rw [← e.1]
    split <;> rfl

end Go.Proofs.YtdcbabgcbkdlhaaDoor
