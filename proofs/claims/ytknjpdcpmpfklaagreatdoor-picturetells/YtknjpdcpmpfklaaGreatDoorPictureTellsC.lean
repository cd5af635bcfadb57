/- What PictureTells reaches of my texts, part 3. -/
import Derived.Test.YtknjpdcpmpfklaaGreatDoorPictureTellsB
set_option maxRecDepth 100000
set_option maxHeartbeats 4000000
set_option maxRecDepth 100000
namespace Go.Proofs.YtknjpdcpmpfklaaGreatDoor
open Go.RowKit
def upL (L : Nat → Bool) (i : Nat) : Nat → Bool := fun j => if j = i then true else L j
def upV (v : Nat → Value) (i : Nat) (x : Value) : Nat → Value := fun j => if j = i then x else v j
def late (os : List Oper) (t : Tmp) (i : Nat) : Bool := os.all fun o => o.dst != some t || o.after.toList.any fun e => Region.binds .any e && e.on == i
def StepJ (os : List Oper) (P : Program) (D : List (Option Tmp)) (J : (Nat → Bool) → (Nat → Value) → World → Prop) (a0 : Act) (i : Nat) (o : Oper) : Prop :=
  ∀ (L : Nat → Bool) (v : Nat → Value) (a : Act) (w : World), J L v w → L i = false → (∀ e ∈ o.after.toList, Region.binds .any e = true → L e.on = true) →
    (∀ t, some t ∉ D → a.eval (.tmp t) = a0.eval (.tmp t)) → (∀ j d, L j = true → D[j]? = some (some d) → a.eval (.tmp d) = v j) → (∀ t, late os t i = true → a.eval (.tmp t) = a0.eval (.tmp t)) →
    (goes D o a = true → Yields P a.eval o w (fun x w' => J (upL L i) (upV v i x) w')) ∧ (goes D o a = false → J (upL L i) (upV v i undef) w)
def StepsJ (os : List Oper) (P : Program) (D : List (Option Tmp)) (J : (Nat → Bool) → (Nat → Value) → World → Prop) (a0 : Act) : Nat → List Oper → Prop
  | _, [] => True
  | i, o :: r => StepJ os P D J a0 i o ∧ StepsJ os P D J a0 (i + 1) r
theorem StepsJ.at {all : List Oper} {P : Program} {D : List (Option Tmp)} {J : (Nat → Bool) → (Nat → Value) → World → Prop} {a0 : Act} : ∀ {i : Nat} {os : List Oper}, StepsJ all P D J a0 i os → ∀ k o, os[k]? = some o → StepJ all P D J a0 (i + k) o := by
  intro i os
  induction os generalizing i with
  | nil => intro _ k o h; simp at h
  | cons x r ih =>
    intro h k o hk
    cases k with
    | zero => simp at hk; subst hk; exact h.1
    | succ k =>
      simp at hk
      have := ih h.2 k o hk
      rwa [show i + 1 + k = i + (k + 1) by omega] at this
structure MidJ (ops : Array Oper) (D : List (Option Tmp)) (J : (Nat → Bool) → (Nat → Value) → World → Prop) (a0 : Act) (v : Nat → Value) (listed : Array Bool) (a : Act) (w : World) : Prop where
  size : a.tmps.size = a0.tmps.size
  ls : listed.size = ops.size
  defers : a.defers = a0.defers
  out : ∀ t, (∀ j, listed.getD j false = true → D[j]? ≠ some (some t)) → a.tmps.getD t undef = a0.tmps.getD t undef
  here : ∀ j d, listed.getD j false = true → D[j]? = some (some d) → a.tmps.getD d undef = v j
  good : J (fun j => listed.getD j false) v w
  cl : ∀ (k : Nat) (o : Oper), ops[k]? = some o → listed.getD k false = true → ∀ e ∈ o.after.toList, Region.binds .any e = true → listed.getD e.on false = true
theorem wpAny_inv {P : Program} {ops : Array Oper} {Q : Exit → Act → World → Prop} {a0 : Act} (D : List (Option Tmp)) (J : (Nat → Bool) → (Nat → Value) → World → Prop)
    (hpl : plain a0.tmps.size 0 D ops.toList = true) (hsteps : StepsJ ops.toList P D J a0 0 ops.toList)
    (hend : ∀ (L : Nat → Bool) (v : Nat → Value) (w : World), J L v w → (∀ i, i < ops.size → L i = true) → Q .normal (putAll v 0 D a0) w) :
    ∀ (fuel : Nat) (listed : Array Bool) (v : Nat → Value) (a : Act) (w : World), MidJ ops D J a0 v listed a w → (fuel = 0 → Region.ready .any ops listed = []) →
      (List.range ops.size).countP (fun i => !listed.getD i false) ≤ fuel → wpAny P .any ops Q fuel listed a w := by
  obtain ⟨hDl, hpa⟩ := plain_at hpl
  have hlen : D.length = ops.size := by simpa using hDl
  have hback : ∀ (k : Nat) (o : Oper), ops[k]? = some o → ∀ e ∈ o.after.toList, Region.binds .any e = true → e.on < k := by
    intro k o hk e he hb
    have := (hpa k o (by simpa using hk)).2.2 e he hb
    omega
  have fin : ∀ (listed : Array Bool) (v : Nat → Value) (a : Act) (w : World), MidJ ops D J a0 v listed a w → Region.ready .any ops listed = [] → Q .normal a w := by
    intro listed v a w hm hr
    have hall := all_listed hback hr hm.ls
    have hp := putAll_frame v D 0 a0
    have ha : a = putAll v 0 D a0 := by
      have ht : a.tmps = (putAll v 0 D a0).tmps := by
        apply Array.ext
        · rw [hm.size, hp.1]
        · intro t h1 h2
          have e : a.tmps.getD t undef = (putAll v 0 D a0).tmps.getD t undef := by
            by_cases hmem : some t ∈ D
            · obtain ⟨j, hj⟩ := List.mem_iff_getElem?.1 hmem
              have hjs : j < ops.size := by rw [← hlen]; exact (List.getElem?_eq_some_iff.1 hj).1
              obtain ⟨g1, g2, _⟩ := hpa j ops[j] (by simp [hjs])
              have hdst : ops[j].dst = some t := by rw [hj] at g1; exact (Option.some.inj g1).symm
              obtain ⟨k1, k2⟩ := g2 t hdst
              rw [hm.here j t (hall j hjs) hj, hp.2.2.2 j t hj k2 k1, Nat.zero_add]
            · rw [hp.2.2.1 t hmem, hm.out t (fun j _ hj => hmem (List.mem_of_getElem? hj))]
          simpa [Array.getD_eq_getD_getElem?, h1, h2] using e
      have hd : a.defers = (putAll v 0 D a0).defers := by rw [hm.defers, hp.2.1]
      cases a
      cases hq : putAll v 0 D a0
      rw [hq] at ht hd
      simp only at ht hd
      rw [ht, hd]
    rw [ha]
    exact hend _ v w hm.good hall
  intro fuel
  induction fuel with
  | zero =>
    intro listed v a w hm h0 _
    exact ⟨h0 rfl, fin listed v a w hm (h0 rfl)⟩
  | succ fuel ih =>
    intro listed v a w hm _ hcount
    refine ⟨fin listed v a w hm, fun i hi => ?_⟩
    obtain ⟨hlt, hnl, o, ho, haft⟩ := mem_ready hi
    have hlsz : i < listed.size := by rw [hm.ls]; exact hlt
    have hnl' : listed.getD i false = false := by simpa [Array.getD, hlsz] using hnl
    obtain ⟨g1, g2, g3⟩ := hpa i o (by simpa using ho)
    have hstep := hsteps.at i o (by simpa using ho)
    rw [Nat.zero_add] at hstep
    have hout : ∀ t, some t ∉ D → a.eval (.tmp t) = a0.eval (.tmp t) := fun t ht => hm.out t (fun j _ hj => ht (List.mem_of_getElem? hj))
    have hlate : ∀ t, late ops.toList t i = true → a.eval (.tmp t) = a0.eval (.tmp t) := by
      intro t ht
      refine hm.out t fun j hj hD => ?_
      have hjs : j < ops.size := by rw [← hlen]; exact (List.getElem?_eq_some_iff.1 hD).1
      obtain ⟨k1, _, _⟩ := hpa j ops[j] (by simp [hjs])
      have hdst : ops[j].dst = some t := by rw [hD] at k1; exact (Option.some.inj k1).symm
      unfold late at ht
      have h1 := List.all_eq_true.1 ht ops[j] (by simp)
      simp only [hdst, bne_self_eq_false, Bool.false_or] at h1
      obtain ⟨e, he, hb⟩ := List.any_eq_true.1 h1
      simp only [Bool.and_eq_true, beq_iff_eq] at hb
      have h2 := hm.cl j ops[j] (by simp [hjs]) hj e he hb.1
      rw [hb.2, hnl'] at h2
      cases h2
    obtain ⟨s1, s2⟩ := hstep (fun j => listed.getD j false) v a w hm.good hnl' haft hout (fun j d hj hD => hm.here j d hj hD) hlate
    -- what is left when it answers x in the world w'
    have next : ∀ (x : Value) (w' : World), J (upL (fun j => listed.getD j false) i) (upV v i x) w' → wpAny P .any ops Q fuel (listed.setIfInBounds i true) (a.put o.dst x) w' := by
      intro x w' hJ
      have hcnt : (List.range ops.size).countP (fun j => !(listed.setIfInBounds i true).getD j false) ≤ fuel := by
        have h1 : (List.range ops.size).countP (fun j => !(listed.setIfInBounds i true).getD j false) < (List.range ops.size).countP (fun j => !listed.getD j false) := by
          have hmemi : i ∈ List.range ops.size := by simpa using hlt
          have key : ∀ (l : List Nat), i ∈ l → (∀ j, (!(listed.setIfInBounds i true).getD j false) = true → (!listed.getD j false) = true) → l.countP (fun j => !(listed.setIfInBounds i true).getD j false) < l.countP (fun j => !listed.getD j false) := by
            intro l
            induction l with
            | nil => intro h; cases h
            | cons y r ihl =>
              intro hy himp
              have hle : r.countP (fun j => !(listed.setIfInBounds i true).getD j false) ≤ r.countP (fun j => !listed.getD j false) := List.countP_mono_left fun j _ hj => himp j hj
              by_cases hyi : y = i
              · subst hyi
                have e1 : (!(listed.setIfInBounds y true).getD y false) = false := by rw [getD_set_true _ _ _ hlsz, if_pos rfl]; rfl
                have e2 : (!listed.getD y false) = true := by rw [hnl']; rfl
                rw [List.countP_cons, List.countP_cons]
                simp only [e1, e2, if_true, Bool.false_eq_true, if_false]
                omega
              · have hir : i ∈ r := by
                  rcases List.mem_cons.1 hy with h | h
                  · exact absurd h.symm hyi
                  · exact h
                have := ihl hir himp
                rw [List.countP_cons, List.countP_cons]
                have e3 : (listed.setIfInBounds i true).getD y false = listed.getD y false := by rw [getD_set_true _ _ _ hlsz, if_neg hyi]
                rw [e3]; omega
          refine key _ hmemi fun j hj => ?_
          rw [getD_set_true _ _ _ hlsz] at hj
          by_cases hji : j = i
          · rw [if_pos hji] at hj; cases hj
          · rwa [if_neg hji] at hj
        omega
      have hmid : MidJ ops D J a0 (upV v i x) (listed.setIfInBounds i true) (a.put o.dst x) w' := by
        refine ⟨?_, by simpa using hm.ls, ?_, ?_, ?_, ?_, ?_⟩
        · rw [← hm.size]; cases o.dst <;> simp [Act.put]
        · rw [← hm.defers]; cases o.dst <;> rfl
        · intro t ht
          have hold := hm.out t (fun j hj => ht j (by rw [getD_set_true _ _ _ hlsz]; split <;> first | rfl | exact hj))
          have hne : o.dst ≠ some t := by
            intro e
            exact ht i (by rw [getD_set_true _ _ _ hlsz, if_pos rfl]) (by rw [g1, e])
          rw [← hold]
          cases hd : o.dst with
          | none => rfl
          | some d =>
            have : d ≠ t := fun e => hne (by rw [hd, e])
            simp only [Act.put, Array.getD_eq_getD_getElem?, Array.getElem?_setIfInBounds_ne this]
        · intro j d hj hD
          by_cases hji : j = i
          · subst hji
            have hd : o.dst = some d := by rw [g1] at hD; exact Option.some.inj hD
            have hsz : d < a.tmps.size := by rw [hm.size]; exact (g2 d hd).1
            simp [hd, Act.put, Array.getD_eq_getD_getElem?, hsz, upV]
          · rw [getD_set_true _ _ _ hlsz, if_neg hji] at hj
            have hold := hm.here j d hj hD
            rw [show upV v i x j = v j from if_neg hji, ← hold]
            cases hd : o.dst with
            | none => rfl
            | some y =>
              have hne : y ≠ d := by
                rintro rfl
                rw [hd] at g1
                rcases Nat.lt_or_gt_of_ne hji with hlt2 | hgt2
                · have hjs : j < ops.size := by rw [← hlen]; exact (List.getElem?_eq_some_iff.1 hD).1
                  obtain ⟨k1, k2, _⟩ := hpa j ops[j] (by simp [hjs])
                  have hdst : ops[j].dst = some y := by rw [hD] at k1; exact (Option.some.inj k1).symm
                  exact (k2 y hdst).2 i hlt2 g1
                · exact (g2 y hd).2 j hgt2 hD
              simp only [Act.put, Array.getD_eq_getD_getElem?, Array.getElem?_setIfInBounds_ne hne]
        · have e : (fun j => (listed.setIfInBounds i true).getD j false) = upL (fun j => listed.getD j false) i := by
            funext j; exact getD_set_true _ _ _ hlsz
          rw [e]; exact hJ
        · intro k o' hk hl e he hb
          rw [getD_set_true _ _ _ hlsz] at hl ⊢
          by_cases hee : e.on = i
          · rw [if_pos hee]
          · rw [if_neg hee]
            by_cases hki : k = i
            · subst hki
              rw [ho] at hk
              cases hk
              exact haft e he hb
            · rw [if_neg hki] at hl
              exact hm.cl k o' hk hl e he hb
      refine ih _ _ _ _ hmid ?_ hcnt
      intro hz
      subst hz
      have hz0 : (List.range ops.size).countP (fun j => !(listed.setIfInBounds i true).getD j false) = 0 := by omega
      rw [List.countP_eq_zero] at hz0
      cases hr : Region.ready .any ops (listed.setIfInBounds i true) with
      | nil => rfl
      | cons y r =>
        have hy : y ∈ Region.ready .any ops (listed.setIfInBounds i true) := by rw [hr]; simp
        obtain ⟨q1, q2, _⟩ := mem_ready hy
        have := hz0 y (by simpa using q1)
        have hys : y < (listed.setIfInBounds i true).size := by simp [hm.ls]; exact q1
        have q3 : (listed.setIfInBounds i true).getD y false = false := by rw [← getD_same _ y hys]; exact q2
        rw [q3] at this
        exact absurd rfl this
    have hwant : Region.wanted o (yielded ops a.tmps) = goes D o a := by
      unfold Region.wanted goes
      cases hg : o.guard with
      | none => rfl
      | some p =>
        obtain ⟨j, want⟩ := p
        simp only [yielded]
        by_cases hj : j < ops.size
        · obtain ⟨k1, k2, _⟩ := hpa j ops[j] (by simp [hj])
          have hDj : D.getD j none = ops[j].dst := by simp [List.getD, k1]
          rw [hDj]
          simp only [Array.getElem?_eq_getElem hj, Option.bind_some]
          cases hd : ops[j].dst with
          | none => simp
          | some d =>
            have hsz : d < a.tmps.size := by rw [hm.size]; exact (k2 d hd).1
            simp only [Option.bind_some, Array.getElem?_eq_getElem hsz]
            have he : a.eval (.tmp d) = a.tmps[d] := by simp [Act.eval, Array.getD, hsz]
            rw [he]
            cases a.tmps[d] <;> simp
        · have hDj : D.getD j none = none := by simp [List.getD, List.getElem?_eq_none (show D.length ≤ j by omega)]
          rw [hDj]
          simp [Array.getElem?_eq_none (show ops.size ≤ j by omega)]
    unfold wpOp
    rw [ho]
    simp only [hwant]
    cases hgo : goes D o a with
    | true =>
      simp only [if_true]
      refine .inl (Yields.wp ?_)
      have := s1 hgo
      revert this
      unfold Yields
      generalize (execOp a.eval o).run P w = res
      intro h
      cases res with
      | ok n w' =>
        cases n <;> simp only at h ⊢ <;> first
          | exact next _ _ h
          | exact h.elim
          | exact Calls.mono h (fun e w'' ⟨y, he, hk⟩ => ⟨y, he, next _ _ hk⟩)
      | halt y w' => exact h.elim
    | false =>
      simp only [Bool.false_eq_true, if_false]
      exact next undef w (s2 hgo)
theorem wp_region_inv {P : Program} {id : Nat} {ops : Array Oper} {Q : Exit → Act → World → Prop} {a0 : Act} {w0 : World} (D : List (Option Tmp)) (J : (Nat → Bool) → (Nat → Value) → World → Prop)
    (hm : P.follows .mixedOrders = true) (hpl : plain a0.tmps.size 0 D ops.toList = true) (h0 : J (fun _ => false) (fun _ => undef) w0.drew) (hsteps : StepsJ ops.toList P D J a0 0 ops.toList)
    (hend : ∀ (L : Nat → Bool) (v : Nat → Value) (w : World), J L v w → (∀ i, i < ops.size → L i = true) → Q .normal (putAll v 0 D a0) w) : (Code.region id ops true).wp P Q a0 w0 := by
  refine wp_region_any hm ?_
  have hno : ∀ j, (Array.replicate ops.size false).getD j false = false := by
    intro j
    by_cases h : j < ops.size <;> simp [Array.getD, h]
  refine wpAny_inv D J hpl hsteps hend ops.size _ (fun _ => undef) a0 _ ⟨rfl, by simp, rfl, fun _ _ => rfl, fun j _ hj => ?_, ?_, fun k _ _ hl => ?_⟩ ?_ ?_
  · rw [hno] at hj; cases hj
  · have e : (fun j => (Array.replicate ops.size false).getD j false) = fun _ => false := funext hno
    rw [e]; exact h0
  · rw [hno] at hl; cases hl
  · intro h0
    cases hr : Region.ready .any ops (Array.replicate ops.size false) with
    | nil => rfl
    | cons y r =>
      have hy : y ∈ Region.ready .any ops (Array.replicate ops.size false) := by rw [hr]; simp
      have := (mem_ready hy).1
      omega
  · exact Nat.le_trans (List.countP_le_length) (by simp)
end Go.Proofs.YtknjpdcpmpfklaaGreatDoor
set_option maxRecDepth 100000
namespace Go.Proofs.YtknjpdcpmpfklaaGreatDoor
open Go.RowKit
def StepU (U : Nat → Option Nat) (P : Program) (R : World → Prop) (D : List (Option Tmp)) (G H : Nat → Value → World → Prop) (a0 : Act) (i : Nat) (o : Oper) : Prop :=
  ∀ (a : Act) (w : World), R w → (∀ t, some t ∉ D → a.eval (.tmp t) = a0.eval (.tmp t)) → Deps D (fun j v w => (U j = none ∨ U j = some i) → G j v w) a w o.after.toList →
    (goes D o a = true → Yields P a.eval o w (fun v w' => G i v w' ∧ R w' ∧ (∀ j x, j ≠ i → U j ≠ some i → G j x w → G j x w') ∧ (∀ j x, U j ≠ some i → H j x w → H j x w') ∧ ∀ j d, U j = some i → D[j]? = some (some d) → H j (a.eval (.tmp d)) w')) ∧ (goes D o a = false → G i undef w ∧ ∀ j, U j ≠ some i)
def StepsU (U : Nat → Option Nat) (P : Program) (R : World → Prop) (D : List (Option Tmp)) (G H : Nat → Value → World → Prop) (a0 : Act) : Nat → List Oper → Prop
  | _, [] => True
  | i, o :: r => StepU U P R D G H a0 i o ∧ StepsU U P R D G H a0 (i + 1) r
theorem StepsU.at {U : Nat → Option Nat} {P : Program} {R : World → Prop} {D : List (Option Tmp)} {G H : Nat → Value → World → Prop} {a0 : Act} : ∀ {i : Nat} {os : List Oper}, StepsU U P R D G H a0 i os → ∀ k o, os[k]? = some o → StepU U P R D G H a0 (i + k) o := by
  intro i os
  induction os generalizing i with
  | nil => intro _ k o h; simp at h
  | cons x r ih =>
    intro h k o hk
    cases k with
    | zero => simp at hk; subst hk; exact h.1
    | succ k =>
      simp at hk
      have := ih h.2 k o hk
      rwa [show i + 1 + k = i + (k + 1) by omega] at this
end Go.Proofs.YtknjpdcpmpfklaaGreatDoor
set_option maxRecDepth 100000
namespace Go.Proofs.YtknjpdcpmpfklaaGreatDoor
open Go.RowKit
def usedBy (l : List (Nat × Nat)) (j : Nat) : Option Nat := (l.find? fun q => q.1 == j).map (·.2)
theorem usedBy_mem {l : List (Nat × Nat)} {j k : Nat} (h : usedBy l j = some k) : (j, k) ∈ l := by
  unfold usedBy at h
  cases hf : l.find? fun q => q.1 == j with
  | none => rw [hf] at h; cases h
  | some q =>
    rw [hf] at h
    cases h
    have h1 := List.find?_some hf
    have h2 := List.mem_of_find?_eq_some hf
    have : q.1 = j := by simpa using h1
    rw [← this]; exact h2
def noUse (l : List (Nat × Nat)) (i : Nat) : Bool := l.all fun q => q.2 != i
theorem noUse_at {l : List (Nat × Nat)} {i : Nat} (h : noUse l i = true) (j : Nat) : usedBy l j ≠ some i := fun e => by
  have := List.all_eq_true.1 h _ (usedBy_mem e)
  simp at this
def oneUse (l : List (Nat × Nat)) (i j : Nat) : Bool := l.all fun q => q.2 != i || q.1 == j
theorem oneUse_at {l : List (Nat × Nat)} {i j : Nat} (h : oneUse l i j = true) {j' : Nat} (e : usedBy l j' = some i) : j' = j := by
  have := List.all_eq_true.1 h _ (usedBy_mem e)
  simpa using this
def Told (l : List (Nat × Nat)) (Gs : List Pd) (i : Nat) : Nat → Value → World → Prop := fun j v w => (usedBy l j = none ∨ usedBy l j = some i) → Said Gs j v w
def Left (l : List (Nat × Nat)) (D : List (Option Tmp)) (Gs Hs : List Pd) (w0 : World) (i : Nat) (ρ : Operand → Value) (w : World) (v : Value) (w' : World) : Prop :=
  Said Gs i v w' ∧ Kept (fun _ => False) w0 w' ∧ (∀ j x, j ≠ i → usedBy l j ≠ some i → Said Gs j x w → Said Gs j x w') ∧ (∀ j x, usedBy l j ≠ some i → Said Hs j x w → Said Hs j x w') ∧ ∀ j d, usedBy l j = some i → D[j]? = some (some d) → Said Hs j (ρ (.tmp d)) w'
section
variable {P : Program} {N : Nat} {F : Nat → Value} {w : World} {Q : Exit → (Nat → Value) → World → Prop}
def StepFU (l : List (Nat × Nat)) (N : Nat) (P : Program) (D : List (Option Tmp)) (Gs Hs : List Pd) (F0 : Nat → Value) (w0 : World) (i : Nat) (o : Oper) : Prop :=
  ∀ (F : Nat → Value) (w : World), Kept (fun _ => False) w0 w → (∀ t, Nat.blt t N = true → some t ∉ D → F t = F0 t) → DepsF D (Told l Gs i) F w o.after.toList →
    match o.guard with
    | none => Yields P (ev F) o w (Left l D Gs Hs w0 i (ev F) w)
    | some (j, want) => ∃ d, D.getD j none = some d ∧
      ((F d = .bool want ∧ Yields P (ev F) o w (Left l D Gs Hs w0 i (ev F) w)) ∨ ((F d = .bool (!want) ∨ F d = undef) ∧ Said Gs i undef w ∧ noUse l i = true))
def StepsFU (l : List (Nat × Nat)) (N : Nat) (P : Program) (D : List (Option Tmp)) (Gs Hs : List Pd) (F0 : Nat → Value) (w0 : World) : Nat → List Oper → Prop
  | _, [] => True
  | i, o :: r => StepFU l N P D Gs Hs F0 w0 i o ∧ StepsFU l N P D Gs Hs F0 w0 (i + 1) r
theorem StepFU.step {l : List (Nat × Nat)} {D : List (Option Tmp)} {Gs Hs : List Pd} {w0 : World} {i : Nat} {o : Oper} {a0 : Act} (ha : Fr N F a0) (h : StepFU l N P D Gs Hs F w0 i o) : StepU (usedBy l) P (Kept (fun _ => False) w0) D (Said Gs) (Said Hs) a0 i o := by
  intro a w hR hout hD
  have h1 := h (fun t => a.tmps.getD t undef) w hR (fun t hb ht => by rw [← ha.at' t hb]; exact hout t ht) hD.toF
  rw [← eval_ev a] at h1
  unfold goes
  cases hg : o.guard with
  | none => rw [hg] at h1; exact ⟨fun _ => h1, fun e => by cases e⟩
  | some g =>
    obtain ⟨j, want⟩ := g
    rw [hg] at h1
    obtain ⟨d, hd, h1⟩ := h1
    simp only [hd]
    have hev : a.eval (.tmp d) = a.tmps.getD d undef := rfl
    rcases h1 with ⟨hv, hy⟩ | ⟨hv, hs⟩
    · rw [hev, hv]; exact ⟨fun _ => hy, fun e => by simp at e⟩
    · refine ⟨fun e => ?_, fun _ => ⟨hs.1, noUse_at hs.2⟩⟩
      rcases hv with hv | hv
      · rw [hev, hv] at e; cases want <;> simp at e
      · rw [hev, hv] at e; simp [undef] at e
theorem StepsFU.steps {l : List (Nat × Nat)} {D : List (Option Tmp)} {Gs Hs : List Pd} {w0 : World} {a0 : Act} (ha : Fr N F a0) : ∀ {os : List Oper} {i : Nat}, StepsFU l N P D Gs Hs F w0 i os → StepsU (usedBy l) P (Kept (fun _ => False) w0) D (Said Gs) (Said Hs) a0 i os := by
  intro os
  induction os with
  | nil => intro i _; exact trivial
  | cons o r ih => intro i h; exact ⟨h.1.step ha, ih h.2⟩
theorem left_plain {l : List (Nat × Nat)} {D : List (Option Tmp)} {Gs Hs : List Pd} {w0 w w' : World} {i : Nat} {ρ : Operand → Value} {v : Value} (hn : noUse l i = true) (hR : Kept (fun _ => False) w0 w) (h : Said Gs i v w' ∧ Kept (fun _ => False) w w') : Left l D Gs Hs w0 i ρ w v w' :=
  ⟨h.1, hR.trans h.2 (fun _ _ x => x), fun j _ _ _ hj => (Gs.getD j Pd.any).stays _ _ _ hj h.2, fun j _ _ hj => (Hs.getD j Pd.any).stays _ _ _ hj h.2, fun j _ e => absurd e (noUse_at hn j)⟩
theorem Yields.mono' {ρ : Operand → Value} {o : Oper} {R R' : Value → World → Prop} (h : Yields P ρ o w R) (hr : ∀ v w', R v w' → R' v w') : Yields P ρ o w R' := by
  revert h
  unfold Yields
  generalize (execOp ρ o).run P w = r
  intro h
  cases r with
  | ok n w' =>
    cases n <;> simp only at h ⊢ <;> first
      | exact hr _ _ h
      | exact h.elim
      | exact Calls.mono h (fun e w'' ⟨y, he, hk⟩ => ⟨y, he, hr _ _ hk⟩)
  | halt y w' => exact h.elim
theorem StepFU.one {l : List (Nat × Nat)} {D : List (Option Tmp)} {Gs Hs : List Pd} {F0 : Nat → Value} {w0 : World} {i : Nat} {o : Oper} (hn : noUse l i = true) (hg : o.guard = none)
    (h : ∀ (F : Nat → Value) (w : World), Kept (fun _ => False) w0 w → (∀ t, Nat.blt t N = true → some t ∉ D → F t = F0 t) → DepsF D (Told l Gs i) F w o.after.toList → Yields P (ev F) o w (fun v w' => Said Gs i v w' ∧ Kept (fun _ => False) w w')) : StepFU l N P D Gs Hs F0 w0 i o := by
  intro F w h1 h2 h3
  rw [hg]
  exact (h F w h1 h2 h3).mono' fun _ _ x => left_plain hn h1 x
theorem StepFU.when {l : List (Nat × Nat)} {D : List (Option Tmp)} {Gs Hs : List Pd} {F0 : Nat → Value} {w0 : World} {i : Nat} {o : Oper} (hn : noUse l i = true) (j : Nat) (want : Bool) (d : Tmp) (hg : o.guard = some (j, want)) (hd : D.getD j none = some d)
    (h : ∀ (F : Nat → Value) (w : World), Kept (fun _ => False) w0 w → (∀ t, Nat.blt t N = true → some t ∉ D → F t = F0 t) → DepsF D (Told l Gs i) F w o.after.toList → F d = .bool want ∧ Yields P (ev F) o w (fun v w' => Said Gs i v w' ∧ Kept (fun _ => False) w w')) : StepFU l N P D Gs Hs F0 w0 i o := by
  intro F w h1 h2 h3
  rw [hg]
  obtain ⟨hv, hy⟩ := h F w h1 h2 h3
  exact ⟨d, hd, .inl ⟨hv, hy.mono' fun _ _ x => left_plain hn h1 x⟩⟩
def Pd.under (Ty : TypeId → Prop) (p : Pd) : Prop := ∀ v w w' S, p.says v w → Kept S w w' → (∀ i, S i → ∀ c e f, w.heap[i]? = some (.cells c e f) → Ty e) → p.says v w'
theorem under_any {Ty : TypeId → Prop} : Pd.any.under Ty := fun _ _ _ _ _ _ _ => trivial
def AllUnder (Ty : TypeId → Prop) (skip : Nat → Bool) : Nat → List Pd → Prop
  | _, [] => True
  | k, p :: r => (skip k = true ∨ p.under Ty) ∧ AllUnder Ty skip (k + 1) r
theorem AllUnder.at {Ty : TypeId → Prop} {skip : Nat → Bool} : ∀ {Gs : List Pd} {k : Nat}, AllUnder Ty skip k Gs → ∀ j, skip (k + j) = false → (Gs.getD j Pd.any).under Ty := by
  intro Gs
  induction Gs with
  | nil => intro k _ j _; exact under_any
  | cons p r ih =>
    intro k h j hj
    cases j with
    | zero =>
      rcases h.1 with e | e
      · rw [Nat.add_zero] at hj; rw [hj] at e; cases e
      · exact e
    | succ j => exact ih h.2 j (by rw [show k + 1 + j = k + (j + 1) by omega]; exact hj)
theorem StepFU.turn {l : List (Nat × Nat)} {D : List (Option Tmp)} {Gs Hs : List Pd} {F0 : Nat → Value} {w0 : World} {i : Nat} {o : Oper} (j : Nat) (d : Tmp) (Ty : TypeId → Prop) (hg : o.guard = none) (hd : D[j]? = some (some d)) (h1u : oneUse l i j = true) (hu : AllUnder Ty (fun q => decide (q = i ∨ usedBy l q = some i)) 0 Gs) (hu2 : AllUnder Ty (fun q => decide (usedBy l q = some i)) 0 Hs)
    (h : ∀ (F : Nat → Value) (w : World), Kept (fun _ => False) w0 w → (∀ t, Nat.blt t N = true → some t ∉ D → F t = F0 t) → DepsF D (Told l Gs i) F w o.after.toList →
      Yields P (ev F) o w (fun v w' => Said Gs i v w' ∧ Said Hs j (F d) w' ∧ ∃ S, Kept S w w' ∧ (∀ x, S x → w0.heap.size ≤ x) ∧ ∀ x, S x → ∀ c e f, w.heap[x]? = some (.cells c e f) → Ty e)) : StepFU l N P D Gs Hs F0 w0 i o := by
  intro F w h1 h2 h3
  rw [hg]
  refine (h F w h1 h2 h3).mono' fun v w' ⟨hs, hs2, S, k, hn, ht⟩ => ⟨hs, h1.trans k (fun x hx hS => absurd (hn x hS) (by omega)), fun q x hj hU hx => ?_, fun q x hU hx => ?_, fun q d' hU hq => ?_⟩
  · exact hu.at q (by rw [Nat.zero_add]; exact decide_eq_false (fun e => e.elim hj hU)) x w w' S hx k ht
  · exact hu2.at q (by rw [Nat.zero_add]; exact decide_eq_false hU) x w w' S hx k ht
  · have e := oneUse_at h1u hU
    subst e
    rw [hd] at hq
    cases hq
    exact hs2
end
end Go.Proofs.YtknjpdcpmpfklaaGreatDoor
set_option maxRecDepth 100000
namespace Go.Proofs.YtknjpdcpmpfklaaGreatDoor
open Go.RowKit
structure Thg where
  A : World → Prop
  T : Nat → Prop
  B : (Nat → Prop) → World → Prop
  stA : ∀ (w w' : World) (S : Nat → Prop), A w → Kept S w w' → Apart T S → A w'
  stB : ∀ (w w' : World) (S T' : Nat → Prop), B T' w → Kept S w w' → Apart T' S → B T' w'
  liA : ∀ w, A w → Live w T
  liB : ∀ w T', B T' w → Live w T'
inductive Pt where
  | eq (v : Value)
  | thg (t : Thg) (v : Value)
def Pt.none : Pt := .eq undef
def saysT : Pt → Value
  | .eq v => v
  | .thg _ v => v
def curT (Gs : List Pt) (L : Nat → Bool) (Tf : Nat → Nat → Prop) (i : Nat) : Nat → Prop := match Gs.getD i Pt.none with
  | .eq _ => noB
  | .thg t _ => if L i = true then Tf i else t.T
def isT (Gs : List Pt) (L : Nat → Bool) (Tf : Nat → Nat → Prop) (w : World) (i : Nat) : Prop := match Gs.getD i Pt.none with
  | .eq _ => True
  | .thg t _ => if L i = true then t.B (Tf i) w else t.A w
structure JT (S : Nat → Prop) (w0 : World) (Gs : List Pt) (M : List (Nat × Nat)) (L : Nat → Bool) (v : Nat → Value) (Tf : Nat → Nat → Prop) (w : World) : Prop where
  kept : Kept S w0 w
  vals : ∀ i, L i = true → v i = saysT (Gs.getD i Pt.none)
  things : ∀ i, isT Gs L Tf w i
  grew : ∀ i t x, Gs.getD i Pt.none = .thg t x → L i = true → Grew w0 t.T (Tf i)
  apart : ∀ i j, i ≠ j → Apart (curT Gs L Tf i) (curT Gs L Tf j)
  clos : ∀ j i, (j, i) ∈ M → L j = true → L i = true
def OldT (S : Nat → Prop) (w0 : World) (Gs : List Pt) : Prop := (∀ i t x, Gs.getD i Pt.none = .thg t x → (∀ b, t.T b → S b) ∧ t.A w0) ∧ ∀ i j, i ≠ j → Apart (curT Gs (fun _ => false) (fun _ => noB) i) (curT Gs (fun _ => false) (fun _ => noB) j)
def FarT (T : Nat → Prop) : List Pt → Prop
  | [] => True
  | .thg t _ :: r => Apart T t.T ∧ FarT T r
  | .eq _ :: r => FarT T r
def OldsT (S : Nat → Prop) (w0 : World) : List Pt → Prop
  | [] => True
  | .thg t _ :: r => ((∀ b, t.T b → S b) ∧ t.A w0 ∧ FarT t.T r) ∧ OldsT S w0 r
  | .eq _ :: r => OldsT S w0 r
theorem FarT.at {T : Nat → Prop} : ∀ {Gs : List Pt}, FarT T Gs → ∀ i t x, Gs.getD i Pt.none = .thg t x → Apart T t.T := by
  intro Gs
  induction Gs with
  | nil => intro _ i t x h; cases h
  | cons g r ih =>
    intro h i t x e
    cases i with
    | zero =>
      have e : g = .thg t x := by simpa using e
      subst e; exact h.1
    | succ i =>
      have e : r.getD i Pt.none = .thg t x := by simpa using e
      cases g <;> first | exact ih h.2 i t x e | exact ih h i t x e
theorem OldsT.at {S : Nat → Prop} {w0 : World} : ∀ {Gs : List Pt}, OldsT S w0 Gs → ∀ i t x, Gs.getD i Pt.none = .thg t x → (∀ b, t.T b → S b) ∧ t.A w0 := by
  intro Gs
  induction Gs with
  | nil => intro _ i t x h; cases h
  | cons g r ih =>
    intro h i t x e
    cases i with
    | zero =>
      have e : g = .thg t x := by simpa using e
      subst e; exact ⟨h.1.1, h.1.2.1⟩
    | succ i =>
      have e : r.getD i Pt.none = .thg t x := by simpa using e
      cases g <;> first | exact ih h.2 i t x e | exact ih h i t x e
theorem OldsT.far {S : Nat → Prop} {w0 : World} : ∀ {Gs : List Pt}, OldsT S w0 Gs → ∀ i j t x t' x', i < j → Gs.getD i Pt.none = .thg t x → Gs.getD j Pt.none = .thg t' x' → Apart t.T t'.T := by
  intro Gs
  induction Gs with
  | nil => intro _ i j t x t' x' _ h; cases h
  | cons g r ih =>
    intro h i j t x t' x' hij e1 e2
    cases j with
    | zero => omega
    | succ j =>
      have e2 : r.getD j Pt.none = .thg t' x' := by simpa using e2
      cases i with
      | zero =>
        have e1 : g = .thg t x := by simpa using e1
        subst e1; exact h.1.2.2.at j t' x' e2
      | succ i =>
        have e1 : r.getD i Pt.none = .thg t x := by simpa using e1
        cases g <;> first | exact ih h.2 i j t x t' x' (by omega) e1 e2 | exact ih h i j t x t' x' (by omega) e1 e2
theorem OldsT.old {S : Nat → Prop} {w0 : World} {Gs : List Pt} (h : OldsT S w0 Gs) : OldT S w0 Gs := by
  refine ⟨fun i t x e => h.at i t x e, fun i j hij => ?_⟩
  unfold curT
  cases e1 : Gs.getD i Pt.none with
  | eq x => exact fun _ z => z.elim
  | thg t x =>
    cases e2 : Gs.getD j Pt.none with
    | eq y => exact fun _ _ z => z
    | thg t' y =>
      simp only [Bool.false_eq_true, if_false]
      rcases Nat.lt_or_gt_of_ne hij with hlt | hgt
      · exact h.far i j t x t' y hlt e1 e2
      · exact (h.far j i t' y t x hgt e2 e1).symm
def onT (w0 : World) (Gs : List Pt) (i : Nat) (w : World) : Prop := match Gs.getD i Pt.none with
  | .eq _ => True
  | .thg t _ => ∃ T', t.B T' w ∧ Grew w0 t.T T'
def ToldT (w0 : World) (Gs : List Pt) (M : List (Nat × Nat)) : Nat → Value → World → Prop := fun j v w => v = saysT (Gs.getD j Pt.none) ∧ onT w0 Gs j w ∧ ∀ i, (j, i) ∈ M → onT w0 Gs i w
def mustOk (os : List Oper) (M : List (Nat × Nat)) : Bool := M.all fun q => match os[q.1]? with | some o => o.after.toList.any (fun e => Region.binds .any e && (e.on == q.2 || M.contains (e.on, q.2))) | none => false
def LeftT (Gs : List Pt) (i : Nat) (w : World) (v : Value) (w' : World) : Prop := match Gs.getD i Pt.none with
  | .eq x => v = x ∧ Kept (fun _ => False) w w'
  | .thg t x => v = x ∧ Kept t.T w w' ∧ ∃ T', t.B T' w' ∧ Grew w t.T T'
theorem cur_live {S : Nat → Prop} {w0 w : World} {Gs : List Pt} {L : Nat → Bool} {v : Nat → Value} {Tf : Nat → Nat → Prop} {M : List (Nat × Nat)} (h : JT S w0 Gs M L v Tf w) (i : Nat) : Live w (curT Gs L Tf i) := by
  have := h.things i
  unfold isT at this
  unfold curT
  cases e : Gs.getD i Pt.none with
  | eq x => exact fun _ h => h.elim
  | thg t x =>
    rw [e] at this
    simp only at this ⊢
    cases hl : L i with
    | true => rw [hl] at this; rw [if_pos rfl] at this ⊢; exact t.liB w _ this
    | false => rw [hl] at this; rw [if_neg (by simp)] at this ⊢; exact t.liA w this
theorem cur_up {Gs : List Pt} {L : Nat → Bool} {Tf Tf' : Nat → Nat → Prop} {i j : Nat} (h : j ≠ i) (hT : Tf' j = Tf j) : curT Gs (fun k => if k = i then true else L k) Tf' j = curT Gs L Tf j := by
  unfold curT
  cases Gs.getD j Pt.none with
  | eq x => rfl
  | thg t x => simp only [if_neg h, hT]
theorem is_up {Gs : List Pt} {L : Nat → Bool} {Tf Tf' : Nat → Nat → Prop} {w : World} {i j : Nat} (h : j ≠ i) (hT : Tf' j = Tf j) : isT Gs (fun k => if k = i then true else L k) Tf' w j = isT Gs L Tf w j := by
  unfold isT
  cases Gs.getD j Pt.none with
  | eq x => rfl
  | thg t x => simp only [if_neg h, hT]
theorem is_kept {S' : Nat → Prop} {Gs : List Pt} {L : Nat → Bool} {Tf : Nat → Nat → Prop} {w w' : World} {j : Nat} (h : isT Gs L Tf w j) (k : Kept S' w w') (ha : Apart (curT Gs L Tf j) S') : isT Gs L Tf w' j := by
  unfold isT at h ⊢
  unfold curT at ha
  cases e : Gs.getD j Pt.none with
  | eq x => trivial
  | thg t x =>
    rw [e] at h ha
    simp only at h ha ⊢
    split
    · rename_i hl; rw [if_pos hl] at h ha; exact t.stB w w' S' _ h k ha
    · rename_i hl; rw [if_neg hl] at h ha; exact t.stA w w' S' h k ha
theorem JT.more {S : Nat → Prop} {w0 w w' : World} {Gs : List Pt} {M : List (Nat × Nat)} {L : Nat → Bool} {v : Nat → Value} {Tf : Nat → Nat → Prop} {i : Nat} {x : Value} (hO : OldT S w0 Gs) (h : JT S w0 Gs M L v Tf w) (hi : L i = false) (hM : ∀ k, (i, k) ∈ M → L k = true) (hx : LeftT Gs i w x w') : ∃ Tf', JT S w0 Gs M (upL L i) (upV v i x) Tf' w' := by
  have hcl : ∀ j k, (j, k) ∈ M → upL L i j = true → upL L i k = true := fun j k hm hj => by
    have hk : L k = true := by
      by_cases hji : j = i
      · subst hji; exact hM k hm
      · rw [show upL L i j = L j from if_neg hji] at hj; exact h.clos j k hm hj
    unfold upL; split <;> first | rfl | exact hk
  unfold LeftT at hx
  cases e : Gs.getD i Pt.none with
  | eq y =>
    rw [e] at hx
    refine ⟨Tf, h.kept.trans hx.2 (fun _ _ z => z.elim), fun j hj => ?_, fun j => ?_, fun j t z hj hl => ?_, fun a b hab => ?_, hcl⟩
    · by_cases hji : j = i
      · subst hji; rw [show upV v j x j = x from if_pos rfl, e]; exact hx.1
      · rw [show upL L i j = L j from if_neg hji] at hj; rw [show upV v i x j = v j from if_neg hji]; exact h.vals j hj
    · by_cases hji : j = i
      · subst hji; unfold isT; rw [e]; trivial
      · rw [show isT Gs (upL L i) Tf w' j = isT Gs L Tf w' j from is_up hji rfl]; exact is_kept (h.things j) hx.2 (fun _ _ z => z)
    · have hji : j ≠ i := fun z' => by rw [z', e] at hj; cases hj
      rw [show upL L i j = L j from if_neg hji] at hl; exact h.grew j t z hj hl
    · have hc : ∀ c, curT Gs (upL L i) Tf c = curT Gs L Tf c := fun c => by
        by_cases hci : c = i
        · subst hci; unfold curT; rw [e]
        · exact cur_up hci rfl
      rw [hc, hc]; exact h.apart a b hab
  | thg t y =>
    rw [e] at hx
    obtain ⟨hv, k, T', hB, hG⟩ := hx
    have hcur : curT Gs L Tf i = t.T := by unfold curT; rw [e]; simp [hi]
    have hTf : ∀ c, c ≠ i → (fun c => if c = i then T' else Tf c) c = Tf c := fun c hc => by simp [hc]
    have hci : curT Gs (upL L i) (fun c => if c = i then T' else Tf c) i = T' := by unfold curT; rw [e]; simp [upL]
    have hcj : ∀ c, c ≠ i → curT Gs (upL L i) (fun c => if c = i then T' else Tf c) c = curT Gs L Tf c := fun c hc => cur_up hc (hTf c hc)
    have hnew : ∀ c, c ≠ i → Apart T' (curT Gs L Tf c) := fun c hc => by
      have := h.apart i c (fun z => hc z.symm)
      rw [hcur] at this
      exact this.grew hG (cur_live h c)
    refine ⟨fun c => if c = i then T' else Tf c, h.kept.trans k (fun b _ hb => (hO.1 i t y e).1 b hb), fun j hj => ?_, fun j => ?_, fun j t' z hj hl => ?_, fun a b hab => ?_, hcl⟩
    · by_cases hji : j = i
      · subst hji; rw [show upV v j x j = x from if_pos rfl, e]; exact hv
      · rw [show upL L i j = L j from if_neg hji] at hj; rw [show upV v i x j = v j from if_neg hji]; exact h.vals j hj
    · by_cases hji : j = i
      · subst hji; unfold isT; rw [e]; simp only [upL]; simpa using hB
      · rw [show isT Gs (upL L i) (fun c => if c = i then T' else Tf c) w' j = isT Gs L Tf w' j from is_up hji (hTf j hji)]
        exact is_kept (h.things j) k (by have := h.apart j i hji; rw [hcur] at this; exact this)
    · by_cases hji : j = i
      · subst hji
        rw [e] at hj; cases hj
        simp only [if_true]
        exact fun b hb => (hG b hb).elim .inl (fun hge => .inr (Nat.le_trans h.kept.size hge))
      · rw [show upL L i j = L j from if_neg hji] at hl
        simp only [if_neg hji]; exact h.grew j t' z hj hl
    · by_cases hai : a = i
      · subst hai
        rw [hci, hcj b (fun z => hab z.symm)]; exact hnew b (fun z => hab z.symm)
      · rw [hcj a hai]
        by_cases hbi : b = i
        · subst hbi; rw [hci]; exact (hnew a hai).symm
        · rw [hcj b hbi]; exact h.apart a b hab
theorem y_setStc {P : Program} {ρ : Operand → Value} {o : Oper} {w : World} {R : Value → World → Prop} {ty t : TypeId} {x y : Operand} {p k : Nat} {v u : Value} {vs : List Value} (ho : o.op = .store ty x y) (hx : ρ x = .pointer (some ⟨p, k, none⟩)) (hy : ρ y = v) (hB : Stc w p t vs) (hk : vs[k]? = some u) (hv : oneC v = true)
    (hs : (P.info? ty).map (·.size) = some 1)
    (h : ∀ w', Stc w' p t (vs.set k v) → Kept (fun k => k = p) w w' → R undef w') : Yields P ρ o w R := by
  have hc := hB.cell hk
  have hf : w.frozen? ⟨p, k, none⟩ = false := frozen_of_heap hB
  cases hq : P.info? ty with
  | none => simp [hq] at hs
  | some i =>
    have hs' : i.size = 1 := by simpa [hq] using hs
    have e : (execOp ρ o).run P w = .ok .skip (w.setCell ⟨p, k, none⟩ v) ∨ (execOp ρ o).run P w = .ok (.value undef) (w.setCell ⟨p, k, none⟩ v) := by
      cases v <;> first
        | (simp [oneC] at hv; done)
        | simp [execOp, ho, hx, hy, Instr.storeAt, Instr.sureAddr, storeVar, sizeOf, typeInfo, hq, hs', Value.cells, hc, hf, go_sem]
    unfold Yields
    rcases e with e | e <;> rw [e] <;> exact h _ (hB.set k v) ((Kept.refl (fun k => k = p) w).setCell ⟨p, k, none⟩ (fun _ => rfl) _)
def stcThg (p : Nat) (t : TypeId) (zs us : List Value) : Thg := ⟨fun w => Stc w p t zs, onB p, fun T w => T = onB p ∧ Stc w p t us, fun _ _ _ h k ha => h.all k (ha p rfl), fun _ _ _ _ h k ha => ⟨h.1, h.2.all k (ha p (by rw [h.1]; rfl))⟩, fun _ h => onB_live h.lt, fun _ _ h => by rw [h.1]; exact onB_live h.2.lt⟩
section
variable {P : Program} {N : Nat} {F : Nat → Value} {w : World} {Q : Exit → (Nat → Value) → World → Prop}
def StepFT (S : Nat → Prop) (M : List (Nat × Nat)) (N : Nat) (P : Program) (D : List (Option Tmp)) (Gs : List Pt) (F0 : Nat → Value) (w0 : World) (i : Nat) (o : Oper) : Prop :=
  ∀ (F : Nat → Value) (w : World), Kept S w0 w → (∀ t, Nat.blt t N = true → some t ∉ D → F t = F0 t) → DepsF D (ToldT w0 Gs M) F w o.after.toList → (∀ k t x, (k = i ∨ (k, i) ∈ M) → Gs.getD k Pt.none = .thg t x → t.A w) →
    match o.guard with
    | none => Yields P (ev F) o w (LeftT Gs i w)
    | some (j, want) => ∃ d, D.getD j none = some d ∧
      ((F d = .bool want ∧ Yields P (ev F) o w (LeftT Gs i w)) ∨ ((F d = .bool (!want) ∨ F d = undef) ∧ Gs.getD i Pt.none = .eq undef))
def StepsFT (S : Nat → Prop) (M : List (Nat × Nat)) (N : Nat) (P : Program) (D : List (Option Tmp)) (Gs : List Pt) (F0 : Nat → Value) (w0 : World) : Nat → List Oper → Prop
  | _, [] => True
  | i, o :: r => StepFT S M N P D Gs F0 w0 i o ∧ StepsFT S M N P D Gs F0 w0 (i + 1) r
theorem stepsFT_nil {S : Nat → Prop} {M : List (Nat × Nat)} {D : List (Option Tmp)} {Gs : List Pt} {F0 : Nat → Value} {w0 : World} {i : Nat} : StepsFT S M N P D Gs F0 w0 i [] := trivial
theorem stepsFT_cons {S : Nat → Prop} {M : List (Nat × Nat)} {D : List (Option Tmp)} {Gs : List Pt} {F0 : Nat → Value} {w0 : World} {i : Nat} {o : Oper} {r : List Oper} (h : StepFT S M N P D Gs F0 w0 i o) (k : StepsFT S M N P D Gs F0 w0 (i + 1) r) : StepsFT S M N P D Gs F0 w0 i (o :: r) := ⟨h, k⟩
theorem StepFT.one {S : Nat → Prop} {M : List (Nat × Nat)} {D : List (Option Tmp)} {Gs : List Pt} {F0 : Nat → Value} {w0 : World} {i : Nat} {o : Oper} (hg : o.guard = none)
    (h : ∀ (F : Nat → Value) (w : World), Kept S w0 w → (∀ t, Nat.blt t N = true → some t ∉ D → F t = F0 t) → DepsF D (ToldT w0 Gs M) F w o.after.toList → Yields P (ev F) o w (LeftT Gs i w)) : StepFT S M N P D Gs F0 w0 i o := by
  intro F w h1 h2 h3 _
  rw [hg]; exact h F w h1 h2 h3
theorem StepFT.oneA {S : Nat → Prop} {M : List (Nat × Nat)} {D : List (Option Tmp)} {Gs : List Pt} {F0 : Nat → Value} {w0 : World} {i : Nat} {o : Oper} (hg : o.guard = none)
    (h : ∀ (F : Nat → Value) (w : World), Kept S w0 w → (∀ t, Nat.blt t N = true → some t ∉ D → F t = F0 t) → DepsF D (ToldT w0 Gs M) F w o.after.toList → (∀ k t x, (k, i) ∈ M → Gs.getD k Pt.none = .thg t x → t.A w) → Yields P (ev F) o w (LeftT Gs i w)) : StepFT S M N P D Gs F0 w0 i o := by
  intro F w h1 h2 h3 h4
  rw [hg]; exact h F w h1 h2 h3 (fun k t x hk => h4 k t x (.inr hk))
theorem StepFT.turn {S : Nat → Prop} {M : List (Nat × Nat)} {D : List (Option Tmp)} {Gs : List Pt} {F0 : Nat → Value} {w0 : World} {i : Nat} {t : Thg} {x : Value} {o : Oper} (hg : o.guard = none) (he : Gs.getD i Pt.none = .thg t x)
    (h : ∀ (F : Nat → Value) (w : World), Kept S w0 w → (∀ t, Nat.blt t N = true → some t ∉ D → F t = F0 t) → DepsF D (ToldT w0 Gs M) F w o.after.toList → t.A w → Yields P (ev F) o w (fun v w' => v = x ∧ Kept t.T w w' ∧ ∃ T', t.B T' w' ∧ Grew w t.T T')) : StepFT S M N P D Gs F0 w0 i o := by
  intro F w h1 h2 h3 h4
  rw [hg]
  refine (h F w h1 h2 h3 (h4 i t x (.inl rfl) he)).mono' fun v w' hx => ?_
  unfold LeftT; rw [he]; exact hx
theorem StepFT.when {S : Nat → Prop} {M : List (Nat × Nat)} {D : List (Option Tmp)} {Gs : List Pt} {F0 : Nat → Value} {w0 : World} {i : Nat} {o : Oper} (j : Nat) (want : Bool) (d : Tmp) (hg : o.guard = some (j, want)) (hd : D.getD j none = some d)
    (h : ∀ (F : Nat → Value) (w : World), Kept S w0 w → (∀ t, Nat.blt t N = true → some t ∉ D → F t = F0 t) → DepsF D (ToldT w0 Gs M) F w o.after.toList → F d = .bool want ∧ Yields P (ev F) o w (LeftT Gs i w)) : StepFT S M N P D Gs F0 w0 i o := by
  intro F w h1 h2 h3 _
  rw [hg]; exact ⟨d, hd, .inl (h F w h1 h2 h3)⟩
theorem StepFT.step {S : Nat → Prop} {M : List (Nat × Nat)} {os : List Oper} {D : List (Option Tmp)} {Gs : List Pt} {w0 : World} {i : Nat} {o : Oper} {a0 : Act} (hO : OldT S w0 Gs) (hmo : mustOk os M = true) (hio : os[i]? = some o) (ha : Fr N F a0) (h : StepFT S M N P D Gs F w0 i o) : StepJ os P D (fun L v w => ∃ Tf, JT S w0 Gs M L v Tf w) a0 i o := by
  rintro L v a w ⟨Tf, hJ⟩ hi hdone hout hhere _
  have hdeps : DepsF D (ToldT w0 Gs M) (fun t => a.tmps.getD t undef) w o.after.toList := by
    refine Deps.toF (Deps.mk fun e he hb d hd => ?_)
    have hl := hdone e he hb
    have hDe : D[e.on]? = some (some d) := by
      unfold List.getD at hd
      cases hq : D[e.on]? with
      | none => rw [hq] at hd; cases hd
      | some y => rw [hq] at hd; simp at hd; rw [hd]
    rw [hhere e.on d hl hDe, hJ.vals e.on hl]
    have key : ∀ c, L c = true → onT w0 Gs c w := fun c hc => by
      have ht := hJ.things c
      unfold onT
      unfold isT at ht
      cases e' : Gs.getD c Pt.none with
      | eq y => trivial
      | thg t y =>
        rw [e'] at ht
        simp only [hc, if_true] at ht
        exact ⟨_, ht, hJ.grew c t y e' hc⟩
    exact ⟨rfl, key _ hl, fun c hc => key c (hJ.clos _ _ hc hl)⟩
  have hM : ∀ k, (i, k) ∈ M → L k = true := fun k hk => by
    have := List.all_eq_true.1 hmo _ hk
    simp only [hio] at this
    obtain ⟨e, he, hb⟩ := List.any_eq_true.1 this
    simp only [Bool.and_eq_true, Bool.or_eq_true, beq_iff_eq] at hb
    have hl := hdone e he hb.1
    rcases hb.2 with h1 | h1
    · rw [← h1]; exact hl
    · exact hJ.clos _ _ (by simpa using h1) hl
  have h1 := h (fun t => a.tmps.getD t undef) w hJ.kept (fun t hb ht => by rw [← ha.at' t hb]; exact hout t ht) hdeps (fun k t x hk e => by
    have hLk : L k = false := by
      rcases hk with rfl | hk
      · exact hi
      · cases hL : L k with
        | false => rfl
        | true => have := hJ.clos k i hk hL; rw [hi] at this; cases this
    have := hJ.things k
    unfold isT at this
    rw [e] at this
    simpa [hLk] using this)
  rw [← eval_ev a] at h1
  unfold goes
  cases hg : o.guard with
  | none => rw [hg] at h1; exact ⟨fun _ => h1.mono' fun x w' hx => hJ.more hO hi hM hx, fun e => by cases e⟩
  | some g =>
    obtain ⟨j, want⟩ := g
    rw [hg] at h1
    obtain ⟨d, hd, h1⟩ := h1
    simp only [hd]
    have hev : a.eval (.tmp d) = a.tmps.getD d undef := rfl
    rcases h1 with ⟨hv, hy⟩ | ⟨hv, hs⟩
    · rw [hev, hv]; exact ⟨fun _ => hy.mono' fun x w' hx => hJ.more hO hi hM hx, fun e => by simp at e⟩
    · refine ⟨fun e => ?_, fun _ => hJ.more hO hi hM (by unfold LeftT; rw [hs]; exact ⟨rfl, Kept.refl _ _⟩)⟩
      rcases hv with hv | hv
      · rw [hev, hv] at e; cases want <;> simp at e
      · rw [hev, hv] at e; simp [undef] at e
theorem StepsFT.steps {S : Nat → Prop} {M : List (Nat × Nat)} {all : List Oper} {D : List (Option Tmp)} {Gs : List Pt} {w0 : World} {a0 : Act} (hO : OldT S w0 Gs) (hmo : mustOk all M = true) (ha : Fr N F a0) : ∀ {os : List Oper} {i : Nat}, (∀ k o, os[k]? = some o → all[i + k]? = some o) → StepsFT S M N P D Gs F w0 i os → StepsJ all P D (fun L v w => ∃ Tf, JT S w0 Gs M L v Tf w) a0 i os := by
  intro os
  induction os with
  | nil => intro i _ _; exact trivial
  | cons o r ih =>
    intro i hat h
    exact ⟨h.1.step hO hmo (hat 0 o rfl) ha, ih (fun k o' hk => by have := hat (k + 1) o' hk; rwa [show i + (k + 1) = i + 1 + k by omega] at this) h.2⟩
theorem wq_turns {S : Nat → Prop} {id : Nat} {ops : Array Oper} (M : List (Nat × Nat)) (D : List (Option Tmp)) (Gs : List Pt) (hm : P.follows .mixedOrders = true) (hpl : plain N 0 D ops.toList = true) (hmo : mustOk ops.toList M = true) (hsz : Gs.length = ops.size) (hO : OldT S w Gs) (hsteps : StepsFT S M N P D Gs F w 0 ops.toList)
    (hend : ∀ (v : Nat → Value) (Tf : Nat → Nat → Prop) (F' : Nat → Value) (w' : World), Kept S w w' → (∀ i, i < ops.size → v i = saysT (Gs.getD i Pt.none)) → (∀ i t x, Gs.getD i Pt.none = .thg t x → t.B (Tf i) w' ∧ Grew w t.T (Tf i)) → (∀ i j t x t' x', i ≠ j → Gs.getD i Pt.none = .thg t x → Gs.getD j Pt.none = .thg t' x' → Apart (Tf i) (Tf j)) → (∀ t, F' t = putsF v 0 D F t) → Q .normal F' w') : wq none P N (.region id ops true) Q F w := by
  intro a ha
  refine wpIn_wide.2 ?_
  refine wp_region_inv D (fun L v w' => ∃ Tf, JT S w Gs M L v Tf w') hm (by rw [ha.size]; exact hpl) ⟨fun _ => noB, (Kept.refl _ w).drew, fun _ e => (by cases e), fun i => ?_, fun _ _ _ _ e => (by cases e), hO.2, fun _ _ _ e => (by cases e)⟩ (hsteps.steps hO hmo ha (fun k o hk => by rw [Nat.zero_add]; exact hk)) fun L v w' ⟨Tf, hJ⟩ hL => ?_
  · unfold isT
    cases e : Gs.getD i Pt.none with
    | eq y => trivial
    | thg t y => exact t.stA w _ (fun _ => False) (hO.1 i t y e).2 (Kept.refl _ w).drew (fun _ _ z => z)
  · have hlt : ∀ i t x, Gs.getD i Pt.none = .thg t x → L i = true := fun i t x e => by
      refine hL i ?_
      rw [← hsz]
      rcases Nat.lt_or_ge i Gs.length with h' | h'
      · exact h'
      · have : Gs.getD i Pt.none = Pt.none := by simp [List.getD, List.getElem?_eq_none h']
        rw [this] at e; cases e
    refine ⟨putsF v 0 D F, putAll_fr v D 0 F a ha (plain_fits hpl), hend v Tf _ w' hJ.kept (fun i hi => hJ.vals i (hL i hi)) (fun i t x e => ?_) (fun i j t x t' x' hij e1 e2 => ?_) fun _ => rfl⟩
    · have := hJ.things i
      unfold isT at this
      rw [e] at this
      simp only [hlt i t x e, if_true] at this
      exact ⟨this, hJ.grew i t x e (hlt i t x e)⟩
    · have := hJ.apart i j hij
      unfold curT at this
      rw [e1, e2] at this
      simpa only [hlt i t x e1, hlt j t' x' e2, if_true] using this
end
end Go.Proofs.YtknjpdcpmpfklaaGreatDoor
set_option maxRecDepth 100000
namespace Go.Proofs.YtknjpdcpmpfklaaGreatDoor
open Go.RowKit
def hold (L : Nat → Bool) (v : Nat → Value) (C : Nat → List Nat) (vI : Value) (lI : List Nat) : List Nat → Value × List Nat
  | [] => (vI, lI)
  | x :: r => if L x = true then (v x, C x) else hold L v C vI lI r
def Closed (L : Nat → Bool) : List Nat → Prop
  | [] => True
  | [_] => True
  | y :: x :: r => (L y = true → L x = true) ∧ Closed L (x :: r)
theorem Closed.later {L : Nat → Bool} : ∀ {ys : List Nat} {x : Nat} {r : List Nat}, Closed L (ys ++ x :: r) → L x = false → ∀ y ∈ ys, L y = false := by
  intro ys
  induction ys with
  | nil => intro x r _ _ y hy; cases hy
  | cons z zs ih =>
    intro x r h hx y hy
    have hrec : Closed L (zs ++ x :: r) := by
      cases zs with
      | nil => exact h.2
      | cons z' zs' => exact h.2
    have hzs := ih hrec hx
    rcases List.mem_cons.1 hy with rfl | hy
    · cases hz : L y with
      | false => rfl
      | true =>
        cases zs with
        | nil => have := h.1 hz; rw [hx] at this; cases this
        | cons z' zs' => have := h.1 hz; rw [hzs z' (by simp)] at this; cases this
    · exact hzs y hy
theorem hold_later {L : Nat → Bool} {v : Nat → Value} {C : Nat → List Nat} {vI : Value} {lI : List Nat} : ∀ {ys r : List Nat}, (∀ y ∈ ys, L y = false) → hold L v C vI lI (ys ++ r) = hold L v C vI lI r := by
  intro ys
  induction ys with
  | nil => intro r _; rfl
  | cons z zs ih =>
    intro r h
    simp only [List.cons_append, hold]
    rw [if_neg (by rw [h z (by simp)]; decide)]
    exact ih (fun y hy => h y (by simp [hy]))
theorem Closed.up {L : Nat → Bool} : ∀ {X : List Nat} {i : Nat}, Closed L X → (∀ ys x r, X = ys ++ i :: x :: r → L x = true) → Closed (upL L i) X := by
  intro X
  induction X with
  | nil => intro i _ _; exact trivial
  | cons y r ih =>
    intro i h hp
    cases r with
    | nil => exact trivial
    | cons x r =>
      refine ⟨fun hy => ?_, ih h.2 fun ys x' r' e => hp (y :: ys) x' r' (by rw [e]; rfl)⟩
      unfold upL at hy ⊢
      by_cases hx : x = i
      · rw [if_pos hx]
      · rw [if_neg hx]
        by_cases hyi : y = i
        · subst hyi; exact hp [] x r rfl
        · rw [if_neg hyi] at hy; exact h.1 hy
theorem Closed.up_other {L : Nat → Bool} {X : List Nat} {i : Nat} (h : Closed L X) (hi : i ∉ X) : Closed (upL L i) X :=
  h.up fun ys x r e => absurd (by rw [e]; simp) hi
theorem hold_up_other {L : Nat → Bool} {v : Nat → Value} {C : Nat → List Nat} {vI : Value} {lI : List Nat} {i : Nat} {x : Value} : ∀ {X : List Nat}, i ∉ X → hold (upL L i) (upV v i x) C vI lI X = hold L v C vI lI X := by
  intro X
  induction X with
  | nil => intro _; rfl
  | cons y r ih =>
    intro hi
    have hy : y ≠ i := fun e => hi (by simp [e])
    simp only [hold]
    rw [show upL L i y = L y from if_neg hy, show upV v i x y = v y from if_neg hy, ih (fun h => hi (by simp [h]))]
def OwnJ (w0 : World) (S0 : Nat → Prop) (B : Nat) (vI : Value) (lI : List Nat) (X : List Nat) (C : Nat → List Nat) (G : Nat → Value → World → Prop) (L : Nat → Bool) (v : Nat → Value) (w : World) : Prop :=
  ∃ S : Nat → Prop, (∀ k, S k → k < w.heap.size) ∧ (∀ k, S k → S0 k ∨ w0.heap.size ≤ k) ∧ Kept S w0 w ∧ Closed L X ∧ (∀ j, L j = true → ∀ w', Kept S w w' → G j (v j) w') ∧
    Row w B (hold L v C vI lI X).1 (hold L v C vI lI X).2 ∧ (∀ g, (hold L v C vI lI X).1.ownBlock = some g → S g)
theorem StepJ.other {os : List Oper} {P : Program} {D : List (Option Tmp)} {w0 : World} {S0 : Nat → Prop} {B : Nat} {vI : Value} {lI X : List Nat} {C : Nat → List Nat} {G : Nat → Value → World → Prop} {a0 : Act} {i : Nat} {o : Oper} (hi : i ∉ X)
    (h : ∀ (S : Nat → Prop) (a : Act) (w : World), (∀ k, S k → k < w.heap.size) → (∀ w', Kept S w w' → Kept S0 w0 w') → (∀ t, some t ∉ D → a.eval (.tmp t) = a0.eval (.tmp t)) → (∀ t, late os t i = true → a.eval (.tmp t) = a0.eval (.tmp t)) →
      Deps D (fun j x w => ∀ w', Kept S w w' → G j x w') a w o.after.toList → (∀ x, X.head? = some x → ∀ e ∈ o.after.toList, e.on = x → Region.binds .any e = true → ∀ d, D.getD x none = some d → Row w B (a.eval (.tmp d)) (C x)) →
      (goes D o a = true → Yields P a.eval o w (fun x w' => (∀ w'', Kept S w' w'' → G i x w'') ∧ Kept (fun _ => False) w w')) ∧ (goes D o a = false → ∀ w', Kept S w w' → G i undef w')) :
    StepJ os P D (OwnJ w0 S0 B vI lI X C G) a0 i o := by
  intro L v a w ⟨S, hlt, h0, hk, hcl, hg, hrow, hown⟩ hli hedges hout hhere hlate
  have hR : ∀ w', Kept S w w' → Kept S0 w0 w' := fun w' k => (hk.trans k (fun _ _ x => x)).mono (fun b hb hS => by
    rcases h0 b hS with h | h
    · exact h
    · omega)
  have hdeps : Deps D (fun j x w => ∀ w', Kept S w w' → G j x w') a w o.after.toList := Deps.mk fun e he hb d hd => by
    have hL := hedges e he hb
    have hDe : D[e.on]? = some (some d) := by
      cases hx : D[e.on]? with
      | none => simp [List.getD, hx] at hd
      | some y => simp [List.getD, hx] at hd; rw [hd]
    rw [hhere e.on d hL hDe]
    exact hg e.on hL
  have hr : ∀ x, X.head? = some x → ∀ e ∈ o.after.toList, e.on = x → Region.binds .any e = true → ∀ d, D.getD x none = some d → Row w B (a.eval (.tmp d)) (C x) := by
    intro x hx e he hex hb d hd
    subst hex
    have hL := hedges e he hb
    have hDe : D[e.on]? = some (some d) := by
      cases hx : D[e.on]? with
      | none => simp [List.getD, hx] at hd
      | some y => simp [List.getD, hx] at hd; rw [hd]
    rw [hhere e.on d hL hDe]
    cases X with
    | nil => cases hx
    | cons y r =>
      simp at hx
      subst hx
      simpa [hold, hL] using hrow
  obtain ⟨s1, s2⟩ := h S a w hlt hR hout hlate hdeps hr
  have fin : ∀ (x : Value) (w' : World), (∀ w'', Kept S w' w'' → G i x w'') → Kept (fun _ => False) w w' → OwnJ w0 S0 B vI lI X C G (upL L i) (upV v i x) w' := by
    intro x w' hG hkk
    refine ⟨S, fun k hS => Nat.lt_of_lt_of_le (hlt k hS) hkk.size, h0, hk.trans hkk (fun _ _ f => f.elim), hcl.up_other hi, fun j hj w'' k => ?_, ?_, ?_⟩
    · by_cases hji : j = i
      · subst hji; rw [show upV v j x j = x from if_pos rfl]; exact hG w'' k
      · rw [show upL L i j = L j from if_neg hji] at hj
        rw [show upV v i x j = v j from if_neg hji]
        exact hg j hj w'' ((hkk.mono (S' := S) (fun _ _ f => f.elim)).trans k (fun _ _ f => f))
    · rw [hold_up_other hi]; exact hrow.all hkk
    · rw [hold_up_other hi]; exact hown
  refine ⟨fun hgo => ?_, fun hgo => fin undef w (s2 hgo) (Kept.refl _ _)⟩
  have := s1 hgo
  revert this
  unfold Yields
  generalize (execOp a.eval o).run P w = r
  intro hh
  cases r with
  | ok n w' =>
    cases n <;> simp only at hh ⊢ <;> first
      | exact fin _ _ hh.1 hh.2
      | exact hh.elim
      | exact Calls.mono hh (fun e w'' ⟨y, he, hk⟩ => ⟨y, he, fin _ _ hk.1 hk.2⟩)
  | halt x w' => exact hh.elim
def Prev (D : List (Option Tmp)) (C : Nat → List Nat) (vI : Value) (lI : List Nat) (a : Act) (p : Value) (lp : List Nat) : List Nat → Prop
  | [] => p = vI ∧ lp = lI
  | x :: _ => lp = C x ∧ ∀ d, D.getD x none = some d → p = a.eval (.tmp d)
theorem StepJ.own {os : List Oper} {P : Program} {D : List (Option Tmp)} {w0 : World} {S0 : Nat → Prop} {B : Nat} {vI : Value} {lI X : List Nat} {C : Nat → List Nat} {G : Nat → Value → World → Prop} {a0 : Act} {i : Nat} {o : Oper} (ys r : List Nat) (hX : X = ys ++ i :: r) (hnd : i ∉ ys ∧ i ∉ r)
    (hr : ∀ x, r.head? = some x → ∃ e ∈ o.after.toList, e.on = x ∧ Region.binds .any e = true ∧ ∃ d, D.getD x none = some d) (hG : ∀ x w, G i x w)
    (h : ∀ (S : Nat → Prop) (a : Act) (w : World), (∀ k, S k → k < w.heap.size) → (∀ w', Kept S w w' → Kept S0 w0 w') → (∀ t, some t ∉ D → a.eval (.tmp t) = a0.eval (.tmp t)) → (∀ t, late os t i = true → a.eval (.tmp t) = a0.eval (.tmp t)) →
      Deps D (fun j x w => ∀ w', Kept S w w' → G j x w') a w o.after.toList → ∀ (p : Value) (lp : List Nat), Row w B p lp →
      Prev D C vI lI a p lp r →
      goes D o a = true ∧ Yields P a.eval o w (fun x w' => Row w' B x (C i) ∧ Kept (fun k => p.ownBlock = some k) w w' ∧ (x.ownBlock = p.ownBlock ∨ ∀ g, x.ownBlock = some g → w.heap.size ≤ g))) :
    StepJ os P D (OwnJ w0 S0 B vI lI X C G) a0 i o := by
  intro L v a w ⟨S, hlt, h0, hk, hcl, hg, hrow, hown⟩ hli hedges hout hhere hlate
  subst hX
  have hlater := hcl.later hli
  have hhold : hold L v C vI lI (ys ++ i :: r) = hold L v C vI lI r := by
    rw [hold_later hlater]
    show (if L i = true then (v i, C i) else hold L v C vI lI r) = hold L v C vI lI r
    rw [if_neg (by rw [hli]; decide)]
  rw [hhold] at hrow hown
  have hR : ∀ w', Kept S w w' → Kept S0 w0 w' := fun w' k => (hk.trans k (fun _ _ x => x)).mono (fun b hb hS => by
    rcases h0 b hS with h | h
    · exact h
    · omega)
  have hat : ∀ (j : Nat) (d : Tmp), D.getD j none = some d → D[j]? = some (some d) := by
    intro j d hd
    cases hx : D[j]? with
    | none => simp [List.getD, hx] at hd
    | some y => simp [List.getD, hx] at hd; rw [hd]
  have hdeps : Deps D (fun j x w => ∀ w', Kept S w w' → G j x w') a w o.after.toList := Deps.mk fun e he hb d hd => by
    have hL := hedges e he hb
    rw [hhere e.on d hL (hat e.on d hd)]
    exact hg e.on hL
  have hlx : ∀ x, r.head? = some x → L x = true := by
    intro x hx
    obtain ⟨e, he, rfl, hb, _⟩ := hr x hx
    exact hedges e he hb
  have hp : Prev D C vI lI a (hold L v C vI lI r).1 (hold L v C vI lI r).2 r := by
    clear hhold hrow hown hcl h
    cases r with
    | nil => exact ⟨rfl, rfl⟩
    | cons x r' =>
      have hL := hlx x rfl
      have e1 : hold L v C vI lI (x :: r') = (v x, C x) := by
        show (if L x = true then (v x, C x) else hold L v C vI lI r') = _
        rw [if_pos hL]
      refine ⟨by rw [e1], fun d hd => ?_⟩
      rw [e1, hhere x d hL (hat x d hd)]
  obtain ⟨hgo, hy⟩ := h S a w hlt hR hout hlate hdeps _ _ hrow hp
  generalize (hold L v C vI lI r).1 = p at *
  have fin : ∀ (x : Value) (w' : World), Row w' B x (C i) → Kept (fun k => p.ownBlock = some k) w w' → (x.ownBlock = p.ownBlock ∨ ∀ g, x.ownBlock = some g → w.heap.size ≤ g) → OwnJ w0 S0 B vI lI (ys ++ i :: r) C G (upL L i) (upV v i x) w' := by
    intro x w' hrx hkk hwh
    have hkS : Kept S w w' := hkk.mono (fun k _ e => hown k e)
    refine ⟨fun k => S k ∨ x.ownBlock = some k, ?_, ?_, ?_, ?_, ?_, ?_, ?_⟩
    · rintro k (hS | hx)
      · exact Nat.lt_of_lt_of_le (hlt k hS) hkk.size
      · exact (hrx.lt k hx).2
    · rintro k (hS | hx)
      · exact h0 k hS
      · rcases hwh with e | e
        · exact h0 k (hown k (by rw [← e]; exact hx))
        · exact .inr (Nat.le_trans hk.size (e k hx))
    · exact (hk.trans hkS (fun _ _ x => x)).mono (fun _ _ x => .inl x)
    · refine hcl.up fun ys' x' r' e => ?_
      -- the two ways to part the list are one
      have key : ∀ (zs ys' : List Nat) (x' : Nat) (r r' : List Nat), i ∉ zs → i ∉ ys' → zs ++ i :: r = ys' ++ i :: x' :: r' → r = x' :: r' := by
        intro zs
        induction zs with
        | nil =>
          intro ys' x' r r' _ hy e
          cases ys' with
          | nil => simpa using e
          | cons z zs => simp at e; exact absurd e.1 (fun h => hy (by simp [h]))
        | cons z zs ih =>
          intro ys' x' r r' hz hy e
          cases ys' with
          | nil => simp at e; exact absurd e.1.symm (fun h => hz (by simp [h]))
          | cons y ys'' => simp at e; exact ih ys'' x' r r' (fun h => hz (by simp [h])) (fun h => hy (by simp [h])) e.2
      have hin : i ∉ ys' := by
        intro hm
        have hc : (ys ++ i :: r).count i = 1 := by rw [List.count_append, List.count_eq_zero_of_not_mem hnd.1, List.count_cons_self, List.count_eq_zero_of_not_mem hnd.2]
        rw [e, List.count_append, List.count_cons_self] at hc
        have := List.count_pos_iff.2 hm
        omega
      have := key ys ys' x' r r' hnd.1 hin e
      subst this
      exact hlx x' rfl
    · intro j hj w'' k
      by_cases hji : j = i
      · subst hji; exact hG _ _
      · rw [show upL L i j = L j from if_neg hji] at hj
        rw [show upV v i x j = v j from if_neg hji]
        refine hg j hj w'' (hkS.trans k fun b hb hS => ?_)
        rcases hS with hS | hx
        · exact hS
        · rcases hwh with e | e
          · exact hown b (by rw [← e]; exact hx)
          · have := e b hx; omega
    · have e : hold (upL L i) (upV v i x) C vI lI (ys ++ i :: r) = (x, C i) := by
        rw [hold_later (fun y hym => by rw [show upL L i y = L y from if_neg (fun h : y = i => hnd.1 (by rw [← h]; exact hym))]; exact hlater y hym)]
        show (if upL L i i = true then (upV v i x i, C i) else _) = _
        rw [if_pos (show upL L i i = true from if_pos rfl), show upV v i x i = x from if_pos rfl]
      rw [e]; exact hrx
    · have e : hold (upL L i) (upV v i x) C vI lI (ys ++ i :: r) = (x, C i) := by
        rw [hold_later (fun y hym => by rw [show upL L i y = L y from if_neg (fun h : y = i => hnd.1 (by rw [← h]; exact hym))]; exact hlater y hym)]
        show (if upL L i i = true then (upV v i x i, C i) else _) = _
        rw [if_pos (show upL L i i = true from if_pos rfl), show upV v i x i = x from if_pos rfl]
      rw [e]
      intro g hgx
      exact .inr hgx
  refine ⟨fun _ => ?_, fun hno => ?_⟩
  · revert hy
    unfold Yields
    generalize (execOp a.eval o).run P w = res
    intro hh
    cases res with
    | ok n w' =>
      cases n <;> simp only at hh ⊢ <;> first
        | exact fin _ _ hh.1 hh.2.1 hh.2.2
        | exact hh.elim
        | exact Calls.mono hh (fun e w'' ⟨y, he, hk⟩ => ⟨y, he, fin _ _ hk.1 hk.2.1 hk.2.2⟩)
    | halt x w' => exact hh.elim
  · rw [hgo] at hno; cases hno
section
variable {os : List Oper} {P : Program} {D : List (Option Tmp)} {w0 : World} {S0 : Nat → Prop} {B : Nat} {vI : Value} {lI X : List Nat} {C : Nat → List Nat} {Gs : List Pd} {a0 : Act} {i : Nat} {o : Oper}
theorem StepJ.one (hi : i ∉ X) (hg : o.guard = none)
    (h : ∀ (S : Nat → Prop) (a : Act) (w : World), (∀ k, S k → k < w.heap.size) → (∀ w', Kept S w w' → Kept S0 w0 w') → (∀ t, some t ∉ D → a.eval (.tmp t) = a0.eval (.tmp t)) → (∀ t, late os t i = true → a.eval (.tmp t) = a0.eval (.tmp t)) →
      Deps D (fun j x w => ∀ w', Kept S w w' → Said Gs j x w') a w o.after.toList → (∀ x, X.head? = some x → ∀ e ∈ o.after.toList, e.on = x → Region.binds .any e = true → ∀ d, D.getD x none = some d → Row w B (a.eval (.tmp d)) (C x)) →
      Yields P a.eval o w (fun x w' => (∀ w'', Kept S w' w'' → Said Gs i x w'') ∧ Kept (fun _ => False) w w')) :
    StepJ os P D (OwnJ w0 S0 B vI lI X C (Said Gs)) a0 i o :=
  StepJ.other hi fun S a w hlt hR hout hlate hD hrow => ⟨fun _ => h S a w hlt hR hout hlate hD hrow, fun hno => by unfold goes at hno; rw [hg] at hno; cases hno⟩
theorem goes_of {a : Act} {j : Nat} {want : Bool} {d : Tmp} (hg : o.guard = some (j, want)) (hd : D.getD j none = some d) (h : a.eval (.tmp d) = .bool want) : goes D o a = true := by
  unfold goes
  rw [hg]
  simp only [hd, h]
  simp
theorem StepJ.when (hi : i ∉ X) (j : Nat) (want : Bool) (d : Tmp) (hg : o.guard = some (j, want)) (hd : D.getD j none = some d)
    (h : ∀ (S : Nat → Prop) (a : Act) (w : World), (∀ k, S k → k < w.heap.size) → (∀ w', Kept S w w' → Kept S0 w0 w') → (∀ t, some t ∉ D → a.eval (.tmp t) = a0.eval (.tmp t)) → (∀ t, late os t i = true → a.eval (.tmp t) = a0.eval (.tmp t)) →
      Deps D (fun j x w => ∀ w', Kept S w w' → Said Gs j x w') a w o.after.toList → (∀ x, X.head? = some x → ∀ e ∈ o.after.toList, e.on = x → Region.binds .any e = true → ∀ d, D.getD x none = some d → Row w B (a.eval (.tmp d)) (C x)) →
      a.eval (.tmp d) = .bool want ∧ Yields P a.eval o w (fun x w' => (∀ w'', Kept S w' w'' → Said Gs i x w'') ∧ Kept (fun _ => False) w w')) :
    StepJ os P D (OwnJ w0 S0 B vI lI X C (Said Gs)) a0 i o :=
  StepJ.other hi fun S a w hlt hR hout hlate hD hrow => by
    obtain ⟨h1, h2⟩ := h S a w hlt hR hout hlate hD hrow
    exact ⟨fun _ => h2, fun hno => by rw [goes_of hg hd h1] at hno; cases hno⟩
end
end Go.Proofs.YtknjpdcpmpfklaaGreatDoor
set_option maxRecDepth 100000
namespace Go.Proofs.YtknjpdcpmpfklaaGreatDoor
open Go.RowKit
theorem byteVals_zeros (n : Nat) : (madeCells (Value.int .u8 0).cells n).toList = byteVals (List.replicate n 0) := by
  unfold madeCells byteVals Value.cells
  rw [List.map_replicate]
  apply List.ext_getElem?
  intro i
  by_cases h : i < n
  · simp [h, Nat.mod_one]
  · simp [h]
theorem run_make_bytes (w : World) (kl kc : IntKind) (n : Nat) (hn : n < 1099511627776) :
    (Instr.makeSlice 26 (.int kl (n : Int)) (.int kc (n : Int))).run Tryz.prog w = .ok (.slice (some ⟨w.heap.size, 0, none⟩) n n) (w.alloc (.cells (byteVals (List.replicate n 0)).toArray 5)) := by
  obtain ⟨i0, hi, hz0, hz1, hz2⟩ := info_parts Tryz.info_u8
  have hr := run_make (P := Tryz.prog) w 26 5 i0 (.int .u8 0) Tryz.underlying26 hi hz0 kl kc n n (by omega) (Int.le_refl _) (by rw [hz2]; omega) (by omega)
  simp only [Int.toNat_natCast, hz1, Nat.mul_one] at hr
  rw [hr, ← byteVals_zeros]
theorem zeros_lt (n : Nat) : ∀ x ∈ List.replicate n 0, x < 256 := by intro x hx; have := (List.mem_replicate.1 hx).2; omega
theorem row_zeros (w : World) (B n : Nat) (hB : B ≤ w.heap.size) (hn : n < 1099511627776) : Row (w.alloc (.cells (byteVals (List.replicate n 0)).toArray 5)) B (.slice (some ⟨w.heap.size, 0, none⟩) n n) (List.replicate n 0) := by
  have h := Row.of_new (B := B) (l := List.replicate n 0) (heap_alloc_new w _) hB (by rw [List.length_replicate]; unfold maxLen; omega) (zeros_lt n)
  rwa [List.length_replicate] at h
theorem y_make {ρ : Operand → Value} {o : Oper} {w : World} {R : Value → World → Prop} {x y : Operand} {kl kc : IntKind} {n : Nat} (ho : o.op = .makeSlice 26 x y) (hx : ρ x = .int kl (n : Int)) (hy : ρ y = .int kc (n : Int)) (hn : n < 1099511627776)
    (h : R (.slice (some ⟨w.heap.size, 0, none⟩) n n) (w.alloc (.cells (byteVals (List.replicate n 0)).toArray 5))) : Yields Tryz.prog ρ o w R :=
  y_val (by simp [execOp, ho, hx, hy, run_make_bytes w kl kc n hn]) h
theorem y_built1 {ρ : Operand → Value} {o : Oper} {w : World} {R : Value → World → Prop} {x : Operand} {c : Nat} (ho : o.op = .buildSlice 26 1 #[(0, x)]) (hx : ρ x = .int .u8 (c : Int))
    (h : R (.slice (some ⟨w.heap.size, 0, none⟩) 1 1) (w.alloc (.cells (byteVals [c]).toArray 5))) : Yields Tryz.prog ρ o w R :=
  y_val (v := .slice (some ⟨w.heap.size, 0, none⟩) 1 1) (w' := w.alloc (.cells (byteVals [c]).toArray 5)) (by simp [execOp, ho, hx, go_sem]; rfl) h
theorem BytesArg.upto {w : World} {v : Value} {l : List Nat} (h : BytesArg w v l) (j : Nat) (hj : j ≤ l.length) (k : IntKind) :
    ∃ v', (Instr.sliceAt 26 v none (some (.int k (j : Int))) none).run Tryz.prog w = .ok v' w ∧ BytesArg w v' (l.take j) := by
  obtain ⟨a, cap, rfl, h1, h2, h3, h256, hc⟩ := h
  have hb : ¬ cap < j := by omega
  have hb0 : BytesArg w (.slice a l.length cap) l := ⟨a, cap, rfl, h1, h2, h3, h256, hc⟩
  obtain ⟨i0, hi, hz0, hz1, hz2⟩ := info_parts Tryz.info_u8
  refine ⟨.slice a j cap, ?_, ?_⟩
  · cases a with
    | none => simp [Instr.sliceAt, Instr.slice, Instr.sliceBounds, Instr.sliceBound, asIntOf, run_underlying Tryz.underlying26, sizeOf, typeInfo, hi, hb]
    | some ad => simp [Instr.sliceAt, Instr.slice, Instr.sliceBounds, Instr.sliceBound, asIntOf, run_underlying Tryz.underlying26, sizeOf, typeInfo, hi, hb, Addr.add]
  · have := hb0.cut 0 j cap (Nat.zero_le _) hj (by omega) h2 a (fun _ => by cases a with | none => rfl | some ad => simp [Addr.add]) h3
    simpa using this
end Go.Proofs.YtknjpdcpmpfklaaGreatDoor
set_option maxRecDepth 100000
namespace Go.Proofs.YtknjpdcpmpfklaaGreatDoor
open Go.RowKit
def Owb (w : World) (T : Nat → Prop) (v : Value) (l : List Nat) : Prop := Row w 0 v l ∧ ∀ i, T i ↔ v.ownBlock = some i
theorem Owb.nil (w : World) : Owb w noB (.slice none 0 0) [] := ⟨Row.nil w 0, fun i => ⟨fun h => h.elim, fun h => by cases h⟩⟩
theorem Owb.live {w : World} {T : Nat → Prop} {v : Value} {l : List Nat} (h : Owb w T v l) : Live w T := fun i hi => (h.1.lt i ((h.2 i).1 hi)).2
theorem Owb.byt {w : World} {T : Nat → Prop} {v : Value} {l : List Nat} (h : Owb w T v l) : Byt w T v l := ⟨h.1.bytes, h.live, fun _ a n c e => (h.2 a.block).2 (by rw [e]; rfl)⟩
theorem Owb.all {S : Nat → Prop} {w w' : World} {T : Nat → Prop} {v : Value} {l : List Nat} (h : Owb w T v l) (k : Kept S w w') (ha : Apart T S) : Owb w' T v l := ⟨h.1.kept k (fun g hg => ha g ((h.2 g).2 hg)), h.2⟩
theorem Owb.one {w : World} {T : Nat → Prop} {v : Value} {l : List Nat} (h : Owb w T v l) : v.oneCell' = true := h.byt.one
theorem Owb.oneC {w : World} {T : Nat → Prop} {v : Value} {l : List Nat} (h : Owb w T v l) : oneC v = true := h.byt.oneC
theorem Owb.cells {w : World} {T : Nat → Prop} {v : Value} {l : List Nat} (h : Owb w T v l) : Cells w T := fun i hi => by
  have hv := (h.2 i).1 hi
  rcases h.1.1.2 with ⟨rfl, _⟩ | ⟨g, cap, cur, rfl, _, hg, _⟩
  · cases hv
  · cases hv; exact ⟨_, hg, rfl⟩
theorem Owb.row {A B : World} {row : Option Nat} {n : Nat} {T : Nat → Prop} {v : Value} {l : List Nat} (h : Owb A T v l) (hg : A.grownBy B row) (hr : RowNew n A row) : Owb B T v l := h.all (kept_row hg) (h.cells.apart hr)
theorem Owb.lt256 {w : World} {T : Nat → Prop} {v : Value} {l : List Nat} (h : Owb w T v l) : ∀ x ∈ l, x < 256 := h.1.2
theorem Owb.of {w : World} {v : Value} {l : List Nat} (h : Row w 0 v l) : Owb w (fun i => v.ownBlock = some i) v l := ⟨h, fun _ => Iff.rfl⟩
theorem Byt.lt256 {w : World} {T : Nat → Prop} {v : Value} {l : List Nat} (h : Byt w T v l) : ∀ x ∈ l, x < 256 := h.1.lt256
def bytAddr (v : Value) (j : Nat) : Value := match v with
  | .slice (some a) _ _ => .pointer (some (a.add j))
  | _ => undef
section
variable {ρ : Operand → Value} {o : Oper} {w : World} {R : Value → World → Prop}
theorem y_atB {x ix : Operand} {T : Nat → Prop} {v : Value} {l : List Nat} {k : IntKind} (j : Nat) {i : Int} (ho : o.op = .indexAddr 26 x ix) (hx : ρ x = v) (hi : ρ ix = .int k i) (hij : i = (j : Int)) (hb : Byt w T v l) (hj : j < l.length) (h : R (bytAddr v j) w) : Yields Tryz.prog ρ o w R := by
  subst hij
  obtain ⟨⟨a, cap, rfl, _, _, _, _, hc⟩, _⟩ := hb
  obtain ⟨b, off, rfl, _, _⟩ := hc (by omega)
  obtain ⟨i0, hi0, hz0, hz1, hz2⟩ := info_parts Tryz.info_u8
  exact y_val (v := bytAddr (.slice (some ⟨b, off, none⟩) l.length cap) j) (w' := w) (by simp [execOp, ho, hx, hi, Instr.indexAt, run_underlying Tryz.underlying26, asIntOf, sizeOf, typeInfo, hi0, hz1, hj, bytAddr]) h
theorem Byt.at_ {w : World} {T : Nat → Prop} {v : Value} {l : List Nat} {j : Nat} (hb : Byt w T v l) (hj : j < l.length) : ∃ a, bytAddr v j = .pointer (some a) ∧ w.cell? a = some (.int .u8 (l.getD j 0 : Nat)) := by
  obtain ⟨⟨a, cap, rfl, _, _, _, _, hc⟩, _⟩ := hb
  obtain ⟨b, off, rfl, _, hcell⟩ := hc (by omega)
  exact ⟨⟨b, off + j, none⟩, by rw [bytAddr, Addr.add_lit], hcell j hj⟩
theorem y_ldB {x : Operand} {T : Nat → Prop} {v : Value} {l : List Nat} {j : Nat} (ho : o.op = .load 5 x) (hx : ρ x = bytAddr v j) (hb : Byt w T v l) (hj : j < l.length) (h : R (.int .u8 ((l.getD j 0 : Nat) : Int)) w) : Yields Tryz.prog ρ o w R := by
  obtain ⟨a, ha, hc⟩ := hb.at_ hj
  exact y_ldA ho (hx.trans ha) Tryz.underlying5 rfl hc h
end
theorem run_append_where (w : World) (ty : TypeId) (v x : Value) (l m : List Nat) (hown : Row w 0 v l) (hx : BytesArg w x m) (hl : l.length + m.length < 1099511627776) :
    ∃ v' w', (Builtin.append_ #[26, 26] ty #[v, x]).run Tryz.prog w = .ok v' w' ∧ Appended w w' 0 v v' (l ++ m) ∧ (v'.ownBlock = v.ownBlock ∨ ∀ i, v'.ownBlock = some i → w.heap.size ≤ i) := by
  obtain ⟨v', w', hr, hA⟩ := run_append_bytes w ty 0 v x l m hown hx hl (Nat.zero_le _)
  refine ⟨v', w', hr, hA, ?_⟩
  obtain ⟨i0, hi, hz0, hz1, hz2⟩ := info_parts Tryz.info_u8
  obtain ⟨a, cap, rfl, h1, h2, h3, h256, hc⟩ := hx
  rcases hown.1.2 with ⟨rfl, h0⟩ | ⟨g, cp, cur, rfl, hb, hg, hnc, hcm, hcs, htake⟩
  · -- none yet: whatever there is is new
    right
    intro i hi'
    have hnil : l = [] := List.eq_nil_of_length_eq_zero h0
    subst hnil
    obtain ⟨v2, w2, hr2, hA2⟩ := run_append_bytes w ty w.heap.size (.slice none 0 0) (.slice a m.length cap) [] m (Row.nil w _) ⟨a, cap, rfl, h1, h2, h3, h256, hc⟩ (by simpa using hl) (Nat.le_refl _)
    rw [hr] at hr2
    cases hr2
    exact (hA2.1.lt i hi').1
  · cases a with
    | none =>
      have hc0 := h3 rfl
      subst hc0
      have hm : m = [] := List.eq_nil_of_length_eq_zero (by omega)
      subst hm
      left
      have hr2 := run_append_owned_none (P := Tryz.prog) w 0 26 ty _ i0 1 Tryz.underlying26 hi (.slice (some ⟨g, 0, none⟩) l.length cp) _ _ hown.1
      simp only [List.length_nil] at hr
      rw [hr2] at hr
      cases hr; rfl
    | some ad =>
      have hcells : ∀ j u, (byteVals m)[j]? = some u → w.cell? (ad.add j) = some u := by
        intro j u hj
        have hjl : j < m.length := by
          have := (List.getElem?_eq_some_iff.1 hj).1
          rwa [byteVals_length] at this
        obtain ⟨b, off, he, hb, hcell⟩ := hc (by omega)
        cases he
        rw [Addr.add_lit, hcell j hjl, ← hj, byteVals_at m j hjl]
      by_cases hroom : l.length + m.length ≤ cp
      · left
        have hr2 := run_append_room (P := Tryz.prog) w 26 ty 5 i0 Tryz.underlying26 hi g l.length cp cur hg ad m.length cap (byteVals m) (by rw [hz1, byteVals_length]; omega) hcells (byteVals_one m) hroom (by rw [hz1, byteVals_length, hcs]; omega)
        rw [hr2] at hr
        cases hr; rfl
      · right
        intro i hi'
        have hr2 := run_append_grow (P := Tryz.prog) w 26 ty 5 i0 (.int .u8 0) Tryz.underlying26 hi hz0 ⟨g, 0, none⟩ l.length cp (byteVals l) (by rw [hz1, byteVals_length]; omega) (hown.1.cells rfl) ad m.length cap (byteVals m) (by rw [hz1, byteVals_length]; omega) hcells (by omega) (by omega) (growslice_fits (by omega) (by rw [hz2]; omega))
        rw [hr2] at hr
        cases hr
        cases hi'; exact Nat.le_refl _
section
variable {ro : Option Nat} {N : Nat} {Q : (Exit → (Nat → Value) → World → Prop)} {F : Nat → Value} {w : World} {o : Oper}
theorem wl_setB {ops : Array Oper} {rest : List Oper} {x y : Operand} {T : Nat → Prop} {v : Value} {l : List Nat} {j n : Nat} {z : Int} (hg : o.guard = none) (hdn : o.dst = none) (ho : o.op = .store 5 x y) (hx : ev (cutF N F) x = bytAddr v j) (hy : ev (cutF N F) y = .int .u8 z) (hz : z = (n : Int)) (hB : Owb w T v l) (hj : j < l.length) (hn : n < 256)
    (h : ∀ w', Owb w' T v (l.set j n) → Kept T w w' → wl ro Tryz.prog N ops Q rest F w') : wl ro Tryz.prog N ops Q (o :: rest) F w := by
  subst hz
  have hc := hB
  rcases hB.1.1.2 with ⟨rfl, h0⟩ | ⟨g, cap, cur, rfl, hb, hgg, hnc, hcm, hcs, htake⟩
  · omega
  · have hcell := hB.1.1.cellAt j (by omega)
    have hat : w.cell? ⟨g, j, none⟩ = some (.int .u8 ((l.getD j 0 : Nat) : Int)) := by rw [hcell]; exact byteVals_at l j hj
    have hf : w.frozen? ⟨g, j, none⟩ = false := frozen_of_heap hgg
    have hx' : ev (cutF N F) x = .pointer (some ⟨g, j, none⟩) := by rw [hx, bytAddr, Addr.add_lit, Nat.zero_add]
    obtain ⟨i0, hi0, hz0, hz1, hz2⟩ := info_parts Tryz.info_u8
    refine wl_op hg (by rw [hdn]; rfl) ?_
    have e : (execOp (ev (cutF N F)) o).run Tryz.prog w = .ok .skip (w.setCell ⟨g, j, none⟩ (.int .u8 (n : Int))) ∨ (execOp (ev (cutF N F)) o).run Tryz.prog w = .ok (.value undef) (w.setCell ⟨g, j, none⟩ (.int .u8 (n : Int))) := by
      simp [execOp, ho, hx', hy, Instr.storeAt, Instr.sureAddr, storeVar, sizeOf, typeInfo, hi0, hz1, Value.cells, hat, hf, go_sem]
    have hrow : Owb (w.setCell ⟨g, j, none⟩ (.int .u8 (n : Int))) T (.slice (some ⟨g, 0, none⟩) l.length cap) (l.set j n) := ⟨hB.1.stored rfl j n hn, hB.2⟩
    unfold Yields
    rw [hdn]
    rcases e with e | e <;> rw [e] <;> exact h _ hrow ((Kept.refl T w).setCell ⟨g, j, none⟩ (fun _ => (hB.2 g).2 rfl) _)
theorem wl_makeB {ops : Array Oper} {rest : List Oper} {x y : Operand} {kl kc : IntKind} {n : Nat} {i j : Int} (hg : o.guard = none) (hd : fits N o.dst = true) (ho : o.op = .makeSlice 26 x y) (hx : ev (cutF N F) x = .int kl i) (hy : ev (cutF N F) y = .int kc j) (hi : i = (n : Int)) (hj : j = (n : Int)) (hn : n < 1099511627776)
    (h : ∀ v w' T, Owb w' T v (List.replicate n 0) → Grew w noB T → Kept (fun _ => False) w w' → wl ro Tryz.prog N ops Q rest (putF F o.dst v) w') : wl ro Tryz.prog N ops Q (o :: rest) F w := by
  subst hi; subst hj
  refine wl_op hg hd (y_make ho hx hy hn (h _ _ _ (Owb.of (row_zeros w 0 n (Nat.zero_le _) hn)) (fun i hi => .inr ?_) ((Kept.refl _ _).alloc _)))
  cases hi; exact Nat.le_refl _
theorem wl_builtB0 {ops : Array Oper} {rest : List Oper} (hg : o.guard = none) (hd : fits N o.dst = true) (ho : o.op = .buildSlice 26 0 #[])
    (h : ∀ v w' T, Owb w' T v [] → Grew w noB T → Kept (fun _ => False) w w' → wl ro Tryz.prog N ops Q rest (putF F o.dst v) w') : wl ro Tryz.prog N ops Q (o :: rest) F w := by
  refine wl_op hg hd (y_val (v := .slice (some ⟨w.heap.size, 0, none⟩) 0 0) (w' := w.alloc (.cells (byteVals []).toArray 5)) (by simp [execOp, ho, go_sem]; rfl) (h _ _ _ (Owb.of (Row.of_new (B := 0) (l := []) (heap_alloc_new w _) (Nat.zero_le _) (Nat.zero_le _) (by simp))) (fun i hi => .inr ?_) ((Kept.refl _ _).alloc _)))
  cases hi; exact Nat.le_refl _
theorem wl_builtB1 {ops : Array Oper} {rest : List Oper} {x : Operand} {n : Nat} {z : Int} (hg : o.guard = none) (hd : fits N o.dst = true) (ho : o.op = .buildSlice 26 1 #[(0, x)]) (hx : ev (cutF N F) x = .int .u8 z) (hz : z = (n : Int)) (hn : n < 256)
    (h : ∀ v w' T, Owb w' T v [n] → Grew w noB T → Kept (fun _ => False) w w' → wl ro Tryz.prog N ops Q rest (putF F o.dst v) w') : wl ro Tryz.prog N ops Q (o :: rest) F w := by
  subst hz
  refine wl_op hg hd (y_built1 ho hx (h _ _ _ (Owb.of (Row.of_new (B := 0) (l := [n]) (heap_alloc_new w _) (Nat.zero_le _) (show 1 ≤ maxLen by decide) (by simpa using hn))) (fun i hi => .inr ?_) ((Kept.refl _ _).alloc _)))
  cases hi; exact Nat.le_refl _
theorem wl_appendB {ops : Array Oper} {rest : List Oper} {c : Call} {x y : Operand} {T U : Nat → Prop} {v u : Value} {l m : List Nat} (hg : o.guard = none) (hd : fits N o.dst = true) (ho : o.op = .call c) (hc : c = { callee := .builtin .append, args := #[x, y], argTypes := #[26, 26] }) (hx : ev (cutF N F) x = v) (hy : ev (cutF N F) y = u) (hv : Owb w T v l) (hu : Byt w U u m) (hl : l.length + m.length < 1099511627776)
    (h : ∀ v' w' T', Owb w' T' v' (l ++ m) → Grew w T T' → Kept T w w' → wl ro Tryz.prog N ops Q rest (putF F o.dst v') w') : wl ro Tryz.prog N ops Q (o :: rest) F w := by
  subst hc
  obtain ⟨v', w', hr, hA, hw⟩ := run_append_where w o.type v u l m hv.1 hu.1 hl
  refine wl_op hg hd (y_val (v := v') (w' := w') (by simp [execOp, ho, resolve, invoke, builtin, hx, hy, hr]) (h v' w' _ (Owb.of hA.1) (fun i hi => ?_) ((Kept.refl T w).grown hA.2 (fun k e _ => (hv.2 k).2 e))))
  rcases hw with hw | hw
  · exact .inl ((hv.2 i).2 (hw ▸ hi))
  · exact .inr (hw i hi)
theorem wl_copyB {ops : Array Oper} {rest : List Oper} {c : Call} {x y : Operand} {T U : Nat → Prop} {v u : Value} {l m : List Nat} (hg : o.guard = none) (hd : fits N o.dst = true) (ho : o.op = .call c) (hc : c = { callee := .builtin .copy, args := #[x, y], argTypes := #[26, 26] }) (hx : ev (cutF N F) x = v) (hy : ev (cutF N F) y = u) (hv : Owb w T v l) (hu : Byt w U u m) (hl : l.length = m.length)
    (h : ∀ w', Owb w' T v m → Kept T w w' → wl ro Tryz.prog N ops Q rest (putF F o.dst (.int .i64 ((m.length : Nat) : Int))) w') : wl ro Tryz.prog N ops Q (o :: rest) F w := by
  subst hc
  have hsz : (Tryz.prog.info? 5).map (·.size) = some 1 := by
    obtain ⟨i0, hi0, hz0, hz1, hz2⟩ := info_parts Tryz.info_u8
    rw [hi0]; simp [hz1]
  obtain ⟨⟨a, cap, rfl, h1, h2, h3, h256, hcu⟩, _⟩ := hu
  obtain ⟨sa, scap, hsv⟩ := hv.1.shape
  by_cases h0 : m.length = 0
  · have hm : m = [] := List.eq_nil_of_length_eq_zero h0
    subst hm
    have hnil : l = [] := List.eq_nil_of_length_eq_zero hl
    subst hnil
    have hrun := run_copy_none (P := Tryz.prog) w 26 26 o.type 5 sa a 0 scap 0 cap Tryz.underlying26 hsz rfl
    refine wl_op hg hd (y_val (v := .int .i64 0) (w' := w) (by simp [execOp, ho, resolve, invoke, builtin, hx, hy, hsv, hrun, Result.andThen]; rfl) (h w hv (Kept.refl _ _)))
  · obtain ⟨b, off, rfl, _, hcell⟩ := hcu (by omega)
    rcases hv.1.1.2 with ⟨rfl, hz⟩ | ⟨g, cp, cur, rfl, hb, hgg, hnc, hcm, hcs, htake⟩
    · omega
    · have hrun := run_copy_row (P := Tryz.prog) w 26 26 o.type 5 g 0 l.length cp ⟨b, off, none⟩ m.length cap cur 5 (byteVals m) Tryz.underlying26 hsz hgg (by rw [byteVals_length, hl]; simp) (fun j u hj => by
        have hjl : j < m.length := by
          have := (List.getElem?_eq_some_iff.1 hj).1
          rwa [byteVals_length] at this
        rw [Addr.add_lit, hcell j hjl, ← hj, byteVals_at m j hjl]) (by rw [byteVals_length]; omega) (byteVals_one m)
      refine wl_op hg hd (y_val (v := .int .i64 ((m.length : Nat) : Int)) (w' := w.setRow g (cur.toList.take 0 ++ (byteVals m ++ cur.toList.drop (0 + (byteVals m).length))).toArray) (by simp [execOp, ho, resolve, invoke, builtin, hx, hy, hrun, Result.andThen, byteVals_length]; rfl) (h _ ⟨⟨⟨?_, .inr ⟨g, cp, _, ?_, Nat.zero_le _, setRow_heap w g cur _ _ _ hgg, ?_, hcm, ?_, ?_⟩⟩, h256⟩, hv.2⟩ ((Kept.refl T w).setRow g (fun _ => (hv.2 g).2 rfl) _)))
      · rw [byteVals_length]; omega
      · rw [hl]
      · omega
      · simp [byteVals_length]; omega
      · simp [byteVals_length]
end
end Go.Proofs.YtknjpdcpmpfklaaGreatDoor
set_option maxRecDepth 100000
namespace Go.Proofs.YtknjpdcpmpfklaaGreatDoor
open Go.RowKit
theorem stcT_frame : StcT Tryz.prog 29 5 := ⟨_, Tryz.underlying29, rfl, by kernel_rfl⟩
theorem fref_side (n : Int) (w0 : World) :
  Calls Tryz.prog 91 #[.int .i64 (n)] w0 fun e w' => e = .returned (.bool (sideB n)) ∧ Kept (fun _ => False) w0 w' := by
 refine calls_wq (args := [iv n]) 14 Tryz.func91 rfl rfl (Nat.le_of_ble_eq_true rfl) ?_
 have K0 := Kept.refl (fun _ => False) w0
 refine wq_seq (wq_region (wl_v (.bool false) rfl rfl (y_asg rfl rfl rr) (wl_nil fun F1 hF2 => ?_)))
 have s3 : F1 0 = iv n := (hF2 0).trans rfl
 have s4 : F1 14 = undef := (hF2 14).trans rfl
 clear hF2
 refine then_normal (wq_seq ?_)
 by_cases d5 : 8 ≤ n
 ·skip
  by_cases d6 : n ≤ 64
  ·skip
   refine wq_region (wl_mv rfl rfl rfl s3 (wl_v (.bool true) rfl rfl (y_geq rfl rfl rfl (decide_eq_true d5) rr) (wl_v (.bool true) rfl rfl (y_mov rfl rfl rr) (wl_vw (iv n) 2 true 5 rfl rfl rfl rfl rfl (y_mov rfl s3 rr) (wl_vw (.bool true) 2 true 5 rfl rfl rfl rfl rfl (y_leq rfl rfl rfl (decide_eq_true d6) rr) (wl_v (.bool true) rfl rfl (y_pickT rfl rfl rfl rr) (wl_v (.bool true) rfl rfl (y_mov rfl rfl rr) (wl_vw (iv n) 6 true 9 rfl rfl rfl rfl rfl (y_mov rfl s3 rr) (wl_vw (iv (Int.tmod n 8)) 6 true 9 rfl rfl rfl rfl rfl (y_rem rfl rfl rfl (by first | decide | omega) rfl rr) (wl_vw (.bool (decide ((Int.tmod n 8) = 0))) 6 true 9 rfl rfl rfl rfl rfl (y_eqlI rfl rfl rfl rfl rr) (wl_v (.bool (decide ((Int.tmod n 8) = 0))) rfl rfl (y_pickT rfl rfl rfl rr) ?_)))))))))))
   refine wl_v (.bool (decide ((Int.tmod n 8) = 0))) rfl rfl (y_asg rfl rfl rr) (wl_nil fun F7 hF8 => ?_)
   have s9 := (hF8 14).trans s4
   have s10 : F7 2 = .bool (decide ((Int.tmod n 8) = 0)) := (hF8 2).trans rfl
   clear hF8
   refine then_normal (wq_ret ?_)
   exact end_tmp (v := .bool (decide ((Int.tmod n 8) = 0))) s9 rfl rfl s10 ⟨(by first | rw [sideB_low (by omega)] | rw [sideB_high (by omega)] | rw [sideB_mid (by omega) (by omega)]), K0⟩
  ·skip
   refine wq_region (wl_mv rfl rfl rfl s3 (wl_v (.bool true) rfl rfl (y_geq rfl rfl rfl (decide_eq_true d5) rr) (wl_v (.bool true) rfl rfl (y_mov rfl rfl rr) (wl_vw (iv n) 2 true 5 rfl rfl rfl rfl rfl (y_mov rfl s3 rr) (wl_vw (.bool false) 2 true 5 rfl rfl rfl rfl rfl (y_leq rfl rfl rfl (decide_eq_false d6) rr) (wl_v (.bool false) rfl rfl (y_pickT rfl rfl rfl rr) (wl_v (.bool false) rfl rfl (y_mov rfl rfl rr) (wl_unless 6 true 9 rfl rfl rfl (Or.inl rfl) rfl (wl_unless 6 true 9 rfl rfl rfl (Or.inl rfl) rfl (wl_unless 6 true 9 rfl rfl rfl (Or.inl rfl) rfl (wl_v (.bool false) rfl rfl (y_pickF rfl rfl rfl rr) ?_)))))))))))
   refine wl_v (.bool false) rfl rfl (y_asg rfl rfl rr) (wl_nil fun F11 hF12 => ?_)
   have s13 := (hF12 14).trans s4
   have s14 : F11 2 = .bool false := (hF12 2).trans rfl
   clear hF12
   refine then_normal (wq_ret ?_)
   exact end_tmp (v := .bool false) s13 rfl rfl s14 ⟨(by first | rw [sideB_low (by omega)] | rw [sideB_high (by omega)] | rw [sideB_mid (by omega) (by omega)]), K0⟩
 ·skip
  refine wq_region (wl_mv rfl rfl rfl s3 (wl_v (.bool false) rfl rfl (y_geq rfl rfl rfl (decide_eq_false d5) rr) (wl_v (.bool false) rfl rfl (y_mov rfl rfl rr) (wl_unless 2 true 5 rfl rfl rfl (Or.inl rfl) rfl (wl_unless 2 true 5 rfl rfl rfl (Or.inl rfl) rfl (wl_v (.bool false) rfl rfl (y_pickF rfl rfl rfl rr) (wl_v (.bool false) rfl rfl (y_mov rfl rfl rr) (wl_unless 6 true 9 rfl rfl rfl (Or.inl rfl) rfl (wl_unless 6 true 9 rfl rfl rfl (Or.inl rfl) rfl (wl_unless 6 true 9 rfl rfl rfl (Or.inl rfl) rfl (wl_v (.bool false) rfl rfl (y_pickF rfl rfl rfl rr) ?_)))))))))))
  refine wl_v (.bool false) rfl rfl (y_asg rfl rfl rr) (wl_nil fun F15 hF16 => ?_)
  have s17 := (hF16 14).trans s4
  have s18 : F15 2 = .bool false := (hF16 2).trans rfl
  clear hF16
  refine then_normal (wq_ret ?_)
  exact end_tmp (v := .bool false) s17 rfl rfl s18 ⟨(by first | rw [sideB_low (by omega)] | rw [sideB_high (by omega)] | rw [sideB_mid (by omega) (by omega)]), K0⟩
theorem fref_check (f : FD) (f0 f1 f2 : Value) (T_f0 : Nat → Prop) (T_f1 : Nat → Prop) (T_f2 : Nat → Prop) (w0 : World) (h_f0 : Byt w0 T_f0 f0 ((f).p0)) (h_f1 : Byt w0 T_f1 f1 ((f).p1)) (h_f2 : Byt w0 T_f2 f2 ((f).p2)) :
  Calls Tryz.prog 49 #[.agg #[.int .i64 ((f).W), .int .i64 ((f).H), f0, f1, f2]] w0 fun e w' => e = .returned (.int .i64 (checkE f)) ∧ Kept (fun _ => False) w0 w' := by
 refine calls_wq (args := [.agg #[iv (f.W), iv (f.H), f0, f1, f2]]) 51 Tryz.func49 rfl rfl (Nat.le_of_ble_eq_true rfl) ?_
 have K0 := Kept.refl (fun _ => False) w0
 have hmul := @area_bounds f.W f.H
 have g_f0 := Grew.refl w0 T_f0
 have g_f1 := Grew.refl w0 T_f1
 have g_f2 := Grew.refl w0 T_f2
 refine wq_seq (wq_region (wl_box_stc (vs := [iv (f.W), iv (f.H), f0, f1, f2]) rfl rfl rfl rfl fun p1 w2 B4 g5 k3 => ?_))
 have B10 := h_f0.all k3 Apart.none
 have B11 := h_f1.all k3 Apart.none
 have B12 := h_f2.all k3 Apart.none
 have K13 := K0.tr k3
 refine wl_v (iv 0) rfl rfl (y_asg rfl rfl rr) (wl_nil fun F14 hF15 => ?_)
 have s16 : F14 51 = undef := (hF15 51).trans rfl
 have s17 : F14 1 = pt p1 0 := (hF15 1).trans rfl
 clear hF15
 refine then_normal (wq_seq (wq_seq ?_))
 rcases Bool.eq_false_or_eq_true (sideB (f.W)) with d18 | d18
 ·skip
  rcases Bool.eq_false_or_eq_true (sideB (f.H)) with d19 | d19
  ·skip
   by_cases d20 : (((f.p0).length : Nat) : Int) ≠ (f.W * f.H)
   ·skip
    refine wq_region (wl_v (pt p1 0) rfl rfl (y_fieldR (n := 1) rfl s17 Tryz.underlying29 rfl (by kernel_rfl) (by decide) rfl rr) (wl_v (iv (f.W)) rfl rfl (y_ld_stc rfl rfl Tryz.underlying3 B4 rfl rfl rr) (wl_call (R := fun v_ w_ => v_ = .bool true ∧ Kept (fun _ => False) w2 w_) rfl rfl (y_cs rfl rfl rfl (fun _ _ => by kernel_rfl) (ev_func _) (vsC rfl vsN) (fref_side (f.W)  _   ) (fun e_ w_ h_ => ⟨_, h_.1, (congrArg Value.bool d18), h_.2⟩)) ?_)))
    rintro _ w21 ⟨rfl, k22⟩
    have B23 := B10.all k22 Apart.none
    have B26 := B4.all k22 id
    have K27 := K13.tr k22
    refine wl_v (.bool false) rfl rfl (y_not rfl rfl rfl rr) (wl_v (.bool false) rfl rfl (y_mov rfl rfl rr) (wl_vw (pt p1 1) 4 false 7 rfl rfl rfl rfl rfl (y_fieldR (n := 1) rfl s17 Tryz.underlying29 rfl (by kernel_rfl) (by decide) rfl rr) (wl_vw (iv (f.H)) 4 false 7 rfl rfl rfl rfl rfl (y_ld_stc rfl rfl Tryz.underlying3 B26 rfl rfl rr) (wl_callw (R := fun v_ w_ => v_ = .bool true ∧ Kept (fun _ => False) w21 w_) 4 false 7 rfl rfl rfl rfl rfl (y_cs rfl rfl rfl (fun _ _ => by kernel_rfl) (ev_func _) (vsC rfl vsN) (fref_side (f.H)  _   ) (fun e_ w_ h_ => ⟨_, h_.1, (congrArg Value.bool d19), h_.2⟩)) ?_))))
    rintro _ w28 ⟨rfl, k29⟩
    have B30 := B23.all k29 Apart.none
    have B33 := B26.all k29 id
    have K34 := K27.tr k29
    refine wl_vw (.bool false) 4 false 7 rfl rfl rfl rfl rfl (y_not rfl rfl rfl rr) (wl_v (.bool false) rfl rfl (y_pickF rfl rfl rfl rr) (wl_v (.bool false) rfl rfl (y_mov rfl rfl rr) (wl_vw (pt p1 2) 10 false 13 rfl rfl rfl rfl rfl (y_fieldR (n := 3) rfl s17 Tryz.underlying29 rfl (by kernel_rfl) (by decide) rfl rr) (wl_vw (pt p1 2) 10 false 13 rfl rfl rfl rfl rfl (y_atR 0 (s := 1) rfl rfl rfl (by omega) Tryz.underlying27 (by omega) (by kernel_rfl) (by omega) rr) (wl_vw f0 10 false 13 rfl rfl rfl rfl rfl (y_ld_stc rfl rfl Tryz.underlying26 B33 rfl rfl rr) (wl_vw (iv (((f.p0).length : Nat) : Int)) 10 false 13 rfl rfl rfl rfl rfl (y_lenV rfl rfl rfl B30 rr) (wl_vw (pt p1 0) 10 false 13 rfl rfl rfl rfl rfl (y_fieldR (n := 1) rfl s17 Tryz.underlying29 rfl (by kernel_rfl) (by decide) rfl rr) (wl_vw (iv (f.W)) 10 false 13 rfl rfl rfl rfl rfl (y_ld_stc rfl rfl Tryz.underlying3 B33 rfl rfl rr) (wl_vw (pt p1 1) 10 false 13 rfl rfl rfl rfl rfl (y_fieldR (n := 1) rfl s17 Tryz.underlying29 rfl (by kernel_rfl) (by decide) rfl rr) (wl_vw (iv (f.H)) 10 false 13 rfl rfl rfl rfl rfl (y_ld_stc rfl rfl Tryz.underlying3 B33 rfl rfl rr) (wl_vw (iv (f.W * f.H)) 10 false 13 rfl rfl rfl rfl rfl (y_mul rfl rfl rfl (i64_i rfl (by have h := hmul (by assumption) (by assumption); omega)) rr) ?_)))))))))))
    refine wl_vw (.bool true) 10 false 13 rfl rfl rfl rfl rfl (y_neqI rfl rfl rfl (decide_eq_true d20) rr) (wl_v (.bool true) rfl rfl (y_pickF rfl rfl rfl rr) (wl_v (.bool true) rfl rfl (y_mov rfl rfl rr) (wl_unless 22 false 25 rfl rfl rfl (Or.inl rfl) rfl (wl_unless 22 false 25 rfl rfl rfl (Or.inl rfl) rfl (wl_unless 22 false 25 rfl rfl rfl (Or.inl rfl) rfl (wl_unless 22 false 25 rfl rfl rfl (Or.inl rfl) rfl (wl_unless 22 false 25 rfl rfl rfl (Or.inl rfl) rfl (wl_unless 22 false 25 rfl rfl rfl (Or.inl rfl) rfl (wl_unless 22 false 25 rfl rfl rfl (Or.inl rfl) rfl (wl_unless 22 false 25 rfl rfl rfl (Or.inl rfl) rfl (wl_unless 22 false 25 rfl rfl rfl (Or.inl rfl) rfl ?_)))))))))))
    refine wl_unless 22 false 25 rfl rfl rfl (Or.inl rfl) rfl (wl_unless 22 false 25 rfl rfl rfl (Or.inl rfl) rfl (wl_v (.bool true) rfl rfl (y_pickT rfl rfl rfl rr) (wl_v (.bool true) rfl rfl (y_mov rfl rfl rr) (wl_unless 35 false 38 rfl rfl rfl (Or.inl rfl) rfl (wl_unless 35 false 38 rfl rfl rfl (Or.inl rfl) rfl (wl_unless 35 false 38 rfl rfl rfl (Or.inl rfl) rfl (wl_unless 35 false 38 rfl rfl rfl (Or.inl rfl) rfl (wl_unless 35 false 38 rfl rfl rfl (Or.inl rfl) rfl (wl_unless 35 false 38 rfl rfl rfl (Or.inl rfl) rfl (wl_unless 35 false 38 rfl rfl rfl (Or.inl rfl) rfl (wl_unless 35 false 38 rfl rfl rfl (Or.inl rfl) rfl ?_)))))))))))
    refine wl_unless 35 false 38 rfl rfl rfl (Or.inl rfl) rfl (wl_unless 35 false 38 rfl rfl rfl (Or.inl rfl) rfl (wl_unless 35 false 38 rfl rfl rfl (Or.inl rfl) rfl (wl_v (.bool true) rfl rfl (y_pickT rfl rfl rfl rr) (wl_nil fun F35 hF36 => ?_))))
    have s37 := (hF36 51).trans s16
    have s38 : F35 50 = .bool true := (hF36 50).trans rfl
    clear hF36
    refine then_normal ?_
    refine wq_cond (t := true) s38 (fun _ => ?_) (fun e => by cases e)
    refine wq_seq (wq_region (wl_v (iv 70) rfl rfl (y_asg rfl rfl rr) (wl_nil fun F39 hF40 => ?_)))
    have s41 := (hF40 51).trans s37
    have s42 : F39 2 = iv 70 := (hF40 2).trans rfl
    clear hF40
    refine then_normal (wq_ret (then_ret ?_))
    exact end_tmp (v := iv 70) s41 rfl rfl s42 ⟨(by first | rw [checkE_ok ⟨by assumption, by assumption, by first | assumption | (apply Decidable.byContradiction; assumption), by first | assumption | (apply Decidable.byContradiction; assumption), by first | assumption | (apply Decidable.byContradiction; assumption)⟩] | rw [checkE_no (by rintro ⟨h1, h2, h3, h4, h5⟩; simp_all)]), K34⟩
   ·skip
    by_cases d43 : (((f.p1).length : Nat) : Int) ≠ (Int.tdiv (f.W * f.H) 4)
    ·skip
     refine wq_region (wl_v (pt p1 0) rfl rfl (y_fieldR (n := 1) rfl s17 Tryz.underlying29 rfl (by kernel_rfl) (by decide) rfl rr) (wl_v (iv (f.W)) rfl rfl (y_ld_stc rfl rfl Tryz.underlying3 B4 rfl rfl rr) (wl_call (R := fun v_ w_ => v_ = .bool true ∧ Kept (fun _ => False) w2 w_) rfl rfl (y_cs rfl rfl rfl (fun _ _ => by kernel_rfl) (ev_func _) (vsC rfl vsN) (fref_side (f.W)  _   ) (fun e_ w_ h_ => ⟨_, h_.1, (congrArg Value.bool d18), h_.2⟩)) ?_)))
     rintro _ w44 ⟨rfl, k45⟩
     have B46 := B10.all k45 Apart.none
     have B47 := B11.all k45 Apart.none
     have B49 := B4.all k45 id
     have K50 := K13.tr k45
     refine wl_v (.bool false) rfl rfl (y_not rfl rfl rfl rr) (wl_v (.bool false) rfl rfl (y_mov rfl rfl rr) (wl_vw (pt p1 1) 4 false 7 rfl rfl rfl rfl rfl (y_fieldR (n := 1) rfl s17 Tryz.underlying29 rfl (by kernel_rfl) (by decide) rfl rr) (wl_vw (iv (f.H)) 4 false 7 rfl rfl rfl rfl rfl (y_ld_stc rfl rfl Tryz.underlying3 B49 rfl rfl rr) (wl_callw (R := fun v_ w_ => v_ = .bool true ∧ Kept (fun _ => False) w44 w_) 4 false 7 rfl rfl rfl rfl rfl (y_cs rfl rfl rfl (fun _ _ => by kernel_rfl) (ev_func _) (vsC rfl vsN) (fref_side (f.H)  _   ) (fun e_ w_ h_ => ⟨_, h_.1, (congrArg Value.bool d19), h_.2⟩)) ?_))))
     rintro _ w51 ⟨rfl, k52⟩
     have B53 := B46.all k52 Apart.none
     have B54 := B47.all k52 Apart.none
     have B56 := B49.all k52 id
     have K57 := K50.tr k52
     refine wl_vw (.bool false) 4 false 7 rfl rfl rfl rfl rfl (y_not rfl rfl rfl rr) (wl_v (.bool false) rfl rfl (y_pickF rfl rfl rfl rr) (wl_v (.bool false) rfl rfl (y_mov rfl rfl rr) (wl_vw (pt p1 2) 10 false 13 rfl rfl rfl rfl rfl (y_fieldR (n := 3) rfl s17 Tryz.underlying29 rfl (by kernel_rfl) (by decide) rfl rr) (wl_vw (pt p1 2) 10 false 13 rfl rfl rfl rfl rfl (y_atR 0 (s := 1) rfl rfl rfl (by omega) Tryz.underlying27 (by omega) (by kernel_rfl) (by omega) rr) (wl_vw f0 10 false 13 rfl rfl rfl rfl rfl (y_ld_stc rfl rfl Tryz.underlying26 B56 rfl rfl rr) (wl_vw (iv (((f.p0).length : Nat) : Int)) 10 false 13 rfl rfl rfl rfl rfl (y_lenV rfl rfl rfl B53 rr) (wl_vw (pt p1 0) 10 false 13 rfl rfl rfl rfl rfl (y_fieldR (n := 1) rfl s17 Tryz.underlying29 rfl (by kernel_rfl) (by decide) rfl rr) (wl_vw (iv (f.W)) 10 false 13 rfl rfl rfl rfl rfl (y_ld_stc rfl rfl Tryz.underlying3 B56 rfl rfl rr) (wl_vw (pt p1 1) 10 false 13 rfl rfl rfl rfl rfl (y_fieldR (n := 1) rfl s17 Tryz.underlying29 rfl (by kernel_rfl) (by decide) rfl rr) (wl_vw (iv (f.H)) 10 false 13 rfl rfl rfl rfl rfl (y_ld_stc rfl rfl Tryz.underlying3 B56 rfl rfl rr) (wl_vw (iv (f.W * f.H)) 10 false 13 rfl rfl rfl rfl rfl (y_mul rfl rfl rfl (i64_i rfl (by have h := hmul (by assumption) (by assumption); omega)) rr) ?_)))))))))))
     refine wl_vw (.bool false) 10 false 13 rfl rfl rfl rfl rfl (y_neqI rfl rfl rfl (decide_eq_false d20) rr) (wl_v (.bool false) rfl rfl (y_pickF rfl rfl rfl rr) (wl_v (.bool false) rfl rfl (y_mov rfl rfl rr) (wl_vw (pt p1 2) 22 false 25 rfl rfl rfl rfl rfl (y_fieldR (n := 3) rfl s17 Tryz.underlying29 rfl (by kernel_rfl) (by decide) rfl rr) (wl_vw (pt p1 3) 22 false 25 rfl rfl rfl rfl rfl (y_atR 1 (s := 1) rfl rfl rfl (by omega) Tryz.underlying27 (by omega) (by kernel_rfl) (by omega) rr) (wl_vw f1 22 false 25 rfl rfl rfl rfl rfl (y_ld_stc rfl rfl Tryz.underlying26 B56 rfl rfl rr) (wl_vw (iv (((f.p1).length : Nat) : Int)) 22 false 25 rfl rfl rfl rfl rfl (y_lenV rfl rfl rfl B54 rr) (wl_vw (pt p1 0) 22 false 25 rfl rfl rfl rfl rfl (y_fieldR (n := 1) rfl s17 Tryz.underlying29 rfl (by kernel_rfl) (by decide) rfl rr) (wl_vw (iv (f.W)) 22 false 25 rfl rfl rfl rfl rfl (y_ld_stc rfl rfl Tryz.underlying3 B56 rfl rfl rr) (wl_vw (pt p1 1) 22 false 25 rfl rfl rfl rfl rfl (y_fieldR (n := 1) rfl s17 Tryz.underlying29 rfl (by kernel_rfl) (by decide) rfl rr) (wl_vw (iv (f.H)) 22 false 25 rfl rfl rfl rfl rfl (y_ld_stc rfl rfl Tryz.underlying3 B56 rfl rfl rr) (wl_vw (iv (f.W * f.H)) 22 false 25 rfl rfl rfl rfl rfl (y_mul rfl rfl rfl (i64_i rfl (by have h := hmul (by assumption) (by assumption); omega)) rr) ?_)))))))))))
     refine wl_vw (iv (Int.tdiv (f.W * f.H) 4)) 22 false 25 rfl rfl rfl rfl rfl (y_quo rfl rfl rfl (by first | decide | omega) (i64_i rfl (by have h := hmul (by assumption) (by assumption); rw [tdiv4 (by omega)]; omega)) rr) (wl_vw (.bool true) 22 false 25 rfl rfl rfl rfl rfl (y_neqI rfl rfl rfl (decide_eq_true d43) rr) (wl_v (.bool true) rfl rfl (y_pickF rfl rfl rfl rr) (wl_v (.bool true) rfl rfl (y_mov rfl rfl rr) (wl_unless 35 false 38 rfl rfl rfl (Or.inl rfl) rfl (wl_unless 35 false 38 rfl rfl rfl (Or.inl rfl) rfl (wl_unless 35 false 38 rfl rfl rfl (Or.inl rfl) rfl (wl_unless 35 false 38 rfl rfl rfl (Or.inl rfl) rfl (wl_unless 35 false 38 rfl rfl rfl (Or.inl rfl) rfl (wl_unless 35 false 38 rfl rfl rfl (Or.inl rfl) rfl (wl_unless 35 false 38 rfl rfl rfl (Or.inl rfl) rfl (wl_unless 35 false 38 rfl rfl rfl (Or.inl rfl) rfl ?_)))))))))))
     refine wl_unless 35 false 38 rfl rfl rfl (Or.inl rfl) rfl (wl_unless 35 false 38 rfl rfl rfl (Or.inl rfl) rfl (wl_unless 35 false 38 rfl rfl rfl (Or.inl rfl) rfl (wl_v (.bool true) rfl rfl (y_pickT rfl rfl rfl rr) (wl_nil fun F58 hF59 => ?_))))
     have s60 := (hF59 51).trans s16
     have s61 : F58 50 = .bool true := (hF59 50).trans rfl
     clear hF59
     refine then_normal ?_
     refine wq_cond (t := true) s61 (fun _ => ?_) (fun e => by cases e)
     refine wq_seq (wq_region (wl_v (iv 70) rfl rfl (y_asg rfl rfl rr) (wl_nil fun F62 hF63 => ?_)))
     have s64 := (hF63 51).trans s60
     have s65 : F62 2 = iv 70 := (hF63 2).trans rfl
     clear hF63
     refine then_normal (wq_ret (then_ret ?_))
     exact end_tmp (v := iv 70) s64 rfl rfl s65 ⟨(by first | rw [checkE_ok ⟨by assumption, by assumption, by first | assumption | (apply Decidable.byContradiction; assumption), by first | assumption | (apply Decidable.byContradiction; assumption), by first | assumption | (apply Decidable.byContradiction; assumption)⟩] | rw [checkE_no (by rintro ⟨h1, h2, h3, h4, h5⟩; simp_all)]), K57⟩
    ·skip
     refine wq_region (wl_v (pt p1 0) rfl rfl (y_fieldR (n := 1) rfl s17 Tryz.underlying29 rfl (by kernel_rfl) (by decide) rfl rr) (wl_v (iv (f.W)) rfl rfl (y_ld_stc rfl rfl Tryz.underlying3 B4 rfl rfl rr) (wl_call (R := fun v_ w_ => v_ = .bool true ∧ Kept (fun _ => False) w2 w_) rfl rfl (y_cs rfl rfl rfl (fun _ _ => by kernel_rfl) (ev_func _) (vsC rfl vsN) (fref_side (f.W)  _   ) (fun e_ w_ h_ => ⟨_, h_.1, (congrArg Value.bool d18), h_.2⟩)) ?_)))
     rintro _ w66 ⟨rfl, k67⟩
     have B68 := B10.all k67 Apart.none
     have B69 := B11.all k67 Apart.none
     have B70 := B12.all k67 Apart.none
     have B71 := B4.all k67 id
     have K72 := K13.tr k67
     refine wl_v (.bool false) rfl rfl (y_not rfl rfl rfl rr) (wl_v (.bool false) rfl rfl (y_mov rfl rfl rr) (wl_vw (pt p1 1) 4 false 7 rfl rfl rfl rfl rfl (y_fieldR (n := 1) rfl s17 Tryz.underlying29 rfl (by kernel_rfl) (by decide) rfl rr) (wl_vw (iv (f.H)) 4 false 7 rfl rfl rfl rfl rfl (y_ld_stc rfl rfl Tryz.underlying3 B71 rfl rfl rr) (wl_callw (R := fun v_ w_ => v_ = .bool true ∧ Kept (fun _ => False) w66 w_) 4 false 7 rfl rfl rfl rfl rfl (y_cs rfl rfl rfl (fun _ _ => by kernel_rfl) (ev_func _) (vsC rfl vsN) (fref_side (f.H)  _   ) (fun e_ w_ h_ => ⟨_, h_.1, (congrArg Value.bool d19), h_.2⟩)) ?_))))
     rintro _ w73 ⟨rfl, k74⟩
     have B75 := B68.all k74 Apart.none
     have B76 := B69.all k74 Apart.none
     have B77 := B70.all k74 Apart.none
     have B78 := B71.all k74 id
     have K79 := K72.tr k74
     refine wl_vw (.bool false) 4 false 7 rfl rfl rfl rfl rfl (y_not rfl rfl rfl rr) (wl_v (.bool false) rfl rfl (y_pickF rfl rfl rfl rr) (wl_v (.bool false) rfl rfl (y_mov rfl rfl rr) (wl_vw (pt p1 2) 10 false 13 rfl rfl rfl rfl rfl (y_fieldR (n := 3) rfl s17 Tryz.underlying29 rfl (by kernel_rfl) (by decide) rfl rr) (wl_vw (pt p1 2) 10 false 13 rfl rfl rfl rfl rfl (y_atR 0 (s := 1) rfl rfl rfl (by omega) Tryz.underlying27 (by omega) (by kernel_rfl) (by omega) rr) (wl_vw f0 10 false 13 rfl rfl rfl rfl rfl (y_ld_stc rfl rfl Tryz.underlying26 B78 rfl rfl rr) (wl_vw (iv (((f.p0).length : Nat) : Int)) 10 false 13 rfl rfl rfl rfl rfl (y_lenV rfl rfl rfl B75 rr) (wl_vw (pt p1 0) 10 false 13 rfl rfl rfl rfl rfl (y_fieldR (n := 1) rfl s17 Tryz.underlying29 rfl (by kernel_rfl) (by decide) rfl rr) (wl_vw (iv (f.W)) 10 false 13 rfl rfl rfl rfl rfl (y_ld_stc rfl rfl Tryz.underlying3 B78 rfl rfl rr) (wl_vw (pt p1 1) 10 false 13 rfl rfl rfl rfl rfl (y_fieldR (n := 1) rfl s17 Tryz.underlying29 rfl (by kernel_rfl) (by decide) rfl rr) (wl_vw (iv (f.H)) 10 false 13 rfl rfl rfl rfl rfl (y_ld_stc rfl rfl Tryz.underlying3 B78 rfl rfl rr) (wl_vw (iv (f.W * f.H)) 10 false 13 rfl rfl rfl rfl rfl (y_mul rfl rfl rfl (i64_i rfl (by have h := hmul (by assumption) (by assumption); omega)) rr) ?_)))))))))))
     refine wl_vw (.bool false) 10 false 13 rfl rfl rfl rfl rfl (y_neqI rfl rfl rfl (decide_eq_false d20) rr) (wl_v (.bool false) rfl rfl (y_pickF rfl rfl rfl rr) (wl_v (.bool false) rfl rfl (y_mov rfl rfl rr) (wl_vw (pt p1 2) 22 false 25 rfl rfl rfl rfl rfl (y_fieldR (n := 3) rfl s17 Tryz.underlying29 rfl (by kernel_rfl) (by decide) rfl rr) (wl_vw (pt p1 3) 22 false 25 rfl rfl rfl rfl rfl (y_atR 1 (s := 1) rfl rfl rfl (by omega) Tryz.underlying27 (by omega) (by kernel_rfl) (by omega) rr) (wl_vw f1 22 false 25 rfl rfl rfl rfl rfl (y_ld_stc rfl rfl Tryz.underlying26 B78 rfl rfl rr) (wl_vw (iv (((f.p1).length : Nat) : Int)) 22 false 25 rfl rfl rfl rfl rfl (y_lenV rfl rfl rfl B76 rr) (wl_vw (pt p1 0) 22 false 25 rfl rfl rfl rfl rfl (y_fieldR (n := 1) rfl s17 Tryz.underlying29 rfl (by kernel_rfl) (by decide) rfl rr) (wl_vw (iv (f.W)) 22 false 25 rfl rfl rfl rfl rfl (y_ld_stc rfl rfl Tryz.underlying3 B78 rfl rfl rr) (wl_vw (pt p1 1) 22 false 25 rfl rfl rfl rfl rfl (y_fieldR (n := 1) rfl s17 Tryz.underlying29 rfl (by kernel_rfl) (by decide) rfl rr) (wl_vw (iv (f.H)) 22 false 25 rfl rfl rfl rfl rfl (y_ld_stc rfl rfl Tryz.underlying3 B78 rfl rfl rr) (wl_vw (iv (f.W * f.H)) 22 false 25 rfl rfl rfl rfl rfl (y_mul rfl rfl rfl (i64_i rfl (by have h := hmul (by assumption) (by assumption); omega)) rr) ?_)))))))))))
     refine wl_vw (iv (Int.tdiv (f.W * f.H) 4)) 22 false 25 rfl rfl rfl rfl rfl (y_quo rfl rfl rfl (by first | decide | omega) (i64_i rfl (by have h := hmul (by assumption) (by assumption); rw [tdiv4 (by omega)]; omega)) rr) (wl_vw (.bool false) 22 false 25 rfl rfl rfl rfl rfl (y_neqI rfl rfl rfl (decide_eq_false d43) rr) (wl_v (.bool false) rfl rfl (y_pickF rfl rfl rfl rr) (wl_v (.bool false) rfl rfl (y_mov rfl rfl rr) (wl_vw (pt p1 2) 35 false 38 rfl rfl rfl rfl rfl (y_fieldR (n := 3) rfl s17 Tryz.underlying29 rfl (by kernel_rfl) (by decide) rfl rr) (wl_vw (pt p1 4) 35 false 38 rfl rfl rfl rfl rfl (y_atR 2 (s := 1) rfl rfl rfl (by omega) Tryz.underlying27 (by omega) (by kernel_rfl) (by omega) rr) (wl_vw f2 35 false 38 rfl rfl rfl rfl rfl (y_ld_stc rfl rfl Tryz.underlying26 B78 rfl rfl rr) (wl_vw (iv (((f.p2).length : Nat) : Int)) 35 false 38 rfl rfl rfl rfl rfl (y_lenV rfl rfl rfl B77 rr) (wl_vw (pt p1 0) 35 false 38 rfl rfl rfl rfl rfl (y_fieldR (n := 1) rfl s17 Tryz.underlying29 rfl (by kernel_rfl) (by decide) rfl rr) (wl_vw (iv (f.W)) 35 false 38 rfl rfl rfl rfl rfl (y_ld_stc rfl rfl Tryz.underlying3 B78 rfl rfl rr) (wl_vw (pt p1 1) 35 false 38 rfl rfl rfl rfl rfl (y_fieldR (n := 1) rfl s17 Tryz.underlying29 rfl (by kernel_rfl) (by decide) rfl rr) (wl_vw (iv (f.H)) 35 false 38 rfl rfl rfl rfl rfl (y_ld_stc rfl rfl Tryz.underlying3 B78 rfl rfl rr) ?_)))))))))))
     refine wl_vw (iv (f.W * f.H)) 35 false 38 rfl rfl rfl rfl rfl (y_mul rfl rfl rfl (i64_i rfl (by have h := hmul (by assumption) (by assumption); omega)) rr) (wl_vw (iv (Int.tdiv (f.W * f.H) 4)) 35 false 38 rfl rfl rfl rfl rfl (y_quo rfl rfl rfl (by first | decide | omega) (i64_i rfl (by have h := hmul (by assumption) (by assumption); rw [tdiv4 (by omega)]; omega)) rr) (wl_vw (.bool (decide ((((f.p2).length : Nat) : Int) ≠ (Int.tdiv (f.W * f.H) 4)))) 35 false 38 rfl rfl rfl rfl rfl (y_neqI rfl rfl rfl rfl rr) (wl_v (.bool (decide ((((f.p2).length : Nat) : Int) ≠ (Int.tdiv (f.W * f.H) 4)))) rfl rfl (y_pickF rfl rfl rfl rr) (wl_nil fun F80 hF81 => ?_))))
     have s82 := (hF81 51).trans s16
     have s83 : F80 50 = .bool (decide ((((f.p2).length : Nat) : Int) ≠ (Int.tdiv (f.W * f.H) 4))) := (hF81 50).trans rfl
     clear hF81
     refine then_normal ?_
     refine wq_cond s83 (fun c84 => ?_) (fun c84 => ?_)
     ·replace c84 := of_decide_eq_true c84
      refine wq_seq (wq_region (wl_v (iv 70) rfl rfl (y_asg rfl rfl rr) (wl_nil fun F85 hF86 => ?_)))
      have s87 := (hF86 51).trans s82
      have s88 : F85 2 = iv 70 := (hF86 2).trans rfl
      clear hF86
      refine then_normal (wq_ret (then_ret ?_))
      exact end_tmp (v := iv 70) s87 rfl rfl s88 ⟨(by first | rw [checkE_ok ⟨by assumption, by assumption, by first | assumption | (apply Decidable.byContradiction; assumption), by first | assumption | (apply Decidable.byContradiction; assumption), by first | assumption | (apply Decidable.byContradiction; assumption)⟩] | rw [checkE_no (by rintro ⟨h1, h2, h3, h4, h5⟩; simp_all)]), K79⟩
     ·replace c84 := of_decide_eq_false c84
      refine wq_skip (then_normal (wq_seq (wq_region (wl_v (iv 0) rfl rfl (y_asg rfl rfl rr) (wl_nil fun F89 hF90 => ?_)))))
      have s91 := (hF90 51).trans s82
      have s92 : F89 2 = iv 0 := (hF90 2).trans rfl
      clear hF90
      refine then_normal (wq_ret ?_)
      exact end_tmp (v := iv 0) s91 rfl rfl s92 ⟨(by first | rw [checkE_ok ⟨by assumption, by assumption, by first | assumption | (apply Decidable.byContradiction; assumption), by first | assumption | (apply Decidable.byContradiction; assumption), by first | assumption | (apply Decidable.byContradiction; assumption)⟩] | rw [checkE_no (by rintro ⟨h1, h2, h3, h4, h5⟩; simp_all)]), K79⟩
  ·skip
   refine wq_region (wl_v (pt p1 0) rfl rfl (y_fieldR (n := 1) rfl s17 Tryz.underlying29 rfl (by kernel_rfl) (by decide) rfl rr) (wl_v (iv (f.W)) rfl rfl (y_ld_stc rfl rfl Tryz.underlying3 B4 rfl rfl rr) (wl_call (R := fun v_ w_ => v_ = .bool true ∧ Kept (fun _ => False) w2 w_) rfl rfl (y_cs rfl rfl rfl (fun _ _ => by kernel_rfl) (ev_func _) (vsC rfl vsN) (fref_side (f.W)  _   ) (fun e_ w_ h_ => ⟨_, h_.1, (congrArg Value.bool d18), h_.2⟩)) ?_)))
   rintro _ w93 ⟨rfl, k94⟩
   have B98 := B4.all k94 id
   have K99 := K13.tr k94
   refine wl_v (.bool false) rfl rfl (y_not rfl rfl rfl rr) (wl_v (.bool false) rfl rfl (y_mov rfl rfl rr) (wl_vw (pt p1 1) 4 false 7 rfl rfl rfl rfl rfl (y_fieldR (n := 1) rfl s17 Tryz.underlying29 rfl (by kernel_rfl) (by decide) rfl rr) (wl_vw (iv (f.H)) 4 false 7 rfl rfl rfl rfl rfl (y_ld_stc rfl rfl Tryz.underlying3 B98 rfl rfl rr) (wl_callw (R := fun v_ w_ => v_ = .bool false ∧ Kept (fun _ => False) w93 w_) 4 false 7 rfl rfl rfl rfl rfl (y_cs rfl rfl rfl (fun _ _ => by kernel_rfl) (ev_func _) (vsC rfl vsN) (fref_side (f.H)  _   ) (fun e_ w_ h_ => ⟨_, h_.1, (congrArg Value.bool d19), h_.2⟩)) ?_))))
   rintro _ w100 ⟨rfl, k101⟩
   have K106 := K99.tr k101
   refine wl_vw (.bool true) 4 false 7 rfl rfl rfl rfl rfl (y_not rfl rfl rfl rr) (wl_v (.bool true) rfl rfl (y_pickF rfl rfl rfl rr) (wl_v (.bool true) rfl rfl (y_mov rfl rfl rr) (wl_unless 10 false 13 rfl rfl rfl (Or.inl rfl) rfl (wl_unless 10 false 13 rfl rfl rfl (Or.inl rfl) rfl (wl_unless 10 false 13 rfl rfl rfl (Or.inl rfl) rfl (wl_unless 10 false 13 rfl rfl rfl (Or.inl rfl) rfl (wl_unless 10 false 13 rfl rfl rfl (Or.inl rfl) rfl (wl_unless 10 false 13 rfl rfl rfl (Or.inl rfl) rfl (wl_unless 10 false 13 rfl rfl rfl (Or.inl rfl) rfl (wl_unless 10 false 13 rfl rfl rfl (Or.inl rfl) rfl (wl_unless 10 false 13 rfl rfl rfl (Or.inl rfl) rfl ?_)))))))))))
   refine wl_unless 10 false 13 rfl rfl rfl (Or.inl rfl) rfl (wl_v (.bool true) rfl rfl (y_pickT rfl rfl rfl rr) (wl_v (.bool true) rfl rfl (y_mov rfl rfl rr) (wl_unless 22 false 25 rfl rfl rfl (Or.inl rfl) rfl (wl_unless 22 false 25 rfl rfl rfl (Or.inl rfl) rfl (wl_unless 22 false 25 rfl rfl rfl (Or.inl rfl) rfl (wl_unless 22 false 25 rfl rfl rfl (Or.inl rfl) rfl (wl_unless 22 false 25 rfl rfl rfl (Or.inl rfl) rfl (wl_unless 22 false 25 rfl rfl rfl (Or.inl rfl) rfl (wl_unless 22 false 25 rfl rfl rfl (Or.inl rfl) rfl (wl_unless 22 false 25 rfl rfl rfl (Or.inl rfl) rfl (wl_unless 22 false 25 rfl rfl rfl (Or.inl rfl) rfl ?_)))))))))))
   refine wl_unless 22 false 25 rfl rfl rfl (Or.inl rfl) rfl (wl_unless 22 false 25 rfl rfl rfl (Or.inl rfl) rfl (wl_v (.bool true) rfl rfl (y_pickT rfl rfl rfl rr) (wl_v (.bool true) rfl rfl (y_mov rfl rfl rr) (wl_unless 35 false 38 rfl rfl rfl (Or.inl rfl) rfl (wl_unless 35 false 38 rfl rfl rfl (Or.inl rfl) rfl (wl_unless 35 false 38 rfl rfl rfl (Or.inl rfl) rfl (wl_unless 35 false 38 rfl rfl rfl (Or.inl rfl) rfl (wl_unless 35 false 38 rfl rfl rfl (Or.inl rfl) rfl (wl_unless 35 false 38 rfl rfl rfl (Or.inl rfl) rfl (wl_unless 35 false 38 rfl rfl rfl (Or.inl rfl) rfl (wl_unless 35 false 38 rfl rfl rfl (Or.inl rfl) rfl ?_)))))))))))
   refine wl_unless 35 false 38 rfl rfl rfl (Or.inl rfl) rfl (wl_unless 35 false 38 rfl rfl rfl (Or.inl rfl) rfl (wl_unless 35 false 38 rfl rfl rfl (Or.inl rfl) rfl (wl_v (.bool true) rfl rfl (y_pickT rfl rfl rfl rr) (wl_nil fun F107 hF108 => ?_))))
   have s109 := (hF108 51).trans s16
   have s110 : F107 50 = .bool true := (hF108 50).trans rfl
   clear hF108
   refine then_normal ?_
   refine wq_cond (t := true) s110 (fun _ => ?_) (fun e => by cases e)
   refine wq_seq (wq_region (wl_v (iv 70) rfl rfl (y_asg rfl rfl rr) (wl_nil fun F111 hF112 => ?_)))
   have s113 := (hF112 51).trans s109
   have s114 : F111 2 = iv 70 := (hF112 2).trans rfl
   clear hF112
   refine then_normal (wq_ret (then_ret ?_))
   exact end_tmp (v := iv 70) s113 rfl rfl s114 ⟨(by first | rw [checkE_ok ⟨by assumption, by assumption, by first | assumption | (apply Decidable.byContradiction; assumption), by first | assumption | (apply Decidable.byContradiction; assumption), by first | assumption | (apply Decidable.byContradiction; assumption)⟩] | rw [checkE_no (by rintro ⟨h1, h2, h3, h4, h5⟩; simp_all)]), K106⟩
 ·skip
  refine wq_region (wl_v (pt p1 0) rfl rfl (y_fieldR (n := 1) rfl s17 Tryz.underlying29 rfl (by kernel_rfl) (by decide) rfl rr) (wl_v (iv (f.W)) rfl rfl (y_ld_stc rfl rfl Tryz.underlying3 B4 rfl rfl rr) (wl_call (R := fun v_ w_ => v_ = .bool false ∧ Kept (fun _ => False) w2 w_) rfl rfl (y_cs rfl rfl rfl (fun _ _ => by kernel_rfl) (ev_func _) (vsC rfl vsN) (fref_side (f.W)  _   ) (fun e_ w_ h_ => ⟨_, h_.1, (congrArg Value.bool d18), h_.2⟩)) ?_)))
  rintro _ w115 ⟨rfl, k116⟩
  have K121 := K13.tr k116
  refine wl_v (.bool true) rfl rfl (y_not rfl rfl rfl rr) (wl_v (.bool true) rfl rfl (y_mov rfl rfl rr) (wl_unless 4 false 7 rfl rfl rfl (Or.inl rfl) rfl (wl_unless 4 false 7 rfl rfl rfl (Or.inl rfl) rfl (wl_unless 4 false 7 rfl rfl rfl (Or.inl rfl) rfl (wl_unless 4 false 7 rfl rfl rfl (Or.inl rfl) rfl (wl_v (.bool true) rfl rfl (y_pickT rfl rfl rfl rr) (wl_v (.bool true) rfl rfl (y_mov rfl rfl rr) (wl_unless 10 false 13 rfl rfl rfl (Or.inl rfl) rfl (wl_unless 10 false 13 rfl rfl rfl (Or.inl rfl) rfl (wl_unless 10 false 13 rfl rfl rfl (Or.inl rfl) rfl (wl_unless 10 false 13 rfl rfl rfl (Or.inl rfl) rfl ?_)))))))))))
  refine wl_unless 10 false 13 rfl rfl rfl (Or.inl rfl) rfl (wl_unless 10 false 13 rfl rfl rfl (Or.inl rfl) rfl (wl_unless 10 false 13 rfl rfl rfl (Or.inl rfl) rfl (wl_unless 10 false 13 rfl rfl rfl (Or.inl rfl) rfl (wl_unless 10 false 13 rfl rfl rfl (Or.inl rfl) rfl (wl_unless 10 false 13 rfl rfl rfl (Or.inl rfl) rfl (wl_v (.bool true) rfl rfl (y_pickT rfl rfl rfl rr) (wl_v (.bool true) rfl rfl (y_mov rfl rfl rr) (wl_unless 22 false 25 rfl rfl rfl (Or.inl rfl) rfl (wl_unless 22 false 25 rfl rfl rfl (Or.inl rfl) rfl (wl_unless 22 false 25 rfl rfl rfl (Or.inl rfl) rfl (wl_unless 22 false 25 rfl rfl rfl (Or.inl rfl) rfl ?_)))))))))))
  refine wl_unless 22 false 25 rfl rfl rfl (Or.inl rfl) rfl (wl_unless 22 false 25 rfl rfl rfl (Or.inl rfl) rfl (wl_unless 22 false 25 rfl rfl rfl (Or.inl rfl) rfl (wl_unless 22 false 25 rfl rfl rfl (Or.inl rfl) rfl (wl_unless 22 false 25 rfl rfl rfl (Or.inl rfl) rfl (wl_unless 22 false 25 rfl rfl rfl (Or.inl rfl) rfl (wl_unless 22 false 25 rfl rfl rfl (Or.inl rfl) rfl (wl_v (.bool true) rfl rfl (y_pickT rfl rfl rfl rr) (wl_v (.bool true) rfl rfl (y_mov rfl rfl rr) (wl_unless 35 false 38 rfl rfl rfl (Or.inl rfl) rfl (wl_unless 35 false 38 rfl rfl rfl (Or.inl rfl) rfl (wl_unless 35 false 38 rfl rfl rfl (Or.inl rfl) rfl ?_)))))))))))
  refine wl_unless 35 false 38 rfl rfl rfl (Or.inl rfl) rfl (wl_unless 35 false 38 rfl rfl rfl (Or.inl rfl) rfl (wl_unless 35 false 38 rfl rfl rfl (Or.inl rfl) rfl (wl_unless 35 false 38 rfl rfl rfl (Or.inl rfl) rfl (wl_unless 35 false 38 rfl rfl rfl (Or.inl rfl) rfl (wl_unless 35 false 38 rfl rfl rfl (Or.inl rfl) rfl (wl_unless 35 false 38 rfl rfl rfl (Or.inl rfl) rfl (wl_unless 35 false 38 rfl rfl rfl (Or.inl rfl) rfl (wl_v (.bool true) rfl rfl (y_pickT rfl rfl rfl rr) (wl_nil fun F122 hF123 => ?_)))))))))
  have s124 := (hF123 51).trans s16
  have s125 : F122 50 = .bool true := (hF123 50).trans rfl
  clear hF123
  refine then_normal ?_
  refine wq_cond (t := true) s125 (fun _ => ?_) (fun e => by cases e)
  refine wq_seq (wq_region (wl_v (iv 70) rfl rfl (y_asg rfl rfl rr) (wl_nil fun F126 hF127 => ?_)))
  have s128 := (hF127 51).trans s124
  have s129 : F126 2 = iv 70 := (hF127 2).trans rfl
  clear hF127
  refine then_normal (wq_ret (then_ret ?_))
  exact end_tmp (v := iv 70) s128 rfl rfl s129 ⟨(by first | rw [checkE_ok ⟨by assumption, by assumption, by first | assumption | (apply Decidable.byContradiction; assumption), by first | assumption | (apply Decidable.byContradiction; assumption), by first | assumption | (apply Decidable.byContradiction; assumption)⟩] | rw [checkE_no (by rintro ⟨h1, h2, h3, h4, h5⟩; simp_all)]), K121⟩
theorem fref_size (p : Int) (f : FD) (f0 f1 f2 : Value) (T_f0 : Nat → Prop) (T_f1 : Nat → Prop) (T_f2 : Nat → Prop) (w0 : World) (h_f0 : Byt w0 T_f0 f0 ((f).p0)) (h_f1 : Byt w0 T_f1 f1 ((f).p1)) (h_f2 : Byt w0 T_f2 f2 ((f).p2)) :
  Calls Tryz.prog 87 #[.agg #[.int .i64 ((f).W), .int .i64 ((f).H), f0, f1, f2], .int .i64 (p)] w0 fun e w' => e = .returned (.tuple #[.int .i64 ((sizeF f p).1), .int .i64 ((sizeF f p).2)]) ∧ Kept (fun _ => False) w0 w' := by
 refine calls_wq (args := [.agg #[iv (f.W), iv (f.H), f0, f1, f2], iv p]) 29 Tryz.func87 rfl rfl (Nat.le_of_ble_eq_true rfl) ?_
 have K0 := Kept.refl (fun _ => False) w0
 have g_f0 := Grew.refl w0 T_f0
 have g_f1 := Grew.refl w0 T_f1
 have g_f2 := Grew.refl w0 T_f2
 refine wq_seq (wq_region (wl_box_stc (vs := [iv (f.W), iv (f.H), f0, f1, f2]) rfl rfl rfl rfl fun p1 w2 B4 g5 k3 => ?_))
 have B10 := h_f0.all k3 Apart.none
 have B11 := h_f1.all k3 Apart.none
 have B12 := h_f2.all k3 Apart.none
 have K13 := K0.tr k3
 refine wl_v (iv 0) rfl rfl (y_asg rfl rfl rr) (wl_v (iv 0) rfl rfl (y_asg rfl rfl rr) (wl_nil fun F14 hF15 => ?_))
 have s16 : F14 1 = iv p := (hF15 1).trans rfl
 have s17 : F14 29 = undef := (hF15 29).trans rfl
 have s18 : F14 2 = pt p1 0 := (hF15 2).trans rfl
 clear hF15
 refine then_normal (wq_seq (wq_seq ?_))
 by_cases d19 : (checkE f) ≠ 0
 ·skip
  refine wq_region (wl_v (.agg #[iv (f.W), iv (f.H), f0, f1, f2]) rfl rfl (y_load_stc stcT_frame rfl s18 B4 rr) (wl_cs rfl rfl rfl rfl rfl (fun _ _ => by kernel_rfl) (vsC rfl vsN) (fref_check f f0 f1 f2 T_f0 T_f1 T_f2 _  B10 B11 B12 ) fun w20 k21 => ?_))
  have K26 := K13.tr k21
  refine wl_v (.bool true) rfl rfl (y_neqI rfl rfl rfl (decide_eq_true d19) rr) (wl_v (.bool true) rfl rfl (y_mov rfl rfl rr) (wl_unless 3 false 9 rfl rfl rfl (Or.inl rfl) rfl (wl_unless 3 false 9 rfl rfl rfl (Or.inl rfl) rfl (wl_v (.bool true) rfl rfl (y_pickT rfl rfl rfl rr) (wl_v (.bool true) rfl rfl (y_mov rfl rfl rr) (wl_unless 7 false 13 rfl rfl rfl (Or.inl rfl) rfl (wl_unless 7 false 13 rfl rfl rfl (Or.inl rfl) rfl (wl_v (.bool true) rfl rfl (y_pickT rfl rfl rfl rr) (wl_nil fun F27 hF28 => ?_)))))))))
  have s30 := (hF28 29).trans s17
  have s32 : F27 16 = .bool true := (hF28 16).trans rfl
  clear hF28
  refine then_normal ?_
  refine wq_cond (t := true) s32 (fun _ => ?_) (fun e => by cases e)
  refine wq_seq (wq_region (wl_v (iv 0) rfl rfl (y_asg rfl rfl rr) (wl_v (iv 0) rfl rfl (y_asg rfl rfl rr) (wl_nil fun F33 hF34 => ?_))))
  have s35 := (hF34 29).trans s30
  have s36 : F33 4 = iv 0 := (hF34 4).trans rfl
  have s37 : F33 5 = iv 0 := (hF34 5).trans rfl
  clear hF34
  refine then_normal (wq_ret (then_ret ?_))
  exact end_2 s35 rfl (res_tmp (v := iv 0) rfl s36) (res_tmp (v := iv 0) rfl s37) ⟨(by first | rw [sizeF_first hok (by omega)] | rw [sizeF_other hok (by omega) (by omega) (by omega)] | rw [sizeF_no (by rintro ⟨h1, h2, h3⟩; first | exact absurd ((checkE_iff f).2 h1) (by assumption) | omega)]), K26⟩
 ·skip
  by_cases d38 : p < 0
  ·skip
   refine wq_region (wl_v (.agg #[iv (f.W), iv (f.H), f0, f1, f2]) rfl rfl (y_load_stc stcT_frame rfl s18 B4 rr) (wl_cs rfl rfl rfl rfl rfl (fun _ _ => by kernel_rfl) (vsC rfl vsN) (fref_check f f0 f1 f2 T_f0 T_f1 T_f2 _  B10 B11 B12 ) fun w39 k40 => ?_))
   have K45 := K13.tr k40
   refine wl_v (.bool false) rfl rfl (y_neqI rfl rfl rfl (decide_eq_false d19) rr) (wl_v (.bool false) rfl rfl (y_mov rfl rfl rr) (wl_vw (iv p) 3 false 9 rfl rfl rfl rfl rfl (y_mov rfl s16 rr) (wl_vw (.bool true) 3 false 9 rfl rfl rfl rfl rfl (y_lss rfl rfl rfl (decide_eq_true d38) rr) (wl_v (.bool true) rfl rfl (y_pickF rfl rfl rfl rr) (wl_v (.bool true) rfl rfl (y_mov rfl rfl rr) (wl_unless 7 false 13 rfl rfl rfl (Or.inl rfl) rfl (wl_unless 7 false 13 rfl rfl rfl (Or.inl rfl) rfl (wl_v (.bool true) rfl rfl (y_pickT rfl rfl rfl rr) (wl_nil fun F46 hF47 => ?_)))))))))
   have s49 := (hF47 29).trans s17
   have s51 : F46 16 = .bool true := (hF47 16).trans rfl
   clear hF47
   refine then_normal ?_
   refine wq_cond (t := true) s51 (fun _ => ?_) (fun e => by cases e)
   refine wq_seq (wq_region (wl_v (iv 0) rfl rfl (y_asg rfl rfl rr) (wl_v (iv 0) rfl rfl (y_asg rfl rfl rr) (wl_nil fun F52 hF53 => ?_))))
   have s54 := (hF53 29).trans s49
   have s55 : F52 4 = iv 0 := (hF53 4).trans rfl
   have s56 : F52 5 = iv 0 := (hF53 5).trans rfl
   clear hF53
   refine then_normal (wq_ret (then_ret ?_))
   exact end_2 s54 rfl (res_tmp (v := iv 0) rfl s55) (res_tmp (v := iv 0) rfl s56) ⟨(by first | rw [sizeF_first hok (by omega)] | rw [sizeF_other hok (by omega) (by omega) (by omega)] | rw [sizeF_no (by rintro ⟨h1, h2, h3⟩; first | exact absurd ((checkE_iff f).2 h1) (by assumption) | omega)]), K45⟩
  ·skip
   refine wq_region (wl_v (.agg #[iv (f.W), iv (f.H), f0, f1, f2]) rfl rfl (y_load_stc stcT_frame rfl s18 B4 rr) (wl_cs rfl rfl rfl rfl rfl (fun _ _ => by kernel_rfl) (vsC rfl vsN) (fref_check f f0 f1 f2 T_f0 T_f1 T_f2 _  B10 B11 B12 ) fun w57 k58 => ?_))
   have B62 := B4.all k58 id
   have K63 := K13.tr k58
   refine wl_v (.bool false) rfl rfl (y_neqI rfl rfl rfl (decide_eq_false d19) rr) (wl_v (.bool false) rfl rfl (y_mov rfl rfl rr) (wl_vw (iv p) 3 false 9 rfl rfl rfl rfl rfl (y_mov rfl s16 rr) (wl_vw (.bool false) 3 false 9 rfl rfl rfl rfl rfl (y_lss rfl rfl rfl (decide_eq_false d38) rr) (wl_v (.bool false) rfl rfl (y_pickF rfl rfl rfl rr) (wl_v (.bool false) rfl rfl (y_mov rfl rfl rr) (wl_vw (iv p) 7 false 13 rfl rfl rfl rfl rfl (y_mov rfl s16 rr) (wl_vw (.bool (decide (2 < p))) 7 false 13 rfl rfl rfl rfl rfl (y_gtr rfl rfl rfl rfl rr) (wl_v (.bool (decide (2 < p))) rfl rfl (y_pickF rfl rfl rfl rr) (wl_nil fun F64 hF65 => ?_)))))))))
   obtain ⟨s66, s67, s68⟩ := t3 hF65 1 s16 29 s17 2 s18
   have s69 : F64 16 = .bool (decide (2 < p)) := (hF65 16).trans rfl
   clear hF65
   refine then_normal ?_
   refine wq_cond s69 (fun c70 => ?_) (fun c70 => ?_)
   ·replace c70 := of_decide_eq_true c70
    refine wq_seq (wq_region (wl_v (iv 0) rfl rfl (y_asg rfl rfl rr) (wl_v (iv 0) rfl rfl (y_asg rfl rfl rr) (wl_nil fun F71 hF72 => ?_))))
    have s73 := (hF72 29).trans s67
    have s74 : F71 4 = iv 0 := (hF72 4).trans rfl
    have s75 : F71 5 = iv 0 := (hF72 5).trans rfl
    clear hF72
    refine then_normal (wq_ret (then_ret ?_))
    exact end_2 s73 rfl (res_tmp (v := iv 0) rfl s74) (res_tmp (v := iv 0) rfl s75) ⟨(by first | rw [sizeF_first hok (by omega)] | rw [sizeF_other hok (by omega) (by omega) (by omega)] | rw [sizeF_no (by rintro ⟨h1, h2, h3⟩; first | exact absurd ((checkE_iff f).2 h1) (by assumption) | omega)]), K63⟩
   ·replace c70 := of_decide_eq_false c70
    refine wq_skip (then_normal (wq_seq (wq_seq (wq_region (wl_mv rfl rfl rfl s66 (wl_v (.bool (decide (p = 0))) rfl rfl (y_eqlI rfl rfl rfl rfl rr) (wl_nil fun F76 hF77 => ?_)))))))
    obtain ⟨s78, s79⟩ := t2 hF77 29 s67 2 s68
    have s80 : F76 18 = .bool (decide (p = 0)) := (hF77 18).trans rfl
    clear hF77
    refine then_normal ?_
    refine wq_cond s80 (fun c81 => ?_) (fun c81 => ?_)
    ·replace c81 := of_decide_eq_true c81
     refine wq_seq ?_
     have hok := (checkE_iff f).1 (by first | assumption | (apply Decidable.byContradiction; assumption))
     refine wq_said [some 19, some 20, some 21, some 22, some 4, some 5] [Pd.eq (pt p1 0), Pd.eq (iv (f.W)), Pd.eq (pt p1 1), Pd.eq (iv (f.H)), Pd.eq (iv (f.W)), Pd.eq (iv (f.H))] (by kernel_rfl) (by kernel_rfl) ?_ ?_
     ·refine stepsF_cons ?_ ?_
      ·refine StepF.one rfl fun F_ w_ hR hout hD => ?_
       exact (y_fieldR (n := 1) rfl ((hout 2 rfl (by decide)).trans s79) Tryz.underlying29 rfl (by kernel_rfl) (by decide) rfl ⟨rfl, Kept.refl _ _⟩)
      refine stepsF_cons ?_ ?_
      ·refine StepF.one rfl fun F_ w_ hR hout hD => ?_
       have g19 : F_ 19 = pt p1 0 := (hD.get 0 rfl rfl rfl)
       exact (y_ld_stc rfl g19 Tryz.underlying3 (B62.all hR id) rfl rfl ⟨rfl, Kept.refl _ _⟩)
      refine stepsF_cons ?_ ?_
      ·refine StepF.one rfl fun F_ w_ hR hout hD => ?_
       exact (y_fieldR (n := 1) rfl ((hout 2 rfl (by decide)).trans s79) Tryz.underlying29 rfl (by kernel_rfl) (by decide) rfl ⟨rfl, Kept.refl _ _⟩)
      refine stepsF_cons ?_ ?_
      ·refine StepF.one rfl fun F_ w_ hR hout hD => ?_
       have g21 : F_ 21 = pt p1 1 := (hD.get 0 rfl rfl rfl)
       exact (y_ld_stc rfl g21 Tryz.underlying3 (B62.all hR id) rfl rfl ⟨rfl, Kept.refl _ _⟩)
      refine stepsF_cons ?_ ?_
      ·refine StepF.one rfl fun F_ w_ hR hout hD => ?_
       have g20 : F_ 20 = iv (f.W) := (hD.get 0 rfl rfl rfl)
       exact (y_asg rfl g20 ⟨rfl, Kept.refl _ _⟩)
      refine stepsF_cons ?_ ?_
      ·refine StepF.one rfl fun F_ w_ hR hout hD => ?_
       have g22 : F_ 22 = iv (f.H) := (hD.get 0 rfl rfl rfl)
       exact (y_asg rfl g22 ⟨rfl, Kept.refl _ _⟩)
      exact stepsF_nil
     intro v82 F83 w84 k85 G86 hF87
     have K93 := K63.tr k85
     have s94 := (hF87 29).trans s78
     have s95 : F83 4 = iv (f.W) := (hF87 4).trans (G86 4 (by decide))
     have s96 : F83 5 = iv (f.H) := (hF87 5).trans (G86 5 (by decide))
     clear G86 hF87
     refine then_normal (wq_ret (then_ret ?_))
     exact end_2 s94 rfl (res_tmp (v := iv (f.W)) rfl s95) (res_tmp (v := iv (f.H)) rfl s96) ⟨(by first | rw [sizeF_first hok (by omega)] | rw [sizeF_other hok (by omega) (by omega) (by omega)] | rw [sizeF_no (by rintro ⟨h1, h2, h3⟩; first | exact absurd ((checkE_iff f).2 h1) (by assumption) | omega)]), K93⟩
    ·replace c81 := of_decide_eq_false c81
     refine wq_skip (then_normal (wq_seq ?_))
     have hok := (checkE_iff f).1 (by first | assumption | (apply Decidable.byContradiction; assumption))
     have hws := (sideB_iff _).1 hok.1
     have hhs := (sideB_iff _).1 hok.2.1
     refine wq_said [some 23, some 24, some 25, some 26, some 27, some 28, some 4, some 5] [Pd.eq (pt p1 0), Pd.eq (iv (f.W)), Pd.eq (iv (Int.tdiv f.W 2)), Pd.eq (pt p1 1), Pd.eq (iv (f.H)), Pd.eq (iv (Int.tdiv f.H 2)), Pd.eq (iv (Int.tdiv f.W 2)), Pd.eq (iv (Int.tdiv f.H 2))] (by kernel_rfl) (by kernel_rfl) ?_ ?_
     ·refine stepsF_cons ?_ ?_
      ·refine StepF.one rfl fun F_ w_ hR hout hD => ?_
       exact (y_fieldR (n := 1) rfl ((hout 2 rfl (by decide)).trans s79) Tryz.underlying29 rfl (by kernel_rfl) (by decide) rfl ⟨rfl, Kept.refl _ _⟩)
      refine stepsF_cons ?_ ?_
      ·refine StepF.one rfl fun F_ w_ hR hout hD => ?_
       have g23 : F_ 23 = pt p1 0 := (hD.get 0 rfl rfl rfl)
       exact (y_ld_stc rfl g23 Tryz.underlying3 (B62.all hR id) rfl rfl ⟨rfl, Kept.refl _ _⟩)
      refine stepsF_cons ?_ ?_
      ·refine StepF.one rfl fun F_ w_ hR hout hD => ?_
       have g24 : F_ 24 = iv (f.W) := (hD.get 0 rfl rfl rfl)
       exact (y_quo rfl g24 rfl (by first | decide | omega) (i64_i rfl (by rw [tdiv2 (by omega)]; omega)) ⟨rfl, Kept.refl _ _⟩)
      refine stepsF_cons ?_ ?_
      ·refine StepF.one rfl fun F_ w_ hR hout hD => ?_
       exact (y_fieldR (n := 1) rfl ((hout 2 rfl (by decide)).trans s79) Tryz.underlying29 rfl (by kernel_rfl) (by decide) rfl ⟨rfl, Kept.refl _ _⟩)
      refine stepsF_cons ?_ ?_
      ·refine StepF.one rfl fun F_ w_ hR hout hD => ?_
       have g26 : F_ 26 = pt p1 1 := (hD.get 0 rfl rfl rfl)
       exact (y_ld_stc rfl g26 Tryz.underlying3 (B62.all hR id) rfl rfl ⟨rfl, Kept.refl _ _⟩)
      refine stepsF_cons ?_ ?_
      ·refine StepF.one rfl fun F_ w_ hR hout hD => ?_
       have g27 : F_ 27 = iv (f.H) := (hD.get 0 rfl rfl rfl)
       exact (y_quo rfl g27 rfl (by first | decide | omega) (i64_i rfl (by rw [tdiv2 (by omega)]; omega)) ⟨rfl, Kept.refl _ _⟩)
      refine stepsF_cons ?_ ?_
      ·refine StepF.one rfl fun F_ w_ hR hout hD => ?_
       have g25 : F_ 25 = iv (Int.tdiv f.W 2) := (hD.get 0 rfl rfl rfl)
       exact (y_asg rfl g25 ⟨rfl, Kept.refl _ _⟩)
      refine stepsF_cons ?_ ?_
      ·refine StepF.one rfl fun F_ w_ hR hout hD => ?_
       have g28 : F_ 28 = iv (Int.tdiv f.H 2) := (hD.get 0 rfl rfl rfl)
       exact (y_asg rfl g28 ⟨rfl, Kept.refl _ _⟩)
      exact stepsF_nil
     intro v97 F98 w99 k100 G101 hF102
     have K108 := K63.tr k100
     have s109 := (hF102 29).trans s78
     have s110 : F98 4 = iv (Int.tdiv f.W 2) := (hF102 4).trans (G101 6 (by decide))
     have s111 : F98 5 = iv (Int.tdiv f.H 2) := (hF102 5).trans (G101 7 (by decide))
     clear G101 hF102
     refine then_normal (wq_ret ?_)
     exact end_2 s109 rfl (res_tmp (v := iv (Int.tdiv f.W 2)) rfl s110) (res_tmp (v := iv (Int.tdiv f.H 2)) rfl s111) ⟨(by first | rw [sizeF_first hok (by omega)] | rw [sizeF_other hok (by omega) (by omega) (by omega)] | rw [sizeF_no (by rintro ⟨h1, h2, h3⟩; first | exact absurd ((checkE_iff f).2 h1) (by assumption) | omega)]), K108⟩
theorem fref_near (n : Int) (w0 : World) :
  Calls Tryz.prog 88 #[.int .i64 (n)] w0 fun e w' => e = .returned (.int .i64 (nearI n)) ∧ Kept (fun _ => False) w0 w' := by
 refine calls_wq (args := [iv n]) 6 Tryz.func88 rfl rfl (Nat.le_of_ble_eq_true rfl) ?_
 have K0 := Kept.refl (fun _ => False) w0
 refine wq_seq (wq_region (wl_v (iv 0) rfl rfl (y_asg rfl rfl rr) (wl_nil fun F1 hF2 => ?_)))
 have s3 : F1 0 = iv n := (hF2 0).trans rfl
 have s4 : F1 6 = undef := (hF2 6).trans rfl
 clear hF2
 refine then_normal (wq_seq (wq_region (wl_mv rfl rfl rfl s3 (wl_v (iv (max n (-64))) rfl rfl (y_maxR rfl rfl rfl rfl rr) (wl_v (iv (min (max n (-64)) 128)) rfl rfl (y_minR rfl rfl rfl rfl rr) (wl_v (iv (min (max n (-64)) 128)) rfl rfl (y_asg rfl rfl rr) (wl_nil fun F5 hF6 => ?_)))))))
 have s7 := (hF6 6).trans s4
 have s8 : F5 2 = iv (min (max n (-64)) 128) := (hF6 2).trans rfl
 clear hF6
 refine then_normal (wq_ret ?_)
 exact end_tmp (v := iv (min (max n (-64)) 128)) s7 rfl rfl s8 ⟨rfl, K0⟩
theorem fref_at (p x y : Int) (f : FD) (f0 f1 f2 : Value) (T_f0 : Nat → Prop) (T_f1 : Nat → Prop) (T_f2 : Nat → Prop) (w0 : World) (h_f0 : Byt w0 T_f0 f0 ((f).p0)) (h_f1 : Byt w0 T_f1 f1 ((f).p1)) (h_f2 : Byt w0 T_f2 f2 ((f).p2)) :
  Calls Tryz.prog 148 #[.agg #[.int .i64 ((f).W), .int .i64 ((f).H), f0, f1, f2], .int .i64 (p), .int .i64 (x), .int .i64 (y)] w0 fun e w' => e = .returned (.int .i64 (atF f p x y)) ∧ Kept (fun _ => False) w0 w' := by
 refine calls_wq (args := [.agg #[iv (f.W), iv (f.H), f0, f1, f2], iv p, iv x, iv y]) 39 Tryz.func148 rfl rfl (Nat.le_of_ble_eq_true rfl) ?_
 have K0 := Kept.refl (fun _ => False) w0
 have g_f0 := Grew.refl w0 T_f0
 have g_f1 := Grew.refl w0 T_f1
 have g_f2 := Grew.refl w0 T_f2
 refine wq_seq (wq_region (wl_box_stc (vs := [iv (f.W), iv (f.H), f0, f1, f2]) rfl rfl rfl rfl fun p1 w2 B4 g5 k3 => ?_))
 have B10 := h_f0.all k3 Apart.none
 have B11 := h_f1.all k3 Apart.none
 have B12 := h_f2.all k3 Apart.none
 have K13 := K0.tr k3
 refine wl_v (iv 0) rfl rfl (y_asg rfl rfl rr) (wl_nil fun F14 hF15 => ?_)
 have s16 : F14 1 = iv p := (hF15 1).trans rfl
 have s17 : F14 2 = iv x := (hF15 2).trans rfl
 have s18 : F14 3 = iv y := (hF15 3).trans rfl
 have s19 : F14 39 = undef := (hF15 39).trans rfl
 have s20 : F14 4 = pt p1 0 := (hF15 4).trans rfl
 clear hF15
 refine then_normal (wq_seq (wq_region (wl_v (.agg #[iv (f.W), iv (f.H), f0, f1, f2]) rfl rfl (y_load_stc stcT_frame rfl s20 B4 rr) (wl_mv rfl rfl rfl s16 (wl_cs rfl rfl rfl rfl rfl (fun _ _ => by kernel_rfl) (vsC rfl (vsC rfl vsN)) (fref_size p f f0 f1 f2 T_f0 T_f1 T_f2 _  B10 B11 B12 ) fun w21 k22 => ?_)))))
 have B23 := B10.all k22 Apart.none
 have B24 := B11.all k22 Apart.none
 have B25 := B12.all k22 Apart.none
 have B26 := B4.all k22 id
 have K27 := K13.tr k22
 refine wl_v (.tuple #[iv ((sizeF f p).1), iv ((sizeF f p).2)]) rfl rfl (y_mov rfl rfl rr) (wl_v (iv ((sizeF f p).1)) rfl rfl (y_ext rfl rfl rfl rr) (wl_v (iv ((sizeF f p).2)) rfl rfl (y_ext rfl rfl rfl rr) (wl_v (iv ((sizeF f p).1)) rfl rfl (y_asg rfl rfl rr) (wl_v (iv ((sizeF f p).2)) rfl rfl (y_asg rfl rfl rr) (wl_nil fun F28 hF29 => ?_)))))
 obtain ⟨s30, s31, s32, s33, s34⟩ := t5 hF29 1 s16 2 s17 3 s18 39 s19 4 s20
 have s35 : F28 9 = iv ((sizeF f p).1) := (hF29 9).trans rfl
 have s36 : F28 10 = iv ((sizeF f p).2) := (hF29 10).trans rfl
 clear hF29
 refine then_normal (wq_seq (wq_seq (wq_region (wl_mv rfl rfl rfl s35 (wl_v (.bool (decide (((sizeF f p).1) = 0))) rfl rfl (y_eqlI rfl rfl rfl rfl rr) (wl_nil fun F37 hF38 => ?_))))))
 obtain ⟨s39, s40, s41, s42, s43, s44, s45⟩ := t7 hF38 1 s30 2 s31 3 s32 39 s33 4 s34 9 s35 10 s36
 have s46 : F37 18 = .bool (decide (((sizeF f p).1) = 0)) := (hF38 18).trans rfl
 clear hF38
 refine then_normal ?_
 refine wq_cond s46 (fun c47 => ?_) (fun c47 => ?_)
 ·replace c47 := of_decide_eq_true c47
  refine wq_seq (wq_region (wl_v (iv 0) rfl rfl (y_asg rfl rfl rr) (wl_nil fun F48 hF49 => ?_)))
  have s50 := (hF49 39).trans s42
  have s51 : F48 8 = iv 0 := (hF49 8).trans rfl
  clear hF49
  refine then_normal (wq_ret (then_ret ?_))
  exact end_tmp (v := iv 0) s50 rfl rfl s51 ⟨(by first | rw [atF_none x y (by assumption)] | rw [atF_some x y hsz]; rfl), K27⟩
 ·replace c47 := of_decide_eq_false c47
  refine wq_skip (then_normal (wq_seq ?_))
  rcases (show p = 0 ∨ p = 1 ∨ p = 2 from size_cases (f := f) (by assumption)) with rfl | rfl | rfl
  ·skip
   have hsz : (sizeF f 0).1 ≠ 0 := by assumption
   have hb := size_bounds f 0
   have hc := cell_bounds x y hsz
   refine wq_region (wl_mv rfl rfl rfl s39 (wl_v (pt p1 2) rfl rfl (y_fieldR (n := 3) rfl s43 Tryz.underlying29 rfl (by kernel_rfl) (by decide) rfl rr) (wl_v (pt p1 2) rfl rfl (y_atR 0 (s := 1) rfl rfl rfl (by omega) Tryz.underlying27 (by omega) (by kernel_rfl) (by omega) rr) (wl_v f0 rfl rfl (y_ld_stc rfl rfl Tryz.underlying26 B26 rfl rfl rr) (wl_mv rfl rfl rfl s41 (wl_v (iv (max y 0)) rfl rfl (y_maxR rfl rfl rfl rfl rr) (wl_mv rfl rfl rfl s45 (wl_v (iv (((sizeF f 0).2) - 1)) rfl rfl (y_sub rfl rfl rfl (i64_i rfl (by omega)) rr) (wl_v (iv (min (max y 0) (((sizeF f 0).2) - 1))) rfl rfl (y_minR rfl rfl rfl rfl rr) (wl_mv rfl rfl rfl s44 (wl_v (iv (min (max y 0) ((sizeF f 0).2 - 1) * (sizeF f 0).1)) rfl rfl (y_mul rfl rfl rfl (i64_i rfl (by omega)) rr) ?_)))))))))))
   refine wl_mv rfl rfl rfl s40 (wl_v (iv (max x 0)) rfl rfl (y_maxR rfl rfl rfl rfl rr) (wl_mv rfl rfl rfl s44 (wl_v (iv (((sizeF f 0).1) - 1)) rfl rfl (y_sub rfl rfl rfl (i64_i rfl (by omega)) rr) (wl_v (iv (min (max x 0) (((sizeF f 0).1) - 1))) rfl rfl (y_minR rfl rfl rfl rfl rr) (wl_v (iv (((cellF f 0 x y).toNat : Nat) : Int)) rfl rfl (y_add rfl rfl rfl ((i64_i rfl (by show _ ≤ cellF f 0 x y ∧ cellF f 0 x y ≤ _; omega)).trans (Int.toNat_of_nonneg (by omega)).symm) rr) (wl_v (bytAddr f0 ((cellF f 0 x y).toNat)) rfl rfl (y_atB ((cellF f 0 x y).toNat) rfl rfl rfl (by omega) B23 (cell_at x y hsz) rr) ?_))))))
   have u52 := getD_lt B23.lt256 ((cellF f 0 x y).toNat)
   refine wl_v (.int .u8 (((f.p0).getD ((cellF f 0 x y).toNat) 0 : Nat) : Int)) rfl rfl (y_ldB rfl rfl B23 (cell_at x y hsz) rr) (wl_v (iv (((f.p0).getD ((cellF f 0 x y).toNat) 0 : Nat) : Int)) rfl rfl (y_convR rfl rfl Tryz.underlying5 Tryz.underlying3 (i64_i rfl (by omega)) rr) (wl_v (iv (((f.p0).getD ((cellF f 0 x y).toNat) 0 : Nat) : Int)) rfl rfl (y_asg rfl rfl rr) (wl_nil fun F53 hF54 => ?_)))
   have s55 := (hF54 39).trans s42
   have s56 : F53 8 = iv (((f.p0).getD ((cellF f 0 x y).toNat) 0 : Nat) : Int) := (hF54 8).trans rfl
   clear hF54
   refine then_normal (wq_ret ?_)
   exact end_tmp (v := iv (((f.p0).getD ((cellF f 0 x y).toNat) 0 : Nat) : Int)) s55 rfl rfl s56 ⟨(by first | rw [atF_none x y (by assumption)] | rw [atF_some x y hsz]; rfl), K27⟩
  ·skip
   have hsz : (sizeF f 1).1 ≠ 0 := by assumption
   have hb := size_bounds f 1
   have hc := cell_bounds x y hsz
   refine wq_region (wl_mv rfl rfl rfl s39 (wl_v (pt p1 2) rfl rfl (y_fieldR (n := 3) rfl s43 Tryz.underlying29 rfl (by kernel_rfl) (by decide) rfl rr) (wl_v (pt p1 3) rfl rfl (y_atR 1 (s := 1) rfl rfl rfl (by omega) Tryz.underlying27 (by omega) (by kernel_rfl) (by omega) rr) (wl_v f1 rfl rfl (y_ld_stc rfl rfl Tryz.underlying26 B26 rfl rfl rr) (wl_mv rfl rfl rfl s41 (wl_v (iv (max y 0)) rfl rfl (y_maxR rfl rfl rfl rfl rr) (wl_mv rfl rfl rfl s45 (wl_v (iv (((sizeF f 1).2) - 1)) rfl rfl (y_sub rfl rfl rfl (i64_i rfl (by omega)) rr) (wl_v (iv (min (max y 0) (((sizeF f 1).2) - 1))) rfl rfl (y_minR rfl rfl rfl rfl rr) (wl_mv rfl rfl rfl s44 (wl_v (iv (min (max y 0) ((sizeF f 1).2 - 1) * (sizeF f 1).1)) rfl rfl (y_mul rfl rfl rfl (i64_i rfl (by omega)) rr) ?_)))))))))))
   refine wl_mv rfl rfl rfl s40 (wl_v (iv (max x 0)) rfl rfl (y_maxR rfl rfl rfl rfl rr) (wl_mv rfl rfl rfl s44 (wl_v (iv (((sizeF f 1).1) - 1)) rfl rfl (y_sub rfl rfl rfl (i64_i rfl (by omega)) rr) (wl_v (iv (min (max x 0) (((sizeF f 1).1) - 1))) rfl rfl (y_minR rfl rfl rfl rfl rr) (wl_v (iv (((cellF f 1 x y).toNat : Nat) : Int)) rfl rfl (y_add rfl rfl rfl ((i64_i rfl (by show _ ≤ cellF f 1 x y ∧ cellF f 1 x y ≤ _; omega)).trans (Int.toNat_of_nonneg (by omega)).symm) rr) (wl_v (bytAddr f1 ((cellF f 1 x y).toNat)) rfl rfl (y_atB ((cellF f 1 x y).toNat) rfl rfl rfl (by omega) B24 (cell_at x y hsz) rr) ?_))))))
   have u57 := getD_lt B24.lt256 ((cellF f 1 x y).toNat)
   refine wl_v (.int .u8 (((f.p1).getD ((cellF f 1 x y).toNat) 0 : Nat) : Int)) rfl rfl (y_ldB rfl rfl B24 (cell_at x y hsz) rr) (wl_v (iv (((f.p1).getD ((cellF f 1 x y).toNat) 0 : Nat) : Int)) rfl rfl (y_convR rfl rfl Tryz.underlying5 Tryz.underlying3 (i64_i rfl (by omega)) rr) (wl_v (iv (((f.p1).getD ((cellF f 1 x y).toNat) 0 : Nat) : Int)) rfl rfl (y_asg rfl rfl rr) (wl_nil fun F58 hF59 => ?_)))
   have s60 := (hF59 39).trans s42
   have s61 : F58 8 = iv (((f.p1).getD ((cellF f 1 x y).toNat) 0 : Nat) : Int) := (hF59 8).trans rfl
   clear hF59
   refine then_normal (wq_ret ?_)
   exact end_tmp (v := iv (((f.p1).getD ((cellF f 1 x y).toNat) 0 : Nat) : Int)) s60 rfl rfl s61 ⟨(by first | rw [atF_none x y (by assumption)] | rw [atF_some x y hsz]; rfl), K27⟩
  ·skip
   have hsz : (sizeF f 2).1 ≠ 0 := by assumption
   have hb := size_bounds f 2
   have hc := cell_bounds x y hsz
   refine wq_region (wl_mv rfl rfl rfl s39 (wl_v (pt p1 2) rfl rfl (y_fieldR (n := 3) rfl s43 Tryz.underlying29 rfl (by kernel_rfl) (by decide) rfl rr) (wl_v (pt p1 4) rfl rfl (y_atR 2 (s := 1) rfl rfl rfl (by omega) Tryz.underlying27 (by omega) (by kernel_rfl) (by omega) rr) (wl_v f2 rfl rfl (y_ld_stc rfl rfl Tryz.underlying26 B26 rfl rfl rr) (wl_mv rfl rfl rfl s41 (wl_v (iv (max y 0)) rfl rfl (y_maxR rfl rfl rfl rfl rr) (wl_mv rfl rfl rfl s45 (wl_v (iv (((sizeF f 2).2) - 1)) rfl rfl (y_sub rfl rfl rfl (i64_i rfl (by omega)) rr) (wl_v (iv (min (max y 0) (((sizeF f 2).2) - 1))) rfl rfl (y_minR rfl rfl rfl rfl rr) (wl_mv rfl rfl rfl s44 (wl_v (iv (min (max y 0) ((sizeF f 2).2 - 1) * (sizeF f 2).1)) rfl rfl (y_mul rfl rfl rfl (i64_i rfl (by omega)) rr) ?_)))))))))))
   refine wl_mv rfl rfl rfl s40 (wl_v (iv (max x 0)) rfl rfl (y_maxR rfl rfl rfl rfl rr) (wl_mv rfl rfl rfl s44 (wl_v (iv (((sizeF f 2).1) - 1)) rfl rfl (y_sub rfl rfl rfl (i64_i rfl (by omega)) rr) (wl_v (iv (min (max x 0) (((sizeF f 2).1) - 1))) rfl rfl (y_minR rfl rfl rfl rfl rr) (wl_v (iv (((cellF f 2 x y).toNat : Nat) : Int)) rfl rfl (y_add rfl rfl rfl ((i64_i rfl (by show _ ≤ cellF f 2 x y ∧ cellF f 2 x y ≤ _; omega)).trans (Int.toNat_of_nonneg (by omega)).symm) rr) (wl_v (bytAddr f2 ((cellF f 2 x y).toNat)) rfl rfl (y_atB ((cellF f 2 x y).toNat) rfl rfl rfl (by omega) B25 (cell_at x y hsz) rr) ?_))))))
   have u62 := getD_lt B25.lt256 ((cellF f 2 x y).toNat)
   refine wl_v (.int .u8 (((f.p2).getD ((cellF f 2 x y).toNat) 0 : Nat) : Int)) rfl rfl (y_ldB rfl rfl B25 (cell_at x y hsz) rr) (wl_v (iv (((f.p2).getD ((cellF f 2 x y).toNat) 0 : Nat) : Int)) rfl rfl (y_convR rfl rfl Tryz.underlying5 Tryz.underlying3 (i64_i rfl (by omega)) rr) (wl_v (iv (((f.p2).getD ((cellF f 2 x y).toNat) 0 : Nat) : Int)) rfl rfl (y_asg rfl rfl rr) (wl_nil fun F63 hF64 => ?_)))
   have s65 := (hF64 39).trans s42
   have s66 : F63 8 = iv (((f.p2).getD ((cellF f 2 x y).toNat) 0 : Nat) : Int) := (hF64 8).trans rfl
   clear hF64
   refine then_normal (wq_ret ?_)
   exact end_tmp (v := iv (((f.p2).getD ((cellF f 2 x y).toNat) 0 : Nat) : Int)) s65 rfl rfl s66 ⟨(by first | rw [atF_none x y (by assumption)] | rw [atF_some x y hsz]; rfl), K27⟩
end Go.Proofs.YtknjpdcpmpfklaaGreatDoor
