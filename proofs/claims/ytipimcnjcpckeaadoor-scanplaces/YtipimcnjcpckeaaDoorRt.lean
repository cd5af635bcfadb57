/- A region that draws its order and ends in operations that wait for all others (stores): each of the others looked at once, then the last ones as they stand. No program in it. -/
import Derived.Test.YtipimcnjcpckeaaDoorRg
namespace Go.Proofs.YtipimcnjcpckeaaDoor
open Go.RowKit

def waitsOn (o : Oper) (j : Nat) : Bool := o.after.toList.any fun e => Region.binds .any e && e.on == j

/-- The operations from n on come last, one behind the other. -/
def tailed (os : List Oper) (n : Nat) : Bool :=
  decide (n < os.length) &&
  ((List.range n).all fun i => (List.range (n + 1)).any fun j => decide (i < j) && (os[j]?.any fun o => waitsOn o i)) &&
  ((List.range os.length).all fun j => !decide (n < j) || (os[j]?.any fun o => waitsOn o (j - 1))) &&
  ((List.range os.length).all fun j => os[j]?.all fun o => o.after.toList.all fun e => !Region.binds .any e || decide (e.on < j)) &&
  ((List.range n).all fun j => os[j]?.all fun o => match o.guard with | none => true | some g => decide (g.1 < n))

structure Tailed (ops : Array Oper) (n : Nat) : Prop where
  lt : n < ops.size
  cov : ∀ i, i < n → ∃ j o, i < j ∧ j ≤ n ∧ ops[j]? = some o ∧ ∃ e ∈ o.after.toList, Region.binds .any e = true ∧ e.on = i
  line : ∀ j o, n < j → ops[j]? = some o → ∃ e ∈ o.after.toList, Region.binds .any e = true ∧ e.on = j - 1
  back : ∀ (k : Nat) (o : Oper), ops[k]? = some o → ∀ e ∈ o.after.toList, Region.binds .any e = true → e.on < k
  guards : ∀ (k : Nat) (o : Oper), k < n → ops[k]? = some o → ∀ g, o.guard = some g → g.1 < n

theorem waitsOn_iff {o : Oper} {j : Nat} : waitsOn o j = true ↔ ∃ e ∈ o.after.toList, Region.binds .any e = true ∧ e.on = j := by
  unfold waitsOn
  rw [List.any_eq_true]
  constructor
  · rintro ⟨e, he, h⟩; simp only [Bool.and_eq_true, beq_iff_eq] at h; exact ⟨e, he, h.1, h.2⟩
  · rintro ⟨e, he, h1, h2⟩; exact ⟨e, he, by simp [h1, h2]⟩

theorem tailed_all {ops : Array Oper} {n : Nat} (h : tailed ops.toList n = true) : Tailed ops n := by
  unfold tailed at h
  simp only [Bool.and_eq_true, decide_eq_true_eq, List.all_eq_true, List.mem_range] at h
  obtain ⟨⟨⟨⟨h1, h2⟩, h3⟩, h4⟩, h5⟩ := h
  refine ⟨by simpa using h1, fun i hi => ?_, fun j o hj ho => ?_, fun k o hk e he hb => ?_, fun k o hkn hk g hg => ?_⟩
  · obtain ⟨j, hj, h⟩ := List.any_eq_true.1 (h2 i hi)
    have hj' : j < n + 1 := by simpa using hj
    simp only [Bool.and_eq_true, decide_eq_true_eq] at h
    cases ho : ops.toList[j]? with
    | none => rw [ho] at h; simp at h
    | some o =>
      rw [ho] at h
      exact ⟨j, o, h.1, by omega, by simpa using ho, waitsOn_iff.1 (by simpa using h.2)⟩
  · have hlt : j < ops.toList.length := by have := (Array.getElem?_eq_some_iff.1 ho).1; simpa using this
    have h := h3 j hlt
    have ho' : ops.toList[j]? = some o := by simpa using ho
    rw [ho'] at h
    simp only [hj, decide_true, Bool.not_true, Bool.false_or, Option.any_some] at h
    exact waitsOn_iff.1 h
  · have hlt : k < ops.toList.length := by have := (Array.getElem?_eq_some_iff.1 hk).1; simpa using this
    have h := h4 k hlt
    have ho' : ops.toList[k]? = some o := by simpa using hk
    rw [ho'] at h
    simp only [Option.all_some] at h
    have := List.all_eq_true.1 h e he
    simpa [hb] using this
  · have h := h5 k hkn
    have ho' : ops.toList[k]? = some o := by simpa using hk
    rw [ho'] at h
    simp only [Option.all_some, hg] at h
    simpa using h

theorem ready_mk {ops : Array Oper} {listed : Array Bool} {i : Nat} {o : Oper} (hi : i < ops.size) (hls : listed.size = ops.size) (hl : listed.getD i false = false) (ho : ops[i]? = some o)
    (h : ∀ e ∈ o.after.toList, Region.binds .any e = true → listed.getD e.on false = true) : i ∈ Region.ready .any ops listed := by
  unfold Region.ready
  refine List.mem_filter.2 ⟨by simpa using hi, ?_⟩
  have hl2 : listed.getD i true = false := by
    have : i < listed.size := by omega
    simpa [Array.getD, this] using hl
  simp only [hl2, ho, Option.map_some, Option.getD_some, Bool.not_false, Bool.true_and]
  refine Array.all_eq_true'.2 fun e he => ?_
  cases hbe : Region.binds .any e with
  | false => rfl
  | true =>
    have := h e (by simpa using he) hbe
    simp only [this, Bool.or_true]

theorem wpAny_last {P : Program} {ops : Array Oper} {Q : Exit → Act → World → Prop} {n : Nat} (T : Tailed ops n) :
    ∀ (fuel k : Nat) (listed : Array Bool) (a : Act) (w : World), n ≤ k → k ≤ ops.size → ops.size - k ≤ fuel → listed.size = ops.size → (∀ j, j < k → listed.getD j false = true) → (∀ j, k ≤ j → listed.getD j false = false) →
      wpList P ops Q (ops.toList.drop k) a w → wpAny P .any ops Q fuel listed a w := by
  have none_ready : ∀ (listed : Array Bool), listed.size = ops.size → (∀ j, j < ops.size → listed.getD j false = true) → Region.ready .any ops listed = [] := by
    intro listed hls hall
    cases hr : Region.ready .any ops listed with
    | nil => rfl
    | cons y r =>
      have hy : y ∈ Region.ready .any ops listed := by rw [hr]; simp
      obtain ⟨q1, q2, _⟩ := mem_ready hy
      have h1 := hall y q1
      rw [getD_same _ y (by omega)] at q2
      rw [q2] at h1; cases h1
  intro fuel
  induction fuel with
  | zero =>
    intro k listed a w hn hk hf hls h1 h2 hw
    have hke : k = ops.size := by omega
    subst hke
    rw [List.drop_of_length_le (by simp)] at hw
    exact ⟨none_ready listed hls h1, hw⟩
  | succ fuel ih =>
    intro k listed a w hn hk hf hls h1 h2 hw
    by_cases hke : k = ops.size
    · subst hke
      rw [List.drop_of_length_le (by simp)] at hw
      have hr := none_ready listed hls h1
      exact ⟨fun _ => hw, fun i hi => by rw [hr] at hi; cases hi⟩
    · have hlt : k < ops.size := by omega
      have hok : ops[k]? = some ops[k] := by simp [hlt]
      have hdrop : ops.toList.drop k = ops[k] :: ops.toList.drop (k + 1) := by
        rw [List.drop_eq_getElem_cons (by simpa using hlt)]; simp
      rw [hdrop] at hw
      have hrk : k ∈ Region.ready .any ops listed := ready_mk hlt hls (h2 k (Nat.le_refl _)) hok fun e he hb => h1 _ (T.back k _ hok e he hb)
      refine ⟨fun hr => (by rw [hr] at hrk; cases hrk), fun i hi => ?_⟩
      obtain ⟨q1, q2, o, ho, haft⟩ := mem_ready hi
      rw [getD_same _ i (by omega)] at q2
      have hik : i = k := by
        rcases Nat.lt_trichotomy i k with h | h | h
        · rw [h1 i h] at q2; cases q2
        · exact h
        · obtain ⟨e, he, hb, hon⟩ := T.line i o (by omega) ho
          have := haft e he hb
          rw [hon, h2 (i - 1) (by omega)] at this; cases this
      subst hik
      have next : ∀ (a' : Act) (w' : World), wpList P ops Q (ops.toList.drop (i + 1)) a' w' → wpAny P .any ops Q fuel (listed.setIfInBounds i true) a' w' := by
        intro a' w' h'
        have hlsz : i < listed.size := by omega
        refine ih (i + 1) _ a' w' (by omega) (by omega) (by omega) (by simpa using hls) (fun j hj => ?_) (fun j hj => ?_) h'
        · rw [getD_set_true _ _ _ hlsz]; split
          · rfl
          · exact h1 j (by omega)
        · rw [getD_set_true _ _ _ hlsz, if_neg (by omega)]; exact h2 j (by omega)
      unfold wpList at hw
      unfold wpOp
      rw [hok]
      simp only
      split at hw
      · rw [if_pos ‹_›]
        rcases hw with h | h
        · exact .inl (Oper.wp_mono next h)
        · exact .inr h
      · rw [if_neg ‹_›]
        exact next _ _ hw

theorem wpAny_tail {P : Program} {ops : Array Oper} {Q : Exit → Act → World → Prop} {a0 : Act} {w0 : World} (n : Nat) (T : Tailed ops n) (R : World → World → Prop) (D : List (Option Tmp)) (G : Nat → Value → World → Prop)
    (hpl : plain a0.tmps.size 0 D (ops.toList.take n) = true) (hrf : ∀ a, R a a) (htr : ∀ a b c, R a b → R b c → R a c) (hst : ∀ i v w w', G i v w → R w w' → G i v w') (hsteps : Steps P R D G a0 w0 0 (ops.toList.take n))
    (hend : ∀ (v : Nat → Value) (w : World), R w0 w → (∀ i, i < n → G i (v i) w) → wpList P ops Q (ops.toList.drop n) (putAll v 0 D a0) w) :
    ∀ (fuel : Nat) (listed : Array Bool) (v : Nat → Value) (a : Act) (w : World), Mid ops R D G a0 w0 v listed a w →
      (∀ (k : Nat) (o : Oper), ops[k]? = some o → listed.getD k false = true → ∀ e ∈ o.after.toList, Region.binds .any e = true → listed.getD e.on false = true) → (∀ j, n ≤ j → listed.getD j false = false) →
      (List.range ops.size).countP (fun i => !listed.getD i false) ≤ fuel → wpAny P .any ops Q fuel listed a w := by
  have hlt0 := T.lt
  obtain ⟨hDl, hpa'⟩ := plain_at hpl
  have hlen : D.length = n := by
    have : D.length = min n ops.size := by simpa using hDl
    omega
  have hpa : ∀ k o, k < n → ops.toList[k]? = some o → D[k]? = some o.dst ∧ (∀ d, o.dst = some d → d < a0.tmps.size ∧ ∀ j, k < j → D[j]? ≠ some (some d)) := by
    intro k o hk ho
    have h := hpa' k o (by rw [List.getElem?_take, if_pos hk]; exact ho)
    exact ⟨h.1, h.2.1⟩
  have hback := T.back
  have fin : ∀ (listed : Array Bool) (v : Nat → Value) (a : Act) (w : World), Mid ops R D G a0 w0 v listed a w → (∀ i, i < n → listed.getD i false = true) → wpList P ops Q (ops.toList.drop n) a w := by
    intro listed v a w hm hall
    have hp := putAll_frame v D 0 a0
    have ha : a = putAll v 0 D a0 := by
      have ht : a.tmps = (putAll v 0 D a0).tmps := by
        apply Array.ext
        · rw [hm.size, hp.1]
        · intro t h1 h2
          have e : a.tmps.getD t undef = (putAll v 0 D a0).tmps.getD t undef := by
            by_cases hmem : some t ∈ D
            · obtain ⟨j, hj⟩ := List.mem_iff_getElem?.1 hmem
              have hjs : j < n := by rw [← hlen]; exact (List.getElem?_eq_some_iff.1 hj).1
              have hjo : j < ops.size := by omega
              obtain ⟨g1, g2⟩ := hpa j ops[j] hjs (by simp [hjo])
              have hdst : ops[j].dst = some t := by rw [hj] at g1; exact (Option.some.inj g1).symm
              obtain ⟨k1, k2⟩ := g2 t hdst
              rw [hm.here j t (hall j hjs) hj, hp.2.2.2 j t hj k2 k1, Nat.zero_add]
            · rw [hp.2.2.1 t hmem, hm.out t (fun j _ hj => hmem (List.mem_of_getElem? hj))]
          simpa [Array.getD_eq_getD_getElem?, h1, h2] using e
      have hd : a.defers = (putAll v 0 D a0).defers := by rw [hm.defers, hp.2.1]
      cases a
      cases hq : putAll v 0 D a0
      rw [hq] at ht hd
      simp only at ht hd
      rw [ht, hd]
    rw [ha]
    exact hend v w hm.rel (fun i hi => hm.good i (hall i hi))
  intro fuel
  induction fuel with
  | zero =>
    intro listed v a w hm _ htl hcount
    exfalso
    have hz : (List.range ops.size).countP (fun i => !listed.getD i false) = 0 := by omega
    rw [List.countP_eq_zero] at hz
    have := hz n (by simpa using hlt0)
    rw [htl n (Nat.le_refl _)] at this
    exact this rfl
  | succ fuel ih =>
    intro listed v a w hm hcl htl hcount
    refine ⟨fun hr => ?_, fun i hi => ?_⟩
    · have := all_listed hback hr hm.ls n hlt0
      rw [htl n (Nat.le_refl _)] at this; cases this
    obtain ⟨hlt, hnl, o, ho, haft⟩ := mem_ready hi
    have hlsz : i < listed.size := by rw [hm.ls]; exact hlt
    have hnl' : listed.getD i false = false := by simpa [Array.getD, hlsz] using hnl
    have hin : i ≤ n := by
      rcases Nat.lt_or_ge n i with h | h
      · obtain ⟨e, he, hb, hon⟩ := T.line i o h ho
        have := haft e he hb
        rw [hon, htl (i - 1) (by omega)] at this; cases this
      · exact h
    by_cases hine : i = n
    · -- all others are done
      have hall : ∀ j, j < n → listed.getD j false = true := by
        suffices h : ∀ m j, j + m = n → j < n → listed.getD j false = true by
          intro j hj; exact h (n - j) j (by omega) hj
        intro m
        induction m using Nat.strongRecOn with
        | _ m ihm =>
          intro j hm2 hj
          obtain ⟨j', o', h1, h2, h3, e, he, hb, hon⟩ := T.cov j hj
          by_cases hj' : j' = n
          · subst hj'
            rw [← hine] at h3
            rw [ho] at h3
            cases h3
            rw [← hon]; exact haft e he hb
          · have hl := ihm (n - j') (by omega) j' (by omega) (by omega)
            rw [← hon]; exact hcl j' o' h3 hl e he hb
      have hw := fin listed v a w hm hall
      have hfu : ops.size - n ≤ fuel + 1 := by
        have hle : (List.range' n (ops.size - n)).countP (fun i => !listed.getD i false) ≤ (List.range ops.size).countP (fun i => !listed.getD i false) := by
          apply List.Sublist.countP_le
          rw [List.range_eq_range', show ops.size = n + (ops.size - n) by omega, ← List.range'_append_1]
          simp
        have he : (List.range' n (ops.size - n)).countP (fun i => !listed.getD i false) = ops.size - n := by
          rw [List.countP_eq_length.2]
          · simp
          · intro x hx
            have := (List.mem_range'_1.1 hx).1
            rw [htl x this]; rfl
        omega
      have hall2 := wpAny_last (P := P) (Q := Q) T (fuel + 1) n listed a w (Nat.le_refl _) (by omega) hfu hm.ls hall htl hw
      exact hall2.2 i hi
    have hin' : i < n := by omega
    obtain ⟨g1, g2⟩ := hpa i o hin' (by simpa using ho)
    have hstep := hsteps.at i o (by rw [List.getElem?_take, if_pos hin']; simpa using ho)
    rw [Nat.zero_add] at hstep
    have hout : ∀ t, some t ∉ D → a.eval (.tmp t) = a0.eval (.tmp t) := fun t ht => hm.out t (fun j _ hj => ht (List.mem_of_getElem? hj))
    have hdeps : Deps D G a w o.after.toList := Deps.mk fun e he hb d hd => by
      have hl := haft e he hb
      have hlt' := hback i o ho e he hb
      have hDe : D[e.on]? = some (some d) := by
        have hlt2 : e.on < D.length := by rw [hlen]; omega
        simp only [List.getD, List.getElem?_eq_getElem hlt2, Option.getD_some] at hd
        rw [List.getElem?_eq_getElem hlt2, hd]
      have := hm.here e.on d hl hDe
      show G e.on (a.tmps.getD d undef) w
      rw [this]; exact hm.good e.on hl
    obtain ⟨s1, s2⟩ := hstep a w hm.rel hout hdeps
    -- what is left when it answers x in the world w'
    have next : ∀ (x : Value) (w' : World), G i x w' → R w w' → wpAny P .any ops Q fuel (listed.setIfInBounds i true) (a.put o.dst x) w' := by
      intro x w' hG hR
      have hcnt : (List.range ops.size).countP (fun j => !(listed.setIfInBounds i true).getD j false) ≤ fuel := by
        have h1 : (List.range ops.size).countP (fun j => !(listed.setIfInBounds i true).getD j false) < (List.range ops.size).countP (fun j => !listed.getD j false) := by
          have hmemi : i ∈ List.range ops.size := by simpa using hlt
          have key : ∀ (l : List Nat), i ∈ l → (∀ j, (!(listed.setIfInBounds i true).getD j false) = true → (!listed.getD j false) = true) → l.countP (fun j => !(listed.setIfInBounds i true).getD j false) < l.countP (fun j => !listed.getD j false) := by
            intro l
            induction l with
            | nil => intro h; cases h
            | cons y r ihl =>
              intro hy himp
              have hle : r.countP (fun j => !(listed.setIfInBounds i true).getD j false) ≤ r.countP (fun j => !listed.getD j false) := List.countP_mono_left fun j _ hj => himp j hj
              by_cases hyi : y = i
              · subst hyi
                have e1 : (!(listed.setIfInBounds y true).getD y false) = false := by rw [getD_set_true _ _ _ hlsz, if_pos rfl]; rfl
                have e2 : (!listed.getD y false) = true := by rw [hnl']; rfl
                rw [List.countP_cons, List.countP_cons]
                simp only [e1, e2, if_true, Bool.false_eq_true, if_false]
                omega
              · have hir : i ∈ r := by
                  rcases List.mem_cons.1 hy with h | h
                  · exact absurd h.symm hyi
                  · exact h
                have := ihl hir himp
                rw [List.countP_cons, List.countP_cons]
                have e3 : (listed.setIfInBounds i true).getD y false = listed.getD y false := by rw [getD_set_true _ _ _ hlsz, if_neg hyi]
                rw [e3]; omega
          refine key _ hmemi fun j hj => ?_
          rw [getD_set_true _ _ _ hlsz] at hj
          by_cases hji : j = i
          · rw [if_pos hji] at hj; cases hj
          · rwa [if_neg hji] at hj
        omega
      have hmid : Mid ops R D G a0 w0 (fun j => if j = i then x else v j) (listed.setIfInBounds i true) (a.put o.dst x) w' := by
        refine ⟨?_, by simpa using hm.ls, ?_, htr _ _ _ hm.rel hR, ?_, ?_, ?_⟩
        · rw [← hm.size]; cases o.dst <;> simp [Act.put]
        · rw [← hm.defers]; cases o.dst <;> rfl
        · intro t ht
          have hold := hm.out t (fun j hj => ht j (by rw [getD_set_true _ _ _ hlsz]; split <;> first | rfl | exact hj))
          have hne : o.dst ≠ some t := by
            intro e
            exact ht i (by rw [getD_set_true _ _ _ hlsz, if_pos rfl]) (by rw [g1, e])
          rw [← hold]
          cases hd : o.dst with
          | none => rfl
          | some d =>
            have : d ≠ t := fun e => hne (by rw [hd, e])
            simp only [Act.put, Array.getD_eq_getD_getElem?, Array.getElem?_setIfInBounds_ne this]
        · intro j d hj hD
          by_cases hji : j = i
          · subst hji
            have hd : o.dst = some d := by rw [g1] at hD; exact Option.some.inj hD
            have hsz : d < a.tmps.size := by rw [hm.size]; exact (g2 d hd).1
            simp [hd, Act.put, Array.getD_eq_getD_getElem?, hsz]
          · rw [getD_set_true _ _ _ hlsz, if_neg hji] at hj
            have hold := hm.here j d hj hD
            rw [if_neg hji, ← hold]
            cases hd : o.dst with
            | none => rfl
            | some y =>
              have hne : y ≠ d := by
                rintro rfl
                rw [hd] at g1
                rcases Nat.lt_or_gt_of_ne hji with hlt2 | hgt2
                · have hjn : j < n := by rw [← hlen]; exact (List.getElem?_eq_some_iff.1 hD).1
                  have hjs : j < ops.size := by omega
                  obtain ⟨k1, k2⟩ := hpa j ops[j] hjn (by simp [hjs])
                  have hdst : ops[j].dst = some y := by rw [hD] at k1; exact (Option.some.inj k1).symm
                  exact (k2 y hdst).2 i hlt2 g1
                · exact (g2 y hd).2 j hgt2 hD
              simp only [Act.put, Array.getD_eq_getD_getElem?, Array.getElem?_setIfInBounds_ne hne]
        · intro j hj
          by_cases hji : j = i
          · subst hji; simpa using hG
          · rw [getD_set_true _ _ _ hlsz, if_neg hji] at hj
            simp only [if_neg hji]
            exact hst _ _ _ _ (hm.good j hj) hR
      refine ih _ _ _ _ hmid ?_ ?_ hcnt
      · intro k o' hk hl e he hb
        rw [getD_set_true _ _ _ hlsz] at hl ⊢
        by_cases hee : e.on = i
        · rw [if_pos hee]
        · rw [if_neg hee]
          by_cases hki : k = i
          · subst hki
            rw [ho] at hk
            cases hk
            exact haft e he hb
          · rw [if_neg hki] at hl
            exact hcl k o' hk hl e he hb
      · intro j hj
        rw [getD_set_true _ _ _ hlsz, if_neg (by omega)]; exact htl j hj
    have hwant : Region.wanted o (yielded ops a.tmps) = goes D o a := by
      unfold Region.wanted goes
      cases hg : o.guard with
      | none => rfl
      | some p =>
        obtain ⟨j, want⟩ := p
        simp only [yielded]
        by_cases hj : j < n
        · have hjo : j < ops.size := by omega
          obtain ⟨k1, k2⟩ := hpa j ops[j] hj (by simp [hjo])
          have hDj : D.getD j none = ops[j].dst := by simp [List.getD, k1]
          rw [hDj]
          simp only [Array.getElem?_eq_getElem hjo, Option.bind_some]
          cases hd : ops[j].dst with
          | none => simp
          | some d =>
            have hsz : d < a.tmps.size := by rw [hm.size]; exact (k2 d hd).1
            simp only [Option.bind_some, Array.getElem?_eq_getElem hsz]
            have he : a.eval (.tmp d) = a.tmps[d] := by simp [Act.eval, Array.getD, hsz]
            rw [he]
            cases a.tmps[d] <;> simp
        · exact absurd (T.guards i o hin' ho _ hg) hj
    unfold wpOp
    rw [ho]
    simp only [hwant]
    cases hgo : goes D o a with
    | true =>
      simp only [if_true]
      refine .inl (Yields.wp ?_)
      have := s1 hgo
      revert this
      unfold Yields
      generalize (execOp a.eval o).run P w = res
      intro h
      cases res with
      | ok n w' =>
        cases n <;> simp only at h ⊢ <;> first
          | exact next _ _ h.1 h.2
          | exact h.elim
          | exact Calls.mono h (fun e w'' ⟨y, he, hk⟩ => ⟨y, he, next _ _ hk.1 hk.2⟩)
      | halt y w' => exact h.elim
    | false =>
      simp only [Bool.false_eq_true, if_false]
      exact next undef w (s2 hgo) (hrf w)


theorem wp_region_tail {P : Program} {id : Nat} {ops : Array Oper} {Q : Exit → Act → World → Prop} {a0 : Act} {w0 : World} (n : Nat) (D : List (Option Tmp)) (Gs : List Pd)
    (hm : P.follows .mixedOrders = true) (hta : tailed ops.toList n = true) (hpl : plain a0.tmps.size 0 D (ops.toList.take n) = true)
    (hsteps : Steps P (Kept (fun _ => False)) D (Said Gs) a0 w0 0 (ops.toList.take n))
    (hend : ∀ (v : Nat → Value) (w : World), Kept (fun _ => False) w0 w → (∀ i, i < n → Said Gs i (v i) w) → wpList P ops Q (ops.toList.drop n) (putAll v 0 D a0) w) : (Code.region id ops true).wp P Q a0 w0 := by
  refine wp_region_any hm ?_
  have T := tailed_all hta
  have hno : ∀ j, (Array.replicate ops.size false).getD j false = false := by
    intro j
    by_cases h : j < ops.size <;> simp [Array.getD, h]
  refine wpAny_tail n T (Kept (fun _ => False)) D (Said Gs) hpl (fun a => Kept.refl _ a) (fun _ _ _ h k => h.trans k (fun _ _ x => x)) (fun i _ _ _ h k => (Gs.getD i Pd.any).stays _ _ _ h k) hsteps hend ops.size _ (fun _ => undef) a0 _ ⟨rfl, by simp, rfl, (Kept.refl _ _).drew, fun _ _ => rfl, fun j _ hj => ?_, fun j hj => ?_⟩ ?_ ?_ ?_
  · rw [hno] at hj; cases hj
  · rw [hno] at hj; cases hj
  · intro k o _ hl; rw [hno] at hl; cases hl
  · intro j _; exact hno j
  · exact Nat.le_trans (List.countP_le_length) (by simp)
end Go.Proofs.YtipimcnjcpckeaaDoor
