/- What OrderFirst reaches of my texts, part 1. -/
import Derived.WalkKit
import Derived.WalkSpells
import Derived.WalkLawsBesides
import Derived.BigQuiet
import Derived.BigRegion
import Derived.Deep.QuietTactic
import Derived.Lib.Hide
import Derived.Orders
import Derived.Deep.LoopGhost
import Derived.TacticsIn
import Derived.RangeFuncCalls
import Derived.IntWalk
import Derived.RangeFuncLeaves
import Derived.RangeFuncRecord
import Derived.Test.YthoafgfcoclkbaaChecked
import Derived.Laws.OwnMore
import Derived.Shelf.Strconv.Itoa0
import Derived.Lib.ItoaNum
import Derived.Test.YthoafgfcoclkbaaProg
import Derived.Deep.OwnRows
import Derived.Laws.CopyOwn
import Derived.Deep.RegionWith
import Derived.Defers
import Derived.Recover
import Derived.Conc.MuLone
import Derived.OpenShut
import Derived.Deep.WholeRow
import Derived.Deep.MidRow
import Derived.Laws.Tables
import Derived.ChangeKeysEq
import Derived.RangeFuncNested
import Derived.LoopNIn
import Derived.Laws.MakeOwn
import Derived.Great.BuildSlice
import Derived.Laws.Cover1
import Derived.ProofKit
import Derived.ChangeOld
import Derived.Below
import Derived.Test.YthoafgfcoclkbaaRows
set_option maxRecDepth 100000
set_option maxHeartbeats 4000000
set_option maxRecDepth 100000
namespace Go.Proofs.Ythoafgfcoclkbaa
open Go.RowKit
structure Kept (S : Nat → Prop) (w w' : World) : Prop where
  os : w'.os = w.os
  tape : w'.tape = w.tape
  output : w'.output = w.output
  size : w.heap.size ≤ w'.heap.size
  block : ∀ k, k < w.heap.size → ¬ S k → w'.heap[k]? = w.heap[k]?
theorem Kept.refl (S : Nat → Prop) (w : World) : Kept S w w := ⟨rfl, rfl, rfl, Nat.le_refl _, fun _ _ _ => rfl⟩
theorem Kept.trans {S S' : Nat → Prop} {a b c : World} (h : Kept S a b) (k : Kept S' b c) (hs : ∀ i, i < a.heap.size → S' i → S i) : Kept S a c :=
  ⟨k.os.trans h.os, k.tape.trans h.tape, k.output.trans h.output, Nat.le_trans h.size k.size,
   fun i hi hn => (k.block i (Nat.lt_of_lt_of_le hi h.size) (fun x => hn (hs i hi x))).trans (h.block i hi hn)⟩
theorem Kept.mono {S S' : Nat → Prop} {a b : World} (h : Kept S a b) (hs : ∀ i, i < a.heap.size → S i → S' i) : Kept S' a b :=
  ⟨h.os, h.tape, h.output, h.size, fun i hi hn => h.block i hi (fun x => hn (hs i hi x))⟩
theorem Kept.drew {S : Nat → Prop} {a w : World} (h : Kept S a w) : Kept S a w.drew := ⟨h.os, h.tape, h.output, h.size, h.block⟩
theorem Kept.alloc {S : Nat → Prop} {a w : World} (h : Kept S a w) (o : Obj) : Kept S a (w.alloc o) :=
  h.trans (S' := fun _ => False) ⟨rfl, rfl, rfl, by simp, fun k hk _ => Below.heap_alloc _ _ _ (by omega)⟩ (fun _ _ x => x.elim)
theorem Kept.setCell {S : Nat → Prop} {a w : World} (h : Kept S a w) (p : Addr) (hp : p.block < a.heap.size → S p.block) (u : Value) : Kept S a (w.setCell p u) :=
  h.trans (S' := fun k => k = p.block) ⟨rfl, rfl, rfl, by simp [World.setCell], fun k hk hn => Below.heap_setCell _ _ _ _ hn⟩ (fun i hi x => by subst x; exact hp hi)
theorem Kept.grown {S : Nat → Prop} {a w w' : World} {row : Option Nat} (h : Kept S a w) (hg : w.grownBy w' row) (hr : ∀ k, row = some k → k < a.heap.size → S k) : Kept S a w' :=
  h.trans (S' := fun k => row = some k) ⟨hg.os, hg.tape, hg.output, hg.size, fun k hk hn => hg.block k hk (fun e => hn e.symm)⟩ (fun i hi x => hr i x hi)
theorem Kept.below {S : Nat → Prop} {B : Nat} {w w' : World} (h : Kept S w w') (hB : B ≤ w.heap.size) (hs : ∀ k, k < B → ¬ S k) : Below B w w' :=
  ⟨h.os, h.tape, h.output, h.size, fun k hk => h.block k (by omega) (hs k hk)⟩
theorem Below.kept {w w' : World} (h : Below w.heap.size w w') : Kept (fun _ => False) w w' :=
  ⟨h.os, h.tape, h.output, h.size, fun k hk _ => h.block k hk⟩
theorem lt_of_heap {w : World} {k : Nat} {o : Obj} (h : w.heap[k]? = some o) : k < w.heap.size := (Array.getElem?_eq_some_iff.1 h).1
theorem Kept.at {S : Nat → Prop} {w w' : World} (h : Kept S w w') {k : Nat} {o : Obj} (hk : w.heap[k]? = some o) (hn : ¬ S k) : w'.heap[k]? = some o :=
  (h.block k (lt_of_heap hk) hn).trans hk
theorem heap_setCell_same (w : World) (b off : Nat) (v : Value) {c : Array Value} {e : TypeId} {f : Nat × Nat} (h : w.heap[b]? = some (.cells c e f)) :
    (w.setCell ⟨b, off, none⟩ v).heap[b]? = some (.cells (c.setIfInBounds off v) e f) := by
  simp [World.setCell, Array.getElem?_modify, h]
theorem heap_setCell_other (w : World) (b off k : Nat) (v : Value) (h : k ≠ b) : (w.setCell ⟨b, off, none⟩ v).heap[k]? = w.heap[k]? :=
  Below.heap_setCell w ⟨b, off, none⟩ v k h
theorem cell_of_heap {w : World} {b off : Nat} {c : Array Value} {e : TypeId} {f : Nat × Nat} (h : w.heap[b]? = some (.cells c e f)) : w.cell? ⟨b, off, none⟩ = c[off]? := by
  simp [World.cell?, h]
theorem frozen_of_heap {w : World} {b off : Nat} {c : Array Value} {e : TypeId} (h : w.heap[b]? = some (.cells c e (0, 0))) : w.frozen? ⟨b, off, none⟩ = false := by
  simp [World.frozen?, h]
theorem run_append_whose {P : Program} (w : World) (t ty e : TypeId) (i : TypeInfo) (z : Value) (size bytes : Nat) (ht : P.underlying t = some (.slice e)) (hi : P.info? e = some i) (hz : i.zero = some z)
    (hsize : i.size = size) (hby : i.bytes = bytes) (hzs : z.cells.size = size) (hsz : 0 < size)
    (v : Value) (n : Nat) (xs : List Value) (hown : w.ownsRow 0 e size v n xs)
    (a : Addr) (m c : Nat) (news : List Value) (hl : news.length = m * size) (hnews : ∀ j u, news[j]? = some u → w.cell? (a.add j) = some u) (h1 : ∀ u ∈ news, u.oneCell' = true)
    (h63 : n + m ≤ maxLen) (hbytes : (n + m) * bytes ≤ 140737488355328) :
    ∃ v' w', (Builtin.append_ #[t, t] ty #[v, .slice (some a) m c]).run P w = .ok v' w' ∧ w'.ownsRow 0 e size v' (n + m) (xs ++ news) ∧ w.grownBy w' v.ownBlock ∧
      (v'.ownBlock = v.ownBlock ∨ ∃ g, v'.ownBlock = some g ∧ w.heap.size ≤ g) := by
  obtain ⟨v', w', hr, ho, hg, _⟩ := run_append_own (P := P) w 0 t ty e i z size bytes ht hi hz hsize hby hzs hsz v n xs hown a m c news hl hnews h1 h63 hbytes (Nat.zero_le _)
  refine ⟨v', w', hr, ho, hg, ?_⟩
  rcases hown.2 with ⟨rfl, rfl⟩ | ⟨g, cap, cur, rfl, _, hgg, hnc, hcm, hcs, htake⟩
  · have hx : xs = [] := List.eq_nil_of_length_eq_zero (by simpa using hown.1)
    subst hx
    obtain ⟨v2, w2, hr2, ho2, _, _⟩ := run_append_own (P := P) w w.heap.size t ty e i z size bytes ht hi hz hsize hby hzs hsz _ 0 [] (World.ownsRow_nil w w.heap.size e size) a m c news hl hnews h1 h63 hbytes (Nat.le_refl _)
    rw [hr] at hr2
    cases hr2
    rcases ho2.2 with ⟨rfl, _⟩ | ⟨g, cap, cur, rfl, hb, _⟩
    · exact .inl rfl
    · exact .inr ⟨g, rfl, hb⟩
  · subst hsize
    by_cases hroom : n + m ≤ cap
    · have hfit : n * i.size + news.length ≤ cur.size := by rw [hl, hcs, ← Nat.add_mul]; exact Nat.mul_le_mul_right _ hroom
      have hr2 := run_append_room (P := P) w t ty e i ht hi g n cap cur hgg a m c news hl hnews h1 hroom hfit
      rw [hr] at hr2
      cases hr2
      exact .inl rfl
    · subst hby
      have hr2 := run_append_grow (P := P) w t ty e i z ht hi hz ⟨g, 0, none⟩ n cap xs hown.1 (hown.cells (g := g) rfl) a m c news hl hnews (by omega) (by unfold maxLen at h63; omega) (growslice_fits (by omega) hbytes)
      rw [hr] at hr2
      cases hr2
      exact .inr ⟨w.heap.size, rfl, Nat.le_refl _⟩
end Go.Proofs.Ythoafgfcoclkbaa
set_option maxRecDepth 100000
namespace Go.Proofs.Ythoafgfcoclkbaa
open Go.RowKit
def Yields (P : Program) (ρ : Operand → Value) (o : Oper) (w : World) (R : Value → World → Prop) : Prop :=
  match (execOp ρ o).run P w with
  | .ok (.value v) w' => R v w'
  | .ok .skip w' => R undef w'
  | .ok (.enter f args) w' => Calls P f args w' fun e w'' => ∃ v, e = .returned v ∧ R v w''
  | _ => False
theorem Yields.wp {P : Program} {a : Act} {o : Oper} {w : World} {K : Act → World → Prop} {Q : Exit → Act → World → Prop} (h : Yields P a.eval o w (fun v w' => K (a.put o.dst v) w')) : o.wp P a w K Q := by
  unfold Yields at h
  unfold Oper.wp
  generalize (execOp a.eval o).run P w = r at *
  cases r with
  | ok n w' =>
    cases n <;> simp only [Oper.upon] at h ⊢ <;> first
      | exact h
      | exact h.elim
      | exact Calls.mono h (fun e w'' ⟨v, he, hk⟩ => by subst he; exact hk)
  | halt x w' => exact h.elim
def goes (D : List (Option Tmp)) (o : Oper) (a : Act) : Bool :=
  match o.guard with
  | none => true
  | some (j, want) => match D.getD j none with
    | none => false
    | some d => match a.eval (.tmp d) with
      | .bool b => b == want
      | _ => false
def Deps (D : List (Option Tmp)) (G : Nat → Value → World → Prop) (a : Act) (w : World) : List Edge → Prop
  | [] => True
  | e :: r => (Region.binds .any e = true → match D.getD e.on none with
    | some d => G e.on (a.eval (.tmp d)) w
    | none => True) ∧ Deps D G a w r
def Step (P : Program) (R : World → World → Prop) (D : List (Option Tmp)) (G : Nat → Value → World → Prop) (a0 : Act) (w0 : World) (i : Nat) (o : Oper) : Prop :=
  ∀ (a : Act) (w : World), R w0 w → (∀ t, some t ∉ D → a.eval (.tmp t) = a0.eval (.tmp t)) → Deps D G a w o.after.toList →
    (goes D o a = true → Yields P a.eval o w (fun v w' => G i v w' ∧ R w w')) ∧ (goes D o a = false → G i undef w)
def Steps (P : Program) (R : World → World → Prop) (D : List (Option Tmp)) (G : Nat → Value → World → Prop) (a0 : Act) (w0 : World) : Nat → List Oper → Prop
  | _, [] => True
  | i, o :: r => Step P R D G a0 w0 i o ∧ Steps P R D G a0 w0 (i + 1) r
def putAll (v : Nat → Value) : Nat → List (Option Tmp) → Act → Act
  | _, [], a => a
  | i, d :: r, a => putAll v (i + 1) r (a.put d (v i))
def plain (size : Nat) : Nat → List (Option Tmp) → List Oper → Bool
  | _, [], [] => true
  | i, d :: D, o :: r => (o.dst == d) && (match d with | none => true | some d => decide (d < size) && !D.contains (some d)) && (o.after.toList.all fun e => !Region.binds .any e || decide (e.on < i)) && plain size (i + 1) D r
  | _, _, _ => false
theorem plain_at {size : Nat} : ∀ {i : Nat} {D : List (Option Tmp)} {os : List Oper}, plain size i D os = true → D.length = os.length ∧ ∀ k o, os[k]? = some o →
    D[k]? = some o.dst ∧ (∀ d, o.dst = some d → d < size ∧ ∀ j, k < j → D[j]? ≠ some (some d)) ∧ ∀ e ∈ o.after.toList, Region.binds .any e = true → e.on < i + k := by
  intro i D os
  induction os generalizing i D with
  | nil =>
    intro h
    cases D with
    | nil => exact ⟨rfl, by simp⟩
    | cons d D => simp [plain] at h
  | cons o r ih =>
    intro h
    cases D with
    | nil => simp [plain] at h
    | cons d D =>
      simp only [plain, Bool.and_eq_true] at h
      obtain ⟨⟨⟨h1, h2⟩, h3⟩, h4⟩ := h
      have hd : o.dst = d := by simpa using h1
      obtain ⟨hl, hr⟩ := ih h4
      refine ⟨by simp [hl], fun k o' hk => ?_⟩
      cases k with
      | zero =>
        simp at hk
        subst hk
        refine ⟨by simp [hd], fun d' hd' => ?_, fun e he hb => ?_⟩
        · rw [hd'] at hd
          subst hd
          simp only [Bool.and_eq_true, decide_eq_true_eq, Bool.not_eq_true', List.contains_eq_mem, decide_eq_false_iff_not] at h2
          refine ⟨h2.1, fun j hj hD => ?_⟩
          cases j with
          | zero => omega
          | succ j => exact h2.2 (List.mem_of_getElem? (by simpa using hD))
        · have := List.all_eq_true.1 h3 e he
          simp [hb] at this; omega
      | succ k =>
        simp at hk
        obtain ⟨g1, g2, g3⟩ := hr k o' hk
        refine ⟨by simpa using g1, fun d' hd' => ⟨(g2 d' hd').1, fun j hj => ?_⟩, fun e he hb => by have := g3 e he hb; omega⟩
        cases j with
        | zero => omega
        | succ j => simpa using (g2 d' hd').2 j (by omega)
theorem Steps.at {P : Program} {R : World → World → Prop} {D : List (Option Tmp)} {G : Nat → Value → World → Prop} {a0 : Act} {w0 : World} : ∀ {i : Nat} {os : List Oper}, Steps P R D G a0 w0 i os → ∀ k o, os[k]? = some o → Step P R D G a0 w0 (i + k) o := by
  intro i os
  induction os generalizing i with
  | nil => intro _ k o h; simp at h
  | cons x r ih =>
    intro h k o hk
    cases k with
    | zero => simp at hk; subst hk; exact h.1
    | succ k =>
      simp at hk
      have := ih h.2 k o hk
      rwa [show i + 1 + k = i + (k + 1) by omega] at this
theorem Deps.mk {D : List (Option Tmp)} {G : Nat → Value → World → Prop} {a : Act} {w : World} : ∀ {es : List Edge}, (∀ e ∈ es, Region.binds .any e = true → ∀ d, D.getD e.on none = some d → G e.on (a.eval (.tmp d)) w) → Deps D G a w es := by
  intro es
  induction es with
  | nil => intro _; exact trivial
  | cons e r ih =>
    intro h
    refine ⟨fun hb => ?_, ih fun e' he' => h e' (by simp [he'])⟩
    split
    · exact h e (by simp) hb _ ‹_›
    · trivial
structure Mid (ops : Array Oper) (R : World → World → Prop) (D : List (Option Tmp)) (G : Nat → Value → World → Prop) (a0 : Act) (w0 : World) (v : Nat → Value) (listed : Array Bool) (a : Act) (w : World) : Prop where
  size : a.tmps.size = a0.tmps.size
  ls : listed.size = ops.size
  defers : a.defers = a0.defers
  rel : R w0 w
  out : ∀ t, (∀ j, listed.getD j false = true → D[j]? ≠ some (some t)) → a.tmps.getD t undef = a0.tmps.getD t undef
  here : ∀ j d, listed.getD j false = true → D[j]? = some (some d) → a.tmps.getD d undef = v j
  good : ∀ j, listed.getD j false = true → G j (v j) w
theorem getD_set_true (l : Array Bool) (i j : Nat) (hi : i < l.size) : (l.setIfInBounds i true).getD j false = (if j = i then true else l.getD j false) := by
  by_cases h : j = i
  · subst h; simp [Array.getD, hi]
  · rw [if_neg h]
    by_cases hj : j < l.size
    · simp [Array.getD, hj, Ne.symm h]
    · simp [Array.getD, hj]
theorem getD_same (l : Array Bool) (y : Nat) (h : y < l.size) : l.getD y true = l.getD y false := by simp [Array.getD, h]
theorem mem_ready {md : Region.Mode} {ops : Array Oper} {listed : Array Bool} {i : Nat} (h : i ∈ Region.ready md ops listed) :
    i < ops.size ∧ listed.getD i true = false ∧ ∃ o, ops[i]? = some o ∧ ∀ e ∈ o.after.toList, Region.binds md e = true → listed.getD e.on false = true := by
  unfold Region.ready at h
  obtain ⟨h1, h2⟩ := List.mem_filter.1 h
  have hi : i < ops.size := by simpa using h1
  simp only [Bool.and_eq_true, Bool.not_eq_true'] at h2
  refine ⟨hi, h2.1, ops[i], by simp [hi], fun e he hb => ?_⟩
  have h3 := h2.2
  simp only [Array.getElem?_eq_getElem hi, Option.map_some, Option.getD_some] at h3
  have h4 := (Array.all_eq_true'.1 h3) e (by simpa using he)
  simpa [hb] using h4
theorem all_listed {ops : Array Oper} {listed : Array Bool} (hb : ∀ (k : Nat) (o : Oper), ops[k]? = some o → ∀ e ∈ o.after.toList, Region.binds .any e = true → e.on < k) (hr : Region.ready .any ops listed = []) (hls : listed.size = ops.size) : ∀ i, i < ops.size → listed.getD i false = true := by
  intro i
  induction i using Nat.strongRecOn with
  | _ i ih =>
    intro hi
    cases hl : listed.getD i false with
    | true => rfl
    | false =>
      have hmem : i ∈ Region.ready .any ops listed := by
        unfold Region.ready
        refine List.mem_filter.2 ⟨by simpa using hi, ?_⟩
        have hl2 : listed.getD i true = false := by
          have : i < listed.size := by omega
          simpa [Array.getD, this] using hl
        simp only [hl2, Array.getElem?_eq_getElem hi, Option.map_some, Option.getD_some, Bool.not_false, Bool.true_and]
        refine Array.all_eq_true'.2 fun e he => ?_
        cases hbe : Region.binds .any e with
        | false => rfl
        | true =>
          have hlt := hb i ops[i] (by simp [hi]) e (by simpa using he) hbe
          have := ih e.on hlt (by omega)
          simp only [this, Bool.or_true]
      rw [hr] at hmem
      cases hmem
theorem putAll_frame (v : Nat → Value) : ∀ (D : List (Option Tmp)) (i : Nat) (a : Act), (putAll v i D a).tmps.size = a.tmps.size ∧ (putAll v i D a).defers = a.defers ∧
    (∀ t, some t ∉ D → (putAll v i D a).tmps.getD t undef = a.tmps.getD t undef) ∧
    (∀ j d, D[j]? = some (some d) → (∀ k, j < k → D[k]? ≠ some (some d)) → d < a.tmps.size → (putAll v i D a).tmps.getD d undef = v (i + j)) := by
  intro D
  induction D with
  | nil => intro i a; exact ⟨rfl, rfl, fun _ _ => rfl, fun j d h => by simp at h⟩
  | cons x r ih =>
    intro i a
    obtain ⟨h1, h2, h3, h4⟩ := ih (i + 1) (a.put x (v i))
    have hs : (a.put x (v i)).tmps.size = a.tmps.size := by cases x <;> simp [Act.put]
    have hd : (a.put x (v i)).defers = a.defers := by cases x <;> rfl
    refine ⟨h1.trans hs, h2.trans hd, fun t ht => ?_, fun j d hj hlast hlt => ?_⟩
    · simp only [List.mem_cons, not_or] at ht
      rw [putAll, h3 t ht.2]
      cases x with
      | none => rfl
      | some y =>
        have hne : y ≠ t := fun e => ht.1 (by rw [e])
        simp only [Act.put, Array.getD_eq_getD_getElem?, Array.getElem?_setIfInBounds_ne hne]
    · cases j with
      | zero =>
        simp at hj
        subst hj
        have hn : some d ∉ r := by
          intro hm
          obtain ⟨k, hk⟩ := List.mem_iff_getElem?.1 hm
          exact hlast (k + 1) (by omega) (by simpa using hk)
        rw [putAll, h3 d hn]
        simp [Act.put, Array.getD_eq_getD_getElem?, hlt]
      | succ j =>
        have := h4 j d (by simpa using hj) (fun k hk => by simpa using hlast (k + 1) (by omega)) (by rw [hs]; exact hlt)
        rw [putAll, this]; congr 1; omega
theorem wpAny_each {P : Program} {ops : Array Oper} {Q : Exit → Act → World → Prop} {a0 : Act} {w0 : World} (R : World → World → Prop) (D : List (Option Tmp)) (G : Nat → Value → World → Prop)
    (hpl : plain a0.tmps.size 0 D ops.toList = true) (hrf : ∀ a, R a a) (htr : ∀ a b c, R a b → R b c → R a c) (hst : ∀ i v w w', G i v w → R w w' → G i v w') (hsteps : Steps P R D G a0 w0 0 ops.toList)
    (hend : ∀ (v : Nat → Value) (w : World), R w0 w → (∀ i, i < ops.size → G i (v i) w) → Q .normal (putAll v 0 D a0) w) :
    ∀ (fuel : Nat) (listed : Array Bool) (v : Nat → Value) (a : Act) (w : World), Mid ops R D G a0 w0 v listed a w → (fuel = 0 → Region.ready .any ops listed = []) →
      (List.range ops.size).countP (fun i => !listed.getD i false) ≤ fuel → wpAny P .any ops Q fuel listed a w := by
  obtain ⟨hDl, hpa⟩ := plain_at hpl
  have hlen : D.length = ops.size := by simpa using hDl
  have hback : ∀ (k : Nat) (o : Oper), ops[k]? = some o → ∀ e ∈ o.after.toList, Region.binds .any e = true → e.on < k := by
    intro k o hk e he hb
    have := (hpa k o (by simpa using hk)).2.2 e he hb
    omega
  have fin : ∀ (listed : Array Bool) (v : Nat → Value) (a : Act) (w : World), Mid ops R D G a0 w0 v listed a w → Region.ready .any ops listed = [] → Q .normal a w := by
    intro listed v a w hm hr
    have hall := all_listed hback hr hm.ls
    have hp := putAll_frame v D 0 a0
    have ha : a = putAll v 0 D a0 := by
      have ht : a.tmps = (putAll v 0 D a0).tmps := by
        apply Array.ext
        · rw [hm.size, hp.1]
        · intro t h1 h2
          have e : a.tmps.getD t undef = (putAll v 0 D a0).tmps.getD t undef := by
            by_cases hmem : some t ∈ D
            · obtain ⟨j, hj⟩ := List.mem_iff_getElem?.1 hmem
              have hjs : j < ops.size := by rw [← hlen]; exact (List.getElem?_eq_some_iff.1 hj).1
              obtain ⟨g1, g2, _⟩ := hpa j ops[j] (by simp [hjs])
              have hdst : ops[j].dst = some t := by rw [hj] at g1; exact (Option.some.inj g1).symm
              obtain ⟨k1, k2⟩ := g2 t hdst
              rw [hm.here j t (hall j hjs) hj, hp.2.2.2 j t hj k2 k1, Nat.zero_add]
            · rw [hp.2.2.1 t hmem, hm.out t (fun j _ hj => hmem (List.mem_of_getElem? hj))]
          simpa [Array.getD_eq_getD_getElem?, h1, h2] using e
      have hd : a.defers = (putAll v 0 D a0).defers := by rw [hm.defers, hp.2.1]
      cases a
      cases hq : putAll v 0 D a0
      rw [hq] at ht hd
      simp only at ht hd
      rw [ht, hd]
    rw [ha]
    exact hend v w hm.rel (fun i hi => hm.good i (hall i hi))
  intro fuel
  induction fuel with
  | zero =>
    intro listed v a w hm h0 _
    exact ⟨h0 rfl, fin listed v a w hm (h0 rfl)⟩
  | succ fuel ih =>
    intro listed v a w hm _ hcount
    refine ⟨fin listed v a w hm, fun i hi => ?_⟩
    obtain ⟨hlt, hnl, o, ho, haft⟩ := mem_ready hi
    have hlsz : i < listed.size := by rw [hm.ls]; exact hlt
    have hnl' : listed.getD i false = false := by simpa [Array.getD, hlsz] using hnl
    obtain ⟨g1, g2, g3⟩ := hpa i o (by simpa using ho)
    have hstep := hsteps.at i o (by simpa using ho)
    rw [Nat.zero_add] at hstep
    have hout : ∀ t, some t ∉ D → a.eval (.tmp t) = a0.eval (.tmp t) := fun t ht => hm.out t (fun j _ hj => ht (List.mem_of_getElem? hj))
    have hdeps : Deps D G a w o.after.toList := Deps.mk fun e he hb d hd => by
      have hl := haft e he hb
      have hlt' := hback i o ho e he hb
      have hDe : D[e.on]? = some (some d) := by
        have hlt2 : e.on < D.length := by rw [hlen]; omega
        simp only [List.getD, List.getElem?_eq_getElem hlt2, Option.getD_some] at hd
        rw [List.getElem?_eq_getElem hlt2, hd]
      have := hm.here e.on d hl hDe
      show G e.on (a.tmps.getD d undef) w
      rw [this]; exact hm.good e.on hl
    obtain ⟨s1, s2⟩ := hstep a w hm.rel hout hdeps
    -- what is left when it answers x in the world w'
    have next : ∀ (x : Value) (w' : World), G i x w' → R w w' → wpAny P .any ops Q fuel (listed.setIfInBounds i true) (a.put o.dst x) w' := by
      intro x w' hG hR
      have hcnt : (List.range ops.size).countP (fun j => !(listed.setIfInBounds i true).getD j false) ≤ fuel := by
        have h1 : (List.range ops.size).countP (fun j => !(listed.setIfInBounds i true).getD j false) < (List.range ops.size).countP (fun j => !listed.getD j false) := by
          have hmemi : i ∈ List.range ops.size := by simpa using hlt
          have key : ∀ (l : List Nat), i ∈ l → (∀ j, (!(listed.setIfInBounds i true).getD j false) = true → (!listed.getD j false) = true) → l.countP (fun j => !(listed.setIfInBounds i true).getD j false) < l.countP (fun j => !listed.getD j false) := by
            intro l
            induction l with
            | nil => intro h; cases h
            | cons y r ihl =>
              intro hy himp
              have hle : r.countP (fun j => !(listed.setIfInBounds i true).getD j false) ≤ r.countP (fun j => !listed.getD j false) := List.countP_mono_left fun j _ hj => himp j hj
              by_cases hyi : y = i
              · subst hyi
                have e1 : (!(listed.setIfInBounds y true).getD y false) = false := by rw [getD_set_true _ _ _ hlsz, if_pos rfl]; rfl
                have e2 : (!listed.getD y false) = true := by rw [hnl']; rfl
                rw [List.countP_cons, List.countP_cons]
                simp only [e1, e2, if_true, Bool.false_eq_true, if_false]
                omega
              · have hir : i ∈ r := by
                  rcases List.mem_cons.1 hy with h | h
                  · exact absurd h.symm hyi
                  · exact h
                have := ihl hir himp
                rw [List.countP_cons, List.countP_cons]
                have e3 : (listed.setIfInBounds i true).getD y false = listed.getD y false := by rw [getD_set_true _ _ _ hlsz, if_neg hyi]
                rw [e3]; omega
          refine key _ hmemi fun j hj => ?_
          rw [getD_set_true _ _ _ hlsz] at hj
          by_cases hji : j = i
          · rw [if_pos hji] at hj; cases hj
          · rwa [if_neg hji] at hj
        omega
      have hmid : Mid ops R D G a0 w0 (fun j => if j = i then x else v j) (listed.setIfInBounds i true) (a.put o.dst x) w' := by
        refine ⟨?_, by simpa using hm.ls, ?_, htr _ _ _ hm.rel hR, ?_, ?_, ?_⟩
        · rw [← hm.size]; cases o.dst <;> simp [Act.put]
        · rw [← hm.defers]; cases o.dst <;> rfl
        · intro t ht
          have hold := hm.out t (fun j hj => ht j (by rw [getD_set_true _ _ _ hlsz]; split <;> first | rfl | exact hj))
          have hne : o.dst ≠ some t := by
            intro e
            exact ht i (by rw [getD_set_true _ _ _ hlsz, if_pos rfl]) (by rw [g1, e])
          rw [← hold]
          cases hd : o.dst with
          | none => rfl
          | some d =>
            have : d ≠ t := fun e => hne (by rw [hd, e])
            simp only [Act.put, Array.getD_eq_getD_getElem?, Array.getElem?_setIfInBounds_ne this]
        · intro j d hj hD
          by_cases hji : j = i
          · subst hji
            have hd : o.dst = some d := by rw [g1] at hD; exact Option.some.inj hD
            have hsz : d < a.tmps.size := by rw [hm.size]; exact (g2 d hd).1
            simp [hd, Act.put, Array.getD_eq_getD_getElem?, hsz]
          · rw [getD_set_true _ _ _ hlsz, if_neg hji] at hj
            have hold := hm.here j d hj hD
            rw [if_neg hji, ← hold]
            cases hd : o.dst with
            | none => rfl
            | some y =>
              have hne : y ≠ d := by
                rintro rfl
                rw [hd] at g1
                rcases Nat.lt_or_gt_of_ne hji with hlt2 | hgt2
                · have hjs : j < ops.size := by rw [← hlen]; exact (List.getElem?_eq_some_iff.1 hD).1
                  obtain ⟨k1, k2, _⟩ := hpa j ops[j] (by simp [hjs])
                  have hdst : ops[j].dst = some y := by rw [hD] at k1; exact (Option.some.inj k1).symm
                  exact (k2 y hdst).2 i hlt2 g1
                · exact (g2 y hd).2 j hgt2 hD
              simp only [Act.put, Array.getD_eq_getD_getElem?, Array.getElem?_setIfInBounds_ne hne]
        · intro j hj
          by_cases hji : j = i
          · subst hji; simpa using hG
          · rw [getD_set_true _ _ _ hlsz, if_neg hji] at hj
            simp only [if_neg hji]
            exact hst _ _ _ _ (hm.good j hj) hR
      refine ih _ _ _ _ hmid ?_ hcnt
      intro hz
      subst hz
      have hz0 : (List.range ops.size).countP (fun j => !(listed.setIfInBounds i true).getD j false) = 0 := by omega
      rw [List.countP_eq_zero] at hz0
      cases hr : Region.ready .any ops (listed.setIfInBounds i true) with
      | nil => rfl
      | cons y r =>
        have hy : y ∈ Region.ready .any ops (listed.setIfInBounds i true) := by rw [hr]; simp
        obtain ⟨q1, q2, _⟩ := mem_ready hy
        have := hz0 y (by simpa using q1)
        have hys : y < (listed.setIfInBounds i true).size := by simp [hm.ls]; exact q1
        have q3 : (listed.setIfInBounds i true).getD y false = false := by rw [← getD_same _ y hys]; exact q2
        rw [q3] at this
        exact absurd rfl this
    have hwant : Region.wanted o (yielded ops a.tmps) = goes D o a := by
      unfold Region.wanted goes
      cases hg : o.guard with
      | none => rfl
      | some p =>
        obtain ⟨j, want⟩ := p
        simp only [yielded]
        by_cases hj : j < ops.size
        · obtain ⟨k1, k2, _⟩ := hpa j ops[j] (by simp [hj])
          have hDj : D.getD j none = ops[j].dst := by simp [List.getD, k1]
          rw [hDj]
          simp only [Array.getElem?_eq_getElem hj, Option.bind_some]
          cases hd : ops[j].dst with
          | none => simp
          | some d =>
            have hsz : d < a.tmps.size := by rw [hm.size]; exact (k2 d hd).1
            simp only [Option.bind_some, Array.getElem?_eq_getElem hsz]
            have he : a.eval (.tmp d) = a.tmps[d] := by simp [Act.eval, Array.getD, hsz]
            rw [he]
            cases a.tmps[d] <;> simp
        · have hDj : D.getD j none = none := by simp [List.getD, List.getElem?_eq_none (show D.length ≤ j by omega)]
          rw [hDj]
          simp [Array.getElem?_eq_none (show ops.size ≤ j by omega)]
    unfold wpOp
    rw [ho]
    simp only [hwant]
    cases hgo : goes D o a with
    | true =>
      simp only [if_true]
      refine .inl (Yields.wp ?_)
      have := s1 hgo
      revert this
      unfold Yields
      generalize (execOp a.eval o).run P w = res
      intro h
      cases res with
      | ok n w' =>
        cases n <;> simp only at h ⊢ <;> first
          | exact next _ _ h.1 h.2
          | exact h.elim
          | exact Calls.mono h (fun e w'' ⟨y, he, hk⟩ => ⟨y, he, next _ _ hk.1 hk.2⟩)
      | halt y w' => exact h.elim
    | false =>
      simp only [Bool.false_eq_true, if_false]
      exact next undef w (s2 hgo) (hrf w)
theorem wp_region_each {P : Program} {id : Nat} {ops : Array Oper} {Q : Exit → Act → World → Prop} {a0 : Act} {w0 : World} (R : World → World → Prop) (D : List (Option Tmp)) (G : Nat → Value → World → Prop)
    (hm : P.follows .mixedOrders = true) (hpl : plain a0.tmps.size 0 D ops.toList = true) (hrf : ∀ a, R a a) (htr : ∀ a b c, R a b → R b c → R a c) (hdr : R w0 w0.drew) (hst : ∀ i v w w', G i v w → R w w' → G i v w')
    (hsteps : Steps P R D G a0 w0 0 ops.toList)
    (hend : ∀ (v : Nat → Value) (w : World), R w0 w → (∀ i, i < ops.size → G i (v i) w) → Q .normal (putAll v 0 D a0) w) : (Code.region id ops true).wp P Q a0 w0 := by
  refine wp_region_any hm ?_
  have hno : ∀ j, (Array.replicate ops.size false).getD j false = false := by
    intro j
    by_cases h : j < ops.size <;> simp [Array.getD, h]
  refine wpAny_each R D G hpl hrf htr hst hsteps hend ops.size _ (fun _ => undef) a0 _ ⟨rfl, by simp, rfl, hdr, fun _ _ => rfl, fun j _ hj => ?_, fun j hj => ?_⟩ ?_ ?_
  · rw [hno] at hj; cases hj
  · rw [hno] at hj; cases hj
  · intro h0
    cases hr : Region.ready .any ops (Array.replicate ops.size false) with
    | nil => rfl
    | cons y r =>
      have hy : y ∈ Region.ready .any ops (Array.replicate ops.size false) := by rw [hr]; simp
      have := (mem_ready hy).1
      omega
  · exact Nat.le_trans (List.countP_le_length) (by simp)
theorem Deps.get {D : List (Option Tmp)} {G : Nat → Value → World → Prop} {a : Act} {w : World} : ∀ {es : List Edge} (k : Nat) {e : Edge} {d : Tmp}, Deps D G a w es → es[k]? = some e → Region.binds .any e = true → D.getD e.on none = some d → G e.on (a.eval (.tmp d)) w := by
  intro es
  induction es with
  | nil => intro k e d _ h; simp at h
  | cons x r ih =>
    intro k e d h hk hb hd
    cases k with
    | zero =>
      simp at hk
      subst hk
      have := h.1 hb
      rw [hd] at this
      exact this
    | succ k => exact ih k h.2 (by simpa using hk) hb hd
structure Pd where
  says : Value → World → Prop
  stays : ∀ v w w', says v w → Kept (fun _ => False) w w' → says v w'
def Pd.any : Pd := ⟨fun _ _ => True, fun _ _ _ _ _ => trivial⟩
def Pd.eq (c : Value) : Pd := ⟨fun v _ => v = c, fun _ _ _ h _ => h⟩
def Said (Gs : List Pd) (i : Nat) (v : Value) (w : World) : Prop := (Gs.getD i Pd.any).says v w
theorem Step.one {P : Program} {D : List (Option Tmp)} {Gs : List Pd} {a0 : Act} {w0 : World} {i : Nat} {o : Oper} (hg : o.guard = none)
    (h : ∀ (a : Act) (w : World), Kept (fun _ => False) w0 w → (∀ t, some t ∉ D → a.eval (.tmp t) = a0.eval (.tmp t)) → Deps D (Said Gs) a w o.after.toList → Yields P a.eval o w (fun v w' => Said Gs i v w' ∧ Kept (fun _ => False) w w')) :
    Step P (Kept (fun _ => False)) D (Said Gs) a0 w0 i o := by
  intro a w hR hout hD
  refine ⟨fun _ => h a w hR hout hD, fun hgo => ?_⟩
  unfold goes at hgo
  rw [hg] at hgo
  cases hgo
theorem Step.when {P : Program} {D : List (Option Tmp)} {Gs : List Pd} {a0 : Act} {w0 : World} {i : Nat} {o : Oper} (j : Nat) (want : Bool) (d : Tmp) (hg : o.guard = some (j, want)) (hd : D.getD j none = some d)
    (h : ∀ (a : Act) (w : World), Kept (fun _ => False) w0 w → (∀ t, some t ∉ D → a.eval (.tmp t) = a0.eval (.tmp t)) → Deps D (Said Gs) a w o.after.toList → a.eval (.tmp d) = .bool want ∧ Yields P a.eval o w (fun v w' => Said Gs i v w' ∧ Kept (fun _ => False) w w')) :
    Step P (Kept (fun _ => False)) D (Said Gs) a0 w0 i o := by
  intro a w hR hout hD
  obtain ⟨h1, h2⟩ := h a w hR hout hD
  refine ⟨fun _ => h2, fun hgo => ?_⟩
  unfold goes at hgo
  rw [hg] at hgo
  simp only [hd, h1] at hgo
  simp at hgo
theorem Step.unless {P : Program} {D : List (Option Tmp)} {Gs : List Pd} {a0 : Act} {w0 : World} {i : Nat} {o : Oper} (j : Nat) (want : Bool) (d : Tmp) (hg : o.guard = some (j, want)) (hd : D.getD j none = some d)
    (h : ∀ (a : Act) (w : World), Kept (fun _ => False) w0 w → (∀ t, some t ∉ D → a.eval (.tmp t) = a0.eval (.tmp t)) → Deps D (Said Gs) a w o.after.toList → (a.eval (.tmp d) = .bool (!want) ∨ a.eval (.tmp d) = undef) ∧ Said Gs i undef w) :
    Step P (Kept (fun _ => False)) D (Said Gs) a0 w0 i o := by
  intro a w hR hout hD
  obtain ⟨h1, h2⟩ := h a w hR hout hD
  refine ⟨fun hgo => ?_, fun _ => h2⟩
  unfold goes at hgo
  rw [hg] at hgo
  rcases h1 with h1 | h1
  · simp only [hd, h1] at hgo
    cases want <;> simp at hgo
  · simp only [hd, h1] at hgo
    simp [undef] at hgo
theorem wp_region_said {P : Program} {id : Nat} {ops : Array Oper} {Q : Exit → Act → World → Prop} {a0 : Act} {w0 : World} (D : List (Option Tmp)) (Gs : List Pd)
    (hm : P.follows .mixedOrders = true) (hpl : plain a0.tmps.size 0 D ops.toList = true)
    (hsteps : Steps P (Kept (fun _ => False)) D (Said Gs) a0 w0 0 ops.toList)
    (hend : ∀ (v : Nat → Value) (w : World), Kept (fun _ => False) w0 w → (∀ i, i < ops.size → Said Gs i (v i) w) → Q .normal (putAll v 0 D a0) w) : (Code.region id ops true).wp P Q a0 w0 :=
  wp_region_each (Kept (fun _ => False)) D (Said Gs) hm hpl (fun a => Kept.refl _ a) (fun _ _ _ h k => h.trans k (fun _ _ x => x)) (Kept.refl _ _).drew (fun i _ _ _ h k => (Gs.getD i Pd.any).stays _ _ _ h k) hsteps hend
end Go.Proofs.Ythoafgfcoclkbaa
set_option maxRecDepth 100000
namespace Go.Proofs.Ythoafgfcoclkbaa
open Go.RowKit
def waitsOn (o : Oper) (j : Nat) : Bool := o.after.toList.any fun e => Region.binds .any e && e.on == j
theorem waitsOn_iff {o : Oper} {j : Nat} : waitsOn o j = true ↔ ∃ e ∈ o.after.toList, Region.binds .any e = true ∧ e.on = j := by
  unfold waitsOn
  rw [List.any_eq_true]
  constructor
  · rintro ⟨e, he, h⟩; simp only [Bool.and_eq_true, beq_iff_eq] at h; exact ⟨e, he, h.1, h.2⟩
  · rintro ⟨e, he, h1, h2⟩; exact ⟨e, he, by simp [h1, h2]⟩
end Go.Proofs.Ythoafgfcoclkbaa
set_option maxRecDepth 100000
namespace Go.Proofs.Ythoafgfcoclkbaa
open Go.RowKit
section
variable {P : Program} {ρ : Operand → Value} {o : Oper} {w : World} {R : Value → World → Prop}
theorem y_val {v : Value} {w' : World} (h : (execOp ρ o).run P w = .ok (.value v) w') (hR : R v w') : Yields P ρ o w R := by
  unfold Yields; rw [h]; exact hR
theorem y_move {x : Operand} (ho : o.op = .move x) (h : R (ρ x) w) : Yields P ρ o w R := y_val (by simp [execOp, ho]) h
theorem y_assign {x : Operand} (ho : o.op = .assign x) (h : R (ρ x) w) : Yields P ρ o w R := y_val (by simp [execOp, ho]) h
theorem y_pick_true {c x y : Operand} (ho : o.op = .pick c x y) (hc : ρ c = .bool true) (h : R (ρ x) w) : Yields P ρ o w R := y_val (by simp [execOp, ho, hc, asBool]) h
theorem y_pick_false {c x y : Operand} (ho : o.op = .pick c x y) (hc : ρ c = .bool false) (h : R (ρ y) w) : Yields P ρ o w R := y_val (by simp [execOp, ho, hc, asBool]) h
theorem y_eql_int {t t' : TypeId} {k : IntKind} {x y : Operand} {m n : Int} (ho : o.op = .binOp .eql t x y t') (hx : ρ x = .int k m) (hy : ρ y = .int k n) (h : R (.bool (m == n)) w) : Yields P ρ o w R :=
  y_val (by simp [execOp, ho, hx, hy, go_sem]) h
end
section
variable {P : Program} {ρ : Operand → Value} {o : Oper} {w : World} {R : Value → World → Prop}
theorem y_conv {src dst : TypeId} {x : Operand} {k k' : IntKind} {n : Int} {d : TypeDesc} (ho : o.op = .convert src dst x) (hx : ρ x = .int k n) (hs : P.underlying src = some d) (hd : P.underlying dst = some (.int k')) (h : R (.int k' (k'.wrap n)) w) : Yields P ρ o w R :=
  y_val (v := .int k' (k'.wrap n)) (w' := w) (by simp [execOp, ho, hx, convert, run_underlying hs, run_underlying hd, Conv.intToInt]) h
end
end Go.Proofs.Ythoafgfcoclkbaa
set_option maxRecDepth 100000
namespace Go.Proofs.Ythoafgfcoclkbaa
open Go.RowKit
def marksOf : Value → List Nat
  | .tuple vs => vs.toList.filterMap fun | .int .i64 n => some n.toNat | _ => none
  | _ => []
def markV (ms : List Nat) : Value := .tuple (ms.map fun D : Nat => Value.int .i64 (D : Int)).toArray
theorem marksOf_markV (ms : List Nat) : marksOf (markV ms) = ms := by
  unfold marksOf markV
  induction ms with
  | nil => rfl
  | cons D ms ih => simpa using ih
def marked (v : Value) : List Deferred := (marksOf v).map fun D => { target := .collected D, args := #[] }
structure Fr (N : Nat) (F : Nat → Value) (a : Act) : Prop where
  size : a.tmps.size = N
  defers : a.defers = marked (F N)
  at' : ∀ t, Nat.blt t N = true → a.tmps.getD t undef = F t
def ev (F : Nat → Value) : Operand → Value
  | .tmp t => F t
  | .const v => v
  | .global g => .pointer (some ⟨g, 0, none⟩)
  | .func f => .func (.func f) #[] #[]
def cutF (N : Nat) (F : Nat → Value) : Nat → Value := fun t => cond (Nat.blt t N) (F t) undef
theorem eval_ev (a : Act) : a.eval = ev (fun t => a.tmps.getD t undef) := by funext x; cases x <;> rfl
theorem Fr.cut {N : Nat} {F : Nat → Value} {a : Act} (h : Fr N F a) : (fun t => a.tmps.getD t undef) = cutF N F := by
  funext t
  unfold cutF
  cases hb : Nat.blt t N with
  | true => exact h.at' t hb
  | false =>
    have hle : N ≤ t := by
      rcases Nat.lt_or_ge t N with h1 | h1
      · have hb2 : Nat.blt t N = true := by simpa [Nat.blt_eq] using h1
        rw [hb2] at hb; cases hb
      · exact h1
    simp [Array.getD_eq_getD_getElem?, Array.getElem?_eq_none (by rw [h.size]; exact hle)]
theorem Fr.eval {N : Nat} {F : Nat → Value} {a : Act} (h : Fr N F a) : a.eval = ev (cutF N F) := by rw [eval_ev, h.cut]
def up (F : Nat → Value) (d : Nat) (v : Value) : Nat → Value := fun t => cond (Nat.beq t d) v (F t)
def putF (F : Nat → Value) : Option Tmp → Value → Nat → Value
  | none, _ => F
  | some d, v => up F d v
def fits (N : Nat) : Option Tmp → Bool
  | none => true
  | some d => Nat.blt d N
theorem Fr.put {N : Nat} {F : Nat → Value} {a : Act} (h : Fr N F a) {d : Option Tmp} (hd : fits N d = true) (v : Value) : Fr N (putF F d v) (a.put d v) := by
  cases d with
  | none => exact h
  | some d =>
    have hdn : d < N := by simpa [fits, Nat.blt_eq] using hd
    have hlt : d < a.tmps.size := by rw [h.size]; exact hdn
    have hN : up F d v N = F N := by
      unfold up
      cases hb : Nat.beq N d with
      | false => rfl
      | true => exact absurd (Nat.eq_of_beq_eq_true hb) (Nat.ne_of_gt hdn)
    refine ⟨by rw [← h.size]; simp [Act.put], ?_, fun t ht => ?_⟩
    · show a.defers = marked (up F d v N)
      rw [hN]; exact h.defers
    · show (a.tmps.setIfInBounds d v).getD t undef = up F d v t
      unfold up
      by_cases e : t = d
      · subst e; simp [Array.getD_eq_getD_getElem?, hlt]
      · have : Nat.beq t d = false := by
          cases hb : Nat.beq t d with
          | false => rfl
          | true => exact absurd (Nat.eq_of_beq_eq_true hb) e
        rw [this, cond_false, ← h.at' t ht]
        simp only [Array.getD_eq_getD_getElem?, Array.getElem?_setIfInBounds_ne (Ne.symm e)]
def Fp (N : Nat) (Q : (Exit → (Nat → Value) → World → Prop)) : Exit → Act → World → Prop := fun e a w => ∃ F, Fr N F a ∧ Q e F w
def fen : Option Nat → Fence
  | none => Fence.wide
  | some 0 => Fence.wide
  | some (l + 1) => Fence.wide.inRound l
theorem fen_fn (l : Option Nat) (f : FuncId) : (fen l).fn f := by
  rcases l with _ | _ | l <;> trivial
theorem fen_depth (l : Option Nat) : (fen l).depth = none := by
  rcases l with _ | _ | l <;> rfl
def wq (l : Option Nat) (P : Program) (N : Nat) (c : Code) (Q : (Exit → (Nat → Value) → World → Prop)) (F : Nat → Value) (w : World) : Prop := ∀ a, Fr N F a → c.wpIn (fen l) 0 P (Fp N Q) a w
theorem not_deferred {P : Program} {ρ : Operand → Value} {o : Oper} {w : World} {R : Value → World → Prop} (h : Yields P ρ o w R) : ∀ c, o.op ≠ .defer c := by
  intro c hc
  unfold Yields at h
  simp only [execOp, hc, Sem.run_bind] at h
  cases hr : (resolve ρ c o.type).run P w with
  | ok d w' => simp [hr] at h
  | halt x w' => simp [hr] at h
theorem calls_fen {l : Option Nat} {n : Nat} {P : Program} {f : FuncId} {args : Array Value} {w : World} {R : Ending → World → Prop} (h : Calls P f args w R) : CallsIn (fen l) n P f args w R := by
  rcases l with _ | _ | l
  · exact callsIn_wide.2 h
  · exact callsIn_wide.2 h
  · exact CallsIn.inRound l (callsIn_wide.2 h)
theorem Yields.wpIn {l : Option Nat} {P : Program} {a : Act} {o : Oper} {w : World} {K : Act → World → Prop} {Q : Exit → Act → World → Prop} (h : Yields P a.eval o w (fun v w' => K (a.put o.dst v) w')) : o.wpIn (fen l) 0 P a w K Q := by
  refine ⟨fun f _ => fen_fn l f, ?_⟩
  rw [Oper.semAt_eq _ _ _ (not_deferred h)]
  unfold Yields at h
  generalize (execOp a.eval o).run P w = r at *
  cases r with
  | ok n w' =>
    cases n <;> simp only at h <;> first
      | exact h
      | exact h.elim
      | exact ⟨fun e => (by rw [fen_depth] at e; cases e), (calls_fen h).mono (fun e w'' ⟨v, he, hk⟩ => by subst he; exact hk)⟩
  | halt x w' => exact h.elim
def thenP (next : (Nat → Value) → World → Prop) (Q : (Exit → (Nat → Value) → World → Prop)) : (Exit → (Nat → Value) → World → Prop)
  | .normal, F, w => next F w
  | e, F, w => Q e F w
def inP (id : Nat) (Q : (Exit → (Nat → Value) → World → Prop)) : (Exit → (Nat → Value) → World → Prop)
  | .exit id', F, w => if id' = id then Q .normal F w else Q (.exit id') F w
  | e, F, w => Q e F w
section
variable {l : Option Nat} {P : Program} {N : Nat} {Q : (Exit → (Nat → Value) → World → Prop)} {F : Nat → Value} {w : World}
theorem then_normal {next : (Nat → Value) → World → Prop} (h : next F w) : thenP next Q .normal F w := h
theorem then_exit {next : (Nat → Value) → World → Prop} {id : Nat} (h : Q (.exit id) F w) : thenP next Q (.exit id) F w := h
theorem then_ret {next : (Nat → Value) → World → Prop} (h : Q .ret F w) : thenP next Q .ret F w := h
theorem in_normal {id : Nat} (h : Q .normal F w) : inP id Q .normal F w := h
theorem in_here {id : Nat} (h : Q .normal F w) : inP id Q (.exit id) F w := by simp only [inP, if_true]; exact h
theorem in_other {id id' : Nat} (hn : id' ≠ id) (h : Q (.exit id') F w) : inP id Q (.exit id') F w := by simp only [inP, if_neg hn]; exact h
theorem in_ret {id : Nat} (h : Q .ret F w) : inP id Q .ret F w := h
theorem wq_seq {x y : Code} (h : wq l P N x (thenP (wq l P N y Q) Q) F w) : wq l P N (.seq x y) Q F w := by
  intro a ha
  refine wpIn_seq (wpIn_mono (h a ha) ?_)
  rintro e a' w' ⟨F', hF, hq⟩
  cases e <;> first | exact hq a' hF | exact ⟨F', hF, hq⟩
theorem wq_skip (h : Q .normal F w) : wq l P N .skip Q F w := fun _ ha => wpIn_skip ⟨F, ha, h⟩
theorem wq_exit {id : Nat} (h : Q (.exit id) F w) : wq l P N (.exit id) Q F w := fun _ ha => wpIn_exit ⟨F, ha, h⟩
theorem wq_ret (h : Q .ret F w) : wq l P N .ret Q F w := fun _ ha => wpIn_ret ⟨F, ha, h⟩
theorem wq_cond {c : Operand} {x y : Code} {t : Bool} (hc : ev (cutF N F) c = .bool t) (ht : t = true → wq l P N x Q F w) (hf : t = false → wq l P N y Q F w) : wq l P N (.cond c x y) Q F w :=
  fun a ha => wpIn_cond_split (by rw [ha.eval]; exact hc) (fun e => ht e a ha) (fun e => hf e a ha)
theorem wq_block {id : Nat} {c : Code} (h : wq l P N c (inP id Q) F w) : wq l P N (.block id c) Q F w := by
  intro a ha
  refine wpIn_block (wpIn_mono (h a ha) ?_)
  rintro e a' w' ⟨F', hF, hq⟩
  cases e with
  | exit id' =>
    simp only [inP] at hq
    simp only [Exit.inBlock]
    split
    · rename_i e; rw [if_pos e] at hq; exact ⟨F', hF, hq⟩
    · rename_i e; rw [if_neg e] at hq; exact ⟨F', hF, hq⟩
  | _ => exact ⟨F', hF, hq⟩
theorem wq_loop {c : Code} (I : Nat → (Nat → Value) → World → Prop) (n0 : Nat) (h0 : I n0 F w)
    (round : ∀ n F w, I n F w → wq l P N c (thenP (fun F' w' => ∃ n', n' < n ∧ I n' F' w') Q) F w) : wq l P N (.loop c) Q F w := by
  intro a ha
  refine wpIn_loop (fun a w => ∃ n, ∃ F, Fr N F a ∧ I n F w) (fun a w => leastOf (fun n => ∃ F, Fr N F a ∧ I n F w)) ⟨n0, F, ha, h0⟩ ?_
  intro a w hex
  have hl := leastOf_spec hex
  generalize leastOf (fun n => ∃ F, Fr N F a ∧ I n F w) = n at hl
  obtain ⟨⟨F, hF, hI⟩, _⟩ := hl
  refine wpIn_mono (round n F w hI a hF) ?_
  rintro e a' w' ⟨F', hF', hq⟩
  cases e with
  | normal =>
    obtain ⟨n', hlt, hI'⟩ := hq
    refine ⟨⟨n', F', hF', hI'⟩, Nat.lt_of_le_of_lt ?_ hlt⟩
    exact (leastOf_spec (p := fun n => ∃ F, Fr N F a' ∧ I n F w') ⟨n', F', hF', hI'⟩).2 n' ⟨F', hF', hI'⟩
  | _ => exact ⟨F', hF', hq⟩
def lists (l : Option Nat) (P : Program) (ops : Array Oper) (Q : Exit → Act → World → Prop) (rest : List Oper) (a : Act) (w : World) : Prop :=
  match l with
  | none => wpList P ops Q rest a w
  | some l => wpListIn (fen (some l)) 0 P ops Q rest a w
def wl (l : Option Nat) (P : Program) (N : Nat) (ops : Array Oper) (Q : (Exit → (Nat → Value) → World → Prop)) (rest : List Oper) (F : Nat → Value) (w : World) : Prop := ∀ a, Fr N F a → lists l P ops (Fp N Q) rest a w
theorem lists_step {l : Option Nat} {P : Program} {ops : Array Oper} {Q : Exit → Act → World → Prop} {o : Oper} {rest : List Oper} {a : Act} {w : World} (hw : Region.wanted o (yielded ops a.tmps) = true) (h : Yields P a.eval o w (fun v w' => lists l P ops Q rest (a.put o.dst v) w')) : lists l P ops Q (o :: rest) a w := by
  cases l with
  | none =>
    refine BigFrame.wpList_want hw fun K hK => Yields.wp ?_
    revert h
    unfold Yields
    generalize (execOp a.eval o).run P w = r
    intro h
    cases r with
    | ok n w' =>
      cases n <;> simp only at h ⊢ <;> first
        | exact hK _ _ h
        | exact h.elim
        | exact Calls.mono h (fun e w'' ⟨v, he, hk⟩ => ⟨v, he, hK _ _ hk⟩)
    | halt x w' => exact h.elim
  | some l =>
    refine wpListIn_step fun K hK => ?_
    rw [if_pos hw]
    refine Yields.wpIn (l := some l) ?_
    revert h
    unfold Yields
    generalize (execOp a.eval o).run P w = r
    intro h
    cases r with
    | ok n w' =>
      cases n <;> simp only at h ⊢ <;> first
        | exact hK _ _ h
        | exact h.elim
        | exact Calls.mono h (fun e w'' ⟨v, he, hk⟩ => ⟨v, he, hK _ _ hk⟩)
    | halt x w' => exact h.elim
theorem lists_pass {l : Option Nat} {P : Program} {ops : Array Oper} {Q : Exit → Act → World → Prop} {o : Oper} {rest : List Oper} {a : Act} {w : World} (hw : Region.wanted o (yielded ops a.tmps) = false) (h : lists l P ops Q rest (a.put o.dst undef) w) : lists l P ops Q (o :: rest) a w := by
  cases l with
  | none =>
    show wpList P ops Q (o :: rest) a w
    unfold wpList
    rw [hw]; exact h
  | some l =>
    show wpListIn (fen (some l)) 0 P ops Q (o :: rest) a w
    unfold wpListIn
    rw [hw]; exact ⟨fun f _ => fen_fn _ f, h⟩
theorem lists_region {l : Option Nat} {P : Program} {Q : Exit → Act → World → Prop} {id : Nat} {ops : List Oper} {a : Act} {w : World} (h : lists l P ops.toArray Q ops a w) : (Code.region id ops.toArray false).wpIn (fen l) 0 P Q a w := by
  cases l with
  | none => exact wpIn_wide.2 (wp_region_lit h)
  | some l => exact wpIn_region_lit h
theorem lists_nil {l : Option Nat} {P : Program} {ops : Array Oper} {Q : Exit → Act → World → Prop} {a : Act} {w : World} (h : Q .normal a w) : lists l P ops Q [] a w := by
  cases l <;> exact h
theorem wq_region {id : Nat} {os : List Oper} (h : wl l P N os.toArray Q os F w) : wq l P N (.region id os.toArray false) Q F w := fun a ha => lists_region (h a ha)
theorem wl_nil {ops : Array Oper} (h : ∀ F', (∀ t, F' t = F t) → Q .normal F' w) : wl l P N ops Q [] F w := fun _ ha => lists_nil ⟨F, ha, h F fun _ => rfl⟩
theorem puts_of {N : Nat} {F : Nat → Value} {a : Act} {l : Option Nat} {P : Program} {ops : Array Oper} {Q : (Exit → (Nat → Value) → World → Prop)} {o : Oper} {rest : List Oper} {w : World} (ha : Fr N F a) (hd : fits N o.dst = true) (h : Yields P (ev (cutF N F)) o w (fun v w' => wl l P N ops Q rest (putF F o.dst v) w')) :
    Yields P a.eval o w (fun v w' => lists l P ops (Fp N Q) rest (a.put o.dst v) w') := by
  rw [← ha.eval] at h
  revert h
  unfold Yields
  generalize (execOp a.eval o).run P w = r
  intro h
  cases r with
  | ok n w' =>
    cases n <;> simp only at h ⊢ <;> first
      | exact h _ (ha.put hd _)
      | exact h.elim
      | exact Calls.mono h (fun e w'' ⟨v, he, hk⟩ => ⟨v, he, hk _ (ha.put hd _)⟩)
  | halt x w' => exact h.elim
theorem wl_op {ops : Array Oper} {o : Oper} {rest : List Oper} (hg : o.guard = none) (hd : fits N o.dst = true) (h : Yields P (ev (cutF N F)) o w (fun v w' => wl l P N ops Q rest (putF F o.dst v) w')) : wl l P N ops Q (o :: rest) F w :=
  fun _ ha => lists_step (by unfold Region.wanted; rw [hg]) (puts_of ha hd h)
theorem yielded_of {ops : Array Oper} {a : Act} {j : Nat} {d : Tmp} (ha : Fr N F a) (hj : (ops[j]?).bind (·.dst) = some d) (hd : Nat.blt d N = true) : yielded ops a.tmps j = match F d with | .bool b => some b | _ => none := by
  have hlt : d < a.tmps.size := by rw [ha.size]; simpa [Nat.blt_eq] using hd
  have he : a.tmps[d] = F d := by rw [← ha.at' d hd]; simp [Array.getD, hlt]
  unfold yielded
  rw [hj]
  simp only [Option.bind_some, Array.getElem?_eq_getElem hlt, he]
  cases F d <;> rfl
theorem wl_when {ops : Array Oper} {o : Oper} {rest : List Oper} (j : Nat) (want : Bool) (d : Tmp) (hg : o.guard = some (j, want)) (hj : (ops[j]?).bind (·.dst) = some d) (hdn : Nat.blt d N = true) (hv : F d = .bool want) (hd : fits N o.dst = true)
    (h : Yields P (ev (cutF N F)) o w (fun v w' => wl l P N ops Q rest (putF F o.dst v) w')) : wl l P N ops Q (o :: rest) F w := by
  intro a ha
  refine lists_step ?_ (puts_of ha hd h)
  unfold Region.wanted
  rw [hg]
  simp only [yielded_of ha hj hdn, hv]
  simp
theorem wl_unless {ops : Array Oper} {o : Oper} {rest : List Oper} (j : Nat) (want : Bool) (d : Tmp) (hg : o.guard = some (j, want)) (hj : (ops[j]?).bind (·.dst) = some d) (hdn : Nat.blt d N = true) (hv : F d = .bool (!want) ∨ F d = undef) (hd : fits N o.dst = true)
    (h : wl l P N ops Q rest (putF F o.dst undef) w) : wl l P N ops Q (o :: rest) F w := by
  intro a ha
  refine lists_pass ?_ (h _ (ha.put hd _))
  unfold Region.wanted
  rw [hg]
  simp only [yielded_of ha hj hdn]
  rcases hv with hv | hv <;> rw [hv]
  · cases want <;> simp
  · simp [undef]
theorem wl_call {ops : Array Oper} {o : Oper} {rest : List Oper} {R : Value → World → Prop} (hg : o.guard = none) (hd : fits N o.dst = true) (hy : Yields P (ev (cutF N F)) o w R) (h : ∀ v w', R v w' → wl l P N ops Q rest (putF F o.dst v) w') : wl l P N ops Q (o :: rest) F w := by
  refine wl_op hg hd ?_
  revert hy
  unfold Yields
  generalize (execOp (ev (cutF N F)) o).run P w = r
  intro hy
  cases r with
  | ok n w' =>
    cases n <;> simp only at hy ⊢ <;> first
      | exact h _ _ hy
      | exact hy.elim
      | exact Calls.mono hy (fun e w'' ⟨v, he, hk⟩ => ⟨v, he, h _ _ hk⟩)
  | halt x w' => exact hy.elim
def DepsF (D : List (Option Tmp)) (G : Nat → Value → World → Prop) (F : Nat → Value) (w : World) : List Edge → Prop
  | [] => True
  | e :: r => (Region.binds .any e = true → match D.getD e.on none with
    | some d => G e.on (F d) w
    | none => True) ∧ DepsF D G F w r
theorem Deps.toF {D : List (Option Tmp)} {G : Nat → Value → World → Prop} {a : Act} {w : World} : ∀ {es : List Edge}, Deps D G a w es → DepsF D G (fun t => a.tmps.getD t undef) w es := by
  intro es
  induction es with
  | nil => intro _; exact trivial
  | cons e r ih => intro h; exact ⟨h.1, ih h.2⟩
theorem DepsF.get {D : List (Option Tmp)} {G : Nat → Value → World → Prop} {F : Nat → Value} {w : World} : ∀ {es : List Edge} (k : Nat) {e : Edge} {d : Tmp}, DepsF D G F w es → es[k]? = some e → Region.binds .any e = true → D.getD e.on none = some d → G e.on (F d) w := by
  intro es
  induction es with
  | nil => intro k e d _ h; simp at h
  | cons x r ih =>
    intro k e d h hk hb hd
    cases k with
    | zero =>
      simp at hk
      subst hk
      have := h.1 hb
      rw [hd] at this
      exact this
    | succ k => exact ih k h.2 (by simpa using hk) hb hd
def StepF (N : Nat) (P : Program) (D : List (Option Tmp)) (Gs : List Pd) (F0 : Nat → Value) (w0 : World) (i : Nat) (o : Oper) : Prop :=
  ∀ (F : Nat → Value) (w : World), Kept (fun _ => False) w0 w → (∀ t, Nat.blt t N = true → some t ∉ D → F t = F0 t) → DepsF D (Said Gs) F w o.after.toList →
    match o.guard with
    | none => Yields P (ev F) o w (fun v w' => Said Gs i v w' ∧ Kept (fun _ => False) w w')
    | some (j, want) => ∃ d, D.getD j none = some d ∧
      ((F d = .bool want ∧ Yields P (ev F) o w (fun v w' => Said Gs i v w' ∧ Kept (fun _ => False) w w')) ∨ ((F d = .bool (!want) ∨ F d = undef) ∧ Said Gs i undef w))
def StepsF (N : Nat) (P : Program) (D : List (Option Tmp)) (Gs : List Pd) (F0 : Nat → Value) (w0 : World) : Nat → List Oper → Prop
  | _, [] => True
  | i, o :: r => StepF N P D Gs F0 w0 i o ∧ StepsF N P D Gs F0 w0 (i + 1) r
theorem StepF.step {D : List (Option Tmp)} {Gs : List Pd} {w0 : World} {i : Nat} {o : Oper} {a0 : Act} (ha : Fr N F a0) (h : StepF N P D Gs F w0 i o) : Step P (Kept (fun _ => False)) D (Said Gs) a0 w0 i o := by
  intro a w hR hout hD
  have h1 := h (fun t => a.tmps.getD t undef) w hR (fun t hb ht => by rw [← ha.at' t hb]; exact hout t ht) hD.toF
  rw [← eval_ev a] at h1
  unfold goes
  cases hg : o.guard with
  | none => rw [hg] at h1; exact ⟨fun _ => h1, fun e => by cases e⟩
  | some g =>
    obtain ⟨j, want⟩ := g
    rw [hg] at h1
    obtain ⟨d, hd, h1⟩ := h1
    simp only [hd]
    have hev : a.eval (.tmp d) = a.tmps.getD d undef := rfl
    rcases h1 with ⟨hv, hy⟩ | ⟨hv, hs⟩
    · rw [hev, hv]; exact ⟨fun _ => hy, fun e => by simp at e⟩
    · refine ⟨fun e => ?_, fun _ => hs⟩
      rcases hv with hv | hv
      · rw [hev, hv] at e; cases want <;> simp at e
      · rw [hev, hv] at e; simp [undef] at e
theorem StepsF.steps {D : List (Option Tmp)} {Gs : List Pd} {w0 : World} {a0 : Act} (ha : Fr N F a0) : ∀ {os : List Oper} {i : Nat}, StepsF N P D Gs F w0 i os → Steps P (Kept (fun _ => False)) D (Said Gs) a0 w0 i os := by
  intro os
  induction os with
  | nil => intro i _; exact trivial
  | cons o r ih => intro i h; exact ⟨h.1.step ha, ih h.2⟩
theorem stepsF_nil {D : List (Option Tmp)} {Gs : List Pd} {F0 : Nat → Value} {w0 : World} {i : Nat} : StepsF N P D Gs F0 w0 i [] := trivial
theorem stepsF_cons {D : List (Option Tmp)} {Gs : List Pd} {F0 : Nat → Value} {w0 : World} {i : Nat} {o : Oper} {r : List Oper} (h : StepF N P D Gs F0 w0 i o) (k : StepsF N P D Gs F0 w0 (i + 1) r) : StepsF N P D Gs F0 w0 i (o :: r) := ⟨h, k⟩
theorem StepF.one {D : List (Option Tmp)} {Gs : List Pd} {F0 : Nat → Value} {w0 : World} {i : Nat} {o : Oper} (hg : o.guard = none)
    (h : ∀ (F : Nat → Value) (w : World), Kept (fun _ => False) w0 w → (∀ t, Nat.blt t N = true → some t ∉ D → F t = F0 t) → DepsF D (Said Gs) F w o.after.toList → Yields P (ev F) o w (fun v w' => Said Gs i v w' ∧ Kept (fun _ => False) w w')) : StepF N P D Gs F0 w0 i o := by
  intro F w h1 h2 h3
  rw [hg]
  exact h F w h1 h2 h3
theorem StepF.when {D : List (Option Tmp)} {Gs : List Pd} {F0 : Nat → Value} {w0 : World} {i : Nat} {o : Oper} (j : Nat) (want : Bool) (d : Tmp) (hg : o.guard = some (j, want)) (hd : D.getD j none = some d)
    (h : ∀ (F : Nat → Value) (w : World), Kept (fun _ => False) w0 w → (∀ t, Nat.blt t N = true → some t ∉ D → F t = F0 t) → DepsF D (Said Gs) F w o.after.toList → F d = .bool want ∧ Yields P (ev F) o w (fun v w' => Said Gs i v w' ∧ Kept (fun _ => False) w w')) : StepF N P D Gs F0 w0 i o := by
  intro F w h1 h2 h3
  rw [hg]
  exact ⟨d, hd, .inl (h F w h1 h2 h3)⟩
theorem StepF.unless {D : List (Option Tmp)} {Gs : List Pd} {F0 : Nat → Value} {w0 : World} {i : Nat} {o : Oper} (j : Nat) (want : Bool) (d : Tmp) (hg : o.guard = some (j, want)) (hd : D.getD j none = some d)
    (h : ∀ (F : Nat → Value) (w : World), Kept (fun _ => False) w0 w → (∀ t, Nat.blt t N = true → some t ∉ D → F t = F0 t) → DepsF D (Said Gs) F w o.after.toList → (F d = .bool (!want) ∨ F d = undef) ∧ Said Gs i undef w) : StepF N P D Gs F0 w0 i o := by
  intro F w h1 h2 h3
  rw [hg]
  exact ⟨d, hd, .inr (h F w h1 h2 h3)⟩
def putsF (v : Nat → Value) : Nat → List (Option Tmp) → (Nat → Value) → Nat → Value
  | _, [], F => F
  | i, d :: r, F => putsF v (i + 1) r (putF F d (v i))
theorem plain_fits {size : Nat} : ∀ {i : Nat} {D : List (Option Tmp)} {os : List Oper}, plain size i D os = true → ∀ d ∈ D, fits size d = true := by
  intro i D os
  induction os generalizing i D with
  | nil =>
    intro h
    cases D with
    | nil => intro d hd; cases hd
    | cons d D => simp [plain] at h
  | cons o r ih =>
    intro h
    cases D with
    | nil => intro d hd; cases hd
    | cons x D =>
      simp only [plain, Bool.and_eq_true] at h
      obtain ⟨⟨⟨h1, h2⟩, h3⟩, h4⟩ := h
      intro d hd
      rcases List.mem_cons.1 hd with rfl | hd
      · cases d with
        | none => rfl
        | some d =>
          simp only [Bool.and_eq_true, decide_eq_true_eq] at h2
          simpa [fits, Nat.blt_eq] using h2.1
      · exact ih h4 d hd
theorem putAll_fr (v : Nat → Value) : ∀ (D : List (Option Tmp)) (i : Nat) (F : Nat → Value) (a : Act), Fr N F a → (∀ d ∈ D, fits N d = true) → Fr N (putsF v i D F) (putAll v i D a) := by
  intro D
  induction D with
  | nil => intro i F a h _; exact h
  | cons d r ih => intro i F a h hf; exact ih (i + 1) _ _ (h.put (hf d (by simp)) _) (fun x hx => hf x (by simp [hx]))
theorem wq_said {id : Nat} {ops : Array Oper} (D : List (Option Tmp)) (Gs : List Pd) (hm : P.follows .mixedOrders = true) (hpl : plain N 0 D ops.toList = true) (hsteps : StepsF N P D Gs F w 0 ops.toList)
    (hend : ∀ (v : Nat → Value) (F' : Nat → Value) (w' : World), Kept (fun _ => False) w w' → (∀ i, i < ops.size → Said Gs i (v i) w') → (∀ t, F' t = putsF v 0 D F t) → Q .normal F' w') : wq none P N (.region id ops true) Q F w := by
  intro a ha
  refine wpIn_wide.2 ?_
  refine wp_region_said D Gs hm (by rw [ha.size]; exact hpl) (hsteps.steps ha) fun v w' hk hG => ?_
  exact ⟨putsF v 0 D F, putAll_fr v D 0 F a ha (plain_fits hpl), hend v _ w' hk hG fun _ => rfl⟩
end
def endP (P : Program) (fn : Func) (N : Nat) (R : Ending → World → Prop) : (Exit → (Nat → Value) → World → Prop)
  | .normal, F, w | .ret, F, w => F N = undef ∧ ∀ a, Fr N F a → ∃ v, (results fn a.tmps).run P w = .ok v w ∧ R (.returned v) w
  | _, _, _ => False
def argF (args : List Value) : Nat → Value := fun t => args.getD t undef
theorem calls_wq {P : Program} {f : FuncId} {fn : Func} {c : Code} {args : List Value} {w : World} {R : Ending → World → Prop} (N : Nat) (hf : P.funcs[f]? = some fn) (hb : fn.body = some c) (hn : fn.ntmps = N) (hl : args.length ≤ N)
    (h : wq none P N c (endP P fn N R) (argF args) w) : Calls P f args.toArray w R := by
  refine calls_of_wp hf hb ?_
  subst hn
  have hs : (args.toArray ++ Array.replicate (fn.ntmps - args.toArray.size) undef).size = fn.ntmps := by simp; omega
  have hu : argF args fn.ntmps = undef := by
    unfold argF
    rw [List.getD_eq_getElem?_getD, List.getElem?_eq_none hl]; rfl
  refine wp_mono (wpIn_wide.1 (h _ ⟨hs, by rw [hu]; rfl, fun t _ => ?_⟩)) ?_
  · unfold argF
    simp only [Array.getD_eq_getD_getElem?, List.getD_eq_getElem?_getD]
    by_cases h1 : t < args.length
    · rw [Array.getElem?_append_left (by simpa using h1)]; simp
    · rw [Array.getElem?_append_right (by simp; omega), List.getElem?_eq_none (by omega)]
      by_cases h2 : t < fn.ntmps
      · rw [Array.getElem?_replicate]; split <;> rfl
      · rw [Array.getElem?_eq_none (by simp; omega)]
  · rintro e a' w' ⟨F', hF, hq⟩
    cases e <;> first
      | exact ⟨by rw [hF.defers, hq.1]; rfl, hq.2 a' hF⟩
      | exact hq.elim
section
variable {P : Program} {fn : Func} {N : Nat} {R : Ending → World → Prop} {F : Nat → Value} {w : World}
theorem end_tmp {t : Tmp} {v : Value} (hm : F N = undef) (ht : Nat.blt t N = true) (h : fn.results = #[.tmp t]) (hv : F t = v) (hR : R (.returned v) w) : endP P fn N R .ret F w :=
  ⟨hm, fun a ha => ⟨v, by rw [results_tmp h]; rw [ha.at' t ht, hv], hR⟩⟩
theorem end_none (hm : F N = undef) (h : fn.results = #[]) (hR : R (.returned (.tuple #[])) w) : endP P fn N R .normal F w := ⟨hm, fun _ _ => ⟨_, results_none h _ _ _, hR⟩⟩
theorem end_none_ret (hm : F N = undef) (h : fn.results = #[]) (hR : R (.returned (.tuple #[])) w) : endP P fn N R .ret F w := ⟨hm, fun _ _ => ⟨_, results_none h _ _ _, hR⟩⟩
def ResOk (P : Program) (N : Nat) (F : Nat → Value) (w : World) : ResultVar → Value → Prop
  | .tmp t, v => Nat.blt t N = true ∧ F t = v
  | .cell a t, v => Nat.blt a N = true ∧ ∃ ad, F a = .pointer (some ad) ∧ (loadVar t ad).run P w = .ok v w
theorem res_tmp {t : Tmp} {v : Value} (ht : Nat.blt t N = true) (h : F t = v) : ResOk P N F w (.tmp t) v := ⟨ht, h⟩
theorem end_3 {t1 t2 t3 : Tmp} {v1 v2 v3 : Value} (hm : F N = undef) (h : fn.results = #[.tmp t1, .tmp t2, .tmp t3]) (h1 : ResOk P N F w (.tmp t1) v1) (h2 : ResOk P N F w (.tmp t2) v2) (h3 : ResOk P N F w (.tmp t3) v3)
    (hR : R (.returned (.tuple #[v1, v2, v3])) w) : endP P fn N R .ret F w := by
  refine ⟨hm, fun a ha => ⟨_, ?_, hR⟩⟩
  obtain ⟨b1, h1⟩ := h1; obtain ⟨b2, h2⟩ := h2; obtain ⟨b3, h3⟩ := h3
  rw [← ha.at' _ b1] at h1; rw [← ha.at' _ b2] at h2; rw [← ha.at' _ b3] at h3
  simp [results, h] at *; simp [h1, h2, h3]
end
end Go.Proofs.Ythoafgfcoclkbaa
set_option maxRecDepth 100000
namespace Go.Proofs.Ythoafgfcoclkbaa
open Go.RowKit
structure Sl where
  d : Int
  k : Int
  p : Int
  n : Int
def planOk (G B Q : Int) : Prop := 1 ≤ G ∧ G ≤ 16 ∧ 0 ≤ B ∧ B ≤ 3 ∧ 0 ≤ Q ∧ Q ≤ 20
instance {G B Q : Int} : Decidable (planOk G B Q) := by unfold planOk; infer_instance
def planE (G B Q : Int) : Int := if planOk G B Q then 0 else 150
theorem planE_iff {G B Q : Int} : planE G B Q = 0 ↔ planOk G B Q := by
  unfold planE; by_cases h : planOk G B Q
  · rw [if_pos h]; exact iff_of_true rfl h
  · rw [if_neg h]; exact iff_of_false (by decide) h
def bsTo (a x : Nat) : Nat → List Sl
  | 0 => []
  | i + 1 => bsTo a x i ++ [⟨((a + 1 + i : Nat) : Int), 2, (a : Int), (x : Int)⟩]
def nxt (b last a : Nat) : Nat := min (a + b + 1) last
def midL (b last a : Nat) : List Sl :=
  if _h : a < last then ⟨(nxt b last a : Int), 1, (a : Int), -1⟩ :: (bsTo a (nxt b last a) (nxt b last a - (a + 1)) ++ midL b last (nxt b last a)) else []
 termination_by last - a
 decreasing_by unfold nxt; omega
def outL (n g b f : Nat) : List Sl :=
  if _h : f < n ∧ 0 < g then ⟨(f : Int), 0, -1, -1⟩ :: (midL b (min (f + g) n - 1) f ++ outL n g b (f + g)) else []
 termination_by n - f
 decreasing_by omega
theorem midL_yes {b last a : Nat} (h : a < last) : midL b last a = ⟨(nxt b last a : Int), 1, (a : Int), -1⟩ :: (bsTo a (nxt b last a) (nxt b last a - (a + 1)) ++ midL b last (nxt b last a)) := by
  conv => lhs; rw [midL]
  rw [dif_pos h]
theorem midL_no {b last a : Nat} (h : ¬ a < last) : midL b last a = [] := by rw [midL, dif_neg h]
theorem outL_yes {n g b f : Nat} (h : f < n) (hg : 0 < g) : outL n g b f = ⟨(f : Int), 0, -1, -1⟩ :: (midL b (min (f + g) n - 1) f ++ outL n g b (f + g)) := by
  conv => lhs; rw [outL]
  rw [dif_pos ⟨h, hg⟩]
theorem outL_no {n g b f : Nat} (h : ¬ f < n) : outL n g b f = [] := by rw [outL, dif_neg (fun z => h z.1)]
theorem bsTo_len (a x i : Nat) : (bsTo a x i).length = i := by
  induction i with
  | zero => rfl
  | succ i ih => rw [bsTo, List.length_append, ih]; rfl
theorem nxt_lt {b last a : Nat} (h : a < last) : a < nxt b last a ∧ nxt b last a ≤ last := by unfold nxt; omega
theorem midL_len (b last : Nat) : ∀ (m a : Nat), last - a = m → (midL b last a).length = last - a := by
  intro m
  induction m using Nat.strongRecOn with
  | ind m ih =>
    intro a hm
    by_cases h : a < last
    · have hn := nxt_lt (b := b) h
      rw [midL_yes h, List.length_cons, List.length_append, bsTo_len, ih (last - nxt b last a) (by omega) _ rfl]
      omega
    · rw [midL_no h]; simp; omega
theorem outL_len (n g b : Nat) (hg : 0 < g) : ∀ (m f : Nat), n - f = m → (outL n g b f).length = n - f := by
  intro m
  induction m using Nat.strongRecOn with
  | ind m ih =>
    intro f hm
    by_cases h : f < n
    · rw [outL_yes h hg, List.length_cons, List.length_append, midL_len b _ _ _ rfl, ih (n - (f + g)) (by omega) _ rfl]
      omega
    · rw [outL_no h]; simp; omega
def slOk (n G B Q : Int) : Prop := planOk G B Q ∧ 1 ≤ n ∧ n ≤ 200
instance {n G B Q : Int} : Decidable (slOk n G B Q) := by unfold slOk; infer_instance
def slL (n G B Q : Int) : List Sl := if slOk n G B Q then outL n.toNat G.toNat B.toNat 0 else []
def slE (n G B Q : Int) : Int := if slOk n G B Q then 0 else 150
theorem slL_yes {n G B Q : Int} (h : slOk n G B Q) : slL n G B Q = outL n.toNat G.toNat B.toNat 0 := if_pos h
theorem slL_no {n G B Q : Int} (h : ¬ slOk n G B Q) : slL n G B Q = [] := if_neg h
theorem slE_yes {n G B Q : Int} (h : slOk n G B Q) : slE n G B Q = 0 := if_pos h
theorem slE_no {n G B Q : Int} (h : ¬ slOk n G B Q) : slE n G B Q = 150 := if_neg h
def shA (l : List Int) : Nat → List Int
  | 0 => List.replicate l.length (-1)
  | i + 1 => (shA l i).set (l.getD i 0).toNat (i : Int)
theorem shA_len (l : List Int) (i : Nat) : (shA l i).length = l.length := by
  induction i with
  | zero => exact List.length_replicate
  | succ i ih => rw [shA, List.length_set, ih]
def shG (l : List Int) (i : Nat) : Prop := 0 ≤ l.getD i 0 ∧ l.getD i 0 < (l.length : Int) ∧ (shA l i).getD (l.getD i 0).toNat 0 < 0
instance {l : List Int} {i : Nat} : Decidable (shG l i) := by unfold shG; infer_instance
def tk (A : List Int) (t : Nat) : Nat := if _h : t < A.length ∧ 0 ≤ A.getD t 0 then tk A (t + 1) else t
 termination_by A.length - t
 decreasing_by omega
theorem tk_yes {A : List Int} {t : Nat} (h : t < A.length) (h2 : 0 ≤ A.getD t 0) : tk A t = tk A (t + 1) := by
  conv => lhs; rw [tk]
  rw [dif_pos ⟨h, h2⟩]
theorem tk_no {A : List Int} {t : Nat} (h : ¬ (t < A.length ∧ 0 ≤ A.getD t 0)) : tk A t = t := by rw [tk, dif_neg h]
def shT (l : List Int) : Nat → Nat
  | 0 => 0
  | i + 1 => tk (shA l (i + 1)) (shT l i)
def shM (l : List Int) : Nat → Int
  | 0 => 0
  | i + 1 => max (shM l i) ((i : Int) + 1 - (shT l i : Int))
def shOk (l : List Int) : Prop := 1 ≤ l.length ∧ l.length ≤ 200 ∧ ∀ i, i < l.length → shG l i
instance {l : List Int} : Decidable (shOk l) := by unfold shOk; infer_instance
def shL (l : List Int) : List Int := if shOk l then shA l l.length else []
def shN (l : List Int) : Int := if shOk l then shM l l.length else 0
def shE (l : List Int) : Int := if shOk l then 0 else 150
theorem shL_yes {l : List Int} (h : shOk l) : shL l = shA l l.length := if_pos h
theorem shL_no {l : List Int} (h : ¬ shOk l) : shL l = [] := if_neg h
theorem shN_yes {l : List Int} (h : shOk l) : shN l = shM l l.length := if_pos h
theorem shN_no {l : List Int} (h : ¬ shOk l) : shN l = 0 := if_neg h
theorem shE_yes {l : List Int} (h : shOk l) : shE l = 0 := if_pos h
theorem shE_no {l : List Int} (h : ¬ shOk l) : shE l = 150 := if_neg h
theorem tk_all {A : List Int} : ∀ (m t : Nat), A.length - t = m → t ≤ A.length → tk A t ≤ A.length := by
  intro m
  induction m with
  | zero => intro t h1 h2; rw [tk_no (fun h => by omega)]; exact h2
  | succ m ih =>
    intro t h1 h2
    by_cases h : t < A.length ∧ 0 ≤ A.getD t 0
    · rw [tk_yes h.1 h.2]; exact ih (t + 1) (by omega) (by omega)
    · rw [tk_no h]; exact h2
theorem shT_le (l : List Int) : ∀ i, shT l i ≤ l.length
  | 0 => Nat.zero_le _
  | i + 1 => by have h := tk_all (A := shA l (i + 1)) _ (shT l i) rfl (by rw [shA_len]; exact shT_le l i); rwa [shA_len] at h
theorem sh_bad {l : List Int} {i : Nat} (hi : i < l.length) (h : ¬ shG l i) : ¬ shOk l := fun z => h (z.2.2 i hi)
end Go.Proofs.Ythoafgfcoclkbaa
set_option maxRecDepth 100000
namespace Go.Proofs.Ythoafgfcoclkbaa
open Go.RowKit
structure Pic where
  s : Int
  t : Int
def pcZ : Pic := ⟨0, 0⟩
def swH (l : List Pic) (i j : Nat) : List Pic := (l.set i (l.getD j pcZ)).set j (l.getD i pcZ)
theorem swH_len (l : List Pic) (i j : Nat) : (swH l i j).length = l.length := by unfold swH; rw [List.length_set, List.length_set]
theorem getD_set_ {α : Type} (l : List α) (i k : Nat) (a d : α) : (l.set i a).getD k d = if k = i ∧ i < l.length then a else l.getD k d := by
  rw [List.getD_eq_getElem?_getD, List.getD_eq_getElem?_getD, List.getElem?_set]
  by_cases h : i = k
  · subst h
    by_cases h2 : i < l.length
    · simp [h2]
    · simp [h2]
  · simp [h, Ne.symm h]
theorem swH_at {l : List Pic} {i j : Nat} (hi : i < l.length) (hj : j < l.length) (k : Nat) : (swH l i j).getD k pcZ = if k = j then l.getD i pcZ else if k = i then l.getD j pcZ else l.getD k pcZ := by
  unfold swH
  rw [getD_set_, getD_set_, List.length_set]
  by_cases h1 : k = j
  · rw [if_pos ⟨h1, hj⟩, if_pos h1]
  · rw [if_neg (fun z => h1 z.1), if_neg h1]
    by_cases h2 : k = i
    · rw [if_pos ⟨h2, hi⟩, if_pos h2]
    · rw [if_neg (fun z => h2 z.1), if_neg h2]
theorem swH_perm {l : List Pic} {i j : Nat} (hi : i < l.length) (hj : j < l.length) : (swH l i j).Perm l := by
  have h := Array.swap_perm (xs := l.toArray) (i := i) (j := j) (by simpa using hi) (by simpa using hj)
  have e : (l.toArray.swap i j (by simpa using hi) (by simpa using hj)).toList = swH l i j := by
    rw [Array.swap_def]
    unfold swH
    simp [List.getD_eq_getElem?_getD, List.getElem?_eq_getElem hi, List.getElem?_eq_getElem hj]
  have h2 := Array.perm_iff_toList_perm.1 h
  rw [e] at h2
  simpa using h2
def shw (l : List Pic) (k : Nat) : Int := (l.getD k pcZ).s
theorem shw_sw {l : List Pic} {i j : Nat} (hi : i < l.length) (hj : j < l.length) (k : Nat) : shw (swH l i j) k = if k = j then shw l i else if k = i then shw l j else shw l k := by
  unfold shw; rw [swH_at hi hj]; split <;> first | rfl | (split <;> rfl)
def HpL (l : List Pic) (n : Nat) : Prop := ∀ k, 0 < k → k < n → shw l ((k - 1) / 2) ≤ shw l k
def upH (l : List Pic) (j : Nat) : List Pic := if _h : 0 < j ∧ shw l j < shw l ((j - 1) / 2) then upH (swH l ((j - 1) / 2) j) ((j - 1) / 2) else l
 termination_by j
 decreasing_by omega
theorem upH_yes {l : List Pic} {j : Nat} (h : 0 < j) (h2 : shw l j < shw l ((j - 1) / 2)) : upH l j = upH (swH l ((j - 1) / 2) j) ((j - 1) / 2) := by
  conv => lhs; rw [upH]
  rw [dif_pos ⟨h, h2⟩]
theorem upH_no {l : List Pic} {j : Nat} (h : ¬ (0 < j ∧ shw l j < shw l ((j - 1) / 2))) : upH l j = l := by rw [upH, dif_neg h]
theorem upH_perm : ∀ (m j : Nat) (l : List Pic), j = m → j < l.length → (upH l j).Perm l := by
  intro m
  induction m using Nat.strongRecOn with
  | ind m ih =>
    intro j l e hj
    by_cases h : 0 < j ∧ shw l j < shw l ((j - 1) / 2)
    · rw [upH_yes h.1 h.2]
      exact (ih ((j - 1) / 2) (by omega) _ _ rfl (by rw [swH_len]; omega)).trans (swH_perm (by omega) hj)
    · rw [upH_no h]
def UpI (l : List Pic) (j : Nat) : Prop := (∀ k, 0 < k → k < l.length → k ≠ j → shw l ((k - 1) / 2) ≤ shw l k) ∧ (∀ k, 0 < k → k < l.length → (k - 1) / 2 = j → 0 < j → shw l ((j - 1) / 2) ≤ shw l k)
theorem UpI.step {l : List Pic} {j : Nat} (hj : j < l.length) (h0 : 0 < j) (h2 : shw l j < shw l ((j - 1) / 2)) (h : UpI l j) : UpI (swH l ((j - 1) / 2) j) ((j - 1) / 2) := by
  have hp : (j - 1) / 2 < l.length := by omega
  refine ⟨fun k k0 k1 kn => ?_, fun k k0 k1 kp q0 => ?_⟩
  · rw [swH_len] at k1
    rw [shw_sw hp hj, shw_sw hp hj]
    by_cases e : k = j
    · subst e
      have e3 : ¬ (k - 1) / 2 = k := by omega
      rw [if_neg e3, if_pos rfl, if_pos rfl]; omega
    · rw [if_neg e, if_neg kn]
      have hk := h.1 k k0 k1 e
      by_cases e1 : (k - 1) / 2 = j
      · rw [if_pos e1]
        have := h.2 k k0 k1 e1 h0
        omega
      · rw [if_neg e1]
        by_cases e2 : (k - 1) / 2 = (j - 1) / 2
        · rw [if_pos e2]; rw [e2] at hk; omega
        · rw [if_neg e2]; exact hk
  · rw [swH_len] at k1
    rw [shw_sw hp hj, shw_sw hp hj]
    have a1 : ¬ ((j - 1) / 2 - 1) / 2 = j := by omega
    have a2 : ¬ ((j - 1) / 2 - 1) / 2 = (j - 1) / 2 := by omega
    rw [if_neg a1, if_neg a2]
    have hq := h.1 ((j - 1) / 2) q0 hp (by omega)
    by_cases e : k = j
    · rw [if_pos e]; exact hq
    · rw [if_neg e, if_neg (by omega)]
      have hk := h.1 k k0 k1 e
      rw [kp] at hk
      omega
theorem UpI.done {l : List Pic} {j : Nat} (h2 : ¬ (0 < j ∧ shw l j < shw l ((j - 1) / 2))) (h : UpI l j) : HpL l l.length := by
  intro k k0 k1
  by_cases e : k = j
  · subst e
    have : ¬ shw l k < shw l ((k - 1) / 2) := fun z => h2 ⟨k0, z⟩
    omega
  · exact h.1 k k0 k1 e
theorem upH_heap : ∀ (m j : Nat) (l : List Pic), j = m → j < l.length → UpI l j → HpL (upH l j) (upH l j).length := by
  intro m
  induction m using Nat.strongRecOn with
  | ind m ih =>
    intro j l e hj hI
    by_cases h : 0 < j ∧ shw l j < shw l ((j - 1) / 2)
    · rw [upH_yes h.1 h.2]
      exact ih ((j - 1) / 2) (by omega) _ _ rfl (by rw [swH_len]; omega) (hI.step hj h.1 h.2)
    · rw [upH_no h]; exact hI.done h
def pushH (l : List Pic) (x : Pic) : List Pic := upH (l ++ [x]) l.length
theorem shw_append {l : List Pic} {x : Pic} {k : Nat} (h : k < l.length) : shw (l ++ [x]) k = shw l k := by
  unfold shw; rw [List.getD_eq_getElem?_getD, List.getD_eq_getElem?_getD, List.getElem?_append_left h]
theorem pushH_perm (l : List Pic) (x : Pic) : (pushH l x).Perm (l ++ [x]) := upH_perm _ _ _ rfl (by simp)
theorem pushH_len (l : List Pic) (x : Pic) : (pushH l x).length = l.length + 1 := by rw [(pushH_perm l x).length_eq]; simp
theorem pushH_heap {l : List Pic} (x : Pic) (h : HpL l l.length) : HpL (pushH l x) (pushH l x).length := by
  refine upH_heap _ _ _ rfl (by simp) ⟨fun k k0 k1 kn => ?_, fun k k0 k1 kp => ?_⟩
  · rw [List.length_append, List.length_singleton] at k1
    rw [shw_append (by omega), shw_append (by omega)]
    exact h k k0 (by omega)
  · rw [List.length_append, List.length_singleton] at k1; omega
def chH (l : List Pic) (i n : Nat) : Nat := if 2 * i + 2 < n ∧ shw l (2 * i + 2) < shw l (2 * i + 1) then 2 * i + 2 else 2 * i + 1
theorem chH_in {l : List Pic} {i n : Nat} (h : 2 * i + 1 < n) : i < chH l i n ∧ chH l i n < n ∧ (chH l i n - 1) / 2 = i := by
  unfold chH; by_cases h2 : 2 * i + 2 < n ∧ shw l (2 * i + 2) < shw l (2 * i + 1)
  · rw [if_pos h2]; omega
  · rw [if_neg h2]; omega
theorem chH_le {l : List Pic} {i n : Nat} {k : Nat} (k0 : 0 < k) (k1 : k < n) (e : (k - 1) / 2 = i) : shw l (chH l i n) ≤ shw l k := by
  unfold chH; by_cases h2 : 2 * i + 2 < n ∧ shw l (2 * i + 2) < shw l (2 * i + 1)
  · rw [if_pos h2]
    have : k = 2 * i + 1 ∨ k = 2 * i + 2 := by omega
    rcases this with rfl | rfl <;> omega
  · rw [if_neg h2]
    have : k = 2 * i + 1 ∨ k = 2 * i + 2 := by omega
    rcases this with e1 | e1
    · rw [e1]; exact Int.le_refl _
    · subst e1
      have : ¬ shw l (2 * i + 2) < shw l (2 * i + 1) := fun z => h2 ⟨k1, z⟩
      omega
def goH (l : List Pic) (i n : Nat) : Prop := 2 * i + 1 < n ∧ shw l (chH l i n) < shw l i
instance {l : List Pic} {i n : Nat} : Decidable (goH l i n) := by unfold goH; infer_instance
def dnH (l : List Pic) (i n : Nat) : List Pic := if _h : goH l i n then dnH (swH l i (chH l i n)) (chH l i n) n else l
 termination_by n - i
 decreasing_by unfold goH at _h; have := chH_in (l := l) _h.1; omega
theorem dnH_yes {l : List Pic} {i n : Nat} (h : goH l i n) : dnH l i n = dnH (swH l i (chH l i n)) (chH l i n) n := by
  conv => lhs; rw [dnH]
  rw [dif_pos h]
theorem dnH_no {l : List Pic} {i n : Nat} (h : ¬ goH l i n) : dnH l i n = l := by rw [dnH, dif_neg h]
theorem dnH_perm {n : Nat} : ∀ (m i : Nat) (l : List Pic), n - i = m → i < l.length → n ≤ l.length → (dnH l i n).Perm l := by
  intro m
  induction m using Nat.strongRecOn with
  | ind m ih =>
    intro i l e hi hn
    by_cases h : goH l i n
    · have hc := chH_in (l := l) h.1
      rw [dnH_yes h]
      exact (ih (n - chH l i n) (by omega) _ _ rfl (by rw [swH_len]; omega) (by rw [swH_len]; omega)).trans (swH_perm hi (by omega))
    · rw [dnH_no h]
theorem dnH_far {n : Nat} : ∀ (m i : Nat) (l : List Pic), n - i = m → i < n → n ≤ l.length → (dnH l i n).drop n = l.drop n := by
  intro m
  induction m using Nat.strongRecOn with
  | ind m ih =>
    intro i l e hi hn
    by_cases h : goH l i n
    · have hc := chH_in (l := l) h.1
      rw [dnH_yes h, ih (n - chH l i n) (by omega) _ _ rfl (by omega) (by rw [swH_len]; omega)]
      unfold swH
      rw [List.drop_set, if_pos (by omega), List.drop_set, if_pos (by omega)]
    · rw [dnH_no h]
def DnI (l : List Pic) (i n : Nat) : Prop := (∀ k, 0 < k → k < n → (k - 1) / 2 ≠ i → shw l ((k - 1) / 2) ≤ shw l k) ∧ (∀ k, 0 < k → k < n → (k - 1) / 2 = i → 0 < i → shw l ((i - 1) / 2) ≤ shw l k)
theorem DnI.step {l : List Pic} {i n : Nat} (hn : n ≤ l.length) (hg : goH l i n) (h : DnI l i n) : DnI (swH l i (chH l i n)) (chH l i n) n := by
  obtain ⟨hg1, hg2⟩ := hg
  have hc := chH_in (l := l) hg1
  have hle : ∀ k, 0 < k → k < n → (k - 1) / 2 = i → shw l (chH l i n) ≤ shw l k := fun k k0 k1 e => chH_le k0 k1 e
  generalize chH l i n = c at *
  have hi : i < l.length := by omega
  have hcl : c < l.length := by omega
  refine ⟨fun k k0 k1 kn => ?_, fun k k0 k1 kp q0 => ?_⟩
  · rw [shw_sw hi hcl, shw_sw hi hcl]
    rw [if_neg kn]
    by_cases e : k = c
    · rw [if_pos e]
      have e3 : (k - 1) / 2 = i := by rw [e]; exact hc.2.2
      rw [if_pos e3]; omega
    · rw [if_neg e]
      by_cases e1 : (k - 1) / 2 = i
      · rw [if_pos e1, if_neg (by omega)]; exact hle k k0 k1 e1
      · rw [if_neg e1]
        by_cases e2 : k = i
        · rw [if_pos e2, e2]
          have := h.2 c (by omega) (by omega) hc.2.2 (by omega)
          exact this
        · rw [if_neg e2]; exact h.1 k k0 k1 e1
  · rw [shw_sw hi hcl, shw_sw hi hcl, hc.2.2]
    rw [if_neg (by omega), if_pos rfl, if_neg (by omega), if_neg (by omega)]
    have := h.1 k k0 k1 (by omega)
    rw [kp] at this; exact this
theorem DnI.done {l : List Pic} {i n : Nat} (hg : ¬ goH l i n) (h : DnI l i n) : HpL l n := by
  intro k k0 k1
  by_cases e : (k - 1) / 2 = i
  · have h1 := chH_le (l := l) k0 k1 e
    have : ¬ shw l (chH l i n) < shw l i := fun z => hg ⟨by omega, z⟩
    rw [e]; omega
  · exact h.1 k k0 k1 e
theorem dnH_heap {n : Nat} : ∀ (m i : Nat) (l : List Pic), n - i = m → n ≤ l.length → DnI l i n → HpL (dnH l i n) n := by
  intro m
  induction m using Nat.strongRecOn with
  | ind m ih =>
    intro i l e hn hI
    by_cases h : goH l i n
    · have hc := chH_in (l := l) h.1
      rw [dnH_yes h]
      exact ih (n - chH l i n) (by have := h.1; omega) _ _ rfl (by rw [swH_len]; omega) (hI.step hn h)
    · rw [dnH_no h]; exact hI.done h
def popH (l : List Pic) : List Pic := (dnH (swH l 0 (l.length - 1)) 0 (l.length - 1)).take (l.length - 1)
theorem dn_len {n i : Nat} {l : List Pic} (hi : i < l.length) (hn : n ≤ l.length) : (dnH l i n).length = l.length := (dnH_perm _ _ _ rfl hi hn).length_eq
theorem popH_last {l : List Pic} (h : 0 < l.length) : (dnH (swH l 0 (l.length - 1)) 0 (l.length - 1)).drop (l.length - 1) = [l.getD 0 pcZ] := by
  have hl := swH_len l 0 (l.length - 1)
  have e1 : (dnH (swH l 0 (l.length - 1)) 0 (l.length - 1)).drop (l.length - 1) = (swH l 0 (l.length - 1)).drop (l.length - 1) := by
    by_cases h1 : 0 < l.length - 1
    · exact dnH_far _ _ _ rfl h1 (by rw [hl]; omega)
    · rw [dnH_no (fun z => by have := z.1; omega)]
  rw [e1]
  have h3 : l.length - 1 < (swH l 0 (l.length - 1)).length := by rw [hl]; omega
  rw [List.drop_eq_getElem_cons h3, List.drop_eq_nil_of_le (by rw [hl]; omega)]
  have h4 := swH_at (l := l) (i := 0) (j := l.length - 1) h (by omega) (l.length - 1)
  rw [if_pos rfl, List.getD_eq_getElem?_getD, List.getElem?_eq_getElem h3] at h4
  simp only [Option.getD_some] at h4
  rw [h4]
theorem popH_perm {l : List Pic} (h : 0 < l.length) : (l.getD 0 pcZ :: popH l).Perm l := by
  have hl := swH_len l 0 (l.length - 1)
  have h1 := popH_last h
  have h2 : popH l ++ [l.getD 0 pcZ] = dnH (swH l 0 (l.length - 1)) 0 (l.length - 1) := by
    rw [← h1]; exact List.take_append_drop _ _
  have h3 : (popH l ++ [l.getD 0 pcZ]).Perm l := by
    rw [h2]
    exact (dnH_perm _ _ _ rfl (by rw [hl]; exact h) (by rw [hl]; omega)).trans (swH_perm h (by omega))
  exact (List.perm_append_singleton _ _).symm.trans h3
theorem popH_len {l : List Pic} (h : 0 < l.length) : (popH l).length = l.length - 1 := by have := (popH_perm h).length_eq; simp at this; omega
theorem popH_heap {l : List Pic} (h : 0 < l.length) (hh : HpL l l.length) : HpL (popH l) (popH l).length := by
  have hl := swH_len l 0 (l.length - 1)
  have h1 : HpL (dnH (swH l 0 (l.length - 1)) 0 (l.length - 1)) (l.length - 1) := by
    refine dnH_heap _ _ _ rfl (by rw [hl]; omega) ⟨fun k k0 k1 kn => ?_, fun k k0 k1 kp q0 => absurd q0 (Nat.lt_irrefl 0)⟩
    rw [shw_sw h (by omega), shw_sw h (by omega), if_neg (by omega), if_neg (by omega), if_neg (by omega), if_neg (by omega)]
    exact hh k k0 (by omega)
  intro k k0 k1
  rw [popH_len h] at k1
  have e : ∀ j, j < l.length - 1 → shw (popH l) j = shw (dnH (swH l 0 (l.length - 1)) 0 (l.length - 1)) j := fun j hj => by
    unfold shw popH; rw [List.getD_eq_getElem?_getD, List.getD_eq_getElem?_getD, List.getElem?_take, if_pos hj]
  rw [e _ (by omega), e _ (by omega)]
  exact h1 k k0 (by omega)
theorem heap_top {l : List Pic} (h : HpL l l.length) : ∀ (m k : Nat), k = m → k < l.length → shw l 0 ≤ shw l k := by
  intro m
  induction m using Nat.strongRecOn with
  | ind m ih =>
    intro k e hk
    by_cases h0 : k = 0
    · subst h0; exact Int.le_refl _
    · have h1 := h k (by omega) hk
      have h2 := ih ((k - 1) / 2) (by omega) _ rfl (by omega)
      omega
theorem heap_least {l : List Pic} (h : HpL l l.length) {q : Pic} (hq : q ∈ l) : shw l 0 ≤ q.s := by
  obtain ⟨k, hk, e⟩ := List.mem_iff_getElem.1 hq
  have h1 := heap_top h _ k rfl hk
  unfold shw at h1
  rw [List.getD_eq_getElem?_getD (l := l) (i := k), List.getElem?_eq_getElem hk, Option.getD_some, e] at h1
  exact h1
theorem shA_got {l : List Int} : ∀ {m : Nat}, (∀ j, j < m → shG l j) → ∀ j, j < m → (shA l m).getD (l.getD j 0).toNat 0 = (j : Int)
  | 0, _, j, h => absurd h (Nat.not_lt_zero j)
  | m + 1, hg, j, hj => by
    have hm := hg m (by omega)
    have hj' := hg j hj
    rw [shA, getD_set_, shA_len]
    by_cases e : j = m
    · subst e; rw [if_pos ⟨rfl, by have := hm.1; have := hm.2.1; omega⟩]
    · have ih := shA_got (m := m) (fun k hk => hg k (by omega)) j (by omega)
      rw [if_neg, ih]
      rintro ⟨e1, _⟩
      have h3 := hm.2.2
      rw [← e1, ih] at h3
      omega
theorem shA_in {l : List Int} : ∀ {m : Nat}, (∀ j, j < m → shG l j) → ∀ v, v < l.length → 0 ≤ (shA l m).getD v 0 → ∃ j, j < m ∧ l.getD j 0 = (v : Int)
  | 0, _, v, hv, h => by
    rw [shA, List.getD_eq_getElem?_getD, List.getElem?_replicate, if_pos hv] at h
    exact absurd h (by simp)
  | m + 1, hg, v, hv, h => by
    have hm := hg m (by omega)
    rw [shA, getD_set_] at h
    by_cases e : v = (l.getD m 0).toNat
    · exact ⟨m, by omega, by have := hm.1; omega⟩
    · rw [if_neg (fun z => e z.1)] at h
      obtain ⟨j, hj, e2⟩ := shA_in (m := m) (fun k hk => hg k (by omega)) v hv h
      exact ⟨j, by omega, e2⟩
theorem sh_inj {l : List Int} {m : Nat} (hg : ∀ j, j < m → shG l j) {j k : Nat} (hj : j < m) (hk : k < m) (e : l.getD j 0 = l.getD k 0) : j = k := by
  have h1 := shA_got hg j hj
  have h2 := shA_got hg k hk
  rw [e] at h1
  omega
structure ShI (l : List Int) (m t : Nat) (h : List Pic) : Prop where
  nd : h.Nodup
  mem : ∀ q, q ∈ h ↔ ∃ j : Nat, j < m ∧ q = ⟨l.getD j 0, (j : Int)⟩ ∧ (t : Int) ≤ l.getD j 0
  len : h.length + t = m
  hp : HpL h h.length
  all : ∀ v : Nat, v < t → ∃ j, j < m ∧ l.getD j 0 = (v : Int)
theorem ShI.nil (l : List Int) : ShI l 0 0 [] := ⟨List.nodup_nil, fun q => ⟨fun h => (by cases h), fun ⟨j, h, _⟩ => absurd h (Nat.not_lt_zero j)⟩, rfl, fun k _ h => absurd h (Nat.not_lt_zero k), fun v h => absurd h (Nat.not_lt_zero v)⟩
theorem ShI.above {l : List Int} {m t : Nat} {h : List Pic} (H : ShI l m t h) (hg : ∀ j, j < m + 1 → shG l j) : (t : Int) ≤ l.getD m 0 := by
  have h0 := (hg m (by omega)).1
  rcases Int.lt_or_le (l.getD m 0) (t : Int) with h1 | h1
  · obtain ⟨j, hj, e⟩ := H.all (l.getD m 0).toNat (by omega)
    have := sh_inj hg (j := j) (k := m) (by omega) (by omega) (by omega)
    omega
  · exact h1
theorem ShI.push {l : List Int} {m t : Nat} {h : List Pic} (H : ShI l m t h) (hg : ∀ j, j < m + 1 → shG l j) : ShI l (m + 1) t (pushH h ⟨l.getD m 0, (m : Int)⟩) := by
  have ha := H.above hg
  have hp := pushH_perm h ⟨l.getD m 0, (m : Int)⟩
  refine ⟨hp.nodup_iff.2 ?_, fun q => ?_, by rw [pushH_len]; have := H.len; omega, pushH_heap _ H.hp, fun v hv => ?_⟩
  · rw [List.nodup_append]
    refine ⟨H.nd, by simp, fun a h1 b h2 e => ?_⟩
    rw [List.mem_singleton] at h2
    subst e; subst h2
    obtain ⟨j, hj, e, _⟩ := (H.mem _).1 h1
    have := congrArg Pic.t e
    simp only at this
    omega
  · rw [hp.mem_iff, List.mem_append, List.mem_singleton, H.mem]
    constructor
    · rintro (⟨j, hj, e, h2⟩ | e)
      · exact ⟨j, by omega, e, h2⟩
      · exact ⟨m, by omega, e, ha⟩
    · rintro ⟨j, hj, e, h2⟩
      by_cases e2 : j = m
      · subst e2; exact .inr e
      · exact .inl ⟨j, by omega, e, h2⟩
  · obtain ⟨j, hj, e⟩ := H.all v hv
    exact ⟨j, by omega, e⟩
theorem ShI.take {l : List Int} {m t : Nat} {h : List Pic} (H : ShI l m t h) (hg : ∀ j, j < m + 1 → shG l j) : (shA l (m + 1)).take t = (shA l m).take t := by
  have ha := H.above hg
  rw [shA, List.take_set]
  apply List.set_eq_of_length_le
  rw [List.length_take]; omega
theorem ShI.tle {l : List Int} {m t : Nat} {h : List Pic} (H : ShI l m t h) (hm : m ≤ l.length) : t ≤ l.length := by have := H.len; omega
theorem ShI.top {l : List Int} {m t : Nat} {h : List Pic} (H : ShI l m t h) (hg : ∀ j, j < m → shG l j) : (0 < h.length ∧ (h.getD 0 pcZ).s = (t : Int)) ↔ (t < (shA l m).length ∧ 0 ≤ (shA l m).getD t 0) := by
  rw [shA_len]
  constructor
  · rintro ⟨h1, h2⟩
    have hq : h.getD 0 pcZ ∈ h := by rw [List.getD_eq_getElem?_getD, List.getElem?_eq_getElem h1]; exact List.getElem_mem h1
    obtain ⟨j, hj, e, _⟩ := (H.mem _).1 hq
    have h3 := hg j hj
    have e2 : l.getD j 0 = (t : Int) := by rw [e] at h2; exact h2
    have h4 := shA_got hg j hj
    have h5 := h3.2.1
    rw [e2] at h4 h5
    simp only [Int.toNat_natCast] at h4
    exact ⟨by omega, by omega⟩
  · rintro ⟨h1, h2⟩
    obtain ⟨j, hj, e⟩ := shA_in hg t h1 h2
    have hq : (⟨l.getD j 0, (j : Int)⟩ : Pic) ∈ h := (H.mem _).2 ⟨j, hj, rfl, by omega⟩
    have h3 := heap_least H.hp hq
    have h4 : 0 < h.length := List.length_pos_of_mem hq
    have hq0 : h.getD 0 pcZ ∈ h := by rw [List.getD_eq_getElem?_getD, List.getElem?_eq_getElem h4]; exact List.getElem_mem h4
    obtain ⟨k, hk, e2, h5⟩ := (H.mem _).1 hq0
    refine ⟨h4, ?_⟩
    unfold shw at h3
    simp only at h3
    rw [e2] at h3 ⊢
    simp only at h3 ⊢
    omega
theorem ShI.pop {l : List Int} {m t : Nat} {h : List Pic} (H : ShI l m t h) (hg : ∀ j, j < m → shG l j) (h1 : 0 < h.length) (h2 : (h.getD 0 pcZ).s = (t : Int)) : ShI l m (t + 1) (popH h) := by
  have hp := popH_perm h1
  have hn := hp.nodup_iff.2 H.nd
  rw [List.nodup_cons] at hn
  have hq : h.getD 0 pcZ ∈ h := by rw [List.getD_eq_getElem?_getD, List.getElem?_eq_getElem h1]; exact List.getElem_mem h1
  obtain ⟨k, hk, e, _⟩ := (H.mem _).1 hq
  have e2 : l.getD k 0 = (t : Int) := by rw [e] at h2; exact h2
  refine ⟨hn.2, fun q => ?_, by rw [popH_len h1]; have := H.len; omega, popH_heap h1 H.hp, fun v hv => ?_⟩
  · constructor
    · intro hq'
      obtain ⟨j, hj, e3, h3⟩ := (H.mem q).1 (hp.mem_iff.1 (List.mem_cons_of_mem _ hq'))
      refine ⟨j, hj, e3, ?_⟩
      rcases Int.lt_or_le (t : Int) (l.getD j 0) with h4 | h4
      · omega
      · have e4 : j = k := sh_inj hg hj hk (by omega)
        subst e4
        rw [e3, ← e] at hq'
        exact absurd hq' hn.1
    · rintro ⟨j, hj, e3, h3⟩
      have h4 := hp.mem_iff.2 ((H.mem q).2 ⟨j, hj, e3, by omega⟩)
      rcases List.mem_cons.1 h4 with h5 | h5
      · rw [e3, e] at h5
        have := congrArg Pic.s h5
        simp only at this
        omega
      · exact h5
  · by_cases ev : v = t
    · exact ⟨k, hk, by rw [ev]; exact e2⟩
    · exact H.all v (by omega)
theorem ShI.told {l : List Int} {m t : Nat} {h : List Pic} (H : ShI l m t h) (hg : ∀ j, j < m → shG l j) (h1 : 0 < h.length) (h2 : (h.getD 0 pcZ).s = (t : Int)) : (shA l m).take t ++ [(h.getD 0 pcZ).t] = (shA l m).take (t + 1) := by
  have hq : h.getD 0 pcZ ∈ h := by rw [List.getD_eq_getElem?_getD, List.getElem?_eq_getElem h1]; exact List.getElem_mem h1
  obtain ⟨k, hk, e, _⟩ := (H.mem _).1 hq
  have e2 : l.getD k 0 = (t : Int) := by rw [e] at h2; exact h2
  have h4 := shA_got hg k hk
  have h5 := (hg k hk).2.1
  rw [e2] at h4 h5
  simp only [Int.toNat_natCast] at h4
  have h6 : t < (shA l m).length := by rw [shA_len]; omega
  rw [List.take_succ_eq_append_getElem h6]
  congr 1
  rw [e]
  rw [List.getD_eq_getElem?_getD, List.getElem?_eq_getElem h6] at h4
  simp only [Option.getD_some] at h4
  rw [h4]
theorem shA_count {l : List Int} : ∀ {m : Nat}, (∀ j, j < m → shG l j) → (shA l m).countP (fun x => decide (0 ≤ x)) = m
  | 0, _ => by rw [shA, List.countP_replicate]; simp
  | m + 1, hg => by
    have hm := hg m (by omega)
    have hv : (l.getD m 0).toNat < (shA l m).length := by rw [shA_len]; have := hm.1; have := hm.2.1; omega
    have ih := shA_count (l := l) (m := m) (fun k hk => hg k (by omega))
    have h3 := hm.2.2
    rw [List.getD_eq_getElem?_getD, List.getElem?_eq_getElem hv, Option.getD_some] at h3
    have e1 : ¬ decide (0 ≤ (shA l m)[(l.getD m 0).toNat]) = true := fun z => by have := of_decide_eq_true z; omega
    have e2 : decide (0 ≤ (m : Int)) = true := decide_eq_true (by omega)
    rw [shA, List.countP_set hv, ih, if_neg e1, if_pos e2]; omega
theorem shA_full {l : List Int} (hg : ∀ j, j < l.length → shG l j) : ∀ x ∈ shA l l.length, 0 ≤ x := by
  have h := shA_count hg
  have h2 := List.countP_eq_length.1 (h.trans (shA_len l l.length).symm)
  exact fun x hx => by have := h2 x hx; simpa using this
theorem tk_full {A : List Int} (hA : ∀ x ∈ A, 0 ≤ x) : ∀ (m t : Nat), A.length - t = m → t ≤ A.length → tk A t = A.length := by
  intro m
  induction m with
  | zero => intro t h1 h2; rw [tk_no (fun z => by omega)]; omega
  | succ m ih =>
    intro t h1 h2
    rw [tk_yes (by omega) (by rw [List.getD_eq_getElem?_getD, List.getElem?_eq_getElem (by omega : t < A.length)]; exact hA _ (List.getElem_mem _))]
    exact ih (t + 1) (by omega) (by omega)
theorem shT_full {l : List Int} (hg : ∀ j, j < l.length → shG l j) : shT l l.length = l.length := by
  cases h : l.length with
  | zero => rfl
  | succ n =>
    have h1 := shA_full hg
    have h2 := shA_len l l.length
    have h3 := shT_le l n
    rw [h] at h1 h2 h3
    rw [shT, tk_full h1 _ _ rfl (by rw [h2]; exact h3), h2]
theorem sh_done {l : List Int} (hg : ∀ j, j < l.length → shG l j) : (shA l l.length).take (shT l l.length) = shA l l.length := by
  rw [shT_full hg]; exact List.take_of_length_le (by rw [shA_len]; exact Nat.le_refl _)
def snL (l : List Int) (i : Nat) : List Bool := (shA l i).map fun x => decide (0 ≤ x)
theorem snL_len (l : List Int) (i : Nat) : (snL l i).length = l.length := by unfold snL; rw [List.length_map, shA_len]
theorem snL_zero (l : List Int) : snL l 0 = List.replicate l.length false := by unfold snL; rw [shA, List.map_replicate]; rfl
theorem snL_succ (l : List Int) (i : Nat) : snL l (i + 1) = (snL l i).set (l.getD i 0).toNat true := by
  unfold snL; rw [shA, List.map_set]; simp
theorem snL_at {l : List Int} {i v : Nat} (h : v < l.length) : (snL l i).getD v false = decide (0 ≤ (shA l i).getD v 0) := by
  unfold snL
  have h2 : v < (shA l i).length := by rw [shA_len]; exact h
  rw [List.getD_eq_getElem?_getD, List.getD_eq_getElem?_getD, List.getElem?_map, List.getElem?_eq_getElem h2]; rfl
end Go.Proofs.Ythoafgfcoclkbaa
set_option maxRecDepth 100000
namespace Go.Proofs.Ythoafgfcoclkbaa
open Go.RowKit
def tk2 (A : List Int) (t : Nat) : Nat := t + ((A.drop t).takeWhile fun x => decide (0 ≤ x)).length
theorem tk_eq {A : List Int} : ∀ (m t : Nat), A.length - t = m → t ≤ A.length → tk A t = tk2 A t := by
  intro m
  induction m with
  | zero =>
    intro t h1 h2
    rw [tk_no (fun h => by omega), tk2, List.drop_eq_nil_of_le (by omega)]; rfl
  | succ m ih =>
    intro t h1 h2
    have hlt : t < A.length := by omega
    have hg : A.getD t 0 = A[t] := by rw [List.getD_eq_getElem?_getD, List.getElem?_eq_getElem hlt]; rfl
    unfold tk2
    rw [List.drop_eq_getElem_cons hlt, List.takeWhile_cons]
    by_cases h : 0 ≤ A[t]
    · rw [tk_yes hlt (by rw [hg]; exact h), ih (t + 1) (by omega) (by omega), if_pos (decide_eq_true h), tk2, List.length_cons]; omega
    · rw [tk_no (fun z => h (by rw [← hg]; exact z.2)), if_neg (fun z => h (of_decide_eq_true z))]; rfl
def shT2 (l : List Int) : Nat → Nat
  | 0 => 0
  | i + 1 => tk2 (shA l (i + 1)) (shT2 l i)
theorem shT_eq (l : List Int) : ∀ i, shT l i = shT2 l i
  | 0 => rfl
  | i + 1 => by
    have h := shT_le l i
    rw [shT, tk_eq _ _ rfl (by rw [shA_len]; exact h), shT_eq l i]; rfl
def shM2 (l : List Int) : Nat → Int
  | 0 => 0
  | i + 1 => max (shM2 l i) ((i : Int) + 1 - (shT2 l i : Int))
theorem shM_eq (l : List Int) : ∀ i, shM l i = shM2 l i
  | 0 => rfl
  | i + 1 => by rw [shM, shM_eq l i, shT_eq]; rfl
def exL : List Int := [0, 2, 1, 4, 3]
theorem ex_ok : shOk exL := by decide
theorem ex_L : shL exL = [0, 2, 1, 4, 3] := by rw [shL_yes ex_ok]; decide
theorem ex_N : shN exL = 2 := by rw [shN_yes ex_ok, shM_eq]; decide
theorem ex_E : shE exL = 0 := shE_yes ex_ok
theorem ex_bad : ¬ shOk [0, 0] := by decide
theorem ex_sl : slL 5 5 1 0 = [⟨0, 0, -1, -1⟩, ⟨2, 1, 0, -1⟩, ⟨1, 2, 0, 2⟩, ⟨4, 1, 2, -1⟩, ⟨3, 2, 2, 4⟩] := by
  rw [slL_yes (by decide)]
  show outL 5 5 1 0 = _
  rw [outL_yes (by decide) (by decide), outL_no (by decide), midL_yes (by decide), midL_yes (by decide), midL_no (by decide)]
  rfl
theorem ex_slE : slE 5 5 1 0 = 0 := slE_yes (by decide)
end Go.Proofs.Ythoafgfcoclkbaa
set_option maxRecDepth 100000
namespace Go.Proofs.Ythoafgfcoclkbaa
open Go.RowKit
theorem i64_n {x : Int} {m : Nat} (h : x = (m : Int)) (hm : m ≤ 9223372036854775807) : IntKind.i64.wrap x = (m : Int) := by subst h; exact IntWalk.i64_in _ (by omega)
theorem i64_i {x y : Int} (h : x = y) (hy : -9223372036854775808 ≤ y ∧ y ≤ 9223372036854775807) : IntKind.i64.wrap x = y := by subst h; exact IntWalk.i64_in _ hy
theorem y_of {P : Program} {ρ : Operand → Value} {o : Oper} {w : World} {R : Value → World → Prop} {v : Value} {w' : World} (h : (execOp ρ o).run P w = .ok (.value v) w') (hR : R v w') : Yields P ρ o w R := by
  unfold Yields; rw [h]; exact hR
section
variable {ro : Option Nat} {P : Program} {ρ : Operand → Value} {o : Oper} {w : World} {R : Value → World → Prop}
theorem y_mov {x : Operand} {v : Value} (ho : o.op = .move x) (hx : ρ x = v) (h : R v w) : Yields P ρ o w R := y_move ho (by rw [hx]; exact h)
theorem y_asg {x : Operand} {v : Value} (ho : o.op = .assign x) (hx : ρ x = v) (h : R v w) : Yields P ρ o w R := y_assign ho (by rw [hx]; exact h)
theorem y_pickT {c x y : Operand} {v : Value} (ho : o.op = .pick c x y) (hc : ρ c = .bool true) (hx : ρ x = v) (h : R v w) : Yields P ρ o w R := y_pick_true ho hc (by rw [hx]; exact h)
theorem y_pickF {c x y : Operand} {v : Value} (ho : o.op = .pick c x y) (hc : ρ c = .bool false) (hy : ρ y = v) (h : R v w) : Yields P ρ o w R := y_pick_false ho hc (by rw [hy]; exact h)
theorem y_add {t t' : TypeId} {k : IntKind} {x y : Operand} {m n r : Int} (ho : o.op = .binOp .add t x y t') (hx : ρ x = .int k m) (hy : ρ y = .int k n) (hr : k.wrap (m + n) = r) (h : R (.int k r) w) : Yields P ρ o w R :=
  y_of (v := .int k (k.wrap (m + n))) (w' := w) (by simp [execOp, ho, hx, hy, go_sem]) (by rw [hr]; exact h)
theorem y_sub {t t' : TypeId} {k : IntKind} {x y : Operand} {m n r : Int} (ho : o.op = .binOp .sub t x y t') (hx : ρ x = .int k m) (hy : ρ y = .int k n) (hr : k.wrap (m - n) = r) (h : R (.int k r) w) : Yields P ρ o w R :=
  y_of (v := .int k (k.wrap (m - n))) (w' := w) (by simp [execOp, ho, hx, hy, go_sem]) (by rw [hr]; exact h)
theorem y_mul {t t' : TypeId} {k : IntKind} {x y : Operand} {m n r : Int} (ho : o.op = .binOp .mul t x y t') (hx : ρ x = .int k m) (hy : ρ y = .int k n) (hr : k.wrap (m * n) = r) (h : R (.int k r) w) : Yields P ρ o w R :=
  y_of (v := .int k (k.wrap (m * n))) (w' := w) (by simp [execOp, ho, hx, hy, go_sem]) (by rw [hr]; exact h)
theorem y_quo {t t' : TypeId} {k : IntKind} {x y : Operand} {m n r : Int} (ho : o.op = .binOp .quo t x y t') (hx : ρ x = .int k m) (hy : ρ y = .int k n) (hn : n ≠ 0) (hr : k.wrap (m.tdiv n) = r) (h : R (.int k r) w) : Yields P ρ o w R :=
  y_of (v := .int k (k.wrap (m.tdiv n))) (w' := w) (by simp [execOp, ho, hx, hy, hn, go_sem]) (by rw [hr]; exact h)
theorem y_rem {t t' : TypeId} {k : IntKind} {x y : Operand} {m n r : Int} (ho : o.op = .binOp .rem t x y t') (hx : ρ x = .int k m) (hy : ρ y = .int k n) (hn : n ≠ 0) (hr : m.tmod n = r) (h : R (.int k r) w) : Yields P ρ o w R :=
  y_of (v := .int k (m.tmod n)) (w' := w) (by simp [execOp, ho, hx, hy, hn, go_sem]) (by rw [hr]; exact h)
theorem y_convR {src dst : TypeId} {x : Operand} {k k' : IntKind} {n r : Int} {d : TypeDesc} (ho : o.op = .convert src dst x) (hx : ρ x = .int k n) (hs : P.underlying src = some d) (hd : P.underlying dst = some (.int k')) (hr : k'.wrap n = r) (h : R (.int k' r) w) : Yields P ρ o w R :=
  y_conv ho hx hs hd (by rw [hr]; exact h)
theorem y_lss {t t' : TypeId} {k : IntKind} {x y : Operand} {m n : Int} {b : Bool} (ho : o.op = .binOp .lss t x y t') (hx : ρ x = .int k m) (hy : ρ y = .int k n) (hr : decide (m < n) = b) (h : R (.bool b) w) : Yields P ρ o w R :=
  y_of (v := .bool (decide (m < n))) (w' := w) (by simp [execOp, ho, hx, hy, go_sem]) (by rw [hr]; exact h)
theorem y_leq {t t' : TypeId} {k : IntKind} {x y : Operand} {m n : Int} {b : Bool} (ho : o.op = .binOp .leq t x y t') (hx : ρ x = .int k m) (hy : ρ y = .int k n) (hr : decide (m ≤ n) = b) (h : R (.bool b) w) : Yields P ρ o w R :=
  y_of (v := .bool (decide (m ≤ n))) (w' := w) (by simp [execOp, ho, hx, hy, go_sem]) (by rw [hr]; exact h)
theorem y_gtr {t t' : TypeId} {k : IntKind} {x y : Operand} {m n : Int} {b : Bool} (ho : o.op = .binOp .gtr t x y t') (hx : ρ x = .int k m) (hy : ρ y = .int k n) (hr : decide (n < m) = b) (h : R (.bool b) w) : Yields P ρ o w R :=
  y_of (v := .bool (decide (n < m))) (w' := w) (by simp [execOp, ho, hx, hy, go_sem]) (by rw [hr]; exact h)
theorem y_geq {t t' : TypeId} {k : IntKind} {x y : Operand} {m n : Int} {b : Bool} (ho : o.op = .binOp .geq t x y t') (hx : ρ x = .int k m) (hy : ρ y = .int k n) (hr : decide (n ≤ m) = b) (h : R (.bool b) w) : Yields P ρ o w R :=
  y_of (v := .bool (decide (n ≤ m))) (w' := w) (by simp [execOp, ho, hx, hy, go_sem]) (by rw [hr]; exact h)
theorem y_eqlI {t t' : TypeId} {k : IntKind} {x y : Operand} {m n : Int} {b : Bool} (ho : o.op = .binOp .eql t x y t') (hx : ρ x = .int k m) (hy : ρ y = .int k n) (hr : decide (m = n) = b) (h : R (.bool b) w) : Yields P ρ o w R :=
  y_eql_int ho hx hy (by rw [show (m == n) = b from hr]; exact h)
theorem y_neqI {t t' : TypeId} {k : IntKind} {x y : Operand} {m n : Int} {b : Bool} (ho : o.op = .binOp .neq t x y t') (hx : ρ x = .int k m) (hy : ρ y = .int k n) (hr : decide (m ≠ n) = b) (h : R (.bool b) w) : Yields P ρ o w R := by
  refine y_of (v := .bool (m != n)) (w' := w) (by simp [execOp, ho, hx, hy, go_sem, bne]) ?_
  rw [show (m != n) = b by rw [← hr]; by_cases e : m = n <;> simp [bne, e]]; exact h
theorem y_not {t : TypeId} {x : Operand} {b c : Bool} (ho : o.op = .unOp .not t x) (hx : ρ x = .bool b) (hr : (!b) = c) (h : R (.bool c) w) : Yields P ρ o w R :=
  y_of (v := .bool (!b)) (w' := w) (by simp [execOp, ho, hx, go_sem]) (by rw [hr]; exact h)
theorem y_minR {ts : Array TypeId} {k : IntKind} {x y : Operand} {m n r : Int} (ho : o.op = .call { callee := .builtin .min, args := #[x, y], argTypes := ts }) (hx : ρ x = .int k m) (hy : ρ y = .int k n) (he : min m n = r) (h : R (.int k r) w) : Yields P ρ o w R := by
  have e : (if n < m then n else m) = min m n := by split <;> omega
  have hr := run_min_int2 (P := P) w ts o.type k k m n
  rw [e, he] at hr
  exact y_of (v := .int k r) (w' := w) (by simp only [execOp, ho, resolve, invoke, builtin, Sem.run_bind, Sem.run_pure, Result.andThen_ok, List.map_toArray, List.map_cons, List.map_nil, hx, hy, hr]) h
theorem y_maxR {ts : Array TypeId} {k : IntKind} {x y : Operand} {m n r : Int} (ho : o.op = .call { callee := .builtin .max, args := #[x, y], argTypes := ts }) (hx : ρ x = .int k m) (hy : ρ y = .int k n) (he : max m n = r) (h : R (.int k r) w) : Yields P ρ o w R := by
  have e : (if n > m then n else m) = max m n := by split <;> omega
  have hr := run_max_int2 (P := P) w ts o.type k k m n
  rw [e, he] at hr
  exact y_of (v := .int k r) (w' := w) (by simp only [execOp, ho, resolve, invoke, builtin, Sem.run_bind, Sem.run_pure, Result.andThen_ok, List.map_toArray, List.map_cons, List.map_nil, hx, hy, hr]) h
theorem y_buildR {t : TypeId} {parts : Array (Nat × Operand)} {cells : Array Value} {v : Value} (ho : o.op = .build t parts) (hc : P.built t (parts.map fun (i, x) => (i, ρ x)).toList = some cells) (hv : .agg cells = v) (h : R v w) : Yields P ρ o w R :=
  y_of (v := .agg cells) (w' := w) (by simp only [execOp, ho, Sem.run_bind, run_build w t _ cells hc, Result.andThen_ok, Sem.run_pure]) (by rw [hv]; exact h)
theorem y_ext {x : Operand} {i : Nat} {vs : Array Value} {v : Value} (ho : o.op = .extract x i) (hx : ρ x = .tuple vs) (hi : vs[i]? = some v) (h : R v w) : Yields P ρ o w R :=
  y_of (v := v) (w' := w) (by simp [execOp, ho, hx, Instr.extract, hi]) h
theorem y_cs {f : FuncId} {c : Call} {S : Ending → World → Prop} {xs : List Operand} {vs : List Value} (ho : o.op = .call c) (hc : c.callee = .value (.func f)) (hx : c.args = xs.toArray) (hf : ∀ args w, (callFunc f args).run P w = .ok (.enter f args) w)
    (ev0 : ∀ f, ρ (.func f) = .func (.func f) #[] #[]) (hv : xs.map ρ = vs) (h : Calls P f vs.toArray w S) (hS : ∀ e w', S e w' → ∃ v, e = .returned v ∧ R v w') : Yields P ρ o w R := by
  obtain ⟨cl, ag, ts⟩ := c
  simp only at hc hx
  subst hc; subst hx; subst hv
  unfold Yields
  have e : (execOp ρ o).run P w = .ok (.enter f (xs.map ρ).toArray) w := by simp [execOp, ho, resolve, ev0, Deferred.ofValue, invoke, hf]
  rw [e]
  exact h.mono hS
end
theorem ev_func (F : Nat → Value) : ∀ f, ev F (.func f) = .func (.func f) #[] #[] := fun _ => rfl
theorem vs1 {ρ : Operand → Value} {x : Operand} {v : Value} (h : ρ x = v) : [x].map ρ = [v] := by simp [h]
theorem vs2 {ρ : Operand → Value} {x y : Operand} {v u : Value} (h : ρ x = v) (h2 : ρ y = u) : [x, y].map ρ = [v, u] := by simp [h, h2]
theorem vsN {ρ : Operand → Value} : ([] : List Operand).map ρ = [] := rfl
theorem vsC {ρ : Operand → Value} {x : Operand} {v : Value} {xs : List Operand} {vs : List Value} (h : ρ x = v) (h2 : xs.map ρ = vs) : (x :: xs).map ρ = v :: vs := by simp [h, ← h2]
section
variable {ro : Option Nat} {P : Program} {N : Nat} {Q : (Exit → (Nat → Value) → World → Prop)} {F : Nat → Value} {w : World}
theorem wl_v {ops : Array Oper} {o : Oper} {rest : List Oper} (v : Value) (hg : o.guard = none) (hd : fits N o.dst = true) (hy : Yields P (ev (cutF N F)) o w (fun u w' => u = v ∧ w' = w)) (h : wl ro P N ops Q rest (putF F o.dst v) w) : wl ro P N ops Q (o :: rest) F w :=
  wl_call hg hd hy fun u w' ⟨h1, h2⟩ => by subst h1; subst h2; exact h
theorem wl_vw {ops : Array Oper} {o : Oper} {rest : List Oper} (v : Value) (j : Nat) (want : Bool) (d : Tmp) (hg : o.guard = some (j, want)) (hj : (ops[j]?).bind (·.dst) = some d) (hdn : Nat.blt d N = true) (hv : F d = .bool want) (hd : fits N o.dst = true)
    (hy : Yields P (ev (cutF N F)) o w (fun u w' => u = v ∧ w' = w)) (h : wl ro P N ops Q rest (putF F o.dst v) w) : wl ro P N ops Q (o :: rest) F w := by
  refine wl_when j want d hg hj hdn hv hd ?_
  revert hy
  unfold Yields
  generalize (execOp (ev (cutF N F)) o).run P w = r
  intro hy
  cases r with
  | ok n w' =>
    cases n <;> simp only at hy ⊢ <;> first
      | (obtain ⟨h1, h2⟩ := hy; subst h1; subst h2; exact h)
      | exact hy.elim
      | exact Calls.mono hy (fun e w'' ⟨u, he, h1, h2⟩ => ⟨u, he, by subst h1; subst h2; exact h⟩)
  | halt x w' => exact hy.elim
end
theorem rr {α β : Type} {a : α} {b : β} : a = a ∧ b = b := ⟨rfl, rfl⟩
abbrev pt (p k : Nat) : Value := .pointer (some ⟨p, k, none⟩)
abbrev iv (n : Int) : Value := .int .i64 n
section
variable {ro : Option Nat} {P : Program} {N : Nat} {Q : (Exit → (Nat → Value) → World → Prop)} {F : Nat → Value} {w : World}
theorem wl_mv {ops : Array Oper} {o : Oper} {rest : List Oper} {x : Operand} {v : Value} (hg : o.guard = none) (hd : fits N o.dst = true) (ho : o.op = .move x) (hx : ev (cutF N F) x = v) (h : wl ro P N ops Q rest (putF F o.dst v) w) : wl ro P N ops Q (o :: rest) F w :=
  wl_v v hg hd (y_mov ho hx ⟨rfl, rfl⟩) h
theorem wl_cs {ops : Array Oper} {o : Oper} {rest : List Oper} {f : FuncId} {c : Call} {v : Value} {xs : List Operand} {vs : List Value} (hg : o.guard = none) (hd : fits N o.dst = true) (ho : o.op = .call c) (hc : c.callee = .value (.func f)) (hx : c.args = xs.toArray) (hf : ∀ args w, (callFunc f args).run P w = .ok (.enter f args) w)
    (hv : xs.map (ev (cutF N F)) = vs) (h : Calls P f vs.toArray w (fun e w' => e = .returned v ∧ Kept (fun _ => False) w w')) (k : ∀ w', Kept (fun _ => False) w w' → wl ro P N ops Q rest (putF F o.dst v) w') : wl ro P N ops Q (o :: rest) F w :=
  wl_call (R := fun u w' => u = v ∧ Kept (fun _ => False) w w') hg hd (y_cs ho hc hx hf (ev_func _) hv h (fun _ _ hh => ⟨_, hh.1, rfl, hh.2⟩)) (fun _ w' hh => by obtain ⟨h1, h2⟩ := hh; subst h1; exact k w' h2)
end
theorem Kept.tr {S : Nat → Prop} {a b c : World} (h : Kept S a b) (k : Kept (fun _ => False) b c) : Kept S a c := h.trans k (fun _ _ x => x.elim)
section
variable {F G : Nat → Value}
theorem t2 (h : ∀ i, F i = G i) (i0 : Nat) {x0 : Value} (p0 : G i0 = x0) (i1 : Nat) {x1 : Value} (p1 : G i1 = x1) : F i0 = x0 ∧ F i1 = x1 :=
  ⟨(h i0).trans p0, (h i1).trans p1⟩
theorem t3 (h : ∀ i, F i = G i) (i0 : Nat) {x0 : Value} (p0 : G i0 = x0) (i1 : Nat) {x1 : Value} (p1 : G i1 = x1) (i2 : Nat) {x2 : Value} (p2 : G i2 = x2) : F i0 = x0 ∧ F i1 = x1 ∧ F i2 = x2 :=
  ⟨(h i0).trans p0, (h i1).trans p1, (h i2).trans p2⟩
theorem t4 (h : ∀ i, F i = G i) (i0 : Nat) {x0 : Value} (p0 : G i0 = x0) (i1 : Nat) {x1 : Value} (p1 : G i1 = x1) (i2 : Nat) {x2 : Value} (p2 : G i2 = x2) (i3 : Nat) {x3 : Value} (p3 : G i3 = x3) : F i0 = x0 ∧ F i1 = x1 ∧ F i2 = x2 ∧ F i3 = x3 :=
  ⟨(h i0).trans p0, (h i1).trans p1, (h i2).trans p2, (h i3).trans p3⟩
theorem t5 (h : ∀ i, F i = G i) (i0 : Nat) {x0 : Value} (p0 : G i0 = x0) (i1 : Nat) {x1 : Value} (p1 : G i1 = x1) (i2 : Nat) {x2 : Value} (p2 : G i2 = x2) (i3 : Nat) {x3 : Value} (p3 : G i3 = x3) (i4 : Nat) {x4 : Value} (p4 : G i4 = x4) : F i0 = x0 ∧ F i1 = x1 ∧ F i2 = x2 ∧ F i3 = x3 ∧ F i4 = x4 :=
  ⟨(h i0).trans p0, (h i1).trans p1, (h i2).trans p2, (h i3).trans p3, (h i4).trans p4⟩
theorem t6 (h : ∀ i, F i = G i) (i0 : Nat) {x0 : Value} (p0 : G i0 = x0) (i1 : Nat) {x1 : Value} (p1 : G i1 = x1) (i2 : Nat) {x2 : Value} (p2 : G i2 = x2) (i3 : Nat) {x3 : Value} (p3 : G i3 = x3) (i4 : Nat) {x4 : Value} (p4 : G i4 = x4) (i5 : Nat) {x5 : Value} (p5 : G i5 = x5) : F i0 = x0 ∧ F i1 = x1 ∧ F i2 = x2 ∧ F i3 = x3 ∧ F i4 = x4 ∧ F i5 = x5 :=
  ⟨(h i0).trans p0, (h i1).trans p1, (h i2).trans p2, (h i3).trans p3, (h i4).trans p4, (h i5).trans p5⟩
theorem t7 (h : ∀ i, F i = G i) (i0 : Nat) {x0 : Value} (p0 : G i0 = x0) (i1 : Nat) {x1 : Value} (p1 : G i1 = x1) (i2 : Nat) {x2 : Value} (p2 : G i2 = x2) (i3 : Nat) {x3 : Value} (p3 : G i3 = x3) (i4 : Nat) {x4 : Value} (p4 : G i4 = x4) (i5 : Nat) {x5 : Value} (p5 : G i5 = x5) (i6 : Nat) {x6 : Value} (p6 : G i6 = x6) : F i0 = x0 ∧ F i1 = x1 ∧ F i2 = x2 ∧ F i3 = x3 ∧ F i4 = x4 ∧ F i5 = x5 ∧ F i6 = x6 :=
  ⟨(h i0).trans p0, (h i1).trans p1, (h i2).trans p2, (h i3).trans p3, (h i4).trans p4, (h i5).trans p5, (h i6).trans p6⟩
theorem t8 (h : ∀ i, F i = G i) (i0 : Nat) {x0 : Value} (p0 : G i0 = x0) (i1 : Nat) {x1 : Value} (p1 : G i1 = x1) (i2 : Nat) {x2 : Value} (p2 : G i2 = x2) (i3 : Nat) {x3 : Value} (p3 : G i3 = x3) (i4 : Nat) {x4 : Value} (p4 : G i4 = x4) (i5 : Nat) {x5 : Value} (p5 : G i5 = x5) (i6 : Nat) {x6 : Value} (p6 : G i6 = x6) (i7 : Nat) {x7 : Value} (p7 : G i7 = x7) : F i0 = x0 ∧ F i1 = x1 ∧ F i2 = x2 ∧ F i3 = x3 ∧ F i4 = x4 ∧ F i5 = x5 ∧ F i6 = x6 ∧ F i7 = x7 :=
  ⟨(h i0).trans p0, (h i1).trans p1, (h i2).trans p2, (h i3).trans p3, (h i4).trans p4, (h i5).trans p5, (h i6).trans p6, (h i7).trans p7⟩
end
end Go.Proofs.Ythoafgfcoclkbaa
set_option maxRecDepth 100000
namespace Go.Proofs.Ythoafgfcoclkbaa
open Go.RowKit
def Grew (w : World) (T T' : Nat → Prop) : Prop := ∀ i, T' i → T i ∨ w.heap.size ≤ i
def Apart (T U : Nat → Prop) : Prop := ∀ i, T i → ¬ U i
def noB : Nat → Prop := fun _ => False
def Live (w : World) (T : Nat → Prop) : Prop := ∀ i, T i → i < w.heap.size
theorem Grew.refl (w : World) (T : Nat → Prop) : Grew w T T := fun _ h => .inl h
theorem Grew.trans {S : Nat → Prop} {w0 w : World} {B T T' : Nat → Prop} (h : Grew w0 B T) (k : Kept S w0 w) (g : Grew w T T') : Grew w0 B T' := fun i hi => by
  rcases g i hi with h1 | h1
  · exact h i h1
  · exact .inr (Nat.le_trans k.size h1)
theorem Grew.new {S : Nat → Prop} {w0 w : World} {T : Nat → Prop} (k : Kept S w0 w) (g : Grew w noB T) : Grew w0 noB T := (Grew.refl w0 noB).trans k g
theorem Grew.ok {w0 : World} {B T S : Nat → Prop} (h : Grew w0 B T) (hb : ∀ i, B i → S i) : ∀ i, i < w0.heap.size → T i → S i := fun i hi ht => by
  rcases h i ht with h1 | h1
  · exact hb i h1
  · omega
theorem noB_le {S : Nat → Prop} : ∀ i, noB i → S i := fun _ h => h.elim
theorem Apart.symm {T U : Nat → Prop} (h : Apart T U) : Apart U T := fun i hu ht => h i ht hu
theorem Apart.grew {w : World} {T T' U : Nat → Prop} (h : Apart T U) (g : Grew w T T') (hl : Live w U) : Apart T' U := fun i ht hu => by
  rcases g i ht with h1 | h1
  · exact h i h1 hu
  · have := hl i hu; omega
theorem Apart.new {w : World} {T' U : Nat → Prop} (g : Grew w noB T') (hl : Live w U) : Apart T' U := Apart.grew (T := noB) (fun _ h => h.elim) g hl
theorem Apart.none {T : Nat → Prop} : Apart T noB := fun _ _ h => h
def onB (p : Nat) : Nat → Prop := fun i => i = p
theorem onB_new {w : World} {p : Nat} (h : w.heap.size ≤ p) : Grew w noB (onB p) := fun i hi => .inr (by unfold onB at hi; omega)
theorem onB_live {w : World} {p : Nat} (h : p < w.heap.size) : Live w (onB p) := fun i hi => by unfold onB at hi; omega
theorem Live.mono {S : Nat → Prop} {w w' : World} {T : Nat → Prop} (h : Live w T) (k : Kept S w w') : Live w' T := fun i hi => Nat.lt_of_lt_of_le (h i hi) k.size
section
variable {ro : Option Nat} {P : Program} {N : Nat} {Q : (Exit → (Nat → Value) → World → Prop)} {F : Nat → Value} {w : World}
theorem wl_callw {ops : Array Oper} {o : Oper} {rest : List Oper} {R : Value → World → Prop} (j : Nat) (want : Bool) (d : Tmp) (hg : o.guard = some (j, want)) (hj : (ops[j]?).bind (·.dst) = some d) (hdn : Nat.blt d N = true) (hv : F d = .bool want) (hd : fits N o.dst = true)
    (hy : Yields P (ev (cutF N F)) o w R) (h : ∀ v w', R v w' → wl ro P N ops Q rest (putF F o.dst v) w') : wl ro P N ops Q (o :: rest) F w := by
  refine wl_when j want d hg hj hdn hv hd ?_
  revert hy
  unfold Yields
  generalize (execOp (ev (cutF N F)) o).run P w = r
  intro hy
  cases r with
  | ok n w' =>
    cases n <;> simp only at hy ⊢ <;> first
      | exact h _ _ hy
      | exact hy.elim
      | exact Calls.mono hy (fun e w'' ⟨v, he, hk⟩ => ⟨v, he, h _ _ hk⟩)
  | halt x w' => exact hy.elim
end
end Go.Proofs.Ythoafgfcoclkbaa
set_option maxRecDepth 100000
namespace Go.Proofs.Ythoafgfcoclkbaa
open Go.RowKit
def shut : List Nat → World → World
  | [], w => w
  | D :: ms, w => shut ms (w.putObj D (.deferred none))
def Opens : List Nat → World → Prop
  | [], _ => True
  | D :: ms, w => w.heap[D]? = some (.deferred (some [])) ∧ Opens ms (w.putObj D (.deferred none))
def endM (P : Program) (fn : Func) (N : Nat) (R : Ending → World → Prop) : (Exit → (Nat → Value) → World → Prop)
  | .normal, F, w | .ret, F, w => ∃ ms, F N = markV ms ∧ Opens ms w ∧ ∀ a, Fr N F a → ∃ v, (results fn a.tmps).run P (shut ms w) = .ok v (shut ms w) ∧ R (.returned v) (shut ms w)
  | _, _, _ => False
theorem leaves_marks {P : Program} {fn : Func} {tmps : Array Value} {R : Ending → World → Prop} : ∀ (ms : List Nat) (w : World), Opens ms w → (∃ v, (results fn tmps).run P (shut ms w) = .ok v (shut ms w) ∧ R (.returned v) (shut ms w)) →
    LeavesInM Fence.wide 0 P fn tmps R (ms.map fun D => { target := .collected D, args := #[] }) .returning w := by
  intro ms
  induction ms with
  | nil =>
    intro w _ h
    exact h
  | cons D ms ih =>
    intro w ho h
    exact ⟨by simp, .inl ⟨D, _, rfl, run_takeDeferred ho.1, ih _ ho.2 h⟩⟩
theorem calls_wm {P : Program} {f : FuncId} {fn : Func} {c : Code} {args : List Value} {w : World} {R : Ending → World → Prop} (N : Nat) (hf : P.funcs[f]? = some fn) (hb : fn.body = some c) (hn : fn.ntmps = N) (hl : args.length ≤ N)
    (h : wq none P N c (endM P fn N R) (argF args) w) : Calls P f args.toArray w R := by
  refine callsIn_wide (n := 0).1 ?_
  refine callsIn_of_wp_marks hf hb trivial ?_
  subst hn
  have hs : (args.toArray ++ Array.replicate (fn.ntmps - args.toArray.size) undef).size = fn.ntmps := by simp; omega
  have hu : argF args fn.ntmps = undef := by
    unfold argF
    rw [List.getD_eq_getElem?_getD, List.getElem?_eq_none hl]; rfl
  refine wpIn_mono (h _ ⟨hs, by rw [hu]; rfl, fun t _ => ?_⟩) ?_
  · unfold argF
    simp only [Array.getD_eq_getD_getElem?, List.getD_eq_getElem?_getD]
    by_cases h1 : t < args.length
    · rw [Array.getElem?_append_left (by simpa using h1)]; simp
    · rw [Array.getElem?_append_right (by simp; omega), List.getElem?_eq_none (by omega)]
      by_cases h2 : t < fn.ntmps
      · rw [Array.getElem?_replicate]; split <;> rfl
      · rw [Array.getElem?_eq_none (by simp; omega)]
  · rintro e a' w' ⟨F', hF, hq⟩
    cases e <;> first
      | (obtain ⟨ms, hm, ho, hr⟩ := hq
         show LeavesInM Fence.wide 0 P fn a'.tmps R a'.defers .returning w'
         rw [hF.defers, hm, marked, marksOf_markV]
         exact leaves_marks ms w' ho (hr a' hF))
      | exact hq.elim
end Go.Proofs.Ythoafgfcoclkbaa
set_option maxRecDepth 100000
namespace Go.Proofs.Ythoafgfcoclkbaa
open Go.RowKit
def byteVals (l : List Nat) : List Value := l.map fun x : Nat => .int .u8 (x : Int)
theorem byteVals_length (l : List Nat) : (byteVals l).length = l.length := by simp [byteVals]
theorem byteVals_at (l : List Nat) (i : Nat) (h : i < l.length) : (byteVals l)[i]? = some (.int .u8 (l.getD i 0 : Nat)) := by
  simp [byteVals, List.getD, h]
def BytesArg (w : World) (v : Value) (l : List Nat) : Prop :=
  ∃ a cap, v = .slice a l.length cap ∧ l.length ≤ cap ∧ cap ≤ maxLen ∧ (a = none → cap = 0) ∧ (∀ x ∈ l, x < 256) ∧
    (0 < l.length → ∃ b off, a = some ⟨b, off, none⟩ ∧ b < w.heap.size ∧ ∀ i, i < l.length → w.cell? ⟨b, off + i, none⟩ = some (.int .u8 (l.getD i 0 : Nat)))
theorem BytesArg.kept {S : Nat → Prop} {w w' : World} {v : Value} {l : List Nat} (h : BytesArg w v l) (k : Kept S w w') (hs : ∀ i, i < w.heap.size → ¬ S i) : BytesArg w' v l := by
  obtain ⟨a, cap, rfl, h1, h2, h3, hl, hc⟩ := h
  refine ⟨a, cap, rfl, h1, h2, h3, hl, fun hpos => ?_⟩
  obtain ⟨b, off, rfl, hb, hcell⟩ := hc hpos
  exact ⟨b, off, rfl, Nat.lt_of_lt_of_le hb k.size, fun i hi => (World.cell?_of_block (k.block b hb (hs b hb))).trans (hcell i hi)⟩
theorem BytesArg.all {w w' : World} {v : Value} {l : List Nat} (h : BytesArg w v l) (k : Kept (fun _ => False) w w') : BytesArg w' v l := h.kept k (fun _ _ x => x)
theorem BytesArg.nil (w : World) : BytesArg w (.slice none 0 0) [] := ⟨none, 0, rfl, Nat.le_refl _, Nat.zero_le _, fun _ => rfl, by simp, by simp⟩
def Row (w : World) (B : Nat) (v : Value) (l : List Nat) : Prop := w.ownsRow B 5 1 v l.length (byteVals l) ∧ ∀ x ∈ l, x < 256
theorem Row.nil (w : World) (B : Nat) : Row w B (.slice none 0 0) [] := ⟨World.ownsRow_nil w B _ _, by simp⟩
theorem Row.lt {w : World} {B : Nat} {v : Value} {l : List Nat} (h : Row w B v l) : ∀ k, v.ownBlock = some k → B ≤ k ∧ k < w.heap.size := h.1.lt
theorem Row.kept {S : Nat → Prop} {w w' : World} {B : Nat} {v : Value} {l : List Nat} (h : Row w B v l) (k : Kept S w w') (hs : ∀ g, v.ownBlock = some g → ¬ S g) : Row w' B v l := by
  obtain ⟨⟨h0, h1⟩, h2⟩ := h
  refine ⟨⟨h0, ?_⟩, h2⟩
  rcases h1 with hn | ⟨g, cap, cur, rfl, hb, hg, rest⟩
  · exact .inl hn
  · exact .inr ⟨g, cap, cur, rfl, hb, k.at hg (hs g rfl), rest⟩
theorem Row.all {w w' : World} {B : Nat} {v : Value} {l : List Nat} (h : Row w B v l) (k : Kept (fun _ => False) w w') : Row w' B v l := h.kept k (fun _ _ x => x)
theorem Row.base {w : World} {B B' : Nat} {v : Value} {l : List Nat} (h : Row w B v l) (hb : B' ≤ B) : Row w B' v l := by
  obtain ⟨⟨h0, h1⟩, h2⟩ := h
  refine ⟨⟨h0, ?_⟩, h2⟩
  rcases h1 with hn | ⟨g, cap, cur, rfl, hb', rest⟩
  · exact .inl hn
  · exact .inr ⟨g, cap, cur, rfl, by omega, rest⟩
theorem Row.bytes {w : World} {B : Nat} {v : Value} {l : List Nat} (h : Row w B v l) : BytesArg w v l := by
  obtain ⟨h, h256⟩ := h
  rcases h.2 with ⟨rfl, h0⟩ | ⟨g, cap, cur, rfl, hb, hg, hc, hm, hs, ht⟩
  · have hl : l = [] := List.eq_nil_of_length_eq_zero h0
    subst hl; exact BytesArg.nil w
  · refine ⟨some ⟨g, 0, none⟩, cap, rfl, hc, hm, by simp, h256, fun hpos => ⟨g, 0, rfl, lt_of_heap hg, fun i hi => ?_⟩⟩
    rw [Nat.zero_add, h.cellAt i (by omega)]
    exact byteVals_at l i hi
theorem Row.of_new {w : World} {B g : Nat} {l : List Nat} (h : w.heap[g]? = some (.cells (byteVals l).toArray 5 (0, 0))) (hB : B ≤ g) (hm : l.length ≤ maxLen) (h256 : ∀ x ∈ l, x < 256) :
    Row w B (.slice (some ⟨g, 0, none⟩) l.length l.length) l := by
  refine ⟨⟨by rw [byteVals_length]; omega, .inr ⟨g, l.length, _, rfl, hB, h, Nat.le_refl _, hm, by simp [byteVals_length], ?_⟩⟩, h256⟩
  rw [List.take_of_length_le (by simp [byteVals_length])]
theorem BytesArg.box (w : World) (c : Nat) (h : c < 256) : BytesArg (w.alloc (.cells #[.int .u8 (c : Int)] 5)) (.slice (some ⟨w.heap.size, 0, none⟩) 1 1) [c] := by
  refine ⟨_, 1, rfl, Nat.le_refl _, by unfold maxLen; omega, by simp, by simpa using h, fun _ => ⟨w.heap.size, 0, rfl, by simp, fun i hi => ?_⟩⟩
  have hi0 : i = 0 := by simpa using hi
  subst hi0
  simp
def Own (w0 w : World) (v : Value) (l : List Nat) : Prop := Row w w0.heap.size v l ∧ Kept (fun _ => False) w0 w
theorem Own.nil {w0 w : World} (k : Kept (fun _ => False) w0 w) : Own w0 w (.slice none 0 0) [] := ⟨Row.nil w _, k⟩
theorem Own.all {w0 w w' : World} {v : Value} {l : List Nat} (h : Own w0 w v l) (k : Kept (fun _ => False) w w') : Own w0 w' v l := ⟨h.1.all k, h.2.trans k (fun _ _ x => x)⟩
end Go.Proofs.Ythoafgfcoclkbaa
set_option maxRecDepth 100000
namespace Go.Proofs.Ythoafgfcoclkbaa
open Go.RowKit
def Fair (l : List Nat) : Prop := (∀ x ∈ l, x < 256) ∧ l.length < 1099511627776
theorem Fair.getD {l : List Nat} (h : Fair l) (i : Nat) : l.getD i 0 < 256 := by
  rw [List.getD]
  cases hh : l[i]? with
  | none => simp
  | some x => simpa using h.1 x (List.mem_of_getElem? hh)
end Go.Proofs.Ythoafgfcoclkbaa
set_option maxRecDepth 100000
namespace Go.Proofs.Ythoafgfcoclkbaa
open Go.RowKit
def SliceOf (w : World) (v : Value) (l : List Nat) : Prop :=
  ∃ a cap, v = .slice a l.length cap ∧ (0 < l.length → ∃ ad, a = some ad ∧ ∀ j u, (byteVals l)[j]? = some u → w.cell? (ad.add j) = some u)
end Go.Proofs.Ythoafgfcoclkbaa
set_option maxRecDepth 100000
namespace Go.Proofs.Ythoafgfcoclkbaa
open Go.RowKit
theorem Kept.own {S : Nat → Prop} {w w' : World} {o : Obj} (h : Kept S (w.alloc o) w') (hs : ∀ k, k < w.heap.size → ¬ S k) : Kept (fun _ => False) w w' := by
  refine ⟨h.os, h.tape, h.output, ?_, fun k hk _ => ?_⟩
  · have := h.size; simp at this; omega
  · exact (h.block k (by simp; omega) (hs k hk)).trans (Below.heap_alloc w o k hk)
theorem SliceOf.of_new {w : World} {g : Nat} {l : List Nat} (h : w.heap[g]? = some (.cells (byteVals l).toArray 5 (0, 0))) : SliceOf w (.slice (some ⟨g, 0, none⟩) l.length l.length) l := by
  refine ⟨_, _, rfl, fun _ => ⟨⟨g, 0, none⟩, rfl, fun j u hj => ?_⟩⟩
  rw [Addr.add_lit, cell_of_heap h]
  simpa using hj
theorem Kept.all {w w' : World} (h : Kept (fun _ => False) w w') : Below w.heap.size w w' := h.below (Nat.le_refl _) (fun _ _ x => x)
end Go.Proofs.Ythoafgfcoclkbaa
set_option maxRecDepth 100000
namespace Go.Proofs.Ythoafgfcoclkbaa
open Go.RowKit
theorem BytesArg.slice {w : World} {v : Value} {l : List Nat} (h : BytesArg w v l) : SliceOf w v l := by
  obtain ⟨a, cap, rfl, -, -, -, hl, hc⟩ := h
  refine ⟨a, cap, rfl, fun hpos => ?_⟩
  obtain ⟨b, off, rfl, hb, hcell⟩ := hc hpos
  refine ⟨⟨b, off, none⟩, rfl, fun j u hj => ?_⟩
  have hjl : j < l.length := by
    have := (List.getElem?_eq_some_iff.1 hj).1
    rwa [byteVals_length] at this
  rw [Addr.add_lit, hcell j hjl]
  rw [← hj]; simp [byteVals, List.getD, hjl]
end Go.Proofs.Ythoafgfcoclkbaa
set_option maxRecDepth 100000
namespace Go.Proofs.Ythoafgfcoclkbaa
open Go.RowKit
def Byt (w : World) (T : Nat → Prop) (v : Value) (l : List Nat) : Prop := BytesArg w v l ∧ Live w T ∧ (0 < l.length → ∀ a n c, v = .slice (some a) n c → T a.block)
theorem Byt.live {w : World} {T : Nat → Prop} {v : Value} {l : List Nat} (h : Byt w T v l) : Live w T := h.2.1
theorem Byt.all {S : Nat → Prop} {w w' : World} {T : Nat → Prop} {v : Value} {l : List Nat} (h : Byt w T v l) (k : Kept S w w') (ha : Apart T S) : Byt w' T v l := by
  refine ⟨?_, h.2.1.mono k, h.2.2⟩
  obtain ⟨⟨a, cap, rfl, h1, h2, h3, hl, hc⟩, hL, hT⟩ := h
  refine ⟨a, cap, rfl, h1, h2, h3, hl, fun hpos => ?_⟩
  obtain ⟨b, off, rfl, hb, hcell⟩ := hc hpos
  exact ⟨b, off, rfl, Nat.lt_of_lt_of_le hb k.size, fun i hi => (World.cell?_of_block (k.block b hb (ha b (hT hpos _ _ _ rfl)))).trans (hcell i hi)⟩
theorem Byt.new {w : World} {g : Nat} {l : List Nat} (h : w.heap[g]? = some (.cells (byteVals l).toArray 5 (0, 0))) (hm : l.length ≤ maxLen) (h256 : ∀ x ∈ l, x < 256) : Byt w (onB g) (.slice (some ⟨g, 0, none⟩) l.length l.length) l := by
  refine ⟨(Row.of_new (B := 0) h (Nat.zero_le _) hm h256).bytes, onB_live (lt_of_heap h), fun _ a n c e => ?_⟩
  cases e; rfl
theorem Byt.nil (w : World) : Byt w noB (.slice none 0 0) [] := ⟨BytesArg.nil w, fun _ h => h.elim, fun h => absurd h (Nat.lt_irrefl 0)⟩
end Go.Proofs.Ythoafgfcoclkbaa
set_option maxRecDepth 100000
namespace Go.Proofs.Ythoafgfcoclkbaa
open Go.RowKit
theorem Kept.fin {w w' : World} (h : Kept (fun _ => False) w w') : Below w.heap.size w w' := h.below (Nat.le_refl _) (fun _ _ x => x)
theorem BytesArg.cells {w : World} {a : Option Addr} {n cap : Nat} {l : List Nat} (h : BytesArg w (.slice a n cap) l) :
    0 < n → ∃ b off, a = some ⟨b, off, none⟩ ∧ b < w.heap.size ∧ ∀ i, i < n → w.cell? ⟨b, off + i, none⟩ = some (.int .u8 (l.getD i 0 : Nat)) := by
  obtain ⟨a2, cap2, e, _, _, _, _, hc⟩ := h
  cases e; exact hc
theorem BytesArg.shape {w : World} {v : Value} {l : List Nat} (h : BytesArg w v l) : ∃ a cap, v = .slice a l.length cap := by
  obtain ⟨a, cap, rfl, _⟩ := h; exact ⟨a, cap, rfl⟩
theorem Row.shape {w : World} {B : Nat} {v : Value} {l : List Nat} (h : Row w B v l) : ∃ a cap, v = .slice a l.length cap := by
  rcases h.1.2 with ⟨rfl, h0⟩ | ⟨g, cap, cur, rfl, _⟩
  · exact ⟨none, 0, by rw [h0]⟩
  · exact ⟨_, _, rfl⟩
theorem BytesArg.cut {w : World} {a : Option Addr} {len cap : Nat} {l : List Nat} (h : BytesArg w (.slice a len cap) l) (i j cap' : Nat) (hi : i ≤ j) (hj : j ≤ l.length) (hc : j - i ≤ cap') (hm : cap' ≤ maxLen) (a' : Option Addr)
    (ha : 0 < j - i → a' = a.map (·.add i)) (h0 : a' = none → cap' = 0) : BytesArg w (.slice a' (j - i) cap') ((l.drop i).take (j - i)) := by
  obtain ⟨a2, cap2, e, h1, h2, h3, h256, hcell⟩ := h
  cases e
  have hl : ((l.drop i).take (j - i)).length = j - i := by simp; omega
  refine ⟨a', cap', by rw [hl], by rw [hl]; exact hc, hm, h0, fun x hx => h256 x (List.mem_of_mem_drop (List.mem_of_mem_take hx)), fun hpos => ?_⟩
  rw [hl] at hpos
  obtain ⟨b, off, rfl, hb, hx⟩ := hcell (by omega)
  refine ⟨b, off + i, by rw [ha hpos]; simp [Addr.add_lit], hb, fun t ht => ?_⟩
  rw [hl] at ht
  have e1 := hx (i + t) (by omega)
  rw [Nat.add_assoc, e1]
  have ht2 : t < j - i := ht
  simp [List.getD, ht2]
end Go.Proofs.Ythoafgfcoclkbaa
set_option maxRecDepth 100000
namespace Go.Proofs.Ythoafgfcoclkbaa
open Go.RowKit
theorem BytesArg.new (w : World) (l : List Nat) (hl : l.length ≤ maxLen) (h : ∀ x ∈ l, x < 256) : BytesArg (w.alloc (.cells (byteVals l).toArray 5)) (.slice (some ⟨w.heap.size, 0, none⟩) l.length l.length) l :=
  (Row.of_new (B := 0) (heap_alloc_new w _) (Nat.zero_le _) hl h).bytes
theorem y_len {ρ : Operand → Value} {o : Oper} {w : World} {R : Value → World → Prop} {c : Call} {x : Operand} {t e : TypeId} {a : Option Addr} {n cap : Nat} (ho : o.op = .call c) (hc : c.callee = .builtin .len) (hx : c.args = #[x]) (ht : c.argTypes = #[t]) (hu : Try.prog.underlying t = some (.slice e))
    (h1 : ρ x = .slice a n cap) (h : R (.int .i64 (n : Int)) w) : Yields Try.prog ρ o w R := by
  obtain ⟨cl, xs, ts⟩ := c
  simp only at hc hx ht
  subst hc; subst hx; subst ht
  exact y_val (v := .int .i64 (n : Int)) (w' := w) (by simp [execOp, ho, h1, resolve, invoke, builtin, run_underlying hu, Builtin.len_]; rfl) h
def Pd.bytes (l : List Nat) : Pd := ⟨fun v w => BytesArg w v l, fun _ _ _ h k => h.all k⟩
end Go.Proofs.Ythoafgfcoclkbaa
set_option maxRecDepth 100000
namespace Go.Proofs.Ythoafgfcoclkbaa
open Go.RowKit
theorem Kept.setRow {S : Nat → Prop} {a w : World} (h : Kept S a w) (g : Nat) (hg : g < a.heap.size → S g) (c : Array Value) : Kept S a (w.setRow g c) :=
  h.trans (S' := fun k => k = g) ⟨rfl, rfl, rfl, by simp [World.setRow], fun k hk hn => setRow_other _ _ _ _ hn⟩ (fun i hi x => by subst x; exact hg hi)
section
variable {P : Program}
theorem rangeAt_of_heap {w : World} {b : Nat} {c : List Value} {t : TypeId} {f : Nat × Nat} (h : w.heap[b]? = some (.cells c.toArray t f)) : w.rangeAt b 0 c := by
  intro j v hv
  rw [Nat.zero_add, cell_of_heap h]
  simpa using hv
theorem run_loadVar_whole (w : World) (b : Nat) (t ty : TypeId) (cs : Array Value) (fr : Nat × Nat) (d : TypeDesc) (hg : w.heap[b]? = some (.cells cs t fr))
    (hu : P.underlying ty = some d) (hd : d.isRow = true) (hi : (P.info? ty).map (·.size) = some cs.size) : (loadVar ty ⟨b, 0, none⟩).run P w = .ok (.agg cs) w := by
  have e := run_loadVar_mid (P := P) w b 0 ty cs.toList d (rangeAt_of_heap (t := t) (f := fr) (by simpa using hg)) hu hd (by simpa using hi)
  simpa using e
theorem y_store_row {ρ : Operand → Value} {op : Oper} {w : World} {R : Value → World → Prop} (ty : TypeId) (x y : Operand) (ho : op.op = .store ty x y)
    (b : Nat) (old cells : Array Value) (t : TypeId) (hx : ρ x = .pointer (some ⟨b, 0, none⟩)) (hy : ρ y = .agg cells)
    (hg : w.heap[b]? = some (.cells old t (0, 0))) (hs : old.size = cells.size) (hi : (P.info? ty).map (·.size) = some cells.size) (h1 : cells.all (·.oneCell') = true)
    (h : ∀ w', w'.heap[b]? = some (.cells cells t (0, 0)) → Kept (fun k => k = b) w w' → R undef w') : Yields P ρ op w R := by
  unfold Yields execOp
  simp only [ho, hx, hy, Instr.storeAt, Instr.sureAddr, Sem.run_bind, Sem.run_pure, Result.andThen_ok, run_storeVar_row w b t ty old cells hg hi hs h1]
  exact h _ (setRow_heap _ _ _ _ _ _ hg) ((Kept.refl (fun k => k = b) w).setRow b (fun _ => rfl) cells)
theorem y_load_row {ρ : Operand → Value} {o : Oper} {w : World} {R : Value → World → Prop} {ty : TypeId} {x : Operand} (ho : o.op = .load ty x)
    (b : Nat) (hx : ρ x = .pointer (some ⟨b, 0, none⟩)) (cs : Array Value) (t : TypeId) (fr : Nat × Nat) (d : TypeDesc) (hg : w.heap[b]? = some (.cells cs t fr))
    (hu : P.underlying ty = some d) (hd : d.isRow = true) (hi : (P.info? ty).map (·.size) = some cs.size) (h : R (.agg cs) w) : Yields P ρ o w R := by
  have e : (execOp ρ o).run P w = .ok (.value (.agg cs)) w := by
    simp only [execOp, ho, hx, Instr.loadAt, Instr.sureAddr, Sem.run_bind, Sem.run_pure, Result.andThen_ok, run_loadVar_whole w b t ty cs fr d hg hu hd hi]
  unfold Yields; rw [e]; exact h
end
end Go.Proofs.Ythoafgfcoclkbaa
set_option maxRecDepth 100000
namespace Go.Proofs.Ythoafgfcoclkbaa
open Go.RowKit
def arrL (n : Nat) (b : Nat → Int) : List Value := (List.range n).map fun i => .int .i64 (b i)
theorem arrL_length (n : Nat) (b : Nat → Int) : (arrL n b).length = n := by simp [arrL]
theorem arrL_at {n : Nat} {b : Nat → Int} {i : Nat} (h : i < n) : (arrL n b)[i]? = some (.int .i64 (b i)) := by
  unfold arrL
  rw [List.getElem?_map, List.getElem?_range h]; rfl
theorem arrL_congr {n : Nat} {b c : Nat → Int} (h : ∀ i, i < n → b i = c i) : arrL n b = arrL n c := by
  unfold arrL
  apply List.map_congr_left
  intro i hi
  rw [h i (by simpa using hi)]
def upd (b : Nat → Int) (k : Nat) (x : Int) : Nat → Int := fun i => if i = k then x else b i
theorem arrL_set (n : Nat) (b : Nat → Int) (k : Nat) (x : Int) : (arrL n b).toArray.setIfInBounds k (.int .i64 x) = (arrL n (upd b k x)).toArray := by
  rw [List.setIfInBounds_toArray]
  congr 1
  apply List.ext_getElem?
  intro i
  unfold arrL upd
  rw [List.getElem?_set]
  simp only [List.length_map, List.length_range, List.getElem?_map]
  by_cases h : k = i
  · subst h
    by_cases hk : k < n
    · simp [hk]
    · simp [hk]
  · rw [if_neg h]
    by_cases hi : i < n
    · rw [List.getElem?_range hi]
      simp [Ne.symm h]
    · rw [List.getElem?_eq_none (by simp; omega)]; rfl
theorem arrL_zero (n : Nat) : (arrL n (fun _ => 0)).toArray = Array.replicate n (.int .i64 0) := by
  unfold arrL
  apply Array.ext'
  rw [Array.toList_replicate]
  show List.map (fun _ => Value.int .i64 0) (List.range n) = _
  rw [List.map_const', List.length_range]
def Blk (w : World) (p : Nat) (t : TypeId) (b : Nat → Int) : Prop := w.heap[p]? = some (.cells (arrL 16 b).toArray t (0, 0))
theorem Blk.all {w w' : World} {S : Nat → Prop} {p : Nat} {t : TypeId} {b : Nat → Int} (h : Blk w p t b) (k : Kept S w w') (hn : ¬ S p) : Blk w' p t b := k.at h hn
theorem Blk.congr {w : World} {p : Nat} {t : TypeId} {b c : Nat → Int} (h : Blk w p t b) (e : ∀ i, i < 16 → b i = c i) : Blk w p t c := by unfold Blk at *; rw [← arrL_congr e]; exact h
theorem Blk.cell {w : World} {p : Nat} {t : TypeId} {b : Nat → Int} (h : Blk w p t b) {i : Nat} (hi : i < 16) : w.cell? ⟨p, i, none⟩ = some (.int .i64 (b i)) := by
  rw [cell_of_heap h, List.getElem?_toArray]; exact arrL_at hi
theorem Blk.free {w : World} {p : Nat} {t : TypeId} {b : Nat → Int} (h : Blk w p t b) (i : Nat) : w.frozen? ⟨p, i, none⟩ = false := frozen_of_heap h
theorem Blk.lt {w : World} {p : Nat} {t : TypeId} {b : Nat → Int} (h : Blk w p t b) : p < w.heap.size := lt_of_heap h
theorem Blk.set {w : World} {p : Nat} {t : TypeId} {b : Nat → Int} (h : Blk w p t b) (k : Nat) (x : Int) : Blk (w.setCell ⟨p, k, none⟩ (.int .i64 x)) p t (upd b k x) := by
  unfold Blk; rw [heap_setCell_same _ _ _ _ h, arrL_set]
theorem Blk.other {w : World} {p q : Nat} {t : TypeId} {b : Nat → Int} (h : Blk w p t b) (k : Nat) (x : Value) (hq : p ≠ q) : Blk (w.setCell ⟨q, k, none⟩ x) p t b := by
  unfold Blk; rw [heap_setCell_other _ _ _ _ _ hq]; exact h
theorem Blk.new (w : World) (t : TypeId) (b : Nat → Int) : Blk (w.alloc (.cells (arrL 16 b).toArray t)) w.heap.size t b := heap_alloc_new w _
theorem Blk.alloc {w : World} {p : Nat} {t : TypeId} {b : Nat → Int} (h : Blk w p t b) (o : Obj) : Blk (w.alloc o) p t b := (Below.heap_alloc w o p h.lt).trans h
def BlkT (t : TypeId) : Prop := Try.prog.underlying t = some (.array 16 3) ∧ (Try.prog.info? t).map (·.size) = some 16 ∧ (∀ w, (zeroValue t).run Try.prog w = .ok (.agg (arrL 16 (fun _ => 0)).toArray) w)
theorem BlkT.size {t : TypeId} (h : BlkT t) (b : Nat → Int) : (Try.prog.info? t).map (·.size) = some (arrL 16 b).toArray.size := by rw [List.size_toArray, arrL_length]; exact h.2.1
end Go.Proofs.Ythoafgfcoclkbaa
set_option maxRecDepth 100000
namespace Go.Proofs.Ythoafgfcoclkbaa
open Go.RowKit
theorem Blk.ne {w : World} {p q : Nat} {t : TypeId} {b : Nat → Int} (h : Blk w p t b) (e : q = w.heap.size) : p ≠ q := by have := h.lt; omega
end Go.Proofs.Ythoafgfcoclkbaa
set_option maxRecDepth 100000
namespace Go.Proofs.Ythoafgfcoclkbaa
open Go.RowKit
def Cel (w : World) (p : Nat) (t : TypeId) (v : Value) : Prop := w.heap[p]? = some (.cells #[v] t (0, 0))
theorem Cel.all {S : Nat → Prop} {w w' : World} {p : Nat} {t : TypeId} {v : Value} (h : Cel w p t v) (k : Kept S w w') (hn : ¬ S p) : Cel w' p t v := k.at h hn
theorem Cel.lt {w : World} {p : Nat} {t : TypeId} {v : Value} (h : Cel w p t v) : p < w.heap.size := lt_of_heap h
theorem Cel.cell {w : World} {p : Nat} {t : TypeId} {v : Value} (h : Cel w p t v) : w.cell? ⟨p, 0, none⟩ = some v := by rw [cell_of_heap h]; rfl
def oneC : Value → Bool
  | .int _ _ | .bool _ | .pointer _ | .slice _ _ _ | .string _ => true
  | _ => false
def plainD : TypeDesc → Bool
  | .struct _ | .array _ _ => false
  | _ => true
section
variable {ro : Option Nat} {P : Program} {ρ : Operand → Value} {o : Oper} {w : World} {R : Value → World → Prop}
theorem y_ldA {ty : TypeId} {x : Operand} {a : Addr} {v : Value} {d : TypeDesc} (ho : o.op = .load ty x) (hx : ρ x = .pointer (some a)) (hu : P.underlying ty = some d) (hd : plainD d = true) (hc : w.cell? a = some v) (h : R v w) : Yields P ρ o w R := by
  have hA : (isAgg ty).run P w = .ok false w := by
    cases d <;> first | (simp [plainD] at hd; done) | simp [isAgg, run_underlying hu]
  exact y_val (v := v) (w' := w) (by simp [execOp, ho, hx, Instr.loadAt, Instr.sureAddr, loadVar, hA, hc]) h
theorem y_load_cel {ty t : TypeId} {x : Operand} {p : Nat} {v : Value} {d : TypeDesc} (ho : o.op = .load ty x) (hx : ρ x = .pointer (some ⟨p, 0, none⟩)) (hu : P.underlying ty = some d) (hB : Cel w p t v) (hd : plainD d = true := by rfl) (h : R v w) : Yields P ρ o w R := y_ldA ho hx hu hd hB.cell h
theorem y_nilc {x : Operand} {a : Addr} (ho : o.op = .nilCheck x) (hx : ρ x = .pointer (some a)) (h : R (.pointer (some a)) w) : Yields P ρ o w R :=
  y_val (by simp [execOp, ho, hx]) h
theorem y_fieldR {s : TypeId} {x : Operand} {fs : Array Field} {i b off off' n : Nat} {f : Field} (ho : o.op = .fieldAddr s x i) (hx : ρ x = .pointer (some ⟨b, off, none⟩)) (hu : P.underlying s = some (.struct fs)) (hf : fs[i]? = some f) (hs : (P.info? f.type).map (·.size) = some n) (hn : n ≠ 0) (hoff : off + f.offset = off')
    (h : R (.pointer (some ⟨b, off', none⟩)) w) : Yields P ρ o w R := by
  cases hq : P.info? f.type with
  | none => simp [hq] at hs
  | some j =>
    have hs' : j.size = n := by simpa [hq] using hs
    exact y_val (v := .pointer (some ⟨b, off', none⟩)) (w' := w) (by simp [execOp, ho, hx, Instr.fieldAt, run_underlying hu, hf, Instr.sureAddr, fieldPlace, sizeOf, typeInfo, hq, hs', hn, Addr.add_lit, hoff]) h
end
section
variable {ro : Option Nat} {N : Nat} {Q : (Exit → (Nat → Value) → World → Prop)} {F : Nat → Value} {w : World} {o : Oper} {P : Program}
theorem wl_box_cel {ops : Array Oper} {rest : List Oper} {t : TypeId} {x : Operand} {v : Value} (hg : o.guard = none) (hd : fits N o.dst = true) (ho : o.op = .box t x) (hx : ev (cutF N F) x = v) (hv : oneC v = true)
    (h : ∀ p w', Cel w' p t v → Grew w noB (onB p) → Kept (fun _ => False) w w' → wl ro P N ops Q rest (putF F o.dst (.pointer (some ⟨p, 0, none⟩))) w') : wl ro P N ops Q (o :: rest) F w :=
  wl_op hg hd (y_of (v := .pointer (some ⟨w.heap.size, 0, none⟩)) (w' := w.alloc (.cells #[v] t)) (by simp [execOp, ho, hx, go_sem]; cases v <;> first | rfl | (simp [oneC] at hv; done)) (h _ _ (heap_alloc_new w _) (onB_new (Nat.le_refl _)) ((Kept.refl _ _).alloc _)))
theorem wl_alloc_cel {ops : Array Oper} {rest : List Oper} {t : TypeId} {v : Value} (hg : o.guard = none) (hd : fits N o.dst = true) (ho : o.op = .alloc t) (hi : (P.info? t).map (fun i => (i.zero, i.size)) = some (some v, 1)) (hv : oneC v = true)
    (h : ∀ p w', Cel w' p t v → Grew w noB (onB p) → Kept (fun _ => False) w w' → wl ro P N ops Q rest (putF F o.dst (.pointer (some ⟨p, 0, none⟩))) w') : wl ro P N ops Q (o :: rest) F w :=
  wl_op hg hd (y_of (v := .pointer (some ⟨w.heap.size, 0, none⟩)) (w' := w.alloc (.cells #[v] t)) (by simp [execOp, ho, (zero_of_info hi).1, go_sem]; cases v <;> first | rfl | (simp [oneC] at hv; done)) (h _ _ (heap_alloc_new w _) (onB_new (Nat.le_refl _)) ((Kept.refl _ _).alloc _)))
theorem wl_store_cel {ops : Array Oper} {rest : List Oper} {ty t : TypeId} {x y : Operand} {p : Nat} {v v' : Value} (hg : o.guard = none) (hdn : o.dst = none) (ho : o.op = .store ty x y) (hx : ev (cutF N F) x = .pointer (some ⟨p, 0, none⟩)) (hy : ev (cutF N F) y = v') (hB : Cel w p t v) (hv : oneC v' = true)
    (hs : (P.info? ty).map (·.size) = some 1)
    (h : ∀ w', Cel w' p t v' → Kept (fun k => k = p) w w' → wl ro P N ops Q rest F w') : wl ro P N ops Q (o :: rest) F w := by
  have hc := hB.cell
  have hf : w.frozen? ⟨p, 0, none⟩ = false := frozen_of_heap hB
  cases hq : P.info? ty with
  | none => simp [hq] at hs
  | some i =>
    have hs' : i.size = 1 := by simpa [hq] using hs
    refine wl_op hg (by rw [hdn]; rfl) ?_
    have e : (execOp (ev (cutF N F)) o).run P w = .ok .skip (w.setCell ⟨p, 0, none⟩ v') ∨ (execOp (ev (cutF N F)) o).run P w = .ok (.value undef) (w.setCell ⟨p, 0, none⟩ v') := by
      cases v' <;> first | (simp [oneC] at hv; done) | simp [execOp, ho, hx, hy, Instr.storeAt, Instr.sureAddr, storeVar, sizeOf, typeInfo, hq, hs', Value.cells, hc, hf, go_sem]
    have hn : Cel (w.setCell ⟨p, 0, none⟩ v') p t v' := by unfold Cel; rw [heap_setCell_same _ _ _ _ hB]; rfl
    unfold Yields
    rw [hdn]
    rcases e with e | e <;> rw [e] <;> exact h _ hn ((Kept.refl (fun k => k = p) w).setCell ⟨p, 0, none⟩ (fun _ => rfl) _)
end
end Go.Proofs.Ythoafgfcoclkbaa
set_option maxRecDepth 100000
namespace Go.Proofs.Ythoafgfcoclkbaa
open Go.RowKit
theorem up_same (F : Nat → Value) (d : Nat) (v : Value) : up F d v d = v := by
  unfold up
  cases hb : Nat.beq d d with
  | true => rfl
  | false => exact absurd rfl (Nat.ne_of_beq_eq_false hb)
theorem up_other (F : Nat → Value) (d : Nat) (v : Value) {t : Nat} (h : t ≠ d) : up F d v t = F t := by
  unfold up
  cases hb : Nat.beq t d with
  | false => rfl
  | true => exact absurd (Nat.eq_of_beq_eq_true hb) h
theorem Fr.last {N : Nat} {F : Nat → Value} {a : Act} (h : Fr N F a) (v : Value) (ds : List Deferred) (hd : ds = marked v) : Fr N (up F N v) { tmps := a.tmps, defers := ds } := by
  refine ⟨h.size, ?_, fun t ht => ?_⟩
  · show ds = marked (up F N v N)
    rw [up_same, hd]
  · have hlt : t < N := by simpa [Nat.blt_eq] using ht
    show a.tmps.getD t undef = up F N v t
    rw [up_other F N v (Nat.ne_of_lt hlt)]
    exact h.at' t ht
theorem Fr.mark {N : Nat} {F : Nat → Value} {a : Act} (h : Fr N F a) (D : Nat) : Fr N (up F N (markV (D :: marksOf (F N)))) { a with defers := { target := .collected D, args := #[] } :: a.defers } := by
  refine h.last _ _ ?_
  rw [h.defers]
  unfold marked
  rw [marksOf_markV]; rfl
theorem Fr.rounds {N : Nat} : ∀ (l : List (Tmp × Value)) (F : Nat → Value) (a : Act), Fr N F a → (l.all fun p => Nat.blt p.1 N) = true → Fr N (l.foldl (fun F p => up F p.1 p.2) F) { tmps := l.foldl (fun t p => t.setIfInBounds p.1 p.2) a.tmps, defers := a.defers } := by
  intro l
  induction l with
  | nil => intro F a h _; exact h
  | cons p l ih =>
    intro F a h hl
    simp only [List.all_cons, Bool.and_eq_true] at hl
    exact ih (up F p.1 p.2) (a.put (some p.1) p.2) (h.put (d := some p.1) hl.1 p.2) hl.2
def loopF (N : Nat) (F : Nat → Value) (l : List (Tmp × Value)) : Nat → Value := l.foldl (fun F p => up F p.1 p.2) (up F N undef)
section
variable {P : Program} {N : Nat} {Q : (Exit → (Nat → Value) → World → Prop)} {F : Nat → Value} {w : World}
theorem wq_region_y {id : Nat} {os : List Oper} (h : wl (some 0) P N os.toArray Q os F w) : wq none P N (.region id os.toArray false) Q F w := wq_region (l := some 0) h
end
def Jat {α : Type} (w : World) (_U : Nat → Prop) (J : List α → World → Prop) (pre : List α) : Prop := J pre w ∧ AbidesFrom w.heap.size J
theorem Jat.all {α : Type} {w w' : World} {U : Nat → Prop} {J : List α → World → Prop} {pre : List α} (h : Jat w U J pre) (k : Kept (fun _ => False) w w') (_ : Apart U (fun _ => False)) : Jat w' U J pre :=
  ⟨h.2 _ _ _ none h.1 ⟨k.os, k.tape, k.output, k.size, fun i hi _ => k.block i hi id⟩ (fun _ e => by cases e),
   fun s W W' row hs hg hr => h.2 s W W' row hs hg (fun r e => ⟨Nat.le_trans k.size (hr r e).1, (hr r e).2⟩)⟩
theorem Jat.next {α : Type} {w w' : World} {U : Nat → Prop} {J : List α → World → Prop} {pre xs : List α} (h : Jat w U J pre) (hs : w.heap.size ≤ w'.heap.size) (hj : J xs w') : Jat w' U J xs :=
  ⟨hj, fun s W W' row hs' hg hr => h.2 s W W' row hs' hg (fun r e => ⟨Nat.le_trans hs (hr r e).1, (hr r e).2⟩)⟩
def RowNew (B : Nat) (A : World) (row : Option Nat) : Prop := ∀ r, row = some r → B ≤ r ∧ ∃ o : Obj, A.heap[r]? = some o ∧ o.isCells = false
def Cells (A : World) (T : Nat → Prop) : Prop := ∀ i, T i → ∃ o : Obj, A.heap[i]? = some o ∧ o.isCells = true
theorem kept_row {A B : World} {row : Option Nat} (hg : A.grownBy B row) : Kept (fun k => some k = row) A B := ⟨hg.os, hg.tape, hg.output, hg.size, fun k hk hn => hg.block k hk hn⟩
theorem Cells.apart {A : World} {T : Nat → Prop} {row : Option Nat} {n : Nat} (h : Cells A T) (hr : RowNew n A row) : Apart T (fun k => some k = row) := fun i hi e => by
  obtain ⟨o, ho, hc⟩ := h i hi
  obtain ⟨_, o', ho', hc'⟩ := hr i e.symm
  rw [ho] at ho'; cases ho'; rw [hc] at hc'; cases hc'
theorem Kept.row {S : Nat → Prop} {w0 A B : World} {row : Option Nat} {n : Nat} (h : Kept S w0 A) (hg : A.grownBy B row) (hr : RowNew n A row) (hn : w0.heap.size ≤ n) : Kept S w0 B := h.grown hg (fun k e hk => absurd (hr k e).1 (by omega))
theorem cells_of_heap {A : World} {p : Nat} {c : Array Value} {t : TypeId} {z : Nat × Nat} (h : A.heap[p]? = some (.cells c t z)) : Cells A (onB p) := fun i hi => by
  cases hi; exact ⟨_, h, rfl⟩
theorem Blk.cells {w : World} {p : Nat} {t : TypeId} {b : Nat → Int} (h : Blk w p t b) : Cells w (onB p) := cells_of_heap h
theorem Cel.cells {w : World} {p : Nat} {t : TypeId} {v : Value} (h : Cel w p t v) : Cells w (onB p) := cells_of_heap h
theorem Blk.row {A B : World} {row : Option Nat} {n p : Nat} {t : TypeId} {b : Nat → Int} (h : Blk A p t b) (hg : A.grownBy B row) (hr : RowNew n A row) : Blk B p t b := h.all (kept_row hg) (h.cells.apart hr p rfl)
theorem Cel.row {A B : World} {row : Option Nat} {n p : Nat} {t : TypeId} {v : Value} (h : Cel A p t v) (hg : A.grownBy B row) (hr : RowNew n A row) : Cel B p t v := h.all (kept_row hg) (h.cells.apart hr p rfl)
def Mrk (w : World) (D : Nat) : Prop := w.heap[D]? = some (.deferred (some []))
theorem Mrk.all {S : Nat → Prop} {w w' : World} {D : Nat} (h : Mrk w D) (k : Kept S w w') (hn : ¬ S D) : Mrk w' D := k.at h hn
theorem Mrk.lt {w : World} {D : Nat} (h : Mrk w D) : D < w.heap.size := lt_of_heap h
theorem Mrk.apart {w : World} {D : Nat} {T : Nat → Prop} (h : Mrk w D) (hc : Cells w T) : Apart (onB D) T := fun i hi ht => by
  cases hi
  obtain ⟨o, ho, hx⟩ := hc _ ht
  rw [show w.heap[D]? = _ from h] at ho; cases ho; cases hx
theorem kept_shut (w : World) (D : Nat) : Kept (onB D) w (shut [D] w) := (Kept.refl (onB D) w).grown (grownBy_putObj' w D _) (fun k e _ => by cases e; rfl)
theorem Mrk.opens {w : World} {D : Nat} (h : Mrk w D) : Opens [D] w := ⟨h, trivial⟩
section
variable {P : Program} {fn : Func} {N : Nat} {R : Ending → World → Prop} {F : Nat → Value} {w : World}
theorem endm_none {ms : List Nat} (hm : F N = markV ms) (ho : Opens ms w) (h : fn.results = #[]) (hR : R (.returned (.tuple #[])) (shut ms w)) : endM P fn N R .normal F w := ⟨ms, hm, ho, fun _ _ => ⟨_, results_none h _ _ _, hR⟩⟩
theorem endm_none_ret {ms : List Nat} (hm : F N = markV ms) (ho : Opens ms w) (h : fn.results = #[]) (hR : R (.returned (.tuple #[])) (shut ms w)) : endM P fn N R .ret F w := ⟨ms, hm, ho, fun _ _ => ⟨_, results_none h _ _ _, hR⟩⟩
end
end Go.Proofs.Ythoafgfcoclkbaa
set_option maxRecDepth 100000
namespace Go.Proofs.Ythoafgfcoclkbaa
open Go.RowKit
def Stc (w : World) (p : Nat) (t : TypeId) (vs : List Value) : Prop := w.heap[p]? = some (.cells vs.toArray t (0, 0))
theorem Stc.all {S : Nat → Prop} {w w' : World} {p : Nat} {t : TypeId} {vs : List Value} (h : Stc w p t vs) (k : Kept S w w') (hn : ¬ S p) : Stc w' p t vs := k.at h hn
theorem Stc.lt {w : World} {p : Nat} {t : TypeId} {vs : List Value} (h : Stc w p t vs) : p < w.heap.size := lt_of_heap h
theorem Stc.cells {w : World} {p : Nat} {t : TypeId} {vs : List Value} (h : Stc w p t vs) : Cells w (onB p) := cells_of_heap h
theorem Stc.row {A B : World} {row : Option Nat} {n p : Nat} {t : TypeId} {vs : List Value} (h : Stc A p t vs) (hg : A.grownBy B row) (hr : RowNew n A row) : Stc B p t vs := h.all (kept_row hg) (h.cells.apart hr p rfl)
theorem Stc.cell {w : World} {p : Nat} {t : TypeId} {vs : List Value} {i : Nat} {v : Value} (h : Stc w p t vs) (hi : vs[i]? = some v) : w.cell? ⟨p, i, none⟩ = some v := by
  rw [cell_of_heap h]; simpa using hi
theorem Stc.set {w : World} {p : Nat} {t : TypeId} {vs : List Value} (h : Stc w p t vs) (k : Nat) (v : Value) : Stc (w.setCell ⟨p, k, none⟩ v) p t (vs.set k v) := by
  unfold Stc at *
  simp [World.setCell, Array.getElem?_modify, h]
def StcT (P : Program) (ty : TypeId) (n : Nat) : Prop := ∃ d, P.underlying ty = some d ∧ d.isRow = true ∧ (P.info? ty).map (·.size) = some n
def OneAll (vs : List Value) : Prop := ∀ v ∈ vs, v.oneCell' = true
theorem oneN : OneAll [] := fun _ h => by cases h
theorem oneI {v : Value} {vs : List Value} (h : v.oneCell' = true) (k : OneAll vs) : OneAll (v :: vs) := fun x hx => by
  rcases List.mem_cons.1 hx with rfl | hx
  · exact h
  · exact k x hx
theorem Byt.oneC {w : World} {T : Nat → Prop} {v : Value} {l : List Nat} (h : Byt w T v l) : oneC v = true := by
  obtain ⟨⟨a, cap, rfl, _⟩, _⟩ := h; rfl
theorem Byt.one {w : World} {T : Nat → Prop} {v : Value} {l : List Nat} (h : Byt w T v l) : v.oneCell' = true := by
  obtain ⟨⟨a, cap, rfl, _⟩, _⟩ := h; rfl
section
variable {ro : Option Nat} {P : Program} {N : Nat} {Q : (Exit → (Nat → Value) → World → Prop)} {F : Nat → Value} {w : World} {o : Oper}
theorem wl_box_stc {ops : Array Oper} {rest : List Oper} {t : TypeId} {x : Operand} {vs : List Value} (hg : o.guard = none) (hd : fits N o.dst = true) (ho : o.op = .box t x) (hx : ev (cutF N F) x = .agg vs.toArray)
    (h : ∀ p w', Stc w' p t vs → Grew w noB (onB p) → Kept (fun _ => False) w w' → wl ro P N ops Q rest (putF F o.dst (.pointer (some ⟨p, 0, none⟩))) w') : wl ro P N ops Q (o :: rest) F w :=
  wl_op hg hd (y_of (v := .pointer (some ⟨w.heap.size, 0, none⟩)) (w' := w.alloc (.cells vs.toArray t)) (by simp [execOp, ho, hx, go_sem]) (h _ _ (heap_alloc_new w _) (onB_new (Nat.le_refl _)) ((Kept.refl _ _).alloc _)))
theorem wl_alloc_stc {ops : Array Oper} {rest : List Oper} {t : TypeId} {n : Nat} {vs : List Value} (hg : o.guard = none) (hd : fits N o.dst = true) (ho : o.op = .alloc t) (hi : (P.info? t).map (fun i => (i.zero, i.size)) = some (some (.agg vs.toArray), n))
    (h : ∀ p w', Stc w' p t vs → Grew w noB (onB p) → Kept (fun _ => False) w w' → wl ro P N ops Q rest (putF F o.dst (.pointer (some ⟨p, 0, none⟩))) w') : wl ro P N ops Q (o :: rest) F w :=
  wl_op hg hd (y_of (v := .pointer (some ⟨w.heap.size, 0, none⟩)) (w' := w.alloc (.cells vs.toArray t)) (by simp [execOp, ho, (zero_of_info hi).1, go_sem]) (h _ _ (heap_alloc_new w _) (onB_new (Nat.le_refl _)) ((Kept.refl _ _).alloc _)))
theorem wl_store_stc {ops : Array Oper} {rest : List Oper} {ty t : TypeId} {x y : Operand} {p : Nat} {vs us : List Value} (hT : StcT P ty us.length) (hg : o.guard = none) (hdn : o.dst = none) (ho : o.op = .store ty x y) (hx : ev (cutF N F) x = .pointer (some ⟨p, 0, none⟩)) (hy : ev (cutF N F) y = .agg us.toArray) (hB : Stc w p t vs) (hl : vs.length = us.length) (h1 : OneAll us)
    (h : ∀ w', Stc w' p t us → Kept (fun k => k = p) w w' → wl ro P N ops Q rest F w') : wl ro P N ops Q (o :: rest) F w := by
  obtain ⟨d, _, _, hsz⟩ := hT
  refine wl_op hg (by rw [hdn]; rfl) (y_store_row ty x y ho p _ us.toArray t hx hy hB (by simpa using hl) (by rw [List.size_toArray]; exact hsz) (all_oneCell_toArray h1) fun w' hw hk => ?_)
  rw [hdn]
  exact h w' hw hk
end
section
variable {P : Program} {ρ : Operand → Value} {o : Oper} {w : World} {R : Value → World → Prop}
theorem y_load_stc {ty t : TypeId} {x : Operand} {p : Nat} {vs : List Value} (hT : StcT P ty vs.length) (ho : o.op = .load ty x) (hx : ρ x = .pointer (some ⟨p, 0, none⟩)) (hB : Stc w p t vs) (h : R (.agg vs.toArray) w) : Yields P ρ o w R := by
  obtain ⟨d, hu, hd, hs⟩ := hT
  exact y_load_row ho p hx _ t (0, 0) d hB hu hd (by rw [List.size_toArray]; exact hs) h
theorem y_ld_stc {ty t : TypeId} {x : Operand} {p k : Nat} {vs : List Value} {v : Value} {d : TypeDesc} (ho : o.op = .load ty x) (hx : ρ x = .pointer (some ⟨p, k, none⟩)) (hu : P.underlying ty = some d) (hB : Stc w p t vs) (hk : vs[k]? = some v) (hd : plainD d = true) (h : R v w) : Yields P ρ o w R := y_ldA ho hx hu hd (hB.cell hk) h
end
end Go.Proofs.Ythoafgfcoclkbaa
set_option maxRecDepth 100000
namespace Go.Proofs.Ythoafgfcoclkbaa
open Go.RowKit
def upL (L : Nat → Bool) (i : Nat) : Nat → Bool := fun j => if j = i then true else L j
def upV (v : Nat → Value) (i : Nat) (x : Value) : Nat → Value := fun j => if j = i then x else v j
def late (os : List Oper) (t : Tmp) (i : Nat) : Bool := os.all fun o => o.dst != some t || o.after.toList.any fun e => Region.binds .any e && e.on == i
def StepJ (os : List Oper) (P : Program) (D : List (Option Tmp)) (J : (Nat → Bool) → (Nat → Value) → World → Prop) (a0 : Act) (i : Nat) (o : Oper) : Prop :=
  ∀ (L : Nat → Bool) (v : Nat → Value) (a : Act) (w : World), J L v w → L i = false → (∀ e ∈ o.after.toList, Region.binds .any e = true → L e.on = true) →
    (∀ t, some t ∉ D → a.eval (.tmp t) = a0.eval (.tmp t)) → (∀ j d, L j = true → D[j]? = some (some d) → a.eval (.tmp d) = v j) → (∀ t, late os t i = true → a.eval (.tmp t) = a0.eval (.tmp t)) →
    (goes D o a = true → Yields P a.eval o w (fun x w' => J (upL L i) (upV v i x) w')) ∧ (goes D o a = false → J (upL L i) (upV v i undef) w)
def StepsJ (os : List Oper) (P : Program) (D : List (Option Tmp)) (J : (Nat → Bool) → (Nat → Value) → World → Prop) (a0 : Act) : Nat → List Oper → Prop
  | _, [] => True
  | i, o :: r => StepJ os P D J a0 i o ∧ StepsJ os P D J a0 (i + 1) r
theorem StepsJ.at {all : List Oper} {P : Program} {D : List (Option Tmp)} {J : (Nat → Bool) → (Nat → Value) → World → Prop} {a0 : Act} : ∀ {i : Nat} {os : List Oper}, StepsJ all P D J a0 i os → ∀ k o, os[k]? = some o → StepJ all P D J a0 (i + k) o := by
  intro i os
  induction os generalizing i with
  | nil => intro _ k o h; simp at h
  | cons x r ih =>
    intro h k o hk
    cases k with
    | zero => simp at hk; subst hk; exact h.1
    | succ k =>
      simp at hk
      have := ih h.2 k o hk
      rwa [show i + 1 + k = i + (k + 1) by omega] at this
structure MidJ (ops : Array Oper) (D : List (Option Tmp)) (J : (Nat → Bool) → (Nat → Value) → World → Prop) (a0 : Act) (v : Nat → Value) (listed : Array Bool) (a : Act) (w : World) : Prop where
  size : a.tmps.size = a0.tmps.size
  ls : listed.size = ops.size
  defers : a.defers = a0.defers
  out : ∀ t, (∀ j, listed.getD j false = true → D[j]? ≠ some (some t)) → a.tmps.getD t undef = a0.tmps.getD t undef
  here : ∀ j d, listed.getD j false = true → D[j]? = some (some d) → a.tmps.getD d undef = v j
  good : J (fun j => listed.getD j false) v w
  cl : ∀ (k : Nat) (o : Oper), ops[k]? = some o → listed.getD k false = true → ∀ e ∈ o.after.toList, Region.binds .any e = true → listed.getD e.on false = true
theorem wpAny_inv {P : Program} {ops : Array Oper} {Q : Exit → Act → World → Prop} {a0 : Act} (D : List (Option Tmp)) (J : (Nat → Bool) → (Nat → Value) → World → Prop)
    (hpl : plain a0.tmps.size 0 D ops.toList = true) (hsteps : StepsJ ops.toList P D J a0 0 ops.toList)
    (hend : ∀ (L : Nat → Bool) (v : Nat → Value) (w : World), J L v w → (∀ i, i < ops.size → L i = true) → Q .normal (putAll v 0 D a0) w) :
    ∀ (fuel : Nat) (listed : Array Bool) (v : Nat → Value) (a : Act) (w : World), MidJ ops D J a0 v listed a w → (fuel = 0 → Region.ready .any ops listed = []) →
      (List.range ops.size).countP (fun i => !listed.getD i false) ≤ fuel → wpAny P .any ops Q fuel listed a w := by
  obtain ⟨hDl, hpa⟩ := plain_at hpl
  have hlen : D.length = ops.size := by simpa using hDl
  have hback : ∀ (k : Nat) (o : Oper), ops[k]? = some o → ∀ e ∈ o.after.toList, Region.binds .any e = true → e.on < k := by
    intro k o hk e he hb
    have := (hpa k o (by simpa using hk)).2.2 e he hb
    omega
  have fin : ∀ (listed : Array Bool) (v : Nat → Value) (a : Act) (w : World), MidJ ops D J a0 v listed a w → Region.ready .any ops listed = [] → Q .normal a w := by
    intro listed v a w hm hr
    have hall := all_listed hback hr hm.ls
    have hp := putAll_frame v D 0 a0
    have ha : a = putAll v 0 D a0 := by
      have ht : a.tmps = (putAll v 0 D a0).tmps := by
        apply Array.ext
        · rw [hm.size, hp.1]
        · intro t h1 h2
          have e : a.tmps.getD t undef = (putAll v 0 D a0).tmps.getD t undef := by
            by_cases hmem : some t ∈ D
            · obtain ⟨j, hj⟩ := List.mem_iff_getElem?.1 hmem
              have hjs : j < ops.size := by rw [← hlen]; exact (List.getElem?_eq_some_iff.1 hj).1
              obtain ⟨g1, g2, _⟩ := hpa j ops[j] (by simp [hjs])
              have hdst : ops[j].dst = some t := by rw [hj] at g1; exact (Option.some.inj g1).symm
              obtain ⟨k1, k2⟩ := g2 t hdst
              rw [hm.here j t (hall j hjs) hj, hp.2.2.2 j t hj k2 k1, Nat.zero_add]
            · rw [hp.2.2.1 t hmem, hm.out t (fun j _ hj => hmem (List.mem_of_getElem? hj))]
          simpa [Array.getD_eq_getD_getElem?, h1, h2] using e
      have hd : a.defers = (putAll v 0 D a0).defers := by rw [hm.defers, hp.2.1]
      cases a
      cases hq : putAll v 0 D a0
      rw [hq] at ht hd
      simp only at ht hd
      rw [ht, hd]
    rw [ha]
    exact hend _ v w hm.good hall
  intro fuel
  induction fuel with
  | zero =>
    intro listed v a w hm h0 _
    exact ⟨h0 rfl, fin listed v a w hm (h0 rfl)⟩
  | succ fuel ih =>
    intro listed v a w hm _ hcount
    refine ⟨fin listed v a w hm, fun i hi => ?_⟩
    obtain ⟨hlt, hnl, o, ho, haft⟩ := mem_ready hi
    have hlsz : i < listed.size := by rw [hm.ls]; exact hlt
    have hnl' : listed.getD i false = false := by simpa [Array.getD, hlsz] using hnl
    obtain ⟨g1, g2, g3⟩ := hpa i o (by simpa using ho)
    have hstep := hsteps.at i o (by simpa using ho)
    rw [Nat.zero_add] at hstep
    have hout : ∀ t, some t ∉ D → a.eval (.tmp t) = a0.eval (.tmp t) := fun t ht => hm.out t (fun j _ hj => ht (List.mem_of_getElem? hj))
    have hlate : ∀ t, late ops.toList t i = true → a.eval (.tmp t) = a0.eval (.tmp t) := by
      intro t ht
      refine hm.out t fun j hj hD => ?_
      have hjs : j < ops.size := by rw [← hlen]; exact (List.getElem?_eq_some_iff.1 hD).1
      obtain ⟨k1, _, _⟩ := hpa j ops[j] (by simp [hjs])
      have hdst : ops[j].dst = some t := by rw [hD] at k1; exact (Option.some.inj k1).symm
      unfold late at ht
      have h1 := List.all_eq_true.1 ht ops[j] (by simp)
      simp only [hdst, bne_self_eq_false, Bool.false_or] at h1
      obtain ⟨e, he, hb⟩ := List.any_eq_true.1 h1
      simp only [Bool.and_eq_true, beq_iff_eq] at hb
      have h2 := hm.cl j ops[j] (by simp [hjs]) hj e he hb.1
      rw [hb.2, hnl'] at h2
      cases h2
    obtain ⟨s1, s2⟩ := hstep (fun j => listed.getD j false) v a w hm.good hnl' haft hout (fun j d hj hD => hm.here j d hj hD) hlate
    -- what is left when it answers x in the world w'
    have next : ∀ (x : Value) (w' : World), J (upL (fun j => listed.getD j false) i) (upV v i x) w' → wpAny P .any ops Q fuel (listed.setIfInBounds i true) (a.put o.dst x) w' := by
      intro x w' hJ
      have hcnt : (List.range ops.size).countP (fun j => !(listed.setIfInBounds i true).getD j false) ≤ fuel := by
        have h1 : (List.range ops.size).countP (fun j => !(listed.setIfInBounds i true).getD j false) < (List.range ops.size).countP (fun j => !listed.getD j false) := by
          have hmemi : i ∈ List.range ops.size := by simpa using hlt
          have key : ∀ (l : List Nat), i ∈ l → (∀ j, (!(listed.setIfInBounds i true).getD j false) = true → (!listed.getD j false) = true) → l.countP (fun j => !(listed.setIfInBounds i true).getD j false) < l.countP (fun j => !listed.getD j false) := by
            intro l
            induction l with
            | nil => intro h; cases h
            | cons y r ihl =>
              intro hy himp
              have hle : r.countP (fun j => !(listed.setIfInBounds i true).getD j false) ≤ r.countP (fun j => !listed.getD j false) := List.countP_mono_left fun j _ hj => himp j hj
              by_cases hyi : y = i
              · subst hyi
                have e1 : (!(listed.setIfInBounds y true).getD y false) = false := by rw [getD_set_true _ _ _ hlsz, if_pos rfl]; rfl
                have e2 : (!listed.getD y false) = true := by rw [hnl']; rfl
                rw [List.countP_cons, List.countP_cons]
                simp only [e1, e2, if_true, Bool.false_eq_true, if_false]
                omega
              · have hir : i ∈ r := by
                  rcases List.mem_cons.1 hy with h | h
                  · exact absurd h.symm hyi
                  · exact h
                have := ihl hir himp
                rw [List.countP_cons, List.countP_cons]
                have e3 : (listed.setIfInBounds i true).getD y false = listed.getD y false := by rw [getD_set_true _ _ _ hlsz, if_neg hyi]
                rw [e3]; omega
          refine key _ hmemi fun j hj => ?_
          rw [getD_set_true _ _ _ hlsz] at hj
          by_cases hji : j = i
          · rw [if_pos hji] at hj; cases hj
          · rwa [if_neg hji] at hj
        omega
      have hmid : MidJ ops D J a0 (upV v i x) (listed.setIfInBounds i true) (a.put o.dst x) w' := by
        refine ⟨?_, by simpa using hm.ls, ?_, ?_, ?_, ?_, ?_⟩
        · rw [← hm.size]; cases o.dst <;> simp [Act.put]
        · rw [← hm.defers]; cases o.dst <;> rfl
        · intro t ht
          have hold := hm.out t (fun j hj => ht j (by rw [getD_set_true _ _ _ hlsz]; split <;> first | rfl | exact hj))
          have hne : o.dst ≠ some t := by
            intro e
            exact ht i (by rw [getD_set_true _ _ _ hlsz, if_pos rfl]) (by rw [g1, e])
          rw [← hold]
          cases hd : o.dst with
          | none => rfl
          | some d =>
            have : d ≠ t := fun e => hne (by rw [hd, e])
            simp only [Act.put, Array.getD_eq_getD_getElem?, Array.getElem?_setIfInBounds_ne this]
        · intro j d hj hD
          by_cases hji : j = i
          · subst hji
            have hd : o.dst = some d := by rw [g1] at hD; exact Option.some.inj hD
            have hsz : d < a.tmps.size := by rw [hm.size]; exact (g2 d hd).1
            simp [hd, Act.put, Array.getD_eq_getD_getElem?, hsz, upV]
          · rw [getD_set_true _ _ _ hlsz, if_neg hji] at hj
            have hold := hm.here j d hj hD
            rw [show upV v i x j = v j from if_neg hji, ← hold]
            cases hd : o.dst with
            | none => rfl
            | some y =>
              have hne : y ≠ d := by
                rintro rfl
                rw [hd] at g1
                rcases Nat.lt_or_gt_of_ne hji with hlt2 | hgt2
                · have hjs : j < ops.size := by rw [← hlen]; exact (List.getElem?_eq_some_iff.1 hD).1
                  obtain ⟨k1, k2, _⟩ := hpa j ops[j] (by simp [hjs])
                  have hdst : ops[j].dst = some y := by rw [hD] at k1; exact (Option.some.inj k1).symm
                  exact (k2 y hdst).2 i hlt2 g1
                · exact (g2 y hd).2 j hgt2 hD
              simp only [Act.put, Array.getD_eq_getD_getElem?, Array.getElem?_setIfInBounds_ne hne]
        · have e : (fun j => (listed.setIfInBounds i true).getD j false) = upL (fun j => listed.getD j false) i := by
            funext j; exact getD_set_true _ _ _ hlsz
          rw [e]; exact hJ
        · intro k o' hk hl e he hb
          rw [getD_set_true _ _ _ hlsz] at hl ⊢
          by_cases hee : e.on = i
          · rw [if_pos hee]
          · rw [if_neg hee]
            by_cases hki : k = i
            · subst hki
              rw [ho] at hk
              cases hk
              exact haft e he hb
            · rw [if_neg hki] at hl
              exact hm.cl k o' hk hl e he hb
      refine ih _ _ _ _ hmid ?_ hcnt
      intro hz
      subst hz
      have hz0 : (List.range ops.size).countP (fun j => !(listed.setIfInBounds i true).getD j false) = 0 := by omega
      rw [List.countP_eq_zero] at hz0
      cases hr : Region.ready .any ops (listed.setIfInBounds i true) with
      | nil => rfl
      | cons y r =>
        have hy : y ∈ Region.ready .any ops (listed.setIfInBounds i true) := by rw [hr]; simp
        obtain ⟨q1, q2, _⟩ := mem_ready hy
        have := hz0 y (by simpa using q1)
        have hys : y < (listed.setIfInBounds i true).size := by simp [hm.ls]; exact q1
        have q3 : (listed.setIfInBounds i true).getD y false = false := by rw [← getD_same _ y hys]; exact q2
        rw [q3] at this
        exact absurd rfl this
    have hwant : Region.wanted o (yielded ops a.tmps) = goes D o a := by
      unfold Region.wanted goes
      cases hg : o.guard with
      | none => rfl
      | some p =>
        obtain ⟨j, want⟩ := p
        simp only [yielded]
        by_cases hj : j < ops.size
        · obtain ⟨k1, k2, _⟩ := hpa j ops[j] (by simp [hj])
          have hDj : D.getD j none = ops[j].dst := by simp [List.getD, k1]
          rw [hDj]
          simp only [Array.getElem?_eq_getElem hj, Option.bind_some]
          cases hd : ops[j].dst with
          | none => simp
          | some d =>
            have hsz : d < a.tmps.size := by rw [hm.size]; exact (k2 d hd).1
            simp only [Option.bind_some, Array.getElem?_eq_getElem hsz]
            have he : a.eval (.tmp d) = a.tmps[d] := by simp [Act.eval, Array.getD, hsz]
            rw [he]
            cases a.tmps[d] <;> simp
        · have hDj : D.getD j none = none := by simp [List.getD, List.getElem?_eq_none (show D.length ≤ j by omega)]
          rw [hDj]
          simp [Array.getElem?_eq_none (show ops.size ≤ j by omega)]
    unfold wpOp
    rw [ho]
    simp only [hwant]
    cases hgo : goes D o a with
    | true =>
      simp only [if_true]
      refine .inl (Yields.wp ?_)
      have := s1 hgo
      revert this
      unfold Yields
      generalize (execOp a.eval o).run P w = res
      intro h
      cases res with
      | ok n w' =>
        cases n <;> simp only at h ⊢ <;> first
          | exact next _ _ h
          | exact h.elim
          | exact Calls.mono h (fun e w'' ⟨y, he, hk⟩ => ⟨y, he, next _ _ hk⟩)
      | halt y w' => exact h.elim
    | false =>
      simp only [Bool.false_eq_true, if_false]
      exact next undef w (s2 hgo)
theorem wp_region_inv {P : Program} {id : Nat} {ops : Array Oper} {Q : Exit → Act → World → Prop} {a0 : Act} {w0 : World} (D : List (Option Tmp)) (J : (Nat → Bool) → (Nat → Value) → World → Prop)
    (hm : P.follows .mixedOrders = true) (hpl : plain a0.tmps.size 0 D ops.toList = true) (h0 : J (fun _ => false) (fun _ => undef) w0.drew) (hsteps : StepsJ ops.toList P D J a0 0 ops.toList)
    (hend : ∀ (L : Nat → Bool) (v : Nat → Value) (w : World), J L v w → (∀ i, i < ops.size → L i = true) → Q .normal (putAll v 0 D a0) w) : (Code.region id ops true).wp P Q a0 w0 := by
  refine wp_region_any hm ?_
  have hno : ∀ j, (Array.replicate ops.size false).getD j false = false := by
    intro j
    by_cases h : j < ops.size <;> simp [Array.getD, h]
  refine wpAny_inv D J hpl hsteps hend ops.size _ (fun _ => undef) a0 _ ⟨rfl, by simp, rfl, fun _ _ => rfl, fun j _ hj => ?_, ?_, fun k _ _ hl => ?_⟩ ?_ ?_
  · rw [hno] at hj; cases hj
  · have e : (fun j => (Array.replicate ops.size false).getD j false) = fun _ => false := funext hno
    rw [e]; exact h0
  · rw [hno] at hl; cases hl
  · intro h0
    cases hr : Region.ready .any ops (Array.replicate ops.size false) with
    | nil => rfl
    | cons y r =>
      have hy : y ∈ Region.ready .any ops (Array.replicate ops.size false) := by rw [hr]; simp
      have := (mem_ready hy).1
      omega
  · exact Nat.le_trans (List.countP_le_length) (by simp)
end Go.Proofs.Ythoafgfcoclkbaa
set_option maxRecDepth 100000
namespace Go.Proofs.Ythoafgfcoclkbaa
open Go.RowKit
def hold (L : Nat → Bool) (v : Nat → Value) (C : Nat → List Nat) (vI : Value) (lI : List Nat) : List Nat → Value × List Nat
  | [] => (vI, lI)
  | x :: r => if L x = true then (v x, C x) else hold L v C vI lI r
def Closed (L : Nat → Bool) : List Nat → Prop
  | [] => True
  | [_] => True
  | y :: x :: r => (L y = true → L x = true) ∧ Closed L (x :: r)
theorem Closed.later {L : Nat → Bool} : ∀ {ys : List Nat} {x : Nat} {r : List Nat}, Closed L (ys ++ x :: r) → L x = false → ∀ y ∈ ys, L y = false := by
  intro ys
  induction ys with
  | nil => intro x r _ _ y hy; cases hy
  | cons z zs ih =>
    intro x r h hx y hy
    have hrec : Closed L (zs ++ x :: r) := by
      cases zs with
      | nil => exact h.2
      | cons z' zs' => exact h.2
    have hzs := ih hrec hx
    rcases List.mem_cons.1 hy with rfl | hy
    · cases hz : L y with
      | false => rfl
      | true =>
        cases zs with
        | nil => have := h.1 hz; rw [hx] at this; cases this
        | cons z' zs' => have := h.1 hz; rw [hzs z' (by simp)] at this; cases this
    · exact hzs y hy
theorem hold_later {L : Nat → Bool} {v : Nat → Value} {C : Nat → List Nat} {vI : Value} {lI : List Nat} : ∀ {ys r : List Nat}, (∀ y ∈ ys, L y = false) → hold L v C vI lI (ys ++ r) = hold L v C vI lI r := by
  intro ys
  induction ys with
  | nil => intro r _; rfl
  | cons z zs ih =>
    intro r h
    simp only [List.cons_append, hold]
    rw [if_neg (by rw [h z (by simp)]; decide)]
    exact ih (fun y hy => h y (by simp [hy]))
theorem Closed.up {L : Nat → Bool} : ∀ {X : List Nat} {i : Nat}, Closed L X → (∀ ys x r, X = ys ++ i :: x :: r → L x = true) → Closed (upL L i) X := by
  intro X
  induction X with
  | nil => intro i _ _; exact trivial
  | cons y r ih =>
    intro i h hp
    cases r with
    | nil => exact trivial
    | cons x r =>
      refine ⟨fun hy => ?_, ih h.2 fun ys x' r' e => hp (y :: ys) x' r' (by rw [e]; rfl)⟩
      unfold upL at hy ⊢
      by_cases hx : x = i
      · rw [if_pos hx]
      · rw [if_neg hx]
        by_cases hyi : y = i
        · subst hyi; exact hp [] x r rfl
        · rw [if_neg hyi] at hy; exact h.1 hy
theorem Closed.up_other {L : Nat → Bool} {X : List Nat} {i : Nat} (h : Closed L X) (hi : i ∉ X) : Closed (upL L i) X :=
  h.up fun ys x r e => absurd (by rw [e]; simp) hi
theorem hold_up_other {L : Nat → Bool} {v : Nat → Value} {C : Nat → List Nat} {vI : Value} {lI : List Nat} {i : Nat} {x : Value} : ∀ {X : List Nat}, i ∉ X → hold (upL L i) (upV v i x) C vI lI X = hold L v C vI lI X := by
  intro X
  induction X with
  | nil => intro _; rfl
  | cons y r ih =>
    intro hi
    have hy : y ≠ i := fun e => hi (by simp [e])
    simp only [hold]
    rw [show upL L i y = L y from if_neg hy, show upV v i x y = v y from if_neg hy, ih (fun h => hi (by simp [h]))]
def OwnJ (w0 : World) (S0 : Nat → Prop) (B : Nat) (vI : Value) (lI : List Nat) (X : List Nat) (C : Nat → List Nat) (G : Nat → Value → World → Prop) (L : Nat → Bool) (v : Nat → Value) (w : World) : Prop :=
  ∃ S : Nat → Prop, (∀ k, S k → k < w.heap.size) ∧ (∀ k, S k → S0 k ∨ w0.heap.size ≤ k) ∧ Kept S w0 w ∧ Closed L X ∧ (∀ j, L j = true → ∀ w', Kept S w w' → G j (v j) w') ∧
    Row w B (hold L v C vI lI X).1 (hold L v C vI lI X).2 ∧ (∀ g, (hold L v C vI lI X).1.ownBlock = some g → S g)
theorem StepJ.other {os : List Oper} {P : Program} {D : List (Option Tmp)} {w0 : World} {S0 : Nat → Prop} {B : Nat} {vI : Value} {lI X : List Nat} {C : Nat → List Nat} {G : Nat → Value → World → Prop} {a0 : Act} {i : Nat} {o : Oper} (hi : i ∉ X)
    (h : ∀ (S : Nat → Prop) (a : Act) (w : World), (∀ k, S k → k < w.heap.size) → (∀ w', Kept S w w' → Kept S0 w0 w') → (∀ t, some t ∉ D → a.eval (.tmp t) = a0.eval (.tmp t)) → (∀ t, late os t i = true → a.eval (.tmp t) = a0.eval (.tmp t)) →
      Deps D (fun j x w => ∀ w', Kept S w w' → G j x w') a w o.after.toList → (∀ x, X.head? = some x → ∀ e ∈ o.after.toList, e.on = x → Region.binds .any e = true → ∀ d, D.getD x none = some d → Row w B (a.eval (.tmp d)) (C x)) →
      (goes D o a = true → Yields P a.eval o w (fun x w' => (∀ w'', Kept S w' w'' → G i x w'') ∧ Kept (fun _ => False) w w')) ∧ (goes D o a = false → ∀ w', Kept S w w' → G i undef w')) :
    StepJ os P D (OwnJ w0 S0 B vI lI X C G) a0 i o := by
  intro L v a w ⟨S, hlt, h0, hk, hcl, hg, hrow, hown⟩ hli hedges hout hhere hlate
  have hR : ∀ w', Kept S w w' → Kept S0 w0 w' := fun w' k => (hk.trans k (fun _ _ x => x)).mono (fun b hb hS => by
    rcases h0 b hS with h | h
    · exact h
    · omega)
  have hdeps : Deps D (fun j x w => ∀ w', Kept S w w' → G j x w') a w o.after.toList := Deps.mk fun e he hb d hd => by
    have hL := hedges e he hb
    have hDe : D[e.on]? = some (some d) := by
      cases hx : D[e.on]? with
      | none => simp [List.getD, hx] at hd
      | some y => simp [List.getD, hx] at hd; rw [hd]
    rw [hhere e.on d hL hDe]
    exact hg e.on hL
  have hr : ∀ x, X.head? = some x → ∀ e ∈ o.after.toList, e.on = x → Region.binds .any e = true → ∀ d, D.getD x none = some d → Row w B (a.eval (.tmp d)) (C x) := by
    intro x hx e he hex hb d hd
    subst hex
    have hL := hedges e he hb
    have hDe : D[e.on]? = some (some d) := by
      cases hx : D[e.on]? with
      | none => simp [List.getD, hx] at hd
      | some y => simp [List.getD, hx] at hd; rw [hd]
    rw [hhere e.on d hL hDe]
    cases X with
    | nil => cases hx
    | cons y r =>
      simp at hx
      subst hx
      simpa [hold, hL] using hrow
  obtain ⟨s1, s2⟩ := h S a w hlt hR hout hlate hdeps hr
  have fin : ∀ (x : Value) (w' : World), (∀ w'', Kept S w' w'' → G i x w'') → Kept (fun _ => False) w w' → OwnJ w0 S0 B vI lI X C G (upL L i) (upV v i x) w' := by
    intro x w' hG hkk
    refine ⟨S, fun k hS => Nat.lt_of_lt_of_le (hlt k hS) hkk.size, h0, hk.trans hkk (fun _ _ f => f.elim), hcl.up_other hi, fun j hj w'' k => ?_, ?_, ?_⟩
    · by_cases hji : j = i
      · subst hji; rw [show upV v j x j = x from if_pos rfl]; exact hG w'' k
      · rw [show upL L i j = L j from if_neg hji] at hj
        rw [show upV v i x j = v j from if_neg hji]
        exact hg j hj w'' ((hkk.mono (S' := S) (fun _ _ f => f.elim)).trans k (fun _ _ f => f))
    · rw [hold_up_other hi]; exact hrow.all hkk
    · rw [hold_up_other hi]; exact hown
  refine ⟨fun hgo => ?_, fun hgo => fin undef w (s2 hgo) (Kept.refl _ _)⟩
  have := s1 hgo
  revert this
  unfold Yields
  generalize (execOp a.eval o).run P w = r
  intro hh
  cases r with
  | ok n w' =>
    cases n <;> simp only at hh ⊢ <;> first
      | exact fin _ _ hh.1 hh.2
      | exact hh.elim
      | exact Calls.mono hh (fun e w'' ⟨y, he, hk⟩ => ⟨y, he, fin _ _ hk.1 hk.2⟩)
  | halt x w' => exact hh.elim
def Prev (D : List (Option Tmp)) (C : Nat → List Nat) (vI : Value) (lI : List Nat) (a : Act) (p : Value) (lp : List Nat) : List Nat → Prop
  | [] => p = vI ∧ lp = lI
  | x :: _ => lp = C x ∧ ∀ d, D.getD x none = some d → p = a.eval (.tmp d)
theorem StepJ.own {os : List Oper} {P : Program} {D : List (Option Tmp)} {w0 : World} {S0 : Nat → Prop} {B : Nat} {vI : Value} {lI X : List Nat} {C : Nat → List Nat} {G : Nat → Value → World → Prop} {a0 : Act} {i : Nat} {o : Oper} (ys r : List Nat) (hX : X = ys ++ i :: r) (hnd : i ∉ ys ∧ i ∉ r)
    (hr : ∀ x, r.head? = some x → ∃ e ∈ o.after.toList, e.on = x ∧ Region.binds .any e = true ∧ ∃ d, D.getD x none = some d) (hG : ∀ x w, G i x w)
    (h : ∀ (S : Nat → Prop) (a : Act) (w : World), (∀ k, S k → k < w.heap.size) → (∀ w', Kept S w w' → Kept S0 w0 w') → (∀ t, some t ∉ D → a.eval (.tmp t) = a0.eval (.tmp t)) → (∀ t, late os t i = true → a.eval (.tmp t) = a0.eval (.tmp t)) →
      Deps D (fun j x w => ∀ w', Kept S w w' → G j x w') a w o.after.toList → ∀ (p : Value) (lp : List Nat), Row w B p lp →
      Prev D C vI lI a p lp r →
      goes D o a = true ∧ Yields P a.eval o w (fun x w' => Row w' B x (C i) ∧ Kept (fun k => p.ownBlock = some k) w w' ∧ (x.ownBlock = p.ownBlock ∨ ∀ g, x.ownBlock = some g → w.heap.size ≤ g))) :
    StepJ os P D (OwnJ w0 S0 B vI lI X C G) a0 i o := by
  intro L v a w ⟨S, hlt, h0, hk, hcl, hg, hrow, hown⟩ hli hedges hout hhere hlate
  subst hX
  have hlater := hcl.later hli
  have hhold : hold L v C vI lI (ys ++ i :: r) = hold L v C vI lI r := by
    rw [hold_later hlater]
    show (if L i = true then (v i, C i) else hold L v C vI lI r) = hold L v C vI lI r
    rw [if_neg (by rw [hli]; decide)]
  rw [hhold] at hrow hown
  have hR : ∀ w', Kept S w w' → Kept S0 w0 w' := fun w' k => (hk.trans k (fun _ _ x => x)).mono (fun b hb hS => by
    rcases h0 b hS with h | h
    · exact h
    · omega)
  have hat : ∀ (j : Nat) (d : Tmp), D.getD j none = some d → D[j]? = some (some d) := by
    intro j d hd
    cases hx : D[j]? with
    | none => simp [List.getD, hx] at hd
    | some y => simp [List.getD, hx] at hd; rw [hd]
  have hdeps : Deps D (fun j x w => ∀ w', Kept S w w' → G j x w') a w o.after.toList := Deps.mk fun e he hb d hd => by
    have hL := hedges e he hb
    rw [hhere e.on d hL (hat e.on d hd)]
    exact hg e.on hL
  have hlx : ∀ x, r.head? = some x → L x = true := by
    intro x hx
    obtain ⟨e, he, rfl, hb, _⟩ := hr x hx
    exact hedges e he hb
  have hp : Prev D C vI lI a (hold L v C vI lI r).1 (hold L v C vI lI r).2 r := by
    clear hhold hrow hown hcl h
    cases r with
    | nil => exact ⟨rfl, rfl⟩
    | cons x r' =>
      have hL := hlx x rfl
      have e1 : hold L v C vI lI (x :: r') = (v x, C x) := by
        show (if L x = true then (v x, C x) else hold L v C vI lI r') = _
        rw [if_pos hL]
      refine ⟨by rw [e1], fun d hd => ?_⟩
      rw [e1, hhere x d hL (hat x d hd)]
  obtain ⟨hgo, hy⟩ := h S a w hlt hR hout hlate hdeps _ _ hrow hp
  generalize (hold L v C vI lI r).1 = p at *
  have fin : ∀ (x : Value) (w' : World), Row w' B x (C i) → Kept (fun k => p.ownBlock = some k) w w' → (x.ownBlock = p.ownBlock ∨ ∀ g, x.ownBlock = some g → w.heap.size ≤ g) → OwnJ w0 S0 B vI lI (ys ++ i :: r) C G (upL L i) (upV v i x) w' := by
    intro x w' hrx hkk hwh
    have hkS : Kept S w w' := hkk.mono (fun k _ e => hown k e)
    refine ⟨fun k => S k ∨ x.ownBlock = some k, ?_, ?_, ?_, ?_, ?_, ?_, ?_⟩
    · rintro k (hS | hx)
      · exact Nat.lt_of_lt_of_le (hlt k hS) hkk.size
      · exact (hrx.lt k hx).2
    · rintro k (hS | hx)
      · exact h0 k hS
      · rcases hwh with e | e
        · exact h0 k (hown k (by rw [← e]; exact hx))
        · exact .inr (Nat.le_trans hk.size (e k hx))
    · exact (hk.trans hkS (fun _ _ x => x)).mono (fun _ _ x => .inl x)
    · refine hcl.up fun ys' x' r' e => ?_
      -- the two ways to part the list are one
      have key : ∀ (zs ys' : List Nat) (x' : Nat) (r r' : List Nat), i ∉ zs → i ∉ ys' → zs ++ i :: r = ys' ++ i :: x' :: r' → r = x' :: r' := by
        intro zs
        induction zs with
        | nil =>
          intro ys' x' r r' _ hy e
          cases ys' with
          | nil => simpa using e
          | cons z zs => simp at e; exact absurd e.1 (fun h => hy (by simp [h]))
        | cons z zs ih =>
          intro ys' x' r r' hz hy e
          cases ys' with
          | nil => simp at e; exact absurd e.1.symm (fun h => hz (by simp [h]))
          | cons y ys'' => simp at e; exact ih ys'' x' r r' (fun h => hz (by simp [h])) (fun h => hy (by simp [h])) e.2
      have hin : i ∉ ys' := by
        intro hm
        have hc : (ys ++ i :: r).count i = 1 := by rw [List.count_append, List.count_eq_zero_of_not_mem hnd.1, List.count_cons_self, List.count_eq_zero_of_not_mem hnd.2]
        rw [e, List.count_append, List.count_cons_self] at hc
        have := List.count_pos_iff.2 hm
        omega
      have := key ys ys' x' r r' hnd.1 hin e
      subst this
      exact hlx x' rfl
    · intro j hj w'' k
      by_cases hji : j = i
      · subst hji; exact hG _ _
      · rw [show upL L i j = L j from if_neg hji] at hj
        rw [show upV v i x j = v j from if_neg hji]
        refine hg j hj w'' (hkS.trans k fun b hb hS => ?_)
        rcases hS with hS | hx
        · exact hS
        · rcases hwh with e | e
          · exact hown b (by rw [← e]; exact hx)
          · have := e b hx; omega
    · have e : hold (upL L i) (upV v i x) C vI lI (ys ++ i :: r) = (x, C i) := by
        rw [hold_later (fun y hym => by rw [show upL L i y = L y from if_neg (fun h : y = i => hnd.1 (by rw [← h]; exact hym))]; exact hlater y hym)]
        show (if upL L i i = true then (upV v i x i, C i) else _) = _
        rw [if_pos (show upL L i i = true from if_pos rfl), show upV v i x i = x from if_pos rfl]
      rw [e]; exact hrx
    · have e : hold (upL L i) (upV v i x) C vI lI (ys ++ i :: r) = (x, C i) := by
        rw [hold_later (fun y hym => by rw [show upL L i y = L y from if_neg (fun h : y = i => hnd.1 (by rw [← h]; exact hym))]; exact hlater y hym)]
        show (if upL L i i = true then (upV v i x i, C i) else _) = _
        rw [if_pos (show upL L i i = true from if_pos rfl), show upV v i x i = x from if_pos rfl]
      rw [e]
      intro g hgx
      exact .inr hgx
  refine ⟨fun _ => ?_, fun hno => ?_⟩
  · revert hy
    unfold Yields
    generalize (execOp a.eval o).run P w = res
    intro hh
    cases res with
    | ok n w' =>
      cases n <;> simp only at hh ⊢ <;> first
        | exact fin _ _ hh.1 hh.2.1 hh.2.2
        | exact hh.elim
        | exact Calls.mono hh (fun e w'' ⟨y, he, hk⟩ => ⟨y, he, fin _ _ hk.1 hk.2.1 hk.2.2⟩)
    | halt x w' => exact hh.elim
  · rw [hgo] at hno; cases hno
section
variable {os : List Oper} {P : Program} {D : List (Option Tmp)} {w0 : World} {S0 : Nat → Prop} {B : Nat} {vI : Value} {lI X : List Nat} {C : Nat → List Nat} {Gs : List Pd} {a0 : Act} {i : Nat} {o : Oper}
theorem StepJ.one (hi : i ∉ X) (hg : o.guard = none)
    (h : ∀ (S : Nat → Prop) (a : Act) (w : World), (∀ k, S k → k < w.heap.size) → (∀ w', Kept S w w' → Kept S0 w0 w') → (∀ t, some t ∉ D → a.eval (.tmp t) = a0.eval (.tmp t)) → (∀ t, late os t i = true → a.eval (.tmp t) = a0.eval (.tmp t)) →
      Deps D (fun j x w => ∀ w', Kept S w w' → Said Gs j x w') a w o.after.toList → (∀ x, X.head? = some x → ∀ e ∈ o.after.toList, e.on = x → Region.binds .any e = true → ∀ d, D.getD x none = some d → Row w B (a.eval (.tmp d)) (C x)) →
      Yields P a.eval o w (fun x w' => (∀ w'', Kept S w' w'' → Said Gs i x w'') ∧ Kept (fun _ => False) w w')) :
    StepJ os P D (OwnJ w0 S0 B vI lI X C (Said Gs)) a0 i o :=
  StepJ.other hi fun S a w hlt hR hout hlate hD hrow => ⟨fun _ => h S a w hlt hR hout hlate hD hrow, fun hno => by unfold goes at hno; rw [hg] at hno; cases hno⟩
theorem goes_of {a : Act} {j : Nat} {want : Bool} {d : Tmp} (hg : o.guard = some (j, want)) (hd : D.getD j none = some d) (h : a.eval (.tmp d) = .bool want) : goes D o a = true := by
  unfold goes
  rw [hg]
  simp only [hd, h]
  simp
theorem StepJ.when (hi : i ∉ X) (j : Nat) (want : Bool) (d : Tmp) (hg : o.guard = some (j, want)) (hd : D.getD j none = some d)
    (h : ∀ (S : Nat → Prop) (a : Act) (w : World), (∀ k, S k → k < w.heap.size) → (∀ w', Kept S w w' → Kept S0 w0 w') → (∀ t, some t ∉ D → a.eval (.tmp t) = a0.eval (.tmp t)) → (∀ t, late os t i = true → a.eval (.tmp t) = a0.eval (.tmp t)) →
      Deps D (fun j x w => ∀ w', Kept S w w' → Said Gs j x w') a w o.after.toList → (∀ x, X.head? = some x → ∀ e ∈ o.after.toList, e.on = x → Region.binds .any e = true → ∀ d, D.getD x none = some d → Row w B (a.eval (.tmp d)) (C x)) →
      a.eval (.tmp d) = .bool want ∧ Yields P a.eval o w (fun x w' => (∀ w'', Kept S w' w'' → Said Gs i x w'') ∧ Kept (fun _ => False) w w')) :
    StepJ os P D (OwnJ w0 S0 B vI lI X C (Said Gs)) a0 i o :=
  StepJ.other hi fun S a w hlt hR hout hlate hD hrow => by
    obtain ⟨h1, h2⟩ := h S a w hlt hR hout hlate hD hrow
    exact ⟨fun _ => h2, fun hno => by rw [goes_of hg hd h1] at hno; cases hno⟩
end
end Go.Proofs.Ythoafgfcoclkbaa
set_option maxRecDepth 100000
namespace Go.Proofs.Ythoafgfcoclkbaa
open Go.RowKit
def Owb (w : World) (T : Nat → Prop) (v : Value) (l : List Nat) : Prop := Row w 0 v l ∧ ∀ i, T i ↔ v.ownBlock = some i
theorem Owb.nil (w : World) : Owb w noB (.slice none 0 0) [] := ⟨Row.nil w 0, fun i => ⟨fun h => h.elim, fun h => by cases h⟩⟩
theorem Owb.live {w : World} {T : Nat → Prop} {v : Value} {l : List Nat} (h : Owb w T v l) : Live w T := fun i hi => (h.1.lt i ((h.2 i).1 hi)).2
theorem Owb.byt {w : World} {T : Nat → Prop} {v : Value} {l : List Nat} (h : Owb w T v l) : Byt w T v l := ⟨h.1.bytes, h.live, fun _ a n c e => (h.2 a.block).2 (by rw [e]; rfl)⟩
theorem Owb.all {S : Nat → Prop} {w w' : World} {T : Nat → Prop} {v : Value} {l : List Nat} (h : Owb w T v l) (k : Kept S w w') (ha : Apart T S) : Owb w' T v l := ⟨h.1.kept k (fun g hg => ha g ((h.2 g).2 hg)), h.2⟩
theorem Owb.one {w : World} {T : Nat → Prop} {v : Value} {l : List Nat} (h : Owb w T v l) : v.oneCell' = true := h.byt.one
theorem Owb.oneC {w : World} {T : Nat → Prop} {v : Value} {l : List Nat} (h : Owb w T v l) : oneC v = true := h.byt.oneC
theorem Owb.cells {w : World} {T : Nat → Prop} {v : Value} {l : List Nat} (h : Owb w T v l) : Cells w T := fun i hi => by
  have hv := (h.2 i).1 hi
  rcases h.1.1.2 with ⟨rfl, _⟩ | ⟨g, cap, cur, rfl, _, hg, _⟩
  · cases hv
  · cases hv; exact ⟨_, hg, rfl⟩
theorem Owb.row {A B : World} {row : Option Nat} {n : Nat} {T : Nat → Prop} {v : Value} {l : List Nat} (h : Owb A T v l) (hg : A.grownBy B row) (hr : RowNew n A row) : Owb B T v l := h.all (kept_row hg) (h.cells.apart hr)
theorem Owb.of {w : World} {v : Value} {l : List Nat} (h : Row w 0 v l) : Owb w (fun i => v.ownBlock = some i) v l := ⟨h, fun _ => Iff.rfl⟩
def bytAddr (v : Value) (j : Nat) : Value := match v with
  | .slice (some a) _ _ => .pointer (some (a.add j))
  | _ => undef
end Go.Proofs.Ythoafgfcoclkbaa
set_option maxRecDepth 100000
namespace Go.Proofs.Ythoafgfcoclkbaa
open Go.RowKit
structure RowT (α : Type) where
  t : TypeId
  e : TypeId
  k : Nat
  by_ : Nat
  enc : α → List Value
  d : α
  z : Value
class RowT.Ok {α : Type} (r : RowT α) : Prop where
  slice : Try.prog.underlying r.t = some (.slice r.e)
  info : (Try.prog.info? r.e).map (fun i => (i.zero, i.size, i.bytes)) = some (some r.z, r.k, r.by_)
  cells : r.z.cells.toList = r.enc r.d
  pos : 0 < r.k
  len : ∀ x, (r.enc x).length = r.k
  one : ∀ x, ∀ u ∈ r.enc x, u.oneCell' = true
  small : r.by_ ≤ 192
section
variable {α : Type} {r : RowT α}
theorem flat_len [h : r.Ok] (l : List α) : (l.flatMap r.enc).length = l.length * r.k := by
  induction l with
  | nil => simp
  | cons x l ih => rw [List.flatMap_cons, List.length_append, ih, h.len, List.length_cons, Nat.add_mul]; omega
theorem flat_at [h : r.Ok] (l : List α) (i j : Nat) (hi : i < l.length) (hj : j < r.k) : (l.flatMap r.enc)[i * r.k + j]? = (r.enc (l.getD i r.d))[j]? := by
  induction l generalizing i with
  | nil => simp at hi
  | cons x l ih =>
    rw [List.flatMap_cons]
    cases i with
    | zero => rw [Nat.zero_mul, Nat.zero_add, List.getElem?_append_left (by rw [h.len]; exact hj)]; rfl
    | succ i =>
      have hi' : i < l.length := by simpa using hi
      rw [List.getElem?_append_right (by rw [h.len, Nat.add_mul]; omega), h.len, show (i + 1) * r.k + j - r.k = i * r.k + j by rw [Nat.add_mul]; omega, ih i hi']
      rfl
theorem flat_one [h : r.Ok] (l : List α) : ∀ u ∈ l.flatMap r.enc, u.oneCell' = true := fun u hu => by
  obtain ⟨x, _, hx⟩ := List.mem_flatMap.1 hu
  exact h.one x u hx
theorem flat_set [h : r.Ok] (l : List α) (i : Nat) (u : α) (hi : i < l.length) : (l.set i u).flatMap r.enc = (l.flatMap r.enc).take (i * r.k) ++ r.enc u ++ (l.flatMap r.enc).drop (i * r.k + r.k) := by
  induction l generalizing i with
  | nil => simp at hi
  | cons x l ih =>
    cases i with
    | zero =>
      rw [List.set_cons_zero, List.flatMap_cons, List.flatMap_cons, Nat.zero_mul, Nat.zero_add, List.take_zero, List.nil_append]
      congr 1
      rw [List.drop_append_of_le_length (by rw [h.len]; exact Nat.le_refl _), List.drop_of_length_le (by rw [h.len]; exact Nat.le_refl _), List.nil_append]
    | succ i =>
      have hi' : i < l.length := by simpa using hi
      have hx := h.len x
      rw [List.set_cons_succ, List.flatMap_cons, List.flatMap_cons, ih i hi']
      rw [List.take_append, List.drop_append, hx, show (i + 1) * r.k - r.k = i * r.k by rw [Nat.add_mul]; omega, show (i + 1) * r.k + r.k - r.k = i * r.k + r.k by rw [Nat.add_mul]; omega]
      have t1 : (r.enc x).take ((i + 1) * r.k) = r.enc x := List.take_of_length_le (by rw [hx, Nat.add_mul]; omega)
      have t2 : (r.enc x).drop ((i + 1) * r.k + r.k) = [] := List.drop_of_length_le (by rw [hx, Nat.add_mul]; omega)
      rw [t1, t2]
      simp
theorem flat_rep [h : r.Ok] (n : Nat) : (madeCells r.z.cells (n * r.k)).toList = (List.replicate n r.d).flatMap r.enc := by
  have hzs : r.z.cells.size = r.k := by rw [← Array.length_toList, h.cells, h.len]
  apply List.ext_getElem?
  intro m
  by_cases hm : m < n * r.k
  · have hk := h.pos
    have hi : m / r.k < n := Nat.div_lt_of_lt_mul (by rwa [Nat.mul_comm])
    have hj : m % r.k < r.k := Nat.mod_lt _ hk
    have e := flat_at (r := r) (List.replicate n r.d) (m / r.k) (m % r.k) (by simpa using hi) hj
    rw [show m / r.k * r.k + m % r.k = m by rw [Nat.mul_comm]; exact Nat.div_add_mod m r.k] at e
    have e2 : (List.replicate n r.d).getD (m / r.k) r.d = r.d := by simp [List.getD, hi]
    rw [e2, ← h.cells] at e
    rw [e]
    have hjz : m % r.k < r.z.cells.size := by rw [hzs]; exact hj
    simp only [madeCells, Array.toList_map, Array.toList_range, List.getElem?_map, List.getElem?_range hm, Option.map_some, hzs, Array.getElem?_toList]
    rw [getElem!_pos r.z.cells (m % r.k) hjz, Array.getElem?_eq_getElem hjz]
  · rw [List.getElem?_eq_none (by rw [Array.length_toList, size_madeCells]; omega), List.getElem?_eq_none (by rw [flat_len (r := r)]; simp; omega)]
def RoA (r : RowT α) (w : World) (T : Nat → Prop) (v : Value) (l : List α) : Prop :=
  ∃ a cap, v = .slice a l.length cap ∧ l.length ≤ cap ∧ cap ≤ maxLen ∧ (a = none → cap = 0) ∧ Live w T ∧
    (0 < l.length → ∃ b off, a = some ⟨b, off, none⟩ ∧ T b ∧ ∀ j u, (l.flatMap r.enc)[j]? = some u → w.cell? ⟨b, off + j, none⟩ = some u)
theorem RoA.nil (r : RowT α) (w : World) : RoA r w noB (.slice none 0 0) [] := ⟨none, 0, rfl, Nat.le_refl _, by unfold maxLen; omega, fun _ => rfl, fun _ h => h.elim, fun h => absurd h (by simp)⟩
theorem RoA.live {w : World} {T : Nat → Prop} {v : Value} {l : List α} (h : RoA r w T v l) : Live w T := by obtain ⟨_, _, _, _, _, _, h, _⟩ := h; exact h
theorem RoA.all {S : Nat → Prop} {w w' : World} {T : Nat → Prop} {v : Value} {l : List α} (h : RoA r w T v l) (k : Kept S w w') (ha : Apart T S) : RoA r w' T v l := by
  obtain ⟨a, cap, rfl, h1, h2, h3, hL, hc⟩ := h
  refine ⟨a, cap, rfl, h1, h2, h3, hL.mono k, fun hp => ?_⟩
  obtain ⟨b, off, rfl, hb, hcell⟩ := hc hp
  exact ⟨b, off, rfl, hb, fun j u hj => (World.cell?_of_block (k.block b (hL b hb) (ha b hb))).trans (hcell j u hj)⟩
theorem RoA.row {A B : World} {row : Option Nat} {n : Nat} {T : Nat → Prop} {v : Value} {l : List α} [hk : r.Ok] (h : RoA r A T v l) (hg : A.grownBy B row) (hr : RowNew n A row) : RoA r B T v l := by
  obtain ⟨a, cap, rfl, h1, h2, h3, hL, hc⟩ := h
  have k := kept_row hg
  refine ⟨a, cap, rfl, h1, h2, h3, hL.mono k, fun hp => ?_⟩
  obtain ⟨b, off, rfl, hb, hcell⟩ := hc hp
  have h0 : 0 < (l.flatMap r.enc).length := by rw [flat_len (r := r)]; exact Nat.mul_pos hp hk.pos
  refine ⟨b, off, rfl, hb, fun j u hj => (World.cell?_of_block (k.block b (hL b hb) fun e => ?_)).trans (hcell j u hj)⟩
  obtain ⟨_, o, ho, hn⟩ := hr b e.symm
  have := hcell 0 _ (List.getElem?_eq_getElem h0)
  unfold World.cell? at this
  simp only at this
  rw [ho] at this
  cases o <;> simp_all [Obj.isCells]
theorem RoA.one {w : World} {T : Nat → Prop} {v : Value} {l : List α} (h : RoA r w T v l) : v.oneCell' = true := by obtain ⟨a, cap, rfl, _⟩ := h; rfl
theorem RoA.oneC {w : World} {T : Nat → Prop} {v : Value} {l : List α} (h : RoA r w T v l) : oneC v = true := by obtain ⟨a, cap, rfl, _⟩ := h; rfl
theorem RoA.short {w : World} {T : Nat → Prop} {v : Value} {l : List α} (h : RoA r w T v l) : l.length ≤ 9223372036854775807 := by
  obtain ⟨a, cap, rfl, h1, h2, _⟩ := h; unfold maxLen at h2; omega
def RoO (r : RowT α) (w : World) (T : Nat → Prop) (v : Value) (l : List α) : Prop := w.ownsRow 0 r.e r.k v l.length (l.flatMap r.enc) ∧ ∀ i, T i ↔ v.ownBlock = some i
theorem RoO.nil (r : RowT α) (w : World) : RoO r w noB (.slice none 0 0) [] := ⟨World.ownsRow_nil w 0 r.e r.k, fun i => ⟨fun h => h.elim, fun h => by cases h⟩⟩
theorem RoO.live {w : World} {T : Nat → Prop} {v : Value} {l : List α} (h : RoO r w T v l) : Live w T := fun i hi => (h.1.lt i ((h.2 i).1 hi)).2
theorem RoO.all {S : Nat → Prop} {w w' : World} {T : Nat → Prop} {v : Value} {l : List α} (h : RoO r w T v l) (k : Kept S w w') (ha : Apart T S) : RoO r w' T v l := by
  refine ⟨⟨h.1.1, ?_⟩, h.2⟩
  rcases h.1.2 with hn | ⟨g, cap, cur, rfl, hb, hg, rest⟩
  · exact .inl hn
  · exact .inr ⟨g, cap, cur, rfl, hb, k.at hg (ha g ((h.2 g).2 rfl)), rest⟩
theorem RoO.roa {w : World} {T : Nat → Prop} {v : Value} {l : List α} (h : RoO r w T v l) : RoA r w T v l := by
  have hL := h.live
  rcases h.1.2 with ⟨rfl, h0⟩ | ⟨g, cap, cur, rfl, hb, hg, h1, h2, h3, h4⟩
  · have : l = [] := List.eq_nil_of_length_eq_zero h0
    subst this
    exact ⟨none, 0, rfl, Nat.le_refl _, by unfold maxLen; omega, fun _ => rfl, hL, fun h => absurd h (by simp)⟩
  · refine ⟨some ⟨g, 0, none⟩, cap, rfl, h1, h2, by simp, hL, fun _ => ⟨g, 0, rfl, (h.2 g).2 rfl, fun j u hj => ?_⟩⟩
    have := h.1.cells (g := g) rfl j u hj
    rwa [Addr.add_lit] at this
theorem RoO.cells {w : World} {T : Nat → Prop} {v : Value} {l : List α} (h : RoO r w T v l) : Cells w T := fun i hi => by
  have hv := (h.2 i).1 hi
  rcases h.1.2 with ⟨rfl, _⟩ | ⟨g, cap, cur, rfl, _, hg, _⟩
  · cases hv
  · cases hv; exact ⟨_, hg, rfl⟩
theorem RoO.row {A B : World} {row : Option Nat} {n : Nat} {T : Nat → Prop} {v : Value} {l : List α} (h : RoO r A T v l) (hg : A.grownBy B row) (hr : RowNew n A row) : RoO r B T v l := h.all (kept_row hg) (h.cells.apart hr)
theorem RoO.of {w : World} {v : Value} {l : List α} (h : w.ownsRow 0 r.e r.k v l.length (l.flatMap r.enc)) : RoO r w (fun i => v.ownBlock = some i) v l := ⟨h, fun _ => Iff.rfl⟩
theorem RoO.one {w : World} {T : Nat → Prop} {v : Value} {l : List α} (h : RoO r w T v l) : v.oneCell' = true := h.roa.one
theorem RoO.oneC {w : World} {T : Nat → Prop} {v : Value} {l : List α} (h : RoO r w T v l) : oneC v = true := h.roa.oneC
end
section
variable {α : Type} {r : RowT α} {ρ : Operand → Value} {o : Oper} {w : World} {R : Value → World → Prop}
theorem y_atRo {x ix : Operand} {T : Nat → Prop} {v : Value} {l : List α} {k : IntKind} [hk : r.Ok] (j : Nat) {i : Int} (ho : o.op = .indexAddr r.t x ix) (hx : ρ x = v) (hi : ρ ix = .int k i) (hij : i = (j : Int)) (hb : RoA r w T v l) (hj : j < l.length) (h : R (bytAddr v (j * r.k)) w) : Yields Try.prog ρ o w R := by
  subst hij
  obtain ⟨a, cap, rfl, _, _, _, _, hc⟩ := hb
  obtain ⟨b, off, rfl, _, _⟩ := hc (by omega)
  obtain ⟨i0, hi0, hz0, hz1, hz2⟩ := info_parts hk.info
  exact y_val (v := bytAddr (.slice (some ⟨b, off, none⟩) l.length cap) (j * r.k)) (w' := w) (by simp [execOp, ho, hx, hi, Instr.indexAt, run_underlying hk.slice, asIntOf, sizeOf, typeInfo, hi0, hz1, hj, bytAddr]) h
theorem RoA.shape {T : Nat → Prop} {v : Value} {l : List α} {j : Nat} (hb : RoA r w T v l) (hj : j < l.length) (m : Nat) : ∃ b off, bytAddr v m = .pointer (some ⟨b, off + m, none⟩) ∧ ∀ n, bytAddr v n = .pointer (some ⟨b, off + n, none⟩) := by
  obtain ⟨a, cap, rfl, _, _, _, _, hc⟩ := hb
  obtain ⟨b, off, rfl, _, _⟩ := hc (by omega)
  exact ⟨b, off, by rw [bytAddr, Addr.add_lit], fun n => by rw [bytAddr, Addr.add_lit]⟩
theorem y_fieldRo {s : TypeId} {x : Operand} {T : Nat → Prop} {v : Value} {l : List α} {fs : Array Field} {i m n m' j : Nat} {f : Field} (ho : o.op = .fieldAddr s x i) (hx : ρ x = bytAddr v m) (hb : RoA r w T v l) (hj : j < l.length) (hu : Try.prog.underlying s = some (.struct fs)) (hf : fs[i]? = some f) (hs : (Try.prog.info? f.type).map (·.size) = some n) (hn : n ≠ 0) (hoff : m + f.offset = m')
    (h : R (bytAddr v m') w) : Yields Try.prog ρ o w R := by
  obtain ⟨b, off, e1, e2⟩ := hb.shape hj m
  exact y_fieldR ho (hx.trans e1) hu hf hs hn (off' := off + m') (by omega) (by rw [← e2]; exact h)
theorem y_ldRo {x : Operand} {T : Nat → Prop} {v u : Value} {l : List α} {ty : TypeId} {d : TypeDesc} [hk : r.Ok] (j m : Nat) (ho : o.op = .load ty x) (hx : ρ x = bytAddr v (j * r.k + m)) (hb : RoA r w T v l) (hj : j < l.length) (hm : m < r.k) (hu : (r.enc (l.getD j r.d))[m]? = some u) (ht : Try.prog.underlying ty = some d) (hd : plainD d = true) (h : R u w) : Yields Try.prog ρ o w R := by
  obtain ⟨a, cap, rfl, _, _, _, _, hc⟩ := hb
  obtain ⟨b, off, rfl, _, hcell⟩ := hc (by omega)
  have e := hcell (j * r.k + m) u (by rw [flat_at (r := r) l j m hj hm]; exact hu)
  exact y_ldA ho (hx.trans (by rw [bytAddr, Addr.add_lit])) ht hd e h
theorem y_ldRoP {x : Operand} {T : Nat → Prop} {v : Value} {l : List α} {ty : TypeId} {n : Nat} {us : List Value} [hk : r.Ok] (j m : Nat) (hT : StcT Try.prog ty n) (ho : o.op = .load ty x) (hx : ρ x = bytAddr v (j * r.k + m)) (hb : RoA r w T v l) (hj : j < l.length) (hm : m + n ≤ r.k) (hu : ((r.enc (l.getD j r.d)).drop m).take n = us) (h : R (.agg us.toArray) w) : Yields Try.prog ρ o w R := by
  subst hu
  obtain ⟨a, cap, rfl, _, _, _, _, hc⟩ := hb
  obtain ⟨b, off, rfl, _, hcell⟩ := hc (by omega)
  obtain ⟨d, hu, hd, hs⟩ := hT
  have hlen : (((r.enc (l.getD j r.d)).drop m).take n).length = n := by rw [List.length_take, List.length_drop, hk.len]; omega
  have e := run_loadVar_mid (P := Try.prog) w b (off + (j * r.k + m)) ty (((r.enc (l.getD j r.d)).drop m).take n) d (fun q u hq => by
    have hqn : q < n := by have := (List.getElem?_eq_some_iff.1 hq).1; omega
    rw [show off + (j * r.k + m) + q = off + (j * r.k + (m + q)) by omega]
    refine hcell (j * r.k + (m + q)) u ?_
    rw [flat_at (r := r) l j (m + q) hj (by omega)]
    rwa [List.getElem?_take, if_pos hqn, List.getElem?_drop] at hq) hu hd (by rw [hlen]; exact hs)
  have hx' : ρ x = .pointer (some ⟨b, off + (j * r.k + m), none⟩) := by rw [hx, bytAddr, Addr.add_lit]
  exact y_val (v := .agg (((r.enc (l.getD j r.d)).drop m).take n).toArray) (w' := w) (by simp only [execOp, ho, hx', Instr.loadAt, Instr.sureAddr, Sem.run_bind, Sem.run_pure, Result.andThen_ok, e]) h
theorem y_lenRo {c : Call} {x : Operand} {T : Nat → Prop} {v : Value} {l : List α} [hk : r.Ok] (ho : o.op = .call c) (hc : c = { callee := .builtin .len, args := #[x], argTypes := #[r.t] }) (hx : ρ x = v) (hb : RoA r w T v l) (h : R (.int .i64 ((l.length : Nat) : Int)) w) : Yields Try.prog ρ o w R := by
  subst hc
  obtain ⟨a, cap, rfl, _⟩ := hb
  exact y_len ho rfl rfl rfl hk.slice hx h
end
section
variable {α : Type} {r : RowT α} {ro : Option Nat} {N : Nat} {Q : (Exit → (Nat → Value) → World → Prop)} {F : Nat → Value} {w : World} {o : Oper}
theorem wl_setRo {ops : Array Oper} {rest : List Oper} {x y : Operand} {T : Nat → Prop} {v val : Value} {l : List α} {u : α} [hk : r.Ok] (j : Nat) (hg : o.guard = none) (hdn : o.dst = none) (ho : o.op = .store r.e x y) (hx : ev (cutF N F) x = bytAddr v (j * r.k)) (hy : ev (cutF N F) y = val) (hv : val.cells.toList = r.enc u) (hB : RoO r w T v l) (hj : j < l.length)
    (h : ∀ w', RoO r w' T v (l.set j u) → Kept T w w' → wl ro Try.prog N ops Q rest F w') : wl ro Try.prog N ops Q (o :: rest) F w := by
  have hc := hB
  rcases hB.1.2 with ⟨rfl, h0⟩ | ⟨g, cap, cur, rfl, hb, hgg, hnc, hcm, hcs, htake⟩
  · omega
  · obtain ⟨i0, hi0, hz0, hz1, hz2⟩ := info_parts hk.info
    have hx' : ev (cutF N F) x = .pointer (some ⟨g, j * r.k, none⟩) := by rw [hx, bytAddr, Addr.add_lit, Nat.zero_add]
    have hle : j * r.k + r.k ≤ l.length * r.k := by rw [← Nat.succ_mul]; exact Nat.mul_le_mul_right _ hj
    have hcap : l.length * r.k ≤ cap * r.k := Nat.mul_le_mul_right _ hnc
    have hul := hk.len u
    have hst := run_storeCells_at Try.prog g (j * r.k) r.e (r.enc u) 0 cur w hgg (by omega) (hk.one u)
    have hvs : val.cells.size = r.k := by rw [← Array.length_toList, hv, hul]
    simp only [Nat.add_zero] at hst
    refine wl_op hg (by rw [hdn]; rfl) ?_
    have e : (execOp (ev (cutF N F)) o).run Try.prog w = .ok .skip (w.setRow g (cur.toList.take (j * r.k) ++ r.enc u ++ cur.toList.drop (j * r.k + (r.enc u).length)).toArray) ∨ (execOp (ev (cutF N F)) o).run Try.prog w = .ok (.value undef) (w.setRow g (cur.toList.take (j * r.k) ++ r.enc u ++ cur.toList.drop (j * r.k + (r.enc u).length)).toArray) := by
      have hsv : (storeVar r.e ⟨g, j * r.k, none⟩ val).run Try.prog w = .ok () (w.setRow g (cur.toList.take (j * r.k) ++ r.enc u ++ cur.toList.drop (j * r.k + (r.enc u).length)).toArray) := by
        rw [← hv] at hst ⊢
        simp [storeVar, sizeOf, typeInfo, hi0, hz1, hvs, hst]
      left
      simp only [execOp, ho, hx', hy, Instr.storeAt, Instr.sureAddr, Sem.run_bind, Sem.run_pure, Result.andThen_ok, hsv]
    have hset := flat_set (r := r) l j u hj
    have hrow : RoO r (w.setRow g (cur.toList.take (j * r.k) ++ r.enc u ++ cur.toList.drop (j * r.k + (r.enc u).length)).toArray) T (.slice (some ⟨g, 0, none⟩) l.length cap) (l.set j u) := by
      refine ⟨⟨by rw [flat_len (r := r)], .inr ⟨g, cap, _, by rw [List.length_set], hb, setRow_heap _ _ _ _ _ _ hgg, by rw [List.length_set]; exact hnc, hcm, ?_, ?_⟩⟩, hB.2⟩
      · simp; omega
      · rw [List.length_set, hset, ← htake]
        have hcl : cur.toList.length = cap * r.k := by simpa using hcs
        have hpl : (cur.toList.take (j * r.k) ++ r.enc u).length = j * r.k + r.k := by rw [List.length_append, List.length_take, hul]; omega
        rw [List.toList_toArray, List.take_append, List.take_of_length_le (by rw [hpl]; exact hle), hpl, List.take_take, Nat.min_eq_left (by omega), List.drop_take, hul]
    unfold Yields
    rw [hdn]
    rcases e with e | e <;> rw [e] <;> exact h _ hrow ((Kept.refl T w).setRow g (fun _ => (hB.2 g).2 rfl) _)
theorem wl_makeRo {ops : Array Oper} {rest : List Oper} {x y : Operand} {kl kc : IntKind} {n : Nat} {i j : Int} [hk : r.Ok] (hg : o.guard = none) (hd : fits N o.dst = true) (ho : o.op = .makeSlice r.t x y) (hx : ev (cutF N F) x = .int kl i) (hy : ev (cutF N F) y = .int kc j) (hi : i = (n : Int)) (hj : j = (n : Int)) (hn : n < 1099511627776)
    (h : ∀ v w' T, RoO r w' T v (List.replicate n r.d) → Grew w noB T → Kept (fun _ => False) w w' → wl ro Try.prog N ops Q rest (putF F o.dst v) w') : wl ro Try.prog N ops Q (o :: rest) F w := by
  subst hi; subst hj
  obtain ⟨i0, hi0, hz0, hz1, hz2⟩ := info_parts hk.info
  have hsm := hk.small
  have hr := run_make (P := Try.prog) w r.t r.e i0 r.z hk.slice hi0 hz0 kl kc n n (by omega) (Int.le_refl _) (by
    rw [hz2]
    have h1 : r.by_ * n ≤ 192 * 1099511627776 := Nat.mul_le_mul hsm (by omega)
    have h2 : ((r.by_ * n : Nat) : Int) = (r.by_ : Int) * (n : Int) := Int.natCast_mul _ _
    omega) (by omega)
  simp only [Int.toNat_natCast, hz1] at hr
  refine wl_op hg hd (y_val (v := .slice (some ⟨w.heap.size, 0, none⟩) n n) (w' := w.alloc (.cells (madeCells r.z.cells (n * r.k)) r.e)) (by simp [execOp, ho, hx, hy, hr]) (h _ _ _ (RoO.of ⟨by rw [flat_len (r := r)], .inr ⟨w.heap.size, n, _, by rw [List.length_replicate], Nat.zero_le _, heap_alloc_new _ _, by rw [List.length_replicate]; exact Nat.le_refl _, by unfold maxLen; omega, size_madeCells _ _, ?_⟩⟩) (fun i hi => .inr ?_) ((Kept.refl _ _).alloc _)))
  · rw [← flat_rep (r := r) n, List.length_replicate, List.take_of_length_le (by rw [Array.length_toList, size_madeCells]; exact Nat.le_refl _)]
  · cases hi; exact Nat.le_refl _
theorem wl_appendRo {ops : Array Oper} {rest : List Oper} {c : Call} {x y : Operand} {T U : Nat → Prop} {v u : Value} {l m : List α} [hk : r.Ok] (hg : o.guard = none) (hd : fits N o.dst = true) (ho : o.op = .call c) (hc : c = { callee := .builtin .append, args := #[x, y], argTypes := #[r.t, r.t] }) (hx : ev (cutF N F) x = v) (hy : ev (cutF N F) y = u) (hv : RoO r w T v l) (hu : RoA r w U u m) (hl : l.length + m.length < 549755813888)
    (h : ∀ v' w' T', RoO r w' T' v' (l ++ m) → Grew w T T' → Kept T w w' → wl ro Try.prog N ops Q rest (putF F o.dst v') w') : wl ro Try.prog N ops Q (o :: rest) F w := by
  subst hc
  obtain ⟨i0, hi0, hz0, hz1, hz2⟩ := info_parts hk.info
  obtain ⟨a, cap, rfl, h1, h2, h3, _, hcu⟩ := hu
  cases a with
  | none =>
    have hc0 := h3 rfl
    subst hc0
    have hm : m = [] := List.eq_nil_of_length_eq_zero (by omega)
    subst hm
    have hr := run_append_owned_none (P := Try.prog) w 0 r.t o.type r.e i0 r.k hk.slice hi0 v _ _ hv.1
    refine wl_op hg hd (y_val (v := v) (w' := w) (by simp [execOp, ho, resolve, invoke, builtin, hx, hy, hr]) (h v w T (by rw [List.append_nil]; exact hv) (Grew.refl w T) (Kept.refl _ _)))
  | some ad =>
    have hzs : r.z.cells.size = r.k := by rw [← Array.length_toList, hk.cells, hk.len]
    obtain ⟨v', w', hr, hown, hgr, hw⟩ := run_append_whose (P := Try.prog) w r.t o.type r.e i0 r.z r.k r.by_ hk.slice hi0 hz0 hz1 hz2 hzs hk.pos v l.length (l.flatMap r.enc) hv.1 ad m.length cap (m.flatMap r.enc) (flat_len (r := r) m) (fun j x hj => by
      have hp : 0 < m.length := by
        rcases Nat.eq_zero_or_pos m.length with e | e
        · have : m = [] := List.eq_nil_of_length_eq_zero e
          subst this; simp at hj
        · exact e
      obtain ⟨b, off, e, _, hcell⟩ := hcu hp
      cases e
      rw [Addr.add_lit]; exact hcell j x hj) (flat_one (r := r) m) (by unfold maxLen; omega) (by
        have hsm := hk.small
        have : (l.length + m.length) * r.by_ ≤ 549755813888 * 192 := Nat.mul_le_mul (by omega) hsm
        omega)
    refine wl_op hg hd (y_val (v := v') (w' := w') (by simp [execOp, ho, resolve, invoke, builtin, hx, hy, hr]) (h v' w' _ (RoO.of (by rw [List.length_append, List.flatMap_append]; exact hown)) (fun i hi => ?_) ((Kept.refl T w).grown hgr (fun k e _ => (hv.2 k).2 e))))
    rcases hw with hw | ⟨g, hw, hge⟩
    · exact .inl ((hv.2 i).2 (hw ▸ hi))
    · rw [hw] at hi; cases hi; exact .inr hge
theorem wl_builtRo {ops : Array Oper} {rest : List Oper} {parts : Array (Nat × Operand)} {n : Nat} {xs : List Operand} {vs : List Value} {l : List α} [hk : r.Ok] (hg : o.guard = none) (hd : fits N o.dst = true) (ho : o.op = .buildSlice r.t n parts) (hn : n = l.length) (hp : parts.toList = (xs.zipIdx 0).map fun x => (x.2, x.1)) (hx : xs.map (ev (cutF N F)) = vs) (hv : (vs.map fun v => v.cells.toList) = l.map r.enc) (h0 : 0 < l.length) (hsz : l.length * r.k ≤ 65536)
    (h : ∀ v w' T, RoO r w' T v l → Grew w noB T → Kept (fun _ => False) w w' → wl ro Try.prog N ops Q rest (putF F o.dst v) w') : wl ro Try.prog N ops Q (o :: rest) F w := by
  subst hn; subst hx
  obtain ⟨i0, hi0, hz0, hz1, hz2⟩ := info_parts hk.info
  have hpos := hk.pos
  have hlp : 0 < l.length * r.k := Nat.mul_pos h0 hpos
  have hlen : xs.length = l.length := by have := congrArg List.length hv; simpa using this
  have hflat : (xs.map (ev (cutF N F))).flatMap (fun v => v.cells.toList) = l.flatMap r.enc := by
    rw [List.flatMap_def, List.flatMap_def, hv]
  have hsize : ∀ v ∈ xs.map (ev (cutF N F)), v.cells.size = r.k := by
    intro v hv'
    have : v.cells.toList ∈ l.map r.enc := by rw [← hv]; exact List.mem_map.2 ⟨v, hv', rfl⟩
    obtain ⟨x, _, e⟩ := List.mem_map.1 this
    rw [← Array.length_toList, ← e, hk.len]
  have hrun := run_buildSlice (P := Try.prog) w r.t r.e l.length (parts.map fun (i, x) => (i, ev (cutF N F) x)) (l.flatMap r.enc).toArray i0 r.z hk.slice hi0 hz0 (by rw [hz1]; omega) (by rw [hz1]; omega) (by
    rw [hz1]
    have e : (parts.map fun (i, x) => (i, ev (cutF N F) x)).toList = ((xs.map (ev (cutF N F))).zipIdx 0).map fun x => (x.2, x.1) := by
      rw [Array.toList_map, hp, List.zipIdx_map, List.map_map, List.map_map]; rfl
    rw [e, Great.fill_whole hpos _ _ hsize (by rw [List.length_map, hlen]; simp), hflat])
  refine wl_op hg hd (y_val (v := .slice (some ⟨w.heap.size, 0, none⟩) l.length l.length) (w' := w.alloc (.cells (l.flatMap r.enc).toArray r.e)) (by simp [execOp, ho, hrun]) (h _ _ _ (RoO.of ⟨flat_len (r := r) l, .inr ⟨w.heap.size, l.length, _, rfl, Nat.zero_le _, heap_alloc_new _ _, Nat.le_refl _, by unfold maxLen; have := Nat.le_mul_of_pos_right l.length hpos; omega, by rw [List.size_toArray, flat_len (r := r)], ?_⟩⟩) (fun i hi => .inr ?_) ((Kept.refl _ _).alloc _)))
  · rw [List.toList_toArray]; exact List.take_of_length_le (by rw [flat_len (r := r)]; exact Nat.le_refl _)
  · cases hi; exact Nat.le_refl _
theorem wl_builtRo0 {ops : Array Oper} {rest : List Oper} [hk : r.Ok] (hg : o.guard = none) (hd : fits N o.dst = true) (ho : o.op = .buildSlice r.t 0 #[])
    (h : ∀ v w' T, RoO r w' T v [] → Grew w noB T → Kept (fun _ => False) w w' → wl ro Try.prog N ops Q rest (putF F o.dst v) w') : wl ro Try.prog N ops Q (o :: rest) F w := by
  obtain ⟨i0, hi0, hz0, hz1, hz2⟩ := info_parts hk.info
  refine wl_op hg hd (y_val (v := .slice (some ⟨w.heap.size, 0, none⟩) 0 0) (w' := w.alloc (.cells #[] r.e)) (by simp [execOp, ho, Instr.buildSlice, run_underlying hk.slice, sizeOf, typeInfo, hi0, Instr.fill, newRow, go_sem]) (h _ _ _ (RoO.of (l := []) ⟨by simp, .inr ⟨w.heap.size, 0, _, rfl, Nat.zero_le _, heap_alloc_new _ _, Nat.le_refl _, Nat.zero_le _, by simp, by simp⟩⟩) (fun i hi => .inr ?_) ((Kept.refl _ _).alloc _)))
  cases hi; exact Nat.le_refl _
end
end Go.Proofs.Ythoafgfcoclkbaa
set_option maxRecDepth 100000
namespace Go.Proofs.Ythoafgfcoclkbaa
open Go.RowKit
def rInt : RowT Int := { t := 24, e := 3, k := 1, by_ := 8, enc := fun x => [.int .i64 x], d := 0, z := .int .i64 0 }
theorem one_one {a : Int} : ∀ u ∈ [Value.int .i64 a], u.oneCell' = true := fun u hu => by
  rcases List.mem_cons.1 hu with rfl | hu
  · rfl
  · cases hu
instance rInt_ok : RowT.Ok rInt := ⟨Try.underlying24, by kernel_rfl, rfl, by decide, fun _ => rfl, fun _ => one_one, by decide⟩
def rSl : RowT Sl := { t := 26, e := 38, k := 4, by_ := 32, enc := fun q => [.int .i64 q.d, .int .i64 q.k, .int .i64 q.p, .int .i64 q.n], d := ⟨0, 0, 0, 0⟩, z := .agg #[.int .i64 0, .int .i64 0, .int .i64 0, .int .i64 0] }
theorem one_sl {a b c d : Int} : ∀ u ∈ [Value.int .i64 a, Value.int .i64 b, Value.int .i64 c, Value.int .i64 d], u.oneCell' = true := fun u hu => by
  simp only [List.mem_cons, List.not_mem_nil, or_false] at hu
  rcases hu with rfl | rfl | rfl | rfl <;> rfl
instance rSl_ok : RowT.Ok rSl := ⟨Try.underlying26, by kernel_rfl, rfl, by decide, fun _ => rfl, fun _ => one_sl, by decide⟩
end Go.Proofs.Ythoafgfcoclkbaa
set_option maxRecDepth 100000
namespace Go.Proofs.Ythoafgfcoclkbaa
open Go.RowKit
section
variable {α : Type} {r : RowT α} {ρ : Operand → Value} {o : Oper} {w : World} {R : Value → World → Prop}
theorem y_setRo {x y : Operand} {T : Nat → Prop} {v val : Value} {l : List α} {u : α} [hk : r.Ok] (j : Nat) (ho : o.op = .store r.e x y) (hx : ρ x = bytAddr v (j * r.k)) (hy : ρ y = val) (hv : val.cells.toList = r.enc u) (hB : RoO r w T v l) (hj : j < l.length)
    (h : ∀ w', RoO r w' T v (l.set j u) → Kept T w w' → R undef w') : Yields Try.prog ρ o w R := by
  have hc := hB
  rcases hB.1.2 with ⟨rfl, h0⟩ | ⟨g, cap, cur, rfl, hb, hgg, hnc, hcm, hcs, htake⟩
  · omega
  · obtain ⟨i0, hi0, hz0, hz1, hz2⟩ := info_parts hk.info
    have hx' : ρ x = .pointer (some ⟨g, j * r.k, none⟩) := by rw [hx, bytAddr, Addr.add_lit, Nat.zero_add]
    have hle : j * r.k + r.k ≤ l.length * r.k := by rw [← Nat.succ_mul]; exact Nat.mul_le_mul_right _ hj
    have hcap : l.length * r.k ≤ cap * r.k := Nat.mul_le_mul_right _ hnc
    have hul := hk.len u
    have hst := run_storeCells_at Try.prog g (j * r.k) r.e (r.enc u) 0 cur w hgg (by omega) (hk.one u)
    have hvs : val.cells.size = r.k := by rw [← Array.length_toList, hv, hul]
    simp only [Nat.add_zero] at hst
    have e : (execOp ρ o).run Try.prog w = .ok .skip (w.setRow g (cur.toList.take (j * r.k) ++ r.enc u ++ cur.toList.drop (j * r.k + (r.enc u).length)).toArray) ∨ (execOp ρ o).run Try.prog w = .ok (.value undef) (w.setRow g (cur.toList.take (j * r.k) ++ r.enc u ++ cur.toList.drop (j * r.k + (r.enc u).length)).toArray) := by
      have hsv : (storeVar r.e ⟨g, j * r.k, none⟩ val).run Try.prog w = .ok () (w.setRow g (cur.toList.take (j * r.k) ++ r.enc u ++ cur.toList.drop (j * r.k + (r.enc u).length)).toArray) := by
        rw [← hv] at hst ⊢
        simp [storeVar, sizeOf, typeInfo, hi0, hz1, hvs, hst]
      left
      simp only [execOp, ho, hx', hy, Instr.storeAt, Instr.sureAddr, Sem.run_bind, Sem.run_pure, Result.andThen_ok, hsv]
    have hset := flat_set (r := r) l j u hj
    have hrow : RoO r (w.setRow g (cur.toList.take (j * r.k) ++ r.enc u ++ cur.toList.drop (j * r.k + (r.enc u).length)).toArray) T (.slice (some ⟨g, 0, none⟩) l.length cap) (l.set j u) := by
      refine ⟨⟨by rw [flat_len (r := r)], .inr ⟨g, cap, _, by rw [List.length_set], hb, setRow_heap _ _ _ _ _ _ hgg, by rw [List.length_set]; exact hnc, hcm, ?_, ?_⟩⟩, hB.2⟩
      · simp; omega
      · rw [List.length_set, hset, ← htake]
        have hcl : cur.toList.length = cap * r.k := by simpa using hcs
        have hpl : (cur.toList.take (j * r.k) ++ r.enc u).length = j * r.k + r.k := by rw [List.length_append, List.length_take, hul]; omega
        rw [List.toList_toArray, List.take_append, List.take_of_length_le (by rw [hpl]; exact hle), hpl, List.take_take, Nat.min_eq_left (by omega), List.drop_take, hul]
    unfold Yields
    rcases e with e | e <;> rw [e] <;> exact h _ hrow ((Kept.refl T w).setRow g (fun _ => (hB.2 g).2 rfl) _)
theorem y_appendRo {c : Call} {x y : Operand} {T U : Nat → Prop} {v u : Value} {l m : List α} [hk : r.Ok] (ho : o.op = .call c) (hc : c = { callee := .builtin .append, args := #[x, y], argTypes := #[r.t, r.t] }) (hx : ρ x = v) (hy : ρ y = u) (hv : RoO r w T v l) (hu : RoA r w U u m) (hl : l.length + m.length < 549755813888)
    (h : ∀ v' w' T', RoO r w' T' v' (l ++ m) → Grew w T T' → Kept T w w' → R v' w') : Yields Try.prog ρ o w R := by
  subst hc
  obtain ⟨i0, hi0, hz0, hz1, hz2⟩ := info_parts hk.info
  obtain ⟨a, cap, rfl, h1, h2, h3, _, hcu⟩ := hu
  cases a with
  | none =>
    have hc0 := h3 rfl
    subst hc0
    have hm : m = [] := List.eq_nil_of_length_eq_zero (by omega)
    subst hm
    have hr := run_append_owned_none (P := Try.prog) w 0 r.t o.type r.e i0 r.k hk.slice hi0 v _ _ hv.1
    refine (y_val (v := v) (w' := w) (by simp [execOp, ho, resolve, invoke, builtin, hx, hy, hr]) (h v w T (by rw [List.append_nil]; exact hv) (Grew.refl w T) (Kept.refl _ _)))
  | some ad =>
    have hzs : r.z.cells.size = r.k := by rw [← Array.length_toList, hk.cells, hk.len]
    obtain ⟨v', w', hr, hown, hgr, hw⟩ := run_append_whose (P := Try.prog) w r.t o.type r.e i0 r.z r.k r.by_ hk.slice hi0 hz0 hz1 hz2 hzs hk.pos v l.length (l.flatMap r.enc) hv.1 ad m.length cap (m.flatMap r.enc) (flat_len (r := r) m) (fun j x hj => by
      have hp : 0 < m.length := by
        rcases Nat.eq_zero_or_pos m.length with e | e
        · have : m = [] := List.eq_nil_of_length_eq_zero e
          subst this; simp at hj
        · exact e
      obtain ⟨b, off, e, _, hcell⟩ := hcu hp
      cases e
      rw [Addr.add_lit]; exact hcell j x hj) (flat_one (r := r) m) (by unfold maxLen; omega) (by
        have hsm := hk.small
        have : (l.length + m.length) * r.by_ ≤ 549755813888 * 192 := Nat.mul_le_mul (by omega) hsm
        omega)
    refine (y_val (v := v') (w' := w') (by simp [execOp, ho, resolve, invoke, builtin, hx, hy, hr]) (h v' w' _ (RoO.of (by rw [List.length_append, List.flatMap_append]; exact hown)) (fun i hi => ?_) ((Kept.refl T w).grown hgr (fun k e _ => (hv.2 k).2 e))))
    rcases hw with hw | ⟨g, hw, hge⟩
    · exact .inl ((hv.2 i).2 (hw ▸ hi))
    · rw [hw] at hi; cases hi; exact .inr hge
theorem y_builtRo {parts : Array (Nat × Operand)} {n : Nat} {xs : List Operand} {vs : List Value} {l : List α} [hk : r.Ok] (ho : o.op = .buildSlice r.t n parts) (hn : n = l.length) (hp : parts.toList = (xs.zipIdx 0).map fun x => (x.2, x.1)) (hx : xs.map ρ = vs) (hv : (vs.map fun v => v.cells.toList) = l.map r.enc) (h0 : 0 < l.length) (hsz : l.length * r.k ≤ 65536)
    (h : ∀ v w' T, RoO r w' T v l → Grew w noB T → Kept (fun _ => False) w w' → R v w') : Yields Try.prog ρ o w R := by
  subst hn; subst hx
  obtain ⟨i0, hi0, hz0, hz1, hz2⟩ := info_parts hk.info
  have hpos := hk.pos
  have hlp : 0 < l.length * r.k := Nat.mul_pos h0 hpos
  have hlen : xs.length = l.length := by have := congrArg List.length hv; simpa using this
  have hflat : (xs.map ρ).flatMap (fun v => v.cells.toList) = l.flatMap r.enc := by
    rw [List.flatMap_def, List.flatMap_def, hv]
  have hsize : ∀ v ∈ xs.map ρ, v.cells.size = r.k := by
    intro v hv'
    have : v.cells.toList ∈ l.map r.enc := by rw [← hv]; exact List.mem_map.2 ⟨v, hv', rfl⟩
    obtain ⟨x, _, e⟩ := List.mem_map.1 this
    rw [← Array.length_toList, ← e, hk.len]
  have hrun := run_buildSlice (P := Try.prog) w r.t r.e l.length (parts.map fun (i, x) => (i, ρ x)) (l.flatMap r.enc).toArray i0 r.z hk.slice hi0 hz0 (by rw [hz1]; omega) (by rw [hz1]; omega) (by
    rw [hz1]
    have e : (parts.map fun (i, x) => (i, ρ x)).toList = ((xs.map ρ).zipIdx 0).map fun x => (x.2, x.1) := by
      rw [Array.toList_map, hp, List.zipIdx_map, List.map_map, List.map_map]; rfl
    rw [e, Great.fill_whole hpos _ _ hsize (by rw [List.length_map, hlen]; simp), hflat])
  refine (y_val (v := .slice (some ⟨w.heap.size, 0, none⟩) l.length l.length) (w' := w.alloc (.cells (l.flatMap r.enc).toArray r.e)) (by simp [execOp, ho, hrun]) (h _ _ _ (RoO.of ⟨flat_len (r := r) l, .inr ⟨w.heap.size, l.length, _, rfl, Nat.zero_le _, heap_alloc_new _ _, Nat.le_refl _, by unfold maxLen; have := Nat.le_mul_of_pos_right l.length hpos; omega, by rw [List.size_toArray, flat_len (r := r)], ?_⟩⟩) (fun i hi => .inr ?_) ((Kept.refl _ _).alloc _)))
  · rw [List.toList_toArray]; exact List.take_of_length_le (by rw [flat_len (r := r)]; exact Nat.le_refl _)
  · cases hi; exact Nat.le_refl _
theorem y_makeRo0 {x y : Operand} {kl kc : IntKind} {c : Nat} {i j : Int} [hk : r.Ok] (ho : o.op = .makeSlice r.t x y) (hx : ρ x = .int kl i) (hy : ρ y = .int kc j) (hi : i = 0) (hj : j = (c : Int)) (hc : c < 1099511627776)
    (h : ∀ v w' T, RoO r w' T v [] → Grew w noB T → Kept (fun _ => False) w w' → R v w') : Yields Try.prog ρ o w R := by
  subst hi; subst hj
  obtain ⟨i0, hi0, hz0, hz1, hz2⟩ := info_parts hk.info
  have hsm := hk.small
  have hr := run_make (P := Try.prog) w r.t r.e i0 r.z hk.slice hi0 hz0 kl kc 0 c (by omega) (by omega) (by
    rw [hz2]
    have h1 : r.by_ * c ≤ 192 * 1099511627776 := Nat.mul_le_mul hsm (by omega)
    have h2 : ((r.by_ * c : Nat) : Int) = (r.by_ : Int) * (c : Int) := Int.natCast_mul _ _
    omega) (by omega)
  simp only [Int.toNat_natCast, hz1] at hr
  refine y_val (v := .slice (some ⟨w.heap.size, 0, none⟩) 0 c) (w' := w.alloc (.cells (madeCells r.z.cells (c * r.k)) r.e)) (by simp [execOp, ho, hx, hy, hr]) (h _ _ _ (RoO.of ⟨by rw [flat_len (r := r)], .inr ⟨w.heap.size, c, _, rfl, Nat.zero_le _, heap_alloc_new _ _, Nat.zero_le _, by unfold maxLen; omega, size_madeCells _ _, ?_⟩⟩) (fun i hi => .inr ?_) ((Kept.refl _ _).alloc _))
  · simp
  · cases hi; exact Nat.le_refl _
theorem y_cutRo {x hi : Operand} {T : Nat → Prop} {v : Value} {l : List α} {k : IntKind} {i : Int} [hk : r.Ok] (n : Nat) (ho : o.op = .slice r.t x none (some hi) none) (hx : ρ x = v) (hh : ρ hi = .int k i) (hi' : i = (n : Int)) (hb : RoO r w T v l) (hn : n ≤ l.length)
    (h : ∀ v', RoO r w T v' (l.take n) → R v' w) : Yields Try.prog ρ o w R := by
  subst hi'
  obtain ⟨i0, hi0, hz0, hz1, hz2⟩ := info_parts hk.info
  rcases hb.1.2 with ⟨rfl, h0⟩ | ⟨g, cap, cur, rfl, hbb, hgg, hnc, hcm, hcs, htake⟩
  · have hn0 : n = 0 := by omega
    subst hn0
    have b1 : (Instr.sliceBounds true 0 0 none (some (.int k 0)) none).run Try.prog w = .ok (0, 0, 0) w := by
      simp [Instr.sliceBounds, Instr.sliceBound, asIntOf]
    have hh' : ρ hi = .int k 0 := hh
    refine y_val (v := .slice none 0 0) (w' := w) ?_ (h _ (by rw [List.take_zero]; rw [List.eq_nil_of_length_eq_zero h0] at hb; exact hb))
    simp [execOp, ho, hx, hh', Instr.sliceAt, Instr.slice, run_underlying hk.slice, b1, sizeOf, typeInfo, hi0]
  · have hmc : n ≤ cap := by omega
    have b1 : (Instr.sliceBounds true l.length cap none (some (.int k (n : Int))) none).run Try.prog w = .ok (0, n, cap) w := by
      simp [Instr.sliceBounds, Instr.sliceBound, asIntOf, hmc]
    have hlt : (l.take n).length = n := by rw [List.length_take]; omega
    refine y_val (v := .slice (some ⟨g, 0, none⟩) n cap) (w' := w) ?_ (h _ ⟨⟨flat_len (r := r) _, .inr ⟨g, cap, cur, by rw [hlt], hbb, hgg, by rw [hlt]; exact hmc, hcm, hcs, ?_⟩⟩, hb.2⟩)
    · simp [execOp, ho, hx, hh, Instr.sliceAt, Instr.slice, run_underlying hk.slice, b1, sizeOf, typeInfo, hi0, hz1, Addr.add_lit]
    · rw [hlt]
      have e : (l.flatMap r.enc).take (n * r.k) = (l.take n).flatMap r.enc := by
        have h1 := flat_len (r := r) (l.take n)
        rw [hlt] at h1
        conv => lhs; rw [← List.take_append_drop n l, List.flatMap_append]
        rw [List.take_append_of_le_length (by rw [h1]; exact Nat.le_refl _), List.take_of_length_le (by rw [h1]; exact Nat.le_refl _)]
      rw [← e, ← htake, List.take_take, Nat.min_eq_left (Nat.mul_le_mul_right _ hn)]
end
end Go.Proofs.Ythoafgfcoclkbaa
set_option maxRecDepth 100000
namespace Go.Proofs.Ythoafgfcoclkbaa
open Go.RowKit
def Meth (P : Program) (w : World) (t : TypeId) (v : Value) (name : String) (f : FuncId) (rv : Value) : Prop := ∀ n, (method (n + 1) t v name).run P w = .ok (f, rv) w
def rowOf (P : Program) (t : TypeId) (name : String) : Option (Bool × Option (FuncId × Bool)) := (P.info? t).bind fun i => (i.methods.find? fun m => m.name == name).map fun m => (m.path.isEmpty, m.func)
theorem meth_at {P : Program} {t : TypeId} {name : String} {f : FuncId} {b : Bool} (h : rowOf P t name = some (true, some (f, b))) : ∃ i m, P.info? t = some i ∧ i.methods.find? (fun m => m.name == name) = some m ∧ m.path = #[] ∧ m.func = some (f, b) := by
  unfold rowOf at h
  cases hi : P.info? t with
  | none => rw [hi] at h; cases h
  | some i =>
    rw [hi] at h
    cases hm : i.methods.find? (fun m => m.name == name) with
    | none => simp [hm] at h
    | some m =>
      simp [hm] at h
      exact ⟨i, m, rfl, hm, h.1, h.2⟩
theorem meth_ptr {P : Program} {w : World} {t e : TypeId} {v : Value} {name : String} {f : FuncId} (h : rowOf P t name = some (true, some (f, true))) (hu : P.underlying t = some (.pointer e)) : Meth P w t v name f v := by
  intro n
  obtain ⟨i, m, hi, hm, hp, hf⟩ := meth_at h
  simp [method, typeInfo, hi, hm, hp, hf, follow, receiverAt, run_underlying hu, Place.get]
theorem meth_val {P : Program} {w : World} {t e : TypeId} {p : Nat} {u : Value} {d : TypeDesc} {name : String} {f : FuncId} (h : rowOf P t name = some (true, some (f, false))) (hu : P.underlying t = some (.pointer e)) (he : P.underlying e = some d) (hd : plainD d = true) (hc : w.cell? ⟨p, 0, none⟩ = some u) : Meth P w t (.pointer (some ⟨p, 0, none⟩)) name f u := by
  intro n
  obtain ⟨i, m, hi, hm, hp, hf⟩ := meth_at h
  have hA : (isAgg e).run P w = .ok false w := by
    cases d <;> first | (simp [plainD] at hd; done) | simp [isAgg, run_underlying he]
  have hw : ∀ (nm : String), Builtin.ssaWrapNilChk_ #[t] t #[.pointer (some ⟨p, 0, none⟩), strVal "", strVal nm] = pure (.pointer (some ⟨p, 0, none⟩)) := fun _ => rfl
  simp [method, typeInfo, hi, hm, hp, hf, follow, receiverAt, run_underlying hu, Place.get, hw, asAddr, loadVar, hA, hc]
def CallsM (P : Program) (t : TypeId) (v : Value) (name : String) (vs : List Value) (w : World) (S : Ending → World → Prop) : Prop := ∃ f rv, Meth P w t v name f rv ∧ (∀ args w, (callFunc f args).run P w = .ok (.enter f args) w) ∧ Calls P f (rv :: vs).toArray w S
theorem CallsM.mono {P : Program} {t : TypeId} {v : Value} {name : String} {vs : List Value} {w : World} {S S' : Ending → World → Prop} (h : CallsM P t v name vs w S) (k : ∀ e w', S e w' → S' e w') : CallsM P t v name vs w S' := by
  obtain ⟨f, rv, h1, h2, h3⟩ := h; exact ⟨f, rv, h1, h2, h3.mono k⟩
def noIfc : TypeDesc → Bool
  | .interface _ => false
  | _ => true
section
variable {P : Program} {ρ : Operand → Value} {o : Oper} {w : World} {R : Value → World → Prop}
theorem y_ivk {c : Call} {S : Ending → World → Prop} {cx : Operand} {name : String} {t : TypeId} {v : Value} {xs : List Operand} {vs : List Value} (ho : o.op = .call c) (hc : c.callee = .invoke cx name) (hcx : ρ cx = .iface t v) (hx : c.args = xs.toArray)
    (hv : xs.map ρ = vs) (h : CallsM P t v name vs w S) (hS : ∀ e w', S e w' → ∃ v, e = .returned v ∧ R v w') : Yields P ρ o w R := by
  obtain ⟨f, rv, hm, hf, h⟩ := h
  obtain ⟨cl, ag, ts⟩ := c
  simp only at hc hx
  subst hc; subst hx; subst hv
  unfold Yields
  have hm' := hm (P.types.size + 99)
  have e : (execOp ρ o).run P w = .ok (.enter f (rv :: xs.map ρ).toArray) w := by
    have ha : (#[Value.iface t v] ++ (List.map ρ xs).toArray).extract 1 (#[Value.iface t v] ++ (List.map ρ xs).toArray).size = (List.map ρ xs).toArray := by simp [List.take_of_length_le]
    have hd : P.types.size + Made.depth = P.types.size + 99 + 1 := rfl
    simp only [execOp, ho, resolve, hcx, Sem.run_bind, Sem.run_pure, Result.andThen_ok, invoke, List.map_toArray]
    rw [show (#[Value.iface t v] ++ (List.map ρ xs).toArray)[0]? = some (Value.iface t v) by simp]
    simp only [callMethod, Sem.run_bind, run_program, Result.andThen_ok]
    rw [hd, hm']
    simp only [Result.andThen_ok]
    rw [hf, ha]
    simp
  rw [e]
  exact h.mono hS
theorem y_mki {t : TypeId} {x : Operand} {v : Value} (ho : o.op = .makeInterface t x) (hx : ρ x = v) (hc : P.concrete t = true) (h : R (.iface t v) w) : Yields P ρ o w R :=
  y_val (v := .iface t v) (w' := w) (by simp [execOp, ho, hx, run_makeInterface (P := P) w t v hc]) h
theorem y_tas {t xt : TypeId} {x : Operand} {v : Value} {d : TypeDesc} (ho : o.op = .typeAssert x xt t false) (hx : ρ x = .iface t v) (hu : P.underlying t = some d) (hd : noIfc d = true) (h : R v w) : Yields P ρ o w R :=
  y_val (v := v) (w' := w) (by cases d <;> first | (simp [noIfc] at hd; done) | simp [execOp, ho, hx, Instr.typeAssert, run_underlying hu]) h
theorem y_fld {s : TypeId} {x : Operand} {fs : Array Field} {i : Nat} {cs : List Value} {f : Field} {d : TypeDesc} {v : Value} (ho : o.op = .field s x i) (hx : ρ x = .agg cs.toArray) (hu : P.underlying s = some (.struct fs)) (hf : fs[i]? = some f) (ht : P.underlying f.type = some d) (hd : plainD d = true) (hv : cs[f.offset]? = some v) (h : R v w) : Yields P ρ o w R := by
  have hA : (isAgg f.type).run P w = .ok false w := by
    cases d <;> first | (simp [plainD] at hd; done) | simp [isAgg, run_underlying ht]
  have hp : (part f.type cs.toArray f.offset).run P w = .ok v w := by simp [part, hA, hv]
  exact y_val (v := v) (w' := w) (by simp [execOp, ho, hx, Instr.field, run_underlying hu, hf, asAgg, hp]) h
end
end Go.Proofs.Ythoafgfcoclkbaa
set_option maxRecDepth 100000
namespace Go.Proofs.Ythoafgfcoclkbaa
open Go.RowKit
def Arr (w : World) (p : Nat) (t : TypeId) (n : Nat) (b : Nat → Int) : Prop := w.heap[p]? = some (.cells (arrL n b).toArray t (0, 0))
def ArrT (t : TypeId) (n : Nat) : Prop := Try.prog.underlying t = some (.array n 3) ∧ (Try.prog.info? t).map (·.size) = some n ∧ ∀ w, (zeroValue t).run Try.prog w = .ok (.agg (arrL n (fun _ => 0)).toArray) w
theorem ArrT.of {t : TypeId} {n : Nat} (hu : Try.prog.underlying t = some (.array n 3)) (hi : (Try.prog.info? t).map (fun i => (i.zero, i.size)) = some (some (.agg (Array.replicate n (.int .i64 0))), n)) : ArrT t n :=
  ⟨hu, (zero_of_info hi).2, by rw [arrL_zero]; exact (zero_of_info hi).1⟩
theorem ArrT.size {t : TypeId} {n : Nat} (h : ArrT t n) (b : Nat → Int) : (Try.prog.info? t).map (·.size) = some (arrL n b).toArray.size := by rw [List.size_toArray, arrL_length]; exact h.2.1
section
variable {w w' : World} {p n : Nat} {t : TypeId} {b c : Nat → Int}
theorem Arr.all {S : Nat → Prop} (h : Arr w p t n b) (k : Kept S w w') (hn : ¬ S p) : Arr w' p t n b := k.at h hn
theorem Arr.congr (h : Arr w p t n b) (e : ∀ i, i < n → b i = c i) : Arr w p t n c := by unfold Arr at *; rw [← arrL_congr e]; exact h
theorem Arr.cell (h : Arr w p t n b) {i : Nat} (hi : i < n) : w.cell? ⟨p, i, none⟩ = some (.int .i64 (b i)) := by
  rw [cell_of_heap h, List.getElem?_toArray]; exact arrL_at hi
theorem Arr.free (h : Arr w p t n b) (i : Nat) : w.frozen? ⟨p, i, none⟩ = false := frozen_of_heap h
theorem Arr.lt (h : Arr w p t n b) : p < w.heap.size := lt_of_heap h
theorem Arr.set (h : Arr w p t n b) (k : Nat) (x : Int) : Arr (w.setCell ⟨p, k, none⟩ (.int .i64 x)) p t n (upd b k x) := by
  unfold Arr; rw [heap_setCell_same _ _ _ _ h, arrL_set]
theorem Arr.new (w : World) (t : TypeId) (n : Nat) (b : Nat → Int) : Arr (w.alloc (.cells (arrL n b).toArray t)) w.heap.size t n b := heap_alloc_new w _
end
section
variable {ro : Option Nat} {P : Program} {ρ : Operand → Value} {o : Oper} {w : World} {R : Value → World → Prop}
theorem y_buildL {t : TypeId} {l : List (Nat × Operand)} {l' : List (Nat × Value)} {cells : Array Value} {v : Value} (ho : o.op = .build t l.toArray) (hl : l.map (fun p => (p.1, ρ p.2)) = l') (hc : P.built t l' = some cells) (hv : .agg cells = v) (h : R v w) : Yields P ρ o w R := by
  subst hl
  exact y_buildR ho (by rw [← hc]; congr 1; simp) hv h
theorem bpN : ([] : List (Nat × Operand)).map (fun p => (p.1, ρ p.2)) = [] := rfl
theorem bpC {i : Nat} {x : Operand} {v : Value} {xs : List (Nat × Operand)} {vs : List (Nat × Value)} (h : ρ x = v) (h2 : xs.map (fun p => (p.1, ρ p.2)) = vs) : ((i, x) :: xs).map (fun p => (p.1, ρ p.2)) = (i, v) :: vs := by simp [h, ← h2]
end
end Go.Proofs.Ythoafgfcoclkbaa
set_option maxRecDepth 100000
namespace Go.Proofs.Ythoafgfcoclkbaa
def wv (u c : Nat) : Int := ([1, 1, 1, 1, 1, 1, -1, -1, 1, -1, -1, 1, 1, -1, 1, -1] : List Int).getD (4 * u + c) 0
def turn (b : Nat → Int) (i : Nat) : Int :=
  b (4 * (i % 4)) * wv (i / 4) 0 + b (4 * (i % 4) + 1) * wv (i / 4) 1 + b (4 * (i % 4) + 2) * wv (i / 4) 2 + b (4 * (i % 4) + 3) * wv (i / 4) 3
def cl (m x : Int) : Int := max (-m) (min x m)
end Go.Proofs.Ythoafgfcoclkbaa
set_option maxRecDepth 100000
namespace Go.Proofs.Ythoafgfcoclkbaa
structure FD where
  W : Int
  H : Int
  p0 : List Nat
  p1 : List Nat
  p2 : List Nat
def FD.none : FD := ⟨0, 0, [], [], []⟩
def sideB (n : Int) : Bool := decide (8 ≤ n) && decide (n ≤ 64) && decide (Int.tmod n 8 = 0)
theorem rem_nat (q n : Nat) : Int.tmod (q : Int) (n : Int) = ((q % n : Nat) : Int) := by rw [Int.tmod_eq_emod_of_nonneg (by omega)]; rfl
def okF (f : FD) : Prop := sideB f.W = true ∧ sideB f.H = true ∧ (f.p0.length : Int) = f.W * f.H ∧ (f.p1.length : Int) = Int.tdiv (f.W * f.H) 4 ∧ (f.p2.length : Int) = Int.tdiv (f.W * f.H) 4
instance (f : FD) : Decidable (okF f) := by unfold okF; infer_instance
end Go.Proofs.Ythoafgfcoclkbaa
set_option maxRecDepth 100000
namespace Go.Proofs.Ythoafgfcoclkbaa
open Go.RowKit
def upto (k : Nat) (b c : Nat → Int) : Nat → Int := fun i => if i < k then c i else b i
theorem upto_zero (b c : Nat → Int) : upto 0 b c = b := by funext i; simp [upto]
theorem upto_full (b c : Nat → Int) (i : Nat) (hi : i < 16) : upto 16 b c i = c i := by simp [upto, hi]
theorem upto_set (k : Nat) (b c : Nat → Int) : upd (upto k b c) k (c k) = upto (k + 1) b c := by
  funext i
  unfold upd upto
  by_cases h : i = k
  · subst h; simp
  · rw [if_neg h]
    by_cases h2 : i < k
    · rw [if_pos h2, if_pos (by omega)]
    · rw [if_neg h2, if_neg (by omega)]
theorem Blk.first {w : World} {p : Nat} {t : TypeId} {b c : Nat → Int} (h : Blk w p t b) : Blk w p t (upto 0 b c) := by rw [upto_zero]; exact h
theorem Blk.next {w : World} {p : Nat} {t : TypeId} {b c : Nat → Int} {k : Nat} {x : Int} (h : Blk w p t (upd (upto k b c) k x)) (e : x = c k) : Blk w p t (upto (k + 1) b c) := by rw [← upto_set, ← e]; exact h
theorem Blk.last {w : World} {p : Nat} {t : TypeId} {b c : Nat → Int} (h : Blk w p t (upto 16 b c)) : Blk w p t c := h.congr (upto_full b c)
def ps (b : Nat → Int) (r u : Nat) : Nat → Int
  | 0 => 0
  | c + 1 => ps b r u c + b (r * 4 + c) * wv u c
end Go.Proofs.Ythoafgfcoclkbaa
set_option maxRecDepth 100000
namespace Go.Proofs.Ythoafgfcoclkbaa
def alikeF (a b : FD) : Prop := okF a ∧ okF b ∧ a.W = b.W ∧ a.H = b.H
instance (a b : FD) : Decidable (alikeF a b) := by unfold alikeF; infer_instance
def within (w h u v : Int) : Prop := 0 ≤ u ∧ u < w ∧ 0 ≤ v ∧ v < h
instance (w h u v : Int) : Decidable (within w h u v) := by unfold within; infer_instance
end Go.Proofs.Ythoafgfcoclkbaa
set_option maxRecDepth 100000
namespace Go.Proofs.Ythoafgfcoclkbaa
open Go.RowKit
def FrmV (w : World) (v : Value) (f : FD) : Prop := ∃ (a b c : Value) (Ta Tb Tc : Nat → Prop), v = .agg #[.int .i64 f.W, .int .i64 f.H, a, b, c] ∧ Owb w Ta a f.p0 ∧ Owb w Tb b f.p1 ∧ Owb w Tc c f.p2
theorem FrmV.all {w w' : World} {v : Value} {f : FD} (h : FrmV w v f) (k : Kept (fun _ => False) w w') : FrmV w' v f := by
  obtain ⟨a, b, c, Ta, Tb, Tc, e, h1, h2, h3⟩ := h
  exact ⟨a, b, c, Ta, Tb, Tc, e, h1.all k Apart.none, h2.all k Apart.none, h3.all k Apart.none⟩
theorem Stc.apart {w : World} {p : Nat} {t : TypeId} {vs : List Value} {T : Nat → Prop} {v : Value} {l : List Nat} (h : Stc w p t vs) (ho : Owb w T v l) (ht : t ≠ 5) : Apart (onB p) T := fun i hi hT => by
  cases hi
  have hv := (ho.2 _).1 hT
  rcases ho.1.1.2 with ⟨rfl, _⟩ | ⟨g, cap, cur, rfl, _, hg, _⟩
  · cases hv
  · cases hv
    have h' := h
    unfold Stc at h'
    rw [h'] at hg
    cases hg; exact ht rfl
end Go.Proofs.Ythoafgfcoclkbaa
set_option maxRecDepth 100000
namespace Go.Proofs.Ythoafgfcoclkbaa
open Go.RowKit
theorem retB {a b : Bool} (h : a = b) : Ending.returned (.bool a) = .returned (.bool b) := by rw [h]
def Ask1 (w : World) (n : Nat) (v : Value) (g : Nat → Int) : Prop :=
  ∃ (f : FuncId) (cs : List Value), v = .func (.func f) #[] cs.toArray ∧ (∀ args w, (callFunc f args).run Try.prog w = .ok (.enter f args) w) ∧
    ∀ w', Kept (fun _ => False) w w' → ∀ k : Nat, k < n → Calls Try.prog f (.int .i64 (k : Int) :: cs).toArray w' fun e w'' => e = .returned (.int .i64 (g k)) ∧ Kept (fun _ => False) w' w''
theorem Ask1.all {w w' : World} {n : Nat} {v : Value} {g : Nat → Int} (h : Ask1 w n v g) (k : Kept (fun _ => False) w w') : Ask1 w' n v g := by
  obtain ⟨f, cs, e, hf, h⟩ := h
  exact ⟨f, cs, e, hf, fun w2 k2 => h w2 (k.trans k2 (fun _ _ x => x))⟩
def Ask2 (w : World) (n : Nat) (v : Value) (g : Nat → Nat → Int) : Prop :=
  ∃ (f : FuncId) (cs : List Value), v = .func (.func f) #[] cs.toArray ∧ (∀ args w, (callFunc f args).run Try.prog w = .ok (.enter f args) w) ∧
    ∀ w', Kept (fun _ => False) w w' → ∀ i k : Nat, i < n → k < n → Calls Try.prog f (.int .i64 (i : Int) :: .int .i64 (k : Int) :: cs).toArray w' fun e w'' => e = .returned (.int .i64 (g i k)) ∧ Kept (fun _ => False) w' w''
theorem Ask2.all {w w' : World} {n : Nat} {v : Value} {g : Nat → Nat → Int} (h : Ask2 w n v g) (k : Kept (fun _ => False) w w') : Ask2 w' n v g := by
  obtain ⟨f, cs, e, hf, h⟩ := h
  exact ⟨f, cs, e, hf, fun w2 k2 => h w2 (k.trans k2 (fun _ _ x => x))⟩
section
variable {ρ : Operand → Value} {o : Oper} {w : World} {R : Value → World → Prop}
theorem y_fnc {P : Program} {f : FuncId} {xs : List Operand} {vs : List Value} (ho : o.op = .makeFunc (.func f) #[] xs.toArray) (hx : xs.map ρ = vs) (h : R (.func (.func f) #[] vs.toArray) w) : Yields P ρ o w R := by
  subst hx
  exact y_of (v := .func (.func f) #[] (xs.map ρ).toArray) (w' := w) (by simp [execOp, ho, show ∀ cap, (Instr.makeFunc (.func f) #[] cap).run P w = .ok (.func (.func f) #[] cap) w from fun _ => rfl]) h
end
end Go.Proofs.Ythoafgfcoclkbaa
set_option maxRecDepth 100000
namespace Go.Proofs.Ythoafgfcoclkbaa
open Go.RowKit
theorem Byt.row {A B : World} {row : Option Nat} {n : Nat} {T : Nat → Prop} {v : Value} {l : List Nat} (h : Byt A T v l) (hg : A.grownBy B row) (hr : RowNew n A row) : Byt B T v l := by
  obtain ⟨⟨a, cap, rfl, h1, h2, h3, hl, hc⟩, hL, hT⟩ := h
  have k := kept_row hg
  refine ⟨⟨a, cap, rfl, h1, h2, h3, hl, fun hpos => ?_⟩, hL.mono k, hT⟩
  obtain ⟨b, off, rfl, hb, hcell⟩ := hc hpos
  refine ⟨b, off, rfl, Nat.lt_of_lt_of_le hb k.size, fun i hi => (World.cell?_of_block (k.block b hb fun e => ?_)).trans (hcell i hi)⟩
  obtain ⟨_, o, ho, hn⟩ := hr b e.symm
  have := hcell 0 hpos
  unfold World.cell? at this
  simp only at this
  rw [ho] at this
  cases o <;> simp_all [Obj.isCells]
theorem Mrk.far {w : World} {D : Nat} {T : Nat → Prop} (hd : w.heap.size ≤ D) (hL : Live w T) : Apart (onB D) T := fun i hi ht => by
  cases hi
  exact absurd (hL _ ht) (by omega)
section
variable {P : Program} {fn : Func} {N : Nat} {R : Ending → World → Prop} {F : Nat → Value} {w : World}
theorem endm_2 {ms : List Nat} {r1 r2 : ResultVar} {v1 v2 : Value} (hm : F N = markV ms) (ho : Opens ms w) (h : fn.results = #[r1, r2]) (h1 : ResOk P N F (shut ms w) r1 v1) (h2 : ResOk P N F (shut ms w) r2 v2)
    (hR : R (.returned (.tuple #[v1, v2])) (shut ms w)) : endM P fn N R .ret F w := by
  refine ⟨ms, hm, ho, fun a ha => ⟨_, ?_, hR⟩⟩
  cases r1 <;> cases r2 <;> simp only [ResOk] at h1 h2
  · obtain ⟨b1, h1⟩ := h1; obtain ⟨b2, h2⟩ := h2
    rw [← ha.at' _ b1] at h1; rw [← ha.at' _ b2] at h2
    simp [results, h] at *; simp [h1, h2]
  · obtain ⟨b1, h1⟩ := h1; obtain ⟨b2, ad, e, hl⟩ := h2
    rw [← ha.at' _ b1] at h1; rw [← ha.at' _ b2] at e
    simp [results, h] at *; simp [h1, e, asAddr, hl]
  · obtain ⟨b1, ad, e, hl⟩ := h1; obtain ⟨b2, h2⟩ := h2
    rw [← ha.at' _ b1] at e; rw [← ha.at' _ b2] at h2
    simp [results, h] at *; simp [h2, e, asAddr, hl]
  · obtain ⟨b1, ad, e, hl⟩ := h1; obtain ⟨b2, ad2, e2, hl2⟩ := h2
    rw [← ha.at' _ b1] at e; rw [← ha.at' _ b2] at e2
    simp [results, h] at *; simp [e, e2, asAddr, hl, hl2]
end
section
variable {P : Program} {ρ : Operand → Value} {o : Oper} {w : World} {R : Value → World → Prop}
end
end Go.Proofs.Ythoafgfcoclkbaa
set_option maxRecDepth 100000
namespace Go.Proofs.Ythoafgfcoclkbaa
open Go.RowKit
def StepU (U : Nat → Option Nat) (P : Program) (R : World → Prop) (D : List (Option Tmp)) (G H : Nat → Value → World → Prop) (a0 : Act) (i : Nat) (o : Oper) : Prop :=
  ∀ (a : Act) (w : World), R w → (∀ t, some t ∉ D → a.eval (.tmp t) = a0.eval (.tmp t)) → Deps D (fun j v w => (U j = none ∨ U j = some i) → G j v w) a w o.after.toList →
    (goes D o a = true → Yields P a.eval o w (fun v w' => G i v w' ∧ R w' ∧ (∀ j x, j ≠ i → U j ≠ some i → G j x w → G j x w') ∧ (∀ j x, U j ≠ some i → H j x w → H j x w') ∧ ∀ j d, U j = some i → D[j]? = some (some d) → H j (a.eval (.tmp d)) w')) ∧ (goes D o a = false → G i undef w ∧ ∀ j, U j ≠ some i)
def StepsU (U : Nat → Option Nat) (P : Program) (R : World → Prop) (D : List (Option Tmp)) (G H : Nat → Value → World → Prop) (a0 : Act) : Nat → List Oper → Prop
  | _, [] => True
  | i, o :: r => StepU U P R D G H a0 i o ∧ StepsU U P R D G H a0 (i + 1) r
theorem StepsU.at {U : Nat → Option Nat} {P : Program} {R : World → Prop} {D : List (Option Tmp)} {G H : Nat → Value → World → Prop} {a0 : Act} : ∀ {i : Nat} {os : List Oper}, StepsU U P R D G H a0 i os → ∀ k o, os[k]? = some o → StepU U P R D G H a0 (i + k) o := by
  intro i os
  induction os generalizing i with
  | nil => intro _ k o h; simp at h
  | cons x r ih =>
    intro h k o hk
    cases k with
    | zero => simp at hk; subst hk; exact h.1
    | succ k =>
      simp at hk
      have := ih h.2 k o hk
      rwa [show i + 1 + k = i + (k + 1) by omega] at this
end Go.Proofs.Ythoafgfcoclkbaa
