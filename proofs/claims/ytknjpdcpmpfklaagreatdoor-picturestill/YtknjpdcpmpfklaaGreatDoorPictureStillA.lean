/- What PictureStill reaches of my texts, part 1. -/
import Derived.WalkKit
import Derived.WalkSpells
import Derived.WalkLawsBesides
import Derived.BigQuiet
import Derived.BigRegion
import Derived.Deep.QuietTactic
import Derived.Lib.Hide
import Derived.Orders
import Derived.Deep.LoopGhost
import Derived.TacticsIn
import Derived.RangeFuncCalls
import Derived.IntWalk
import Derived.Test.YtknjpdcpmpfklaaGreatDoorChecked
import Derived.Deep.WholeRow
import Derived.Deep.MidRow
import Derived.Laws.Tables
import Derived.ChangeKeysEq
import Derived.ProofKit
import Derived.OpenShut
import Derived.LaidMore
import Derived.Stop.Joined
import Derived.Laws.OwnMore
import Derived.Shelf.Strconv.Itoa0
import Derived.Lib.ItoaNum
import Derived.Test.YtknjpdcpmpfklaaGreatDoorProg
import Derived.Deep.OwnRows
import Derived.Laws.CopyOwn
import Derived.Deep.RegionWith
import Derived.Defers
import Derived.Recover
import Derived.Conc.MuLone
import Derived.Scope
import Derived.RangeFuncLeaves
import Derived.RangeFuncRecord
import Derived.RangeFuncNested
import Derived.LoopNIn
import Derived.Laws.MakeOwn
import Derived.Laws.Cover1
import Derived.Lib.MakeNoZero
import Derived.Laws.Externs
import Derived.Great.BuildSlice
import Derived.MapKept
import Derived.Deep.Strs
import Derived.Laws.BitsAllLaws
import Derived.Lib.SliceRun
import Derived.OrdersIn
import Derived.SevenTiedAt
import Derived.ChangeOld
import Derived.Below
import Derived.Test.YtknjpdcpmpfklaaGreatDoorRows
set_option maxRecDepth 100000
set_option maxHeartbeats 4000000
set_option maxRecDepth 100000
namespace Go.Proofs.YtknjpdcpmpfklaaGreatDoor
open Go.RowKit
structure Kept (S : Nat → Prop) (w w' : World) : Prop where
  os : w'.os = w.os
  tape : w'.tape = w.tape
  output : w'.output = w.output
  size : w.heap.size ≤ w'.heap.size
  block : ∀ k, k < w.heap.size → ¬ S k → w'.heap[k]? = w.heap[k]?
theorem Kept.refl (S : Nat → Prop) (w : World) : Kept S w w := ⟨rfl, rfl, rfl, Nat.le_refl _, fun _ _ _ => rfl⟩
theorem Kept.trans {S S' : Nat → Prop} {a b c : World} (h : Kept S a b) (k : Kept S' b c) (hs : ∀ i, i < a.heap.size → S' i → S i) : Kept S a c :=
  ⟨k.os.trans h.os, k.tape.trans h.tape, k.output.trans h.output, Nat.le_trans h.size k.size,
   fun i hi hn => (k.block i (Nat.lt_of_lt_of_le hi h.size) (fun x => hn (hs i hi x))).trans (h.block i hi hn)⟩
theorem Kept.mono {S S' : Nat → Prop} {a b : World} (h : Kept S a b) (hs : ∀ i, i < a.heap.size → S i → S' i) : Kept S' a b :=
  ⟨h.os, h.tape, h.output, h.size, fun i hi hn => h.block i hi (fun x => hn (hs i hi x))⟩
theorem Kept.drew {S : Nat → Prop} {a w : World} (h : Kept S a w) : Kept S a w.drew := ⟨h.os, h.tape, h.output, h.size, h.block⟩
theorem drewN_all (w : World) (n : Nat) : (w.drewN n).os = w.os ∧ (w.drewN n).tape = w.tape ∧ (w.drewN n).output = w.output ∧ (w.drewN n).heap = w.heap := ⟨rfl, rfl, rfl, rfl⟩
theorem Kept.drewN {S : Nat → Prop} {a w : World} (h : Kept S a w) (n : Nat) : Kept S a (w.drewN n) := by
  obtain ⟨e1, e2, e3, e4⟩ := drewN_all w n
  exact ⟨e1.trans h.os, e2.trans h.tape, e3.trans h.output, by rw [e4]; exact h.size, by rw [e4]; exact h.block⟩
theorem Kept.alloc {S : Nat → Prop} {a w : World} (h : Kept S a w) (o : Obj) : Kept S a (w.alloc o) :=
  h.trans (S' := fun _ => False) ⟨rfl, rfl, rfl, by simp, fun k hk _ => Below.heap_alloc _ _ _ (by omega)⟩ (fun _ _ x => x.elim)
theorem Kept.setCell {S : Nat → Prop} {a w : World} (h : Kept S a w) (p : Addr) (hp : p.block < a.heap.size → S p.block) (u : Value) : Kept S a (w.setCell p u) :=
  h.trans (S' := fun k => k = p.block) ⟨rfl, rfl, rfl, by simp [World.setCell], fun k hk hn => Below.heap_setCell _ _ _ _ hn⟩ (fun i hi x => by subst x; exact hp hi)
theorem Kept.grown {S : Nat → Prop} {a w w' : World} {row : Option Nat} (h : Kept S a w) (hg : w.grownBy w' row) (hr : ∀ k, row = some k → k < a.heap.size → S k) : Kept S a w' :=
  h.trans (S' := fun k => row = some k) ⟨hg.os, hg.tape, hg.output, hg.size, fun k hk hn => hg.block k hk (fun e => hn e.symm)⟩ (fun i hi x => hr i x hi)
theorem Kept.below {S : Nat → Prop} {B : Nat} {w w' : World} (h : Kept S w w') (hB : B ≤ w.heap.size) (hs : ∀ k, k < B → ¬ S k) : Below B w w' :=
  ⟨h.os, h.tape, h.output, h.size, fun k hk => h.block k (by omega) (hs k hk)⟩
theorem Below.kept {w w' : World} (h : Below w.heap.size w w') : Kept (fun _ => False) w w' :=
  ⟨h.os, h.tape, h.output, h.size, fun k hk _ => h.block k hk⟩
theorem lt_of_heap {w : World} {k : Nat} {o : Obj} (h : w.heap[k]? = some o) : k < w.heap.size := (Array.getElem?_eq_some_iff.1 h).1
theorem Kept.at {S : Nat → Prop} {w w' : World} (h : Kept S w w') {k : Nat} {o : Obj} (hk : w.heap[k]? = some o) (hn : ¬ S k) : w'.heap[k]? = some o :=
  (h.block k (lt_of_heap hk) hn).trans hk
theorem heap_setCell_same (w : World) (b off : Nat) (v : Value) {c : Array Value} {e : TypeId} {f : Nat × Nat} (h : w.heap[b]? = some (.cells c e f)) :
    (w.setCell ⟨b, off, none⟩ v).heap[b]? = some (.cells (c.setIfInBounds off v) e f) := by
  simp [World.setCell, Array.getElem?_modify, h]
theorem heap_setCell_other (w : World) (b off k : Nat) (v : Value) (h : k ≠ b) : (w.setCell ⟨b, off, none⟩ v).heap[k]? = w.heap[k]? :=
  Below.heap_setCell w ⟨b, off, none⟩ v k h
theorem cell_of_heap {w : World} {b off : Nat} {c : Array Value} {e : TypeId} {f : Nat × Nat} (h : w.heap[b]? = some (.cells c e f)) : w.cell? ⟨b, off, none⟩ = c[off]? := by
  simp [World.cell?, h]
theorem frozen_of_heap {w : World} {b off : Nat} {c : Array Value} {e : TypeId} (h : w.heap[b]? = some (.cells c e (0, 0))) : w.frozen? ⟨b, off, none⟩ = false := by
  simp [World.frozen?, h]
theorem run_append_whose {P : Program} (w : World) (t ty e : TypeId) (i : TypeInfo) (z : Value) (size bytes : Nat) (ht : P.underlying t = some (.slice e)) (hi : P.info? e = some i) (hz : i.zero = some z)
    (hsize : i.size = size) (hby : i.bytes = bytes) (hzs : z.cells.size = size) (hsz : 0 < size)
    (v : Value) (n : Nat) (xs : List Value) (hown : w.ownsRow 0 e size v n xs)
    (a : Addr) (m c : Nat) (news : List Value) (hl : news.length = m * size) (hnews : ∀ j u, news[j]? = some u → w.cell? (a.add j) = some u) (h1 : ∀ u ∈ news, u.oneCell' = true)
    (h63 : n + m ≤ maxLen) (hbytes : (n + m) * bytes ≤ 140737488355328) :
    ∃ v' w', (Builtin.append_ #[t, t] ty #[v, .slice (some a) m c]).run P w = .ok v' w' ∧ w'.ownsRow 0 e size v' (n + m) (xs ++ news) ∧ w.grownBy w' v.ownBlock ∧
      (v'.ownBlock = v.ownBlock ∨ ∃ g, v'.ownBlock = some g ∧ w.heap.size ≤ g) := by
  obtain ⟨v', w', hr, ho, hg, _⟩ := run_append_own (P := P) w 0 t ty e i z size bytes ht hi hz hsize hby hzs hsz v n xs hown a m c news hl hnews h1 h63 hbytes (Nat.zero_le _)
  refine ⟨v', w', hr, ho, hg, ?_⟩
  rcases hown.2 with ⟨rfl, rfl⟩ | ⟨g, cap, cur, rfl, _, hgg, hnc, hcm, hcs, htake⟩
  · have hx : xs = [] := List.eq_nil_of_length_eq_zero (by simpa using hown.1)
    subst hx
    obtain ⟨v2, w2, hr2, ho2, _, _⟩ := run_append_own (P := P) w w.heap.size t ty e i z size bytes ht hi hz hsize hby hzs hsz _ 0 [] (World.ownsRow_nil w w.heap.size e size) a m c news hl hnews h1 h63 hbytes (Nat.le_refl _)
    rw [hr] at hr2
    cases hr2
    rcases ho2.2 with ⟨rfl, _⟩ | ⟨g, cap, cur, rfl, hb, _⟩
    · exact .inl rfl
    · exact .inr ⟨g, rfl, hb⟩
  · subst hsize
    by_cases hroom : n + m ≤ cap
    · have hfit : n * i.size + news.length ≤ cur.size := by rw [hl, hcs, ← Nat.add_mul]; exact Nat.mul_le_mul_right _ hroom
      have hr2 := run_append_room (P := P) w t ty e i ht hi g n cap cur hgg a m c news hl hnews h1 hroom hfit
      rw [hr] at hr2
      cases hr2
      exact .inl rfl
    · subst hby
      have hr2 := run_append_grow (P := P) w t ty e i z ht hi hz ⟨g, 0, none⟩ n cap xs hown.1 (hown.cells (g := g) rfl) a m c news hl hnews (by omega) (by unfold maxLen at h63; omega) (growslice_fits (by omega) hbytes)
      rw [hr] at hr2
      cases hr2
      exact .inr ⟨w.heap.size, rfl, Nat.le_refl _⟩
theorem wpList_append_whose {P : Program} (w : World) {ops : Array Oper} {rest : List Oper} {o : Oper} {a : Act} {Q : Exit → Act → World → Prop} (hgd : o.guard = none) (s x : Operand) (t : TypeId)
    (ho : o.op = .call { callee := .builtin .append, args := #[s, x], argTypes := #[t, t] })
    (e : TypeId) (i : TypeInfo) (z : Value) (size bytes : Nat) (ht : P.underlying t = some (.slice e)) (hi : P.info? e = some i) (hz : i.zero = some z)
    (hsize : i.size = size) (hby : i.bytes = bytes) (hzs : z.cells.size = size) (hsz : 0 < size)
    (v : Value) (n : Nat) (xs : List Value) (hs : a.eval s = v) (hown : w.ownsRow 0 e size v n xs)
    (ad : Addr) (m c : Nat) (news : List Value) (hx : a.eval x = .slice (some ad) m c) (hl : news.length = m * size) (hnews : ∀ j u, news[j]? = some u → w.cell? (ad.add j) = some u) (h1 : ∀ u ∈ news, u.oneCell' = true)
    (h63 : n + m ≤ maxLen) (hbytes : (n + m) * bytes ≤ 140737488355328)
    (h : ∀ v' w', w'.ownsRow 0 e size v' (n + m) (xs ++ news) → w.grownBy w' v.ownBlock → (v'.ownBlock = v.ownBlock ∨ ∃ g, v'.ownBlock = some g ∧ w.heap.size ≤ g) → wpList P ops Q rest (a.put o.dst v') w') : wpList P ops Q (o :: rest) a w := by
  refine wpList_plain hgd fun K hK => ?_
  obtain ⟨v', w', hr, h2, h3, h4⟩ := run_append_whose (P := P) w t o.type e i z size bytes ht hi hz hsize hby hzs hsz v n xs hown ad m c news hl hnews h1 h63 hbytes
  unfold Oper.wp execOp
  simp only [ho, resolve, invoke, builtin, Sem.run_bind, Sem.run_pure, Result.andThen_ok, List.map_toArray, List.map_cons, List.map_nil, hs, hx, hr]
  exact hK _ _ (h v' w' h2 h3 h4)
end Go.Proofs.YtknjpdcpmpfklaaGreatDoor
set_option maxRecDepth 100000
namespace Go.Proofs.YtknjpdcpmpfklaaGreatDoor
open Go.RowKit
def Yields (P : Program) (ρ : Operand → Value) (o : Oper) (w : World) (R : Value → World → Prop) : Prop :=
  match (execOp ρ o).run P w with
  | .ok (.value v) w' => R v w'
  | .ok .skip w' => R undef w'
  | .ok (.enter f args) w' => Calls P f args w' fun e w'' => ∃ v, e = .returned v ∧ R v w''
  | _ => False
theorem Yields.wp {P : Program} {a : Act} {o : Oper} {w : World} {K : Act → World → Prop} {Q : Exit → Act → World → Prop} (h : Yields P a.eval o w (fun v w' => K (a.put o.dst v) w')) : o.wp P a w K Q := by
  unfold Yields at h
  unfold Oper.wp
  generalize (execOp a.eval o).run P w = r at *
  cases r with
  | ok n w' =>
    cases n <;> simp only [Oper.upon] at h ⊢ <;> first
      | exact h
      | exact h.elim
      | exact Calls.mono h (fun e w'' ⟨v, he, hk⟩ => by subst he; exact hk)
  | halt x w' => exact h.elim
def goes (D : List (Option Tmp)) (o : Oper) (a : Act) : Bool :=
  match o.guard with
  | none => true
  | some (j, want) => match D.getD j none with
    | none => false
    | some d => match a.eval (.tmp d) with
      | .bool b => b == want
      | _ => false
def Deps (D : List (Option Tmp)) (G : Nat → Value → World → Prop) (a : Act) (w : World) : List Edge → Prop
  | [] => True
  | e :: r => (Region.binds .any e = true → match D.getD e.on none with
    | some d => G e.on (a.eval (.tmp d)) w
    | none => True) ∧ Deps D G a w r
def Step (P : Program) (R : World → World → Prop) (D : List (Option Tmp)) (G : Nat → Value → World → Prop) (a0 : Act) (w0 : World) (i : Nat) (o : Oper) : Prop :=
  ∀ (a : Act) (w : World), R w0 w → (∀ t, some t ∉ D → a.eval (.tmp t) = a0.eval (.tmp t)) → Deps D G a w o.after.toList →
    (goes D o a = true → Yields P a.eval o w (fun v w' => G i v w' ∧ R w w')) ∧ (goes D o a = false → G i undef w)
def Steps (P : Program) (R : World → World → Prop) (D : List (Option Tmp)) (G : Nat → Value → World → Prop) (a0 : Act) (w0 : World) : Nat → List Oper → Prop
  | _, [] => True
  | i, o :: r => Step P R D G a0 w0 i o ∧ Steps P R D G a0 w0 (i + 1) r
def putAll (v : Nat → Value) : Nat → List (Option Tmp) → Act → Act
  | _, [], a => a
  | i, d :: r, a => putAll v (i + 1) r (a.put d (v i))
def plain (size : Nat) : Nat → List (Option Tmp) → List Oper → Bool
  | _, [], [] => true
  | i, d :: D, o :: r => (o.dst == d) && (match d with | none => true | some d => decide (d < size) && !D.contains (some d)) && (o.after.toList.all fun e => !Region.binds .any e || decide (e.on < i)) && plain size (i + 1) D r
  | _, _, _ => false
theorem plain_at {size : Nat} : ∀ {i : Nat} {D : List (Option Tmp)} {os : List Oper}, plain size i D os = true → D.length = os.length ∧ ∀ k o, os[k]? = some o →
    D[k]? = some o.dst ∧ (∀ d, o.dst = some d → d < size ∧ ∀ j, k < j → D[j]? ≠ some (some d)) ∧ ∀ e ∈ o.after.toList, Region.binds .any e = true → e.on < i + k := by
  intro i D os
  induction os generalizing i D with
  | nil =>
    intro h
    cases D with
    | nil => exact ⟨rfl, by simp⟩
    | cons d D => simp [plain] at h
  | cons o r ih =>
    intro h
    cases D with
    | nil => simp [plain] at h
    | cons d D =>
      simp only [plain, Bool.and_eq_true] at h
      obtain ⟨⟨⟨h1, h2⟩, h3⟩, h4⟩ := h
      have hd : o.dst = d := by simpa using h1
      obtain ⟨hl, hr⟩ := ih h4
      refine ⟨by simp [hl], fun k o' hk => ?_⟩
      cases k with
      | zero =>
        simp at hk
        subst hk
        refine ⟨by simp [hd], fun d' hd' => ?_, fun e he hb => ?_⟩
        · rw [hd'] at hd
          subst hd
          simp only [Bool.and_eq_true, decide_eq_true_eq, Bool.not_eq_true', List.contains_eq_mem, decide_eq_false_iff_not] at h2
          refine ⟨h2.1, fun j hj hD => ?_⟩
          cases j with
          | zero => omega
          | succ j => exact h2.2 (List.mem_of_getElem? (by simpa using hD))
        · have := List.all_eq_true.1 h3 e he
          simp [hb] at this; omega
      | succ k =>
        simp at hk
        obtain ⟨g1, g2, g3⟩ := hr k o' hk
        refine ⟨by simpa using g1, fun d' hd' => ⟨(g2 d' hd').1, fun j hj => ?_⟩, fun e he hb => by have := g3 e he hb; omega⟩
        cases j with
        | zero => omega
        | succ j => simpa using (g2 d' hd').2 j (by omega)
theorem Steps.at {P : Program} {R : World → World → Prop} {D : List (Option Tmp)} {G : Nat → Value → World → Prop} {a0 : Act} {w0 : World} : ∀ {i : Nat} {os : List Oper}, Steps P R D G a0 w0 i os → ∀ k o, os[k]? = some o → Step P R D G a0 w0 (i + k) o := by
  intro i os
  induction os generalizing i with
  | nil => intro _ k o h; simp at h
  | cons x r ih =>
    intro h k o hk
    cases k with
    | zero => simp at hk; subst hk; exact h.1
    | succ k =>
      simp at hk
      have := ih h.2 k o hk
      rwa [show i + 1 + k = i + (k + 1) by omega] at this
theorem Deps.mk {D : List (Option Tmp)} {G : Nat → Value → World → Prop} {a : Act} {w : World} : ∀ {es : List Edge}, (∀ e ∈ es, Region.binds .any e = true → ∀ d, D.getD e.on none = some d → G e.on (a.eval (.tmp d)) w) → Deps D G a w es := by
  intro es
  induction es with
  | nil => intro _; exact trivial
  | cons e r ih =>
    intro h
    refine ⟨fun hb => ?_, ih fun e' he' => h e' (by simp [he'])⟩
    split
    · exact h e (by simp) hb _ ‹_›
    · trivial
structure Mid (ops : Array Oper) (R : World → World → Prop) (D : List (Option Tmp)) (G : Nat → Value → World → Prop) (a0 : Act) (w0 : World) (v : Nat → Value) (listed : Array Bool) (a : Act) (w : World) : Prop where
  size : a.tmps.size = a0.tmps.size
  ls : listed.size = ops.size
  defers : a.defers = a0.defers
  rel : R w0 w
  out : ∀ t, (∀ j, listed.getD j false = true → D[j]? ≠ some (some t)) → a.tmps.getD t undef = a0.tmps.getD t undef
  here : ∀ j d, listed.getD j false = true → D[j]? = some (some d) → a.tmps.getD d undef = v j
  good : ∀ j, listed.getD j false = true → G j (v j) w
theorem getD_set_true (l : Array Bool) (i j : Nat) (hi : i < l.size) : (l.setIfInBounds i true).getD j false = (if j = i then true else l.getD j false) := by
  by_cases h : j = i
  · subst h; simp [Array.getD, hi]
  · rw [if_neg h]
    by_cases hj : j < l.size
    · simp [Array.getD, hj, Ne.symm h]
    · simp [Array.getD, hj]
theorem getD_same (l : Array Bool) (y : Nat) (h : y < l.size) : l.getD y true = l.getD y false := by simp [Array.getD, h]
theorem mem_ready {md : Region.Mode} {ops : Array Oper} {listed : Array Bool} {i : Nat} (h : i ∈ Region.ready md ops listed) :
    i < ops.size ∧ listed.getD i true = false ∧ ∃ o, ops[i]? = some o ∧ ∀ e ∈ o.after.toList, Region.binds md e = true → listed.getD e.on false = true := by
  unfold Region.ready at h
  obtain ⟨h1, h2⟩ := List.mem_filter.1 h
  have hi : i < ops.size := by simpa using h1
  simp only [Bool.and_eq_true, Bool.not_eq_true'] at h2
  refine ⟨hi, h2.1, ops[i], by simp [hi], fun e he hb => ?_⟩
  have h3 := h2.2
  simp only [Array.getElem?_eq_getElem hi, Option.map_some, Option.getD_some] at h3
  have h4 := (Array.all_eq_true'.1 h3) e (by simpa using he)
  simpa [hb] using h4
theorem all_listed {ops : Array Oper} {listed : Array Bool} (hb : ∀ (k : Nat) (o : Oper), ops[k]? = some o → ∀ e ∈ o.after.toList, Region.binds .any e = true → e.on < k) (hr : Region.ready .any ops listed = []) (hls : listed.size = ops.size) : ∀ i, i < ops.size → listed.getD i false = true := by
  intro i
  induction i using Nat.strongRecOn with
  | _ i ih =>
    intro hi
    cases hl : listed.getD i false with
    | true => rfl
    | false =>
      have hmem : i ∈ Region.ready .any ops listed := by
        unfold Region.ready
        refine List.mem_filter.2 ⟨by simpa using hi, ?_⟩
        have hl2 : listed.getD i true = false := by
          have : i < listed.size := by omega
          simpa [Array.getD, this] using hl
        simp only [hl2, Array.getElem?_eq_getElem hi, Option.map_some, Option.getD_some, Bool.not_false, Bool.true_and]
        refine Array.all_eq_true'.2 fun e he => ?_
        cases hbe : Region.binds .any e with
        | false => rfl
        | true =>
          have hlt := hb i ops[i] (by simp [hi]) e (by simpa using he) hbe
          have := ih e.on hlt (by omega)
          simp only [this, Bool.or_true]
      rw [hr] at hmem
      cases hmem
theorem putAll_frame (v : Nat → Value) : ∀ (D : List (Option Tmp)) (i : Nat) (a : Act), (putAll v i D a).tmps.size = a.tmps.size ∧ (putAll v i D a).defers = a.defers ∧
    (∀ t, some t ∉ D → (putAll v i D a).tmps.getD t undef = a.tmps.getD t undef) ∧
    (∀ j d, D[j]? = some (some d) → (∀ k, j < k → D[k]? ≠ some (some d)) → d < a.tmps.size → (putAll v i D a).tmps.getD d undef = v (i + j)) := by
  intro D
  induction D with
  | nil => intro i a; exact ⟨rfl, rfl, fun _ _ => rfl, fun j d h => by simp at h⟩
  | cons x r ih =>
    intro i a
    obtain ⟨h1, h2, h3, h4⟩ := ih (i + 1) (a.put x (v i))
    have hs : (a.put x (v i)).tmps.size = a.tmps.size := by cases x <;> simp [Act.put]
    have hd : (a.put x (v i)).defers = a.defers := by cases x <;> rfl
    refine ⟨h1.trans hs, h2.trans hd, fun t ht => ?_, fun j d hj hlast hlt => ?_⟩
    · simp only [List.mem_cons, not_or] at ht
      rw [putAll, h3 t ht.2]
      cases x with
      | none => rfl
      | some y =>
        have hne : y ≠ t := fun e => ht.1 (by rw [e])
        simp only [Act.put, Array.getD_eq_getD_getElem?, Array.getElem?_setIfInBounds_ne hne]
    · cases j with
      | zero =>
        simp at hj
        subst hj
        have hn : some d ∉ r := by
          intro hm
          obtain ⟨k, hk⟩ := List.mem_iff_getElem?.1 hm
          exact hlast (k + 1) (by omega) (by simpa using hk)
        rw [putAll, h3 d hn]
        simp [Act.put, Array.getD_eq_getD_getElem?, hlt]
      | succ j =>
        have := h4 j d (by simpa using hj) (fun k hk => by simpa using hlast (k + 1) (by omega)) (by rw [hs]; exact hlt)
        rw [putAll, this]; congr 1; omega
theorem wpAny_each {P : Program} {ops : Array Oper} {Q : Exit → Act → World → Prop} {a0 : Act} {w0 : World} (R : World → World → Prop) (D : List (Option Tmp)) (G : Nat → Value → World → Prop)
    (hpl : plain a0.tmps.size 0 D ops.toList = true) (hrf : ∀ a, R a a) (htr : ∀ a b c, R a b → R b c → R a c) (hst : ∀ i v w w', G i v w → R w w' → G i v w') (hsteps : Steps P R D G a0 w0 0 ops.toList)
    (hend : ∀ (v : Nat → Value) (w : World), R w0 w → (∀ i, i < ops.size → G i (v i) w) → Q .normal (putAll v 0 D a0) w) :
    ∀ (fuel : Nat) (listed : Array Bool) (v : Nat → Value) (a : Act) (w : World), Mid ops R D G a0 w0 v listed a w → (fuel = 0 → Region.ready .any ops listed = []) →
      (List.range ops.size).countP (fun i => !listed.getD i false) ≤ fuel → wpAny P .any ops Q fuel listed a w := by
  obtain ⟨hDl, hpa⟩ := plain_at hpl
  have hlen : D.length = ops.size := by simpa using hDl
  have hback : ∀ (k : Nat) (o : Oper), ops[k]? = some o → ∀ e ∈ o.after.toList, Region.binds .any e = true → e.on < k := by
    intro k o hk e he hb
    have := (hpa k o (by simpa using hk)).2.2 e he hb
    omega
  have fin : ∀ (listed : Array Bool) (v : Nat → Value) (a : Act) (w : World), Mid ops R D G a0 w0 v listed a w → Region.ready .any ops listed = [] → Q .normal a w := by
    intro listed v a w hm hr
    have hall := all_listed hback hr hm.ls
    have hp := putAll_frame v D 0 a0
    have ha : a = putAll v 0 D a0 := by
      have ht : a.tmps = (putAll v 0 D a0).tmps := by
        apply Array.ext
        · rw [hm.size, hp.1]
        · intro t h1 h2
          have e : a.tmps.getD t undef = (putAll v 0 D a0).tmps.getD t undef := by
            by_cases hmem : some t ∈ D
            · obtain ⟨j, hj⟩ := List.mem_iff_getElem?.1 hmem
              have hjs : j < ops.size := by rw [← hlen]; exact (List.getElem?_eq_some_iff.1 hj).1
              obtain ⟨g1, g2, _⟩ := hpa j ops[j] (by simp [hjs])
              have hdst : ops[j].dst = some t := by rw [hj] at g1; exact (Option.some.inj g1).symm
              obtain ⟨k1, k2⟩ := g2 t hdst
              rw [hm.here j t (hall j hjs) hj, hp.2.2.2 j t hj k2 k1, Nat.zero_add]
            · rw [hp.2.2.1 t hmem, hm.out t (fun j _ hj => hmem (List.mem_of_getElem? hj))]
          simpa [Array.getD_eq_getD_getElem?, h1, h2] using e
      have hd : a.defers = (putAll v 0 D a0).defers := by rw [hm.defers, hp.2.1]
      cases a
      cases hq : putAll v 0 D a0
      rw [hq] at ht hd
      simp only at ht hd
      rw [ht, hd]
    rw [ha]
    exact hend v w hm.rel (fun i hi => hm.good i (hall i hi))
  intro fuel
  induction fuel with
  | zero =>
    intro listed v a w hm h0 _
    exact ⟨h0 rfl, fin listed v a w hm (h0 rfl)⟩
  | succ fuel ih =>
    intro listed v a w hm _ hcount
    refine ⟨fin listed v a w hm, fun i hi => ?_⟩
    obtain ⟨hlt, hnl, o, ho, haft⟩ := mem_ready hi
    have hlsz : i < listed.size := by rw [hm.ls]; exact hlt
    have hnl' : listed.getD i false = false := by simpa [Array.getD, hlsz] using hnl
    obtain ⟨g1, g2, g3⟩ := hpa i o (by simpa using ho)
    have hstep := hsteps.at i o (by simpa using ho)
    rw [Nat.zero_add] at hstep
    have hout : ∀ t, some t ∉ D → a.eval (.tmp t) = a0.eval (.tmp t) := fun t ht => hm.out t (fun j _ hj => ht (List.mem_of_getElem? hj))
    have hdeps : Deps D G a w o.after.toList := Deps.mk fun e he hb d hd => by
      have hl := haft e he hb
      have hlt' := hback i o ho e he hb
      have hDe : D[e.on]? = some (some d) := by
        have hlt2 : e.on < D.length := by rw [hlen]; omega
        simp only [List.getD, List.getElem?_eq_getElem hlt2, Option.getD_some] at hd
        rw [List.getElem?_eq_getElem hlt2, hd]
      have := hm.here e.on d hl hDe
      show G e.on (a.tmps.getD d undef) w
      rw [this]; exact hm.good e.on hl
    obtain ⟨s1, s2⟩ := hstep a w hm.rel hout hdeps
    -- what is left when it answers x in the world w'
    have next : ∀ (x : Value) (w' : World), G i x w' → R w w' → wpAny P .any ops Q fuel (listed.setIfInBounds i true) (a.put o.dst x) w' := by
      intro x w' hG hR
      have hcnt : (List.range ops.size).countP (fun j => !(listed.setIfInBounds i true).getD j false) ≤ fuel := by
        have h1 : (List.range ops.size).countP (fun j => !(listed.setIfInBounds i true).getD j false) < (List.range ops.size).countP (fun j => !listed.getD j false) := by
          have hmemi : i ∈ List.range ops.size := by simpa using hlt
          have key : ∀ (l : List Nat), i ∈ l → (∀ j, (!(listed.setIfInBounds i true).getD j false) = true → (!listed.getD j false) = true) → l.countP (fun j => !(listed.setIfInBounds i true).getD j false) < l.countP (fun j => !listed.getD j false) := by
            intro l
            induction l with
            | nil => intro h; cases h
            | cons y r ihl =>
              intro hy himp
              have hle : r.countP (fun j => !(listed.setIfInBounds i true).getD j false) ≤ r.countP (fun j => !listed.getD j false) := List.countP_mono_left fun j _ hj => himp j hj
              by_cases hyi : y = i
              · subst hyi
                have e1 : (!(listed.setIfInBounds y true).getD y false) = false := by rw [getD_set_true _ _ _ hlsz, if_pos rfl]; rfl
                have e2 : (!listed.getD y false) = true := by rw [hnl']; rfl
                rw [List.countP_cons, List.countP_cons]
                simp only [e1, e2, if_true, Bool.false_eq_true, if_false]
                omega
              · have hir : i ∈ r := by
                  rcases List.mem_cons.1 hy with h | h
                  · exact absurd h.symm hyi
                  · exact h
                have := ihl hir himp
                rw [List.countP_cons, List.countP_cons]
                have e3 : (listed.setIfInBounds i true).getD y false = listed.getD y false := by rw [getD_set_true _ _ _ hlsz, if_neg hyi]
                rw [e3]; omega
          refine key _ hmemi fun j hj => ?_
          rw [getD_set_true _ _ _ hlsz] at hj
          by_cases hji : j = i
          · rw [if_pos hji] at hj; cases hj
          · rwa [if_neg hji] at hj
        omega
      have hmid : Mid ops R D G a0 w0 (fun j => if j = i then x else v j) (listed.setIfInBounds i true) (a.put o.dst x) w' := by
        refine ⟨?_, by simpa using hm.ls, ?_, htr _ _ _ hm.rel hR, ?_, ?_, ?_⟩
        · rw [← hm.size]; cases o.dst <;> simp [Act.put]
        · rw [← hm.defers]; cases o.dst <;> rfl
        · intro t ht
          have hold := hm.out t (fun j hj => ht j (by rw [getD_set_true _ _ _ hlsz]; split <;> first | rfl | exact hj))
          have hne : o.dst ≠ some t := by
            intro e
            exact ht i (by rw [getD_set_true _ _ _ hlsz, if_pos rfl]) (by rw [g1, e])
          rw [← hold]
          cases hd : o.dst with
          | none => rfl
          | some d =>
            have : d ≠ t := fun e => hne (by rw [hd, e])
            simp only [Act.put, Array.getD_eq_getD_getElem?, Array.getElem?_setIfInBounds_ne this]
        · intro j d hj hD
          by_cases hji : j = i
          · subst hji
            have hd : o.dst = some d := by rw [g1] at hD; exact Option.some.inj hD
            have hsz : d < a.tmps.size := by rw [hm.size]; exact (g2 d hd).1
            simp [hd, Act.put, Array.getD_eq_getD_getElem?, hsz]
          · rw [getD_set_true _ _ _ hlsz, if_neg hji] at hj
            have hold := hm.here j d hj hD
            rw [if_neg hji, ← hold]
            cases hd : o.dst with
            | none => rfl
            | some y =>
              have hne : y ≠ d := by
                rintro rfl
                rw [hd] at g1
                rcases Nat.lt_or_gt_of_ne hji with hlt2 | hgt2
                · have hjs : j < ops.size := by rw [← hlen]; exact (List.getElem?_eq_some_iff.1 hD).1
                  obtain ⟨k1, k2, _⟩ := hpa j ops[j] (by simp [hjs])
                  have hdst : ops[j].dst = some y := by rw [hD] at k1; exact (Option.some.inj k1).symm
                  exact (k2 y hdst).2 i hlt2 g1
                · exact (g2 y hd).2 j hgt2 hD
              simp only [Act.put, Array.getD_eq_getD_getElem?, Array.getElem?_setIfInBounds_ne hne]
        · intro j hj
          by_cases hji : j = i
          · subst hji; simpa using hG
          · rw [getD_set_true _ _ _ hlsz, if_neg hji] at hj
            simp only [if_neg hji]
            exact hst _ _ _ _ (hm.good j hj) hR
      refine ih _ _ _ _ hmid ?_ hcnt
      intro hz
      subst hz
      have hz0 : (List.range ops.size).countP (fun j => !(listed.setIfInBounds i true).getD j false) = 0 := by omega
      rw [List.countP_eq_zero] at hz0
      cases hr : Region.ready .any ops (listed.setIfInBounds i true) with
      | nil => rfl
      | cons y r =>
        have hy : y ∈ Region.ready .any ops (listed.setIfInBounds i true) := by rw [hr]; simp
        obtain ⟨q1, q2, _⟩ := mem_ready hy
        have := hz0 y (by simpa using q1)
        have hys : y < (listed.setIfInBounds i true).size := by simp [hm.ls]; exact q1
        have q3 : (listed.setIfInBounds i true).getD y false = false := by rw [← getD_same _ y hys]; exact q2
        rw [q3] at this
        exact absurd rfl this
    have hwant : Region.wanted o (yielded ops a.tmps) = goes D o a := by
      unfold Region.wanted goes
      cases hg : o.guard with
      | none => rfl
      | some p =>
        obtain ⟨j, want⟩ := p
        simp only [yielded]
        by_cases hj : j < ops.size
        · obtain ⟨k1, k2, _⟩ := hpa j ops[j] (by simp [hj])
          have hDj : D.getD j none = ops[j].dst := by simp [List.getD, k1]
          rw [hDj]
          simp only [Array.getElem?_eq_getElem hj, Option.bind_some]
          cases hd : ops[j].dst with
          | none => simp
          | some d =>
            have hsz : d < a.tmps.size := by rw [hm.size]; exact (k2 d hd).1
            simp only [Option.bind_some, Array.getElem?_eq_getElem hsz]
            have he : a.eval (.tmp d) = a.tmps[d] := by simp [Act.eval, Array.getD, hsz]
            rw [he]
            cases a.tmps[d] <;> simp
        · have hDj : D.getD j none = none := by simp [List.getD, List.getElem?_eq_none (show D.length ≤ j by omega)]
          rw [hDj]
          simp [Array.getElem?_eq_none (show ops.size ≤ j by omega)]
    unfold wpOp
    rw [ho]
    simp only [hwant]
    cases hgo : goes D o a with
    | true =>
      simp only [if_true]
      refine .inl (Yields.wp ?_)
      have := s1 hgo
      revert this
      unfold Yields
      generalize (execOp a.eval o).run P w = res
      intro h
      cases res with
      | ok n w' =>
        cases n <;> simp only at h ⊢ <;> first
          | exact next _ _ h.1 h.2
          | exact h.elim
          | exact Calls.mono h (fun e w'' ⟨y, he, hk⟩ => ⟨y, he, next _ _ hk.1 hk.2⟩)
      | halt y w' => exact h.elim
    | false =>
      simp only [Bool.false_eq_true, if_false]
      exact next undef w (s2 hgo) (hrf w)
theorem wp_region_each {P : Program} {id : Nat} {ops : Array Oper} {Q : Exit → Act → World → Prop} {a0 : Act} {w0 : World} (R : World → World → Prop) (D : List (Option Tmp)) (G : Nat → Value → World → Prop)
    (hm : P.follows .mixedOrders = true) (hpl : plain a0.tmps.size 0 D ops.toList = true) (hrf : ∀ a, R a a) (htr : ∀ a b c, R a b → R b c → R a c) (hdr : R w0 w0.drew) (hst : ∀ i v w w', G i v w → R w w' → G i v w')
    (hsteps : Steps P R D G a0 w0 0 ops.toList)
    (hend : ∀ (v : Nat → Value) (w : World), R w0 w → (∀ i, i < ops.size → G i (v i) w) → Q .normal (putAll v 0 D a0) w) : (Code.region id ops true).wp P Q a0 w0 := by
  refine wp_region_any hm ?_
  have hno : ∀ j, (Array.replicate ops.size false).getD j false = false := by
    intro j
    by_cases h : j < ops.size <;> simp [Array.getD, h]
  refine wpAny_each R D G hpl hrf htr hst hsteps hend ops.size _ (fun _ => undef) a0 _ ⟨rfl, by simp, rfl, hdr, fun _ _ => rfl, fun j _ hj => ?_, fun j hj => ?_⟩ ?_ ?_
  · rw [hno] at hj; cases hj
  · rw [hno] at hj; cases hj
  · intro h0
    cases hr : Region.ready .any ops (Array.replicate ops.size false) with
    | nil => rfl
    | cons y r =>
      have hy : y ∈ Region.ready .any ops (Array.replicate ops.size false) := by rw [hr]; simp
      have := (mem_ready hy).1
      omega
  · exact Nat.le_trans (List.countP_le_length) (by simp)
theorem Deps.get {D : List (Option Tmp)} {G : Nat → Value → World → Prop} {a : Act} {w : World} : ∀ {es : List Edge} (k : Nat) {e : Edge} {d : Tmp}, Deps D G a w es → es[k]? = some e → Region.binds .any e = true → D.getD e.on none = some d → G e.on (a.eval (.tmp d)) w := by
  intro es
  induction es with
  | nil => intro k e d _ h; simp at h
  | cons x r ih =>
    intro k e d h hk hb hd
    cases k with
    | zero =>
      simp at hk
      subst hk
      have := h.1 hb
      rw [hd] at this
      exact this
    | succ k => exact ih k h.2 (by simpa using hk) hb hd
structure Pd where
  says : Value → World → Prop
  stays : ∀ v w w', says v w → Kept (fun _ => False) w w' → says v w'
def Pd.any : Pd := ⟨fun _ _ => True, fun _ _ _ _ _ => trivial⟩
def Pd.eq (c : Value) : Pd := ⟨fun v _ => v = c, fun _ _ _ h _ => h⟩
def Said (Gs : List Pd) (i : Nat) (v : Value) (w : World) : Prop := (Gs.getD i Pd.any).says v w
theorem Step.one {P : Program} {D : List (Option Tmp)} {Gs : List Pd} {a0 : Act} {w0 : World} {i : Nat} {o : Oper} (hg : o.guard = none)
    (h : ∀ (a : Act) (w : World), Kept (fun _ => False) w0 w → (∀ t, some t ∉ D → a.eval (.tmp t) = a0.eval (.tmp t)) → Deps D (Said Gs) a w o.after.toList → Yields P a.eval o w (fun v w' => Said Gs i v w' ∧ Kept (fun _ => False) w w')) :
    Step P (Kept (fun _ => False)) D (Said Gs) a0 w0 i o := by
  intro a w hR hout hD
  refine ⟨fun _ => h a w hR hout hD, fun hgo => ?_⟩
  unfold goes at hgo
  rw [hg] at hgo
  cases hgo
theorem wp_region_said {P : Program} {id : Nat} {ops : Array Oper} {Q : Exit → Act → World → Prop} {a0 : Act} {w0 : World} (D : List (Option Tmp)) (Gs : List Pd)
    (hm : P.follows .mixedOrders = true) (hpl : plain a0.tmps.size 0 D ops.toList = true)
    (hsteps : Steps P (Kept (fun _ => False)) D (Said Gs) a0 w0 0 ops.toList)
    (hend : ∀ (v : Nat → Value) (w : World), Kept (fun _ => False) w0 w → (∀ i, i < ops.size → Said Gs i (v i) w) → Q .normal (putAll v 0 D a0) w) : (Code.region id ops true).wp P Q a0 w0 :=
  wp_region_each (Kept (fun _ => False)) D (Said Gs) hm hpl (fun a => Kept.refl _ a) (fun _ _ _ h k => h.trans k (fun _ _ x => x)) (Kept.refl _ _).drew (fun i _ _ _ h k => (Gs.getD i Pd.any).stays _ _ _ h k) hsteps hend
end Go.Proofs.YtknjpdcpmpfklaaGreatDoor
set_option maxRecDepth 100000
namespace Go.Proofs.YtknjpdcpmpfklaaGreatDoor
open Go.RowKit
def waitsOn (o : Oper) (j : Nat) : Bool := o.after.toList.any fun e => Region.binds .any e && e.on == j
def tailed (os : List Oper) (n : Nat) : Bool :=
  decide (n < os.length) &&
  ((List.range n).all fun i => (List.range (n + 1)).any fun j => decide (i < j) && (os[j]?.any fun o => waitsOn o i)) &&
  ((List.range os.length).all fun j => !decide (n < j) || (os[j]?.any fun o => waitsOn o (j - 1))) &&
  ((List.range os.length).all fun j => os[j]?.all fun o => o.after.toList.all fun e => !Region.binds .any e || decide (e.on < j)) &&
  ((List.range n).all fun j => os[j]?.all fun o => match o.guard with | none => true | some g => decide (g.1 < n))
structure Tailed (ops : Array Oper) (n : Nat) : Prop where
  lt : n < ops.size
  cov : ∀ i, i < n → ∃ j o, i < j ∧ j ≤ n ∧ ops[j]? = some o ∧ ∃ e ∈ o.after.toList, Region.binds .any e = true ∧ e.on = i
  line : ∀ j o, n < j → ops[j]? = some o → ∃ e ∈ o.after.toList, Region.binds .any e = true ∧ e.on = j - 1
  back : ∀ (k : Nat) (o : Oper), ops[k]? = some o → ∀ e ∈ o.after.toList, Region.binds .any e = true → e.on < k
  guards : ∀ (k : Nat) (o : Oper), k < n → ops[k]? = some o → ∀ g, o.guard = some g → g.1 < n
theorem waitsOn_iff {o : Oper} {j : Nat} : waitsOn o j = true ↔ ∃ e ∈ o.after.toList, Region.binds .any e = true ∧ e.on = j := by
  unfold waitsOn
  rw [List.any_eq_true]
  constructor
  · rintro ⟨e, he, h⟩; simp only [Bool.and_eq_true, beq_iff_eq] at h; exact ⟨e, he, h.1, h.2⟩
  · rintro ⟨e, he, h1, h2⟩; exact ⟨e, he, by simp [h1, h2]⟩
theorem tailed_all {ops : Array Oper} {n : Nat} (h : tailed ops.toList n = true) : Tailed ops n := by
  unfold tailed at h
  simp only [Bool.and_eq_true, decide_eq_true_eq, List.all_eq_true, List.mem_range] at h
  obtain ⟨⟨⟨⟨h1, h2⟩, h3⟩, h4⟩, h5⟩ := h
  refine ⟨by simpa using h1, fun i hi => ?_, fun j o hj ho => ?_, fun k o hk e he hb => ?_, fun k o hkn hk g hg => ?_⟩
  · obtain ⟨j, hj, h⟩ := List.any_eq_true.1 (h2 i hi)
    have hj' : j < n + 1 := by simpa using hj
    simp only [Bool.and_eq_true, decide_eq_true_eq] at h
    cases ho : ops.toList[j]? with
    | none => rw [ho] at h; simp at h
    | some o =>
      rw [ho] at h
      exact ⟨j, o, h.1, by omega, by simpa using ho, waitsOn_iff.1 (by simpa using h.2)⟩
  · have hlt : j < ops.toList.length := by have := (Array.getElem?_eq_some_iff.1 ho).1; simpa using this
    have h := h3 j hlt
    have ho' : ops.toList[j]? = some o := by simpa using ho
    rw [ho'] at h
    simp only [hj, decide_true, Bool.not_true, Bool.false_or, Option.any_some] at h
    exact waitsOn_iff.1 h
  · have hlt : k < ops.toList.length := by have := (Array.getElem?_eq_some_iff.1 hk).1; simpa using this
    have h := h4 k hlt
    have ho' : ops.toList[k]? = some o := by simpa using hk
    rw [ho'] at h
    simp only [Option.all_some] at h
    have := List.all_eq_true.1 h e he
    simpa [hb] using this
  · have h := h5 k hkn
    have ho' : ops.toList[k]? = some o := by simpa using hk
    rw [ho'] at h
    simp only [Option.all_some, hg] at h
    simpa using h
theorem ready_mk {ops : Array Oper} {listed : Array Bool} {i : Nat} {o : Oper} (hi : i < ops.size) (hls : listed.size = ops.size) (hl : listed.getD i false = false) (ho : ops[i]? = some o)
    (h : ∀ e ∈ o.after.toList, Region.binds .any e = true → listed.getD e.on false = true) : i ∈ Region.ready .any ops listed := by
  unfold Region.ready
  refine List.mem_filter.2 ⟨by simpa using hi, ?_⟩
  have hl2 : listed.getD i true = false := by
    have : i < listed.size := by omega
    simpa [Array.getD, this] using hl
  simp only [hl2, ho, Option.map_some, Option.getD_some, Bool.not_false, Bool.true_and]
  refine Array.all_eq_true'.2 fun e he => ?_
  cases hbe : Region.binds .any e with
  | false => rfl
  | true =>
    have := h e (by simpa using he) hbe
    simp only [this, Bool.or_true]
theorem wpAny_last {P : Program} {ops : Array Oper} {Q : Exit → Act → World → Prop} {n : Nat} (T : Tailed ops n) :
    ∀ (fuel k : Nat) (listed : Array Bool) (a : Act) (w : World), n ≤ k → k ≤ ops.size → ops.size - k ≤ fuel → listed.size = ops.size → (∀ j, j < k → listed.getD j false = true) → (∀ j, k ≤ j → listed.getD j false = false) →
      wpList P ops Q (ops.toList.drop k) a w → wpAny P .any ops Q fuel listed a w := by
  have none_ready : ∀ (listed : Array Bool), listed.size = ops.size → (∀ j, j < ops.size → listed.getD j false = true) → Region.ready .any ops listed = [] := by
    intro listed hls hall
    cases hr : Region.ready .any ops listed with
    | nil => rfl
    | cons y r =>
      have hy : y ∈ Region.ready .any ops listed := by rw [hr]; simp
      obtain ⟨q1, q2, _⟩ := mem_ready hy
      have h1 := hall y q1
      rw [getD_same _ y (by omega)] at q2
      rw [q2] at h1; cases h1
  intro fuel
  induction fuel with
  | zero =>
    intro k listed a w hn hk hf hls h1 h2 hw
    have hke : k = ops.size := by omega
    subst hke
    rw [List.drop_of_length_le (by simp)] at hw
    exact ⟨none_ready listed hls h1, hw⟩
  | succ fuel ih =>
    intro k listed a w hn hk hf hls h1 h2 hw
    by_cases hke : k = ops.size
    · subst hke
      rw [List.drop_of_length_le (by simp)] at hw
      have hr := none_ready listed hls h1
      exact ⟨fun _ => hw, fun i hi => by rw [hr] at hi; cases hi⟩
    · have hlt : k < ops.size := by omega
      have hok : ops[k]? = some ops[k] := by simp [hlt]
      have hdrop : ops.toList.drop k = ops[k] :: ops.toList.drop (k + 1) := by
        rw [List.drop_eq_getElem_cons (by simpa using hlt)]; simp
      rw [hdrop] at hw
      have hrk : k ∈ Region.ready .any ops listed := ready_mk hlt hls (h2 k (Nat.le_refl _)) hok fun e he hb => h1 _ (T.back k _ hok e he hb)
      refine ⟨fun hr => (by rw [hr] at hrk; cases hrk), fun i hi => ?_⟩
      obtain ⟨q1, q2, o, ho, haft⟩ := mem_ready hi
      rw [getD_same _ i (by omega)] at q2
      have hik : i = k := by
        rcases Nat.lt_trichotomy i k with h | h | h
        · rw [h1 i h] at q2; cases q2
        · exact h
        · obtain ⟨e, he, hb, hon⟩ := T.line i o (by omega) ho
          have := haft e he hb
          rw [hon, h2 (i - 1) (by omega)] at this; cases this
      subst hik
      have next : ∀ (a' : Act) (w' : World), wpList P ops Q (ops.toList.drop (i + 1)) a' w' → wpAny P .any ops Q fuel (listed.setIfInBounds i true) a' w' := by
        intro a' w' h'
        have hlsz : i < listed.size := by omega
        refine ih (i + 1) _ a' w' (by omega) (by omega) (by omega) (by simpa using hls) (fun j hj => ?_) (fun j hj => ?_) h'
        · rw [getD_set_true _ _ _ hlsz]; split
          · rfl
          · exact h1 j (by omega)
        · rw [getD_set_true _ _ _ hlsz, if_neg (by omega)]; exact h2 j (by omega)
      unfold wpList at hw
      unfold wpOp
      rw [hok]
      simp only
      split at hw
      · rw [if_pos ‹_›]
        rcases hw with h | h
        · exact .inl (Oper.wp_mono next h)
        · exact .inr h
      · rw [if_neg ‹_›]
        exact next _ _ hw
theorem wpAny_tail {P : Program} {ops : Array Oper} {Q : Exit → Act → World → Prop} {a0 : Act} {w0 : World} (n : Nat) (T : Tailed ops n) (R : World → World → Prop) (D : List (Option Tmp)) (G : Nat → Value → World → Prop)
    (hpl : plain a0.tmps.size 0 D (ops.toList.take n) = true) (hrf : ∀ a, R a a) (htr : ∀ a b c, R a b → R b c → R a c) (hst : ∀ i v w w', G i v w → R w w' → G i v w') (hsteps : Steps P R D G a0 w0 0 (ops.toList.take n))
    (hend : ∀ (v : Nat → Value) (w : World), R w0 w → (∀ i, i < n → G i (v i) w) → wpList P ops Q (ops.toList.drop n) (putAll v 0 D a0) w) :
    ∀ (fuel : Nat) (listed : Array Bool) (v : Nat → Value) (a : Act) (w : World), Mid ops R D G a0 w0 v listed a w →
      (∀ (k : Nat) (o : Oper), ops[k]? = some o → listed.getD k false = true → ∀ e ∈ o.after.toList, Region.binds .any e = true → listed.getD e.on false = true) → (∀ j, n ≤ j → listed.getD j false = false) →
      (List.range ops.size).countP (fun i => !listed.getD i false) ≤ fuel → wpAny P .any ops Q fuel listed a w := by
  have hlt0 := T.lt
  obtain ⟨hDl, hpa'⟩ := plain_at hpl
  have hlen : D.length = n := by
    have : D.length = min n ops.size := by simpa using hDl
    omega
  have hpa : ∀ k o, k < n → ops.toList[k]? = some o → D[k]? = some o.dst ∧ (∀ d, o.dst = some d → d < a0.tmps.size ∧ ∀ j, k < j → D[j]? ≠ some (some d)) := by
    intro k o hk ho
    have h := hpa' k o (by rw [List.getElem?_take, if_pos hk]; exact ho)
    exact ⟨h.1, h.2.1⟩
  have hback := T.back
  have fin : ∀ (listed : Array Bool) (v : Nat → Value) (a : Act) (w : World), Mid ops R D G a0 w0 v listed a w → (∀ i, i < n → listed.getD i false = true) → wpList P ops Q (ops.toList.drop n) a w := by
    intro listed v a w hm hall
    have hp := putAll_frame v D 0 a0
    have ha : a = putAll v 0 D a0 := by
      have ht : a.tmps = (putAll v 0 D a0).tmps := by
        apply Array.ext
        · rw [hm.size, hp.1]
        · intro t h1 h2
          have e : a.tmps.getD t undef = (putAll v 0 D a0).tmps.getD t undef := by
            by_cases hmem : some t ∈ D
            · obtain ⟨j, hj⟩ := List.mem_iff_getElem?.1 hmem
              have hjs : j < n := by rw [← hlen]; exact (List.getElem?_eq_some_iff.1 hj).1
              have hjo : j < ops.size := by omega
              obtain ⟨g1, g2⟩ := hpa j ops[j] hjs (by simp [hjo])
              have hdst : ops[j].dst = some t := by rw [hj] at g1; exact (Option.some.inj g1).symm
              obtain ⟨k1, k2⟩ := g2 t hdst
              rw [hm.here j t (hall j hjs) hj, hp.2.2.2 j t hj k2 k1, Nat.zero_add]
            · rw [hp.2.2.1 t hmem, hm.out t (fun j _ hj => hmem (List.mem_of_getElem? hj))]
          simpa [Array.getD_eq_getD_getElem?, h1, h2] using e
      have hd : a.defers = (putAll v 0 D a0).defers := by rw [hm.defers, hp.2.1]
      cases a
      cases hq : putAll v 0 D a0
      rw [hq] at ht hd
      simp only at ht hd
      rw [ht, hd]
    rw [ha]
    exact hend v w hm.rel (fun i hi => hm.good i (hall i hi))
  intro fuel
  induction fuel with
  | zero =>
    intro listed v a w hm _ htl hcount
    exfalso
    have hz : (List.range ops.size).countP (fun i => !listed.getD i false) = 0 := by omega
    rw [List.countP_eq_zero] at hz
    have := hz n (by simpa using hlt0)
    rw [htl n (Nat.le_refl _)] at this
    exact this rfl
  | succ fuel ih =>
    intro listed v a w hm hcl htl hcount
    refine ⟨fun hr => ?_, fun i hi => ?_⟩
    · have := all_listed hback hr hm.ls n hlt0
      rw [htl n (Nat.le_refl _)] at this; cases this
    obtain ⟨hlt, hnl, o, ho, haft⟩ := mem_ready hi
    have hlsz : i < listed.size := by rw [hm.ls]; exact hlt
    have hnl' : listed.getD i false = false := by simpa [Array.getD, hlsz] using hnl
    have hin : i ≤ n := by
      rcases Nat.lt_or_ge n i with h | h
      · obtain ⟨e, he, hb, hon⟩ := T.line i o h ho
        have := haft e he hb
        rw [hon, htl (i - 1) (by omega)] at this; cases this
      · exact h
    by_cases hine : i = n
    · -- all others are done
      have hall : ∀ j, j < n → listed.getD j false = true := by
        suffices h : ∀ m j, j + m = n → j < n → listed.getD j false = true by
          intro j hj; exact h (n - j) j (by omega) hj
        intro m
        induction m using Nat.strongRecOn with
        | _ m ihm =>
          intro j hm2 hj
          obtain ⟨j', o', h1, h2, h3, e, he, hb, hon⟩ := T.cov j hj
          by_cases hj' : j' = n
          · subst hj'
            rw [← hine] at h3
            rw [ho] at h3
            cases h3
            rw [← hon]; exact haft e he hb
          · have hl := ihm (n - j') (by omega) j' (by omega) (by omega)
            rw [← hon]; exact hcl j' o' h3 hl e he hb
      have hw := fin listed v a w hm hall
      have hfu : ops.size - n ≤ fuel + 1 := by
        have hle : (List.range' n (ops.size - n)).countP (fun i => !listed.getD i false) ≤ (List.range ops.size).countP (fun i => !listed.getD i false) := by
          apply List.Sublist.countP_le
          rw [List.range_eq_range', show ops.size = n + (ops.size - n) by omega, ← List.range'_append_1]
          simp
        have he : (List.range' n (ops.size - n)).countP (fun i => !listed.getD i false) = ops.size - n := by
          rw [List.countP_eq_length.2]
          · simp
          · intro x hx
            have := (List.mem_range'_1.1 hx).1
            rw [htl x this]; rfl
        omega
      have hall2 := wpAny_last (P := P) (Q := Q) T (fuel + 1) n listed a w (Nat.le_refl _) (by omega) hfu hm.ls hall htl hw
      exact hall2.2 i hi
    have hin' : i < n := by omega
    obtain ⟨g1, g2⟩ := hpa i o hin' (by simpa using ho)
    have hstep := hsteps.at i o (by rw [List.getElem?_take, if_pos hin']; simpa using ho)
    rw [Nat.zero_add] at hstep
    have hout : ∀ t, some t ∉ D → a.eval (.tmp t) = a0.eval (.tmp t) := fun t ht => hm.out t (fun j _ hj => ht (List.mem_of_getElem? hj))
    have hdeps : Deps D G a w o.after.toList := Deps.mk fun e he hb d hd => by
      have hl := haft e he hb
      have hlt' := hback i o ho e he hb
      have hDe : D[e.on]? = some (some d) := by
        have hlt2 : e.on < D.length := by rw [hlen]; omega
        simp only [List.getD, List.getElem?_eq_getElem hlt2, Option.getD_some] at hd
        rw [List.getElem?_eq_getElem hlt2, hd]
      have := hm.here e.on d hl hDe
      show G e.on (a.tmps.getD d undef) w
      rw [this]; exact hm.good e.on hl
    obtain ⟨s1, s2⟩ := hstep a w hm.rel hout hdeps
    -- what is left when it answers x in the world w'
    have next : ∀ (x : Value) (w' : World), G i x w' → R w w' → wpAny P .any ops Q fuel (listed.setIfInBounds i true) (a.put o.dst x) w' := by
      intro x w' hG hR
      have hcnt : (List.range ops.size).countP (fun j => !(listed.setIfInBounds i true).getD j false) ≤ fuel := by
        have h1 : (List.range ops.size).countP (fun j => !(listed.setIfInBounds i true).getD j false) < (List.range ops.size).countP (fun j => !listed.getD j false) := by
          have hmemi : i ∈ List.range ops.size := by simpa using hlt
          have key : ∀ (l : List Nat), i ∈ l → (∀ j, (!(listed.setIfInBounds i true).getD j false) = true → (!listed.getD j false) = true) → l.countP (fun j => !(listed.setIfInBounds i true).getD j false) < l.countP (fun j => !listed.getD j false) := by
            intro l
            induction l with
            | nil => intro h; cases h
            | cons y r ihl =>
              intro hy himp
              have hle : r.countP (fun j => !(listed.setIfInBounds i true).getD j false) ≤ r.countP (fun j => !listed.getD j false) := List.countP_mono_left fun j _ hj => himp j hj
              by_cases hyi : y = i
              · subst hyi
                have e1 : (!(listed.setIfInBounds y true).getD y false) = false := by rw [getD_set_true _ _ _ hlsz, if_pos rfl]; rfl
                have e2 : (!listed.getD y false) = true := by rw [hnl']; rfl
                rw [List.countP_cons, List.countP_cons]
                simp only [e1, e2, if_true, Bool.false_eq_true, if_false]
                omega
              · have hir : i ∈ r := by
                  rcases List.mem_cons.1 hy with h | h
                  · exact absurd h.symm hyi
                  · exact h
                have := ihl hir himp
                rw [List.countP_cons, List.countP_cons]
                have e3 : (listed.setIfInBounds i true).getD y false = listed.getD y false := by rw [getD_set_true _ _ _ hlsz, if_neg hyi]
                rw [e3]; omega
          refine key _ hmemi fun j hj => ?_
          rw [getD_set_true _ _ _ hlsz] at hj
          by_cases hji : j = i
          · rw [if_pos hji] at hj; cases hj
          · rwa [if_neg hji] at hj
        omega
      have hmid : Mid ops R D G a0 w0 (fun j => if j = i then x else v j) (listed.setIfInBounds i true) (a.put o.dst x) w' := by
        refine ⟨?_, by simpa using hm.ls, ?_, htr _ _ _ hm.rel hR, ?_, ?_, ?_⟩
        · rw [← hm.size]; cases o.dst <;> simp [Act.put]
        · rw [← hm.defers]; cases o.dst <;> rfl
        · intro t ht
          have hold := hm.out t (fun j hj => ht j (by rw [getD_set_true _ _ _ hlsz]; split <;> first | rfl | exact hj))
          have hne : o.dst ≠ some t := by
            intro e
            exact ht i (by rw [getD_set_true _ _ _ hlsz, if_pos rfl]) (by rw [g1, e])
          rw [← hold]
          cases hd : o.dst with
          | none => rfl
          | some d =>
            have : d ≠ t := fun e => hne (by rw [hd, e])
            simp only [Act.put, Array.getD_eq_getD_getElem?, Array.getElem?_setIfInBounds_ne this]
        · intro j d hj hD
          by_cases hji : j = i
          · subst hji
            have hd : o.dst = some d := by rw [g1] at hD; exact Option.some.inj hD
            have hsz : d < a.tmps.size := by rw [hm.size]; exact (g2 d hd).1
            simp [hd, Act.put, Array.getD_eq_getD_getElem?, hsz]
          · rw [getD_set_true _ _ _ hlsz, if_neg hji] at hj
            have hold := hm.here j d hj hD
            rw [if_neg hji, ← hold]
            cases hd : o.dst with
            | none => rfl
            | some y =>
              have hne : y ≠ d := by
                rintro rfl
                rw [hd] at g1
                rcases Nat.lt_or_gt_of_ne hji with hlt2 | hgt2
                · have hjn : j < n := by rw [← hlen]; exact (List.getElem?_eq_some_iff.1 hD).1
                  have hjs : j < ops.size := by omega
                  obtain ⟨k1, k2⟩ := hpa j ops[j] hjn (by simp [hjs])
                  have hdst : ops[j].dst = some y := by rw [hD] at k1; exact (Option.some.inj k1).symm
                  exact (k2 y hdst).2 i hlt2 g1
                · exact (g2 y hd).2 j hgt2 hD
              simp only [Act.put, Array.getD_eq_getD_getElem?, Array.getElem?_setIfInBounds_ne hne]
        · intro j hj
          by_cases hji : j = i
          · subst hji; simpa using hG
          · rw [getD_set_true _ _ _ hlsz, if_neg hji] at hj
            simp only [if_neg hji]
            exact hst _ _ _ _ (hm.good j hj) hR
      refine ih _ _ _ _ hmid ?_ ?_ hcnt
      · intro k o' hk hl e he hb
        rw [getD_set_true _ _ _ hlsz] at hl ⊢
        by_cases hee : e.on = i
        · rw [if_pos hee]
        · rw [if_neg hee]
          by_cases hki : k = i
          · subst hki
            rw [ho] at hk
            cases hk
            exact haft e he hb
          · rw [if_neg hki] at hl
            exact hcl k o' hk hl e he hb
      · intro j hj
        rw [getD_set_true _ _ _ hlsz, if_neg (by omega)]; exact htl j hj
    have hwant : Region.wanted o (yielded ops a.tmps) = goes D o a := by
      unfold Region.wanted goes
      cases hg : o.guard with
      | none => rfl
      | some p =>
        obtain ⟨j, want⟩ := p
        simp only [yielded]
        by_cases hj : j < n
        · have hjo : j < ops.size := by omega
          obtain ⟨k1, k2⟩ := hpa j ops[j] hj (by simp [hjo])
          have hDj : D.getD j none = ops[j].dst := by simp [List.getD, k1]
          rw [hDj]
          simp only [Array.getElem?_eq_getElem hjo, Option.bind_some]
          cases hd : ops[j].dst with
          | none => simp
          | some d =>
            have hsz : d < a.tmps.size := by rw [hm.size]; exact (k2 d hd).1
            simp only [Option.bind_some, Array.getElem?_eq_getElem hsz]
            have he : a.eval (.tmp d) = a.tmps[d] := by simp [Act.eval, Array.getD, hsz]
            rw [he]
            cases a.tmps[d] <;> simp
        · exact absurd (T.guards i o hin' ho _ hg) hj
    unfold wpOp
    rw [ho]
    simp only [hwant]
    cases hgo : goes D o a with
    | true =>
      simp only [if_true]
      refine .inl (Yields.wp ?_)
      have := s1 hgo
      revert this
      unfold Yields
      generalize (execOp a.eval o).run P w = res
      intro h
      cases res with
      | ok n w' =>
        cases n <;> simp only at h ⊢ <;> first
          | exact next _ _ h.1 h.2
          | exact h.elim
          | exact Calls.mono h (fun e w'' ⟨y, he, hk⟩ => ⟨y, he, next _ _ hk.1 hk.2⟩)
      | halt y w' => exact h.elim
    | false =>
      simp only [Bool.false_eq_true, if_false]
      exact next undef w (s2 hgo) (hrf w)
theorem wp_region_tail {P : Program} {id : Nat} {ops : Array Oper} {Q : Exit → Act → World → Prop} {a0 : Act} {w0 : World} (n : Nat) (D : List (Option Tmp)) (Gs : List Pd)
    (hm : P.follows .mixedOrders = true) (hta : tailed ops.toList n = true) (hpl : plain a0.tmps.size 0 D (ops.toList.take n) = true)
    (hsteps : Steps P (Kept (fun _ => False)) D (Said Gs) a0 w0 0 (ops.toList.take n))
    (hend : ∀ (v : Nat → Value) (w : World), Kept (fun _ => False) w0 w → (∀ i, i < n → Said Gs i (v i) w) → wpList P ops Q (ops.toList.drop n) (putAll v 0 D a0) w) : (Code.region id ops true).wp P Q a0 w0 := by
  refine wp_region_any hm ?_
  have T := tailed_all hta
  have hno : ∀ j, (Array.replicate ops.size false).getD j false = false := by
    intro j
    by_cases h : j < ops.size <;> simp [Array.getD, h]
  refine wpAny_tail n T (Kept (fun _ => False)) D (Said Gs) hpl (fun a => Kept.refl _ a) (fun _ _ _ h k => h.trans k (fun _ _ x => x)) (fun i _ _ _ h k => (Gs.getD i Pd.any).stays _ _ _ h k) hsteps hend ops.size _ (fun _ => undef) a0 _ ⟨rfl, by simp, rfl, (Kept.refl _ _).drew, fun _ _ => rfl, fun j _ hj => ?_, fun j hj => ?_⟩ ?_ ?_ ?_
  · rw [hno] at hj; cases hj
  · rw [hno] at hj; cases hj
  · intro k o _ hl; rw [hno] at hl; cases hl
  · intro j _; exact hno j
  · exact Nat.le_trans (List.countP_le_length) (by simp)
end Go.Proofs.YtknjpdcpmpfklaaGreatDoor
set_option maxRecDepth 100000
namespace Go.Proofs.YtknjpdcpmpfklaaGreatDoor
open Go.RowKit
section
variable {P : Program} {ρ : Operand → Value} {o : Oper} {w : World} {R : Value → World → Prop}
theorem y_val {v : Value} {w' : World} (h : (execOp ρ o).run P w = .ok (.value v) w') (hR : R v w') : Yields P ρ o w R := by
  unfold Yields; rw [h]; exact hR
theorem y_move {x : Operand} (ho : o.op = .move x) (h : R (ρ x) w) : Yields P ρ o w R := y_val (by simp [execOp, ho]) h
theorem y_assign {x : Operand} (ho : o.op = .assign x) (h : R (ρ x) w) : Yields P ρ o w R := y_val (by simp [execOp, ho]) h
theorem y_pick_true {c x y : Operand} (ho : o.op = .pick c x y) (hc : ρ c = .bool true) (h : R (ρ x) w) : Yields P ρ o w R := y_val (by simp [execOp, ho, hc, asBool]) h
theorem y_pick_false {c x y : Operand} (ho : o.op = .pick c x y) (hc : ρ c = .bool false) (h : R (ρ y) w) : Yields P ρ o w R := y_val (by simp [execOp, ho, hc, asBool]) h
theorem y_eql_int {t t' : TypeId} {k : IntKind} {x y : Operand} {m n : Int} (ho : o.op = .binOp .eql t x y t') (hx : ρ x = .int k m) (hy : ρ y = .int k n) (h : R (.bool (m == n)) w) : Yields P ρ o w R :=
  y_val (by simp [execOp, ho, hx, hy, go_sem]) h
theorem y_eql_text {t t' : TypeId} {x y : Operand} {m n : ByteArray} (ho : o.op = .binOp .eql t x y t') (hx : ρ x = .string m) (hy : ρ y = .string n) (h : R (.bool (m.toList == n.toList)) w) : Yields P ρ o w R :=
  y_val (by simp [execOp, ho, hx, hy, go_sem]) h
end
section
variable {P : Program} {ρ : Operand → Value} {o : Oper} {w : World} {R : Value → World → Prop}
theorem y_shr {t t' : TypeId} {k k' : IntKind} {x y : Operand} {m : Int} {n : Nat} (ho : o.op = .binOp .shr t x y t') (hx : ρ x = .int k m) (hy : ρ y = .int k' (n : Int)) (hn : n ≤ k.bits) (h : R (.int k (m / 2 ^ n)) w) : Yields P ρ o w R :=
  y_val (by
    have h0 : ¬ ((n : Int) < 0) := by omega
    have hm : min n k.bits = n := by omega
    have hd : m.fdiv (2 ^ n) = m / 2 ^ n := Int.fdiv_eq_ediv_of_nonneg _ (Int.le_of_lt (Int.pow_pos (by decide)))
    simp only [execOp, ho, hx, hy, binOp_shr, Op.shift, if_neg h0, Int.toNat_natCast, hm, hd, eqGuard]
    rfl) h
theorem y_conv {src dst : TypeId} {x : Operand} {k k' : IntKind} {n : Int} {d : TypeDesc} (ho : o.op = .convert src dst x) (hx : ρ x = .int k n) (hs : P.underlying src = some d) (hd : P.underlying dst = some (.int k')) (h : R (.int k' (k'.wrap n)) w) : Yields P ρ o w R :=
  y_val (v := .int k' (k'.wrap n)) (w' := w) (by simp [execOp, ho, hx, convert, run_underlying hs, run_underlying hd, Conv.intToInt]) h
theorem y_ld {ty : TypeId} {x : Operand} {a : Addr} {v : Value} {k : IntKind} (ho : o.op = .load ty x) (hx : ρ x = .pointer (some a)) (hc : w.cell? a = some v) (hu : P.underlying ty = some (.int k)) (h : R v w) : Yields P ρ o w R :=
  y_val (v := v) (w' := w) (by simp [execOp, ho, hx, Instr.loadAt, Instr.sureAddr, loadVar, isAgg, run_underlying hu, hc]) h
end
end Go.Proofs.YtknjpdcpmpfklaaGreatDoor
set_option maxRecDepth 100000
namespace Go.Proofs.YtknjpdcpmpfklaaGreatDoor
open Go.RowKit
def marksOf : Value → List Nat
  | .tuple vs => vs.toList.filterMap fun | .int .i64 n => some n.toNat | _ => none
  | _ => []
def markV (ms : List Nat) : Value := .tuple (ms.map fun D : Nat => Value.int .i64 (D : Int)).toArray
theorem marksOf_markV (ms : List Nat) : marksOf (markV ms) = ms := by
  unfold marksOf markV
  induction ms with
  | nil => rfl
  | cons D ms ih => simpa using ih
def marked (v : Value) : List Deferred := (marksOf v).map fun D => { target := .collected D, args := #[] }
structure Fr (N : Nat) (F : Nat → Value) (a : Act) : Prop where
  size : a.tmps.size = N
  defers : a.defers = marked (F N)
  at' : ∀ t, Nat.blt t N = true → a.tmps.getD t undef = F t
def ev (F : Nat → Value) : Operand → Value
  | .tmp t => F t
  | .const v => v
  | .global g => .pointer (some ⟨g, 0, none⟩)
  | .func f => .func (.func f) #[] #[]
def cutF (N : Nat) (F : Nat → Value) : Nat → Value := fun t => cond (Nat.blt t N) (F t) undef
theorem eval_ev (a : Act) : a.eval = ev (fun t => a.tmps.getD t undef) := by funext x; cases x <;> rfl
theorem Fr.cut {N : Nat} {F : Nat → Value} {a : Act} (h : Fr N F a) : (fun t => a.tmps.getD t undef) = cutF N F := by
  funext t
  unfold cutF
  cases hb : Nat.blt t N with
  | true => exact h.at' t hb
  | false =>
    have hle : N ≤ t := by
      rcases Nat.lt_or_ge t N with h1 | h1
      · have hb2 : Nat.blt t N = true := by simpa [Nat.blt_eq] using h1
        rw [hb2] at hb; cases hb
      · exact h1
    simp [Array.getD_eq_getD_getElem?, Array.getElem?_eq_none (by rw [h.size]; exact hle)]
theorem Fr.eval {N : Nat} {F : Nat → Value} {a : Act} (h : Fr N F a) : a.eval = ev (cutF N F) := by rw [eval_ev, h.cut]
def up (F : Nat → Value) (d : Nat) (v : Value) : Nat → Value := fun t => cond (Nat.beq t d) v (F t)
def putF (F : Nat → Value) : Option Tmp → Value → Nat → Value
  | none, _ => F
  | some d, v => up F d v
def fits (N : Nat) : Option Tmp → Bool
  | none => true
  | some d => Nat.blt d N
theorem Fr.put {N : Nat} {F : Nat → Value} {a : Act} (h : Fr N F a) {d : Option Tmp} (hd : fits N d = true) (v : Value) : Fr N (putF F d v) (a.put d v) := by
  cases d with
  | none => exact h
  | some d =>
    have hdn : d < N := by simpa [fits, Nat.blt_eq] using hd
    have hlt : d < a.tmps.size := by rw [h.size]; exact hdn
    have hN : up F d v N = F N := by
      unfold up
      cases hb : Nat.beq N d with
      | false => rfl
      | true => exact absurd (Nat.eq_of_beq_eq_true hb) (Nat.ne_of_gt hdn)
    refine ⟨by rw [← h.size]; simp [Act.put], ?_, fun t ht => ?_⟩
    · show a.defers = marked (up F d v N)
      rw [hN]; exact h.defers
    · show (a.tmps.setIfInBounds d v).getD t undef = up F d v t
      unfold up
      by_cases e : t = d
      · subst e; simp [Array.getD_eq_getD_getElem?, hlt]
      · have : Nat.beq t d = false := by
          cases hb : Nat.beq t d with
          | false => rfl
          | true => exact absurd (Nat.eq_of_beq_eq_true hb) e
        rw [this, cond_false, ← h.at' t ht]
        simp only [Array.getD_eq_getD_getElem?, Array.getElem?_setIfInBounds_ne (Ne.symm e)]
def Fp (N : Nat) (Q : (Exit → (Nat → Value) → World → Prop)) : Exit → Act → World → Prop := fun e a w => ∃ F, Fr N F a ∧ Q e F w
def fen : Option Nat → Fence
  | none => Fence.wide
  | some 0 => Fence.wide
  | some (l + 1) => Fence.wide.inRound l
theorem fen_fn (l : Option Nat) (f : FuncId) : (fen l).fn f := by
  rcases l with _ | _ | l <;> trivial
theorem fen_depth (l : Option Nat) : (fen l).depth = none := by
  rcases l with _ | _ | l <;> rfl
def wq (l : Option Nat) (P : Program) (N : Nat) (c : Code) (Q : (Exit → (Nat → Value) → World → Prop)) (F : Nat → Value) (w : World) : Prop := ∀ a, Fr N F a → c.wpIn (fen l) 0 P (Fp N Q) a w
theorem not_deferred {P : Program} {ρ : Operand → Value} {o : Oper} {w : World} {R : Value → World → Prop} (h : Yields P ρ o w R) : ∀ c, o.op ≠ .defer c := by
  intro c hc
  unfold Yields at h
  simp only [execOp, hc, Sem.run_bind] at h
  cases hr : (resolve ρ c o.type).run P w with
  | ok d w' => simp [hr] at h
  | halt x w' => simp [hr] at h
theorem calls_fen {l : Option Nat} {n : Nat} {P : Program} {f : FuncId} {args : Array Value} {w : World} {R : Ending → World → Prop} (h : Calls P f args w R) : CallsIn (fen l) n P f args w R := by
  rcases l with _ | _ | l
  · exact callsIn_wide.2 h
  · exact callsIn_wide.2 h
  · exact CallsIn.inRound l (callsIn_wide.2 h)
theorem Yields.wpIn {l : Option Nat} {P : Program} {a : Act} {o : Oper} {w : World} {K : Act → World → Prop} {Q : Exit → Act → World → Prop} (h : Yields P a.eval o w (fun v w' => K (a.put o.dst v) w')) : o.wpIn (fen l) 0 P a w K Q := by
  refine ⟨fun f _ => fen_fn l f, ?_⟩
  rw [Oper.semAt_eq _ _ _ (not_deferred h)]
  unfold Yields at h
  generalize (execOp a.eval o).run P w = r at *
  cases r with
  | ok n w' =>
    cases n <;> simp only at h <;> first
      | exact h
      | exact h.elim
      | exact ⟨fun e => (by rw [fen_depth] at e; cases e), (calls_fen h).mono (fun e w'' ⟨v, he, hk⟩ => by subst he; exact hk)⟩
  | halt x w' => exact h.elim
def thenP (next : (Nat → Value) → World → Prop) (Q : (Exit → (Nat → Value) → World → Prop)) : (Exit → (Nat → Value) → World → Prop)
  | .normal, F, w => next F w
  | e, F, w => Q e F w
def inP (id : Nat) (Q : (Exit → (Nat → Value) → World → Prop)) : (Exit → (Nat → Value) → World → Prop)
  | .exit id', F, w => if id' = id then Q .normal F w else Q (.exit id') F w
  | e, F, w => Q e F w
section
variable {l : Option Nat} {P : Program} {N : Nat} {Q : (Exit → (Nat → Value) → World → Prop)} {F : Nat → Value} {w : World}
theorem then_normal {next : (Nat → Value) → World → Prop} (h : next F w) : thenP next Q .normal F w := h
theorem then_exit {next : (Nat → Value) → World → Prop} {id : Nat} (h : Q (.exit id) F w) : thenP next Q (.exit id) F w := h
theorem then_ret {next : (Nat → Value) → World → Prop} (h : Q .ret F w) : thenP next Q .ret F w := h
theorem in_normal {id : Nat} (h : Q .normal F w) : inP id Q .normal F w := h
theorem in_here {id : Nat} (h : Q .normal F w) : inP id Q (.exit id) F w := by simp only [inP, if_true]; exact h
theorem in_other {id id' : Nat} (hn : id' ≠ id) (h : Q (.exit id') F w) : inP id Q (.exit id') F w := by simp only [inP, if_neg hn]; exact h
theorem in_ret {id : Nat} (h : Q .ret F w) : inP id Q .ret F w := h
theorem wq_seq {x y : Code} (h : wq l P N x (thenP (wq l P N y Q) Q) F w) : wq l P N (.seq x y) Q F w := by
  intro a ha
  refine wpIn_seq (wpIn_mono (h a ha) ?_)
  rintro e a' w' ⟨F', hF, hq⟩
  cases e <;> first | exact hq a' hF | exact ⟨F', hF, hq⟩
theorem wq_skip (h : Q .normal F w) : wq l P N .skip Q F w := fun _ ha => wpIn_skip ⟨F, ha, h⟩
theorem wq_exit {id : Nat} (h : Q (.exit id) F w) : wq l P N (.exit id) Q F w := fun _ ha => wpIn_exit ⟨F, ha, h⟩
theorem wq_ret (h : Q .ret F w) : wq l P N .ret Q F w := fun _ ha => wpIn_ret ⟨F, ha, h⟩
theorem wq_cond {c : Operand} {x y : Code} {t : Bool} (hc : ev (cutF N F) c = .bool t) (ht : t = true → wq l P N x Q F w) (hf : t = false → wq l P N y Q F w) : wq l P N (.cond c x y) Q F w :=
  fun a ha => wpIn_cond_split (by rw [ha.eval]; exact hc) (fun e => ht e a ha) (fun e => hf e a ha)
theorem wq_block {id : Nat} {c : Code} (h : wq l P N c (inP id Q) F w) : wq l P N (.block id c) Q F w := by
  intro a ha
  refine wpIn_block (wpIn_mono (h a ha) ?_)
  rintro e a' w' ⟨F', hF, hq⟩
  cases e with
  | exit id' =>
    simp only [inP] at hq
    simp only [Exit.inBlock]
    split
    · rename_i e; rw [if_pos e] at hq; exact ⟨F', hF, hq⟩
    · rename_i e; rw [if_neg e] at hq; exact ⟨F', hF, hq⟩
  | _ => exact ⟨F', hF, hq⟩
theorem wq_loop {c : Code} (I : Nat → (Nat → Value) → World → Prop) (n0 : Nat) (h0 : I n0 F w)
    (round : ∀ n F w, I n F w → wq l P N c (thenP (fun F' w' => ∃ n', n' < n ∧ I n' F' w') Q) F w) : wq l P N (.loop c) Q F w := by
  intro a ha
  refine wpIn_loop (fun a w => ∃ n, ∃ F, Fr N F a ∧ I n F w) (fun a w => leastOf (fun n => ∃ F, Fr N F a ∧ I n F w)) ⟨n0, F, ha, h0⟩ ?_
  intro a w hex
  have hl := leastOf_spec hex
  generalize leastOf (fun n => ∃ F, Fr N F a ∧ I n F w) = n at hl
  obtain ⟨⟨F, hF, hI⟩, _⟩ := hl
  refine wpIn_mono (round n F w hI a hF) ?_
  rintro e a' w' ⟨F', hF', hq⟩
  cases e with
  | normal =>
    obtain ⟨n', hlt, hI'⟩ := hq
    refine ⟨⟨n', F', hF', hI'⟩, Nat.lt_of_le_of_lt ?_ hlt⟩
    exact (leastOf_spec (p := fun n => ∃ F, Fr N F a' ∧ I n F w') ⟨n', F', hF', hI'⟩).2 n' ⟨F', hF', hI'⟩
  | _ => exact ⟨F', hF', hq⟩
def lists (l : Option Nat) (P : Program) (ops : Array Oper) (Q : Exit → Act → World → Prop) (rest : List Oper) (a : Act) (w : World) : Prop :=
  match l with
  | none => wpList P ops Q rest a w
  | some l => wpListIn (fen (some l)) 0 P ops Q rest a w
def wl (l : Option Nat) (P : Program) (N : Nat) (ops : Array Oper) (Q : (Exit → (Nat → Value) → World → Prop)) (rest : List Oper) (F : Nat → Value) (w : World) : Prop := ∀ a, Fr N F a → lists l P ops (Fp N Q) rest a w
theorem lists_step {l : Option Nat} {P : Program} {ops : Array Oper} {Q : Exit → Act → World → Prop} {o : Oper} {rest : List Oper} {a : Act} {w : World} (hw : Region.wanted o (yielded ops a.tmps) = true) (h : Yields P a.eval o w (fun v w' => lists l P ops Q rest (a.put o.dst v) w')) : lists l P ops Q (o :: rest) a w := by
  cases l with
  | none =>
    refine BigFrame.wpList_want hw fun K hK => Yields.wp ?_
    revert h
    unfold Yields
    generalize (execOp a.eval o).run P w = r
    intro h
    cases r with
    | ok n w' =>
      cases n <;> simp only at h ⊢ <;> first
        | exact hK _ _ h
        | exact h.elim
        | exact Calls.mono h (fun e w'' ⟨v, he, hk⟩ => ⟨v, he, hK _ _ hk⟩)
    | halt x w' => exact h.elim
  | some l =>
    refine wpListIn_step fun K hK => ?_
    rw [if_pos hw]
    refine Yields.wpIn (l := some l) ?_
    revert h
    unfold Yields
    generalize (execOp a.eval o).run P w = r
    intro h
    cases r with
    | ok n w' =>
      cases n <;> simp only at h ⊢ <;> first
        | exact hK _ _ h
        | exact h.elim
        | exact Calls.mono h (fun e w'' ⟨v, he, hk⟩ => ⟨v, he, hK _ _ hk⟩)
    | halt x w' => exact h.elim
theorem lists_pass {l : Option Nat} {P : Program} {ops : Array Oper} {Q : Exit → Act → World → Prop} {o : Oper} {rest : List Oper} {a : Act} {w : World} (hw : Region.wanted o (yielded ops a.tmps) = false) (h : lists l P ops Q rest (a.put o.dst undef) w) : lists l P ops Q (o :: rest) a w := by
  cases l with
  | none =>
    show wpList P ops Q (o :: rest) a w
    unfold wpList
    rw [hw]; exact h
  | some l =>
    show wpListIn (fen (some l)) 0 P ops Q (o :: rest) a w
    unfold wpListIn
    rw [hw]; exact ⟨fun f _ => fen_fn _ f, h⟩
theorem lists_region {l : Option Nat} {P : Program} {Q : Exit → Act → World → Prop} {id : Nat} {ops : List Oper} {a : Act} {w : World} (h : lists l P ops.toArray Q ops a w) : (Code.region id ops.toArray false).wpIn (fen l) 0 P Q a w := by
  cases l with
  | none => exact wpIn_wide.2 (wp_region_lit h)
  | some l => exact wpIn_region_lit h
theorem lists_nil {l : Option Nat} {P : Program} {ops : Array Oper} {Q : Exit → Act → World → Prop} {a : Act} {w : World} (h : Q .normal a w) : lists l P ops Q [] a w := by
  cases l <;> exact h
theorem wq_region {id : Nat} {os : List Oper} (h : wl l P N os.toArray Q os F w) : wq l P N (.region id os.toArray false) Q F w := fun a ha => lists_region (h a ha)
theorem wl_nil {ops : Array Oper} (h : ∀ F', (∀ t, F' t = F t) → Q .normal F' w) : wl l P N ops Q [] F w := fun _ ha => lists_nil ⟨F, ha, h F fun _ => rfl⟩
theorem puts_of {N : Nat} {F : Nat → Value} {a : Act} {l : Option Nat} {P : Program} {ops : Array Oper} {Q : (Exit → (Nat → Value) → World → Prop)} {o : Oper} {rest : List Oper} {w : World} (ha : Fr N F a) (hd : fits N o.dst = true) (h : Yields P (ev (cutF N F)) o w (fun v w' => wl l P N ops Q rest (putF F o.dst v) w')) :
    Yields P a.eval o w (fun v w' => lists l P ops (Fp N Q) rest (a.put o.dst v) w') := by
  rw [← ha.eval] at h
  revert h
  unfold Yields
  generalize (execOp a.eval o).run P w = r
  intro h
  cases r with
  | ok n w' =>
    cases n <;> simp only at h ⊢ <;> first
      | exact h _ (ha.put hd _)
      | exact h.elim
      | exact Calls.mono h (fun e w'' ⟨v, he, hk⟩ => ⟨v, he, hk _ (ha.put hd _)⟩)
  | halt x w' => exact h.elim
theorem wl_op {ops : Array Oper} {o : Oper} {rest : List Oper} (hg : o.guard = none) (hd : fits N o.dst = true) (h : Yields P (ev (cutF N F)) o w (fun v w' => wl l P N ops Q rest (putF F o.dst v) w')) : wl l P N ops Q (o :: rest) F w :=
  fun _ ha => lists_step (by unfold Region.wanted; rw [hg]) (puts_of ha hd h)
theorem yielded_of {ops : Array Oper} {a : Act} {j : Nat} {d : Tmp} (ha : Fr N F a) (hj : (ops[j]?).bind (·.dst) = some d) (hd : Nat.blt d N = true) : yielded ops a.tmps j = match F d with | .bool b => some b | _ => none := by
  have hlt : d < a.tmps.size := by rw [ha.size]; simpa [Nat.blt_eq] using hd
  have he : a.tmps[d] = F d := by rw [← ha.at' d hd]; simp [Array.getD, hlt]
  unfold yielded
  rw [hj]
  simp only [Option.bind_some, Array.getElem?_eq_getElem hlt, he]
  cases F d <;> rfl
theorem wl_when {ops : Array Oper} {o : Oper} {rest : List Oper} (j : Nat) (want : Bool) (d : Tmp) (hg : o.guard = some (j, want)) (hj : (ops[j]?).bind (·.dst) = some d) (hdn : Nat.blt d N = true) (hv : F d = .bool want) (hd : fits N o.dst = true)
    (h : Yields P (ev (cutF N F)) o w (fun v w' => wl l P N ops Q rest (putF F o.dst v) w')) : wl l P N ops Q (o :: rest) F w := by
  intro a ha
  refine lists_step ?_ (puts_of ha hd h)
  unfold Region.wanted
  rw [hg]
  simp only [yielded_of ha hj hdn, hv]
  simp
theorem wl_unless {ops : Array Oper} {o : Oper} {rest : List Oper} (j : Nat) (want : Bool) (d : Tmp) (hg : o.guard = some (j, want)) (hj : (ops[j]?).bind (·.dst) = some d) (hdn : Nat.blt d N = true) (hv : F d = .bool (!want) ∨ F d = undef) (hd : fits N o.dst = true)
    (h : wl l P N ops Q rest (putF F o.dst undef) w) : wl l P N ops Q (o :: rest) F w := by
  intro a ha
  refine lists_pass ?_ (h _ (ha.put hd _))
  unfold Region.wanted
  rw [hg]
  simp only [yielded_of ha hj hdn]
  rcases hv with hv | hv <;> rw [hv]
  · cases want <;> simp
  · simp [undef]
theorem wl_call {ops : Array Oper} {o : Oper} {rest : List Oper} {R : Value → World → Prop} (hg : o.guard = none) (hd : fits N o.dst = true) (hy : Yields P (ev (cutF N F)) o w R) (h : ∀ v w', R v w' → wl l P N ops Q rest (putF F o.dst v) w') : wl l P N ops Q (o :: rest) F w := by
  refine wl_op hg hd ?_
  revert hy
  unfold Yields
  generalize (execOp (ev (cutF N F)) o).run P w = r
  intro hy
  cases r with
  | ok n w' =>
    cases n <;> simp only at hy ⊢ <;> first
      | exact h _ _ hy
      | exact hy.elim
      | exact Calls.mono hy (fun e w'' ⟨v, he, hk⟩ => ⟨v, he, h _ _ hk⟩)
  | halt x w' => exact hy.elim
def DepsF (D : List (Option Tmp)) (G : Nat → Value → World → Prop) (F : Nat → Value) (w : World) : List Edge → Prop
  | [] => True
  | e :: r => (Region.binds .any e = true → match D.getD e.on none with
    | some d => G e.on (F d) w
    | none => True) ∧ DepsF D G F w r
theorem Deps.toF {D : List (Option Tmp)} {G : Nat → Value → World → Prop} {a : Act} {w : World} : ∀ {es : List Edge}, Deps D G a w es → DepsF D G (fun t => a.tmps.getD t undef) w es := by
  intro es
  induction es with
  | nil => intro _; exact trivial
  | cons e r ih => intro h; exact ⟨h.1, ih h.2⟩
theorem DepsF.get {D : List (Option Tmp)} {G : Nat → Value → World → Prop} {F : Nat → Value} {w : World} : ∀ {es : List Edge} (k : Nat) {e : Edge} {d : Tmp}, DepsF D G F w es → es[k]? = some e → Region.binds .any e = true → D.getD e.on none = some d → G e.on (F d) w := by
  intro es
  induction es with
  | nil => intro k e d _ h; simp at h
  | cons x r ih =>
    intro k e d h hk hb hd
    cases k with
    | zero =>
      simp at hk
      subst hk
      have := h.1 hb
      rw [hd] at this
      exact this
    | succ k => exact ih k h.2 (by simpa using hk) hb hd
def StepF (N : Nat) (P : Program) (D : List (Option Tmp)) (Gs : List Pd) (F0 : Nat → Value) (w0 : World) (i : Nat) (o : Oper) : Prop :=
  ∀ (F : Nat → Value) (w : World), Kept (fun _ => False) w0 w → (∀ t, Nat.blt t N = true → some t ∉ D → F t = F0 t) → DepsF D (Said Gs) F w o.after.toList →
    match o.guard with
    | none => Yields P (ev F) o w (fun v w' => Said Gs i v w' ∧ Kept (fun _ => False) w w')
    | some (j, want) => ∃ d, D.getD j none = some d ∧
      ((F d = .bool want ∧ Yields P (ev F) o w (fun v w' => Said Gs i v w' ∧ Kept (fun _ => False) w w')) ∨ ((F d = .bool (!want) ∨ F d = undef) ∧ Said Gs i undef w))
def StepsF (N : Nat) (P : Program) (D : List (Option Tmp)) (Gs : List Pd) (F0 : Nat → Value) (w0 : World) : Nat → List Oper → Prop
  | _, [] => True
  | i, o :: r => StepF N P D Gs F0 w0 i o ∧ StepsF N P D Gs F0 w0 (i + 1) r
theorem StepF.step {D : List (Option Tmp)} {Gs : List Pd} {w0 : World} {i : Nat} {o : Oper} {a0 : Act} (ha : Fr N F a0) (h : StepF N P D Gs F w0 i o) : Step P (Kept (fun _ => False)) D (Said Gs) a0 w0 i o := by
  intro a w hR hout hD
  have h1 := h (fun t => a.tmps.getD t undef) w hR (fun t hb ht => by rw [← ha.at' t hb]; exact hout t ht) hD.toF
  rw [← eval_ev a] at h1
  unfold goes
  cases hg : o.guard with
  | none => rw [hg] at h1; exact ⟨fun _ => h1, fun e => by cases e⟩
  | some g =>
    obtain ⟨j, want⟩ := g
    rw [hg] at h1
    obtain ⟨d, hd, h1⟩ := h1
    simp only [hd]
    have hev : a.eval (.tmp d) = a.tmps.getD d undef := rfl
    rcases h1 with ⟨hv, hy⟩ | ⟨hv, hs⟩
    · rw [hev, hv]; exact ⟨fun _ => hy, fun e => by simp at e⟩
    · refine ⟨fun e => ?_, fun _ => hs⟩
      rcases hv with hv | hv
      · rw [hev, hv] at e; cases want <;> simp at e
      · rw [hev, hv] at e; simp [undef] at e
theorem StepsF.steps {D : List (Option Tmp)} {Gs : List Pd} {w0 : World} {a0 : Act} (ha : Fr N F a0) : ∀ {os : List Oper} {i : Nat}, StepsF N P D Gs F w0 i os → Steps P (Kept (fun _ => False)) D (Said Gs) a0 w0 i os := by
  intro os
  induction os with
  | nil => intro i _; exact trivial
  | cons o r ih => intro i h; exact ⟨h.1.step ha, ih h.2⟩
theorem stepsF_nil {D : List (Option Tmp)} {Gs : List Pd} {F0 : Nat → Value} {w0 : World} {i : Nat} : StepsF N P D Gs F0 w0 i [] := trivial
theorem stepsF_cons {D : List (Option Tmp)} {Gs : List Pd} {F0 : Nat → Value} {w0 : World} {i : Nat} {o : Oper} {r : List Oper} (h : StepF N P D Gs F0 w0 i o) (k : StepsF N P D Gs F0 w0 (i + 1) r) : StepsF N P D Gs F0 w0 i (o :: r) := ⟨h, k⟩
theorem StepF.one {D : List (Option Tmp)} {Gs : List Pd} {F0 : Nat → Value} {w0 : World} {i : Nat} {o : Oper} (hg : o.guard = none)
    (h : ∀ (F : Nat → Value) (w : World), Kept (fun _ => False) w0 w → (∀ t, Nat.blt t N = true → some t ∉ D → F t = F0 t) → DepsF D (Said Gs) F w o.after.toList → Yields P (ev F) o w (fun v w' => Said Gs i v w' ∧ Kept (fun _ => False) w w')) : StepF N P D Gs F0 w0 i o := by
  intro F w h1 h2 h3
  rw [hg]
  exact h F w h1 h2 h3
def putsF (v : Nat → Value) : Nat → List (Option Tmp) → (Nat → Value) → Nat → Value
  | _, [], F => F
  | i, d :: r, F => putsF v (i + 1) r (putF F d (v i))
theorem plain_fits {size : Nat} : ∀ {i : Nat} {D : List (Option Tmp)} {os : List Oper}, plain size i D os = true → ∀ d ∈ D, fits size d = true := by
  intro i D os
  induction os generalizing i D with
  | nil =>
    intro h
    cases D with
    | nil => intro d hd; cases hd
    | cons d D => simp [plain] at h
  | cons o r ih =>
    intro h
    cases D with
    | nil => intro d hd; cases hd
    | cons x D =>
      simp only [plain, Bool.and_eq_true] at h
      obtain ⟨⟨⟨h1, h2⟩, h3⟩, h4⟩ := h
      intro d hd
      rcases List.mem_cons.1 hd with rfl | hd
      · cases d with
        | none => rfl
        | some d =>
          simp only [Bool.and_eq_true, decide_eq_true_eq] at h2
          simpa [fits, Nat.blt_eq] using h2.1
      · exact ih h4 d hd
theorem putAll_fr (v : Nat → Value) : ∀ (D : List (Option Tmp)) (i : Nat) (F : Nat → Value) (a : Act), Fr N F a → (∀ d ∈ D, fits N d = true) → Fr N (putsF v i D F) (putAll v i D a) := by
  intro D
  induction D with
  | nil => intro i F a h _; exact h
  | cons d r ih => intro i F a h hf; exact ih (i + 1) _ _ (h.put (hf d (by simp)) _) (fun x hx => hf x (by simp [hx]))
theorem wq_said {id : Nat} {ops : Array Oper} (D : List (Option Tmp)) (Gs : List Pd) (hm : P.follows .mixedOrders = true) (hpl : plain N 0 D ops.toList = true) (hsteps : StepsF N P D Gs F w 0 ops.toList)
    (hend : ∀ (v : Nat → Value) (F' : Nat → Value) (w' : World), Kept (fun _ => False) w w' → (∀ i, i < ops.size → Said Gs i (v i) w') → (∀ t, F' t = putsF v 0 D F t) → Q .normal F' w') : wq none P N (.region id ops true) Q F w := by
  intro a ha
  refine wpIn_wide.2 ?_
  refine wp_region_said D Gs hm (by rw [ha.size]; exact hpl) (hsteps.steps ha) fun v w' hk hG => ?_
  exact ⟨putsF v 0 D F, putAll_fr v D 0 F a ha (plain_fits hpl), hend v _ w' hk hG fun _ => rfl⟩
theorem wq_tail {id : Nat} {ops : Array Oper} (n : Nat) (D : List (Option Tmp)) (Gs : List Pd) (hm : P.follows .mixedOrders = true) (hta : tailed ops.toList n = true) (hpl : plain N 0 D (ops.toList.take n) = true) (hsteps : StepsF N P D Gs F w 0 (ops.toList.take n))
    (hend : ∀ (v : Nat → Value) (F' : Nat → Value) (w' : World), Kept (fun _ => False) w w' → (∀ i, i < n → Said Gs i (v i) w') → (∀ t, F' t = putsF v 0 D F t) → wl none P N ops Q (ops.toList.drop n) F' w') : wq none P N (.region id ops true) Q F w := by
  intro a ha
  refine wpIn_wide.2 ?_
  refine wp_region_tail n D Gs hm hta (by rw [ha.size]; exact hpl) (hsteps.steps ha) fun v w' hk hG => ?_
  exact hend v _ w' hk hG (fun _ => rfl) _ (putAll_fr v D 0 F a ha (plain_fits hpl))
end
def endP (P : Program) (fn : Func) (N : Nat) (R : Ending → World → Prop) : (Exit → (Nat → Value) → World → Prop)
  | .normal, F, w | .ret, F, w => F N = undef ∧ ∀ a, Fr N F a → ∃ v, (results fn a.tmps).run P w = .ok v w ∧ R (.returned v) w
  | _, _, _ => False
def argF (args : List Value) : Nat → Value := fun t => args.getD t undef
theorem calls_wq {P : Program} {f : FuncId} {fn : Func} {c : Code} {args : List Value} {w : World} {R : Ending → World → Prop} (N : Nat) (hf : P.funcs[f]? = some fn) (hb : fn.body = some c) (hn : fn.ntmps = N) (hl : args.length ≤ N)
    (h : wq none P N c (endP P fn N R) (argF args) w) : Calls P f args.toArray w R := by
  refine calls_of_wp hf hb ?_
  subst hn
  have hs : (args.toArray ++ Array.replicate (fn.ntmps - args.toArray.size) undef).size = fn.ntmps := by simp; omega
  have hu : argF args fn.ntmps = undef := by
    unfold argF
    rw [List.getD_eq_getElem?_getD, List.getElem?_eq_none hl]; rfl
  refine wp_mono (wpIn_wide.1 (h _ ⟨hs, by rw [hu]; rfl, fun t _ => ?_⟩)) ?_
  · unfold argF
    simp only [Array.getD_eq_getD_getElem?, List.getD_eq_getElem?_getD]
    by_cases h1 : t < args.length
    · rw [Array.getElem?_append_left (by simpa using h1)]; simp
    · rw [Array.getElem?_append_right (by simp; omega), List.getElem?_eq_none (by omega)]
      by_cases h2 : t < fn.ntmps
      · rw [Array.getElem?_replicate]; split <;> rfl
      · rw [Array.getElem?_eq_none (by simp; omega)]
  · rintro e a' w' ⟨F', hF, hq⟩
    cases e <;> first
      | exact ⟨by rw [hF.defers, hq.1]; rfl, hq.2 a' hF⟩
      | exact hq.elim
section
variable {P : Program} {fn : Func} {N : Nat} {R : Ending → World → Prop} {F : Nat → Value} {w : World}
theorem end_tmp {t : Tmp} {v : Value} (hm : F N = undef) (ht : Nat.blt t N = true) (h : fn.results = #[.tmp t]) (hv : F t = v) (hR : R (.returned v) w) : endP P fn N R .ret F w :=
  ⟨hm, fun a ha => ⟨v, by rw [results_tmp h]; rw [ha.at' t ht, hv], hR⟩⟩
theorem end_none (hm : F N = undef) (h : fn.results = #[]) (hR : R (.returned (.tuple #[])) w) : endP P fn N R .normal F w := ⟨hm, fun _ _ => ⟨_, results_none h _ _ _, hR⟩⟩
theorem end_none_ret (hm : F N = undef) (h : fn.results = #[]) (hR : R (.returned (.tuple #[])) w) : endP P fn N R .ret F w := ⟨hm, fun _ _ => ⟨_, results_none h _ _ _, hR⟩⟩
def ResOk (P : Program) (N : Nat) (F : Nat → Value) (w : World) : ResultVar → Value → Prop
  | .tmp t, v => Nat.blt t N = true ∧ F t = v
  | .cell a t, v => Nat.blt a N = true ∧ ∃ ad, F a = .pointer (some ad) ∧ (loadVar t ad).run P w = .ok v w
theorem res_tmp {t : Tmp} {v : Value} (ht : Nat.blt t N = true) (h : F t = v) : ResOk P N F w (.tmp t) v := ⟨ht, h⟩
theorem end_2 {r1 r2 : ResultVar} {v1 v2 : Value} (hm : F N = undef) (h : fn.results = #[r1, r2]) (h1 : ResOk P N F w r1 v1) (h2 : ResOk P N F w r2 v2)
    (hR : R (.returned (.tuple #[v1, v2])) w) : endP P fn N R .ret F w := by
  refine ⟨hm, fun a ha => ⟨_, ?_, hR⟩⟩
  cases r1 <;> cases r2 <;> simp only [ResOk] at h1 h2
  · obtain ⟨b1, h1⟩ := h1; obtain ⟨b2, h2⟩ := h2
    rw [← ha.at' _ b1] at h1; rw [← ha.at' _ b2] at h2
    simp [results, h] at *; simp [h1, h2]
  · obtain ⟨b1, h1⟩ := h1; obtain ⟨b2, ad, e, hl⟩ := h2
    rw [← ha.at' _ b1] at h1; rw [← ha.at' _ b2] at e
    simp [results, h] at *; simp [h1, e, asAddr, hl]
  · obtain ⟨b1, ad, e, hl⟩ := h1; obtain ⟨b2, h2⟩ := h2
    rw [← ha.at' _ b2] at h2; rw [← ha.at' _ b1] at e
    simp [results, h] at *; simp [h2, e, asAddr, hl]
  · obtain ⟨b1, ad, e, hl⟩ := h1; obtain ⟨b2, ad2, e2, hl2⟩ := h2
    rw [← ha.at' _ b1] at e; rw [← ha.at' _ b2] at e2
    simp [results, h] at *; simp [e, e2, asAddr, hl, hl2]
end
end Go.Proofs.YtknjpdcpmpfklaaGreatDoor
set_option maxRecDepth 100000
namespace Go.Proofs.YtknjpdcpmpfklaaGreatDoor
open Go.RowKit
theorem i64_n {x : Int} {m : Nat} (h : x = (m : Int)) (hm : m ≤ 9223372036854775807) : IntKind.i64.wrap x = (m : Int) := by subst h; exact IntWalk.i64_in _ (by omega)
theorem i64_i {x y : Int} (h : x = y) (hy : -9223372036854775808 ≤ y ∧ y ≤ 9223372036854775807) : IntKind.i64.wrap x = y := by subst h; exact IntWalk.i64_in _ hy
theorem y_of {P : Program} {ρ : Operand → Value} {o : Oper} {w : World} {R : Value → World → Prop} {v : Value} {w' : World} (h : (execOp ρ o).run P w = .ok (.value v) w') (hR : R v w') : Yields P ρ o w R := by
  unfold Yields; rw [h]; exact hR
section
variable {ro : Option Nat} {P : Program} {ρ : Operand → Value} {o : Oper} {w : World} {R : Value → World → Prop}
theorem y_mov {x : Operand} {v : Value} (ho : o.op = .move x) (hx : ρ x = v) (h : R v w) : Yields P ρ o w R := y_move ho (by rw [hx]; exact h)
theorem y_asg {x : Operand} {v : Value} (ho : o.op = .assign x) (hx : ρ x = v) (h : R v w) : Yields P ρ o w R := y_assign ho (by rw [hx]; exact h)
theorem y_pickT {c x y : Operand} {v : Value} (ho : o.op = .pick c x y) (hc : ρ c = .bool true) (hx : ρ x = v) (h : R v w) : Yields P ρ o w R := y_pick_true ho hc (by rw [hx]; exact h)
theorem y_pickF {c x y : Operand} {v : Value} (ho : o.op = .pick c x y) (hc : ρ c = .bool false) (hy : ρ y = v) (h : R v w) : Yields P ρ o w R := y_pick_false ho hc (by rw [hy]; exact h)
theorem y_add {t t' : TypeId} {k : IntKind} {x y : Operand} {m n r : Int} (ho : o.op = .binOp .add t x y t') (hx : ρ x = .int k m) (hy : ρ y = .int k n) (hr : k.wrap (m + n) = r) (h : R (.int k r) w) : Yields P ρ o w R :=
  y_of (v := .int k (k.wrap (m + n))) (w' := w) (by simp [execOp, ho, hx, hy, go_sem]) (by rw [hr]; exact h)
theorem y_sub {t t' : TypeId} {k : IntKind} {x y : Operand} {m n r : Int} (ho : o.op = .binOp .sub t x y t') (hx : ρ x = .int k m) (hy : ρ y = .int k n) (hr : k.wrap (m - n) = r) (h : R (.int k r) w) : Yields P ρ o w R :=
  y_of (v := .int k (k.wrap (m - n))) (w' := w) (by simp [execOp, ho, hx, hy, go_sem]) (by rw [hr]; exact h)
theorem y_mul {t t' : TypeId} {k : IntKind} {x y : Operand} {m n r : Int} (ho : o.op = .binOp .mul t x y t') (hx : ρ x = .int k m) (hy : ρ y = .int k n) (hr : k.wrap (m * n) = r) (h : R (.int k r) w) : Yields P ρ o w R :=
  y_of (v := .int k (k.wrap (m * n))) (w' := w) (by simp [execOp, ho, hx, hy, go_sem]) (by rw [hr]; exact h)
theorem y_quo {t t' : TypeId} {k : IntKind} {x y : Operand} {m n r : Int} (ho : o.op = .binOp .quo t x y t') (hx : ρ x = .int k m) (hy : ρ y = .int k n) (hn : n ≠ 0) (hr : k.wrap (m.tdiv n) = r) (h : R (.int k r) w) : Yields P ρ o w R :=
  y_of (v := .int k (k.wrap (m.tdiv n))) (w' := w) (by simp [execOp, ho, hx, hy, hn, go_sem]) (by rw [hr]; exact h)
theorem y_rem {t t' : TypeId} {k : IntKind} {x y : Operand} {m n r : Int} (ho : o.op = .binOp .rem t x y t') (hx : ρ x = .int k m) (hy : ρ y = .int k n) (hn : n ≠ 0) (hr : m.tmod n = r) (h : R (.int k r) w) : Yields P ρ o w R :=
  y_of (v := .int k (m.tmod n)) (w' := w) (by simp [execOp, ho, hx, hy, hn, go_sem]) (by rw [hr]; exact h)
theorem y_neg {t : TypeId} {k : IntKind} {x : Operand} {m r : Int} (ho : o.op = .unOp .neg t x) (hx : ρ x = .int k m) (hr : k.wrap (-m) = r) (h : R (.int k r) w) : Yields P ρ o w R :=
  y_of (v := .int k (k.wrap (-m))) (w' := w) (by simp [execOp, ho, hx, go_sem]) (by rw [hr]; exact h)
theorem y_shrR {t t' : TypeId} {k k' : IntKind} {x y : Operand} {m r : Int} (n : Nat) (ho : o.op = .binOp .shr t x y t') (hx : ρ x = .int k m) (hy : ρ y = .int k' (n : Int)) (hn : n ≤ k.bits) (hr : m / 2 ^ n = r) (h : R (.int k r) w) : Yields P ρ o w R :=
  y_shr ho hx hy hn (by rw [hr]; exact h)
theorem y_convR {src dst : TypeId} {x : Operand} {k k' : IntKind} {n r : Int} {d : TypeDesc} (ho : o.op = .convert src dst x) (hx : ρ x = .int k n) (hs : P.underlying src = some d) (hd : P.underlying dst = some (.int k')) (hr : k'.wrap n = r) (h : R (.int k' r) w) : Yields P ρ o w R :=
  y_conv ho hx hs hd (by rw [hr]; exact h)
theorem y_lss {t t' : TypeId} {k : IntKind} {x y : Operand} {m n : Int} {b : Bool} (ho : o.op = .binOp .lss t x y t') (hx : ρ x = .int k m) (hy : ρ y = .int k n) (hr : decide (m < n) = b) (h : R (.bool b) w) : Yields P ρ o w R :=
  y_of (v := .bool (decide (m < n))) (w' := w) (by simp [execOp, ho, hx, hy, go_sem]) (by rw [hr]; exact h)
theorem y_leq {t t' : TypeId} {k : IntKind} {x y : Operand} {m n : Int} {b : Bool} (ho : o.op = .binOp .leq t x y t') (hx : ρ x = .int k m) (hy : ρ y = .int k n) (hr : decide (m ≤ n) = b) (h : R (.bool b) w) : Yields P ρ o w R :=
  y_of (v := .bool (decide (m ≤ n))) (w' := w) (by simp [execOp, ho, hx, hy, go_sem]) (by rw [hr]; exact h)
theorem y_gtr {t t' : TypeId} {k : IntKind} {x y : Operand} {m n : Int} {b : Bool} (ho : o.op = .binOp .gtr t x y t') (hx : ρ x = .int k m) (hy : ρ y = .int k n) (hr : decide (n < m) = b) (h : R (.bool b) w) : Yields P ρ o w R :=
  y_of (v := .bool (decide (n < m))) (w' := w) (by simp [execOp, ho, hx, hy, go_sem]) (by rw [hr]; exact h)
theorem y_geq {t t' : TypeId} {k : IntKind} {x y : Operand} {m n : Int} {b : Bool} (ho : o.op = .binOp .geq t x y t') (hx : ρ x = .int k m) (hy : ρ y = .int k n) (hr : decide (n ≤ m) = b) (h : R (.bool b) w) : Yields P ρ o w R :=
  y_of (v := .bool (decide (n ≤ m))) (w' := w) (by simp [execOp, ho, hx, hy, go_sem]) (by rw [hr]; exact h)
theorem y_eqlI {t t' : TypeId} {k : IntKind} {x y : Operand} {m n : Int} {b : Bool} (ho : o.op = .binOp .eql t x y t') (hx : ρ x = .int k m) (hy : ρ y = .int k n) (hr : decide (m = n) = b) (h : R (.bool b) w) : Yields P ρ o w R :=
  y_eql_int ho hx hy (by rw [show (m == n) = b from hr]; exact h)
theorem y_neqI {t t' : TypeId} {k : IntKind} {x y : Operand} {m n : Int} {b : Bool} (ho : o.op = .binOp .neq t x y t') (hx : ρ x = .int k m) (hy : ρ y = .int k n) (hr : decide (m ≠ n) = b) (h : R (.bool b) w) : Yields P ρ o w R := by
  refine y_of (v := .bool (m != n)) (w' := w) (by simp [execOp, ho, hx, hy, go_sem, bne]) ?_
  rw [show (m != n) = b by rw [← hr]; by_cases e : m = n <;> simp [bne, e]]; exact h
theorem y_not {t : TypeId} {x : Operand} {b c : Bool} (ho : o.op = .unOp .not t x) (hx : ρ x = .bool b) (hr : (!b) = c) (h : R (.bool c) w) : Yields P ρ o w R :=
  y_of (v := .bool (!b)) (w' := w) (by simp [execOp, ho, hx, go_sem]) (by rw [hr]; exact h)
theorem y_minR {ts : Array TypeId} {k : IntKind} {x y : Operand} {m n r : Int} (ho : o.op = .call { callee := .builtin .min, args := #[x, y], argTypes := ts }) (hx : ρ x = .int k m) (hy : ρ y = .int k n) (he : min m n = r) (h : R (.int k r) w) : Yields P ρ o w R := by
  have e : (if n < m then n else m) = min m n := by split <;> omega
  have hr := run_min_int2 (P := P) w ts o.type k k m n
  rw [e, he] at hr
  exact y_of (v := .int k r) (w' := w) (by simp only [execOp, ho, resolve, invoke, builtin, Sem.run_bind, Sem.run_pure, Result.andThen_ok, List.map_toArray, List.map_cons, List.map_nil, hx, hy, hr]) h
theorem y_maxR {ts : Array TypeId} {k : IntKind} {x y : Operand} {m n r : Int} (ho : o.op = .call { callee := .builtin .max, args := #[x, y], argTypes := ts }) (hx : ρ x = .int k m) (hy : ρ y = .int k n) (he : max m n = r) (h : R (.int k r) w) : Yields P ρ o w R := by
  have e : (if n > m then n else m) = max m n := by split <;> omega
  have hr := run_max_int2 (P := P) w ts o.type k k m n
  rw [e, he] at hr
  exact y_of (v := .int k r) (w' := w) (by simp only [execOp, ho, resolve, invoke, builtin, Sem.run_bind, Sem.run_pure, Result.andThen_ok, List.map_toArray, List.map_cons, List.map_nil, hx, hy, hr]) h
theorem y_atR {t e : TypeId} {n b off off' s : Nat} {k : IntKind} {x ix : Operand} (j : Nat) {i : Int} (ho : o.op = .indexAddr t x ix) (hx : ρ x = .pointer (some ⟨b, off, none⟩)) (hi : ρ ix = .int k i) (hij : i = (j : Int)) (hu : P.underlying t = some (.array n e)) (hj : j < n) (hs : (P.info? e).map (·.size) = some s) (hoff : off + j * s = off')
    (h : R (.pointer (some ⟨b, off', none⟩)) w) : Yields P ρ o w R := by
  subst hij
  cases hq : P.info? e with
  | none => simp [hq] at hs
  | some i =>
    have hs' : i.size = s := by simpa [hq] using hs
    refine y_of (v := .pointer (some ⟨b, off + j * s, none⟩)) (w' := w) ?_ (by rw [hoff]; exact h)
    simp only [execOp, ho, hx, hi]
    by_cases h0 : j * s = 0
    · simp [Instr.indexAt, run_underlying hu, Instr.sureAddr, asIntOf, sizeOf, typeInfo, hq, hs', hj, Addr.add, h0]
    · simp [Instr.indexAt, run_underlying hu, Instr.sureAddr, asIntOf, sizeOf, typeInfo, hq, hs', hj, Addr.add, h0]
theorem y_buildR {t : TypeId} {parts : Array (Nat × Operand)} {cells : Array Value} {v : Value} (ho : o.op = .build t parts) (hc : P.built t (parts.map fun (i, x) => (i, ρ x)).toList = some cells) (hv : .agg cells = v) (h : R v w) : Yields P ρ o w R :=
  y_of (v := .agg cells) (w' := w) (by simp only [execOp, ho, Sem.run_bind, run_build w t _ cells hc, Result.andThen_ok, Sem.run_pure]) (by rw [hv]; exact h)
theorem y_ldR {ty : TypeId} {x : Operand} {a : Addr} {v : Value} {k : IntKind} (ho : o.op = .load ty x) (hx : ρ x = .pointer (some a)) (hu : P.underlying ty = some (.int k)) (hc : w.cell? a = some v) (h : R v w) : Yields P ρ o w R := y_ld ho hx hc hu h
theorem y_ext {x : Operand} {i : Nat} {vs : Array Value} {v : Value} (ho : o.op = .extract x i) (hx : ρ x = .tuple vs) (hi : vs[i]? = some v) (h : R v w) : Yields P ρ o w R :=
  y_of (v := v) (w' := w) (by simp [execOp, ho, hx, Instr.extract, hi]) h
theorem y_cs {f : FuncId} {c : Call} {S : Ending → World → Prop} {xs : List Operand} {vs : List Value} (ho : o.op = .call c) (hc : c.callee = .value (.func f)) (hx : c.args = xs.toArray) (hf : ∀ args w, (callFunc f args).run P w = .ok (.enter f args) w)
    (ev0 : ∀ f, ρ (.func f) = .func (.func f) #[] #[]) (hv : xs.map ρ = vs) (h : Calls P f vs.toArray w S) (hS : ∀ e w', S e w' → ∃ v, e = .returned v ∧ R v w') : Yields P ρ o w R := by
  obtain ⟨cl, ag, ts⟩ := c
  simp only at hc hx
  subst hc; subst hx; subst hv
  unfold Yields
  have e : (execOp ρ o).run P w = .ok (.enter f (xs.map ρ).toArray) w := by simp [execOp, ho, resolve, ev0, Deferred.ofValue, invoke, hf]
  rw [e]
  exact h.mono hS
theorem y_cv {f : FuncId} {c : Call} {S : Ending → World → Prop} {cx : Operand} {xs : List Operand} {vs : List Value} (ho : o.op = .call c) (hc : c.callee = .value cx) (hcx : ρ cx = .func (.func f) #[] #[]) (hx : c.args = xs.toArray) (hf : ∀ args w, (callFunc f args).run P w = .ok (.enter f args) w)
    (hv : xs.map ρ = vs) (h : Calls P f vs.toArray w S) (hS : ∀ e w', S e w' → ∃ v, e = .returned v ∧ R v w') : Yields P ρ o w R := by
  obtain ⟨cl, ag, ts⟩ := c
  simp only at hc hx
  subst hc; subst hx; subst hv
  unfold Yields
  have e : (execOp ρ o).run P w = .ok (.enter f (xs.map ρ).toArray) w := by simp [execOp, ho, resolve, hcx, Deferred.ofValue, invoke, hf]
  rw [e]
  exact h.mono hS
end
theorem ev_func (F : Nat → Value) : ∀ f, ev F (.func f) = .func (.func f) #[] #[] := fun _ => rfl
theorem vs1 {ρ : Operand → Value} {x : Operand} {v : Value} (h : ρ x = v) : [x].map ρ = [v] := by simp [h]
theorem vs2 {ρ : Operand → Value} {x y : Operand} {v u : Value} (h : ρ x = v) (h2 : ρ y = u) : [x, y].map ρ = [v, u] := by simp [h, h2]
theorem vsN {ρ : Operand → Value} : ([] : List Operand).map ρ = [] := rfl
theorem vsC {ρ : Operand → Value} {x : Operand} {v : Value} {xs : List Operand} {vs : List Value} (h : ρ x = v) (h2 : xs.map ρ = vs) : (x :: xs).map ρ = v :: vs := by simp [h, ← h2]
section
variable {ro : Option Nat} {P : Program} {N : Nat} {Q : (Exit → (Nat → Value) → World → Prop)} {F : Nat → Value} {w : World}
theorem wl_v {ops : Array Oper} {o : Oper} {rest : List Oper} (v : Value) (hg : o.guard = none) (hd : fits N o.dst = true) (hy : Yields P (ev (cutF N F)) o w (fun u w' => u = v ∧ w' = w)) (h : wl ro P N ops Q rest (putF F o.dst v) w) : wl ro P N ops Q (o :: rest) F w :=
  wl_call hg hd hy fun u w' ⟨h1, h2⟩ => by subst h1; subst h2; exact h
theorem wl_vw {ops : Array Oper} {o : Oper} {rest : List Oper} (v : Value) (j : Nat) (want : Bool) (d : Tmp) (hg : o.guard = some (j, want)) (hj : (ops[j]?).bind (·.dst) = some d) (hdn : Nat.blt d N = true) (hv : F d = .bool want) (hd : fits N o.dst = true)
    (hy : Yields P (ev (cutF N F)) o w (fun u w' => u = v ∧ w' = w)) (h : wl ro P N ops Q rest (putF F o.dst v) w) : wl ro P N ops Q (o :: rest) F w := by
  refine wl_when j want d hg hj hdn hv hd ?_
  revert hy
  unfold Yields
  generalize (execOp (ev (cutF N F)) o).run P w = r
  intro hy
  cases r with
  | ok n w' =>
    cases n <;> simp only at hy ⊢ <;> first
      | (obtain ⟨h1, h2⟩ := hy; subst h1; subst h2; exact h)
      | exact hy.elim
      | exact Calls.mono hy (fun e w'' ⟨u, he, h1, h2⟩ => ⟨u, he, by subst h1; subst h2; exact h⟩)
  | halt x w' => exact hy.elim
end
theorem rr {α β : Type} {a : α} {b : β} : a = a ∧ b = b := ⟨rfl, rfl⟩
abbrev pt (p k : Nat) : Value := .pointer (some ⟨p, k, none⟩)
abbrev iv (n : Int) : Value := .int .i64 n
section
variable {ro : Option Nat} {P : Program} {N : Nat} {Q : (Exit → (Nat → Value) → World → Prop)} {F : Nat → Value} {w : World}
theorem wl_mv {ops : Array Oper} {o : Oper} {rest : List Oper} {x : Operand} {v : Value} (hg : o.guard = none) (hd : fits N o.dst = true) (ho : o.op = .move x) (hx : ev (cutF N F) x = v) (h : wl ro P N ops Q rest (putF F o.dst v) w) : wl ro P N ops Q (o :: rest) F w :=
  wl_v v hg hd (y_mov ho hx ⟨rfl, rfl⟩) h
theorem wl_as {ops : Array Oper} {o : Oper} {rest : List Oper} {x : Operand} {v : Value} (hg : o.guard = none) (hd : fits N o.dst = true) (ho : o.op = .assign x) (hx : ev (cutF N F) x = v) (h : wl ro P N ops Q rest (putF F o.dst v) w) : wl ro P N ops Q (o :: rest) F w :=
  wl_v v hg hd (y_asg ho hx ⟨rfl, rfl⟩) h
theorem wl_cs {ops : Array Oper} {o : Oper} {rest : List Oper} {f : FuncId} {c : Call} {v : Value} {xs : List Operand} {vs : List Value} (hg : o.guard = none) (hd : fits N o.dst = true) (ho : o.op = .call c) (hc : c.callee = .value (.func f)) (hx : c.args = xs.toArray) (hf : ∀ args w, (callFunc f args).run P w = .ok (.enter f args) w)
    (hv : xs.map (ev (cutF N F)) = vs) (h : Calls P f vs.toArray w (fun e w' => e = .returned v ∧ Kept (fun _ => False) w w')) (k : ∀ w', Kept (fun _ => False) w w' → wl ro P N ops Q rest (putF F o.dst v) w') : wl ro P N ops Q (o :: rest) F w :=
  wl_call (R := fun u w' => u = v ∧ Kept (fun _ => False) w w') hg hd (y_cs ho hc hx hf (ev_func _) hv h (fun _ _ hh => ⟨_, hh.1, rfl, hh.2⟩)) (fun _ w' hh => by obtain ⟨h1, h2⟩ := hh; subst h1; exact k w' h2)
end
theorem Kept.tr {S : Nat → Prop} {a b c : World} (h : Kept S a b) (k : Kept (fun _ => False) b c) : Kept S a c := h.trans k (fun _ _ x => x.elim)
section
variable {F G : Nat → Value}
theorem t2 (h : ∀ i, F i = G i) (i0 : Nat) {x0 : Value} (p0 : G i0 = x0) (i1 : Nat) {x1 : Value} (p1 : G i1 = x1) : F i0 = x0 ∧ F i1 = x1 :=
  ⟨(h i0).trans p0, (h i1).trans p1⟩
theorem t3 (h : ∀ i, F i = G i) (i0 : Nat) {x0 : Value} (p0 : G i0 = x0) (i1 : Nat) {x1 : Value} (p1 : G i1 = x1) (i2 : Nat) {x2 : Value} (p2 : G i2 = x2) : F i0 = x0 ∧ F i1 = x1 ∧ F i2 = x2 :=
  ⟨(h i0).trans p0, (h i1).trans p1, (h i2).trans p2⟩
theorem t4 (h : ∀ i, F i = G i) (i0 : Nat) {x0 : Value} (p0 : G i0 = x0) (i1 : Nat) {x1 : Value} (p1 : G i1 = x1) (i2 : Nat) {x2 : Value} (p2 : G i2 = x2) (i3 : Nat) {x3 : Value} (p3 : G i3 = x3) : F i0 = x0 ∧ F i1 = x1 ∧ F i2 = x2 ∧ F i3 = x3 :=
  ⟨(h i0).trans p0, (h i1).trans p1, (h i2).trans p2, (h i3).trans p3⟩
theorem t5 (h : ∀ i, F i = G i) (i0 : Nat) {x0 : Value} (p0 : G i0 = x0) (i1 : Nat) {x1 : Value} (p1 : G i1 = x1) (i2 : Nat) {x2 : Value} (p2 : G i2 = x2) (i3 : Nat) {x3 : Value} (p3 : G i3 = x3) (i4 : Nat) {x4 : Value} (p4 : G i4 = x4) : F i0 = x0 ∧ F i1 = x1 ∧ F i2 = x2 ∧ F i3 = x3 ∧ F i4 = x4 :=
  ⟨(h i0).trans p0, (h i1).trans p1, (h i2).trans p2, (h i3).trans p3, (h i4).trans p4⟩
theorem t6 (h : ∀ i, F i = G i) (i0 : Nat) {x0 : Value} (p0 : G i0 = x0) (i1 : Nat) {x1 : Value} (p1 : G i1 = x1) (i2 : Nat) {x2 : Value} (p2 : G i2 = x2) (i3 : Nat) {x3 : Value} (p3 : G i3 = x3) (i4 : Nat) {x4 : Value} (p4 : G i4 = x4) (i5 : Nat) {x5 : Value} (p5 : G i5 = x5) : F i0 = x0 ∧ F i1 = x1 ∧ F i2 = x2 ∧ F i3 = x3 ∧ F i4 = x4 ∧ F i5 = x5 :=
  ⟨(h i0).trans p0, (h i1).trans p1, (h i2).trans p2, (h i3).trans p3, (h i4).trans p4, (h i5).trans p5⟩
theorem t7 (h : ∀ i, F i = G i) (i0 : Nat) {x0 : Value} (p0 : G i0 = x0) (i1 : Nat) {x1 : Value} (p1 : G i1 = x1) (i2 : Nat) {x2 : Value} (p2 : G i2 = x2) (i3 : Nat) {x3 : Value} (p3 : G i3 = x3) (i4 : Nat) {x4 : Value} (p4 : G i4 = x4) (i5 : Nat) {x5 : Value} (p5 : G i5 = x5) (i6 : Nat) {x6 : Value} (p6 : G i6 = x6) : F i0 = x0 ∧ F i1 = x1 ∧ F i2 = x2 ∧ F i3 = x3 ∧ F i4 = x4 ∧ F i5 = x5 ∧ F i6 = x6 :=
  ⟨(h i0).trans p0, (h i1).trans p1, (h i2).trans p2, (h i3).trans p3, (h i4).trans p4, (h i5).trans p5, (h i6).trans p6⟩
theorem t8 (h : ∀ i, F i = G i) (i0 : Nat) {x0 : Value} (p0 : G i0 = x0) (i1 : Nat) {x1 : Value} (p1 : G i1 = x1) (i2 : Nat) {x2 : Value} (p2 : G i2 = x2) (i3 : Nat) {x3 : Value} (p3 : G i3 = x3) (i4 : Nat) {x4 : Value} (p4 : G i4 = x4) (i5 : Nat) {x5 : Value} (p5 : G i5 = x5) (i6 : Nat) {x6 : Value} (p6 : G i6 = x6) (i7 : Nat) {x7 : Value} (p7 : G i7 = x7) : F i0 = x0 ∧ F i1 = x1 ∧ F i2 = x2 ∧ F i3 = x3 ∧ F i4 = x4 ∧ F i5 = x5 ∧ F i6 = x6 ∧ F i7 = x7 :=
  ⟨(h i0).trans p0, (h i1).trans p1, (h i2).trans p2, (h i3).trans p3, (h i4).trans p4, (h i5).trans p5, (h i6).trans p6, (h i7).trans p7⟩
theorem t9 (h : ∀ i, F i = G i) (i0 : Nat) {x0 : Value} (p0 : G i0 = x0) (i1 : Nat) {x1 : Value} (p1 : G i1 = x1) (i2 : Nat) {x2 : Value} (p2 : G i2 = x2) (i3 : Nat) {x3 : Value} (p3 : G i3 = x3) (i4 : Nat) {x4 : Value} (p4 : G i4 = x4) (i5 : Nat) {x5 : Value} (p5 : G i5 = x5) (i6 : Nat) {x6 : Value} (p6 : G i6 = x6) (i7 : Nat) {x7 : Value} (p7 : G i7 = x7) (i8 : Nat) {x8 : Value} (p8 : G i8 = x8) : F i0 = x0 ∧ F i1 = x1 ∧ F i2 = x2 ∧ F i3 = x3 ∧ F i4 = x4 ∧ F i5 = x5 ∧ F i6 = x6 ∧ F i7 = x7 ∧ F i8 = x8 :=
  ⟨(h i0).trans p0, (h i1).trans p1, (h i2).trans p2, (h i3).trans p3, (h i4).trans p4, (h i5).trans p5, (h i6).trans p6, (h i7).trans p7, (h i8).trans p8⟩
theorem t10 (h : ∀ i, F i = G i) (i0 : Nat) {x0 : Value} (p0 : G i0 = x0) (i1 : Nat) {x1 : Value} (p1 : G i1 = x1) (i2 : Nat) {x2 : Value} (p2 : G i2 = x2) (i3 : Nat) {x3 : Value} (p3 : G i3 = x3) (i4 : Nat) {x4 : Value} (p4 : G i4 = x4) (i5 : Nat) {x5 : Value} (p5 : G i5 = x5) (i6 : Nat) {x6 : Value} (p6 : G i6 = x6) (i7 : Nat) {x7 : Value} (p7 : G i7 = x7) (i8 : Nat) {x8 : Value} (p8 : G i8 = x8) (i9 : Nat) {x9 : Value} (p9 : G i9 = x9) : F i0 = x0 ∧ F i1 = x1 ∧ F i2 = x2 ∧ F i3 = x3 ∧ F i4 = x4 ∧ F i5 = x5 ∧ F i6 = x6 ∧ F i7 = x7 ∧ F i8 = x8 ∧ F i9 = x9 :=
  ⟨(h i0).trans p0, (h i1).trans p1, (h i2).trans p2, (h i3).trans p3, (h i4).trans p4, (h i5).trans p5, (h i6).trans p6, (h i7).trans p7, (h i8).trans p8, (h i9).trans p9⟩
theorem t11 (h : ∀ i, F i = G i) (i0 : Nat) {x0 : Value} (p0 : G i0 = x0) (i1 : Nat) {x1 : Value} (p1 : G i1 = x1) (i2 : Nat) {x2 : Value} (p2 : G i2 = x2) (i3 : Nat) {x3 : Value} (p3 : G i3 = x3) (i4 : Nat) {x4 : Value} (p4 : G i4 = x4) (i5 : Nat) {x5 : Value} (p5 : G i5 = x5) (i6 : Nat) {x6 : Value} (p6 : G i6 = x6) (i7 : Nat) {x7 : Value} (p7 : G i7 = x7) (i8 : Nat) {x8 : Value} (p8 : G i8 = x8) (i9 : Nat) {x9 : Value} (p9 : G i9 = x9) (i10 : Nat) {x10 : Value} (p10 : G i10 = x10) : F i0 = x0 ∧ F i1 = x1 ∧ F i2 = x2 ∧ F i3 = x3 ∧ F i4 = x4 ∧ F i5 = x5 ∧ F i6 = x6 ∧ F i7 = x7 ∧ F i8 = x8 ∧ F i9 = x9 ∧ F i10 = x10 :=
  ⟨(h i0).trans p0, (h i1).trans p1, (h i2).trans p2, (h i3).trans p3, (h i4).trans p4, (h i5).trans p5, (h i6).trans p6, (h i7).trans p7, (h i8).trans p8, (h i9).trans p9, (h i10).trans p10⟩
theorem t12 (h : ∀ i, F i = G i) (i0 : Nat) {x0 : Value} (p0 : G i0 = x0) (i1 : Nat) {x1 : Value} (p1 : G i1 = x1) (i2 : Nat) {x2 : Value} (p2 : G i2 = x2) (i3 : Nat) {x3 : Value} (p3 : G i3 = x3) (i4 : Nat) {x4 : Value} (p4 : G i4 = x4) (i5 : Nat) {x5 : Value} (p5 : G i5 = x5) (i6 : Nat) {x6 : Value} (p6 : G i6 = x6) (i7 : Nat) {x7 : Value} (p7 : G i7 = x7) (i8 : Nat) {x8 : Value} (p8 : G i8 = x8) (i9 : Nat) {x9 : Value} (p9 : G i9 = x9) (i10 : Nat) {x10 : Value} (p10 : G i10 = x10) (i11 : Nat) {x11 : Value} (p11 : G i11 = x11) : F i0 = x0 ∧ F i1 = x1 ∧ F i2 = x2 ∧ F i3 = x3 ∧ F i4 = x4 ∧ F i5 = x5 ∧ F i6 = x6 ∧ F i7 = x7 ∧ F i8 = x8 ∧ F i9 = x9 ∧ F i10 = x10 ∧ F i11 = x11 :=
  ⟨(h i0).trans p0, (h i1).trans p1, (h i2).trans p2, (h i3).trans p3, (h i4).trans p4, (h i5).trans p5, (h i6).trans p6, (h i7).trans p7, (h i8).trans p8, (h i9).trans p9, (h i10).trans p10, (h i11).trans p11⟩
theorem t13 (h : ∀ i, F i = G i) (i0 : Nat) {x0 : Value} (p0 : G i0 = x0) (i1 : Nat) {x1 : Value} (p1 : G i1 = x1) (i2 : Nat) {x2 : Value} (p2 : G i2 = x2) (i3 : Nat) {x3 : Value} (p3 : G i3 = x3) (i4 : Nat) {x4 : Value} (p4 : G i4 = x4) (i5 : Nat) {x5 : Value} (p5 : G i5 = x5) (i6 : Nat) {x6 : Value} (p6 : G i6 = x6) (i7 : Nat) {x7 : Value} (p7 : G i7 = x7) (i8 : Nat) {x8 : Value} (p8 : G i8 = x8) (i9 : Nat) {x9 : Value} (p9 : G i9 = x9) (i10 : Nat) {x10 : Value} (p10 : G i10 = x10) (i11 : Nat) {x11 : Value} (p11 : G i11 = x11) (i12 : Nat) {x12 : Value} (p12 : G i12 = x12) : F i0 = x0 ∧ F i1 = x1 ∧ F i2 = x2 ∧ F i3 = x3 ∧ F i4 = x4 ∧ F i5 = x5 ∧ F i6 = x6 ∧ F i7 = x7 ∧ F i8 = x8 ∧ F i9 = x9 ∧ F i10 = x10 ∧ F i11 = x11 ∧ F i12 = x12 :=
  ⟨(h i0).trans p0, (h i1).trans p1, (h i2).trans p2, (h i3).trans p3, (h i4).trans p4, (h i5).trans p5, (h i6).trans p6, (h i7).trans p7, (h i8).trans p8, (h i9).trans p9, (h i10).trans p10, (h i11).trans p11, (h i12).trans p12⟩
theorem t14 (h : ∀ i, F i = G i) (i0 : Nat) {x0 : Value} (p0 : G i0 = x0) (i1 : Nat) {x1 : Value} (p1 : G i1 = x1) (i2 : Nat) {x2 : Value} (p2 : G i2 = x2) (i3 : Nat) {x3 : Value} (p3 : G i3 = x3) (i4 : Nat) {x4 : Value} (p4 : G i4 = x4) (i5 : Nat) {x5 : Value} (p5 : G i5 = x5) (i6 : Nat) {x6 : Value} (p6 : G i6 = x6) (i7 : Nat) {x7 : Value} (p7 : G i7 = x7) (i8 : Nat) {x8 : Value} (p8 : G i8 = x8) (i9 : Nat) {x9 : Value} (p9 : G i9 = x9) (i10 : Nat) {x10 : Value} (p10 : G i10 = x10) (i11 : Nat) {x11 : Value} (p11 : G i11 = x11) (i12 : Nat) {x12 : Value} (p12 : G i12 = x12) (i13 : Nat) {x13 : Value} (p13 : G i13 = x13) : F i0 = x0 ∧ F i1 = x1 ∧ F i2 = x2 ∧ F i3 = x3 ∧ F i4 = x4 ∧ F i5 = x5 ∧ F i6 = x6 ∧ F i7 = x7 ∧ F i8 = x8 ∧ F i9 = x9 ∧ F i10 = x10 ∧ F i11 = x11 ∧ F i12 = x12 ∧ F i13 = x13 :=
  ⟨(h i0).trans p0, (h i1).trans p1, (h i2).trans p2, (h i3).trans p3, (h i4).trans p4, (h i5).trans p5, (h i6).trans p6, (h i7).trans p7, (h i8).trans p8, (h i9).trans p9, (h i10).trans p10, (h i11).trans p11, (h i12).trans p12, (h i13).trans p13⟩
theorem t15 (h : ∀ i, F i = G i) (i0 : Nat) {x0 : Value} (p0 : G i0 = x0) (i1 : Nat) {x1 : Value} (p1 : G i1 = x1) (i2 : Nat) {x2 : Value} (p2 : G i2 = x2) (i3 : Nat) {x3 : Value} (p3 : G i3 = x3) (i4 : Nat) {x4 : Value} (p4 : G i4 = x4) (i5 : Nat) {x5 : Value} (p5 : G i5 = x5) (i6 : Nat) {x6 : Value} (p6 : G i6 = x6) (i7 : Nat) {x7 : Value} (p7 : G i7 = x7) (i8 : Nat) {x8 : Value} (p8 : G i8 = x8) (i9 : Nat) {x9 : Value} (p9 : G i9 = x9) (i10 : Nat) {x10 : Value} (p10 : G i10 = x10) (i11 : Nat) {x11 : Value} (p11 : G i11 = x11) (i12 : Nat) {x12 : Value} (p12 : G i12 = x12) (i13 : Nat) {x13 : Value} (p13 : G i13 = x13) (i14 : Nat) {x14 : Value} (p14 : G i14 = x14) : F i0 = x0 ∧ F i1 = x1 ∧ F i2 = x2 ∧ F i3 = x3 ∧ F i4 = x4 ∧ F i5 = x5 ∧ F i6 = x6 ∧ F i7 = x7 ∧ F i8 = x8 ∧ F i9 = x9 ∧ F i10 = x10 ∧ F i11 = x11 ∧ F i12 = x12 ∧ F i13 = x13 ∧ F i14 = x14 :=
  ⟨(h i0).trans p0, (h i1).trans p1, (h i2).trans p2, (h i3).trans p3, (h i4).trans p4, (h i5).trans p5, (h i6).trans p6, (h i7).trans p7, (h i8).trans p8, (h i9).trans p9, (h i10).trans p10, (h i11).trans p11, (h i12).trans p12, (h i13).trans p13, (h i14).trans p14⟩
theorem t17 (h : ∀ i, F i = G i) (i0 : Nat) {x0 : Value} (p0 : G i0 = x0) (i1 : Nat) {x1 : Value} (p1 : G i1 = x1) (i2 : Nat) {x2 : Value} (p2 : G i2 = x2) (i3 : Nat) {x3 : Value} (p3 : G i3 = x3) (i4 : Nat) {x4 : Value} (p4 : G i4 = x4) (i5 : Nat) {x5 : Value} (p5 : G i5 = x5) (i6 : Nat) {x6 : Value} (p6 : G i6 = x6) (i7 : Nat) {x7 : Value} (p7 : G i7 = x7) (i8 : Nat) {x8 : Value} (p8 : G i8 = x8) (i9 : Nat) {x9 : Value} (p9 : G i9 = x9) (i10 : Nat) {x10 : Value} (p10 : G i10 = x10) (i11 : Nat) {x11 : Value} (p11 : G i11 = x11) (i12 : Nat) {x12 : Value} (p12 : G i12 = x12) (i13 : Nat) {x13 : Value} (p13 : G i13 = x13) (i14 : Nat) {x14 : Value} (p14 : G i14 = x14) (i15 : Nat) {x15 : Value} (p15 : G i15 = x15) (i16 : Nat) {x16 : Value} (p16 : G i16 = x16) : F i0 = x0 ∧ F i1 = x1 ∧ F i2 = x2 ∧ F i3 = x3 ∧ F i4 = x4 ∧ F i5 = x5 ∧ F i6 = x6 ∧ F i7 = x7 ∧ F i8 = x8 ∧ F i9 = x9 ∧ F i10 = x10 ∧ F i11 = x11 ∧ F i12 = x12 ∧ F i13 = x13 ∧ F i14 = x14 ∧ F i15 = x15 ∧ F i16 = x16 :=
  ⟨(h i0).trans p0, (h i1).trans p1, (h i2).trans p2, (h i3).trans p3, (h i4).trans p4, (h i5).trans p5, (h i6).trans p6, (h i7).trans p7, (h i8).trans p8, (h i9).trans p9, (h i10).trans p10, (h i11).trans p11, (h i12).trans p12, (h i13).trans p13, (h i14).trans p14, (h i15).trans p15, (h i16).trans p16⟩
theorem t19 (h : ∀ i, F i = G i) (i0 : Nat) {x0 : Value} (p0 : G i0 = x0) (i1 : Nat) {x1 : Value} (p1 : G i1 = x1) (i2 : Nat) {x2 : Value} (p2 : G i2 = x2) (i3 : Nat) {x3 : Value} (p3 : G i3 = x3) (i4 : Nat) {x4 : Value} (p4 : G i4 = x4) (i5 : Nat) {x5 : Value} (p5 : G i5 = x5) (i6 : Nat) {x6 : Value} (p6 : G i6 = x6) (i7 : Nat) {x7 : Value} (p7 : G i7 = x7) (i8 : Nat) {x8 : Value} (p8 : G i8 = x8) (i9 : Nat) {x9 : Value} (p9 : G i9 = x9) (i10 : Nat) {x10 : Value} (p10 : G i10 = x10) (i11 : Nat) {x11 : Value} (p11 : G i11 = x11) (i12 : Nat) {x12 : Value} (p12 : G i12 = x12) (i13 : Nat) {x13 : Value} (p13 : G i13 = x13) (i14 : Nat) {x14 : Value} (p14 : G i14 = x14) (i15 : Nat) {x15 : Value} (p15 : G i15 = x15) (i16 : Nat) {x16 : Value} (p16 : G i16 = x16) (i17 : Nat) {x17 : Value} (p17 : G i17 = x17) (i18 : Nat) {x18 : Value} (p18 : G i18 = x18) : F i0 = x0 ∧ F i1 = x1 ∧ F i2 = x2 ∧ F i3 = x3 ∧ F i4 = x4 ∧ F i5 = x5 ∧ F i6 = x6 ∧ F i7 = x7 ∧ F i8 = x8 ∧ F i9 = x9 ∧ F i10 = x10 ∧ F i11 = x11 ∧ F i12 = x12 ∧ F i13 = x13 ∧ F i14 = x14 ∧ F i15 = x15 ∧ F i16 = x16 ∧ F i17 = x17 ∧ F i18 = x18 :=
  ⟨(h i0).trans p0, (h i1).trans p1, (h i2).trans p2, (h i3).trans p3, (h i4).trans p4, (h i5).trans p5, (h i6).trans p6, (h i7).trans p7, (h i8).trans p8, (h i9).trans p9, (h i10).trans p10, (h i11).trans p11, (h i12).trans p12, (h i13).trans p13, (h i14).trans p14, (h i15).trans p15, (h i16).trans p16, (h i17).trans p17, (h i18).trans p18⟩
theorem t20 (h : ∀ i, F i = G i) (i0 : Nat) {x0 : Value} (p0 : G i0 = x0) (i1 : Nat) {x1 : Value} (p1 : G i1 = x1) (i2 : Nat) {x2 : Value} (p2 : G i2 = x2) (i3 : Nat) {x3 : Value} (p3 : G i3 = x3) (i4 : Nat) {x4 : Value} (p4 : G i4 = x4) (i5 : Nat) {x5 : Value} (p5 : G i5 = x5) (i6 : Nat) {x6 : Value} (p6 : G i6 = x6) (i7 : Nat) {x7 : Value} (p7 : G i7 = x7) (i8 : Nat) {x8 : Value} (p8 : G i8 = x8) (i9 : Nat) {x9 : Value} (p9 : G i9 = x9) (i10 : Nat) {x10 : Value} (p10 : G i10 = x10) (i11 : Nat) {x11 : Value} (p11 : G i11 = x11) (i12 : Nat) {x12 : Value} (p12 : G i12 = x12) (i13 : Nat) {x13 : Value} (p13 : G i13 = x13) (i14 : Nat) {x14 : Value} (p14 : G i14 = x14) (i15 : Nat) {x15 : Value} (p15 : G i15 = x15) (i16 : Nat) {x16 : Value} (p16 : G i16 = x16) (i17 : Nat) {x17 : Value} (p17 : G i17 = x17) (i18 : Nat) {x18 : Value} (p18 : G i18 = x18) (i19 : Nat) {x19 : Value} (p19 : G i19 = x19) : F i0 = x0 ∧ F i1 = x1 ∧ F i2 = x2 ∧ F i3 = x3 ∧ F i4 = x4 ∧ F i5 = x5 ∧ F i6 = x6 ∧ F i7 = x7 ∧ F i8 = x8 ∧ F i9 = x9 ∧ F i10 = x10 ∧ F i11 = x11 ∧ F i12 = x12 ∧ F i13 = x13 ∧ F i14 = x14 ∧ F i15 = x15 ∧ F i16 = x16 ∧ F i17 = x17 ∧ F i18 = x18 ∧ F i19 = x19 :=
  ⟨(h i0).trans p0, (h i1).trans p1, (h i2).trans p2, (h i3).trans p3, (h i4).trans p4, (h i5).trans p5, (h i6).trans p6, (h i7).trans p7, (h i8).trans p8, (h i9).trans p9, (h i10).trans p10, (h i11).trans p11, (h i12).trans p12, (h i13).trans p13, (h i14).trans p14, (h i15).trans p15, (h i16).trans p16, (h i17).trans p17, (h i18).trans p18, (h i19).trans p19⟩
end
end Go.Proofs.YtknjpdcpmpfklaaGreatDoor
set_option maxRecDepth 100000
namespace Go.Proofs.YtknjpdcpmpfklaaGreatDoor
open Go.RowKit
def Grew (w : World) (T T' : Nat → Prop) : Prop := ∀ i, T' i → T i ∨ w.heap.size ≤ i
def Apart (T U : Nat → Prop) : Prop := ∀ i, T i → ¬ U i
def noB : Nat → Prop := fun _ => False
def Live (w : World) (T : Nat → Prop) : Prop := ∀ i, T i → i < w.heap.size
theorem Grew.refl (w : World) (T : Nat → Prop) : Grew w T T := fun _ h => .inl h
theorem Grew.trans {S : Nat → Prop} {w0 w : World} {B T T' : Nat → Prop} (h : Grew w0 B T) (k : Kept S w0 w) (g : Grew w T T') : Grew w0 B T' := fun i hi => by
  rcases g i hi with h1 | h1
  · exact h i h1
  · exact .inr (Nat.le_trans k.size h1)
theorem Grew.new {S : Nat → Prop} {w0 w : World} {T : Nat → Prop} (k : Kept S w0 w) (g : Grew w noB T) : Grew w0 noB T := (Grew.refl w0 noB).trans k g
theorem Grew.weak {w0 : World} {B B' T : Nat → Prop} (h : Grew w0 B T) (hb : ∀ i, B i → B' i) : Grew w0 B' T := fun i hi => (h i hi).elim (fun x => .inl (hb i x)) .inr
theorem Grew.ok {w0 : World} {B T S : Nat → Prop} (h : Grew w0 B T) (hb : ∀ i, B i → S i) : ∀ i, i < w0.heap.size → T i → S i := fun i hi ht => by
  rcases h i ht with h1 | h1
  · exact hb i h1
  · omega
theorem noB_le {S : Nat → Prop} : ∀ i, noB i → S i := fun _ h => h.elim
theorem Apart.symm {T U : Nat → Prop} (h : Apart T U) : Apart U T := fun i hu ht => h i ht hu
theorem Apart.grew {w : World} {T T' U : Nat → Prop} (h : Apart T U) (g : Grew w T T') (hl : Live w U) : Apart T' U := fun i ht hu => by
  rcases g i ht with h1 | h1
  · exact h i h1 hu
  · have := hl i hu; omega
theorem Apart.new {w : World} {T' U : Nat → Prop} (g : Grew w noB T') (hl : Live w U) : Apart T' U := Apart.grew (T := noB) (fun _ h => h.elim) g hl
theorem Apart.none {T : Nat → Prop} : Apart T noB := fun _ _ h => h
def onB (p : Nat) : Nat → Prop := fun i => i = p
theorem onB_new {w : World} {p : Nat} (h : w.heap.size ≤ p) : Grew w noB (onB p) := fun i hi => .inr (by unfold onB at hi; omega)
theorem onB_live {w : World} {p : Nat} (h : p < w.heap.size) : Live w (onB p) := fun i hi => by unfold onB at hi; omega
theorem Live.mono {S : Nat → Prop} {w w' : World} {T : Nat → Prop} (h : Live w T) (k : Kept S w w') : Live w' T := fun i hi => Nat.lt_of_lt_of_le (h i hi) k.size
section
variable {ro : Option Nat} {P : Program} {N : Nat} {Q : (Exit → (Nat → Value) → World → Prop)} {F : Nat → Value} {w : World}
theorem wl_callw {ops : Array Oper} {o : Oper} {rest : List Oper} {R : Value → World → Prop} (j : Nat) (want : Bool) (d : Tmp) (hg : o.guard = some (j, want)) (hj : (ops[j]?).bind (·.dst) = some d) (hdn : Nat.blt d N = true) (hv : F d = .bool want) (hd : fits N o.dst = true)
    (hy : Yields P (ev (cutF N F)) o w R) (h : ∀ v w', R v w' → wl ro P N ops Q rest (putF F o.dst v) w') : wl ro P N ops Q (o :: rest) F w := by
  refine wl_when j want d hg hj hdn hv hd ?_
  revert hy
  unfold Yields
  generalize (execOp (ev (cutF N F)) o).run P w = r
  intro hy
  cases r with
  | ok n w' =>
    cases n <;> simp only at hy ⊢ <;> first
      | exact h _ _ hy
      | exact hy.elim
      | exact Calls.mono hy (fun e w'' ⟨v, he, hk⟩ => ⟨v, he, h _ _ hk⟩)
  | halt x w' => exact hy.elim
end
end Go.Proofs.YtknjpdcpmpfklaaGreatDoor
set_option maxRecDepth 100000
namespace Go.Proofs.YtknjpdcpmpfklaaGreatDoor
open Go.RowKit
theorem Kept.setRow {S : Nat → Prop} {a w : World} (h : Kept S a w) (g : Nat) (hg : g < a.heap.size → S g) (c : Array Value) : Kept S a (w.setRow g c) :=
  h.trans (S' := fun k => k = g) ⟨rfl, rfl, rfl, by simp [World.setRow], fun k hk hn => setRow_other _ _ _ _ hn⟩ (fun i hi x => by subst x; exact hg hi)
section
variable {P : Program}
theorem rangeAt_of_heap {w : World} {b : Nat} {c : List Value} {t : TypeId} {f : Nat × Nat} (h : w.heap[b]? = some (.cells c.toArray t f)) : w.rangeAt b 0 c := by
  intro j v hv
  rw [Nat.zero_add, cell_of_heap h]
  simpa using hv
theorem run_loadVar_whole (w : World) (b : Nat) (t ty : TypeId) (cs : Array Value) (fr : Nat × Nat) (d : TypeDesc) (hg : w.heap[b]? = some (.cells cs t fr))
    (hu : P.underlying ty = some d) (hd : d.isRow = true) (hi : (P.info? ty).map (·.size) = some cs.size) : (loadVar ty ⟨b, 0, none⟩).run P w = .ok (.agg cs) w := by
  have e := run_loadVar_mid (P := P) w b 0 ty cs.toList d (rangeAt_of_heap (t := t) (f := fr) (by simpa using hg)) hu hd (by simpa using hi)
  simpa using e
theorem y_store_row {ρ : Operand → Value} {op : Oper} {w : World} {R : Value → World → Prop} (ty : TypeId) (x y : Operand) (ho : op.op = .store ty x y)
    (b : Nat) (old cells : Array Value) (t : TypeId) (hx : ρ x = .pointer (some ⟨b, 0, none⟩)) (hy : ρ y = .agg cells)
    (hg : w.heap[b]? = some (.cells old t (0, 0))) (hs : old.size = cells.size) (hi : (P.info? ty).map (·.size) = some cells.size) (h1 : cells.all (·.oneCell') = true)
    (h : ∀ w', w'.heap[b]? = some (.cells cells t (0, 0)) → Kept (fun k => k = b) w w' → R undef w') : Yields P ρ op w R := by
  unfold Yields execOp
  simp only [ho, hx, hy, Instr.storeAt, Instr.sureAddr, Sem.run_bind, Sem.run_pure, Result.andThen_ok, run_storeVar_row w b t ty old cells hg hi hs h1]
  exact h _ (setRow_heap _ _ _ _ _ _ hg) ((Kept.refl (fun k => k = b) w).setRow b (fun _ => rfl) cells)
theorem results_cell {fn : Func} {p : Tmp} {ty : TypeId} (h : fn.results = #[.cell p ty]) (tmps : Array Value) (w : World) (b : Nat) (hp : tmps.getD p undef = .pointer (some ⟨b, 0, none⟩))
    (cs : Array Value) (t : TypeId) (fr : Nat × Nat) (d : TypeDesc) (hg : w.heap[b]? = some (.cells cs t fr))
    (hu : P.underlying ty = some d) (hd : d.isRow = true) (hi : (P.info? ty).map (·.size) = some cs.size) : (results fn tmps).run P w = .ok (.agg cs) w := by
  have hl := run_loadVar_whole (P := P) w b t ty cs fr d hg hu hd hi
  have hp' : tmps[p]?.getD undef = .pointer (some ⟨b, 0, none⟩) := by rw [← hp]; simp
  simp only [results, h]
  simp [hp', asAddr, hl]
theorem y_load_row {ρ : Operand → Value} {o : Oper} {w : World} {R : Value → World → Prop} {ty : TypeId} {x : Operand} (ho : o.op = .load ty x)
    (b : Nat) (hx : ρ x = .pointer (some ⟨b, 0, none⟩)) (cs : Array Value) (t : TypeId) (fr : Nat × Nat) (d : TypeDesc) (hg : w.heap[b]? = some (.cells cs t fr))
    (hu : P.underlying ty = some d) (hd : d.isRow = true) (hi : (P.info? ty).map (·.size) = some cs.size) (h : R (.agg cs) w) : Yields P ρ o w R := by
  have e : (execOp ρ o).run P w = .ok (.value (.agg cs)) w := by
    simp only [execOp, ho, hx, Instr.loadAt, Instr.sureAddr, Sem.run_bind, Sem.run_pure, Result.andThen_ok, run_loadVar_whole w b t ty cs fr d hg hu hd hi]
  unfold Yields; rw [e]; exact h
end
end Go.Proofs.YtknjpdcpmpfklaaGreatDoor
set_option maxRecDepth 100000
namespace Go.Proofs.YtknjpdcpmpfklaaGreatDoor
open Go.RowKit
def arrL (n : Nat) (b : Nat → Int) : List Value := (List.range n).map fun i => .int .i64 (b i)
theorem arrL_length (n : Nat) (b : Nat → Int) : (arrL n b).length = n := by simp [arrL]
theorem arrL_at {n : Nat} {b : Nat → Int} {i : Nat} (h : i < n) : (arrL n b)[i]? = some (.int .i64 (b i)) := by
  unfold arrL
  rw [List.getElem?_map, List.getElem?_range h]; rfl
theorem arrL_one (n : Nat) (b : Nat → Int) : ∀ u ∈ arrL n b, u.oneCell' = true := by
  intro u hu
  obtain ⟨x, _, rfl⟩ := List.mem_map.1 hu
  rfl
theorem arrL_congr {n : Nat} {b c : Nat → Int} (h : ∀ i, i < n → b i = c i) : arrL n b = arrL n c := by
  unfold arrL
  apply List.map_congr_left
  intro i hi
  rw [h i (by simpa using hi)]
def upd (b : Nat → Int) (k : Nat) (x : Int) : Nat → Int := fun i => if i = k then x else b i
theorem arrL_set (n : Nat) (b : Nat → Int) (k : Nat) (x : Int) : (arrL n b).toArray.setIfInBounds k (.int .i64 x) = (arrL n (upd b k x)).toArray := by
  rw [List.setIfInBounds_toArray]
  congr 1
  apply List.ext_getElem?
  intro i
  unfold arrL upd
  rw [List.getElem?_set]
  simp only [List.length_map, List.length_range, List.getElem?_map]
  by_cases h : k = i
  · subst h
    by_cases hk : k < n
    · simp [hk]
    · simp [hk]
  · rw [if_neg h]
    by_cases hi : i < n
    · rw [List.getElem?_range hi]
      simp [Ne.symm h]
    · rw [List.getElem?_eq_none (by simp; omega)]; rfl
theorem arrL_zero (n : Nat) : (arrL n (fun _ => 0)).toArray = Array.replicate n (.int .i64 0) := by
  unfold arrL
  apply Array.ext'
  rw [Array.toList_replicate]
  show List.map (fun _ => Value.int .i64 0) (List.range n) = _
  rw [List.map_const', List.length_range]
def blkV (b : Nat → Int) : Value := .agg (arrL 16 b).toArray
theorem blkV_congr {b c : Nat → Int} (h : ∀ i, i < 16 → b i = c i) : blkV b = blkV c := by unfold blkV; rw [arrL_congr h]
def Blk (w : World) (p : Nat) (t : TypeId) (b : Nat → Int) : Prop := w.heap[p]? = some (.cells (arrL 16 b).toArray t (0, 0))
theorem Blk.all {w w' : World} {S : Nat → Prop} {p : Nat} {t : TypeId} {b : Nat → Int} (h : Blk w p t b) (k : Kept S w w') (hn : ¬ S p) : Blk w' p t b := k.at h hn
theorem Blk.congr {w : World} {p : Nat} {t : TypeId} {b c : Nat → Int} (h : Blk w p t b) (e : ∀ i, i < 16 → b i = c i) : Blk w p t c := by unfold Blk at *; rw [← arrL_congr e]; exact h
theorem Blk.cell {w : World} {p : Nat} {t : TypeId} {b : Nat → Int} (h : Blk w p t b) {i : Nat} (hi : i < 16) : w.cell? ⟨p, i, none⟩ = some (.int .i64 (b i)) := by
  rw [cell_of_heap h, List.getElem?_toArray]; exact arrL_at hi
theorem Blk.free {w : World} {p : Nat} {t : TypeId} {b : Nat → Int} (h : Blk w p t b) (i : Nat) : w.frozen? ⟨p, i, none⟩ = false := frozen_of_heap h
theorem Blk.lt {w : World} {p : Nat} {t : TypeId} {b : Nat → Int} (h : Blk w p t b) : p < w.heap.size := lt_of_heap h
theorem Blk.set {w : World} {p : Nat} {t : TypeId} {b : Nat → Int} (h : Blk w p t b) (k : Nat) (x : Int) : Blk (w.setCell ⟨p, k, none⟩ (.int .i64 x)) p t (upd b k x) := by
  unfold Blk; rw [heap_setCell_same _ _ _ _ h, arrL_set]
theorem Blk.other {w : World} {p q : Nat} {t : TypeId} {b : Nat → Int} (h : Blk w p t b) (k : Nat) (x : Value) (hq : p ≠ q) : Blk (w.setCell ⟨q, k, none⟩ x) p t b := by
  unfold Blk; rw [heap_setCell_other _ _ _ _ _ hq]; exact h
theorem Blk.new (w : World) (t : TypeId) (b : Nat → Int) : Blk (w.alloc (.cells (arrL 16 b).toArray t)) w.heap.size t b := heap_alloc_new w _
theorem Blk.alloc {w : World} {p : Nat} {t : TypeId} {b : Nat → Int} (h : Blk w p t b) (o : Obj) : Blk (w.alloc o) p t b := (Below.heap_alloc w o p h.lt).trans h
theorem Tryz.size_int : (Tryz.prog.info? 3).map (·.size) = some 1 := by kernel_rfl
theorem Tryz.info_blk : (Tryz.prog.info? 69).map (fun i => (i.zero, i.size)) = some (some (.agg (Array.replicate 16 (.int .i64 0))), 16) := by kernel_rfl
def BlkT (t : TypeId) : Prop := Tryz.prog.underlying t = some (.array 16 3) ∧ (Tryz.prog.info? t).map (·.size) = some 16 ∧ (∀ w, (zeroValue t).run Tryz.prog w = .ok (.agg (arrL 16 (fun _ => 0)).toArray) w)
theorem blkT_block : BlkT 69 := ⟨Tryz.underlying69, (zero_of_info Tryz.info_blk).2, by rw [arrL_zero]; exact (zero_of_info Tryz.info_blk).1⟩
theorem BlkT.size {t : TypeId} (h : BlkT t) (b : Nat → Int) : (Tryz.prog.info? t).map (·.size) = some (arrL 16 b).toArray.size := by rw [List.size_toArray, arrL_length]; exact h.2.1
theorem run_eqItems_ints {P : Program} {e : TypeId} (he : P.underlying e = some (.int .i64)) (hce : P.cellsOf e = 1) (w : World) (d n : Nat) (a b : Nat → Int) :
    ∀ (is : List Nat), (∀ i ∈ is, i < n) → (Op.eqItems (d + 1) e (P.cellsOf e) (arrL n a).toArray (arrL n b).toArray is).run P w = .ok (is.all fun i => a i == b i) w := by
  have hp : ∀ (c : Nat → Int) (i : Nat), i < n → (part e (arrL n c).toArray (i * P.cellsOf e)).run P w = .ok (.int .i64 (c i)) w := by
    intro c i hi
    have h1 : (arrL n c).toArray[i]? = some (.int .i64 (c i)) := by rw [List.getElem?_toArray]; exact arrL_at hi
    rw [hce, Nat.mul_one]
    simp [part, isAgg, run_underlying he, h1]
  intro is
  induction is with
  | nil => intro _; simp [Op.eqItems]
  | cons i is ih =>
    intro h
    have hi := h i (by simp)
    simp only [Op.eqItems, Sem.run_bind, hp a i hi, hp b i hi, Result.andThen_ok, run_equalIn_int w d e .i64 .i64 _ _ he]
    cases hab : a i == b i
    · simp [hab]
    · simp only [Bool.not_true, Bool.false_eq_true, if_false]
      rw [ih (fun j hj => h j (by simp [hj]))]
      simp [hab]
def sameB (a b : Nat → Int) : Bool := (List.range 16).all fun i => a i == b i
theorem sameB_iff {a b : Nat → Int} : sameB a b = true ↔ ∀ i, i < 16 → a i = b i := by
  unfold sameB
  rw [List.all_eq_true]
  constructor
  · intro h i hi; simpa using h i (by simpa using hi)
  · intro h i hi; simpa using h i (by simpa using hi)
theorem sameB_true {a b : Nat → Int} (h : ∀ i, i < 16 → a i = b i) : sameB a b = true := sameB_iff.2 h
theorem Tryz.cells_int : Tryz.prog.cellsOf 3 = 1 := by kernel_rfl
theorem run_eql_blk (t : TypeId) (ht : BlkT t) (w : World) (a b : Nat → Int) : (binOp .eql t (blkV a) (blkV b)).run Tryz.prog w = .ok (.bool (sameB a b)) w := by
  obtain ⟨i0, hi⟩ : ∃ i, Tryz.prog.info? 3 = some i := by
    have := Tryz.size_int
    cases h : Tryz.prog.info? 3 with
    | none => rw [h] at this; cases this
    | some i => exact ⟨i, rfl⟩
  unfold blkV
  rw [run_eql_struct, run_equalIn_array w 9999 _ _ ht.1 hi, run_eqItems_ints Tryz.underlying3 Tryz.cells_int w 9998 16 a b _ (fun i hi => by simpa using hi)]
  rfl
theorem Tryz.guard_blk : Tryz.prog.eqGuardType Tryz.prog.depth 69 = false := by kernel_rfl
theorem run_guard_blk (x y : Operand) (w : World) (a b : Nat → Int) : (eqGuard .eql 69 x y (blkV a) (blkV b)).run Tryz.prog w = .ok () w := run_eqGuard_agg w .eql _ x y _ _ Tryz.guard_blk
end Go.Proofs.YtknjpdcpmpfklaaGreatDoor
set_option maxRecDepth 100000
namespace Go.Proofs.YtknjpdcpmpfklaaGreatDoor
open Go.RowKit
theorem Blk.ne {w : World} {p q : Nat} {t : TypeId} {b : Nat → Int} (h : Blk w p t b) (e : q = w.heap.size) : p ≠ q := by have := h.lt; omega
section
variable {ro : Option Nat} {P : Program} {N : Nat} {Q : (Exit → (Nat → Value) → World → Prop)} {F : Nat → Value} {w : World}
theorem wl_box_blk {ops : Array Oper} {o : Oper} {rest : List Oper} {t : TypeId} {x : Operand} {b : Nat → Int} (hg : o.guard = none) (hd : fits N o.dst = true) (ho : o.op = .box t x) (hx : ev (cutF N F) x = blkV b)
    (h : ∀ p w', p = w.heap.size → Blk w' p t b → Kept (fun _ => False) w w' → wl ro P N ops Q rest (putF F o.dst (.pointer (some ⟨p, 0, none⟩))) w') : wl ro P N ops Q (o :: rest) F w :=
  wl_op hg hd (y_of (v := .pointer (some ⟨w.heap.size, 0, none⟩)) (w' := w.alloc (.cells (arrL 16 b).toArray t)) (by simp [execOp, ho, hx, blkV, go_sem]) (h _ _ rfl (Blk.new w t b) ((Kept.refl _ _).alloc _)))
theorem wl_alloc_blk {ops : Array Oper} {o : Oper} {rest : List Oper} {t : TypeId} (hg : o.guard = none) (hd : fits N o.dst = true) (ho : o.op = .alloc t) (hz : ∀ w, (zeroValue t).run P w = .ok (.agg (arrL 16 (fun _ => 0)).toArray) w)
    (h : ∀ p w', p = w.heap.size → Blk w' p t (fun _ => 0) → Kept (fun _ => False) w w' → wl ro P N ops Q rest (putF F o.dst (.pointer (some ⟨p, 0, none⟩))) w') : wl ro P N ops Q (o :: rest) F w :=
  wl_op hg hd (y_of (v := .pointer (some ⟨w.heap.size, 0, none⟩)) (w' := w.alloc (.cells (arrL 16 (fun _ => 0)).toArray t)) (by simp [execOp, ho, hz, go_sem]) (h _ _ rfl (Blk.new w t _) ((Kept.refl _ _).alloc _)))
end
section
variable {ro : Option Nat} {N : Nat} {Q : (Exit → (Nat → Value) → World → Prop)} {F : Nat → Value} {w : World} {ρ : Operand → Value} {o : Oper} {R : Value → World → Prop}
theorem y_load_blk {ty t : TypeId} {x : Operand} {p : Nat} {b : Nat → Int} (hT : BlkT ty) (ho : o.op = .load ty x) (hx : ρ x = .pointer (some ⟨p, 0, none⟩)) (hB : Blk w p t b) (h : R (blkV b) w) : Yields Tryz.prog ρ o w R :=
  y_load_row ho p hx _ t (0, 0) _ hB hT.1 rfl (hT.size b) h
theorem wl_store_blk {ops : Array Oper} {rest : List Oper} {ty t : TypeId} {x y : Operand} {p : Nat} {b c : Nat → Int} (hT : BlkT ty) (hg : o.guard = none) (hdn : o.dst = none) (ho : o.op = .store ty x y) (hx : ev (cutF N F) x = .pointer (some ⟨p, 0, none⟩)) (hy : ev (cutF N F) y = blkV c) (hB : Blk w p t b)
    (h : ∀ w', Blk w' p t c → Kept (fun k => k = p) w w' → wl ro Tryz.prog N ops Q rest F w') : wl ro Tryz.prog N ops Q (o :: rest) F w := by
  refine wl_op hg (by rw [hdn]; rfl) (y_store_row ty x y ho p _ (arrL 16 c).toArray t hx hy hB (by rw [List.size_toArray, List.size_toArray, arrL_length, arrL_length]) (hT.size c) (all_oneCell_toArray (arrL_one _ _)) fun w' hw hk => ?_)
  rw [hdn]
  exact h w' hw hk
theorem wl_set_blk {ops : Array Oper} {rest : List Oper} {ty t : TypeId} {x y : Operand} {p k : Nat} {n : Int} {b : Nat → Int} (hg : o.guard = none) (hdn : o.dst = none) (ho : o.op = .store ty x y) (hx : ev (cutF N F) x = .pointer (some ⟨p, k, none⟩)) (hy : ev (cutF N F) y = .int .i64 n) (hB : Blk w p t b) (hk : k < 16)
    (hs : (Tryz.prog.info? ty).map (·.size) = some 1)
    (h : ∀ w', Blk w' p t (upd b k n) → Kept (fun k => k = p) w w' → wl ro Tryz.prog N ops Q rest F w') : wl ro Tryz.prog N ops Q (o :: rest) F w := by
  have hc := hB.cell hk
  have hf := hB.free k
  cases hq : Tryz.prog.info? ty with
  | none => simp [hq] at hs
  | some i =>
    have hs' : i.size = 1 := by simpa [hq] using hs
    refine wl_op hg (by rw [hdn]; rfl) ?_
    have e : (execOp (ev (cutF N F)) o).run Tryz.prog w = .ok .skip (w.setCell ⟨p, k, none⟩ (.int .i64 n)) ∨ (execOp (ev (cutF N F)) o).run Tryz.prog w = .ok (.value undef) (w.setCell ⟨p, k, none⟩ (.int .i64 n)) := by
      simp [execOp, ho, hx, hy, Instr.storeAt, Instr.sureAddr, storeVar, sizeOf, typeInfo, hq, hs', Value.cells, hc, hf, go_sem]
    unfold Yields
    rw [hdn]
    rcases e with e | e <;> rw [e] <;> exact h _ (hB.set k n) ((Kept.refl (fun k => k = p) w).setCell ⟨p, k, none⟩ (fun _ => rfl) _)
theorem end_blk {fn : Func} {p : Tmp} {ty t : TypeId} {q : Nat} {b : Nat → Int} {R : Ending → World → Prop} (hT : BlkT ty) (hm : F N = undef) (ht : Nat.blt p N = true) (h : fn.results = #[.cell p ty]) (hp : F p = .pointer (some ⟨q, 0, none⟩)) (hB : Blk w q t b) (hR : R (.returned (blkV b)) w) : endP Tryz.prog fn N R .ret F w :=
  ⟨hm, fun a ha => ⟨_, results_cell h _ _ q (by rw [ha.at' p ht]; exact hp) _ t (0, 0) _ hB hT.1 rfl (hT.size b), hR⟩⟩
theorem res_blk {p : Tmp} {ty t : TypeId} {q : Nat} {b : Nat → Int} (hT : BlkT ty) (ht : Nat.blt p N = true) (hp : F p = .pointer (some ⟨q, 0, none⟩)) (hB : Blk w q t b) : ResOk Tryz.prog N F w (.cell p ty) (blkV b) :=
  ⟨ht, _, hp, run_loadVar_whole w q t ty _ (0, 0) _ hB hT.1 rfl (hT.size b)⟩
theorem y_sameR {t' : TypeId} {x y : Operand} {a b : Nat → Int} {c : Bool} (ho : o.op = .binOp .eql 69 x y t') (hx : ρ x = blkV a) (hy : ρ y = blkV b) (hr : sameB a b = c) (h : R (.bool c) w) : Yields Tryz.prog ρ o w R :=
  y_of (v := .bool (sameB a b)) (w' := w) (by simp only [execOp, ho, hx, hy, Sem.run_bind, run_guard_blk, run_eql_blk _ blkT_block, Result.andThen_ok, Sem.run_pure]) (by rw [hr]; exact h)
theorem y_look {t : TypeId} {x y : Operand} {k : IntKind} (j : Nat) {a : Nat → Int} {r : Int} (ht : BlkT t) (ho : o.op = .index t x y) (hx : ρ x = blkV a) (hy : ρ y = .int k (j : Int)) (hj : j < 16) (hr : a j = r) (h : R (.int .i64 r) w) : Yields Tryz.prog ρ o w R := by
  subst hr
  have h1 : (arrL 16 a).toArray[j]? = some (.int .i64 (a j)) := by rw [List.getElem?_toArray]; exact arrL_at hj
  cases hq : Tryz.prog.info? 3 with
  | none => have := Tryz.size_int; simp [hq] at this
  | some i =>
    have hs' : i.size = 1 := by have := Tryz.size_int; simpa [hq] using this
    have hp : (part 3 (arrL 16 a).toArray j).run Tryz.prog w = .ok (.int .i64 (a j)) w := by simp [part, isAgg, run_underlying Tryz.underlying3, h1]
    exact y_of (v := .int .i64 (a j)) (w' := w) (by simp [execOp, ho, hx, hy, Instr.index, blkV, run_underlying ht.1, asIntOf, sizeOf, typeInfo, hq, hs', hj, hp]) h
end
end Go.Proofs.YtknjpdcpmpfklaaGreatDoor
set_option maxRecDepth 100000
namespace Go.Proofs.YtknjpdcpmpfklaaGreatDoor
def wv (u c : Nat) : Int := ([1, 1, 1, 1, 1, 1, -1, -1, 1, -1, -1, 1, 1, -1, 1, -1] : List Int).getD (4 * u + c) 0
def turn (b : Nat → Int) (i : Nat) : Int :=
  b (4 * (i % 4)) * wv (i / 4) 0 + b (4 * (i % 4) + 1) * wv (i / 4) 1 + b (4 * (i % 4) + 2) * wv (i / 4) 2 + b (4 * (i % 4) + 3) * wv (i / 4) 3
def fwd (b : Nat → Int) : Nat → Int := turn (turn b)
def rnd (n : Int) : Int := (n + 8) / 16
def cl (m x : Int) : Int := max (-m) (min x m)
def clB (m : Int) (b : Nat → Int) : Nat → Int := fun i => cl m (b i)
theorem cl_le (m x : Int) (h : 0 ≤ m) : -m ≤ cl m x ∧ cl m x ≤ m := by unfold cl; omega
theorem cl_id (m x : Int) (h1 : -m ≤ x) (h2 : x ≤ m) : cl m x = x := by unfold cl; omega
theorem wv_cases (u c : Nat) : wv u c = 1 ∨ wv u c = -1 ∨ wv u c = 0 := by
  unfold wv
  have : ∀ n, ([1, 1, 1, 1, 1, 1, -1, -1, 1, -1, -1, 1, 1, -1, 1, -1] : List Int).getD n 0 = 1 ∨ ([1, 1, 1, 1, 1, 1, -1, -1, 1, -1, -1, 1, 1, -1, 1, -1] : List Int).getD n 0 = -1 ∨ ([1, 1, 1, 1, 1, 1, -1, -1, 1, -1, -1, 1, 1, -1, 1, -1] : List Int).getD n 0 = 0 := by
    intro n
    by_cases h : n < 16
    · revert n; decide
    · right; right
      rw [List.getD_eq_getElem?_getD, List.getElem?_eq_none (by simp; omega)]; rfl
  exact this _
theorem wv_mul (x : Int) (M : Int) (u c : Nat) (h1 : -M ≤ x) (h2 : x ≤ M) : -M ≤ x * wv u c ∧ x * wv u c ≤ M := by
  rcases wv_cases u c with h | h | h <;> rw [h] <;> omega
theorem turn_le (b : Nat → Int) (M : Int) (h : ∀ i, i < 16 → -M ≤ b i ∧ b i ≤ M) (i : Nat) : -(4 * M) ≤ turn b i ∧ turn b i ≤ 4 * M := by
  unfold turn
  have h0 := h (4 * (i % 4)) (by omega)
  have h1 := h (4 * (i % 4) + 1) (by omega)
  have h2 := h (4 * (i % 4) + 2) (by omega)
  have h3 := h (4 * (i % 4) + 3) (by omega)
  have k0 := wv_mul _ M (i / 4) 0 h0.1 h0.2
  have k1 := wv_mul _ M (i / 4) 1 h1.1 h1.2
  have k2 := wv_mul _ M (i / 4) 2 h2.1 h2.2
  have k3 := wv_mul _ M (i / 4) 3 h3.1 h3.2
  omega
theorem fwd_le (b : Nat → Int) (M : Int) (h : ∀ i, i < 16 → -M ≤ b i ∧ b i ≤ M) (i : Nat) : -(16 * M) ≤ fwd b i ∧ fwd b i ≤ 16 * M := by
  have := turn_le (turn b) (4 * M) (fun i _ => turn_le b M h i) i
  unfold fwd; omega
theorem turn_congr {b c : Nat → Int} (h : ∀ i, i < 16 → b i = c i) : turn b = turn c := by
  funext i
  unfold turn
  rw [h _ (by omega), h (4 * (i % 4) + 1) (by omega), h (4 * (i % 4) + 2) (by omega), h (4 * (i % 4) + 3) (by omega)]
theorem fwd_congr {b c : Nat → Int} (h : ∀ i, i < 16 → b i = c i) : fwd b = fwd c := by unfold fwd; rw [turn_congr h]
theorem turn_zero : turn (fun _ => 0) = fun _ => 0 := by funext i; simp [turn]
theorem fwd_zero : fwd (fun _ => 0) = fun _ => 0 := by unfold fwd; rw [turn_zero, turn_zero]
end Go.Proofs.YtknjpdcpmpfklaaGreatDoor
set_option maxRecDepth 100000
namespace Go.Proofs.YtknjpdcpmpfklaaGreatDoor
open Go.RowKit
def upto (k : Nat) (b c : Nat → Int) : Nat → Int := fun i => if i < k then c i else b i
theorem upto_zero (b c : Nat → Int) : upto 0 b c = b := by funext i; simp [upto]
theorem upto_full (b c : Nat → Int) (i : Nat) (hi : i < 16) : upto 16 b c i = c i := by simp [upto, hi]
theorem upto_set (k : Nat) (b c : Nat → Int) : upd (upto k b c) k (c k) = upto (k + 1) b c := by
  funext i
  unfold upd upto
  by_cases h : i = k
  · subst h; simp
  · rw [if_neg h]
    by_cases h2 : i < k
    · rw [if_pos h2, if_pos (by omega)]
    · rw [if_neg h2, if_neg (by omega)]
theorem upto_at (k : Nat) (b c : Nat → Int) : upto k b c k = b k := by simp [upto]
theorem Blk.first {w : World} {p : Nat} {t : TypeId} {b c : Nat → Int} (h : Blk w p t b) : Blk w p t (upto 0 b c) := by rw [upto_zero]; exact h
theorem Blk.next {w : World} {p : Nat} {t : TypeId} {b c : Nat → Int} {k : Nat} {x : Int} (h : Blk w p t (upd (upto k b c) k x)) (e : x = c k) : Blk w p t (upto (k + 1) b c) := by rw [← upto_set, ← e]; exact h
theorem Blk.last {w : World} {p : Nat} {t : TypeId} {b c : Nat → Int} (h : Blk w p t (upto 16 b c)) : Blk w p t c := h.congr (upto_full b c)
theorem some_int {x y : Int} (h : x = y) : some (Value.int .i64 x) = some (Value.int .i64 y) := by rw [h]
def Waves (w : World) : Prop := 4 < w.heap.size ∧ ∀ i, i < 16 → w.cell? ⟨4, i, none⟩ = some (.int .i64 (wv 0 i))
theorem Kept.cell0 {S : Nat → Prop} {w w' : World} (k : Kept S w w') {b off : Nat} (hb : b < w.heap.size) (hn : ¬ S b) : w'.cell? ⟨b, off, none⟩ = w.cell? ⟨b, off, none⟩ := by
  unfold World.cell?; rw [k.block b hb hn]
theorem Waves.all {w w' : World} (h : Waves w) (k : Kept (fun _ => False) w w') : Waves w' :=
  ⟨Nat.lt_of_lt_of_le h.1 k.size, fun i hi => (k.cell0 h.1 id).trans (h.2 i hi)⟩
theorem wv_flat (u c : Nat) : wv 0 (u * 4 + c) = wv u c := by unfold wv; congr 1; omega
theorem Waves.at {w : World} (h : Waves w) (u c : Nat) (hu : u < 4) (hc : c < 4) : w.cell? ⟨4, 0 + u * 4 + c, none⟩ = some (.int .i64 (wv u c)) := by
  rw [← wv_flat u c, ← h.2 (u * 4 + c) (by omega)]
  congr 2; omega
def ps (b : Nat → Int) (r u : Nat) : Nat → Int
  | 0 => 0
  | c + 1 => ps b r u c + b (r * 4 + c) * wv u c
theorem ps_le (b : Nat → Int) (M : Int) (h : ∀ i, i < 16 → -M ≤ b i ∧ b i ≤ M) (r u c : Nat) (hr : r < 4) (hc : c ≤ 4) : -(c * M) ≤ ps b r u c ∧ ps b r u c ≤ c * M := by
  induction c with
  | zero => simp [ps]
  | succ c ih =>
    have h1 := ih (by omega)
    have h2 := h (r * 4 + c) (by omega)
    have h3 := wv_mul _ M u c h2.1 h2.2
    have e : ((c + 1 : Nat) : Int) * M = (c : Int) * M + M := by rw [Int.natCast_add, Int.add_mul]; simp
    rw [e]
    unfold ps
    omega
theorem ps_turn (b : Nat → Int) (r u : Nat) (hr : r < 4) : ps b r u 4 = turn b (u * 4 + r) := by
  have e1 : (u * 4 + r) % 4 = r := by omega
  have e2 : (u * 4 + r) / 4 = u := by omega
  simp only [ps, turn, e1, e2, Nat.mul_comm r 4, Nat.add_zero]
  omega
def turnP (b : Nat → Int) (r u c i : Nat) : Int := if i % 4 < r ∨ (i % 4 = r ∧ i / 4 < u) then turn b i else if i % 4 = r ∧ i / 4 = u then ps b r u c else 0
theorem turnP_here (b : Nat → Int) (r u c : Nat) (hr : r < 4) : turnP b r u c (u * 4 + r) = ps b r u c := by
  have e1 : (u * 4 + r) % 4 = r := by omega
  have e2 : (u * 4 + r) / 4 = u := by omega
  unfold turnP
  rw [e1, e2, if_neg (by omega), if_pos ⟨rfl, rfl⟩]
theorem turnP_set (b : Nat → Int) (r u c : Nat) (hr : r < 4) : upd (turnP b r u c) (u * 4 + r) (ps b r u (c + 1)) = turnP b r u (c + 1) := by
  funext i
  unfold upd
  by_cases h : i = u * 4 + r
  · subst h; rw [if_pos rfl, turnP_here b r u (c + 1) hr]
  · rw [if_neg h]
    have hn : ¬ (i % 4 = r ∧ i / 4 = u) := by omega
    unfold turnP
    rw [if_neg hn, if_neg hn]
theorem turnP_row (b : Nat → Int) (r u : Nat) (hr : r < 4) : turnP b r u 4 = turnP b r (u + 1) 0 := by
  funext i
  by_cases h : i = u * 4 + r
  · subst h
    rw [turnP_here b r u 4 hr, ps_turn b r u hr]
    unfold turnP
    rw [if_pos (by omega)]
  · unfold turnP
    have hn : ¬ (i % 4 = r ∧ i / 4 = u) := by omega
    by_cases h1 : i % 4 < r ∨ (i % 4 = r ∧ i / 4 < u)
    · rw [if_pos h1, if_pos (by omega)]
    · rw [if_neg h1, if_neg hn, if_neg (by omega)]
      split <;> simp [ps]
theorem turnP_next (b : Nat → Int) (r : Nat) (i : Nat) (hi : i < 16) : turnP b r 4 0 i = turnP b (r + 1) 0 0 i := by
  unfold turnP
  by_cases h1 : i % 4 < r ∨ (i % 4 = r ∧ i / 4 < 4)
  · rw [if_pos h1, if_pos (by omega)]
  · rw [if_neg h1, if_neg (by omega), if_neg (by omega)]
    split <;> simp [ps]
theorem turnP_start (b : Nat → Int) : turnP b 0 0 0 = fun _ => 0 := by
  funext i
  unfold turnP
  rw [if_neg (by omega)]
  split <;> simp [ps]
theorem turnP_end (b : Nat → Int) (i : Nat) : turnP b 4 0 0 i = turn b i := by
  unfold turnP; rw [if_pos (by omega)]
theorem sums_zero {b : Nat → Int} (h : sameB b (fun _ => 0) = true) : Ending.returned (blkV b) = .returned (blkV (fwd b)) := by
  have e := sameB_iff.1 h
  rw [fwd_congr (c := fun _ => 0) e, fwd_zero, blkV_congr e]
def moreB (a b : Nat → Int) : Nat → Int := fun i => clB 1048576 a i + clB 1048576 b i
def backB (b : Nat → Int) : Nat → Int := fun i => rnd (fwd (clB 1048576 b) i)
theorem clB_le (b : Nat → Int) (i : Nat) : -1048576 ≤ clB 1048576 b i ∧ clB 1048576 b i ≤ 1048576 := cl_le 1048576 (b i) (by omega)
theorem clamped_any (b : Nat → Int) (w0 : World) :
  Calls Tryz.prog 146 #[blkV (b)] w0 fun e w' => e = .returned (blkV (clB 1048576 b)) ∧ Kept (fun _ => False) w0 w' := by
 refine calls_wq (args := [blkV b]) 16 Tryz.func146 rfl rfl (Nat.le_of_ble_eq_true rfl) ?_
 have K0 := Kept.refl (fun _ => False) w0
 refine wq_seq (wq_region (wl_box_blk rfl rfl rfl rfl fun p1 w2 e5 B3 k4 => ?_))
 have g6 := onB_new (Nat.le_of_eq e5.symm)
 have gr7 : Grew w0 noB (onB p1) := Grew.new K0 g6
 clear e5 g6
 have K8 := K0.tr k4
 refine wl_alloc_blk rfl rfl rfl blkT_block.2.2 fun p9 w10 e13 B11 k12 => ?_
 have g14 := onB_new (Nat.le_of_eq e13.symm)
 have gr15 : Grew w0 noB (onB p9) := Grew.new K8 g14
 have ap16 : Apart (onB p9) (onB p1) := Apart.new g14 (onB_live B3.lt)
 clear e13 g14
 have B17 := B3.all k12 id
 have K18 := K8.tr k12
 refine wl_nil fun F19 hF20 => ?_
 have s21 : F19 16 = undef := (hF20 16).trans rfl
 have s22 : F19 1 = pt p1 0 := (hF20 1).trans rfl
 have s23 : F19 2 = pt p9 0 := (hF20 2).trans rfl
 clear hF20
 refine then_normal (wq_seq (wq_seq (wq_region (wl_v (iv 0) rfl rfl (y_mov rfl rfl rr) (wl_nil fun F24 hF25 => ?_)))))
 obtain ⟨s26, s27, s28⟩ := t3 hF25 16 s21 1 s22 2 s23
 have s29 : F24 4 = iv 0 := (hF25 4).trans rfl
 clear hF25
 refine then_normal (wq_block (wq_loop (fun nn FF ww => ∃ (k : Nat), (k ≤ 16) ∧ nn = 16 - k ∧ FF 1 = pt p1 0 ∧ FF 2 = pt p9 0 ∧ FF 16 = undef ∧ FF 4 = iv ((k : Nat) : Int) ∧ Kept (fun _ => False) w0 ww ∧ Blk ww p1 69 (upto k b (clB 1048576 b)) ∧ Blk ww p9 69 (fun _ => 0)) (16 - 0) ⟨0, by omega, rfl, s27, s28, s26, s29, K18, B17.first, B11⟩ ?_))
 rintro n33 F30 w31 ⟨k, i34, hn33, s35, s36, s37, s38, K32, B39, B40⟩
 refine wq_seq (wq_region (wl_v (.bool (decide (((k : Nat) : Int) < 16))) rfl rfl (y_lss rfl s38 rfl rfl rr) (wl_nil fun F41 hF42 => ?_)))
 obtain ⟨s43, s44, s45, s46⟩ := t4 hF42 1 s35 2 s36 16 s37 4 s38
 have s47 : F41 5 = .bool (decide (((k : Nat) : Int) < 16)) := (hF42 5).trans rfl
 clear hF42
 refine then_normal (wq_seq ?_)
 refine wq_cond s47 (fun c48 => ?_) (fun c48 => ?_)
 ·replace c48 := of_decide_eq_true c48
  refine wq_skip (then_normal (wq_seq (wq_block (wq_seq (wq_region (wl_mv rfl rfl rfl s46 (wl_v (iv ((k : Nat) : Int)) rfl rfl (y_asg rfl rfl rr) (wl_nil fun F49 hF50 => ?_))))))))
  obtain ⟨s51, s52, s53, s54⟩ := t4 hF50 1 s43 2 s44 16 s45 4 s46
  have s55 : F49 3 = iv ((k : Nat) : Int) := (hF50 3).trans rfl
  clear hF50
  refine then_normal (wq_region (wl_mv rfl rfl rfl s55 (wl_mv rfl rfl rfl s55 (wl_v (.pointer (some ⟨p1, k, none⟩)) rfl rfl (y_atR k (s := 1) rfl s51 rfl (by omega) Tryz.underlying69 (by omega) (by kernel_rfl) (by omega) rr) (wl_v (iv ((upto k b (clB 1048576 b)) k)) rfl rfl (y_ldR rfl rfl Tryz.underlying3 (B39.cell (by omega)) rr) (wl_v (iv (min ((upto k b (clB 1048576 b)) k) 1048576)) rfl rfl (y_minR rfl rfl rfl rfl rr) (wl_v (iv (max (-1048576) (min ((upto k b (clB 1048576 b)) k) 1048576))) rfl rfl (y_maxR rfl rfl rfl rfl rr) (wl_v (.pointer (some ⟨p1, k, none⟩)) rfl rfl (y_atR k (s := 1) rfl s51 rfl (by omega) Tryz.underlying69 (by omega) (by kernel_rfl) (by omega) rr) (wl_set_blk rfl rfl rfl rfl rfl B39 (by omega) (by kernel_rfl) fun w56 B57 k58 => ?_)))))))))
  have B59 := B40.all k58 (ap16 p9 rfl)
  have K60 := K32.trans k58 (Grew.ok (S := fun _ => False) gr7 noB_le)
  refine wl_nil fun F61 hF62 => ?_
  obtain ⟨s63, s64, s65, s66⟩ := t4 hF62 1 s51 2 s52 16 s53 4 s54
  clear hF62
  refine in_normal (then_normal (wq_region (wl_v (iv ((k + 1 : Nat) : Int)) rfl rfl (y_add rfl s66 rfl (i64_n (by omega) (by omega)) rr) (wl_v (iv ((k + 1 : Nat) : Int)) rfl rfl (y_mov rfl rfl rr) (wl_nil fun F67 hF68 => ?_)))))
  obtain ⟨s69, s70, s71⟩ := t3 hF68 1 s63 2 s64 16 s65
  have s72 : F67 4 = iv ((k + 1 : Nat) : Int) := (hF68 4).trans rfl
  clear hF68
  exact then_normal ⟨(16 - (k + 1)), by omega, k + 1, by omega, rfl, s69, s70, s71, s72, K60, (B57.next (by rw [upto_at]; rfl)), B59⟩
 ·replace c48 := of_decide_eq_false c48
  refine wq_exit (then_exit (then_exit ?_))
  have l73 : 16 = k := by omega
  subst l73
  have B74 : Blk w31 p1 69 (clB 1048576 b) := (B39.last)
  refine in_here (then_normal (wq_seq (wq_region (wl_v (blkV (clB 1048576 b)) rfl rfl (y_load_blk blkT_block rfl s43 B74 rr) (wl_store_blk blkT_block rfl rfl rfl s44 rfl B40 fun w75 B76 k77 => ?_)))))
  have K79 := K32.trans k77 (Grew.ok (S := fun _ => False) gr15 noB_le)
  refine wl_nil fun F80 hF81 => ?_
  obtain ⟨s82, s83⟩ := t2 hF81 2 s44 16 s45
  clear hF81
  refine then_normal (wq_ret ?_)
  exact end_blk blkT_block s83 rfl rfl s82 B76 ⟨rfl, K79⟩
theorem turned_any (b : Nat → Int) (w0 : World) (hw : Waves w0) (hb : ∀ i, i < 16 → -1099511627776 ≤ b i ∧ b i ≤ 1099511627776) :
  Calls Tryz.prog 168 #[blkV (b)] w0 fun e w' => e = .returned (blkV (turn b)) ∧ Kept (fun _ => False) w0 w' := by
 refine calls_wq (args := [blkV b]) 40 Tryz.func168 rfl rfl (Nat.le_of_ble_eq_true rfl) ?_
 have K0 := Kept.refl (fun _ => False) w0
 refine wq_seq (wq_region (wl_box_blk rfl rfl rfl rfl fun p1 w2 e5 B3 k4 => ?_))
 have g6 := onB_new (Nat.le_of_eq e5.symm)
 clear e5 g6
 have K8 := K0.tr k4
 refine wl_alloc_blk rfl rfl rfl blkT_block.2.2 fun p9 w10 e13 B11 k12 => ?_
 have g14 := onB_new (Nat.le_of_eq e13.symm)
 have gr15 : Grew w0 noB (onB p9) := Grew.new K8 g14
 clear e13 g14
 have B17 := B3.all k12 id
 have K18 := K8.tr k12
 refine wl_nil fun F19 hF20 => ?_
 have s21 : F19 40 = undef := (hF20 40).trans rfl
 have s22 : F19 1 = pt p1 0 := (hF20 1).trans rfl
 have s23 : F19 2 = pt p9 0 := (hF20 2).trans rfl
 clear hF20
 refine then_normal (wq_seq (wq_region (wl_alloc_blk rfl rfl rfl blkT_block.2.2 fun p24 w25 e28 B26 k27 => ?_)))
 have g29 := onB_new (Nat.le_of_eq e28.symm)
 have gr30 : Grew w0 noB (onB p24) := Grew.new K18 g29
 have ap31 : Apart (onB p24) (onB p1) := Apart.new g29 (onB_live B17.lt)
 have ap32 : Apart (onB p24) (onB p9) := Apart.new g29 (onB_live B11.lt)
 clear e28 g29
 have B33 := B17.all k27 id
 have B34 := B11.all k27 id
 have K35 := K18.tr k27
 refine wl_nil fun F36 hF37 => ?_
 obtain ⟨s38, s39, s40⟩ := t3 hF37 40 s21 1 s22 2 s23
 have s41 : F36 3 = pt p24 0 := (hF37 3).trans rfl
 clear hF37
 refine then_normal (wq_seq (wq_seq (wq_region (wl_v (iv 0) rfl rfl (y_mov rfl rfl rr) (wl_nil fun F42 hF43 => ?_)))))
 obtain ⟨s44, s45, s46, s47⟩ := t4 hF43 40 s38 1 s39 2 s40 3 s41
 have s48 : F42 7 = iv 0 := (hF43 7).trans rfl
 clear hF43
 refine then_normal (wq_block (wq_loop (fun nn FF ww => ∃ (r : Nat), (r ≤ 4) ∧ nn = 4 - r ∧ FF 1 = pt p1 0 ∧ FF 2 = pt p9 0 ∧ FF 3 = pt p24 0 ∧ FF 40 = undef ∧ FF 7 = iv ((r : Nat) : Int) ∧ Kept (fun _ => False) w0 ww ∧ Blk ww p1 69 b ∧ Blk ww p9 69 (fun _ => 0) ∧ Blk ww p24 69 (turnP b r 0 0)) (4 - 0) ⟨0, by omega, rfl, s45, s46, s47, s44, s48, K35, B33, B34, (by rw [turnP_start]; exact B26)⟩ ?_))
 rintro n52 F49 w50 ⟨r, i53, hn52, s54, s55, s56, s57, s58, K51, B59, B60, B61⟩
 refine wq_seq (wq_region (wl_v (.bool (decide (((r : Nat) : Int) < 4))) rfl rfl (y_lss rfl s58 rfl rfl rr) (wl_nil fun F62 hF63 => ?_)))
 obtain ⟨s64, s65, s66, s67, s68⟩ := t5 hF63 1 s54 2 s55 3 s56 40 s57 7 s58
 have s69 : F62 8 = .bool (decide (((r : Nat) : Int) < 4)) := (hF63 8).trans rfl
 clear hF63
 refine then_normal (wq_seq ?_)
 refine wq_cond s69 (fun c70 => ?_) (fun c70 => ?_)
 ·replace c70 := of_decide_eq_true c70
  refine wq_skip (then_normal (wq_seq (wq_block (wq_seq (wq_region (wl_mv rfl rfl rfl s68 (wl_v (iv ((r : Nat) : Int)) rfl rfl (y_asg rfl rfl rr) (wl_nil fun F71 hF72 => ?_))))))))
  obtain ⟨s73, s74, s75, s76, s77⟩ := t5 hF72 1 s64 2 s65 3 s66 40 s67 7 s68
  have s78 : F71 4 = iv ((r : Nat) : Int) := (hF72 4).trans rfl
  clear hF72
  refine then_normal (wq_seq (wq_region (wl_v (iv 0) rfl rfl (y_mov rfl rfl rr) (wl_nil fun F79 hF80 => ?_))))
  obtain ⟨s81, s82, s83, s84, s85, s86⟩ := t6 hF80 1 s73 2 s74 3 s75 40 s76 7 s77 4 s78
  have s87 : F79 10 = iv 0 := (hF80 10).trans rfl
  clear hF80
  refine then_normal (wq_block (wq_loop (fun nn FF ww => ∃ (u : Nat), (u ≤ 4) ∧ nn = 4 - u ∧ FF 1 = pt p1 0 ∧ FF 2 = pt p9 0 ∧ FF 3 = pt p24 0 ∧ FF 4 = iv ((r : Nat) : Int) ∧ FF 7 = iv ((r : Nat) : Int) ∧ FF 40 = undef ∧ FF 10 = iv ((u : Nat) : Int) ∧ Kept (fun _ => False) w0 ww ∧ Blk ww p1 69 b ∧ Blk ww p9 69 (fun _ => 0) ∧ Blk ww p24 69 (turnP b r u 0)) (4 - 0) ⟨0, by omega, rfl, s81, s82, s83, s86, s85, s84, s87, K51, B59, B60, B61⟩ ?_))
  rintro n91 F88 w89 ⟨u, i92, hn91, s93, s94, s95, s96, s97, s98, s99, K90, B100, B101, B102⟩
  refine wq_seq (wq_region (wl_v (.bool (decide (((u : Nat) : Int) < 4))) rfl rfl (y_lss rfl s99 rfl rfl rr) (wl_nil fun F103 hF104 => ?_)))
  obtain ⟨s105, s106, s107, s108, s109, s110, s111⟩ := t7 hF104 1 s93 2 s94 3 s95 4 s96 7 s97 40 s98 10 s99
  have s112 : F103 11 = .bool (decide (((u : Nat) : Int) < 4)) := (hF104 11).trans rfl
  clear hF104
  refine then_normal (wq_seq ?_)
  refine wq_cond s112 (fun c113 => ?_) (fun c113 => ?_)
  ·replace c113 := of_decide_eq_true c113
   refine wq_skip (then_normal (wq_seq (wq_block (wq_seq (wq_region (wl_mv rfl rfl rfl s111 (wl_v (iv ((u : Nat) : Int)) rfl rfl (y_asg rfl rfl rr) (wl_nil fun F114 hF115 => ?_))))))))
   obtain ⟨s116, s117, s118, s119, s120, s121, s122⟩ := t7 hF115 1 s105 2 s106 3 s107 4 s108 7 s109 40 s110 10 s111
   have s123 : F114 5 = iv ((u : Nat) : Int) := (hF115 5).trans rfl
   clear hF115
   refine then_normal (wq_seq (wq_region (wl_v (iv 0) rfl rfl (y_mov rfl rfl rr) (wl_nil fun F124 hF125 => ?_))))
   obtain ⟨s126, s127, s128, s129, s130, s131, s132, s133⟩ := t8 hF125 1 s116 2 s117 3 s118 4 s119 7 s120 40 s121 10 s122 5 s123
   have s134 : F124 13 = iv 0 := (hF125 13).trans rfl
   clear hF125
   refine then_normal (wq_block (wq_loop (fun nn FF ww => ∃ (c : Nat), (c ≤ 4) ∧ nn = 4 - c ∧ FF 1 = pt p1 0 ∧ FF 2 = pt p9 0 ∧ FF 3 = pt p24 0 ∧ FF 4 = iv ((r : Nat) : Int) ∧ FF 5 = iv ((u : Nat) : Int) ∧ FF 7 = iv ((r : Nat) : Int) ∧ FF 10 = iv ((u : Nat) : Int) ∧ FF 40 = undef ∧ FF 13 = iv ((c : Nat) : Int) ∧ Kept (fun _ => False) w0 ww ∧ Blk ww p1 69 b ∧ Blk ww p9 69 (fun _ => 0) ∧ Blk ww p24 69 (turnP b r u c)) (4 - 0) ⟨0, by omega, rfl, s126, s127, s128, s129, s133, s130, s132, s131, s134, K90, B100, B101, B102⟩ ?_))
   rintro n138 F135 w136 ⟨c, i139, hn138, s140, s141, s142, s143, s144, s145, s146, s147, s148, K137, B149, B150, B151⟩
   refine wq_seq (wq_region (wl_v (.bool (decide (((c : Nat) : Int) < 4))) rfl rfl (y_lss rfl s148 rfl rfl rr) (wl_nil fun F152 hF153 => ?_)))
   obtain ⟨s154, s155, s156, s157, s158, s159, s160, s161, s162⟩ := t9 hF153 1 s140 2 s141 3 s142 4 s143 5 s144 7 s145 10 s146 40 s147 13 s148
   have s163 : F152 14 = .bool (decide (((c : Nat) : Int) < 4)) := (hF153 14).trans rfl
   clear hF153
   refine then_normal (wq_seq ?_)
   refine wq_cond s163 (fun c164 => ?_) (fun c164 => ?_)
   ·replace c164 := of_decide_eq_true c164
    refine wq_skip (then_normal (wq_seq (wq_block (wq_seq (wq_region (wl_mv rfl rfl rfl s162 (wl_v (iv ((c : Nat) : Int)) rfl rfl (y_asg rfl rfl rr) (wl_nil fun F165 hF166 => ?_))))))))
    obtain ⟨s167, s168, s169, s170, s171, s172, s173, s174, s175⟩ := t9 hF166 1 s154 2 s155 3 s156 4 s157 5 s158 7 s159 10 s160 40 s161 13 s162
    have s176 : F165 6 = iv ((c : Nat) : Int) := (hF166 6).trans rfl
    clear hF166
    refine then_normal ?_
    have hbb := hb (r * 4 + c) (by omega)
    have hmm := wv_mul _ 1099511627776 u c hbb.1 hbb.2
    have hps := ps_le b 1099511627776 hb r u c (by omega) (by omega)
    refine wq_tail 20 [some 16, some 17, some 18, some 19, some 20, some 21, some 22, some 23, some 24, some 25, some 26, some 27, some 28, some 29, some 30, some 31, some 32, some 33, some 34, some 35] [Pd.eq (iv ((u : Nat) : Int)), Pd.eq (iv ((u * 4 : Nat) : Int)), Pd.eq (iv ((r : Nat) : Int)), Pd.eq (iv (((u * 4) + r : Nat) : Int)), Pd.eq (.pointer (some ⟨p24, (u * 4) + r, none⟩)), Pd.eq (iv (ps b r u c)), Pd.eq (iv ((r : Nat) : Int)), Pd.eq (iv ((r * 4 : Nat) : Int)), Pd.eq (iv ((c : Nat) : Int)), Pd.eq (iv (((r * 4) + c : Nat) : Int)), Pd.eq (.pointer (some ⟨p1, (r * 4) + c, none⟩)), Pd.eq (iv (b ((r * 4) + c))), Pd.eq (iv ((u : Nat) : Int)), Pd.eq (iv ((c : Nat) : Int)), Pd.eq (.pointer (some ⟨4, 0 + u * 4, none⟩)), Pd.eq (.pointer (some ⟨4, 0 + u * 4 + c, none⟩)), Pd.eq (iv (wv u c)), Pd.eq (iv ((b ((r * 4) + c)) * (wv u c))), Pd.eq (iv (ps b r u (c + 1))), Pd.eq (.pointer (some ⟨p24, (u * 4) + r, none⟩))] (by kernel_rfl) (by kernel_rfl) (by kernel_rfl) ?_ ?_
    ·refine stepsF_cons ?_ ?_
     ·refine StepF.one rfl fun F_ w_ hR hout hD => ?_
      exact (y_mov rfl ((hout 5 rfl (by decide)).trans s171) ⟨rfl, Kept.refl _ _⟩)
     refine stepsF_cons ?_ ?_
     ·refine StepF.one rfl fun F_ w_ hR hout hD => ?_
      have g16 : F_ 16 = iv ((u : Nat) : Int) := (hD.get 0 rfl rfl rfl)
      exact (y_mul rfl g16 rfl (i64_n (by omega) (by omega)) ⟨rfl, Kept.refl _ _⟩)
     refine stepsF_cons ?_ ?_
     ·refine StepF.one rfl fun F_ w_ hR hout hD => ?_
      exact (y_mov rfl ((hout 4 rfl (by decide)).trans s170) ⟨rfl, Kept.refl _ _⟩)
     refine stepsF_cons ?_ ?_
     ·refine StepF.one rfl fun F_ w_ hR hout hD => ?_
      have g17 : F_ 17 = iv ((u * 4 : Nat) : Int) := (hD.get 0 rfl rfl rfl)
      have g18 : F_ 18 = iv ((r : Nat) : Int) := (hD.get 1 rfl rfl rfl)
      exact (y_add rfl g17 g18 (i64_n (by omega) (by omega)) ⟨rfl, Kept.refl _ _⟩)
     refine stepsF_cons ?_ ?_
     ·refine StepF.one rfl fun F_ w_ hR hout hD => ?_
      have g19 : F_ 19 = iv (((u * 4) + r : Nat) : Int) := (hD.get 0 rfl rfl rfl)
      exact (y_atR ((u * 4) + r) (s := 1) rfl ((hout 3 rfl (by decide)).trans s169) g19 (by omega) Tryz.underlying69 (by omega) (by kernel_rfl) (by omega) ⟨rfl, Kept.refl _ _⟩)
     refine stepsF_cons ?_ ?_
     ·refine StepF.one rfl fun F_ w_ hR hout hD => ?_
      have g20 : F_ 20 = .pointer (some ⟨p24, (u * 4) + r, none⟩) := (hD.get 0 rfl rfl rfl)
      exact (y_ldR rfl g20 Tryz.underlying3 (((B151.all hR id).cell (by omega)).trans (some_int (turnP_here b r u c (by omega)))) ⟨rfl, Kept.refl _ _⟩)
     refine stepsF_cons ?_ ?_
     ·refine StepF.one rfl fun F_ w_ hR hout hD => ?_
      exact (y_mov rfl ((hout 4 rfl (by decide)).trans s170) ⟨rfl, Kept.refl _ _⟩)
     refine stepsF_cons ?_ ?_
     ·refine StepF.one rfl fun F_ w_ hR hout hD => ?_
      have g22 : F_ 22 = iv ((r : Nat) : Int) := (hD.get 0 rfl rfl rfl)
      exact (y_mul rfl g22 rfl (i64_n (by omega) (by omega)) ⟨rfl, Kept.refl _ _⟩)
     refine stepsF_cons ?_ ?_
     ·refine StepF.one rfl fun F_ w_ hR hout hD => ?_
      exact (y_mov rfl ((hout 6 rfl (by decide)).trans s176) ⟨rfl, Kept.refl _ _⟩)
     refine stepsF_cons ?_ ?_
     ·refine StepF.one rfl fun F_ w_ hR hout hD => ?_
      have g23 : F_ 23 = iv ((r * 4 : Nat) : Int) := (hD.get 0 rfl rfl rfl)
      have g24 : F_ 24 = iv ((c : Nat) : Int) := (hD.get 1 rfl rfl rfl)
      exact (y_add rfl g23 g24 (i64_n (by omega) (by omega)) ⟨rfl, Kept.refl _ _⟩)
     refine stepsF_cons ?_ ?_
     ·refine StepF.one rfl fun F_ w_ hR hout hD => ?_
      have g25 : F_ 25 = iv (((r * 4) + c : Nat) : Int) := (hD.get 0 rfl rfl rfl)
      exact (y_atR ((r * 4) + c) (s := 1) rfl ((hout 1 rfl (by decide)).trans s167) g25 (by omega) Tryz.underlying69 (by omega) (by kernel_rfl) (by omega) ⟨rfl, Kept.refl _ _⟩)
     refine stepsF_cons ?_ ?_
     ·refine StepF.one rfl fun F_ w_ hR hout hD => ?_
      have g26 : F_ 26 = .pointer (some ⟨p1, (r * 4) + c, none⟩) := (hD.get 0 rfl rfl rfl)
      exact (y_ldR rfl g26 Tryz.underlying3 ((B149.all hR id).cell (by omega)) ⟨rfl, Kept.refl _ _⟩)
     refine stepsF_cons ?_ ?_
     ·refine StepF.one rfl fun F_ w_ hR hout hD => ?_
      exact (y_mov rfl ((hout 5 rfl (by decide)).trans s171) ⟨rfl, Kept.refl _ _⟩)
     refine stepsF_cons ?_ ?_
     ·refine StepF.one rfl fun F_ w_ hR hout hD => ?_
      exact (y_mov rfl ((hout 6 rfl (by decide)).trans s176) ⟨rfl, Kept.refl _ _⟩)
     refine stepsF_cons ?_ ?_
     ·refine StepF.one rfl fun F_ w_ hR hout hD => ?_
      have g28 : F_ 28 = iv ((u : Nat) : Int) := (hD.get 0 rfl rfl rfl)
      exact (y_atR u (s := 4) rfl rfl g28 (by omega) Tryz.underlying179 (by omega) (by kernel_rfl) (by omega) ⟨rfl, Kept.refl _ _⟩)
     refine stepsF_cons ?_ ?_
     ·refine StepF.one rfl fun F_ w_ hR hout hD => ?_
      have g30 : F_ 30 = .pointer (some ⟨4, 0 + u * 4, none⟩) := (hD.get 0 rfl rfl rfl)
      have g29 : F_ 29 = iv ((c : Nat) : Int) := (hD.get 1 rfl rfl rfl)
      exact (y_atR c (s := 1) rfl g30 g29 (by omega) Tryz.underlying171 (by omega) (by kernel_rfl) (by omega) ⟨rfl, Kept.refl _ _⟩)
     refine stepsF_cons ?_ ?_
     ·refine StepF.one rfl fun F_ w_ hR hout hD => ?_
      have g31 : F_ 31 = .pointer (some ⟨4, 0 + u * 4 + c, none⟩) := (hD.get 0 rfl rfl rfl)
      exact (y_ldR rfl g31 Tryz.underlying3 ((hw.all (K137.trans hR (fun _ _ x => x.elim))).at u c (by omega) (by omega)) ⟨rfl, Kept.refl _ _⟩)
     refine stepsF_cons ?_ ?_
     ·refine StepF.one rfl fun F_ w_ hR hout hD => ?_
      have g27 : F_ 27 = iv (b ((r * 4) + c)) := (hD.get 0 rfl rfl rfl)
      have g32 : F_ 32 = iv (wv u c) := (hD.get 1 rfl rfl rfl)
      exact (y_mul rfl g27 g32 (i64_i rfl (by omega)) ⟨rfl, Kept.refl _ _⟩)
     refine stepsF_cons ?_ ?_
     ·refine StepF.one rfl fun F_ w_ hR hout hD => ?_
      have g21 : F_ 21 = iv (ps b r u c) := (hD.get 0 rfl rfl rfl)
      have g33 : F_ 33 = iv ((b ((r * 4) + c)) * (wv u c)) := (hD.get 1 rfl rfl rfl)
      exact (y_add rfl g21 g33 (i64_i rfl (by have e : ps b r u (c + 1) = ps b r u c + b (r * 4 + c) * wv u c := rfl; omega)) ⟨rfl, Kept.refl _ _⟩)
     refine stepsF_cons ?_ ?_
     ·refine StepF.one rfl fun F_ w_ hR hout hD => ?_
      have g19 : F_ 19 = iv (((u * 4) + r : Nat) : Int) := (hD.get 0 rfl rfl rfl)
      exact (y_atR ((u * 4) + r) (s := 1) rfl ((hout 3 rfl (by decide)).trans s169) g19 (by omega) Tryz.underlying69 (by omega) (by kernel_rfl) (by omega) ⟨rfl, Kept.refl _ _⟩)
     exact stepsF_nil
    intro v177 F178 w179 k180 G181 hF182
    have B184 := B149.all k180 id
    have B185 := B150.all k180 id
    have B186 := B151.all k180 id
    have K187 := K137.tr k180
    obtain ⟨s188, s189, s190, s191, s192, s193, s194, s195, s196⟩ := t9 hF182 1 s167 2 s168 3 s169 4 s170 5 s171 7 s172 10 s173 40 s174 13 s175
    have s197 : F178 34 = iv (ps b r u (c + 1)) := (hF182 34).trans (G181 18 (by decide))
    have s198 : F178 35 = .pointer (some ⟨p24, (u * 4) + r, none⟩) := (hF182 35).trans (G181 19 (by decide))
    clear G181 hF182
    refine wl_set_blk rfl rfl rfl s198 s197 B186 (by omega) (by kernel_rfl) fun w199 B200 k201 => ?_
    have B202 := B184.all k201 (ap31.symm p1 rfl)
    have B203 := B185.all k201 (ap32.symm p9 rfl)
    have K204 := K187.trans k201 (Grew.ok (S := fun _ => False) gr30 noB_le)
    refine wl_nil fun F205 hF206 => ?_
    obtain ⟨s207, s208, s209, s210, s211, s212, s213, s214, s215⟩ := t9 hF206 1 s188 2 s189 3 s190 4 s191 5 s192 7 s193 10 s194 40 s195 13 s196
    clear hF206
    refine in_normal (then_normal (wq_region (wl_v (iv ((c + 1 : Nat) : Int)) rfl rfl (y_add rfl s215 rfl (i64_n (by omega) (by omega)) rr) (wl_v (iv ((c + 1 : Nat) : Int)) rfl rfl (y_mov rfl rfl rr) (wl_nil fun F216 hF217 => ?_)))))
    obtain ⟨s218, s219, s220, s221, s222, s223, s224, s225⟩ := t8 hF217 1 s207 2 s208 3 s209 4 s210 5 s211 7 s212 10 s213 40 s214
    have s226 : F216 13 = iv ((c + 1 : Nat) : Int) := (hF217 13).trans rfl
    clear hF217
    exact then_normal ⟨(4 - (c + 1)), by omega, c + 1, by omega, rfl, s218, s219, s220, s221, s222, s223, s224, s225, s226, K204, B202, B203, (by rw [← turnP_set b r u c (by omega)]; exact B200)⟩
   ·replace c164 := of_decide_eq_false c164
    refine wq_exit (then_exit (then_exit ?_))
    have l227 : 4 = c := by omega
    subst l227
    refine in_here (in_normal (then_normal (wq_region (wl_v (iv ((u + 1 : Nat) : Int)) rfl rfl (y_add rfl s160 rfl (i64_n (by omega) (by omega)) rr) (wl_v (iv ((u + 1 : Nat) : Int)) rfl rfl (y_mov rfl rfl rr) (wl_nil fun F228 hF229 => ?_))))))
    obtain ⟨s230, s231, s232, s233, s234, s235⟩ := t6 hF229 1 s154 2 s155 3 s156 4 s157 7 s159 40 s161
    have s236 : F228 10 = iv ((u + 1 : Nat) : Int) := (hF229 10).trans rfl
    clear hF229
    exact then_normal ⟨(4 - (u + 1)), by omega, u + 1, by omega, rfl, s230, s231, s232, s233, s234, s235, s236, K137, B149, B150, (by rw [← turnP_row b r u (by omega)]; exact B151)⟩
  ·replace c113 := of_decide_eq_false c113
   refine wq_exit (then_exit (then_exit ?_))
   have l237 : 4 = u := by omega
   subst l237
   refine in_here (in_normal (then_normal (wq_region (wl_v (iv ((r + 1 : Nat) : Int)) rfl rfl (y_add rfl s109 rfl (i64_n (by omega) (by omega)) rr) (wl_v (iv ((r + 1 : Nat) : Int)) rfl rfl (y_mov rfl rfl rr) (wl_nil fun F238 hF239 => ?_))))))
   obtain ⟨s240, s241, s242, s243⟩ := t4 hF239 1 s105 2 s106 3 s107 40 s110
   have s244 : F238 7 = iv ((r + 1 : Nat) : Int) := (hF239 7).trans rfl
   clear hF239
   exact then_normal ⟨(4 - (r + 1)), by omega, r + 1, by omega, rfl, s240, s241, s242, s243, s244, K90, B100, B101, (B102.congr (turnP_next b r))⟩
 ·replace c70 := of_decide_eq_false c70
  refine wq_exit (then_exit (then_exit ?_))
  have l245 : 4 = r := by omega
  subst l245
  have B246 : Blk w50 p24 69 (turn b) := (B61.congr (fun i _ => turnP_end b i))
  refine in_here (then_normal (wq_seq (wq_region (wl_v (blkV (turn b)) rfl rfl (y_load_blk blkT_block rfl s66 B246 rr) (wl_store_blk blkT_block rfl rfl rfl s65 rfl B60 fun w247 B248 k249 => ?_)))))
  have K252 := K51.trans k249 (Grew.ok (S := fun _ => False) gr15 noB_le)
  refine wl_nil fun F253 hF254 => ?_
  obtain ⟨s255, s256⟩ := t2 hF254 2 s65 40 s67
  clear hF254
  refine then_normal (wq_ret ?_)
  exact end_blk blkT_block s256 rfl rfl s255 B248 ⟨rfl, K252⟩
theorem sums_any (b : Nat → Int) (w0 : World) (hw : Waves w0) (hb : ∀ i, i < 16 → -1048576 ≤ b i ∧ b i ≤ 1048576) :
  Calls Tryz.prog 147 #[blkV (b)] w0 fun e w' => e = .returned (blkV (fwd b)) ∧ Kept (fun _ => False) w0 w' := by
 refine calls_wq (args := [blkV b]) 10 Tryz.func147 rfl rfl (Nat.le_of_ble_eq_true rfl) ?_
 have K0 := Kept.refl (fun _ => False) w0
 refine wq_seq (wq_region (wl_box_blk rfl rfl rfl rfl fun p1 w2 e5 B3 k4 => ?_))
 have g6 := onB_new (Nat.le_of_eq e5.symm)
 clear e5 g6
 have K8 := K0.tr k4
 refine wl_alloc_blk rfl rfl rfl blkT_block.2.2 fun p9 w10 e13 B11 k12 => ?_
 have g14 := onB_new (Nat.le_of_eq e13.symm)
 have gr15 : Grew w0 noB (onB p9) := Grew.new K8 g14
 clear e13 g14
 have B17 := B3.all k12 id
 have K18 := K8.tr k12
 refine wl_nil fun F19 hF20 => ?_
 have s21 : F19 10 = undef := (hF20 10).trans rfl
 have s22 : F19 1 = pt p1 0 := (hF20 1).trans rfl
 have s23 : F19 2 = pt p9 0 := (hF20 2).trans rfl
 clear hF20
 refine then_normal (wq_seq (wq_seq (wq_region (wl_v (blkV b) rfl rfl (y_load_blk blkT_block rfl s22 B17 rr) (wl_v (blkV (fun _ => 0)) rfl rfl (y_buildR (cells := (arrL 16 (fun _ => 0)).toArray) rfl (by kernel_rfl) rfl rr) (wl_v (.bool (sameB b (fun _ => 0))) rfl rfl (y_sameR rfl rfl rfl rfl rr) (wl_nil fun F24 hF25 => ?_)))))))
 obtain ⟨s26, s27, s28⟩ := t3 hF25 10 s21 1 s22 2 s23
 have s29 : F24 5 = .bool (sameB b (fun _ => 0)) := (hF25 5).trans rfl
 clear hF25
 refine then_normal ?_
 refine wq_cond s29 (fun c30 => ?_) (fun c30 => ?_)
 ·skip
  refine wq_seq (wq_region (wl_v (blkV b) rfl rfl (y_load_blk blkT_block rfl s27 B17 rr) (wl_store_blk blkT_block rfl rfl rfl s28 rfl B11 fun w31 B32 k33 => ?_)))
  have K35 := K18.trans k33 (Grew.ok (S := fun _ => False) gr15 noB_le)
  refine wl_nil fun F36 hF37 => ?_
  obtain ⟨s38, s39⟩ := t2 hF37 10 s26 2 s28
  clear hF37
  refine then_normal (wq_ret (then_ret ?_))
  exact end_blk blkT_block s38 rfl rfl s39 B32 ⟨(by first | rfl | exact sums_zero ‹_›), K35⟩
 ·skip
  refine wq_skip (then_normal (wq_seq (wq_region (wl_v (blkV b) rfl rfl (y_load_blk blkT_block rfl s27 B17 rr) (wl_cs rfl rfl rfl rfl rfl (fun _ _ => by kernel_rfl) (vsC rfl vsN) (turned_any b _ (hw.all K18) (fun i hi => by have h := hb i hi; omega)) fun w40 k41 => ?_)))))
  have B43 := B11.all k41 id
  have K44 := K18.tr k41
  refine wl_cs rfl rfl rfl rfl rfl (fun _ _ => by kernel_rfl) (vsC rfl vsN) (turned_any (turn b) _ (hw.all K44) (fun i _ => by have h := turn_le b 1048576 hb i; omega)) fun w45 k46 => ?_
  have B48 := B43.all k46 id
  have K49 := K44.tr k46
  refine wl_store_blk blkT_block rfl rfl rfl s28 rfl B48 fun w50 B51 k52 => ?_
  have K54 := K49.trans k52 (Grew.ok (S := fun _ => False) gr15 noB_le)
  refine wl_nil fun F55 hF56 => ?_
  obtain ⟨s57, s58⟩ := t2 hF56 10 s26 2 s28
  clear hF56
  refine then_normal (wq_ret ?_)
  exact end_blk blkT_block s57 rfl rfl s58 B51 ⟨(by first | rfl | exact sums_zero ‹_›), K54⟩
theorem back_any (b : Nat → Int) (w0 : World) (hw : Waves w0) :
  Calls Tryz.prog 115 #[blkV (b)] w0 fun e w' => e = .returned (blkV (backB b)) ∧ Kept (fun _ => False) w0 w' := by
 refine calls_wq (args := [blkV b]) 19 Tryz.func115 rfl rfl (Nat.le_of_ble_eq_true rfl) ?_
 have K0 := Kept.refl (fun _ => False) w0
 refine wq_seq (wq_region (wl_box_blk rfl rfl rfl rfl fun p1 w2 e5 B3 k4 => ?_))
 have g6 := onB_new (Nat.le_of_eq e5.symm)
 have gr7 : Grew w0 noB (onB p1) := Grew.new K0 g6
 clear e5 g6
 have K8 := K0.tr k4
 refine wl_alloc_blk rfl rfl rfl blkT_block.2.2 fun p9 w10 e13 B11 k12 => ?_
 have g14 := onB_new (Nat.le_of_eq e13.symm)
 have gr15 : Grew w0 noB (onB p9) := Grew.new K8 g14
 have ap16 : Apart (onB p9) (onB p1) := Apart.new g14 (onB_live B3.lt)
 clear e13 g14
 have B17 := B3.all k12 id
 have K18 := K8.tr k12
 refine wl_nil fun F19 hF20 => ?_
 have s21 : F19 19 = undef := (hF20 19).trans rfl
 have s22 : F19 1 = pt p1 0 := (hF20 1).trans rfl
 have s23 : F19 2 = pt p9 0 := (hF20 2).trans rfl
 clear hF20
 refine then_normal (wq_seq (wq_region (wl_v (blkV b) rfl rfl (y_load_blk blkT_block rfl s22 B17 rr) (wl_cs rfl rfl rfl rfl rfl (fun _ _ => by kernel_rfl) (vsC rfl vsN) (clamped_any b  _   ) fun w24 k25 => ?_))))
 have B26 := B17.all k25 id
 have B27 := B11.all k25 id
 have K28 := K18.tr k25
 refine wl_cs rfl rfl rfl rfl rfl (fun _ _ => by kernel_rfl) (vsC rfl vsN) (sums_any (clB 1048576 b) _ (hw.all K28) (fun i _ => clB_le b i)) fun w29 k30 => ?_
 have B31 := B26.all k30 id
 have B32 := B27.all k30 id
 have K33 := K28.tr k30
 refine wl_store_blk blkT_block rfl rfl rfl s22 rfl B31 fun w34 B35 k36 => ?_
 have B37 := B32.all k36 (ap16 p9 rfl)
 have K38 := K33.trans k36 (Grew.ok (S := fun _ => False) gr7 noB_le)
 refine wl_nil fun F39 hF40 => ?_
 obtain ⟨s41, s42, s43⟩ := t3 hF40 19 s21 1 s22 2 s23
 clear hF40
 refine then_normal (wq_seq (wq_seq (wq_region (wl_v (iv 0) rfl rfl (y_mov rfl rfl rr) (wl_nil fun F44 hF45 => ?_)))))
 obtain ⟨s46, s47, s48⟩ := t3 hF45 19 s41 1 s42 2 s43
 have s49 : F44 7 = iv 0 := (hF45 7).trans rfl
 clear hF45
 refine then_normal (wq_block (wq_loop (fun nn FF ww => ∃ (k : Nat), (k ≤ 16) ∧ nn = 16 - k ∧ FF 1 = pt p1 0 ∧ FF 2 = pt p9 0 ∧ FF 19 = undef ∧ FF 7 = iv ((k : Nat) : Int) ∧ Kept (fun _ => False) w0 ww ∧ Blk ww p1 69 (upto k (fwd (clB 1048576 b)) (backB b)) ∧ Blk ww p9 69 (fun _ => 0)) (16 - 0) ⟨0, by omega, rfl, s47, s48, s46, s49, K38, B35.first, B37⟩ ?_))
 rintro n53 F50 w51 ⟨k, i54, hn53, s55, s56, s57, s58, K52, B59, B60⟩
 refine wq_seq (wq_region (wl_v (.bool (decide (((k : Nat) : Int) < 16))) rfl rfl (y_lss rfl s58 rfl rfl rr) (wl_nil fun F61 hF62 => ?_)))
 obtain ⟨s63, s64, s65, s66⟩ := t4 hF62 1 s55 2 s56 19 s57 7 s58
 have s67 : F61 8 = .bool (decide (((k : Nat) : Int) < 16)) := (hF62 8).trans rfl
 clear hF62
 refine then_normal (wq_seq ?_)
 refine wq_cond s67 (fun c68 => ?_) (fun c68 => ?_)
 ·replace c68 := of_decide_eq_true c68
  refine wq_skip (then_normal (wq_seq (wq_block (wq_seq (wq_region (wl_mv rfl rfl rfl s66 (wl_v (iv ((k : Nat) : Int)) rfl rfl (y_asg rfl rfl rr) (wl_nil fun F69 hF70 => ?_))))))))
  obtain ⟨s71, s72, s73, s74⟩ := t4 hF70 1 s63 2 s64 19 s65 7 s66
  have s75 : F69 3 = iv ((k : Nat) : Int) := (hF70 3).trans rfl
  clear hF70
  refine then_normal ?_
  have hf := fwd_le (clB 1048576 b) 1048576 (fun i _ => clB_le b i) k
  refine wq_region (wl_mv rfl rfl rfl s75 (wl_mv rfl rfl rfl s75 (wl_v (.pointer (some ⟨p1, k, none⟩)) rfl rfl (y_atR k (s := 1) rfl s71 rfl (by omega) Tryz.underlying69 (by omega) (by kernel_rfl) (by omega) rr) (wl_v (iv (fwd (clB 1048576 b) k)) rfl rfl (y_ldR rfl rfl Tryz.underlying3 ((B59.cell (by omega)).trans (some_int (upto_at k _ _))) rr) (wl_v (iv ((fwd (clB 1048576 b) k) + 8)) rfl rfl (y_add rfl rfl rfl (i64_i rfl (by omega)) rr) (wl_v (iv (rnd (fwd (clB 1048576 b) k))) rfl rfl (y_shrR 4 rfl rfl rfl (by decide) rfl rr) (wl_v (.pointer (some ⟨p1, k, none⟩)) rfl rfl (y_atR k (s := 1) rfl s71 rfl (by omega) Tryz.underlying69 (by omega) (by kernel_rfl) (by omega) rr) (wl_set_blk rfl rfl rfl rfl rfl B59 (by omega) (by kernel_rfl) fun w76 B77 k78 => ?_))))))))
  have B79 := B60.all k78 (ap16 p9 rfl)
  have K80 := K52.trans k78 (Grew.ok (S := fun _ => False) gr7 noB_le)
  refine wl_nil fun F81 hF82 => ?_
  obtain ⟨s83, s84, s85, s86⟩ := t4 hF82 1 s71 2 s72 19 s73 7 s74
  clear hF82
  refine in_normal (then_normal (wq_region (wl_v (iv ((k + 1 : Nat) : Int)) rfl rfl (y_add rfl s86 rfl (i64_n (by omega) (by omega)) rr) (wl_v (iv ((k + 1 : Nat) : Int)) rfl rfl (y_mov rfl rfl rr) (wl_nil fun F87 hF88 => ?_)))))
  obtain ⟨s89, s90, s91⟩ := t3 hF88 1 s83 2 s84 19 s85
  have s92 : F87 7 = iv ((k + 1 : Nat) : Int) := (hF88 7).trans rfl
  clear hF88
  exact then_normal ⟨(16 - (k + 1)), by omega, k + 1, by omega, rfl, s89, s90, s91, s92, K80, (B77.next rfl), B79⟩
 ·replace c68 := of_decide_eq_false c68
  refine wq_exit (then_exit (then_exit ?_))
  have l93 : 16 = k := by omega
  subst l93
  have B94 : Blk w51 p1 69 (backB b) := (B59.last)
  refine in_here (then_normal (wq_seq (wq_region (wl_v (blkV (backB b)) rfl rfl (y_load_blk blkT_block rfl s63 B94 rr) (wl_store_blk blkT_block rfl rfl rfl s64 rfl B60 fun w95 B96 k97 => ?_)))))
  have K99 := K52.trans k97 (Grew.ok (S := fun _ => False) gr15 noB_le)
  refine wl_nil fun F100 hF101 => ?_
  obtain ⟨s102, s103⟩ := t2 hF101 2 s64 19 s65
  clear hF101
  refine then_normal (wq_ret ?_)
  exact end_blk blkT_block s103 rfl rfl s102 B96 ⟨rfl, K99⟩
theorem more_any (a b : Nat → Int) (w0 : World) :
  Calls Tryz.prog 114 #[blkV (a), blkV (b)] w0 fun e w' => e = .returned (blkV (moreB a b)) ∧ Kept (fun _ => False) w0 w' := by
 refine calls_wq (args := [blkV a, blkV b]) 23 Tryz.func114 rfl rfl (Nat.le_of_ble_eq_true rfl) ?_
 have K0 := Kept.refl (fun _ => False) w0
 refine wq_seq (wq_region (wl_box_blk rfl rfl rfl rfl fun p1 w2 e5 B3 k4 => ?_))
 have g6 := onB_new (Nat.le_of_eq e5.symm)
 have gr7 : Grew w0 noB (onB p1) := Grew.new K0 g6
 clear e5 g6
 have K8 := K0.tr k4
 refine wl_box_blk rfl rfl rfl rfl fun p9 w10 e13 B11 k12 => ?_
 have g14 := onB_new (Nat.le_of_eq e13.symm)
 have gr15 : Grew w0 noB (onB p9) := Grew.new K8 g14
 have ap16 : Apart (onB p9) (onB p1) := Apart.new g14 (onB_live B3.lt)
 clear e13 g14
 have B17 := B3.all k12 id
 have K18 := K8.tr k12
 refine wl_alloc_blk rfl rfl rfl blkT_block.2.2 fun p19 w20 e23 B21 k22 => ?_
 have g24 := onB_new (Nat.le_of_eq e23.symm)
 have gr25 : Grew w0 noB (onB p19) := Grew.new K18 g24
 have ap26 : Apart (onB p19) (onB p1) := Apart.new g24 (onB_live B17.lt)
 have ap27 : Apart (onB p19) (onB p9) := Apart.new g24 (onB_live B11.lt)
 clear e23 g24
 have B28 := B17.all k22 id
 have B29 := B11.all k22 id
 have K30 := K18.tr k22
 refine wl_nil fun F31 hF32 => ?_
 have s33 : F31 23 = undef := (hF32 23).trans rfl
 have s34 : F31 2 = pt p1 0 := (hF32 2).trans rfl
 have s35 : F31 3 = pt p9 0 := (hF32 3).trans rfl
 have s36 : F31 4 = pt p19 0 := (hF32 4).trans rfl
 clear hF32
 refine then_normal (wq_seq ?_)
 refine wq_tail 4 [some 6, some 7, some 8, some 9] [Pd.eq (blkV a), Pd.eq (blkV (clB 1048576 a)), Pd.eq (blkV b), Pd.eq (blkV (clB 1048576 b))] (by kernel_rfl) (by kernel_rfl) (by kernel_rfl) ?_ ?_
 ·refine stepsF_cons ?_ ?_
  ·refine StepF.one rfl fun F_ w_ hR hout hD => ?_
   exact (y_load_blk blkT_block rfl ((hout 2 rfl (by decide)).trans s34) (B28.all hR id) ⟨rfl, Kept.refl _ _⟩)
  refine stepsF_cons ?_ ?_
  ·refine StepF.one rfl fun F_ w_ hR hout hD => ?_
   have g6 : F_ 6 = blkV a := (hD.get 0 rfl rfl rfl)
   exact (y_cs rfl rfl rfl (fun _ _ => by kernel_rfl) (ev_func _) (vsC g6 vsN) (clamped_any a  _   ) (fun e_ w_ h_ => ⟨_, h_.1, rfl, h_.2⟩))
  refine stepsF_cons ?_ ?_
  ·refine StepF.one rfl fun F_ w_ hR hout hD => ?_
   exact (y_load_blk blkT_block rfl ((hout 3 rfl (by decide)).trans s35) (B29.all hR id) ⟨rfl, Kept.refl _ _⟩)
  refine stepsF_cons ?_ ?_
  ·refine StepF.one rfl fun F_ w_ hR hout hD => ?_
   have g8 : F_ 8 = blkV b := (hD.get 0 rfl rfl rfl)
   exact (y_cs rfl rfl rfl (fun _ _ => by kernel_rfl) (ev_func _) (vsC g8 vsN) (clamped_any b  _   ) (fun e_ w_ h_ => ⟨_, h_.1, rfl, h_.2⟩))
  exact stepsF_nil
 intro v37 F38 w39 k40 G41 hF42
 have B44 := B28.all k40 id
 have B45 := B29.all k40 id
 have B46 := B21.all k40 id
 have K47 := K30.tr k40
 obtain ⟨s48, s49, s50, s51⟩ := t4 hF42 23 s33 2 s34 3 s35 4 s36
 have s52 : F38 7 = blkV (clB 1048576 a) := (hF42 7).trans (G41 1 (by decide))
 have s53 : F38 9 = blkV (clB 1048576 b) := (hF42 9).trans (G41 3 (by decide))
 clear G41 hF42
 refine wl_store_blk blkT_block rfl rfl rfl s49 s52 B44 fun w54 B55 k56 => ?_
 have B57 := B45.all k56 (ap16 p9 rfl)
 have B58 := B46.all k56 (ap26 p19 rfl)
 have K59 := K47.trans k56 (Grew.ok (S := fun _ => False) gr7 noB_le)
 refine wl_store_blk blkT_block rfl rfl rfl s50 s53 B57 fun w60 B61 k62 => ?_
 have B63 := B55.all k62 (ap16.symm p1 rfl)
 have B64 := B58.all k62 (ap27 p19 rfl)
 have K65 := K59.trans k62 (Grew.ok (S := fun _ => False) gr15 noB_le)
 refine wl_nil fun F66 hF67 => ?_
 obtain ⟨s68, s69, s70, s71⟩ := t4 hF67 23 s48 2 s49 3 s50 4 s51
 clear hF67
 refine then_normal (wq_seq (wq_seq (wq_region (wl_v (iv 0) rfl rfl (y_mov rfl rfl rr) (wl_nil fun F72 hF73 => ?_)))))
 obtain ⟨s74, s75, s76, s77⟩ := t4 hF73 23 s68 2 s69 3 s70 4 s71
 have s78 : F72 10 = iv 0 := (hF73 10).trans rfl
 clear hF73
 refine then_normal (wq_block (wq_loop (fun nn FF ww => ∃ (k : Nat), (k ≤ 16) ∧ nn = 16 - k ∧ FF 2 = pt p1 0 ∧ FF 3 = pt p9 0 ∧ FF 4 = pt p19 0 ∧ FF 23 = undef ∧ FF 10 = iv ((k : Nat) : Int) ∧ Kept (fun _ => False) w0 ww ∧ Blk ww p1 69 (upto k (clB 1048576 a) (moreB a b)) ∧ Blk ww p9 69 (clB 1048576 b) ∧ Blk ww p19 69 (fun _ => 0)) (16 - 0) ⟨0, by omega, rfl, s75, s76, s77, s74, s78, K65, B63.first, B61, B64⟩ ?_))
 rintro n82 F79 w80 ⟨k, i83, hn82, s84, s85, s86, s87, s88, K81, B89, B90, B91⟩
 refine wq_seq (wq_region (wl_v (.bool (decide (((k : Nat) : Int) < 16))) rfl rfl (y_lss rfl s88 rfl rfl rr) (wl_nil fun F92 hF93 => ?_)))
 obtain ⟨s94, s95, s96, s97, s98⟩ := t5 hF93 2 s84 3 s85 4 s86 23 s87 10 s88
 have s99 : F92 11 = .bool (decide (((k : Nat) : Int) < 16)) := (hF93 11).trans rfl
 clear hF93
 refine then_normal (wq_seq ?_)
 refine wq_cond s99 (fun c100 => ?_) (fun c100 => ?_)
 ·replace c100 := of_decide_eq_true c100
  refine wq_skip (then_normal (wq_seq (wq_block (wq_seq (wq_region (wl_mv rfl rfl rfl s98 (wl_v (iv ((k : Nat) : Int)) rfl rfl (y_asg rfl rfl rr) (wl_nil fun F101 hF102 => ?_))))))))
  obtain ⟨s103, s104, s105, s106, s107⟩ := t5 hF102 2 s94 3 s95 4 s96 23 s97 10 s98
  have s108 : F101 5 = iv ((k : Nat) : Int) := (hF102 5).trans rfl
  clear hF102
  refine then_normal ?_
  have h1 := clB_le a k
  have h2 := clB_le b k
  refine wq_tail 8 [some 13, some 14, some 15, some 16, some 17, some 18, some 19, some 20] [Pd.eq (iv ((k : Nat) : Int)), Pd.eq (.pointer (some ⟨p1, k, none⟩)), Pd.eq (iv (clB 1048576 a k)), Pd.eq (iv ((k : Nat) : Int)), Pd.eq (.pointer (some ⟨p9, k, none⟩)), Pd.eq (iv ((clB 1048576 b) k)), Pd.eq (iv ((clB 1048576 a k) + ((clB 1048576 b) k))), Pd.eq (.pointer (some ⟨p1, k, none⟩))] (by kernel_rfl) (by kernel_rfl) (by kernel_rfl) ?_ ?_
  ·refine stepsF_cons ?_ ?_
   ·refine StepF.one rfl fun F_ w_ hR hout hD => ?_
    exact (y_mov rfl ((hout 5 rfl (by decide)).trans s108) ⟨rfl, Kept.refl _ _⟩)
   refine stepsF_cons ?_ ?_
   ·refine StepF.one rfl fun F_ w_ hR hout hD => ?_
    have g13 : F_ 13 = iv ((k : Nat) : Int) := (hD.get 0 rfl rfl rfl)
    exact (y_atR k (s := 1) rfl ((hout 2 rfl (by decide)).trans s103) g13 (by omega) Tryz.underlying69 (by omega) (by kernel_rfl) (by omega) ⟨rfl, Kept.refl _ _⟩)
   refine stepsF_cons ?_ ?_
   ·refine StepF.one rfl fun F_ w_ hR hout hD => ?_
    have g14 : F_ 14 = .pointer (some ⟨p1, k, none⟩) := (hD.get 0 rfl rfl rfl)
    exact (y_ldR rfl g14 Tryz.underlying3 (((B89.all hR id).cell (by omega)).trans (some_int (upto_at k _ _))) ⟨rfl, Kept.refl _ _⟩)
   refine stepsF_cons ?_ ?_
   ·refine StepF.one rfl fun F_ w_ hR hout hD => ?_
    exact (y_mov rfl ((hout 5 rfl (by decide)).trans s108) ⟨rfl, Kept.refl _ _⟩)
   refine stepsF_cons ?_ ?_
   ·refine StepF.one rfl fun F_ w_ hR hout hD => ?_
    have g16 : F_ 16 = iv ((k : Nat) : Int) := (hD.get 0 rfl rfl rfl)
    exact (y_atR k (s := 1) rfl ((hout 3 rfl (by decide)).trans s104) g16 (by omega) Tryz.underlying69 (by omega) (by kernel_rfl) (by omega) ⟨rfl, Kept.refl _ _⟩)
   refine stepsF_cons ?_ ?_
   ·refine StepF.one rfl fun F_ w_ hR hout hD => ?_
    have g17 : F_ 17 = .pointer (some ⟨p9, k, none⟩) := (hD.get 0 rfl rfl rfl)
    exact (y_ldR rfl g17 Tryz.underlying3 ((B90.all hR id).cell (by omega)) ⟨rfl, Kept.refl _ _⟩)
   refine stepsF_cons ?_ ?_
   ·refine StepF.one rfl fun F_ w_ hR hout hD => ?_
    have g15 : F_ 15 = iv (clB 1048576 a k) := (hD.get 0 rfl rfl rfl)
    have g18 : F_ 18 = iv ((clB 1048576 b) k) := (hD.get 1 rfl rfl rfl)
    exact (y_add rfl g15 g18 (i64_i rfl (by omega)) ⟨rfl, Kept.refl _ _⟩)
   refine stepsF_cons ?_ ?_
   ·refine StepF.one rfl fun F_ w_ hR hout hD => ?_
    have g13 : F_ 13 = iv ((k : Nat) : Int) := (hD.get 0 rfl rfl rfl)
    exact (y_atR k (s := 1) rfl ((hout 2 rfl (by decide)).trans s103) g13 (by omega) Tryz.underlying69 (by omega) (by kernel_rfl) (by omega) ⟨rfl, Kept.refl _ _⟩)
   exact stepsF_nil
  intro v109 F110 w111 k112 G113 hF114
  have B116 := B89.all k112 id
  have B117 := B90.all k112 id
  have B118 := B91.all k112 id
  have K119 := K81.tr k112
  obtain ⟨s120, s121, s122, s123, s124⟩ := t5 hF114 2 s103 3 s104 4 s105 23 s106 10 s107
  have s125 : F110 19 = iv ((clB 1048576 a k) + ((clB 1048576 b) k)) := (hF114 19).trans (G113 6 (by decide))
  have s126 : F110 20 = .pointer (some ⟨p1, k, none⟩) := (hF114 20).trans (G113 7 (by decide))
  clear G113 hF114
  refine wl_set_blk rfl rfl rfl s126 s125 B116 (by omega) (by kernel_rfl) fun w127 B128 k129 => ?_
  have B130 := B117.all k129 (ap16 p9 rfl)
  have B131 := B118.all k129 (ap26 p19 rfl)
  have K132 := K119.trans k129 (Grew.ok (S := fun _ => False) gr7 noB_le)
  refine wl_nil fun F133 hF134 => ?_
  obtain ⟨s135, s136, s137, s138, s139⟩ := t5 hF134 2 s120 3 s121 4 s122 23 s123 10 s124
  clear hF134
  refine in_normal (then_normal (wq_region (wl_v (iv ((k + 1 : Nat) : Int)) rfl rfl (y_add rfl s139 rfl (i64_n (by omega) (by omega)) rr) (wl_v (iv ((k + 1 : Nat) : Int)) rfl rfl (y_mov rfl rfl rr) (wl_nil fun F140 hF141 => ?_)))))
  obtain ⟨s142, s143, s144, s145⟩ := t4 hF141 2 s135 3 s136 4 s137 23 s138
  have s146 : F140 10 = iv ((k + 1 : Nat) : Int) := (hF141 10).trans rfl
  clear hF141
  exact then_normal ⟨(16 - (k + 1)), by omega, k + 1, by omega, rfl, s142, s143, s144, s145, s146, K132, (B128.next rfl), B130, B131⟩
 ·replace c100 := of_decide_eq_false c100
  refine wq_exit (then_exit (then_exit ?_))
  have l147 : 16 = k := by omega
  subst l147
  have B148 : Blk w80 p1 69 (moreB a b) := (B89.last)
  refine in_here (then_normal (wq_seq (wq_region (wl_v (blkV (moreB a b)) rfl rfl (y_load_blk blkT_block rfl s94 B148 rr) (wl_store_blk blkT_block rfl rfl rfl s96 rfl B91 fun w149 B150 k151 => ?_)))))
  have K154 := K81.trans k151 (Grew.ok (S := fun _ => False) gr25 noB_le)
  refine wl_nil fun F155 hF156 => ?_
  obtain ⟨s157, s158⟩ := t2 hF156 4 s96 23 s97
  clear hF156
  refine then_normal (wq_ret ?_)
  exact end_blk blkT_block s158 rfl rfl s157 B150 ⟨rfl, K154⟩
end Go.Proofs.YtknjpdcpmpfklaaGreatDoor
set_option maxRecDepth 100000
namespace Go.Proofs.YtknjpdcpmpfklaaGreatDoor
def stl : List Int := [1, 2, 3, 4, 5, 6, 8, 10, 12, 16, 20, 24, 32, 40, 48, 64, 80, 96, 128, 160, 192]
def stp (q : Int) : Int := if 0 ≤ q ∧ q ≤ 20 then stl.getD q.toNat 0 else 0
def ern (q : Int) : Int := if 0 ≤ q ∧ q ≤ 20 then 0 else 50
theorem ern_ok {q : Int} (h : 0 ≤ q ∧ q ≤ 20) : ern q = 0 := if_pos h
theorem ern_no {q : Int} (h : ¬ (0 ≤ q ∧ q ≤ 20)) : ern q = 50 := if_neg h
theorem stp_ok {q : Int} (h : 0 ≤ q ∧ q ≤ 20) : stp q = stl.getD q.toNat 0 := if_pos h
theorem stp_no {q : Int} (h : ¬ (0 ≤ q ∧ q ≤ 20)) : stp q = 0 := if_neg h
theorem ern_iff {q : Int} (h : ern q = 0) : 0 ≤ q ∧ q ≤ 20 := by
  by_cases c : 0 ≤ q ∧ q ≤ 20
  · exact c
  · rw [ern_no c] at h; omega
theorem stl_le : ∀ k, k < 21 → 1 ≤ stl.getD k 0 ∧ stl.getD k 0 ≤ 192 := by decide
theorem stp_le {q : Int} (h : ern q = 0) : 1 ≤ stp q ∧ stp q ≤ 192 := by
  have h1 := ern_iff h
  rw [stp_ok h1]
  exact stl_le _ (by omega)
def mulF (n s : Int) : Int := n * s
theorem mul_in {n s : Int} (hn : -1048576 ≤ n ∧ n ≤ 1048576) (hs : 1 ≤ s ∧ s ≤ 192) : -201326592 ≤ mulF n s ∧ mulF n s ≤ 201326592 := by
  unfold mulF
  have h1 : n * s ≤ 1048576 * s := Int.mul_le_mul_of_nonneg_right hn.2 (by omega)
  have h2 : -1048576 * s ≤ n * s := Int.mul_le_mul_of_nonneg_right hn.1 (by omega)
  omega
def eachB (g : Int → Int → Int) (b : Nat → Int) (q : Int) : Nat → Int := if ern q = 0 then fun i => g (cl 1048576 (b i)) (stp q) else fun _ => 0
def upB (b : Nat → Int) (q : Int) : Nat → Int := eachB mulF b q
theorem each_ok {g : Int → Int → Int} {b : Nat → Int} {q : Int} (h : ern q = 0) : eachB g b q = fun i => g (cl 1048576 (b i)) (stp q) := if_pos h
theorem each_no {g : Int → Int → Int} {b : Nat → Int} {q : Int} (h : ¬ ern q = 0) : eachB g b q = fun _ => 0 := if_neg h
theorem up_at {b : Nat → Int} {q : Int} (h : ern q = 0) (i : Nat) : upB b q i = cl 1048576 (b i) * stp q := by unfold upB; rw [each_ok h]; rfl
theorem ern_nat {k : Nat} (h : k < 21) : ern (k : Int) = 0 := ern_ok (by omega)
end Go.Proofs.YtknjpdcpmpfklaaGreatDoor
set_option maxRecDepth 100000
namespace Go.Proofs.YtknjpdcpmpfklaaGreatDoor
open Go.RowKit
def Arr (w : World) (p : Nat) (t : TypeId) (n : Nat) (b : Nat → Int) : Prop := w.heap[p]? = some (.cells (arrL n b).toArray t (0, 0))
def ArrT (t : TypeId) (n : Nat) : Prop := Tryz.prog.underlying t = some (.array n 3) ∧ (Tryz.prog.info? t).map (·.size) = some n ∧ ∀ w, (zeroValue t).run Tryz.prog w = .ok (.agg (arrL n (fun _ => 0)).toArray) w
theorem ArrT.of {t : TypeId} {n : Nat} (hu : Tryz.prog.underlying t = some (.array n 3)) (hi : (Tryz.prog.info? t).map (fun i => (i.zero, i.size)) = some (some (.agg (Array.replicate n (.int .i64 0))), n)) : ArrT t n :=
  ⟨hu, (zero_of_info hi).2, by rw [arrL_zero]; exact (zero_of_info hi).1⟩
theorem ArrT.size {t : TypeId} {n : Nat} (h : ArrT t n) (b : Nat → Int) : (Tryz.prog.info? t).map (·.size) = some (arrL n b).toArray.size := by rw [List.size_toArray, arrL_length]; exact h.2.1
section
variable {w w' : World} {p n : Nat} {t : TypeId} {b c : Nat → Int}
theorem Arr.all {S : Nat → Prop} (h : Arr w p t n b) (k : Kept S w w') (hn : ¬ S p) : Arr w' p t n b := k.at h hn
theorem Arr.congr (h : Arr w p t n b) (e : ∀ i, i < n → b i = c i) : Arr w p t n c := by unfold Arr at *; rw [← arrL_congr e]; exact h
theorem Arr.cell (h : Arr w p t n b) {i : Nat} (hi : i < n) : w.cell? ⟨p, i, none⟩ = some (.int .i64 (b i)) := by
  rw [cell_of_heap h, List.getElem?_toArray]; exact arrL_at hi
theorem Arr.free (h : Arr w p t n b) (i : Nat) : w.frozen? ⟨p, i, none⟩ = false := frozen_of_heap h
theorem Arr.lt (h : Arr w p t n b) : p < w.heap.size := lt_of_heap h
theorem Arr.set (h : Arr w p t n b) (k : Nat) (x : Int) : Arr (w.setCell ⟨p, k, none⟩ (.int .i64 x)) p t n (upd b k x) := by
  unfold Arr; rw [heap_setCell_same _ _ _ _ h, arrL_set]
theorem Arr.new (w : World) (t : TypeId) (n : Nat) (b : Nat → Int) : Arr (w.alloc (.cells (arrL n b).toArray t)) w.heap.size t n b := heap_alloc_new w _
end
section
variable {ro : Option Nat} {P : Program} {N : Nat} {Q : (Exit → (Nat → Value) → World → Prop)} {F : Nat → Value} {w : World} {n : Nat}
theorem wl_box_arr {ops : Array Oper} {o : Oper} {rest : List Oper} {t : TypeId} {x : Operand} {b : Nat → Int} (hg : o.guard = none) (hd : fits N o.dst = true) (ho : o.op = .box t x) (hx : ev (cutF N F) x = .agg (arrL n b).toArray)
    (h : ∀ p w', p = w.heap.size → Arr w' p t n b → Kept (fun _ => False) w w' → wl ro P N ops Q rest (putF F o.dst (.pointer (some ⟨p, 0, none⟩))) w') : wl ro P N ops Q (o :: rest) F w :=
  wl_op hg hd (y_of (v := .pointer (some ⟨w.heap.size, 0, none⟩)) (w' := w.alloc (.cells (arrL n b).toArray t)) (by simp [execOp, ho, hx, go_sem]) (h _ _ rfl (Arr.new w t n b) ((Kept.refl _ _).alloc _)))
theorem wl_alloc_arr {ops : Array Oper} {o : Oper} {rest : List Oper} {t : TypeId} (hg : o.guard = none) (hd : fits N o.dst = true) (ho : o.op = .alloc t) (hz : ∀ w, (zeroValue t).run P w = .ok (.agg (arrL n (fun _ => 0)).toArray) w)
    (h : ∀ p w', p = w.heap.size → Arr w' p t n (fun _ => 0) → Kept (fun _ => False) w w' → wl ro P N ops Q rest (putF F o.dst (.pointer (some ⟨p, 0, none⟩))) w') : wl ro P N ops Q (o :: rest) F w :=
  wl_op hg hd (y_of (v := .pointer (some ⟨w.heap.size, 0, none⟩)) (w' := w.alloc (.cells (arrL n (fun _ => 0)).toArray t)) (by simp [execOp, ho, hz, go_sem]) (h _ _ rfl (Arr.new w t n _) ((Kept.refl _ _).alloc _)))
end
section
variable {ro : Option Nat} {N : Nat} {Q : (Exit → (Nat → Value) → World → Prop)} {F : Nat → Value} {w : World} {ρ : Operand → Value} {o : Oper} {R : Value → World → Prop} {n : Nat}
theorem y_load_arr {ty t : TypeId} {x : Operand} {p : Nat} {b : Nat → Int} (hT : ArrT ty n) (ho : o.op = .load ty x) (hx : ρ x = .pointer (some ⟨p, 0, none⟩)) (hB : Arr w p t n b) (h : R (.agg (arrL n b).toArray) w) : Yields Tryz.prog ρ o w R :=
  y_load_row ho p hx _ t (0, 0) _ hB hT.1 rfl (hT.size b) h
theorem wl_store_arr {ops : Array Oper} {rest : List Oper} {ty t : TypeId} {x y : Operand} {p : Nat} {b c : Nat → Int} (hT : ArrT ty n) (hg : o.guard = none) (hdn : o.dst = none) (ho : o.op = .store ty x y) (hx : ev (cutF N F) x = .pointer (some ⟨p, 0, none⟩)) (hy : ev (cutF N F) y = .agg (arrL n c).toArray) (hB : Arr w p t n b)
    (h : ∀ w', Arr w' p t n c → Kept (fun k => k = p) w w' → wl ro Tryz.prog N ops Q rest F w') : wl ro Tryz.prog N ops Q (o :: rest) F w := by
  refine wl_op hg (by rw [hdn]; rfl) (y_store_row ty x y ho p _ (arrL n c).toArray t hx hy hB (by rw [List.size_toArray, List.size_toArray, arrL_length, arrL_length]) (hT.size c) (all_oneCell_toArray (arrL_one _ _)) fun w' hw hk => ?_)
  rw [hdn]
  exact h w' hw hk
theorem wl_set_arr {ops : Array Oper} {rest : List Oper} {ty t : TypeId} {x y : Operand} {p k : Nat} {m : Int} {b : Nat → Int} (hg : o.guard = none) (hdn : o.dst = none) (ho : o.op = .store ty x y) (hx : ev (cutF N F) x = .pointer (some ⟨p, k, none⟩)) (hy : ev (cutF N F) y = .int .i64 m) (hB : Arr w p t n b) (hk : k < n)
    (hs : (Tryz.prog.info? ty).map (·.size) = some 1)
    (h : ∀ w', Arr w' p t n (upd b k m) → Kept (fun k => k = p) w w' → wl ro Tryz.prog N ops Q rest F w') : wl ro Tryz.prog N ops Q (o :: rest) F w := by
  have hc := hB.cell hk
  have hf := hB.free k
  cases hq : Tryz.prog.info? ty with
  | none => simp [hq] at hs
  | some i =>
    have hs' : i.size = 1 := by simpa [hq] using hs
    refine wl_op hg (by rw [hdn]; rfl) ?_
    have e : (execOp (ev (cutF N F)) o).run Tryz.prog w = .ok .skip (w.setCell ⟨p, k, none⟩ (.int .i64 m)) ∨ (execOp (ev (cutF N F)) o).run Tryz.prog w = .ok (.value undef) (w.setCell ⟨p, k, none⟩ (.int .i64 m)) := by
      simp [execOp, ho, hx, hy, Instr.storeAt, Instr.sureAddr, storeVar, sizeOf, typeInfo, hq, hs', Value.cells, hc, hf, go_sem]
    unfold Yields
    rw [hdn]
    rcases e with e | e <;> rw [e] <;> exact h _ (hB.set k m) ((Kept.refl (fun k => k = p) w).setCell ⟨p, k, none⟩ (fun _ => rfl) _)
end
section
variable {ro : Option Nat} {P : Program} {ρ : Operand → Value} {o : Oper} {w : World} {R : Value → World → Prop}
theorem y_buildL {t : TypeId} {l : List (Nat × Operand)} {l' : List (Nat × Value)} {cells : Array Value} {v : Value} (ho : o.op = .build t l.toArray) (hl : l.map (fun p => (p.1, ρ p.2)) = l') (hc : P.built t l' = some cells) (hv : .agg cells = v) (h : R v w) : Yields P ρ o w R := by
  subst hl
  exact y_buildR ho (by rw [← hc]; congr 1; simp) hv h
theorem bpN : ([] : List (Nat × Operand)).map (fun p => (p.1, ρ p.2)) = [] := rfl
theorem bpC {i : Nat} {x : Operand} {v : Value} {xs : List (Nat × Operand)} {vs : List (Nat × Value)} (h : ρ x = v) (h2 : xs.map (fun p => (p.1, ρ p.2)) = vs) : ((i, x) :: xs).map (fun p => (p.1, ρ p.2)) = (i, v) :: vs := by simp [h, ← h2]
end
end Go.Proofs.YtknjpdcpmpfklaaGreatDoor
set_option maxRecDepth 100000
namespace Go.Proofs.YtknjpdcpmpfklaaGreatDoor
open Go.RowKit
def StepsAt (w : World) : Prop := 3 < w.heap.size ∧ ∀ i, i < 21 → w.cell? ⟨3, i, none⟩ = some (.int .i64 (stl.getD i 0))
theorem StepsAt.all {w w' : World} (h : StepsAt w) (k : Kept (fun _ => False) w w') : StepsAt w' :=
  ⟨Nat.lt_of_lt_of_le h.1 k.size, fun i hi => (k.cell0 h.1 id).trans (h.2 i hi)⟩
theorem StepsAt.at {w : World} (h : StepsAt w) {q : Int} (hq : 0 ≤ q ∧ q ≤ 20) : w.cell? ⟨3, q.toNat, none⟩ = some (.int .i64 (stp q)) := by
  rw [stp_ok hq, ← h.2 q.toNat (by omega)]
def FnIs (f : Nat) (g : Int → Int → Int) : Prop := (∀ args w, (callFunc f args).run Tryz.prog w = .ok (.enter f args) w) ∧
  ∀ (n s : Int) (w0 : World), -1048576 ≤ n ∧ n ≤ 1048576 → 1 ≤ s ∧ s ≤ 192 → Calls Tryz.prog f #[.int .i64 n, .int .i64 s] w0 fun e w' => e = .returned (.int .i64 (g n s)) ∧ Kept (fun _ => False) w0 w'
theorem times_any (n s : Int) (w0 : World) (hn : -1048576 ≤ n ∧ n ≤ 1048576) (hs : 1 ≤ s ∧ s ≤ 192) :
  Calls Tryz.prog 145 #[.int .i64 (n), .int .i64 (s)] w0 fun e w' => e = .returned (.int .i64 (mulF n s)) ∧ Kept (fun _ => False) w0 w' := by
 refine calls_wq (args := [iv n, iv s]) 8 Tryz.func145 rfl rfl (Nat.le_of_ble_eq_true rfl) ?_
 have K0 := Kept.refl (fun _ => False) w0
 have hm := mul_in hn hs
 refine wq_seq (wq_region (wl_v (iv 0) rfl rfl (y_asg rfl rfl rr) (wl_nil fun F1 hF2 => ?_)))
 have s3 : F1 0 = iv n := (hF2 0).trans rfl
 have s4 : F1 1 = iv s := (hF2 1).trans rfl
 have s5 : F1 8 = undef := (hF2 8).trans rfl
 clear hF2
 refine then_normal (wq_seq (wq_region (wl_mv rfl rfl rfl s3 (wl_mv rfl rfl rfl s4 (wl_v (iv (mulF n s)) rfl rfl (y_mul rfl rfl rfl (i64_i (y := mulF n s) rfl (by omega)) rr) (wl_v (iv (mulF n s)) rfl rfl (y_asg rfl rfl rr) (wl_nil fun F6 hF7 => ?_)))))))
 have s8 := (hF7 8).trans s5
 have s9 : F6 4 = iv (mulF n s) := (hF7 4).trans rfl
 clear hF7
 refine then_normal (wq_ret ?_)
 exact end_tmp (v := iv (mulF n s)) s8 rfl rfl s9 ⟨rfl, K0⟩
theorem times_fn : FnIs 145 mulF := ⟨fun _ _ => by kernel_rfl, fun n s w0 hn hs => times_any n s w0 hn hs⟩
theorem qclamped_any (n : Int) (w0 : World) :
  Calls Tryz.prog 167 #[.int .i64 (n)] w0 fun e w' => e = .returned (.int .i64 (cl 1048576 n)) ∧ Kept (fun _ => False) w0 w' := by
 refine calls_wq (args := [iv n]) 6 Tryz.func167 rfl rfl (Nat.le_of_ble_eq_true rfl) ?_
 have K0 := Kept.refl (fun _ => False) w0
 refine wq_seq (wq_region (wl_v (iv 0) rfl rfl (y_asg rfl rfl rr) (wl_nil fun F1 hF2 => ?_)))
 have s3 : F1 0 = iv n := (hF2 0).trans rfl
 have s4 : F1 6 = undef := (hF2 6).trans rfl
 clear hF2
 refine then_normal (wq_seq (wq_region (wl_mv rfl rfl rfl s3 (wl_v (iv (min n 1048576)) rfl rfl (y_minR rfl rfl rfl rfl rr) (wl_v (iv (cl 1048576 n)) rfl rfl (y_maxR rfl rfl rfl (by unfold cl; omega) rr) (wl_v (iv (cl 1048576 n)) rfl rfl (y_asg rfl rfl rr) (wl_nil fun F5 hF6 => ?_)))))))
 have s7 := (hF6 6).trans s4
 have s8 : F5 2 = iv (cl 1048576 n) := (hF6 2).trans rfl
 clear hF6
 refine then_normal (wq_ret ?_)
 exact end_tmp (v := iv (cl 1048576 n)) s7 rfl rfl s8 ⟨rfl, K0⟩
theorem step_any (q : Int) (w0 : World) (hs : StepsAt w0) :
  Calls Tryz.prog 166 #[.int .i64 (q)] w0 fun e w' => e = .returned (.tuple #[.int .i64 (stp q), .int .i64 (ern q)]) ∧ Kept (fun _ => False) w0 w' := by
 refine calls_wq (args := [iv q]) 13 Tryz.func166 rfl rfl (Nat.le_of_ble_eq_true rfl) ?_
 have K0 := Kept.refl (fun _ => False) w0
 refine wq_seq (wq_region (wl_v (iv 0) rfl rfl (y_asg rfl rfl rr) (wl_v (iv 0) rfl rfl (y_asg rfl rfl rr) (wl_nil fun F1 hF2 => ?_))))
 have s3 : F1 0 = iv q := (hF2 0).trans rfl
 have s4 : F1 13 = undef := (hF2 13).trans rfl
 clear hF2
 refine then_normal (wq_seq (wq_block (wq_seq (wq_block (wq_block (wq_seq (wq_seq (wq_seq (wq_region (wl_mv rfl rfl rfl s3 (wl_v (.bool (decide (q < 0))) rfl rfl (y_lss rfl rfl rfl rfl rr) ?_)))))))))))
 refine wl_v (.bool (decide (q < 0))) rfl rfl (y_asg rfl rfl rr) (wl_nil fun F5 hF6 => ?_)
 obtain ⟨s7, s8⟩ := t2 hF6 0 s3 13 s4
 have s9 : F5 4 = .bool (decide (q < 0)) := (hF6 4).trans rfl
 clear hF6
 refine then_normal ?_
 refine wq_cond s9 (fun c10 => ?_) (fun c10 => ?_)
 ·replace c10 := of_decide_eq_true c10
  refine wq_exit (then_exit (then_exit (in_here (in_normal (then_normal (wq_seq (wq_seq (wq_region (wl_v (iv 0) rfl rfl (y_asg rfl rfl rr) (wl_v (iv 50) rfl rfl (y_asg rfl rfl rr) (wl_nil fun F11 hF12 => ?_)))))))))))
  have s13 := (hF12 13).trans s8
  have s14 : F11 2 = iv 0 := (hF12 2).trans rfl
  have s15 : F11 3 = iv 50 := (hF12 3).trans rfl
  clear hF12
  refine then_normal (wq_ret (then_ret (in_ret (then_ret ?_))))
  exact end_2 s13 rfl (res_tmp (v := iv 0) rfl s14) (res_tmp (v := iv 50) rfl s15) ⟨(by first | (rw [ern_ok (by omega)]) | (rw [stp_no (by omega), ern_no (by omega)])), K0⟩
 ·replace c10 := of_decide_eq_false c10
  refine wq_skip (then_normal (wq_seq (wq_region (wl_mv rfl rfl rfl s7 (wl_v (.bool (decide (20 < q))) rfl rfl (y_gtr rfl rfl rfl rfl rr) (wl_v (.bool (decide (20 < q))) rfl rfl (y_asg rfl rfl rr) (wl_nil fun F16 hF17 => ?_)))))))
  obtain ⟨s18, s19⟩ := t2 hF17 0 s7 13 s8
  have s20 : F16 7 = .bool (decide (20 < q)) := (hF17 7).trans rfl
  clear hF17
  refine then_normal ?_
  refine wq_cond s20 (fun c21 => ?_) (fun c21 => ?_)
  ·replace c21 := of_decide_eq_true c21
   refine wq_exit (then_exit (in_other (by decide) (in_here (then_normal (wq_seq (wq_seq (wq_region (wl_v (iv 0) rfl rfl (y_asg rfl rfl rr) (wl_v (iv 50) rfl rfl (y_asg rfl rfl rr) (wl_nil fun F22 hF23 => ?_))))))))))
   have s24 := (hF23 13).trans s19
   have s25 : F22 2 = iv 0 := (hF23 2).trans rfl
   have s26 : F22 3 = iv 50 := (hF23 3).trans rfl
   clear hF23
   refine then_normal (wq_ret (then_ret (in_ret (then_ret ?_))))
   exact end_2 s24 rfl (res_tmp (v := iv 0) rfl s25) (res_tmp (v := iv 50) rfl s26) ⟨(by first | (rw [ern_ok (by omega)]) | (rw [stp_no (by omega), ern_no (by omega)])), K0⟩
  ·replace c21 := of_decide_eq_false c21
   refine wq_skip (then_normal (wq_exit (in_other (by decide) (in_other (by decide) (then_exit (in_here (then_normal (wq_seq (wq_region (wl_mv rfl rfl rfl s18 (wl_v (.pointer (some ⟨3, q.toNat, none⟩)) rfl rfl (y_atR (q.toNat) (s := 1) rfl rfl rfl (by omega) Tryz.underlying175 (by omega) (by kernel_rfl) (by omega) rr) ?_)))))))))))
   refine wl_v (iv (stp q)) rfl rfl (y_ldR rfl rfl Tryz.underlying3 ((hs.all K0).at (q := q) (by omega)) rr) (wl_v (iv (stp q)) rfl rfl (y_asg rfl rfl rr) (wl_v (iv 0) rfl rfl (y_asg rfl rfl rr) (wl_nil fun F27 hF28 => ?_)))
   have s29 := (hF28 13).trans s19
   have s30 : F27 2 = iv (stp q) := (hF28 2).trans rfl
   have s31 : F27 3 = iv 0 := (hF28 3).trans rfl
   clear hF28
   refine then_normal (wq_ret ?_)
   exact end_2 s29 rfl (res_tmp (v := iv (stp q)) rfl s30) (res_tmp (v := iv 0) rfl s31) ⟨(by first | (rw [ern_ok (by omega)]) | (rw [stp_no (by omega), ern_no (by omega)])), K0⟩
theorem each_any (f : Nat) (g : Int → Int → Int) (b : Nat → Int) (q : Int) (w0 : World) (hs : StepsAt w0) (hf : FnIs f g) :
  Calls Tryz.prog 144 #[blkV (b), .int .i64 (q), .func (.func (f)) #[] #[]] w0 fun e w' => e = .returned (.tuple #[blkV (eachB g b q), .int .i64 (ern q)]) ∧ Kept (fun _ => False) w0 w' := by
 refine calls_wq (args := [blkV b, iv q, .func (.func f) #[] #[]]) 35 Tryz.func144 rfl rfl (Nat.le_of_ble_eq_true rfl) ?_
 have K0 := Kept.refl (fun _ => False) w0
 refine wq_seq (wq_region (wl_box_blk rfl rfl rfl rfl fun p1 w2 e5 B3 k4 => ?_))
 have g6 := onB_new (Nat.le_of_eq e5.symm)
 have gr7 : Grew w0 noB (onB p1) := Grew.new K0 g6
 clear e5 g6
 have K8 := K0.tr k4
 refine wl_alloc_blk rfl rfl rfl blkT_block.2.2 fun p9 w10 e13 B11 k12 => ?_
 have g14 := onB_new (Nat.le_of_eq e13.symm)
 have gr15 : Grew w0 noB (onB p9) := Grew.new K8 g14
 have ap16 : Apart (onB p9) (onB p1) := Apart.new g14 (onB_live B3.lt)
 clear e13 g14
 have B17 := B3.all k12 id
 have K18 := K8.tr k12
 refine wl_v (iv 0) rfl rfl (y_asg rfl rfl rr) (wl_nil fun F19 hF20 => ?_)
 have s21 : F19 1 = iv q := (hF20 1).trans rfl
 have s22 : F19 2 = .func (.func f) #[] #[] := (hF20 2).trans rfl
 have s23 : F19 35 = undef := (hF20 35).trans rfl
 have s24 : F19 3 = pt p1 0 := (hF20 3).trans rfl
 have s25 : F19 6 = pt p9 0 := (hF20 6).trans rfl
 clear hF20
 refine then_normal (wq_seq (wq_region (wl_mv rfl rfl rfl s21 (wl_cs rfl rfl rfl rfl rfl (fun _ _ => by kernel_rfl) (vsC rfl vsN) (step_any q  _ (hs.all K18)  ) fun w26 k27 => ?_))))
 have B28 := B17.all k27 id
 have B29 := B11.all k27 id
 have K30 := K18.tr k27
 refine wl_v (.tuple #[iv (stp q), iv (ern q)]) rfl rfl (y_mov rfl rfl rr) (wl_v (iv (stp q)) rfl rfl (y_ext rfl rfl rfl rr) (wl_v (iv (ern q)) rfl rfl (y_ext rfl rfl rfl rr) (wl_v (iv (stp q)) rfl rfl (y_asg rfl rfl rr) (wl_v (iv (ern q)) rfl rfl (y_asg rfl rfl rr) (wl_nil fun F31 hF32 => ?_)))))
 obtain ⟨s33, s34, s35, s36⟩ := t4 hF32 2 s22 35 s23 3 s24 6 s25
 have s37 : F31 8 = iv (stp q) := (hF32 8).trans rfl
 have s38 : F31 9 = iv (ern q) := (hF32 9).trans rfl
 clear hF32
 refine then_normal (wq_seq (wq_seq (wq_region (wl_mv rfl rfl rfl s38 (wl_v (.bool (decide ((ern q) ≠ 0))) rfl rfl (y_neqI rfl rfl rfl rfl rr) (wl_nil fun F39 hF40 => ?_))))))
 obtain ⟨s41, s42, s43, s44, s45, s46⟩ := t6 hF40 2 s33 35 s34 3 s35 6 s36 8 s37 9 s38
 have s47 : F39 18 = .bool (decide ((ern q) ≠ 0)) := (hF40 18).trans rfl
 clear hF40
 refine then_normal ?_
 refine wq_cond s47 (fun c48 => ?_) (fun c48 => ?_)
 ·replace c48 := of_decide_eq_true c48
  refine wq_seq (wq_region (wl_v (blkV (fun _ => 0)) rfl rfl (y_buildR (cells := (arrL 16 (fun _ => 0)).toArray) rfl (by kernel_rfl) rfl rr) (wl_mv rfl rfl rfl s46 (wl_store_blk blkT_block rfl rfl rfl s44 rfl B29 fun w49 B50 k51 => ?_))))
  have K53 := K30.trans k51 (Grew.ok (S := fun _ => False) gr15 noB_le)
  refine wl_v (iv (ern q)) rfl rfl (y_asg rfl rfl rr) (wl_nil fun F54 hF55 => ?_)
  obtain ⟨s56, s57⟩ := t2 hF55 35 s42 6 s44
  have s58 : F54 7 = iv (ern q) := (hF55 7).trans rfl
  clear hF55
  refine then_normal (wq_ret (then_ret ?_))
  exact end_2 s56 rfl (res_blk blkT_block rfl s57 B50) (res_tmp (v := iv (ern q)) rfl s58) ⟨(by first | (rw [each_no (by omega)]) | (rw [show ern q = 0 by omega])), K53⟩
 ·replace c48 := of_decide_eq_false c48
  refine wq_skip (then_normal (wq_seq (wq_seq (wq_region (wl_v (blkV b) rfl rfl (y_load_blk blkT_block rfl s43 B28 rr) (wl_v (iv 0) rfl rfl (y_mov rfl rfl rr) (wl_nil fun F59 hF60 => ?_)))))))
  obtain ⟨s61, s62, s63, s64, s65⟩ := t5 hF60 2 s41 35 s42 3 s43 6 s44 8 s45
  have s66 : F59 21 = blkV b := (hF60 21).trans rfl
  have s67 : F59 22 = iv 0 := (hF60 22).trans rfl
  clear hF60
  refine then_normal (wq_block (wq_loop (fun nn FF ww => ∃ (k : Nat), (k ≤ 16) ∧ nn = 16 - k ∧ FF 2 = .func (.func f) #[] #[] ∧ FF 3 = pt p1 0 ∧ FF 6 = pt p9 0 ∧ FF 8 = iv (stp q) ∧ FF 21 = blkV b ∧ FF 35 = undef ∧ FF 22 = iv ((k : Nat) : Int) ∧ Kept (fun _ => False) w0 ww ∧ Blk ww p1 69 (upto k b (eachB g b q)) ∧ Blk ww p9 69 (fun _ => 0)) (16 - 0) ⟨0, by omega, rfl, s61, s63, s64, s65, s66, s62, s67, K30, B28.first, B29⟩ ?_))
  rintro n71 F68 w69 ⟨k, i72, hn71, s73, s74, s75, s76, s77, s78, s79, K70, B80, B81⟩
  refine wq_seq (wq_region (wl_v (.bool (decide (((k : Nat) : Int) < 16))) rfl rfl (y_lss rfl s79 rfl rfl rr) (wl_nil fun F82 hF83 => ?_)))
  obtain ⟨s84, s85, s86, s87, s88, s89, s90⟩ := t7 hF83 2 s73 3 s74 6 s75 8 s76 21 s77 35 s78 22 s79
  have s91 : F82 23 = .bool (decide (((k : Nat) : Int) < 16)) := (hF83 23).trans rfl
  clear hF83
  refine then_normal (wq_seq ?_)
  refine wq_cond s91 (fun c92 => ?_) (fun c92 => ?_)
  ·replace c92 := of_decide_eq_true c92
   refine wq_skip (then_normal (wq_seq (wq_block (wq_seq (wq_region (wl_mv rfl rfl rfl s90 (wl_v (iv (b k)) rfl rfl (y_look k blkT_block rfl s88 s90 (by omega) rfl rr) (wl_v (iv ((k : Nat) : Int)) rfl rfl (y_asg rfl rfl rr) (wl_v (iv (b k)) rfl rfl (y_asg rfl rfl rr) (wl_nil fun F93 hF94 => ?_))))))))))
   obtain ⟨s95, s96, s97, s98, s99, s100, s101⟩ := t7 hF94 2 s84 3 s85 6 s86 8 s87 21 s88 35 s89 22 s90
   have s102 : F93 10 = iv ((k : Nat) : Int) := (hF94 10).trans rfl
   have s103 : F93 11 = iv (b k) := (hF94 11).trans rfl
   clear hF94
   refine then_normal ?_
   have hst := stp_le (q := q) (by omega)
   refine wq_region (wl_mv rfl rfl rfl s102 (wl_mv rfl rfl rfl s95 (wl_mv rfl rfl rfl s103 (wl_cs rfl rfl rfl rfl rfl (fun _ _ => by kernel_rfl) (vsC rfl vsN) (qclamped_any (b k)  _   ) fun w104 k105 => ?_))))
   have B106 := B80.all k105 id
   have B107 := B81.all k105 id
   have K108 := K70.tr k105
   refine wl_mv rfl rfl rfl s98 (wl_call (R := fun v_ w_ => v_ = iv (g (cl 1048576 (b k)) (stp q)) ∧ Kept (fun _ => False) w104 w_) rfl rfl (y_cv rfl rfl rfl rfl (hf.1) (vsC rfl (vsC rfl vsN)) (hf.2 _ _ _ (cl_le 1048576 _ (by omega)) (by omega)) (fun e_ w_ h_ => ⟨_, h_.1, rfl, h_.2⟩)) ?_)
   rintro _ w109 ⟨rfl, k110⟩
   have B111 := B106.all k110 id
   have B112 := B107.all k110 id
   have K113 := K108.tr k110
   refine wl_v (.pointer (some ⟨p1, k, none⟩)) rfl rfl (y_atR k (s := 1) rfl s96 rfl (by omega) Tryz.underlying69 (by omega) (by kernel_rfl) (by omega) rr) (wl_set_blk rfl rfl rfl rfl rfl B111 (by omega) (by kernel_rfl) fun w114 B115 k116 => ?_)
   have B117 := B112.all k116 (ap16 p9 rfl)
   have K118 := K113.trans k116 (Grew.ok (S := fun _ => False) gr7 noB_le)
   refine wl_nil fun F119 hF120 => ?_
   obtain ⟨s121, s122, s123, s124, s125, s126, s127⟩ := t7 hF120 2 s95 3 s96 6 s97 8 s98 21 s99 35 s100 22 s101
   clear hF120
   refine in_normal (then_normal (wq_region (wl_v (iv ((k + 1 : Nat) : Int)) rfl rfl (y_add rfl s127 rfl (i64_n (by omega) (by omega)) rr) (wl_v (iv ((k + 1 : Nat) : Int)) rfl rfl (y_mov rfl rfl rr) (wl_nil fun F128 hF129 => ?_)))))
   obtain ⟨s130, s131, s132, s133, s134, s135⟩ := t6 hF129 2 s121 3 s122 6 s123 8 s124 21 s125 35 s126
   have s136 : F128 22 = iv ((k + 1 : Nat) : Int) := (hF129 22).trans rfl
   clear hF129
   exact then_normal ⟨(16 - (k + 1)), by omega, k + 1, by omega, rfl, s130, s131, s132, s133, s134, s135, s136, K118, (B115.next (by rw [each_ok (by omega)])), B117⟩
  ·replace c92 := of_decide_eq_false c92
   refine wq_exit (then_exit (then_exit ?_))
   have l137 : 16 = k := by omega
   subst l137
   have B138 : Blk w69 p1 69 (eachB g b q) := (B80.last)
   refine in_here (then_normal (wq_seq (wq_region (wl_v (blkV (eachB g b q)) rfl rfl (y_load_blk blkT_block rfl s85 B138 rr) (wl_store_blk blkT_block rfl rfl rfl s86 rfl B81 fun w139 B140 k141 => ?_)))))
   have K143 := K70.trans k141 (Grew.ok (S := fun _ => False) gr15 noB_le)
   refine wl_v (iv 0) rfl rfl (y_asg rfl rfl rr) (wl_nil fun F144 hF145 => ?_)
   obtain ⟨s146, s147⟩ := t2 hF145 6 s86 35 s89
   have s148 : F144 7 = iv 0 := (hF145 7).trans rfl
   clear hF145
   refine then_normal (wq_ret ?_)
   exact end_2 s147 rfl (res_blk blkT_block rfl s146 B140) (res_tmp (v := iv 0) rfl s148) ⟨(by first | (rw [each_no (by omega)]) | (rw [show ern q = 0 by omega])), K143⟩
theorem up_any (b : Nat → Int) (q : Int) (w0 : World) (hs : StepsAt w0) :
  Calls Tryz.prog 113 #[blkV (b), .int .i64 (q)] w0 fun e w' => e = .returned (.tuple #[blkV (upB b q), .int .i64 (ern q)]) ∧ Kept (fun _ => False) w0 w' := by
 refine calls_wq (args := [blkV b, iv q]) 11 Tryz.func113 rfl rfl (Nat.le_of_ble_eq_true rfl) ?_
 have K0 := Kept.refl (fun _ => False) w0
 refine wq_seq (wq_region (wl_box_blk rfl rfl rfl rfl fun p1 w2 e5 B3 k4 => ?_))
 have g6 := onB_new (Nat.le_of_eq e5.symm)
 clear e5 g6
 have K8 := K0.tr k4
 refine wl_alloc_blk rfl rfl rfl blkT_block.2.2 fun p9 w10 e13 B11 k12 => ?_
 have g14 := onB_new (Nat.le_of_eq e13.symm)
 have gr15 : Grew w0 noB (onB p9) := Grew.new K8 g14
 clear e13 g14
 have B17 := B3.all k12 id
 have K18 := K8.tr k12
 refine wl_v (iv 0) rfl rfl (y_asg rfl rfl rr) (wl_nil fun F19 hF20 => ?_)
 have s21 : F19 1 = iv q := (hF20 1).trans rfl
 have s22 : F19 11 = undef := (hF20 11).trans rfl
 have s23 : F19 2 = pt p1 0 := (hF20 2).trans rfl
 have s24 : F19 4 = pt p9 0 := (hF20 4).trans rfl
 clear hF20
 refine then_normal (wq_seq (wq_region (wl_v (blkV b) rfl rfl (y_load_blk blkT_block rfl s23 B17 rr) (wl_mv rfl rfl rfl s21 (wl_cs rfl rfl rfl rfl rfl (fun _ _ => by kernel_rfl) (vsC rfl (vsC rfl (vsC rfl vsN))) (each_any _ mulF b q _ (hs.all K18) times_fn) fun w25 k26 => ?_)))))
 have B28 := B11.all k26 id
 have K29 := K18.tr k26
 refine wl_v (blkV (eachB mulF b q)) rfl rfl (y_ext rfl rfl rfl rr) (wl_v (iv (ern q)) rfl rfl (y_ext rfl rfl rfl rr) (wl_store_blk blkT_block rfl rfl rfl s24 rfl B28 fun w30 B31 k32 => ?_))
 have K34 := K29.trans k32 (Grew.ok (S := fun _ => False) gr15 noB_le)
 refine wl_v (iv (ern q)) rfl rfl (y_asg rfl rfl rr) (wl_nil fun F35 hF36 => ?_)
 obtain ⟨s37, s38⟩ := t2 hF36 11 s22 4 s24
 have s39 : F35 5 = iv (ern q) := (hF36 5).trans rfl
 clear hF36
 refine then_normal (wq_ret ?_)
 exact end_2 s37 rfl (res_blk blkT_block rfl s38 B31) (res_tmp (v := iv (ern q)) rfl s39) ⟨rfl, K34⟩
end Go.Proofs.YtknjpdcpmpfklaaGreatDoor
set_option maxRecDepth 100000
namespace Go.Proofs.YtknjpdcpmpfklaaGreatDoor
open Go.ChangeShapes Go.WideShapes Go.ChangeAt Go.RowKit
def litI {H : Type} (x : Int) : DataW H := .lit (.int .i64 x)
theorem Tryz.c1 : Tryz.prog.cellsOf 3 = 1 := by kernel_rfl
theorem ints_of {W : World} {f : Nat} {t : TypeId} {n : Nat} {l : List Int} {cs : List Value} {p : List MemPlace} (hu : Tryz.prog.underlying t = some (.array n 3)) (hc : Tryz.prog.cellsOf t = n)
    (hd : DataW.trod (fun _ => ()) Tryz.prog W 0 (fun _ => true) false f t cs = some (.agg (l.map litI), p)) : ∀ i, i < n → cs[i]? = some (.int .i64 (l.getD i 0)) := by
  obtain ⟨xs, m, rfl, hx, hl, hn, hel⟩ := DataW.trod_array hu hd
  rw [hc] at hl
  simp only [Prod.mk.injEq, DataW.agg.injEq] at hx
  intro i hi
  have h2 := hel i hi
  rw [Tryz.c1, Nat.mul_one, List.getElem?_eq_getElem (by omega)] at h2
  obtain ⟨z, hz, hdz, _⟩ := DataW.trod_int Tryz.underlying3 h2
  have h3 : cs[i]? = some (.int .i64 z) := by
    have := congrArg (·[0]?) hz
    simpa [List.getElem?_take, List.getElem?_drop] using this
  have e2 : (xs.map (·.1))[i]? = some (.lit (.int .i64 z)) := by
    rw [List.getElem?_map, List.getElem?_eq_getElem (by omega), hdz]; rfl
  rw [← hx.1, List.getElem?_map] at e2
  rw [h3, List.getD_eq_getElem?_getD]
  cases hq : l[i]? with
  | none => rw [hq] at e2; cases e2
  | some y =>
    rw [hq] at e2
    simp only [Option.map_some, Option.some.injEq, litI, DataW.lit.injEq, Lit.int.injEq, true_and] at e2
    subst e2; rfl
theorem rows_of {W : World} {f : Nat} {t r : TypeId} {n m : Nat} {l : List (List Int)} {cs : List Value} {p : List MemPlace} (hu : Tryz.prog.underlying t = some (.array n r)) (hr : Tryz.prog.underlying r = some (.array m 3)) (hcr : Tryz.prog.cellsOf r = m)
    (hd : DataW.trod (fun _ => ()) Tryz.prog W 0 (fun _ => true) false f t cs = some (.agg (l.map fun q => .agg (q.map litI)), p)) : ∀ u c, u < n → c < m → cs[u * m + c]? = some (.int .i64 ((l.getD u []).getD c 0)) := by
  obtain ⟨xs, k, rfl, hx, hl, hn, hel⟩ := DataW.trod_array hu hd
  simp only [Prod.mk.injEq, DataW.agg.injEq] at hx
  intro u c hu hc2
  have h1 := hel u hu
  rw [hcr, List.getElem?_eq_getElem (by omega)] at h1
  have e1 : (xs.map (·.1))[u]? = some xs[u].1 := by rw [List.getElem?_map, List.getElem?_eq_getElem (by omega)]; rfl
  rw [← hx.1, List.getElem?_map] at e1
  cases hq : l[u]? with
  | none => rw [hq] at e1; cases e1
  | some y =>
    rw [hq] at e1
    simp only [Option.map_some, Option.some.injEq] at e1
    have h2 : DataW.trod (fun _ => ()) Tryz.prog W 0 (fun _ => true) false k r ((cs.drop (u * m)).take m) = some (.agg (y.map litI), xs[u].2) := by
      rw [h1, e1]
    have h3 := ints_of hr hcr h2 c hc2
    rw [List.getElem?_take, if_pos hc2, List.getElem?_drop] at h3
    rw [h3, show l.getD u [] = y by rw [List.getD_eq_getElem?_getD, hq]; rfl]
end Go.Proofs.YtknjpdcpmpfklaaGreatDoor
set_option maxRecDepth 100000
namespace Go.Proofs.YtknjpdcpmpfklaaGreatDoor
open Go.ChangeShapes Go.WideShapes Go.ChangeAt Go.RowKit
theorem Tryz.gSteps : Tryz.prog.globalNamed "clapboard/quant.steps" = some 3 := by kernel_rfl
theorem Tryz.tSteps : (Tryz.prog.globals[3]?).map (·.type) = some 175 := by kernel_rfl
theorem Tryz.gWaves : Tryz.prog.globalNamed "clapboard/wave.waves" = some 4 := by kernel_rfl
theorem Tryz.tWaves : (Tryz.prog.globals[4]?).map (·.type) = some 179 := by kernel_rfl
theorem Tryz.c21 : Tryz.prog.cellsOf 175 = 21 := by kernel_rfl
theorem Tryz.c4 : Tryz.prog.cellsOf 171 = 4 := by kernel_rfl
theorem steps_at {W : World} {f : Nat} {cs : Array Value} {p : List MemPlace} (hv : World.var? Tryz.prog W "clapboard/quant.steps" = some cs)
    (hd : DataW.trod (fun _ => ()) Tryz.prog W 0 (fun _ => true) false f 175 cs.toList = some (Rows.laid_clapboard_quant_steps, p)) : StepsAt W := by
  have key := ints_of (l := stl) Tryz.underlying175 Tryz.c21 hd
  have cell : ∀ i, i < 21 → W.cell? ⟨3, i, none⟩ = some (.int .i64 (stl.getD i 0)) := by
    intro i hi
    rw [World.var?_cell Tryz.gSteps hv i]
    simpa using key i hi
  exact ⟨World.block_lt_of_cell? W _ (cell 0 (by omega)), cell⟩
theorem waves_at {W : World} {f : Nat} {cs : Array Value} {p : List MemPlace} (hv : World.var? Tryz.prog W "clapboard/wave.waves" = some cs)
    (hd : DataW.trod (fun _ => ()) Tryz.prog W 0 (fun _ => true) false f 179 cs.toList = some (Rows.laid_clapboard_wave_waves, p)) : Waves W := by
  have key := rows_of (l := [[1, 1, 1, 1], [1, 1, -1, -1], [1, -1, -1, 1], [1, -1, 1, -1]]) Tryz.underlying179 Tryz.underlying171 Tryz.c4 hd
  have cell : ∀ i, i < 16 → W.cell? ⟨4, i, none⟩ = some (.int .i64 (wv 0 i)) := by
    intro i hi
    rw [World.var?_cell Tryz.gWaves hv i]
    have h2 := key (i / 4) (i % 4) (by omega) (by omega)
    rw [show i / 4 * 4 + i % 4 = i by omega] at h2
    have e : ∀ i, i < 16 → (([[1, 1, 1, 1], [1, 1, -1, -1], [1, -1, -1, 1], [1, -1, 1, -1]] : List (List Int)).getD (i / 4) []).getD (i % 4) 0 = wv 0 i := by decide
    rw [e i hi] at h2
    simpa using h2
  exact ⟨World.block_lt_of_cell? W _ (cell 0 (by omega)), cell⟩
end Go.Proofs.YtknjpdcpmpfklaaGreatDoor
set_option maxRecDepth 100000
namespace Go.Proofs.YtknjpdcpmpfklaaGreatDoor
open Go.RowKit
def byteVals (l : List Nat) : List Value := l.map fun x : Nat => .int .u8 (x : Int)
theorem byteVals_length (l : List Nat) : (byteVals l).length = l.length := by simp [byteVals]
theorem byteVals_append (a b : List Nat) : byteVals (a ++ b) = byteVals a ++ byteVals b := by simp [byteVals]
theorem byteVals_one (l : List Nat) : ∀ u ∈ byteVals l, u.oneCell' = true := by
  intro u hu
  obtain ⟨x, _, rfl⟩ := List.mem_map.1 hu
  rfl
theorem byteVals_at (l : List Nat) (i : Nat) (h : i < l.length) : (byteVals l)[i]? = some (.int .u8 (l.getD i 0 : Nat)) := by
  simp [byteVals, List.getD, h]
theorem Tryz.info_u8 : (Tryz.prog.info? 5).map (fun i => (i.zero, i.size, i.bytes)) = some (some (.int .u8 0), 1, 1) := by kernel_rfl
def BytesArg (w : World) (v : Value) (l : List Nat) : Prop :=
  ∃ a cap, v = .slice a l.length cap ∧ l.length ≤ cap ∧ cap ≤ maxLen ∧ (a = none → cap = 0) ∧ (∀ x ∈ l, x < 256) ∧
    (0 < l.length → ∃ b off, a = some ⟨b, off, none⟩ ∧ b < w.heap.size ∧ ∀ i, i < l.length → w.cell? ⟨b, off + i, none⟩ = some (.int .u8 (l.getD i 0 : Nat)))
theorem BytesArg.kept {S : Nat → Prop} {w w' : World} {v : Value} {l : List Nat} (h : BytesArg w v l) (k : Kept S w w') (hs : ∀ i, i < w.heap.size → ¬ S i) : BytesArg w' v l := by
  obtain ⟨a, cap, rfl, h1, h2, h3, hl, hc⟩ := h
  refine ⟨a, cap, rfl, h1, h2, h3, hl, fun hpos => ?_⟩
  obtain ⟨b, off, rfl, hb, hcell⟩ := hc hpos
  exact ⟨b, off, rfl, Nat.lt_of_lt_of_le hb k.size, fun i hi => (World.cell?_of_block (k.block b hb (hs b hb))).trans (hcell i hi)⟩
theorem BytesArg.all {w w' : World} {v : Value} {l : List Nat} (h : BytesArg w v l) (k : Kept (fun _ => False) w w') : BytesArg w' v l := h.kept k (fun _ _ x => x)
theorem BytesArg.lt256 {w : World} {v : Value} {l : List Nat} (h : BytesArg w v l) : ∀ x ∈ l, x < 256 := by
  obtain ⟨a, cap, rfl, h1, h2, h3, hl, hc⟩ := h; exact hl
theorem BytesArg.nil (w : World) : BytesArg w (.slice none 0 0) [] := ⟨none, 0, rfl, Nat.le_refl _, Nat.zero_le _, fun _ => rfl, by simp, by simp⟩
theorem getD_lt {l : List Nat} (h : ∀ x ∈ l, x < 256) (i : Nat) : l.getD i 0 < 256 := by
  rw [List.getD]
  cases e : l[i]? with
  | none => simp
  | some x => simpa using h x (List.mem_of_getElem? e)
def Row (w : World) (B : Nat) (v : Value) (l : List Nat) : Prop := w.ownsRow B 5 1 v l.length (byteVals l) ∧ ∀ x ∈ l, x < 256
theorem Row.nil (w : World) (B : Nat) : Row w B (.slice none 0 0) [] := ⟨World.ownsRow_nil w B _ _, by simp⟩
theorem Row.lt {w : World} {B : Nat} {v : Value} {l : List Nat} (h : Row w B v l) : ∀ k, v.ownBlock = some k → B ≤ k ∧ k < w.heap.size := h.1.lt
theorem Row.kept {S : Nat → Prop} {w w' : World} {B : Nat} {v : Value} {l : List Nat} (h : Row w B v l) (k : Kept S w w') (hs : ∀ g, v.ownBlock = some g → ¬ S g) : Row w' B v l := by
  obtain ⟨⟨h0, h1⟩, h2⟩ := h
  refine ⟨⟨h0, ?_⟩, h2⟩
  rcases h1 with hn | ⟨g, cap, cur, rfl, hb, hg, rest⟩
  · exact .inl hn
  · exact .inr ⟨g, cap, cur, rfl, hb, k.at hg (hs g rfl), rest⟩
theorem Row.all {w w' : World} {B : Nat} {v : Value} {l : List Nat} (h : Row w B v l) (k : Kept (fun _ => False) w w') : Row w' B v l := h.kept k (fun _ _ x => x)
theorem Row.base {w : World} {B B' : Nat} {v : Value} {l : List Nat} (h : Row w B v l) (hb : B' ≤ B) : Row w B' v l := by
  obtain ⟨⟨h0, h1⟩, h2⟩ := h
  refine ⟨⟨h0, ?_⟩, h2⟩
  rcases h1 with hn | ⟨g, cap, cur, rfl, hb', rest⟩
  · exact .inl hn
  · exact .inr ⟨g, cap, cur, rfl, by omega, rest⟩
theorem Row.bytes {w : World} {B : Nat} {v : Value} {l : List Nat} (h : Row w B v l) : BytesArg w v l := by
  obtain ⟨h, h256⟩ := h
  rcases h.2 with ⟨rfl, h0⟩ | ⟨g, cap, cur, rfl, hb, hg, hc, hm, hs, ht⟩
  · have hl : l = [] := List.eq_nil_of_length_eq_zero h0
    subst hl; exact BytesArg.nil w
  · refine ⟨some ⟨g, 0, none⟩, cap, rfl, hc, hm, by simp, h256, fun hpos => ⟨g, 0, rfl, lt_of_heap hg, fun i hi => ?_⟩⟩
    rw [Nat.zero_add, h.cellAt i (by omega)]
    exact byteVals_at l i hi
theorem Row.of_new {w : World} {B g : Nat} {l : List Nat} (h : w.heap[g]? = some (.cells (byteVals l).toArray 5 (0, 0))) (hB : B ≤ g) (hm : l.length ≤ maxLen) (h256 : ∀ x ∈ l, x < 256) :
    Row w B (.slice (some ⟨g, 0, none⟩) l.length l.length) l := by
  refine ⟨⟨by rw [byteVals_length]; omega, .inr ⟨g, l.length, _, rfl, hB, h, Nat.le_refl _, hm, by simp [byteVals_length], ?_⟩⟩, h256⟩
  rw [List.take_of_length_le (by simp [byteVals_length])]
def Appended (w w' : World) (B : Nat) (v v' : Value) (l : List Nat) : Prop := Row w' B v' l ∧ w.grownBy w' v.ownBlock
theorem run_append_bytes (w : World) (ty : TypeId) (B : Nat) (v x : Value) (l m : List Nat) (hown : Row w B v l) (hx : BytesArg w x m) (hl : l.length + m.length < 1099511627776) (hB : B ≤ w.heap.size) :
    ∃ v' w', (Builtin.append_ #[26, 26] ty #[v, x]).run Tryz.prog w = .ok v' w' ∧ Appended w w' B v v' (l ++ m) := by
  obtain ⟨i0, hi, hz0, hz1, hz2⟩ := info_parts Tryz.info_u8
  obtain ⟨a, cap, rfl, h1, h2, h3, h256, hc⟩ := hx
  have hall : ∀ y ∈ l ++ m, y < 256 := by
    intro y hy
    rcases List.mem_append.1 hy with h | h
    · exact hown.2 y h
    · exact h256 y h
  have hlm : l.length + m.length ≤ maxLen := by unfold maxLen; omega
  cases a with
  | none =>
    have hc0 := h3 rfl
    subst hc0
    have hm : m = [] := List.eq_nil_of_length_eq_zero (by omega)
    subst hm
    refine ⟨v, w, run_append_owned_none w B _ ty _ i0 1 Tryz.underlying26 hi v _ _ hown.1, ⟨by simpa using hown.1, hall⟩, ⟨rfl, rfl, rfl, Nat.le_refl _, fun _ _ _ => rfl⟩⟩
  | some ad =>
    have hcells : ∀ j u, (byteVals m)[j]? = some u → w.cell? (ad.add j) = some u := by
      intro j u hj
      have hjl : j < m.length := by
        have := (List.getElem?_eq_some_iff.1 hj).1
        rwa [byteVals_length] at this
      obtain ⟨b, off, he, hb, hcell⟩ := hc (by omega)
      cases he
      rw [Addr.add_lit, hcell j hjl, ← hj, byteVals_at m j hjl]
    obtain ⟨v', w', hr, ho, hg, _⟩ := run_append_own (P := Tryz.prog) w B 26 ty 5 i0 (.int .u8 0) 1 1 Tryz.underlying26 hi hz0 hz1 hz2 rfl (by decide) v l.length (byteVals l) hown.1 ad m.length cap (byteVals m)
      (by rw [byteVals_length]; omega) hcells (byteVals_one m) hlm (by omega) hB
    refine ⟨v', w', hr, ⟨?_, hall⟩, hg⟩
    rw [List.length_append, byteVals_append]; exact ho
theorem BytesArg.box (w : World) (c : Nat) (h : c < 256) : BytesArg (w.alloc (.cells #[.int .u8 (c : Int)] 5)) (.slice (some ⟨w.heap.size, 0, none⟩) 1 1) [c] := by
  refine ⟨_, 1, rfl, Nat.le_refl _, by unfold maxLen; omega, by simp, by simpa using h, fun _ => ⟨w.heap.size, 0, rfl, by simp, fun i hi => ?_⟩⟩
  have hi0 : i = 0 := by simpa using hi
  subst hi0
  simp
def Own (w0 w : World) (v : Value) (l : List Nat) : Prop := Row w w0.heap.size v l ∧ Kept (fun _ => False) w0 w
theorem Own.nil {w0 w : World} (k : Kept (fun _ => False) w0 w) : Own w0 w (.slice none 0 0) [] := ⟨Row.nil w _, k⟩
theorem Own.all {w0 w w' : World} {v : Value} {l : List Nat} (h : Own w0 w v l) (k : Kept (fun _ => False) w w') : Own w0 w' v l := ⟨h.1.all k, h.2.trans k (fun _ _ x => x)⟩
def textOf (l : List Nat) : ByteArray := (l.map fun n : Nat => (n : Int)).foldl (fun r n => r.push (UInt8.ofNat n.toNat)) ByteArray.empty
theorem BytesArg.text {w : World} {v : Value} {l : List Nat} (h : BytesArg w v l) : (convert 26 9 v).run Tryz.prog w = .ok (.string (textOf l)) w := by
  obtain ⟨a, cap, rfl, h1, h2, h3, h256, hc⟩ := h
  rw [run_convert_bytes_string w 26 9 5 _ _ _ Tryz.underlying26 Tryz.underlying5 Tryz.underlying9]
  cases a with
  | none =>
    have hc0 := h3 rfl
    subst hc0
    have hl : l = [] := List.eq_nil_of_length_eq_zero (by omega)
    subst hl
    simp [Conv.bytesToString, textOf]
  | some ad =>
    have hl := run_loadCells_list (P := Tryz.prog) w ad (byteVals l) (by
      intro j u hj
      have hjl : j < l.length := by
        have := (List.getElem?_eq_some_iff.1 hj).1
        rwa [byteVals_length] at this
      obtain ⟨b, off, he, hb, hcell⟩ := hc (by omega)
      cases he
      rw [Addr.add_lit, hcell j hjl, ← hj, byteVals_at l j hjl])
    rw [byteVals_length] at hl
    have e : (byteVals l).toArray = ((l.map fun n : Nat => (n : Int)).map (Value.int .u8)).toArray := by simp [byteVals]
    rw [e] at hl
    exact run_bytesToString w ad l.length cap _ hl
end Go.Proofs.YtknjpdcpmpfklaaGreatDoor
set_option maxRecDepth 100000
namespace Go.Proofs.YtknjpdcpmpfklaaGreatDoor
open Go.RowKit
theorem toNat_le_one (x : Bool) : x.toNat ≤ 1 := by cases x <;> decide
theorem decide_toNat (x : Bool) (m : Nat) (h : m = x.toNat) : decide (m = 1) = x := by subst h; cases x <;> decide
def byteOf (b : Nat → Bool) : Nat :=
  (b 0).toNat * 128 + (b 1).toNat * 64 + (b 2).toNat * 32 + (b 3).toNat * 16 + (b 4).toNat * 8 + (b 5).toNat * 4 + (b 6).toNat * 2 + (b 7).toNat
theorem byteOf_lt (b : Nat → Bool) : byteOf b < 256 := by
  have := toNat_le_one (b 0); have := toNat_le_one (b 1); have := toNat_le_one (b 2); have := toNat_le_one (b 3)
  have := toNat_le_one (b 4); have := toNat_le_one (b 5); have := toNat_le_one (b 6); have := toNat_le_one (b 7)
  unfold byteOf; omega
theorem byteOf_bit (b : Nat → Bool) (j : Nat) (hj : j < 8) : (byteOf b).testBit (7 - j) = b j := by
  have := toNat_le_one (b 0); have := toNat_le_one (b 1); have := toNat_le_one (b 2); have := toNat_le_one (b 3)
  have := toNat_le_one (b 4); have := toNat_le_one (b 5); have := toNat_le_one (b 6); have := toNat_le_one (b 7)
  rw [Nat.testBit_eq_decide_div_mod_eq]
  refine decide_toNat _ _ ?_
  unfold byteOf
  match j, hj with
  | 0, _ => omega
  | 1, _ => omega
  | 2, _ => omega
  | 3, _ => omega
  | 4, _ => omega
  | 5, _ => omega
  | 6, _ => omega
  | 7, _ => omega
def nbytes (n : Nat) : Nat := (n + 7) / 8
def pack (bs : List Bool) : List Nat := (List.range (nbytes bs.length)).map fun i => byteOf fun j => bs.getD (8 * i + j) false
theorem pack_length (bs : List Bool) : (pack bs).length = nbytes bs.length := by simp [pack]
theorem pack_getD (bs : List Bool) (i : Nat) (h : i < nbytes bs.length) : (pack bs).getD i 0 = byteOf fun j => bs.getD (8 * i + j) false := by
  simp [pack, List.getD, h]
def bitAt (l : List Nat) (i : Nat) : Bool := (l.getD (i / 8) 0).testBit (7 - i % 8)
theorem pack_bit (bs : List Bool) (i : Nat) (h : i < 8 * nbytes bs.length) : bitAt (pack bs) i = bs.getD i false := by
  unfold bitAt
  rw [pack_getD bs (i / 8) (by omega), byteOf_bit _ _ (Nat.mod_lt _ (by decide))]
  congr 1; omega
end Go.Proofs.YtknjpdcpmpfklaaGreatDoor
set_option maxRecDepth 100000
namespace Go.Proofs.YtknjpdcpmpfklaaGreatDoor
open Go.RowKit
theorem i64_and1 (n : Int) : bits .and .i64 n 1 = n % 2 := by
  have h1 : (BitVec.ofInt 64 1).toNat = 2 ^ 1 - 1 := by decide
  have key : (BitVec.ofInt 64 n &&& BitVec.ofInt 64 1).toNat = (n % ((2 ^ 64 : Nat) : Int)).toNat % 2 ^ 1 := by
    rw [BitVec.toNat_and, BitVec.toNat_ofInt, h1, Nat.and_two_pow_sub_one_eq_mod]
  show IntKind.i64.wrap ((BitVec.ofInt 64 n &&& BitVec.ofInt 64 1).toNat : Nat) = n % 2
  rw [key, IntKind.wrap_i64]
  omega
def lowBit (n : Int) : Bool := decide (n % 2 = 1)
def fixedBits (n : Int) : Nat → List Bool
  | 0 => []
  | k + 1 => lowBit (n / 2 ^ k) :: fixedBits n k
theorem fixedBits_length (n : Int) (k : Nat) : (fixedBits n k).length = k := by
  induction k with
  | zero => rfl
  | succ k ih => simp [fixedBits, ih]
end Go.Proofs.YtknjpdcpmpfklaaGreatDoor
set_option maxRecDepth 100000
namespace Go.Proofs.YtknjpdcpmpfklaaGreatDoor
open Go.RowKit
def golomb (m : Nat) : List Bool := fixedBits 0 (Lib.bitLen m - 1) ++ fixedBits (m : Int) (Lib.bitLen m)
def clampWhole (n : Int) : Nat := (min (max n 0) 2147483647).toNat
def wholeBits (n : Int) : List Bool := golomb (clampWhole n + 1)
theorem clampWhole_le (n : Int) : clampWhole n ≤ 2147483647 := by unfold clampWhole; omega
theorem bitLen_bounds (m : Nat) (h0 : m ≠ 0) (h : m < 2 ^ 64) : 1 ≤ Lib.bitLen m ∧ 2 ^ (Lib.bitLen m - 1) ≤ m ∧ m < 2 ^ Lib.bitLen m := Lib.bitLenAux_bounds 64 m h h0
theorem bitLen_le32 (m : Nat) (h0 : m ≠ 0) (h : m ≤ 2147483648) : 1 ≤ Lib.bitLen m ∧ Lib.bitLen m ≤ 32 :=
  ⟨(bitLen_bounds m h0 (by omega)).1, Lib.bitLen_le m 32 (by omega) (by omega)⟩
def endBits (n : Nat) : List Bool := true :: List.replicate (7 - n % 8) false
end Go.Proofs.YtknjpdcpmpfklaaGreatDoor
set_option maxRecDepth 100000
namespace Go.Proofs.YtknjpdcpmpfklaaGreatDoor
open Go.RowKit
def clampSigned (n : Int) : Int := min (max n (-1073741824)) 1073741824
def signedBits (n : Int) : List Bool := if 0 < clampSigned n then wholeBits (2 * clampSigned n - 1) else wholeBits (-2 * clampSigned n)
theorem madeCells_one (z : Value) (n : Nat) : madeCells #[z] n = (List.replicate n z).toArray := by
  unfold madeCells
  apply Array.ext
  · simp
  · intro i h1 h2
    simp [Nat.mod_one]
theorem splice_whole {α : Type} (L cs : List α) (h : cs.length = L.length) : splice L 0 cs = cs := by
  unfold splice
  rw [List.take_zero, List.nil_append, Nat.zero_add, h, List.drop_length, List.append_nil]
theorem oneCell_byteVals (l : List Nat) : ∀ v ∈ byteVals l, v.oneCell' = true := by
  intro v hv
  obtain ⟨x, _, rfl⟩ := List.mem_map.1 hv
  rfl
theorem Tryz.size_u8 : (Tryz.prog.info? 5).map (·.size) = some 1 := by kernel_rfl
end Go.Proofs.YtknjpdcpmpfklaaGreatDoor
