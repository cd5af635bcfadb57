/- What HeadApart reaches of my texts, part 1. -/
import Derived.WalkKit
import Derived.WalkSpells
import Derived.WalkLawsBesides
import Derived.BigQuiet
import Derived.BigRegion
import Derived.Deep.QuietTactic
import Derived.Lib.Hide
import Derived.Orders
import Derived.Deep.LoopGhost
import Derived.TacticsIn
import Derived.RangeFuncCalls
import Derived.IntWalk
import Derived.RangeFuncLeaves
import Derived.RangeFuncRecord
import Derived.Test.YtnccblhdokplkaaChecked
import Derived.Laws.OwnMore
import Derived.Shelf.Strconv.Itoa0
import Derived.Lib.ItoaNum
import Derived.Test.YtnccblhdokplkaaProg
import Derived.Deep.OwnRows
import Derived.Laws.CopyOwn
import Derived.Deep.RegionWith
import Derived.Defers
import Derived.Recover
import Derived.Conc.MuLone
import Derived.OpenShut
import Derived.Deep.WholeRow
import Derived.Deep.MidRow
import Derived.Laws.Tables
import Derived.ChangeKeysEq
import Derived.RangeFuncNested
import Derived.LoopNIn
import Derived.Laws.MakeOwn
import Derived.Great.BuildSlice
import Derived.Laws.Cover1
import Derived.Lib.MakeNoZero
import Derived.Laws.Externs
import Derived.Lib.SliceRun
import Derived.ProofKit
import Derived.Lib.SmallJoins
import Derived.ChangeOld
import Derived.Below
set_option maxRecDepth 100000
set_option maxRecDepth 100000
namespace Go.Proofs.Ytnccblhdokplkaa

def sideOk (n : Int) : Prop := 8 ≤ n ∧ n ≤ 64 ∧ n % 8 = 0
instance (n : Int) : Decidable (sideOk n) := by unfold sideOk; infer_instance
def seqOk (W H R B : Int) : Prop := sideOk W ∧ sideOk H ∧ 1 ≤ R ∧ R ≤ 16777216 ∧ R ≤ B ∧ B ≤ 1073741824
instance (W H R B : Int) : Decidable (seqOk W H R B) := by unfold seqOk; infer_instance
def headOk (K Q D F : Int) : Prop := 0 ≤ K ∧ K ≤ 2 ∧ 0 ≤ Q ∧ Q ≤ 20 ∧ 0 ≤ D ∧ D < 16777216 ∧ 0 ≤ F ∧ F ≤ 1073741824
instance (K Q D F : Int) : Decidable (headOk K Q D F) := by unfold headOk; infer_instance
def seqE (W H R B : Int) : Int := if seqOk W H R B then 0 else 110
def headE (K Q D F : Int) : Int := if headOk K Q D F then 0 else 110

/-- The byte of a number at a place. -/
def btI (n : Int) (m : Nat) : Nat := (n / (m : Int) % 256).toNat
def fourI (n : Int) : List Nat := [btI n 16777216, btI n 65536, btI n 256, btI n 1]
def nm (a b c d : Nat) : Int := (a : Int) * 16777216 + (b : Int) * 65536 + (c : Int) * 256 + (d : Int)
def nmAt (l : List Nat) (i : Nat) : Int := nm (l.getD i 0) (l.getD (i + 1) 0) (l.getD (i + 2) 0) (l.getD (i + 3) 0)
theorem btI_lt (n : Int) (m : Nat) : btI n m < 256 := by unfold btI; omega
theorem nm_four {n : Int} (h0 : 0 ≤ n) (h1 : n < 4294967296) : nm (btI n 16777216) (btI n 65536) (btI n 256) (btI n 1) = n := by
  unfold nm btI; omega
theorem btI_small {n : Int} (h0 : 0 ≤ n) (h1 : n < 256) : ((btI n 1 : Nat) : Int) = n := by unfold btI; omega
/-- The ten bytes. -/
def tenB (a b c d : Int) : List Nat := [btI a 1, btI b 1] ++ fourI c ++ fourI d
theorem tenB_length (a b c d : Int) : (tenB a b c d).length = 10 := rfl
theorem tenB_lt (a b c d : Int) : ∀ x ∈ tenB a b c d, x < 256 := by
  intro x hx
  simp only [tenB, fourI, List.cons_append, List.nil_append, List.mem_cons, List.not_mem_nil, or_false] at hx
  rcases hx with rfl | rfl | rfl | rfl | rfl | rfl | rfl | rfl | rfl | rfl <;> exact btI_lt _ _
/-- The four numbers of ten bytes. -/
def t0 (l : List Nat) : Int := (l.getD 0 0 : Nat)
def t1 (l : List Nat) : Int := (l.getD 1 0 : Nat)
def t2 (l : List Nat) : Int := nmAt l 2
def t3 (l : List Nat) : Int := nmAt l 6
theorem ten_back {a b c d : Int} (ha : 0 ≤ a ∧ a < 256) (hb : 0 ≤ b ∧ b < 256) (hc : 0 ≤ c ∧ c < 4294967296) (hd : 0 ≤ d ∧ d < 4294967296) (p : List Nat) :
    t0 (tenB a b c d ++ p) = a ∧ t1 (tenB a b c d ++ p) = b ∧ t2 (tenB a b c d ++ p) = c ∧ t3 (tenB a b c d ++ p) = d :=
  ⟨btI_small ha.1 ha.2, btI_small hb.1 hb.2, nm_four hc.1 hc.2, nm_four hd.1 hd.2⟩
def opB (W H R B : Int) : List Nat := if seqOk W H R B then tenB W H R B else []
def odOk (l : List Nat) : Prop := l.length = 10 ∧ seqOk (t0 l) (t1 l) (t2 l) (t3 l)
instance (l : List Nat) : Decidable (odOk l) := by unfold odOk; infer_instance
def od (g : List Nat → Int) (l : List Nat) : Int := if odOk l then g l else 0
def odE (l : List Nat) : Int := if odOk l then 0 else 110
theorem seq_lim {W H R B : Int} (h : seqOk W H R B) : (0 ≤ W ∧ W < 256) ∧ (0 ≤ H ∧ H < 256) ∧ (0 ≤ R ∧ R < 4294967296) ∧ (0 ≤ B ∧ B < 4294967296) := by
  unfold seqOk sideOk at h; omega
theorem od_open {W H R B : Int} (h : seqOk W H R B) : odOk (opB W H R B) ∧ od t0 (opB W H R B) = W ∧ od t1 (opB W H R B) = H ∧ od t2 (opB W H R B) = R ∧ od t3 (opB W H R B) = B ∧ odE (opB W H R B) = 0 := by
  obtain ⟨a, b, c, d⟩ := seq_lim h
  have e := ten_back a b c d []
  rw [List.append_nil] at e
  have ho : odOk (tenB W H R B) := ⟨tenB_length W H R B, by rw [e.1, e.2.1, e.2.2.1, e.2.2.2]; exact h⟩
  unfold opB od odE
  rw [if_pos h, if_pos ho, if_pos ho, if_pos ho, if_pos ho, if_pos ho]
  exact ⟨ho, e.1, e.2.1, e.2.2.1, e.2.2.2, rfl⟩

def wrB (K Q D F : Int) (p : List Nat) : List Nat := if headOk K Q D F then tenB K Q D F ++ p else []
def rdOkH (l : List Nat) : Prop := 10 ≤ l.length ∧ headOk (t0 l) (t1 l) (t2 l) (t3 l)
instance (l : List Nat) : Decidable (rdOkH l) := by unfold rdOkH; infer_instance
def rdH (g : List Nat → Int) (l : List Nat) : Int := if rdOkH l then g l else 0
def rdP (l : List Nat) : List Nat := if rdOkH l then l.drop 10 else []
def rdE (l : List Nat) : Int := if rdOkH l then 0 else 110
theorem head_lim {K Q D F : Int} (h : headOk K Q D F) : (0 ≤ K ∧ K < 256) ∧ (0 ≤ Q ∧ Q < 256) ∧ (0 ≤ D ∧ D < 4294967296) ∧ (0 ≤ F ∧ F < 4294967296) := by
  unfold headOk at h; omega
theorem rd_write {K Q D F : Int} (h : headOk K Q D F) (p : List Nat) : rdOkH (wrB K Q D F p) ∧ rdH t0 (wrB K Q D F p) = K ∧ rdH t1 (wrB K Q D F p) = Q ∧ rdH t2 (wrB K Q D F p) = D ∧ rdH t3 (wrB K Q D F p) = F ∧ rdP (wrB K Q D F p) = p ∧ rdE (wrB K Q D F p) = 0 := by
  obtain ⟨a, b, c, d⟩ := head_lim h
  have e := ten_back a b c d p
  have ho : rdOkH (tenB K Q D F ++ p) := ⟨by rw [List.length_append, tenB_length]; omega, by rw [e.1, e.2.1, e.2.2.1, e.2.2.2]; exact h⟩
  unfold wrB rdH rdP rdE
  rw [if_pos h, if_pos ho, if_pos ho, if_pos ho, if_pos ho, if_pos ho, if_pos ho]
  exact ⟨ho, e.1, e.2.1, e.2.2.1, e.2.2.2, by rw [List.drop_left' (tenB_length K Q D F)], rfl⟩
theorem ten_inj {a b c d a' b' c' d' : Int} (h1 : (0 ≤ a ∧ a < 256) ∧ (0 ≤ b ∧ b < 256) ∧ (0 ≤ c ∧ c < 4294967296) ∧ (0 ≤ d ∧ d < 4294967296)) (h2 : (0 ≤ a' ∧ a' < 256) ∧ (0 ≤ b' ∧ b' < 256) ∧ (0 ≤ c' ∧ c' < 4294967296) ∧ (0 ≤ d' ∧ d' < 4294967296))
    (h : tenB a b c d = tenB a' b' c' d') : a = a' ∧ b = b' ∧ c = c' ∧ d = d' := by
  have e := ten_back h1.1 h1.2.1 h1.2.2.1 h1.2.2.2 []
  have f := ten_back h2.1 h2.2.1 h2.2.2.1 h2.2.2.2 []
  rw [h] at e
  exact ⟨e.1.symm.trans f.1, e.2.1.symm.trans f.2.1, e.2.2.1.symm.trans f.2.2.1, e.2.2.2.symm.trans f.2.2.2⟩
/-- A head that is cut short is none. -/
theorem rd_short {l : List Nat} (h : l.length < 10) : rdE l = 110 := if_neg fun k => absurd k.1 (by omega)
theorem od_long {l : List Nat} (h : l.length ≠ 10) : odE l = 110 := if_neg fun k => h k.1
end Go.Proofs.Ytnccblhdokplkaa
set_option maxRecDepth 100000
namespace Go.Proofs.Ytnccblhdokplkaa
open Go.RowKit

/-- Every block that was there, but those of S, is as it was. -/
structure Kept (S : Nat → Prop) (w w' : World) : Prop where
  os : w'.os = w.os
  tape : w'.tape = w.tape
  output : w'.output = w.output
  size : w.heap.size ≤ w'.heap.size
  block : ∀ k, k < w.heap.size → ¬ S k → w'.heap[k]? = w.heap[k]?

theorem Kept.refl (S : Nat → Prop) (w : World) : Kept S w w := ⟨rfl, rfl, rfl, Nat.le_refl _, fun _ _ _ => rfl⟩

theorem Kept.trans {S S' : Nat → Prop} {a b c : World} (h : Kept S a b) (k : Kept S' b c) (hs : ∀ i, i < a.heap.size → S' i → S i) : Kept S a c :=
  ⟨k.os.trans h.os, k.tape.trans h.tape, k.output.trans h.output, Nat.le_trans h.size k.size,
   fun i hi hn => (k.block i (Nat.lt_of_lt_of_le hi h.size) (fun x => hn (hs i hi x))).trans (h.block i hi hn)⟩

theorem Kept.mono {S S' : Nat → Prop} {a b : World} (h : Kept S a b) (hs : ∀ i, i < a.heap.size → S i → S' i) : Kept S' a b :=
  ⟨h.os, h.tape, h.output, h.size, fun i hi hn => h.block i hi (fun x => hn (hs i hi x))⟩

theorem Kept.drew {S : Nat → Prop} {a w : World} (h : Kept S a w) : Kept S a w.drew := ⟨h.os, h.tape, h.output, h.size, h.block⟩

theorem Kept.alloc {S : Nat → Prop} {a w : World} (h : Kept S a w) (o : Obj) : Kept S a (w.alloc o) :=
  h.trans (S' := fun _ => False) ⟨rfl, rfl, rfl, by simp, fun k hk _ => Below.heap_alloc _ _ _ (by omega)⟩ (fun _ _ x => x.elim)

theorem Kept.setCell {S : Nat → Prop} {a w : World} (h : Kept S a w) (p : Addr) (hp : p.block < a.heap.size → S p.block) (u : Value) : Kept S a (w.setCell p u) :=
  h.trans (S' := fun k => k = p.block) ⟨rfl, rfl, rfl, by simp [World.setCell], fun k hk hn => Below.heap_setCell _ _ _ _ hn⟩ (fun i hi x => by subst x; exact hp hi)

theorem Kept.grown {S : Nat → Prop} {a w w' : World} {row : Option Nat} (h : Kept S a w) (hg : w.grownBy w' row) (hr : ∀ k, row = some k → k < a.heap.size → S k) : Kept S a w' :=
  h.trans (S' := fun k => row = some k) ⟨hg.os, hg.tape, hg.output, hg.size, fun k hk hn => hg.block k hk (fun e => hn e.symm)⟩ (fun i hi x => hr i x hi)

theorem Kept.below {S : Nat → Prop} {B : Nat} {w w' : World} (h : Kept S w w') (hB : B ≤ w.heap.size) (hs : ∀ k, k < B → ¬ S k) : Below B w w' :=
  ⟨h.os, h.tape, h.output, h.size, fun k hk => h.block k (by omega) (hs k hk)⟩

theorem Below.kept {w w' : World} (h : Below w.heap.size w w') : Kept (fun _ => False) w w' :=
  ⟨h.os, h.tape, h.output, h.size, fun k hk _ => h.block k hk⟩

theorem lt_of_heap {w : World} {k : Nat} {o : Obj} (h : w.heap[k]? = some o) : k < w.heap.size := (Array.getElem?_eq_some_iff.1 h).1

theorem Kept.at {S : Nat → Prop} {w w' : World} (h : Kept S w w') {k : Nat} {o : Obj} (hk : w.heap[k]? = some o) (hn : ¬ S k) : w'.heap[k]? = some o :=
  (h.block k (lt_of_heap hk) hn).trans hk

theorem heap_setCell_same (w : World) (b off : Nat) (v : Value) {c : Array Value} {e : TypeId} {f : Nat × Nat} (h : w.heap[b]? = some (.cells c e f)) :
    (w.setCell ⟨b, off, none⟩ v).heap[b]? = some (.cells (c.setIfInBounds off v) e f) := by
  simp [World.setCell, Array.getElem?_modify, h]

theorem heap_setCell_other (w : World) (b off k : Nat) (v : Value) (h : k ≠ b) : (w.setCell ⟨b, off, none⟩ v).heap[k]? = w.heap[k]? :=
  Below.heap_setCell w ⟨b, off, none⟩ v k h

theorem cell_of_heap {w : World} {b off : Nat} {c : Array Value} {e : TypeId} {f : Nat × Nat} (h : w.heap[b]? = some (.cells c e f)) : w.cell? ⟨b, off, none⟩ = c[off]? := by
  simp [World.cell?, h]

theorem frozen_of_heap {w : World} {b off : Nat} {c : Array Value} {e : TypeId} (h : w.heap[b]? = some (.cells c e (0, 0))) : w.frozen? ⟨b, off, none⟩ = false := by
  simp [World.frozen?, h]

end Go.Proofs.Ytnccblhdokplkaa
set_option maxRecDepth 100000
namespace Go.Proofs.Ytnccblhdokplkaa
open Go.RowKit

/-- What an operation yields, and what it leaves. -/
def Yields (P : Program) (ρ : Operand → Value) (o : Oper) (w : World) (R : Value → World → Prop) : Prop :=
  match (execOp ρ o).run P w with
  | .ok (.value v) w' => R v w'
  | .ok .skip w' => R undef w'
  | .ok (.enter f args) w' => Calls P f args w' fun e w'' => ∃ v, e = .returned v ∧ R v w''
  | _ => False

theorem Yields.wp {P : Program} {a : Act} {o : Oper} {w : World} {K : Act → World → Prop} {Q : Exit → Act → World → Prop} (h : Yields P a.eval o w (fun v w' => K (a.put o.dst v) w')) : o.wp P a w K Q := by
  unfold Yields at h
  unfold Oper.wp
  generalize (execOp a.eval o).run P w = r at *
  cases r with
  | ok n w' =>
    cases n <;> simp only [Oper.upon] at h ⊢ <;> first
      | exact h
      | exact h.elim
      | exact Calls.mono h (fun e w'' ⟨v, he, hk⟩ => by subst he; exact hk)
  | halt x w' => exact h.elim

/-- Whether an operation is carried out. -/
def goes (D : List (Option Tmp)) (o : Oper) (a : Act) : Bool :=
  match o.guard with
  | none => true
  | some (j, want) => match D.getD j none with
    | none => false
    | some d => match a.eval (.tmp d) with
      | .bool b => b == want
      | _ => false

/-- What the operations ahead of this one have answered. -/
def Deps (D : List (Option Tmp)) (G : Nat → Value → World → Prop) (a : Act) (w : World) : List Edge → Prop
  | [] => True
  | e :: r => (Region.binds .any e = true → match D.getD e.on none with
    | some d => G e.on (a.eval (.tmp d)) w
    | none => True) ∧ Deps D G a w r

/-- What is asked of one operation. -/
def Step (P : Program) (R : World → World → Prop) (D : List (Option Tmp)) (G : Nat → Value → World → Prop) (a0 : Act) (w0 : World) (i : Nat) (o : Oper) : Prop :=
  ∀ (a : Act) (w : World), R w0 w → (∀ t, some t ∉ D → a.eval (.tmp t) = a0.eval (.tmp t)) → Deps D G a w o.after.toList →
    (goes D o a = true → Yields P a.eval o w (fun v w' => G i v w' ∧ R w w')) ∧ (goes D o a = false → G i undef w)

def Steps (P : Program) (R : World → World → Prop) (D : List (Option Tmp)) (G : Nat → Value → World → Prop) (a0 : Act) (w0 : World) : Nat → List Oper → Prop
  | _, [] => True
  | i, o :: r => Step P R D G a0 w0 i o ∧ Steps P R D G a0 w0 (i + 1) r

/-- The frame with all answers in their slots. -/
def putAll (v : Nat → Value) : Nat → List (Option Tmp) → Act → Act
  | _, [], a => a
  | i, d :: r, a => putAll v (i + 1) r (a.put d (v i))

/-- A slot has one operation, and no operation waits for a later one. -/
def plain (size : Nat) : Nat → List (Option Tmp) → List Oper → Bool
  | _, [], [] => true
  | i, d :: D, o :: r => (o.dst == d) && (match d with | none => true | some d => decide (d < size) && !D.contains (some d)) && (o.after.toList.all fun e => !Region.binds .any e || decide (e.on < i)) && plain size (i + 1) D r
  | _, _, _ => false

theorem plain_at {size : Nat} : ∀ {i : Nat} {D : List (Option Tmp)} {os : List Oper}, plain size i D os = true → D.length = os.length ∧ ∀ k o, os[k]? = some o →
    D[k]? = some o.dst ∧ (∀ d, o.dst = some d → d < size ∧ ∀ j, k < j → D[j]? ≠ some (some d)) ∧ ∀ e ∈ o.after.toList, Region.binds .any e = true → e.on < i + k := by
  intro i D os
  induction os generalizing i D with
  | nil =>
    intro h
    cases D with
    | nil => exact ⟨rfl, by simp⟩
    | cons d D => simp [plain] at h
  | cons o r ih =>
    intro h
    cases D with
    | nil => simp [plain] at h
    | cons d D =>
      simp only [plain, Bool.and_eq_true] at h
      obtain ⟨⟨⟨h1, h2⟩, h3⟩, h4⟩ := h
      have hd : o.dst = d := by simpa using h1
      obtain ⟨hl, hr⟩ := ih h4
      refine ⟨by simp [hl], fun k o' hk => ?_⟩
      cases k with
      | zero =>
        simp at hk
        subst hk
        refine ⟨by simp [hd], fun d' hd' => ?_, fun e he hb => ?_⟩
        · rw [hd'] at hd
          subst hd
          simp only [Bool.and_eq_true, decide_eq_true_eq, Bool.not_eq_true', List.contains_eq_mem, decide_eq_false_iff_not] at h2
          refine ⟨h2.1, fun j hj hD => ?_⟩
          cases j with
          | zero => omega
          | succ j => exact h2.2 (List.mem_of_getElem? (by simpa using hD))
        · have := List.all_eq_true.1 h3 e he
          simp [hb] at this; omega
      | succ k =>
        simp at hk
        obtain ⟨g1, g2, g3⟩ := hr k o' hk
        refine ⟨by simpa using g1, fun d' hd' => ⟨(g2 d' hd').1, fun j hj => ?_⟩, fun e he hb => by have := g3 e he hb; omega⟩
        cases j with
        | zero => omega
        | succ j => simpa using (g2 d' hd').2 j (by omega)

theorem Steps.at {P : Program} {R : World → World → Prop} {D : List (Option Tmp)} {G : Nat → Value → World → Prop} {a0 : Act} {w0 : World} : ∀ {i : Nat} {os : List Oper}, Steps P R D G a0 w0 i os → ∀ k o, os[k]? = some o → Step P R D G a0 w0 (i + k) o := by
  intro i os
  induction os generalizing i with
  | nil => intro _ k o h; simp at h
  | cons x r ih =>
    intro h k o hk
    cases k with
    | zero => simp at hk; subst hk; exact h.1
    | succ k =>
      simp at hk
      have := ih h.2 k o hk
      rwa [show i + 1 + k = i + (k + 1) by omega] at this

theorem Deps.mk {D : List (Option Tmp)} {G : Nat → Value → World → Prop} {a : Act} {w : World} : ∀ {es : List Edge}, (∀ e ∈ es, Region.binds .any e = true → ∀ d, D.getD e.on none = some d → G e.on (a.eval (.tmp d)) w) → Deps D G a w es := by
  intro es
  induction es with
  | nil => intro _; exact trivial
  | cons e r ih =>
    intro h
    refine ⟨fun hb => ?_, ih fun e' he' => h e' (by simp [he'])⟩
    split
    · exact h e (by simp) hb _ ‹_›
    · trivial

/-- What holds when some of the operations have been carried out. -/
structure Mid (ops : Array Oper) (R : World → World → Prop) (D : List (Option Tmp)) (G : Nat → Value → World → Prop) (a0 : Act) (w0 : World) (v : Nat → Value) (listed : Array Bool) (a : Act) (w : World) : Prop where
  size : a.tmps.size = a0.tmps.size
  ls : listed.size = ops.size
  defers : a.defers = a0.defers
  rel : R w0 w
  out : ∀ t, (∀ j, listed.getD j false = true → D[j]? ≠ some (some t)) → a.tmps.getD t undef = a0.tmps.getD t undef
  here : ∀ j d, listed.getD j false = true → D[j]? = some (some d) → a.tmps.getD d undef = v j
  good : ∀ j, listed.getD j false = true → G j (v j) w

theorem getD_set_true (l : Array Bool) (i j : Nat) (hi : i < l.size) : (l.setIfInBounds i true).getD j false = (if j = i then true else l.getD j false) := by
  by_cases h : j = i
  · subst h; simp [Array.getD, hi]
  · rw [if_neg h]
    by_cases hj : j < l.size
    · simp [Array.getD, hj, Ne.symm h]
    · simp [Array.getD, hj]

theorem getD_same (l : Array Bool) (y : Nat) (h : y < l.size) : l.getD y true = l.getD y false := by simp [Array.getD, h]

theorem mem_ready {md : Region.Mode} {ops : Array Oper} {listed : Array Bool} {i : Nat} (h : i ∈ Region.ready md ops listed) :
    i < ops.size ∧ listed.getD i true = false ∧ ∃ o, ops[i]? = some o ∧ ∀ e ∈ o.after.toList, Region.binds md e = true → listed.getD e.on false = true := by
  unfold Region.ready at h
  obtain ⟨h1, h2⟩ := List.mem_filter.1 h
  have hi : i < ops.size := by simpa using h1
  simp only [Bool.and_eq_true, Bool.not_eq_true'] at h2
  refine ⟨hi, h2.1, ops[i], by simp [hi], fun e he hb => ?_⟩
  have h3 := h2.2
  simp only [Array.getElem?_eq_getElem hi, Option.map_some, Option.getD_some] at h3
  have h4 := (Array.all_eq_true'.1 h3) e (by simpa using he)
  simpa [hb] using h4

theorem all_listed {ops : Array Oper} {listed : Array Bool} (hb : ∀ (k : Nat) (o : Oper), ops[k]? = some o → ∀ e ∈ o.after.toList, Region.binds .any e = true → e.on < k) (hr : Region.ready .any ops listed = []) (hls : listed.size = ops.size) : ∀ i, i < ops.size → listed.getD i false = true := by
  intro i
  induction i using Nat.strongRecOn with
  | _ i ih =>
    intro hi
    cases hl : listed.getD i false with
    | true => rfl
    | false =>
      have hmem : i ∈ Region.ready .any ops listed := by
        unfold Region.ready
        refine List.mem_filter.2 ⟨by simpa using hi, ?_⟩
        have hl2 : listed.getD i true = false := by
          have : i < listed.size := by omega
          simpa [Array.getD, this] using hl
        simp only [hl2, Array.getElem?_eq_getElem hi, Option.map_some, Option.getD_some, Bool.not_false, Bool.true_and]
        refine Array.all_eq_true'.2 fun e he => ?_
        cases hbe : Region.binds .any e with
        | false => rfl
        | true =>
          have hlt := hb i ops[i] (by simp [hi]) e (by simpa using he) hbe
          have := ih e.on hlt (by omega)
          simp only [this, Bool.or_true]
      rw [hr] at hmem
      cases hmem

theorem putAll_frame (v : Nat → Value) : ∀ (D : List (Option Tmp)) (i : Nat) (a : Act), (putAll v i D a).tmps.size = a.tmps.size ∧ (putAll v i D a).defers = a.defers ∧
    (∀ t, some t ∉ D → (putAll v i D a).tmps.getD t undef = a.tmps.getD t undef) ∧
    (∀ j d, D[j]? = some (some d) → (∀ k, j < k → D[k]? ≠ some (some d)) → d < a.tmps.size → (putAll v i D a).tmps.getD d undef = v (i + j)) := by
  intro D
  induction D with
  | nil => intro i a; exact ⟨rfl, rfl, fun _ _ => rfl, fun j d h => by simp at h⟩
  | cons x r ih =>
    intro i a
    obtain ⟨h1, h2, h3, h4⟩ := ih (i + 1) (a.put x (v i))
    have hs : (a.put x (v i)).tmps.size = a.tmps.size := by cases x <;> simp [Act.put]
    have hd : (a.put x (v i)).defers = a.defers := by cases x <;> rfl
    refine ⟨h1.trans hs, h2.trans hd, fun t ht => ?_, fun j d hj hlast hlt => ?_⟩
    · simp only [List.mem_cons, not_or] at ht
      rw [putAll, h3 t ht.2]
      cases x with
      | none => rfl
      | some y =>
        have hne : y ≠ t := fun e => ht.1 (by rw [e])
        simp only [Act.put, Array.getD_eq_getD_getElem?, Array.getElem?_setIfInBounds_ne hne]
    · cases j with
      | zero =>
        simp at hj
        subst hj
        have hn : some d ∉ r := by
          intro hm
          obtain ⟨k, hk⟩ := List.mem_iff_getElem?.1 hm
          exact hlast (k + 1) (by omega) (by simpa using hk)
        rw [putAll, h3 d hn]
        simp [Act.put, Array.getD_eq_getD_getElem?, hlt]
      | succ j =>
        have := h4 j d (by simpa using hj) (fun k hk => by simpa using hlast (k + 1) (by omega)) (by rw [hs]; exact hlt)
        rw [putAll, this]; congr 1; omega

theorem wpAny_each {P : Program} {ops : Array Oper} {Q : Exit → Act → World → Prop} {a0 : Act} {w0 : World} (R : World → World → Prop) (D : List (Option Tmp)) (G : Nat → Value → World → Prop)
    (hpl : plain a0.tmps.size 0 D ops.toList = true) (hrf : ∀ a, R a a) (htr : ∀ a b c, R a b → R b c → R a c) (hst : ∀ i v w w', G i v w → R w w' → G i v w') (hsteps : Steps P R D G a0 w0 0 ops.toList)
    (hend : ∀ (v : Nat → Value) (w : World), R w0 w → (∀ i, i < ops.size → G i (v i) w) → Q .normal (putAll v 0 D a0) w) :
    ∀ (fuel : Nat) (listed : Array Bool) (v : Nat → Value) (a : Act) (w : World), Mid ops R D G a0 w0 v listed a w → (fuel = 0 → Region.ready .any ops listed = []) →
      (List.range ops.size).countP (fun i => !listed.getD i false) ≤ fuel → wpAny P .any ops Q fuel listed a w := by
  obtain ⟨hDl, hpa⟩ := plain_at hpl
  have hlen : D.length = ops.size := by simpa using hDl
  have hback : ∀ (k : Nat) (o : Oper), ops[k]? = some o → ∀ e ∈ o.after.toList, Region.binds .any e = true → e.on < k := by
    intro k o hk e he hb
    have := (hpa k o (by simpa using hk)).2.2 e he hb
    omega
  have fin : ∀ (listed : Array Bool) (v : Nat → Value) (a : Act) (w : World), Mid ops R D G a0 w0 v listed a w → Region.ready .any ops listed = [] → Q .normal a w := by
    intro listed v a w hm hr
    have hall := all_listed hback hr hm.ls
    have hp := putAll_frame v D 0 a0
    have ha : a = putAll v 0 D a0 := by
      have ht : a.tmps = (putAll v 0 D a0).tmps := by
        apply Array.ext
        · rw [hm.size, hp.1]
        · intro t h1 h2
          have e : a.tmps.getD t undef = (putAll v 0 D a0).tmps.getD t undef := by
            by_cases hmem : some t ∈ D
            · obtain ⟨j, hj⟩ := List.mem_iff_getElem?.1 hmem
              have hjs : j < ops.size := by rw [← hlen]; exact (List.getElem?_eq_some_iff.1 hj).1
              obtain ⟨g1, g2, _⟩ := hpa j ops[j] (by simp [hjs])
              have hdst : ops[j].dst = some t := by rw [hj] at g1; exact (Option.some.inj g1).symm
              obtain ⟨k1, k2⟩ := g2 t hdst
              rw [hm.here j t (hall j hjs) hj, hp.2.2.2 j t hj k2 k1, Nat.zero_add]
            · rw [hp.2.2.1 t hmem, hm.out t (fun j _ hj => hmem (List.mem_of_getElem? hj))]
          simpa [Array.getD_eq_getD_getElem?, h1, h2] using e
      have hd : a.defers = (putAll v 0 D a0).defers := by rw [hm.defers, hp.2.1]
      cases a
      cases hq : putAll v 0 D a0
      rw [hq] at ht hd
      simp only at ht hd
      rw [ht, hd]
    rw [ha]
    exact hend v w hm.rel (fun i hi => hm.good i (hall i hi))
  intro fuel
  induction fuel with
  | zero =>
    intro listed v a w hm h0 _
    exact ⟨h0 rfl, fin listed v a w hm (h0 rfl)⟩
  | succ fuel ih =>
    intro listed v a w hm _ hcount
    refine ⟨fin listed v a w hm, fun i hi => ?_⟩
    obtain ⟨hlt, hnl, o, ho, haft⟩ := mem_ready hi
    have hlsz : i < listed.size := by rw [hm.ls]; exact hlt
    have hnl' : listed.getD i false = false := by simpa [Array.getD, hlsz] using hnl
    obtain ⟨g1, g2, g3⟩ := hpa i o (by simpa using ho)
    have hstep := hsteps.at i o (by simpa using ho)
    rw [Nat.zero_add] at hstep
    have hout : ∀ t, some t ∉ D → a.eval (.tmp t) = a0.eval (.tmp t) := fun t ht => hm.out t (fun j _ hj => ht (List.mem_of_getElem? hj))
    have hdeps : Deps D G a w o.after.toList := Deps.mk fun e he hb d hd => by
      have hl := haft e he hb
      have hlt' := hback i o ho e he hb
      have hDe : D[e.on]? = some (some d) := by
        have hlt2 : e.on < D.length := by rw [hlen]; omega
        simp only [List.getD, List.getElem?_eq_getElem hlt2, Option.getD_some] at hd
        rw [List.getElem?_eq_getElem hlt2, hd]
      have := hm.here e.on d hl hDe
      show G e.on (a.tmps.getD d undef) w
      rw [this]; exact hm.good e.on hl
    obtain ⟨s1, s2⟩ := hstep a w hm.rel hout hdeps
    -- what is left when it answers x in the world w'
    have next : ∀ (x : Value) (w' : World), G i x w' → R w w' → wpAny P .any ops Q fuel (listed.setIfInBounds i true) (a.put o.dst x) w' := by
      intro x w' hG hR
      have hcnt : (List.range ops.size).countP (fun j => !(listed.setIfInBounds i true).getD j false) ≤ fuel := by
        have h1 : (List.range ops.size).countP (fun j => !(listed.setIfInBounds i true).getD j false) < (List.range ops.size).countP (fun j => !listed.getD j false) := by
          have hmemi : i ∈ List.range ops.size := by simpa using hlt
          have key : ∀ (l : List Nat), i ∈ l → (∀ j, (!(listed.setIfInBounds i true).getD j false) = true → (!listed.getD j false) = true) → l.countP (fun j => !(listed.setIfInBounds i true).getD j false) < l.countP (fun j => !listed.getD j false) := by
            intro l
            induction l with
            | nil => intro h; cases h
            | cons y r ihl =>
              intro hy himp
              have hle : r.countP (fun j => !(listed.setIfInBounds i true).getD j false) ≤ r.countP (fun j => !listed.getD j false) := List.countP_mono_left fun j _ hj => himp j hj
              by_cases hyi : y = i
              · subst hyi
                have e1 : (!(listed.setIfInBounds y true).getD y false) = false := by rw [getD_set_true _ _ _ hlsz, if_pos rfl]; rfl
                have e2 : (!listed.getD y false) = true := by rw [hnl']; rfl
                rw [List.countP_cons, List.countP_cons]
                simp only [e1, e2, if_true, Bool.false_eq_true, if_false]
                omega
              · have hir : i ∈ r := by
                  rcases List.mem_cons.1 hy with h | h
                  · exact absurd h.symm hyi
                  · exact h
                have := ihl hir himp
                rw [List.countP_cons, List.countP_cons]
                have e3 : (listed.setIfInBounds i true).getD y false = listed.getD y false := by rw [getD_set_true _ _ _ hlsz, if_neg hyi]
                rw [e3]; omega
          refine key _ hmemi fun j hj => ?_
          rw [getD_set_true _ _ _ hlsz] at hj
          by_cases hji : j = i
          · rw [if_pos hji] at hj; cases hj
          · rwa [if_neg hji] at hj
        omega
      have hmid : Mid ops R D G a0 w0 (fun j => if j = i then x else v j) (listed.setIfInBounds i true) (a.put o.dst x) w' := by
        refine ⟨?_, by simpa using hm.ls, ?_, htr _ _ _ hm.rel hR, ?_, ?_, ?_⟩
        · rw [← hm.size]; cases o.dst <;> simp [Act.put]
        · rw [← hm.defers]; cases o.dst <;> rfl
        · intro t ht
          have hold := hm.out t (fun j hj => ht j (by rw [getD_set_true _ _ _ hlsz]; split <;> first | rfl | exact hj))
          have hne : o.dst ≠ some t := by
            intro e
            exact ht i (by rw [getD_set_true _ _ _ hlsz, if_pos rfl]) (by rw [g1, e])
          rw [← hold]
          cases hd : o.dst with
          | none => rfl
          | some d =>
            have : d ≠ t := fun e => hne (by rw [hd, e])
            simp only [Act.put, Array.getD_eq_getD_getElem?, Array.getElem?_setIfInBounds_ne this]
        · intro j d hj hD
          by_cases hji : j = i
          · subst hji
            have hd : o.dst = some d := by rw [g1] at hD; exact Option.some.inj hD
            have hsz : d < a.tmps.size := by rw [hm.size]; exact (g2 d hd).1
            simp [hd, Act.put, Array.getD_eq_getD_getElem?, hsz]
          · rw [getD_set_true _ _ _ hlsz, if_neg hji] at hj
            have hold := hm.here j d hj hD
            rw [if_neg hji, ← hold]
            cases hd : o.dst with
            | none => rfl
            | some y =>
              have hne : y ≠ d := by
                rintro rfl
                rw [hd] at g1
                rcases Nat.lt_or_gt_of_ne hji with hlt2 | hgt2
                · have hjs : j < ops.size := by rw [← hlen]; exact (List.getElem?_eq_some_iff.1 hD).1
                  obtain ⟨k1, k2, _⟩ := hpa j ops[j] (by simp [hjs])
                  have hdst : ops[j].dst = some y := by rw [hD] at k1; exact (Option.some.inj k1).symm
                  exact (k2 y hdst).2 i hlt2 g1
                · exact (g2 y hd).2 j hgt2 hD
              simp only [Act.put, Array.getD_eq_getD_getElem?, Array.getElem?_setIfInBounds_ne hne]
        · intro j hj
          by_cases hji : j = i
          · subst hji; simpa using hG
          · rw [getD_set_true _ _ _ hlsz, if_neg hji] at hj
            simp only [if_neg hji]
            exact hst _ _ _ _ (hm.good j hj) hR
      refine ih _ _ _ _ hmid ?_ hcnt
      intro hz
      subst hz
      have hz0 : (List.range ops.size).countP (fun j => !(listed.setIfInBounds i true).getD j false) = 0 := by omega
      rw [List.countP_eq_zero] at hz0
      cases hr : Region.ready .any ops (listed.setIfInBounds i true) with
      | nil => rfl
      | cons y r =>
        have hy : y ∈ Region.ready .any ops (listed.setIfInBounds i true) := by rw [hr]; simp
        obtain ⟨q1, q2, _⟩ := mem_ready hy
        have := hz0 y (by simpa using q1)
        have hys : y < (listed.setIfInBounds i true).size := by simp [hm.ls]; exact q1
        have q3 : (listed.setIfInBounds i true).getD y false = false := by rw [← getD_same _ y hys]; exact q2
        rw [q3] at this
        exact absurd rfl this
    have hwant : Region.wanted o (yielded ops a.tmps) = goes D o a := by
      unfold Region.wanted goes
      cases hg : o.guard with
      | none => rfl
      | some p =>
        obtain ⟨j, want⟩ := p
        simp only [yielded]
        by_cases hj : j < ops.size
        · obtain ⟨k1, k2, _⟩ := hpa j ops[j] (by simp [hj])
          have hDj : D.getD j none = ops[j].dst := by simp [List.getD, k1]
          rw [hDj]
          simp only [Array.getElem?_eq_getElem hj, Option.bind_some]
          cases hd : ops[j].dst with
          | none => simp
          | some d =>
            have hsz : d < a.tmps.size := by rw [hm.size]; exact (k2 d hd).1
            simp only [Option.bind_some, Array.getElem?_eq_getElem hsz]
            have he : a.eval (.tmp d) = a.tmps[d] := by simp [Act.eval, Array.getD, hsz]
            rw [he]
            cases a.tmps[d] <;> simp
        · have hDj : D.getD j none = none := by simp [List.getD, List.getElem?_eq_none (show D.length ≤ j by omega)]
          rw [hDj]
          simp [Array.getElem?_eq_none (show ops.size ≤ j by omega)]
    unfold wpOp
    rw [ho]
    simp only [hwant]
    cases hgo : goes D o a with
    | true =>
      simp only [if_true]
      refine .inl (Yields.wp ?_)
      have := s1 hgo
      revert this
      unfold Yields
      generalize (execOp a.eval o).run P w = res
      intro h
      cases res with
      | ok n w' =>
        cases n <;> simp only at h ⊢ <;> first
          | exact next _ _ h.1 h.2
          | exact h.elim
          | exact Calls.mono h (fun e w'' ⟨y, he, hk⟩ => ⟨y, he, next _ _ hk.1 hk.2⟩)
      | halt y w' => exact h.elim
    | false =>
      simp only [Bool.false_eq_true, if_false]
      exact next undef w (s2 hgo) (hrf w)

/-- A region that draws its order: each operation looked at once. -/
theorem wp_region_each {P : Program} {id : Nat} {ops : Array Oper} {Q : Exit → Act → World → Prop} {a0 : Act} {w0 : World} (R : World → World → Prop) (D : List (Option Tmp)) (G : Nat → Value → World → Prop)
    (hm : P.follows .mixedOrders = true) (hpl : plain a0.tmps.size 0 D ops.toList = true) (hrf : ∀ a, R a a) (htr : ∀ a b c, R a b → R b c → R a c) (hdr : R w0 w0.drew) (hst : ∀ i v w w', G i v w → R w w' → G i v w')
    (hsteps : Steps P R D G a0 w0 0 ops.toList)
    (hend : ∀ (v : Nat → Value) (w : World), R w0 w → (∀ i, i < ops.size → G i (v i) w) → Q .normal (putAll v 0 D a0) w) : (Code.region id ops true).wp P Q a0 w0 := by
  refine wp_region_any hm ?_
  have hno : ∀ j, (Array.replicate ops.size false).getD j false = false := by
    intro j
    by_cases h : j < ops.size <;> simp [Array.getD, h]
  refine wpAny_each R D G hpl hrf htr hst hsteps hend ops.size _ (fun _ => undef) a0 _ ⟨rfl, by simp, rfl, hdr, fun _ _ => rfl, fun j _ hj => ?_, fun j hj => ?_⟩ ?_ ?_
  · rw [hno] at hj; cases hj
  · rw [hno] at hj; cases hj
  · intro h0
    cases hr : Region.ready .any ops (Array.replicate ops.size false) with
    | nil => rfl
    | cons y r =>
      have hy : y ∈ Region.ready .any ops (Array.replicate ops.size false) := by rw [hr]; simp
      have := (mem_ready hy).1
      omega
  · exact Nat.le_trans (List.countP_le_length) (by simp)

theorem Deps.get {D : List (Option Tmp)} {G : Nat → Value → World → Prop} {a : Act} {w : World} : ∀ {es : List Edge} (k : Nat) {e : Edge} {d : Tmp}, Deps D G a w es → es[k]? = some e → Region.binds .any e = true → D.getD e.on none = some d → G e.on (a.eval (.tmp d)) w := by
  intro es
  induction es with
  | nil => intro k e d _ h; simp at h
  | cons x r ih =>
    intro k e d h hk hb hd
    cases k with
    | zero =>
      simp at hk
      subst hk
      have := h.1 hb
      rw [hd] at this
      exact this
    | succ k => exact ih k h.2 (by simpa using hk) hb hd

/-- What is said of a value, and stays so where nothing that is there turns. -/
structure Pd where
  says : Value → World → Prop
  stays : ∀ v w w', says v w → Kept (fun _ => False) w w' → says v w'

def Pd.any : Pd := ⟨fun _ _ => True, fun _ _ _ _ _ => trivial⟩
def Pd.eq (c : Value) : Pd := ⟨fun v _ => v = c, fun _ _ _ h _ => h⟩

/-- What is said of the operations' answers. -/
def Said (Gs : List Pd) (i : Nat) (v : Value) (w : World) : Prop := (Gs.getD i Pd.any).says v w

theorem Step.one {P : Program} {D : List (Option Tmp)} {Gs : List Pd} {a0 : Act} {w0 : World} {i : Nat} {o : Oper} (hg : o.guard = none)
    (h : ∀ (a : Act) (w : World), Kept (fun _ => False) w0 w → (∀ t, some t ∉ D → a.eval (.tmp t) = a0.eval (.tmp t)) → Deps D (Said Gs) a w o.after.toList → Yields P a.eval o w (fun v w' => Said Gs i v w' ∧ Kept (fun _ => False) w w')) :
    Step P (Kept (fun _ => False)) D (Said Gs) a0 w0 i o := by
  intro a w hR hout hD
  refine ⟨fun _ => h a w hR hout hD, fun hgo => ?_⟩
  unfold goes at hgo
  rw [hg] at hgo
  cases hgo

theorem Step.when {P : Program} {D : List (Option Tmp)} {Gs : List Pd} {a0 : Act} {w0 : World} {i : Nat} {o : Oper} (j : Nat) (want : Bool) (d : Tmp) (hg : o.guard = some (j, want)) (hd : D.getD j none = some d)
    (h : ∀ (a : Act) (w : World), Kept (fun _ => False) w0 w → (∀ t, some t ∉ D → a.eval (.tmp t) = a0.eval (.tmp t)) → Deps D (Said Gs) a w o.after.toList → a.eval (.tmp d) = .bool want ∧ Yields P a.eval o w (fun v w' => Said Gs i v w' ∧ Kept (fun _ => False) w w')) :
    Step P (Kept (fun _ => False)) D (Said Gs) a0 w0 i o := by
  intro a w hR hout hD
  obtain ⟨h1, h2⟩ := h a w hR hout hD
  refine ⟨fun _ => h2, fun hgo => ?_⟩
  unfold goes at hgo
  rw [hg] at hgo
  simp only [hd, h1] at hgo
  simp at hgo

/-- An operation that is not carried out. -/
theorem Step.unless {P : Program} {D : List (Option Tmp)} {Gs : List Pd} {a0 : Act} {w0 : World} {i : Nat} {o : Oper} (j : Nat) (want : Bool) (d : Tmp) (hg : o.guard = some (j, want)) (hd : D.getD j none = some d)
    (h : ∀ (a : Act) (w : World), Kept (fun _ => False) w0 w → (∀ t, some t ∉ D → a.eval (.tmp t) = a0.eval (.tmp t)) → Deps D (Said Gs) a w o.after.toList → (a.eval (.tmp d) = .bool (!want) ∨ a.eval (.tmp d) = undef) ∧ Said Gs i undef w) :
    Step P (Kept (fun _ => False)) D (Said Gs) a0 w0 i o := by
  intro a w hR hout hD
  obtain ⟨h1, h2⟩ := h a w hR hout hD
  refine ⟨fun hgo => ?_, fun _ => h2⟩
  unfold goes at hgo
  rw [hg] at hgo
  rcases h1 with h1 | h1
  · simp only [hd, h1] at hgo
    cases want <;> simp at hgo
  · simp only [hd, h1] at hgo
    simp [undef] at hgo

theorem wp_region_said {P : Program} {id : Nat} {ops : Array Oper} {Q : Exit → Act → World → Prop} {a0 : Act} {w0 : World} (D : List (Option Tmp)) (Gs : List Pd)
    (hm : P.follows .mixedOrders = true) (hpl : plain a0.tmps.size 0 D ops.toList = true)
    (hsteps : Steps P (Kept (fun _ => False)) D (Said Gs) a0 w0 0 ops.toList)
    (hend : ∀ (v : Nat → Value) (w : World), Kept (fun _ => False) w0 w → (∀ i, i < ops.size → Said Gs i (v i) w) → Q .normal (putAll v 0 D a0) w) : (Code.region id ops true).wp P Q a0 w0 :=
  wp_region_each (Kept (fun _ => False)) D (Said Gs) hm hpl (fun a => Kept.refl _ a) (fun _ _ _ h k => h.trans k (fun _ _ x => x)) (Kept.refl _ _).drew (fun i _ _ _ h k => (Gs.getD i Pd.any).stays _ _ _ h k) hsteps hend

end Go.Proofs.Ytnccblhdokplkaa
set_option maxRecDepth 100000
namespace Go.Proofs.Ytnccblhdokplkaa
open Go.RowKit

def waitsOn (o : Oper) (j : Nat) : Bool := o.after.toList.any fun e => Region.binds .any e && e.on == j

/-- The operations from n on come last, one behind the other. -/
def tailed (os : List Oper) (n : Nat) : Bool :=
  decide (n < os.length) &&
  ((List.range n).all fun i => (List.range (n + 1)).any fun j => decide (i < j) && (os[j]?.any fun o => waitsOn o i)) &&
  ((List.range os.length).all fun j => !decide (n < j) || (os[j]?.any fun o => waitsOn o (j - 1))) &&
  ((List.range os.length).all fun j => os[j]?.all fun o => o.after.toList.all fun e => !Region.binds .any e || decide (e.on < j)) &&
  ((List.range n).all fun j => os[j]?.all fun o => match o.guard with | none => true | some g => decide (g.1 < n))

structure Tailed (ops : Array Oper) (n : Nat) : Prop where
  lt : n < ops.size
  cov : ∀ i, i < n → ∃ j o, i < j ∧ j ≤ n ∧ ops[j]? = some o ∧ ∃ e ∈ o.after.toList, Region.binds .any e = true ∧ e.on = i
  line : ∀ j o, n < j → ops[j]? = some o → ∃ e ∈ o.after.toList, Region.binds .any e = true ∧ e.on = j - 1
  back : ∀ (k : Nat) (o : Oper), ops[k]? = some o → ∀ e ∈ o.after.toList, Region.binds .any e = true → e.on < k
  guards : ∀ (k : Nat) (o : Oper), k < n → ops[k]? = some o → ∀ g, o.guard = some g → g.1 < n

theorem waitsOn_iff {o : Oper} {j : Nat} : waitsOn o j = true ↔ ∃ e ∈ o.after.toList, Region.binds .any e = true ∧ e.on = j := by
  unfold waitsOn
  rw [List.any_eq_true]
  constructor
  · rintro ⟨e, he, h⟩; simp only [Bool.and_eq_true, beq_iff_eq] at h; exact ⟨e, he, h.1, h.2⟩
  · rintro ⟨e, he, h1, h2⟩; exact ⟨e, he, by simp [h1, h2]⟩

theorem tailed_all {ops : Array Oper} {n : Nat} (h : tailed ops.toList n = true) : Tailed ops n := by
  unfold tailed at h
  simp only [Bool.and_eq_true, decide_eq_true_eq, List.all_eq_true, List.mem_range] at h
  obtain ⟨⟨⟨⟨h1, h2⟩, h3⟩, h4⟩, h5⟩ := h
  refine ⟨by simpa using h1, fun i hi => ?_, fun j o hj ho => ?_, fun k o hk e he hb => ?_, fun k o hkn hk g hg => ?_⟩
  · obtain ⟨j, hj, h⟩ := List.any_eq_true.1 (h2 i hi)
    have hj' : j < n + 1 := by simpa using hj
    simp only [Bool.and_eq_true, decide_eq_true_eq] at h
    cases ho : ops.toList[j]? with
    | none => rw [ho] at h; simp at h
    | some o =>
      rw [ho] at h
      exact ⟨j, o, h.1, by omega, by simpa using ho, waitsOn_iff.1 (by simpa using h.2)⟩
  · have hlt : j < ops.toList.length := by have := (Array.getElem?_eq_some_iff.1 ho).1; simpa using this
    have h := h3 j hlt
    have ho' : ops.toList[j]? = some o := by simpa using ho
    rw [ho'] at h
    simp only [hj, decide_true, Bool.not_true, Bool.false_or, Option.any_some] at h
    exact waitsOn_iff.1 h
  · have hlt : k < ops.toList.length := by have := (Array.getElem?_eq_some_iff.1 hk).1; simpa using this
    have h := h4 k hlt
    have ho' : ops.toList[k]? = some o := by simpa using hk
    rw [ho'] at h
    simp only [Option.all_some] at h
    have := List.all_eq_true.1 h e he
    simpa [hb] using this
  · have h := h5 k hkn
    have ho' : ops.toList[k]? = some o := by simpa using hk
    rw [ho'] at h
    simp only [Option.all_some, hg] at h
    simpa using h

theorem ready_mk {ops : Array Oper} {listed : Array Bool} {i : Nat} {o : Oper} (hi : i < ops.size) (hls : listed.size = ops.size) (hl : listed.getD i false = false) (ho : ops[i]? = some o)
    (h : ∀ e ∈ o.after.toList, Region.binds .any e = true → listed.getD e.on false = true) : i ∈ Region.ready .any ops listed := by
  unfold Region.ready
  refine List.mem_filter.2 ⟨by simpa using hi, ?_⟩
  have hl2 : listed.getD i true = false := by
    have : i < listed.size := by omega
    simpa [Array.getD, this] using hl
  simp only [hl2, ho, Option.map_some, Option.getD_some, Bool.not_false, Bool.true_and]
  refine Array.all_eq_true'.2 fun e he => ?_
  cases hbe : Region.binds .any e with
  | false => rfl
  | true =>
    have := h e (by simpa using he) hbe
    simp only [this, Bool.or_true]

theorem wpAny_last {P : Program} {ops : Array Oper} {Q : Exit → Act → World → Prop} {n : Nat} (T : Tailed ops n) :
    ∀ (fuel k : Nat) (listed : Array Bool) (a : Act) (w : World), n ≤ k → k ≤ ops.size → ops.size - k ≤ fuel → listed.size = ops.size → (∀ j, j < k → listed.getD j false = true) → (∀ j, k ≤ j → listed.getD j false = false) →
      wpList P ops Q (ops.toList.drop k) a w → wpAny P .any ops Q fuel listed a w := by
  have none_ready : ∀ (listed : Array Bool), listed.size = ops.size → (∀ j, j < ops.size → listed.getD j false = true) → Region.ready .any ops listed = [] := by
    intro listed hls hall
    cases hr : Region.ready .any ops listed with
    | nil => rfl
    | cons y r =>
      have hy : y ∈ Region.ready .any ops listed := by rw [hr]; simp
      obtain ⟨q1, q2, _⟩ := mem_ready hy
      have h1 := hall y q1
      rw [getD_same _ y (by omega)] at q2
      rw [q2] at h1; cases h1
  intro fuel
  induction fuel with
  | zero =>
    intro k listed a w hn hk hf hls h1 h2 hw
    have hke : k = ops.size := by omega
    subst hke
    rw [List.drop_of_length_le (by simp)] at hw
    exact ⟨none_ready listed hls h1, hw⟩
  | succ fuel ih =>
    intro k listed a w hn hk hf hls h1 h2 hw
    by_cases hke : k = ops.size
    · subst hke
      rw [List.drop_of_length_le (by simp)] at hw
      have hr := none_ready listed hls h1
      exact ⟨fun _ => hw, fun i hi => by rw [hr] at hi; cases hi⟩
    · have hlt : k < ops.size := by omega
      have hok : ops[k]? = some ops[k] := by simp [hlt]
      have hdrop : ops.toList.drop k = ops[k] :: ops.toList.drop (k + 1) := by
        rw [List.drop_eq_getElem_cons (by simpa using hlt)]; simp
      rw [hdrop] at hw
      have hrk : k ∈ Region.ready .any ops listed := ready_mk hlt hls (h2 k (Nat.le_refl _)) hok fun e he hb => h1 _ (T.back k _ hok e he hb)
      refine ⟨fun hr => (by rw [hr] at hrk; cases hrk), fun i hi => ?_⟩
      obtain ⟨q1, q2, o, ho, haft⟩ := mem_ready hi
      rw [getD_same _ i (by omega)] at q2
      have hik : i = k := by
        rcases Nat.lt_trichotomy i k with h | h | h
        · rw [h1 i h] at q2; cases q2
        · exact h
        · obtain ⟨e, he, hb, hon⟩ := T.line i o (by omega) ho
          have := haft e he hb
          rw [hon, h2 (i - 1) (by omega)] at this; cases this
      subst hik
      have next : ∀ (a' : Act) (w' : World), wpList P ops Q (ops.toList.drop (i + 1)) a' w' → wpAny P .any ops Q fuel (listed.setIfInBounds i true) a' w' := by
        intro a' w' h'
        have hlsz : i < listed.size := by omega
        refine ih (i + 1) _ a' w' (by omega) (by omega) (by omega) (by simpa using hls) (fun j hj => ?_) (fun j hj => ?_) h'
        · rw [getD_set_true _ _ _ hlsz]; split
          · rfl
          · exact h1 j (by omega)
        · rw [getD_set_true _ _ _ hlsz, if_neg (by omega)]; exact h2 j (by omega)
      unfold wpList at hw
      unfold wpOp
      rw [hok]
      simp only
      split at hw
      · rw [if_pos ‹_›]
        rcases hw with h | h
        · exact .inl (Oper.wp_mono next h)
        · exact .inr h
      · rw [if_neg ‹_›]
        exact next _ _ hw

theorem wpAny_tail {P : Program} {ops : Array Oper} {Q : Exit → Act → World → Prop} {a0 : Act} {w0 : World} (n : Nat) (T : Tailed ops n) (R : World → World → Prop) (D : List (Option Tmp)) (G : Nat → Value → World → Prop)
    (hpl : plain a0.tmps.size 0 D (ops.toList.take n) = true) (hrf : ∀ a, R a a) (htr : ∀ a b c, R a b → R b c → R a c) (hst : ∀ i v w w', G i v w → R w w' → G i v w') (hsteps : Steps P R D G a0 w0 0 (ops.toList.take n))
    (hend : ∀ (v : Nat → Value) (w : World), R w0 w → (∀ i, i < n → G i (v i) w) → wpList P ops Q (ops.toList.drop n) (putAll v 0 D a0) w) :
    ∀ (fuel : Nat) (listed : Array Bool) (v : Nat → Value) (a : Act) (w : World), Mid ops R D G a0 w0 v listed a w →
      (∀ (k : Nat) (o : Oper), ops[k]? = some o → listed.getD k false = true → ∀ e ∈ o.after.toList, Region.binds .any e = true → listed.getD e.on false = true) → (∀ j, n ≤ j → listed.getD j false = false) →
      (List.range ops.size).countP (fun i => !listed.getD i false) ≤ fuel → wpAny P .any ops Q fuel listed a w := by
  have hlt0 := T.lt
  obtain ⟨hDl, hpa'⟩ := plain_at hpl
  have hlen : D.length = n := by
    have : D.length = min n ops.size := by simpa using hDl
    omega
  have hpa : ∀ k o, k < n → ops.toList[k]? = some o → D[k]? = some o.dst ∧ (∀ d, o.dst = some d → d < a0.tmps.size ∧ ∀ j, k < j → D[j]? ≠ some (some d)) := by
    intro k o hk ho
    have h := hpa' k o (by rw [List.getElem?_take, if_pos hk]; exact ho)
    exact ⟨h.1, h.2.1⟩
  have hback := T.back
  have fin : ∀ (listed : Array Bool) (v : Nat → Value) (a : Act) (w : World), Mid ops R D G a0 w0 v listed a w → (∀ i, i < n → listed.getD i false = true) → wpList P ops Q (ops.toList.drop n) a w := by
    intro listed v a w hm hall
    have hp := putAll_frame v D 0 a0
    have ha : a = putAll v 0 D a0 := by
      have ht : a.tmps = (putAll v 0 D a0).tmps := by
        apply Array.ext
        · rw [hm.size, hp.1]
        · intro t h1 h2
          have e : a.tmps.getD t undef = (putAll v 0 D a0).tmps.getD t undef := by
            by_cases hmem : some t ∈ D
            · obtain ⟨j, hj⟩ := List.mem_iff_getElem?.1 hmem
              have hjs : j < n := by rw [← hlen]; exact (List.getElem?_eq_some_iff.1 hj).1
              have hjo : j < ops.size := by omega
              obtain ⟨g1, g2⟩ := hpa j ops[j] hjs (by simp [hjo])
              have hdst : ops[j].dst = some t := by rw [hj] at g1; exact (Option.some.inj g1).symm
              obtain ⟨k1, k2⟩ := g2 t hdst
              rw [hm.here j t (hall j hjs) hj, hp.2.2.2 j t hj k2 k1, Nat.zero_add]
            · rw [hp.2.2.1 t hmem, hm.out t (fun j _ hj => hmem (List.mem_of_getElem? hj))]
          simpa [Array.getD_eq_getD_getElem?, h1, h2] using e
      have hd : a.defers = (putAll v 0 D a0).defers := by rw [hm.defers, hp.2.1]
      cases a
      cases hq : putAll v 0 D a0
      rw [hq] at ht hd
      simp only at ht hd
      rw [ht, hd]
    rw [ha]
    exact hend v w hm.rel (fun i hi => hm.good i (hall i hi))
  intro fuel
  induction fuel with
  | zero =>
    intro listed v a w hm _ htl hcount
    exfalso
    have hz : (List.range ops.size).countP (fun i => !listed.getD i false) = 0 := by omega
    rw [List.countP_eq_zero] at hz
    have := hz n (by simpa using hlt0)
    rw [htl n (Nat.le_refl _)] at this
    exact this rfl
  | succ fuel ih =>
    intro listed v a w hm hcl htl hcount
    refine ⟨fun hr => ?_, fun i hi => ?_⟩
    · have := all_listed hback hr hm.ls n hlt0
      rw [htl n (Nat.le_refl _)] at this; cases this
    obtain ⟨hlt, hnl, o, ho, haft⟩ := mem_ready hi
    have hlsz : i < listed.size := by rw [hm.ls]; exact hlt
    have hnl' : listed.getD i false = false := by simpa [Array.getD, hlsz] using hnl
    have hin : i ≤ n := by
      rcases Nat.lt_or_ge n i with h | h
      · obtain ⟨e, he, hb, hon⟩ := T.line i o h ho
        have := haft e he hb
        rw [hon, htl (i - 1) (by omega)] at this; cases this
      · exact h
    by_cases hine : i = n
    · -- all others are done
      have hall : ∀ j, j < n → listed.getD j false = true := by
        suffices h : ∀ m j, j + m = n → j < n → listed.getD j false = true by
          intro j hj; exact h (n - j) j (by omega) hj
        intro m
        induction m using Nat.strongRecOn with
        | _ m ihm =>
          intro j hm2 hj
          obtain ⟨j', o', h1, h2, h3, e, he, hb, hon⟩ := T.cov j hj
          by_cases hj' : j' = n
          · subst hj'
            rw [← hine] at h3
            rw [ho] at h3
            cases h3
            rw [← hon]; exact haft e he hb
          · have hl := ihm (n - j') (by omega) j' (by omega) (by omega)
            rw [← hon]; exact hcl j' o' h3 hl e he hb
      have hw := fin listed v a w hm hall
      have hfu : ops.size - n ≤ fuel + 1 := by
        have hle : (List.range' n (ops.size - n)).countP (fun i => !listed.getD i false) ≤ (List.range ops.size).countP (fun i => !listed.getD i false) := by
          apply List.Sublist.countP_le
          rw [List.range_eq_range', show ops.size = n + (ops.size - n) by omega, ← List.range'_append_1]
          simp
        have he : (List.range' n (ops.size - n)).countP (fun i => !listed.getD i false) = ops.size - n := by
          rw [List.countP_eq_length.2]
          · simp
          · intro x hx
            have := (List.mem_range'_1.1 hx).1
            rw [htl x this]; rfl
        omega
      have hall2 := wpAny_last (P := P) (Q := Q) T (fuel + 1) n listed a w (Nat.le_refl _) (by omega) hfu hm.ls hall htl hw
      exact hall2.2 i hi
    have hin' : i < n := by omega
    obtain ⟨g1, g2⟩ := hpa i o hin' (by simpa using ho)
    have hstep := hsteps.at i o (by rw [List.getElem?_take, if_pos hin']; simpa using ho)
    rw [Nat.zero_add] at hstep
    have hout : ∀ t, some t ∉ D → a.eval (.tmp t) = a0.eval (.tmp t) := fun t ht => hm.out t (fun j _ hj => ht (List.mem_of_getElem? hj))
    have hdeps : Deps D G a w o.after.toList := Deps.mk fun e he hb d hd => by
      have hl := haft e he hb
      have hlt' := hback i o ho e he hb
      have hDe : D[e.on]? = some (some d) := by
        have hlt2 : e.on < D.length := by rw [hlen]; omega
        simp only [List.getD, List.getElem?_eq_getElem hlt2, Option.getD_some] at hd
        rw [List.getElem?_eq_getElem hlt2, hd]
      have := hm.here e.on d hl hDe
      show G e.on (a.tmps.getD d undef) w
      rw [this]; exact hm.good e.on hl
    obtain ⟨s1, s2⟩ := hstep a w hm.rel hout hdeps
    -- what is left when it answers x in the world w'
    have next : ∀ (x : Value) (w' : World), G i x w' → R w w' → wpAny P .any ops Q fuel (listed.setIfInBounds i true) (a.put o.dst x) w' := by
      intro x w' hG hR
      have hcnt : (List.range ops.size).countP (fun j => !(listed.setIfInBounds i true).getD j false) ≤ fuel := by
        have h1 : (List.range ops.size).countP (fun j => !(listed.setIfInBounds i true).getD j false) < (List.range ops.size).countP (fun j => !listed.getD j false) := by
          have hmemi : i ∈ List.range ops.size := by simpa using hlt
          have key : ∀ (l : List Nat), i ∈ l → (∀ j, (!(listed.setIfInBounds i true).getD j false) = true → (!listed.getD j false) = true) → l.countP (fun j => !(listed.setIfInBounds i true).getD j false) < l.countP (fun j => !listed.getD j false) := by
            intro l
            induction l with
            | nil => intro h; cases h
            | cons y r ihl =>
              intro hy himp
              have hle : r.countP (fun j => !(listed.setIfInBounds i true).getD j false) ≤ r.countP (fun j => !listed.getD j false) := List.countP_mono_left fun j _ hj => himp j hj
              by_cases hyi : y = i
              · subst hyi
                have e1 : (!(listed.setIfInBounds y true).getD y false) = false := by rw [getD_set_true _ _ _ hlsz, if_pos rfl]; rfl
                have e2 : (!listed.getD y false) = true := by rw [hnl']; rfl
                rw [List.countP_cons, List.countP_cons]
                simp only [e1, e2, if_true, Bool.false_eq_true, if_false]
                omega
              · have hir : i ∈ r := by
                  rcases List.mem_cons.1 hy with h | h
                  · exact absurd h.symm hyi
                  · exact h
                have := ihl hir himp
                rw [List.countP_cons, List.countP_cons]
                have e3 : (listed.setIfInBounds i true).getD y false = listed.getD y false := by rw [getD_set_true _ _ _ hlsz, if_neg hyi]
                rw [e3]; omega
          refine key _ hmemi fun j hj => ?_
          rw [getD_set_true _ _ _ hlsz] at hj
          by_cases hji : j = i
          · rw [if_pos hji] at hj; cases hj
          · rwa [if_neg hji] at hj
        omega
      have hmid : Mid ops R D G a0 w0 (fun j => if j = i then x else v j) (listed.setIfInBounds i true) (a.put o.dst x) w' := by
        refine ⟨?_, by simpa using hm.ls, ?_, htr _ _ _ hm.rel hR, ?_, ?_, ?_⟩
        · rw [← hm.size]; cases o.dst <;> simp [Act.put]
        · rw [← hm.defers]; cases o.dst <;> rfl
        · intro t ht
          have hold := hm.out t (fun j hj => ht j (by rw [getD_set_true _ _ _ hlsz]; split <;> first | rfl | exact hj))
          have hne : o.dst ≠ some t := by
            intro e
            exact ht i (by rw [getD_set_true _ _ _ hlsz, if_pos rfl]) (by rw [g1, e])
          rw [← hold]
          cases hd : o.dst with
          | none => rfl
          | some d =>
            have : d ≠ t := fun e => hne (by rw [hd, e])
            simp only [Act.put, Array.getD_eq_getD_getElem?, Array.getElem?_setIfInBounds_ne this]
        · intro j d hj hD
          by_cases hji : j = i
          · subst hji
            have hd : o.dst = some d := by rw [g1] at hD; exact Option.some.inj hD
            have hsz : d < a.tmps.size := by rw [hm.size]; exact (g2 d hd).1
            simp [hd, Act.put, Array.getD_eq_getD_getElem?, hsz]
          · rw [getD_set_true _ _ _ hlsz, if_neg hji] at hj
            have hold := hm.here j d hj hD
            rw [if_neg hji, ← hold]
            cases hd : o.dst with
            | none => rfl
            | some y =>
              have hne : y ≠ d := by
                rintro rfl
                rw [hd] at g1
                rcases Nat.lt_or_gt_of_ne hji with hlt2 | hgt2
                · have hjn : j < n := by rw [← hlen]; exact (List.getElem?_eq_some_iff.1 hD).1
                  have hjs : j < ops.size := by omega
                  obtain ⟨k1, k2⟩ := hpa j ops[j] hjn (by simp [hjs])
                  have hdst : ops[j].dst = some y := by rw [hD] at k1; exact (Option.some.inj k1).symm
                  exact (k2 y hdst).2 i hlt2 g1
                · exact (g2 y hd).2 j hgt2 hD
              simp only [Act.put, Array.getD_eq_getD_getElem?, Array.getElem?_setIfInBounds_ne hne]
        · intro j hj
          by_cases hji : j = i
          · subst hji; simpa using hG
          · rw [getD_set_true _ _ _ hlsz, if_neg hji] at hj
            simp only [if_neg hji]
            exact hst _ _ _ _ (hm.good j hj) hR
      refine ih _ _ _ _ hmid ?_ ?_ hcnt
      · intro k o' hk hl e he hb
        rw [getD_set_true _ _ _ hlsz] at hl ⊢
        by_cases hee : e.on = i
        · rw [if_pos hee]
        · rw [if_neg hee]
          by_cases hki : k = i
          · subst hki
            rw [ho] at hk
            cases hk
            exact haft e he hb
          · rw [if_neg hki] at hl
            exact hcl k o' hk hl e he hb
      · intro j hj
        rw [getD_set_true _ _ _ hlsz, if_neg (by omega)]; exact htl j hj
    have hwant : Region.wanted o (yielded ops a.tmps) = goes D o a := by
      unfold Region.wanted goes
      cases hg : o.guard with
      | none => rfl
      | some p =>
        obtain ⟨j, want⟩ := p
        simp only [yielded]
        by_cases hj : j < n
        · have hjo : j < ops.size := by omega
          obtain ⟨k1, k2⟩ := hpa j ops[j] hj (by simp [hjo])
          have hDj : D.getD j none = ops[j].dst := by simp [List.getD, k1]
          rw [hDj]
          simp only [Array.getElem?_eq_getElem hjo, Option.bind_some]
          cases hd : ops[j].dst with
          | none => simp
          | some d =>
            have hsz : d < a.tmps.size := by rw [hm.size]; exact (k2 d hd).1
            simp only [Option.bind_some, Array.getElem?_eq_getElem hsz]
            have he : a.eval (.tmp d) = a.tmps[d] := by simp [Act.eval, Array.getD, hsz]
            rw [he]
            cases a.tmps[d] <;> simp
        · exact absurd (T.guards i o hin' ho _ hg) hj
    unfold wpOp
    rw [ho]
    simp only [hwant]
    cases hgo : goes D o a with
    | true =>
      simp only [if_true]
      refine .inl (Yields.wp ?_)
      have := s1 hgo
      revert this
      unfold Yields
      generalize (execOp a.eval o).run P w = res
      intro h
      cases res with
      | ok n w' =>
        cases n <;> simp only at h ⊢ <;> first
          | exact next _ _ h.1 h.2
          | exact h.elim
          | exact Calls.mono h (fun e w'' ⟨y, he, hk⟩ => ⟨y, he, next _ _ hk.1 hk.2⟩)
      | halt y w' => exact h.elim
    | false =>
      simp only [Bool.false_eq_true, if_false]
      exact next undef w (s2 hgo) (hrf w)


theorem wp_region_tail {P : Program} {id : Nat} {ops : Array Oper} {Q : Exit → Act → World → Prop} {a0 : Act} {w0 : World} (n : Nat) (D : List (Option Tmp)) (Gs : List Pd)
    (hm : P.follows .mixedOrders = true) (hta : tailed ops.toList n = true) (hpl : plain a0.tmps.size 0 D (ops.toList.take n) = true)
    (hsteps : Steps P (Kept (fun _ => False)) D (Said Gs) a0 w0 0 (ops.toList.take n))
    (hend : ∀ (v : Nat → Value) (w : World), Kept (fun _ => False) w0 w → (∀ i, i < n → Said Gs i (v i) w) → wpList P ops Q (ops.toList.drop n) (putAll v 0 D a0) w) : (Code.region id ops true).wp P Q a0 w0 := by
  refine wp_region_any hm ?_
  have T := tailed_all hta
  have hno : ∀ j, (Array.replicate ops.size false).getD j false = false := by
    intro j
    by_cases h : j < ops.size <;> simp [Array.getD, h]
  refine wpAny_tail n T (Kept (fun _ => False)) D (Said Gs) hpl (fun a => Kept.refl _ a) (fun _ _ _ h k => h.trans k (fun _ _ x => x)) (fun i _ _ _ h k => (Gs.getD i Pd.any).stays _ _ _ h k) hsteps hend ops.size _ (fun _ => undef) a0 _ ⟨rfl, by simp, rfl, (Kept.refl _ _).drew, fun _ _ => rfl, fun j _ hj => ?_, fun j hj => ?_⟩ ?_ ?_ ?_
  · rw [hno] at hj; cases hj
  · rw [hno] at hj; cases hj
  · intro k o _ hl; rw [hno] at hl; cases hl
  · intro j _; exact hno j
  · exact Nat.le_trans (List.countP_le_length) (by simp)
end Go.Proofs.Ytnccblhdokplkaa
set_option maxRecDepth 100000
namespace Go.Proofs.Ytnccblhdokplkaa
open Go.RowKit

section
variable {P : Program} {ρ : Operand → Value} {o : Oper} {w : World} {R : Value → World → Prop}

theorem y_val {v : Value} {w' : World} (h : (execOp ρ o).run P w = .ok (.value v) w') (hR : R v w') : Yields P ρ o w R := by
  unfold Yields; rw [h]; exact hR

theorem y_move {x : Operand} (ho : o.op = .move x) (h : R (ρ x) w) : Yields P ρ o w R := y_val (by simp [execOp, ho]) h
theorem y_assign {x : Operand} (ho : o.op = .assign x) (h : R (ρ x) w) : Yields P ρ o w R := y_val (by simp [execOp, ho]) h
theorem y_pick_true {c x y : Operand} (ho : o.op = .pick c x y) (hc : ρ c = .bool true) (h : R (ρ x) w) : Yields P ρ o w R := y_val (by simp [execOp, ho, hc, asBool]) h
theorem y_pick_false {c x y : Operand} (ho : o.op = .pick c x y) (hc : ρ c = .bool false) (h : R (ρ y) w) : Yields P ρ o w R := y_val (by simp [execOp, ho, hc, asBool]) h

theorem y_eql_int {t t' : TypeId} {k : IntKind} {x y : Operand} {m n : Int} (ho : o.op = .binOp .eql t x y t') (hx : ρ x = .int k m) (hy : ρ y = .int k n) (h : R (.bool (m == n)) w) : Yields P ρ o w R :=
  y_val (by simp [execOp, ho, hx, hy, go_sem]) h
theorem y_eql_text {t t' : TypeId} {x y : Operand} {m n : ByteArray} (ho : o.op = .binOp .eql t x y t') (hx : ρ x = .string m) (hy : ρ y = .string n) (h : R (.bool (m.toList == n.toList)) w) : Yields P ρ o w R :=
  y_val (by simp [execOp, ho, hx, hy, go_sem]) h
end

section
variable {P : Program} {ρ : Operand → Value} {o : Oper} {w : World} {R : Value → World → Prop}

theorem y_eql_bool {t t' : TypeId} {x y : Operand} {m n : Bool} (ho : o.op = .binOp .eql t x y t') (hx : ρ x = .bool m) (hy : ρ y = .bool n) (hu : P.underlying t = some .bool) (h : R (.bool (m == n)) w) : Yields P ρ o w R :=
  y_val (by simp [execOp, ho, hx, hy, hu, go_sem]) h
theorem y_shr {t t' : TypeId} {k k' : IntKind} {x y : Operand} {m : Int} {n : Nat} (ho : o.op = .binOp .shr t x y t') (hx : ρ x = .int k m) (hy : ρ y = .int k' (n : Int)) (hn : n ≤ k.bits) (h : R (.int k (m / 2 ^ n)) w) : Yields P ρ o w R :=
  y_val (by
    have h0 : ¬ ((n : Int) < 0) := by omega
    have hm : min n k.bits = n := by omega
    have hd : m.fdiv (2 ^ n) = m / 2 ^ n := Int.fdiv_eq_ediv_of_nonneg _ (Int.le_of_lt (Int.pow_pos (by decide)))
    simp only [execOp, ho, hx, hy, binOp_shr, Op.shift, if_neg h0, Int.toNat_natCast, hm, hd, eqGuard]
    rfl) h

theorem y_conv {src dst : TypeId} {x : Operand} {k k' : IntKind} {n : Int} {d : TypeDesc} (ho : o.op = .convert src dst x) (hx : ρ x = .int k n) (hs : P.underlying src = some d) (hd : P.underlying dst = some (.int k')) (h : R (.int k' (k'.wrap n)) w) : Yields P ρ o w R :=
  y_val (v := .int k' (k'.wrap n)) (w' := w) (by simp [execOp, ho, hx, convert, run_underlying hs, run_underlying hd, Conv.intToInt]) h

theorem y_ld {ty : TypeId} {x : Operand} {a : Addr} {v : Value} {k : IntKind} (ho : o.op = .load ty x) (hx : ρ x = .pointer (some a)) (hc : w.cell? a = some v) (hu : P.underlying ty = some (.int k)) (h : R v w) : Yields P ρ o w R :=
  y_val (v := v) (w' := w) (by simp [execOp, ho, hx, Instr.loadAt, Instr.sureAddr, loadVar, isAgg, run_underlying hu, hc]) h
end
end Go.Proofs.Ytnccblhdokplkaa
set_option maxRecDepth 100000
namespace Go.Proofs.Ytnccblhdokplkaa
open Go.RowKit

/-- The blocks of the loops over functions that are behind: they lie in F behind the slots. -/
def marksOf : Value → List Nat
  | .tuple vs => vs.toList.filterMap fun | .int .i64 n => some n.toNat | _ => none
  | _ => []
def marked (v : Value) : List Deferred := (marksOf v).map fun D => { target := .collected D, args := #[] }

/-- What the slots hold. -/
structure Fr (N : Nat) (F : Nat → Value) (a : Act) : Prop where
  size : a.tmps.size = N
  defers : a.defers = marked (F N)
  at' : ∀ t, Nat.blt t N = true → a.tmps.getD t undef = F t

def ev (F : Nat → Value) : Operand → Value
  | .tmp t => F t
  | .const v => v
  | .global g => .pointer (some ⟨g, 0, none⟩)
  | .func f => .func (.func f) #[] #[]
/-- The slots alone. -/
def cutF (N : Nat) (F : Nat → Value) : Nat → Value := fun t => cond (Nat.blt t N) (F t) undef

theorem eval_ev (a : Act) : a.eval = ev (fun t => a.tmps.getD t undef) := by funext x; cases x <;> rfl
theorem Fr.cut {N : Nat} {F : Nat → Value} {a : Act} (h : Fr N F a) : (fun t => a.tmps.getD t undef) = cutF N F := by
  funext t
  unfold cutF
  cases hb : Nat.blt t N with
  | true => exact h.at' t hb
  | false =>
    have hle : N ≤ t := by
      rcases Nat.lt_or_ge t N with h1 | h1
      · have hb2 : Nat.blt t N = true := by simpa [Nat.blt_eq] using h1
        rw [hb2] at hb; cases hb
      · exact h1
    simp [Array.getD_eq_getD_getElem?, Array.getElem?_eq_none (by rw [h.size]; exact hle)]
theorem Fr.eval {N : Nat} {F : Nat → Value} {a : Act} (h : Fr N F a) : a.eval = ev (cutF N F) := by rw [eval_ev, h.cut]

def up (F : Nat → Value) (d : Nat) (v : Value) : Nat → Value := fun t => cond (Nat.beq t d) v (F t)
def putF (F : Nat → Value) : Option Tmp → Value → Nat → Value
  | none, _ => F
  | some d, v => up F d v
def fits (N : Nat) : Option Tmp → Bool
  | none => true
  | some d => Nat.blt d N

theorem Fr.put {N : Nat} {F : Nat → Value} {a : Act} (h : Fr N F a) {d : Option Tmp} (hd : fits N d = true) (v : Value) : Fr N (putF F d v) (a.put d v) := by
  cases d with
  | none => exact h
  | some d =>
    have hdn : d < N := by simpa [fits, Nat.blt_eq] using hd
    have hlt : d < a.tmps.size := by rw [h.size]; exact hdn
    have hN : up F d v N = F N := by
      unfold up
      cases hb : Nat.beq N d with
      | false => rfl
      | true => exact absurd (Nat.eq_of_beq_eq_true hb) (Nat.ne_of_gt hdn)
    refine ⟨by rw [← h.size]; simp [Act.put], ?_, fun t ht => ?_⟩
    · show a.defers = marked (up F d v N)
      rw [hN]; exact h.defers
    · show (a.tmps.setIfInBounds d v).getD t undef = up F d v t
      unfold up
      by_cases e : t = d
      · subst e; simp [Array.getD_eq_getD_getElem?, hlt]
      · have : Nat.beq t d = false := by
          cases hb : Nat.beq t d with
          | false => rfl
          | true => exact absurd (Nat.eq_of_beq_eq_true hb) e
        rw [this, cond_false, ← h.at' t ht]
        simp only [Array.getD_eq_getD_getElem?, Array.getElem?_setIfInBounds_ne (Ne.symm e)]

def Fp (N : Nat) (Q : (Exit → (Nat → Value) → World → Prop)) : Exit → Act → World → Prop := fun e a w => ∃ F, Fr N F a ∧ Q e F w
/-- Where the code runs: in a function's own run (none; some 0: where it calls the body of a loop over it), or in a round of a range over a function, whose record is l (some (l + 1)). -/
def fen : Option Nat → Fence
  | none => Fence.wide
  | some 0 => Fence.wide
  | some (l + 1) => Fence.wide.inRound l
theorem fen_fn (l : Option Nat) (f : FuncId) : (fen l).fn f := by
  rcases l with _ | _ | l <;> trivial
theorem fen_depth (l : Option Nat) : (fen l).depth = none := by
  rcases l with _ | _ | l <;> rfl
def wq (l : Option Nat) (P : Program) (N : Nat) (c : Code) (Q : (Exit → (Nat → Value) → World → Prop)) (F : Nat → Value) (w : World) : Prop := ∀ a, Fr N F a → c.wpIn (fen l) 0 P (Fp N Q) a w

theorem not_deferred {P : Program} {ρ : Operand → Value} {o : Oper} {w : World} {R : Value → World → Prop} (h : Yields P ρ o w R) : ∀ c, o.op ≠ .defer c := by
  intro c hc
  unfold Yields at h
  simp only [execOp, hc, Sem.run_bind] at h
  cases hr : (resolve ρ c o.type).run P w with
  | ok d w' => simp [hr] at h
  | halt x w' => simp [hr] at h
theorem calls_fen {l : Option Nat} {n : Nat} {P : Program} {f : FuncId} {args : Array Value} {w : World} {R : Ending → World → Prop} (h : Calls P f args w R) : CallsIn (fen l) n P f args w R := by
  rcases l with _ | _ | l
  · exact callsIn_wide.2 h
  · exact callsIn_wide.2 h
  · exact CallsIn.inRound l (callsIn_wide.2 h)
theorem Yields.wpIn {l : Option Nat} {P : Program} {a : Act} {o : Oper} {w : World} {K : Act → World → Prop} {Q : Exit → Act → World → Prop} (h : Yields P a.eval o w (fun v w' => K (a.put o.dst v) w')) : o.wpIn (fen l) 0 P a w K Q := by
  refine ⟨fun f _ => fen_fn l f, ?_⟩
  rw [Oper.semAt_eq _ _ _ (not_deferred h)]
  unfold Yields at h
  generalize (execOp a.eval o).run P w = r at *
  cases r with
  | ok n w' =>
    cases n <;> simp only at h <;> first
      | exact h
      | exact h.elim
      | exact ⟨fun e => (by rw [fen_depth] at e; cases e), (calls_fen h).mono (fun e w'' ⟨v, he, hk⟩ => by subst he; exact hk)⟩
  | halt x w' => exact h.elim

def thenP (next : (Nat → Value) → World → Prop) (Q : (Exit → (Nat → Value) → World → Prop)) : (Exit → (Nat → Value) → World → Prop)
  | .normal, F, w => next F w
  | e, F, w => Q e F w
def inP (id : Nat) (Q : (Exit → (Nat → Value) → World → Prop)) : (Exit → (Nat → Value) → World → Prop)
  | .exit id', F, w => if id' = id then Q .normal F w else Q (.exit id') F w
  | e, F, w => Q e F w

section
variable {l : Option Nat} {P : Program} {N : Nat} {Q : (Exit → (Nat → Value) → World → Prop)} {F : Nat → Value} {w : World}

theorem then_normal {next : (Nat → Value) → World → Prop} (h : next F w) : thenP next Q .normal F w := h
theorem then_exit {next : (Nat → Value) → World → Prop} {id : Nat} (h : Q (.exit id) F w) : thenP next Q (.exit id) F w := h
theorem then_ret {next : (Nat → Value) → World → Prop} (h : Q .ret F w) : thenP next Q .ret F w := h
theorem in_normal {id : Nat} (h : Q .normal F w) : inP id Q .normal F w := h
theorem in_here {id : Nat} (h : Q .normal F w) : inP id Q (.exit id) F w := by simp only [inP, if_true]; exact h
theorem wq_seq {x y : Code} (h : wq l P N x (thenP (wq l P N y Q) Q) F w) : wq l P N (.seq x y) Q F w := by
  intro a ha
  refine wpIn_seq (wpIn_mono (h a ha) ?_)
  rintro e a' w' ⟨F', hF, hq⟩
  cases e <;> first | exact hq a' hF | exact ⟨F', hF, hq⟩
theorem wq_skip (h : Q .normal F w) : wq l P N .skip Q F w := fun _ ha => wpIn_skip ⟨F, ha, h⟩
theorem wq_exit {id : Nat} (h : Q (.exit id) F w) : wq l P N (.exit id) Q F w := fun _ ha => wpIn_exit ⟨F, ha, h⟩
theorem wq_ret (h : Q .ret F w) : wq l P N .ret Q F w := fun _ ha => wpIn_ret ⟨F, ha, h⟩
theorem wq_cond {c : Operand} {x y : Code} {t : Bool} (hc : ev (cutF N F) c = .bool t) (ht : t = true → wq l P N x Q F w) (hf : t = false → wq l P N y Q F w) : wq l P N (.cond c x y) Q F w :=
  fun a ha => wpIn_cond_split (by rw [ha.eval]; exact hc) (fun e => ht e a ha) (fun e => hf e a ha)
theorem wq_block {id : Nat} {c : Code} (h : wq l P N c (inP id Q) F w) : wq l P N (.block id c) Q F w := by
  intro a ha
  refine wpIn_block (wpIn_mono (h a ha) ?_)
  rintro e a' w' ⟨F', hF, hq⟩
  cases e with
  | exit id' =>
    simp only [inP] at hq
    simp only [Exit.inBlock]
    split
    · rename_i e; rw [if_pos e] at hq; exact ⟨F', hF, hq⟩
    · rename_i e; rw [if_neg e] at hq; exact ⟨F', hF, hq⟩
  | _ => exact ⟨F', hF, hq⟩
theorem wq_loop {c : Code} (I : Nat → (Nat → Value) → World → Prop) (n0 : Nat) (h0 : I n0 F w)
    (round : ∀ n F w, I n F w → wq l P N c (thenP (fun F' w' => ∃ n', n' < n ∧ I n' F' w') Q) F w) : wq l P N (.loop c) Q F w := by
  intro a ha
  refine wpIn_loop (fun a w => ∃ n, ∃ F, Fr N F a ∧ I n F w) (fun a w => leastOf (fun n => ∃ F, Fr N F a ∧ I n F w)) ⟨n0, F, ha, h0⟩ ?_
  intro a w hex
  have hl := leastOf_spec hex
  generalize leastOf (fun n => ∃ F, Fr N F a ∧ I n F w) = n at hl
  obtain ⟨⟨F, hF, hI⟩, _⟩ := hl
  refine wpIn_mono (round n F w hI a hF) ?_
  rintro e a' w' ⟨F', hF', hq⟩
  cases e with
  | normal =>
    obtain ⟨n', hlt, hI'⟩ := hq
    refine ⟨⟨n', F', hF', hI'⟩, Nat.lt_of_le_of_lt ?_ hlt⟩
    exact (leastOf_spec (p := fun n => ∃ F, Fr N F a' ∧ I n F w') ⟨n', F', hF', hI'⟩).2 n' ⟨F', hF', hI'⟩
  | _ => exact ⟨F', hF', hq⟩

def lists (l : Option Nat) (P : Program) (ops : Array Oper) (Q : Exit → Act → World → Prop) (rest : List Oper) (a : Act) (w : World) : Prop :=
  match l with
  | none => wpList P ops Q rest a w
  | some l => wpListIn (fen (some l)) 0 P ops Q rest a w
def wl (l : Option Nat) (P : Program) (N : Nat) (ops : Array Oper) (Q : (Exit → (Nat → Value) → World → Prop)) (rest : List Oper) (F : Nat → Value) (w : World) : Prop := ∀ a, Fr N F a → lists l P ops (Fp N Q) rest a w

theorem lists_step {l : Option Nat} {P : Program} {ops : Array Oper} {Q : Exit → Act → World → Prop} {o : Oper} {rest : List Oper} {a : Act} {w : World} (hw : Region.wanted o (yielded ops a.tmps) = true) (h : Yields P a.eval o w (fun v w' => lists l P ops Q rest (a.put o.dst v) w')) : lists l P ops Q (o :: rest) a w := by
  cases l with
  | none =>
    refine BigFrame.wpList_want hw fun K hK => Yields.wp ?_
    revert h
    unfold Yields
    generalize (execOp a.eval o).run P w = r
    intro h
    cases r with
    | ok n w' =>
      cases n <;> simp only at h ⊢ <;> first
        | exact hK _ _ h
        | exact h.elim
        | exact Calls.mono h (fun e w'' ⟨v, he, hk⟩ => ⟨v, he, hK _ _ hk⟩)
    | halt x w' => exact h.elim
  | some l =>
    refine wpListIn_step fun K hK => ?_
    rw [if_pos hw]
    refine Yields.wpIn (l := some l) ?_
    revert h
    unfold Yields
    generalize (execOp a.eval o).run P w = r
    intro h
    cases r with
    | ok n w' =>
      cases n <;> simp only at h ⊢ <;> first
        | exact hK _ _ h
        | exact h.elim
        | exact Calls.mono h (fun e w'' ⟨v, he, hk⟩ => ⟨v, he, hK _ _ hk⟩)
    | halt x w' => exact h.elim
theorem lists_pass {l : Option Nat} {P : Program} {ops : Array Oper} {Q : Exit → Act → World → Prop} {o : Oper} {rest : List Oper} {a : Act} {w : World} (hw : Region.wanted o (yielded ops a.tmps) = false) (h : lists l P ops Q rest (a.put o.dst undef) w) : lists l P ops Q (o :: rest) a w := by
  cases l with
  | none =>
    show wpList P ops Q (o :: rest) a w
    unfold wpList
    rw [hw]; exact h
  | some l =>
    show wpListIn (fen (some l)) 0 P ops Q (o :: rest) a w
    unfold wpListIn
    rw [hw]; exact ⟨fun f _ => fen_fn _ f, h⟩
theorem lists_region {l : Option Nat} {P : Program} {Q : Exit → Act → World → Prop} {id : Nat} {ops : List Oper} {a : Act} {w : World} (h : lists l P ops.toArray Q ops a w) : (Code.region id ops.toArray false).wpIn (fen l) 0 P Q a w := by
  cases l with
  | none => exact wpIn_wide.2 (wp_region_lit h)
  | some l => exact wpIn_region_lit h
theorem lists_nil {l : Option Nat} {P : Program} {ops : Array Oper} {Q : Exit → Act → World → Prop} {a : Act} {w : World} (h : Q .normal a w) : lists l P ops Q [] a w := by
  cases l <;> exact h

theorem wq_region {id : Nat} {os : List Oper} (h : wl l P N os.toArray Q os F w) : wq l P N (.region id os.toArray false) Q F w := fun a ha => lists_region (h a ha)
theorem wl_nil {ops : Array Oper} (h : ∀ F', (∀ t, F' t = F t) → Q .normal F' w) : wl l P N ops Q [] F w := fun _ ha => lists_nil ⟨F, ha, h F fun _ => rfl⟩

theorem puts_of {N : Nat} {F : Nat → Value} {a : Act} {l : Option Nat} {P : Program} {ops : Array Oper} {Q : (Exit → (Nat → Value) → World → Prop)} {o : Oper} {rest : List Oper} {w : World} (ha : Fr N F a) (hd : fits N o.dst = true) (h : Yields P (ev (cutF N F)) o w (fun v w' => wl l P N ops Q rest (putF F o.dst v) w')) :
    Yields P a.eval o w (fun v w' => lists l P ops (Fp N Q) rest (a.put o.dst v) w') := by
  rw [← ha.eval] at h
  revert h
  unfold Yields
  generalize (execOp a.eval o).run P w = r
  intro h
  cases r with
  | ok n w' =>
    cases n <;> simp only at h ⊢ <;> first
      | exact h _ (ha.put hd _)
      | exact h.elim
      | exact Calls.mono h (fun e w'' ⟨v, he, hk⟩ => ⟨v, he, hk _ (ha.put hd _)⟩)
  | halt x w' => exact h.elim
theorem wl_op {ops : Array Oper} {o : Oper} {rest : List Oper} (hg : o.guard = none) (hd : fits N o.dst = true) (h : Yields P (ev (cutF N F)) o w (fun v w' => wl l P N ops Q rest (putF F o.dst v) w')) : wl l P N ops Q (o :: rest) F w :=
  fun _ ha => lists_step (by unfold Region.wanted; rw [hg]) (puts_of ha hd h)

theorem yielded_of {ops : Array Oper} {a : Act} {j : Nat} {d : Tmp} (ha : Fr N F a) (hj : (ops[j]?).bind (·.dst) = some d) (hd : Nat.blt d N = true) : yielded ops a.tmps j = match F d with | .bool b => some b | _ => none := by
  have hlt : d < a.tmps.size := by rw [ha.size]; simpa [Nat.blt_eq] using hd
  have he : a.tmps[d] = F d := by rw [← ha.at' d hd]; simp [Array.getD, hlt]
  unfold yielded
  rw [hj]
  simp only [Option.bind_some, Array.getElem?_eq_getElem hlt, he]
  cases F d <;> rfl

theorem wl_when {ops : Array Oper} {o : Oper} {rest : List Oper} (j : Nat) (want : Bool) (d : Tmp) (hg : o.guard = some (j, want)) (hj : (ops[j]?).bind (·.dst) = some d) (hdn : Nat.blt d N = true) (hv : F d = .bool want) (hd : fits N o.dst = true)
    (h : Yields P (ev (cutF N F)) o w (fun v w' => wl l P N ops Q rest (putF F o.dst v) w')) : wl l P N ops Q (o :: rest) F w := by
  intro a ha
  refine lists_step ?_ (puts_of ha hd h)
  unfold Region.wanted
  rw [hg]
  simp only [yielded_of ha hj hdn, hv]
  simp

theorem wl_unless {ops : Array Oper} {o : Oper} {rest : List Oper} (j : Nat) (want : Bool) (d : Tmp) (hg : o.guard = some (j, want)) (hj : (ops[j]?).bind (·.dst) = some d) (hdn : Nat.blt d N = true) (hv : F d = .bool (!want) ∨ F d = undef) (hd : fits N o.dst = true)
    (h : wl l P N ops Q rest (putF F o.dst undef) w) : wl l P N ops Q (o :: rest) F w := by
  intro a ha
  refine lists_pass ?_ (h _ (ha.put hd _))
  unfold Region.wanted
  rw [hg]
  simp only [yielded_of ha hj hdn]
  rcases hv with hv | hv <;> rw [hv]
  · cases want <;> simp
  · simp [undef]

/-- A call that answers one value and turns nothing that is there. -/
theorem wl_call {ops : Array Oper} {o : Oper} {rest : List Oper} {R : Value → World → Prop} (hg : o.guard = none) (hd : fits N o.dst = true) (hy : Yields P (ev (cutF N F)) o w R) (h : ∀ v w', R v w' → wl l P N ops Q rest (putF F o.dst v) w') : wl l P N ops Q (o :: rest) F w := by
  refine wl_op hg hd ?_
  revert hy
  unfold Yields
  generalize (execOp (ev (cutF N F)) o).run P w = r
  intro hy
  cases r with
  | ok n w' =>
    cases n <;> simp only at hy ⊢ <;> first
      | exact h _ _ hy
      | exact hy.elim
      | exact Calls.mono hy (fun e w'' ⟨v, he, hk⟩ => ⟨v, he, h _ _ hk⟩)
  | halt x w' => exact hy.elim

def DepsF (D : List (Option Tmp)) (G : Nat → Value → World → Prop) (F : Nat → Value) (w : World) : List Edge → Prop
  | [] => True
  | e :: r => (Region.binds .any e = true → match D.getD e.on none with
    | some d => G e.on (F d) w
    | none => True) ∧ DepsF D G F w r

theorem Deps.toF {D : List (Option Tmp)} {G : Nat → Value → World → Prop} {a : Act} {w : World} : ∀ {es : List Edge}, Deps D G a w es → DepsF D G (fun t => a.tmps.getD t undef) w es := by
  intro es
  induction es with
  | nil => intro _; exact trivial
  | cons e r ih => intro h; exact ⟨h.1, ih h.2⟩

theorem DepsF.get {D : List (Option Tmp)} {G : Nat → Value → World → Prop} {F : Nat → Value} {w : World} : ∀ {es : List Edge} (k : Nat) {e : Edge} {d : Tmp}, DepsF D G F w es → es[k]? = some e → Region.binds .any e = true → D.getD e.on none = some d → G e.on (F d) w := by
  intro es
  induction es with
  | nil => intro k e d _ h; simp at h
  | cons x r ih =>
    intro k e d h hk hb hd
    cases k with
    | zero =>
      simp at hk
      subst hk
      have := h.1 hb
      rw [hd] at this
      exact this
    | succ k => exact ih k h.2 (by simpa using hk) hb hd

/-- What is asked of one operation. -/
def StepF (N : Nat) (P : Program) (D : List (Option Tmp)) (Gs : List Pd) (F0 : Nat → Value) (w0 : World) (i : Nat) (o : Oper) : Prop :=
  ∀ (F : Nat → Value) (w : World), Kept (fun _ => False) w0 w → (∀ t, Nat.blt t N = true → some t ∉ D → F t = F0 t) → DepsF D (Said Gs) F w o.after.toList →
    match o.guard with
    | none => Yields P (ev F) o w (fun v w' => Said Gs i v w' ∧ Kept (fun _ => False) w w')
    | some (j, want) => ∃ d, D.getD j none = some d ∧
      ((F d = .bool want ∧ Yields P (ev F) o w (fun v w' => Said Gs i v w' ∧ Kept (fun _ => False) w w')) ∨ ((F d = .bool (!want) ∨ F d = undef) ∧ Said Gs i undef w))

def StepsF (N : Nat) (P : Program) (D : List (Option Tmp)) (Gs : List Pd) (F0 : Nat → Value) (w0 : World) : Nat → List Oper → Prop
  | _, [] => True
  | i, o :: r => StepF N P D Gs F0 w0 i o ∧ StepsF N P D Gs F0 w0 (i + 1) r

theorem StepF.step {D : List (Option Tmp)} {Gs : List Pd} {w0 : World} {i : Nat} {o : Oper} {a0 : Act} (ha : Fr N F a0) (h : StepF N P D Gs F w0 i o) : Step P (Kept (fun _ => False)) D (Said Gs) a0 w0 i o := by
  intro a w hR hout hD
  have h1 := h (fun t => a.tmps.getD t undef) w hR (fun t hb ht => by rw [← ha.at' t hb]; exact hout t ht) hD.toF
  rw [← eval_ev a] at h1
  unfold goes
  cases hg : o.guard with
  | none => rw [hg] at h1; exact ⟨fun _ => h1, fun e => by cases e⟩
  | some g =>
    obtain ⟨j, want⟩ := g
    rw [hg] at h1
    obtain ⟨d, hd, h1⟩ := h1
    simp only [hd]
    have hev : a.eval (.tmp d) = a.tmps.getD d undef := rfl
    rcases h1 with ⟨hv, hy⟩ | ⟨hv, hs⟩
    · rw [hev, hv]; exact ⟨fun _ => hy, fun e => by simp at e⟩
    · refine ⟨fun e => ?_, fun _ => hs⟩
      rcases hv with hv | hv
      · rw [hev, hv] at e; cases want <;> simp at e
      · rw [hev, hv] at e; simp [undef] at e

theorem StepsF.steps {D : List (Option Tmp)} {Gs : List Pd} {w0 : World} {a0 : Act} (ha : Fr N F a0) : ∀ {os : List Oper} {i : Nat}, StepsF N P D Gs F w0 i os → Steps P (Kept (fun _ => False)) D (Said Gs) a0 w0 i os := by
  intro os
  induction os with
  | nil => intro i _; exact trivial
  | cons o r ih => intro i h; exact ⟨h.1.step ha, ih h.2⟩

theorem stepsF_nil {D : List (Option Tmp)} {Gs : List Pd} {F0 : Nat → Value} {w0 : World} {i : Nat} : StepsF N P D Gs F0 w0 i [] := trivial
theorem stepsF_cons {D : List (Option Tmp)} {Gs : List Pd} {F0 : Nat → Value} {w0 : World} {i : Nat} {o : Oper} {r : List Oper} (h : StepF N P D Gs F0 w0 i o) (k : StepsF N P D Gs F0 w0 (i + 1) r) : StepsF N P D Gs F0 w0 i (o :: r) := ⟨h, k⟩

theorem StepF.one {D : List (Option Tmp)} {Gs : List Pd} {F0 : Nat → Value} {w0 : World} {i : Nat} {o : Oper} (hg : o.guard = none)
    (h : ∀ (F : Nat → Value) (w : World), Kept (fun _ => False) w0 w → (∀ t, Nat.blt t N = true → some t ∉ D → F t = F0 t) → DepsF D (Said Gs) F w o.after.toList → Yields P (ev F) o w (fun v w' => Said Gs i v w' ∧ Kept (fun _ => False) w w')) : StepF N P D Gs F0 w0 i o := by
  intro F w h1 h2 h3
  rw [hg]
  exact h F w h1 h2 h3
theorem StepF.when {D : List (Option Tmp)} {Gs : List Pd} {F0 : Nat → Value} {w0 : World} {i : Nat} {o : Oper} (j : Nat) (want : Bool) (d : Tmp) (hg : o.guard = some (j, want)) (hd : D.getD j none = some d)
    (h : ∀ (F : Nat → Value) (w : World), Kept (fun _ => False) w0 w → (∀ t, Nat.blt t N = true → some t ∉ D → F t = F0 t) → DepsF D (Said Gs) F w o.after.toList → F d = .bool want ∧ Yields P (ev F) o w (fun v w' => Said Gs i v w' ∧ Kept (fun _ => False) w w')) : StepF N P D Gs F0 w0 i o := by
  intro F w h1 h2 h3
  rw [hg]
  exact ⟨d, hd, .inl (h F w h1 h2 h3)⟩
theorem StepF.unless {D : List (Option Tmp)} {Gs : List Pd} {F0 : Nat → Value} {w0 : World} {i : Nat} {o : Oper} (j : Nat) (want : Bool) (d : Tmp) (hg : o.guard = some (j, want)) (hd : D.getD j none = some d)
    (h : ∀ (F : Nat → Value) (w : World), Kept (fun _ => False) w0 w → (∀ t, Nat.blt t N = true → some t ∉ D → F t = F0 t) → DepsF D (Said Gs) F w o.after.toList → (F d = .bool (!want) ∨ F d = undef) ∧ Said Gs i undef w) : StepF N P D Gs F0 w0 i o := by
  intro F w h1 h2 h3
  rw [hg]
  exact ⟨d, hd, .inr (h F w h1 h2 h3)⟩

def putsF (v : Nat → Value) : Nat → List (Option Tmp) → (Nat → Value) → Nat → Value
  | _, [], F => F
  | i, d :: r, F => putsF v (i + 1) r (putF F d (v i))

theorem plain_fits {size : Nat} : ∀ {i : Nat} {D : List (Option Tmp)} {os : List Oper}, plain size i D os = true → ∀ d ∈ D, fits size d = true := by
  intro i D os
  induction os generalizing i D with
  | nil =>
    intro h
    cases D with
    | nil => intro d hd; cases hd
    | cons d D => simp [plain] at h
  | cons o r ih =>
    intro h
    cases D with
    | nil => intro d hd; cases hd
    | cons x D =>
      simp only [plain, Bool.and_eq_true] at h
      obtain ⟨⟨⟨h1, h2⟩, h3⟩, h4⟩ := h
      intro d hd
      rcases List.mem_cons.1 hd with rfl | hd
      · cases d with
        | none => rfl
        | some d =>
          simp only [Bool.and_eq_true, decide_eq_true_eq] at h2
          simpa [fits, Nat.blt_eq] using h2.1
      · exact ih h4 d hd

theorem putAll_fr (v : Nat → Value) : ∀ (D : List (Option Tmp)) (i : Nat) (F : Nat → Value) (a : Act), Fr N F a → (∀ d ∈ D, fits N d = true) → Fr N (putsF v i D F) (putAll v i D a) := by
  intro D
  induction D with
  | nil => intro i F a h _; exact h
  | cons d r ih => intro i F a h hf; exact ih (i + 1) _ _ (h.put (hf d (by simp)) _) (fun x hx => hf x (by simp [hx]))

theorem wq_said {id : Nat} {ops : Array Oper} (D : List (Option Tmp)) (Gs : List Pd) (hm : P.follows .mixedOrders = true) (hpl : plain N 0 D ops.toList = true) (hsteps : StepsF N P D Gs F w 0 ops.toList)
    (hend : ∀ (v : Nat → Value) (F' : Nat → Value) (w' : World), Kept (fun _ => False) w w' → (∀ i, i < ops.size → Said Gs i (v i) w') → (∀ t, F' t = putsF v 0 D F t) → Q .normal F' w') : wq none P N (.region id ops true) Q F w := by
  intro a ha
  refine wpIn_wide.2 ?_
  refine wp_region_said D Gs hm (by rw [ha.size]; exact hpl) (hsteps.steps ha) fun v w' hk hG => ?_
  exact ⟨putsF v 0 D F, putAll_fr v D 0 F a ha (plain_fits hpl), hend v _ w' hk hG fun _ => rfl⟩

theorem wq_tail {id : Nat} {ops : Array Oper} (n : Nat) (D : List (Option Tmp)) (Gs : List Pd) (hm : P.follows .mixedOrders = true) (hta : tailed ops.toList n = true) (hpl : plain N 0 D (ops.toList.take n) = true) (hsteps : StepsF N P D Gs F w 0 (ops.toList.take n))
    (hend : ∀ (v : Nat → Value) (F' : Nat → Value) (w' : World), Kept (fun _ => False) w w' → (∀ i, i < n → Said Gs i (v i) w') → (∀ t, F' t = putsF v 0 D F t) → wl none P N ops Q (ops.toList.drop n) F' w') : wq none P N (.region id ops true) Q F w := by
  intro a ha
  refine wpIn_wide.2 ?_
  refine wp_region_tail n D Gs hm hta (by rw [ha.size]; exact hpl) (hsteps.steps ha) fun v w' hk hG => ?_
  exact hend v _ w' hk hG (fun _ => rfl) _ (putAll_fr v D 0 F a ha (plain_fits hpl))
end

def endP (P : Program) (fn : Func) (N : Nat) (R : Ending → World → Prop) : (Exit → (Nat → Value) → World → Prop)
  | .normal, F, w | .ret, F, w => F N = undef ∧ ∀ a, Fr N F a → ∃ v, (results fn a.tmps).run P w = .ok v w ∧ R (.returned v) w
  | _, _, _ => False

def argF (args : List Value) : Nat → Value := fun t => args.getD t undef

theorem calls_wq {P : Program} {f : FuncId} {fn : Func} {c : Code} {args : List Value} {w : World} {R : Ending → World → Prop} (N : Nat) (hf : P.funcs[f]? = some fn) (hb : fn.body = some c) (hn : fn.ntmps = N) (hl : args.length ≤ N)
    (h : wq none P N c (endP P fn N R) (argF args) w) : Calls P f args.toArray w R := by
  refine calls_of_wp hf hb ?_
  subst hn
  have hs : (args.toArray ++ Array.replicate (fn.ntmps - args.toArray.size) undef).size = fn.ntmps := by simp; omega
  have hu : argF args fn.ntmps = undef := by
    unfold argF
    rw [List.getD_eq_getElem?_getD, List.getElem?_eq_none hl]; rfl
  refine wp_mono (wpIn_wide.1 (h _ ⟨hs, by rw [hu]; rfl, fun t _ => ?_⟩)) ?_
  · unfold argF
    simp only [Array.getD_eq_getD_getElem?, List.getD_eq_getElem?_getD]
    by_cases h1 : t < args.length
    · rw [Array.getElem?_append_left (by simpa using h1)]; simp
    · rw [Array.getElem?_append_right (by simp; omega), List.getElem?_eq_none (by omega)]
      by_cases h2 : t < fn.ntmps
      · rw [Array.getElem?_replicate]; split <;> rfl
      · rw [Array.getElem?_eq_none (by simp; omega)]
  · rintro e a' w' ⟨F', hF, hq⟩
    cases e <;> first
      | exact ⟨by rw [hF.defers, hq.1]; rfl, hq.2 a' hF⟩
      | exact hq.elim

section
variable {P : Program} {fn : Func} {N : Nat} {R : Ending → World → Prop} {F : Nat → Value} {w : World}
theorem end_tmp {t : Tmp} {v : Value} (hm : F N = undef) (ht : Nat.blt t N = true) (h : fn.results = #[.tmp t]) (hv : F t = v) (hR : R (.returned v) w) : endP P fn N R .ret F w :=
  ⟨hm, fun a ha => ⟨v, by rw [results_tmp h]; rw [ha.at' t ht, hv], hR⟩⟩
theorem end_none (hm : F N = undef) (h : fn.results = #[]) (hR : R (.returned (.tuple #[])) w) : endP P fn N R .normal F w := ⟨hm, fun _ _ => ⟨_, results_none h _ _ _, hR⟩⟩
/-- What a result is. -/
def ResOk (P : Program) (N : Nat) (F : Nat → Value) (w : World) : ResultVar → Value → Prop
  | .tmp t, v => Nat.blt t N = true ∧ F t = v
  | .cell a t, v => Nat.blt a N = true ∧ ∃ ad, F a = .pointer (some ad) ∧ (loadVar t ad).run P w = .ok v w
theorem res_tmp {t : Tmp} {v : Value} (ht : Nat.blt t N = true) (h : F t = v) : ResOk P N F w (.tmp t) v := ⟨ht, h⟩
theorem end_2 {r1 r2 : ResultVar} {v1 v2 : Value} (hm : F N = undef) (h : fn.results = #[r1, r2]) (h1 : ResOk P N F w r1 v1) (h2 : ResOk P N F w r2 v2)
    (hR : R (.returned (.tuple #[v1, v2])) w) : endP P fn N R .ret F w := by
  refine ⟨hm, fun a ha => ⟨_, ?_, hR⟩⟩
  cases r1 <;> cases r2 <;> simp only [ResOk] at h1 h2
  · obtain ⟨b1, h1⟩ := h1; obtain ⟨b2, h2⟩ := h2
    rw [← ha.at' _ b1] at h1; rw [← ha.at' _ b2] at h2
    simp [results, h] at *; simp [h1, h2]
  · obtain ⟨b1, h1⟩ := h1; obtain ⟨b2, ad, e, hl⟩ := h2
    rw [← ha.at' _ b1] at h1; rw [← ha.at' _ b2] at e
    simp [results, h] at *; simp [h1, e, asAddr, hl]
  · obtain ⟨b1, ad, e, hl⟩ := h1; obtain ⟨b2, h2⟩ := h2
    rw [← ha.at' _ b2] at h2; rw [← ha.at' _ b1] at e
    simp [results, h] at *; simp [h2, e, asAddr, hl]
  · obtain ⟨b1, ad, e, hl⟩ := h1; obtain ⟨b2, ad2, e2, hl2⟩ := h2
    rw [← ha.at' _ b1] at e; rw [← ha.at' _ b2] at e2
    simp [results, h] at *; simp [e, e2, asAddr, hl, hl2]
end
end Go.Proofs.Ytnccblhdokplkaa
set_option maxRecDepth 100000
namespace Go.Proofs.Ytnccblhdokplkaa
open Go.RowKit

theorem i64_n {x : Int} {m : Nat} (h : x = (m : Int)) (hm : m ≤ 9223372036854775807) : IntKind.i64.wrap x = (m : Int) := by subst h; exact IntWalk.i64_in _ (by omega)
theorem i64_i {x y : Int} (h : x = y) (hy : -9223372036854775808 ≤ y ∧ y ≤ 9223372036854775807) : IntKind.i64.wrap x = y := by subst h; exact IntWalk.i64_in _ hy

theorem y_of {P : Program} {ρ : Operand → Value} {o : Oper} {w : World} {R : Value → World → Prop} {v : Value} {w' : World} (h : (execOp ρ o).run P w = .ok (.value v) w') (hR : R v w') : Yields P ρ o w R := by
  unfold Yields; rw [h]; exact hR

section
variable {ro : Option Nat} {P : Program} {ρ : Operand → Value} {o : Oper} {w : World} {R : Value → World → Prop}

theorem y_mov {x : Operand} {v : Value} (ho : o.op = .move x) (hx : ρ x = v) (h : R v w) : Yields P ρ o w R := y_move ho (by rw [hx]; exact h)
theorem y_asg {x : Operand} {v : Value} (ho : o.op = .assign x) (hx : ρ x = v) (h : R v w) : Yields P ρ o w R := y_assign ho (by rw [hx]; exact h)
theorem y_pickT {c x y : Operand} {v : Value} (ho : o.op = .pick c x y) (hc : ρ c = .bool true) (hx : ρ x = v) (h : R v w) : Yields P ρ o w R := y_pick_true ho hc (by rw [hx]; exact h)
theorem y_pickF {c x y : Operand} {v : Value} (ho : o.op = .pick c x y) (hc : ρ c = .bool false) (hy : ρ y = v) (h : R v w) : Yields P ρ o w R := y_pick_false ho hc (by rw [hy]; exact h)
theorem y_add {t t' : TypeId} {k : IntKind} {x y : Operand} {m n r : Int} (ho : o.op = .binOp .add t x y t') (hx : ρ x = .int k m) (hy : ρ y = .int k n) (hr : k.wrap (m + n) = r) (h : R (.int k r) w) : Yields P ρ o w R :=
  y_of (v := .int k (k.wrap (m + n))) (w' := w) (by simp [execOp, ho, hx, hy, go_sem]) (by rw [hr]; exact h)
theorem y_sub {t t' : TypeId} {k : IntKind} {x y : Operand} {m n r : Int} (ho : o.op = .binOp .sub t x y t') (hx : ρ x = .int k m) (hy : ρ y = .int k n) (hr : k.wrap (m - n) = r) (h : R (.int k r) w) : Yields P ρ o w R :=
  y_of (v := .int k (k.wrap (m - n))) (w' := w) (by simp [execOp, ho, hx, hy, go_sem]) (by rw [hr]; exact h)
theorem y_mul {t t' : TypeId} {k : IntKind} {x y : Operand} {m n r : Int} (ho : o.op = .binOp .mul t x y t') (hx : ρ x = .int k m) (hy : ρ y = .int k n) (hr : k.wrap (m * n) = r) (h : R (.int k r) w) : Yields P ρ o w R :=
  y_of (v := .int k (k.wrap (m * n))) (w' := w) (by simp [execOp, ho, hx, hy, go_sem]) (by rw [hr]; exact h)
theorem y_rem {t t' : TypeId} {k : IntKind} {x y : Operand} {m n r : Int} (ho : o.op = .binOp .rem t x y t') (hx : ρ x = .int k m) (hy : ρ y = .int k n) (hn : n ≠ 0) (hr : m.tmod n = r) (h : R (.int k r) w) : Yields P ρ o w R :=
  y_of (v := .int k (m.tmod n)) (w' := w) (by simp [execOp, ho, hx, hy, hn, go_sem]) (by rw [hr]; exact h)
theorem y_shrR {t t' : TypeId} {k k' : IntKind} {x y : Operand} {m r : Int} (n : Nat) (ho : o.op = .binOp .shr t x y t') (hx : ρ x = .int k m) (hy : ρ y = .int k' (n : Int)) (hn : n ≤ k.bits) (hr : m / 2 ^ n = r) (h : R (.int k r) w) : Yields P ρ o w R :=
  y_shr ho hx hy hn (by rw [hr]; exact h)
theorem y_convR {src dst : TypeId} {x : Operand} {k k' : IntKind} {n r : Int} {d : TypeDesc} (ho : o.op = .convert src dst x) (hx : ρ x = .int k n) (hs : P.underlying src = some d) (hd : P.underlying dst = some (.int k')) (hr : k'.wrap n = r) (h : R (.int k' r) w) : Yields P ρ o w R :=
  y_conv ho hx hs hd (by rw [hr]; exact h)
theorem y_lss {t t' : TypeId} {k : IntKind} {x y : Operand} {m n : Int} {b : Bool} (ho : o.op = .binOp .lss t x y t') (hx : ρ x = .int k m) (hy : ρ y = .int k n) (hr : decide (m < n) = b) (h : R (.bool b) w) : Yields P ρ o w R :=
  y_of (v := .bool (decide (m < n))) (w' := w) (by simp [execOp, ho, hx, hy, go_sem]) (by rw [hr]; exact h)
theorem y_leq {t t' : TypeId} {k : IntKind} {x y : Operand} {m n : Int} {b : Bool} (ho : o.op = .binOp .leq t x y t') (hx : ρ x = .int k m) (hy : ρ y = .int k n) (hr : decide (m ≤ n) = b) (h : R (.bool b) w) : Yields P ρ o w R :=
  y_of (v := .bool (decide (m ≤ n))) (w' := w) (by simp [execOp, ho, hx, hy, go_sem]) (by rw [hr]; exact h)
theorem y_gtr {t t' : TypeId} {k : IntKind} {x y : Operand} {m n : Int} {b : Bool} (ho : o.op = .binOp .gtr t x y t') (hx : ρ x = .int k m) (hy : ρ y = .int k n) (hr : decide (n < m) = b) (h : R (.bool b) w) : Yields P ρ o w R :=
  y_of (v := .bool (decide (n < m))) (w' := w) (by simp [execOp, ho, hx, hy, go_sem]) (by rw [hr]; exact h)
theorem y_geq {t t' : TypeId} {k : IntKind} {x y : Operand} {m n : Int} {b : Bool} (ho : o.op = .binOp .geq t x y t') (hx : ρ x = .int k m) (hy : ρ y = .int k n) (hr : decide (n ≤ m) = b) (h : R (.bool b) w) : Yields P ρ o w R :=
  y_of (v := .bool (decide (n ≤ m))) (w' := w) (by simp [execOp, ho, hx, hy, go_sem]) (by rw [hr]; exact h)
theorem y_eqlI {t t' : TypeId} {k : IntKind} {x y : Operand} {m n : Int} {b : Bool} (ho : o.op = .binOp .eql t x y t') (hx : ρ x = .int k m) (hy : ρ y = .int k n) (hr : decide (m = n) = b) (h : R (.bool b) w) : Yields P ρ o w R :=
  y_eql_int ho hx hy (by rw [show (m == n) = b from hr]; exact h)
theorem y_neqI {t t' : TypeId} {k : IntKind} {x y : Operand} {m n : Int} {b : Bool} (ho : o.op = .binOp .neq t x y t') (hx : ρ x = .int k m) (hy : ρ y = .int k n) (hr : decide (m ≠ n) = b) (h : R (.bool b) w) : Yields P ρ o w R := by
  refine y_of (v := .bool (m != n)) (w' := w) (by simp [execOp, ho, hx, hy, go_sem, bne]) ?_
  rw [show (m != n) = b by rw [← hr]; by_cases e : m = n <;> simp [bne, e]]; exact h
theorem y_not {t : TypeId} {x : Operand} {b c : Bool} (ho : o.op = .unOp .not t x) (hx : ρ x = .bool b) (hr : (!b) = c) (h : R (.bool c) w) : Yields P ρ o w R :=
  y_of (v := .bool (!b)) (w' := w) (by simp [execOp, ho, hx, go_sem]) (by rw [hr]; exact h)
theorem y_eqlB {t t' : TypeId} {x y : Operand} {m n b : Bool} (ho : o.op = .binOp .eql t x y t') (hx : ρ x = .bool m) (hy : ρ y = .bool n) (hu : P.underlying t = some .bool) (hr : (m == n) = b) (h : R (.bool b) w) : Yields P ρ o w R :=
  y_eql_bool ho hx hy hu (by rw [hr]; exact h)
theorem y_minR {ts : Array TypeId} {k : IntKind} {x y : Operand} {m n r : Int} (ho : o.op = .call { callee := .builtin .min, args := #[x, y], argTypes := ts }) (hx : ρ x = .int k m) (hy : ρ y = .int k n) (he : min m n = r) (h : R (.int k r) w) : Yields P ρ o w R := by
  have e : (if n < m then n else m) = min m n := by split <;> omega
  have hr := run_min_int2 (P := P) w ts o.type k k m n
  rw [e, he] at hr
  exact y_of (v := .int k r) (w' := w) (by simp only [execOp, ho, resolve, invoke, builtin, Sem.run_bind, Sem.run_pure, Result.andThen_ok, List.map_toArray, List.map_cons, List.map_nil, hx, hy, hr]) h
/-- The address of an element, wherever the array begins and however many cells an element takes. -/
theorem y_atR {t e : TypeId} {n b off off' s : Nat} {k : IntKind} {x ix : Operand} (j : Nat) {i : Int} (ho : o.op = .indexAddr t x ix) (hx : ρ x = .pointer (some ⟨b, off, none⟩)) (hi : ρ ix = .int k i) (hij : i = (j : Int)) (hu : P.underlying t = some (.array n e)) (hj : j < n) (hs : (P.info? e).map (·.size) = some s) (hoff : off + j * s = off')
    (h : R (.pointer (some ⟨b, off', none⟩)) w) : Yields P ρ o w R := by
  subst hij
  cases hq : P.info? e with
  | none => simp [hq] at hs
  | some i =>
    have hs' : i.size = s := by simpa [hq] using hs
    refine y_of (v := .pointer (some ⟨b, off + j * s, none⟩)) (w' := w) ?_ (by rw [hoff]; exact h)
    simp only [execOp, ho, hx, hi]
    by_cases h0 : j * s = 0
    · simp [Instr.indexAt, run_underlying hu, Instr.sureAddr, asIntOf, sizeOf, typeInfo, hq, hs', hj, Addr.add, h0]
    · simp [Instr.indexAt, run_underlying hu, Instr.sureAddr, asIntOf, sizeOf, typeInfo, hq, hs', hj, Addr.add, h0]

theorem y_buildR {t : TypeId} {parts : Array (Nat × Operand)} {cells : Array Value} {v : Value} (ho : o.op = .build t parts) (hc : P.built t (parts.map fun (i, x) => (i, ρ x)).toList = some cells) (hv : .agg cells = v) (h : R v w) : Yields P ρ o w R :=
  y_of (v := .agg cells) (w' := w) (by simp only [execOp, ho, Sem.run_bind, run_build w t _ cells hc, Result.andThen_ok, Sem.run_pure]) (by rw [hv]; exact h)

theorem y_ldR {ty : TypeId} {x : Operand} {a : Addr} {v : Value} {k : IntKind} (ho : o.op = .load ty x) (hx : ρ x = .pointer (some a)) (hu : P.underlying ty = some (.int k)) (hc : w.cell? a = some v) (h : R v w) : Yields P ρ o w R := y_ld ho hx hc hu h

theorem y_ext {x : Operand} {i : Nat} {vs : Array Value} {v : Value} (ho : o.op = .extract x i) (hx : ρ x = .tuple vs) (hi : vs[i]? = some v) (h : R v w) : Yields P ρ o w R :=
  y_of (v := v) (w' := w) (by simp [execOp, ho, hx, Instr.extract, hi]) h

theorem y_cs {f : FuncId} {c : Call} {S : Ending → World → Prop} {xs : List Operand} {vs : List Value} (ho : o.op = .call c) (hc : c.callee = .value (.func f)) (hx : c.args = xs.toArray) (hf : ∀ args w, (callFunc f args).run P w = .ok (.enter f args) w)
    (ev0 : ∀ f, ρ (.func f) = .func (.func f) #[] #[]) (hv : xs.map ρ = vs) (h : Calls P f vs.toArray w S) (hS : ∀ e w', S e w' → ∃ v, e = .returned v ∧ R v w') : Yields P ρ o w R := by
  obtain ⟨cl, ag, ts⟩ := c
  simp only at hc hx
  subst hc; subst hx; subst hv
  unfold Yields
  have e : (execOp ρ o).run P w = .ok (.enter f (xs.map ρ).toArray) w := by simp [execOp, ho, resolve, ev0, Deferred.ofValue, invoke, hf]
  rw [e]
  exact h.mono hS
end
theorem ev_func (F : Nat → Value) : ∀ f, ev F (.func f) = .func (.func f) #[] #[] := fun _ => rfl
theorem vs1 {ρ : Operand → Value} {x : Operand} {v : Value} (h : ρ x = v) : [x].map ρ = [v] := by simp [h]
theorem vs2 {ρ : Operand → Value} {x y : Operand} {v u : Value} (h : ρ x = v) (h2 : ρ y = u) : [x, y].map ρ = [v, u] := by simp [h, h2]
theorem vsN {ρ : Operand → Value} : ([] : List Operand).map ρ = [] := rfl
theorem vsC {ρ : Operand → Value} {x : Operand} {v : Value} {xs : List Operand} {vs : List Value} (h : ρ x = v) (h2 : xs.map ρ = vs) : (x :: xs).map ρ = v :: vs := by simp [h, ← h2]

section
variable {ro : Option Nat} {P : Program} {N : Nat} {Q : (Exit → (Nat → Value) → World → Prop)} {F : Nat → Value} {w : World}
/-- An operation that turns nothing, in a region in the text's order. -/
theorem wl_v {ops : Array Oper} {o : Oper} {rest : List Oper} (v : Value) (hg : o.guard = none) (hd : fits N o.dst = true) (hy : Yields P (ev (cutF N F)) o w (fun u w' => u = v ∧ w' = w)) (h : wl ro P N ops Q rest (putF F o.dst v) w) : wl ro P N ops Q (o :: rest) F w :=
  wl_call hg hd hy fun u w' ⟨h1, h2⟩ => by subst h1; subst h2; exact h
theorem wl_vw {ops : Array Oper} {o : Oper} {rest : List Oper} (v : Value) (j : Nat) (want : Bool) (d : Tmp) (hg : o.guard = some (j, want)) (hj : (ops[j]?).bind (·.dst) = some d) (hdn : Nat.blt d N = true) (hv : F d = .bool want) (hd : fits N o.dst = true)
    (hy : Yields P (ev (cutF N F)) o w (fun u w' => u = v ∧ w' = w)) (h : wl ro P N ops Q rest (putF F o.dst v) w) : wl ro P N ops Q (o :: rest) F w := by
  refine wl_when j want d hg hj hdn hv hd ?_
  revert hy
  unfold Yields
  generalize (execOp (ev (cutF N F)) o).run P w = r
  intro hy
  cases r with
  | ok n w' =>
    cases n <;> simp only at hy ⊢ <;> first
      | (obtain ⟨h1, h2⟩ := hy; subst h1; subst h2; exact h)
      | exact hy.elim
      | exact Calls.mono hy (fun e w'' ⟨u, he, h1, h2⟩ => ⟨u, he, by subst h1; subst h2; exact h⟩)
  | halt x w' => exact hy.elim
end
end Go.Proofs.Ytnccblhdokplkaa
set_option maxRecDepth 100000
namespace Go.Proofs.Ytnccblhdokplkaa
open Go.RowKit

/-- What is taken besides is new. -/
def Grew (w : World) (T T' : Nat → Prop) : Prop := ∀ i, T' i → T i ∨ w.heap.size ≤ i
def Apart (T U : Nat → Prop) : Prop := ∀ i, T i → ¬ U i
def noB : Nat → Prop := fun _ => False
def Live (w : World) (T : Nat → Prop) : Prop := ∀ i, T i → i < w.heap.size

theorem Grew.refl (w : World) (T : Nat → Prop) : Grew w T T := fun _ h => .inl h
theorem Grew.trans {S : Nat → Prop} {w0 w : World} {B T T' : Nat → Prop} (h : Grew w0 B T) (k : Kept S w0 w) (g : Grew w T T') : Grew w0 B T' := fun i hi => by
  rcases g i hi with h1 | h1
  · exact h i h1
  · exact .inr (Nat.le_trans k.size h1)
theorem Grew.new {S : Nat → Prop} {w0 w : World} {T : Nat → Prop} (k : Kept S w0 w) (g : Grew w noB T) : Grew w0 noB T := (Grew.refl w0 noB).trans k g
theorem Grew.ok {w0 : World} {B T S : Nat → Prop} (h : Grew w0 B T) (hb : ∀ i, B i → S i) : ∀ i, i < w0.heap.size → T i → S i := fun i hi ht => by
  rcases h i ht with h1 | h1
  · exact hb i h1
  · omega
theorem noB_le {S : Nat → Prop} : ∀ i, noB i → S i := fun _ h => h.elim
theorem Apart.symm {T U : Nat → Prop} (h : Apart T U) : Apart U T := fun i hu ht => h i ht hu
theorem Apart.grew {w : World} {T T' U : Nat → Prop} (h : Apart T U) (g : Grew w T T') (hl : Live w U) : Apart T' U := fun i ht hu => by
  rcases g i ht with h1 | h1
  · exact h i h1 hu
  · have := hl i hu; omega
theorem Apart.new {w : World} {T' U : Nat → Prop} (g : Grew w noB T') (hl : Live w U) : Apart T' U := Apart.grew (T := noB) (fun _ h => h.elim) g hl
theorem Apart.none {T : Nat → Prop} : Apart T noB := fun _ _ h => h
/-- One block. -/
def onB (p : Nat) : Nat → Prop := fun i => i = p
theorem onB_new {w : World} {p : Nat} (h : w.heap.size ≤ p) : Grew w noB (onB p) := fun i hi => .inr (by unfold onB at hi; omega)
theorem onB_live {w : World} {p : Nat} (h : p < w.heap.size) : Live w (onB p) := fun i hi => by unfold onB at hi; omega
theorem Live.mono {S : Nat → Prop} {w w' : World} {T : Nat → Prop} (h : Live w T) (k : Kept S w w') : Live w' T := fun i hi => Nat.lt_of_lt_of_le (h i hi) k.size

section
variable {ro : Option Nat} {P : Program} {N : Nat} {Q : (Exit → (Nat → Value) → World → Prop)} {F : Nat → Value} {w : World}
/-- A guarded call that is come to. -/
theorem wl_callw {ops : Array Oper} {o : Oper} {rest : List Oper} {R : Value → World → Prop} (j : Nat) (want : Bool) (d : Tmp) (hg : o.guard = some (j, want)) (hj : (ops[j]?).bind (·.dst) = some d) (hdn : Nat.blt d N = true) (hv : F d = .bool want) (hd : fits N o.dst = true)
    (hy : Yields P (ev (cutF N F)) o w R) (h : ∀ v w', R v w' → wl ro P N ops Q rest (putF F o.dst v) w') : wl ro P N ops Q (o :: rest) F w := by
  refine wl_when j want d hg hj hdn hv hd ?_
  revert hy
  unfold Yields
  generalize (execOp (ev (cutF N F)) o).run P w = r
  intro hy
  cases r with
  | ok n w' =>
    cases n <;> simp only at hy ⊢ <;> first
      | exact h _ _ hy
      | exact hy.elim
      | exact Calls.mono hy (fun e w'' ⟨v, he, hk⟩ => ⟨v, he, h _ _ hk⟩)
  | halt x w' => exact hy.elim
end
end Go.Proofs.Ytnccblhdokplkaa
set_option maxRecDepth 100000
namespace Go.Proofs.Ytnccblhdokplkaa
open Go.RowKit

/-- The cells of bytes. -/
def byteVals (l : List Nat) : List Value := l.map fun x : Nat => .int .u8 (x : Int)

theorem byteVals_length (l : List Nat) : (byteVals l).length = l.length := by simp [byteVals]
theorem byteVals_append (a b : List Nat) : byteVals (a ++ b) = byteVals a ++ byteVals b := by simp [byteVals]
theorem byteVals_one (l : List Nat) : ∀ u ∈ byteVals l, u.oneCell' = true := by
  intro u hu
  obtain ⟨x, _, rfl⟩ := List.mem_map.1 hu
  rfl
theorem byteVals_at (l : List Nat) (i : Nat) (h : i < l.length) : (byteVals l)[i]? = some (.int .u8 (l.getD i 0 : Nat)) := by
  simp [byteVals, List.getD, h]

theorem Try.info_u8 : (Try.prog.info? 5).map (fun i => (i.zero, i.size, i.bytes)) = some (some (.int .u8 0), 1, 1) := by kernel_rfl

/-- A slice of the bytes l that can be read. -/
def BytesArg (w : World) (v : Value) (l : List Nat) : Prop :=
  ∃ a cap, v = .slice a l.length cap ∧ l.length ≤ cap ∧ cap ≤ maxLen ∧ (a = none → cap = 0) ∧ (∀ x ∈ l, x < 256) ∧
    (0 < l.length → ∃ b off, a = some ⟨b, off, none⟩ ∧ b < w.heap.size ∧ ∀ i, i < l.length → w.cell? ⟨b, off + i, none⟩ = some (.int .u8 (l.getD i 0 : Nat)))

theorem BytesArg.kept {S : Nat → Prop} {w w' : World} {v : Value} {l : List Nat} (h : BytesArg w v l) (k : Kept S w w') (hs : ∀ i, i < w.heap.size → ¬ S i) : BytesArg w' v l := by
  obtain ⟨a, cap, rfl, h1, h2, h3, hl, hc⟩ := h
  refine ⟨a, cap, rfl, h1, h2, h3, hl, fun hpos => ?_⟩
  obtain ⟨b, off, rfl, hb, hcell⟩ := hc hpos
  exact ⟨b, off, rfl, Nat.lt_of_lt_of_le hb k.size, fun i hi => (World.cell?_of_block (k.block b hb (hs b hb))).trans (hcell i hi)⟩

theorem BytesArg.all {w w' : World} {v : Value} {l : List Nat} (h : BytesArg w v l) (k : Kept (fun _ => False) w w') : BytesArg w' v l := h.kept k (fun _ _ x => x)

theorem BytesArg.lt256 {w : World} {v : Value} {l : List Nat} (h : BytesArg w v l) : ∀ x ∈ l, x < 256 := by
  obtain ⟨a, cap, rfl, h1, h2, h3, hl, hc⟩ := h; exact hl

theorem BytesArg.nil (w : World) : BytesArg w (.slice none 0 0) [] := ⟨none, 0, rfl, Nat.le_refl _, Nat.zero_le _, fun _ => rfl, by simp, by simp⟩

theorem getD_lt {l : List Nat} (h : ∀ x ∈ l, x < 256) (i : Nat) : l.getD i 0 < 256 := by
  rw [List.getD]
  cases e : l[i]? with
  | none => simp
  | some x => simpa using h x (List.mem_of_getElem? e)

/-- A row of the call's own, of the bytes l; its block is B or above. -/
def Row (w : World) (B : Nat) (v : Value) (l : List Nat) : Prop := w.ownsRow B 5 1 v l.length (byteVals l) ∧ ∀ x ∈ l, x < 256

theorem Row.nil (w : World) (B : Nat) : Row w B (.slice none 0 0) [] := ⟨World.ownsRow_nil w B _ _, by simp⟩

theorem Row.lt {w : World} {B : Nat} {v : Value} {l : List Nat} (h : Row w B v l) : ∀ k, v.ownBlock = some k → B ≤ k ∧ k < w.heap.size := h.1.lt

theorem Row.kept {S : Nat → Prop} {w w' : World} {B : Nat} {v : Value} {l : List Nat} (h : Row w B v l) (k : Kept S w w') (hs : ∀ g, v.ownBlock = some g → ¬ S g) : Row w' B v l := by
  obtain ⟨⟨h0, h1⟩, h2⟩ := h
  refine ⟨⟨h0, ?_⟩, h2⟩
  rcases h1 with hn | ⟨g, cap, cur, rfl, hb, hg, rest⟩
  · exact .inl hn
  · exact .inr ⟨g, cap, cur, rfl, hb, k.at hg (hs g rfl), rest⟩

theorem Row.all {w w' : World} {B : Nat} {v : Value} {l : List Nat} (h : Row w B v l) (k : Kept (fun _ => False) w w') : Row w' B v l := h.kept k (fun _ _ x => x)

theorem Row.base {w : World} {B B' : Nat} {v : Value} {l : List Nat} (h : Row w B v l) (hb : B' ≤ B) : Row w B' v l := by
  obtain ⟨⟨h0, h1⟩, h2⟩ := h
  refine ⟨⟨h0, ?_⟩, h2⟩
  rcases h1 with hn | ⟨g, cap, cur, rfl, hb', rest⟩
  · exact .inl hn
  · exact .inr ⟨g, cap, cur, rfl, by omega, rest⟩

theorem Row.bytes {w : World} {B : Nat} {v : Value} {l : List Nat} (h : Row w B v l) : BytesArg w v l := by
  obtain ⟨h, h256⟩ := h
  rcases h.2 with ⟨rfl, h0⟩ | ⟨g, cap, cur, rfl, hb, hg, hc, hm, hs, ht⟩
  · have hl : l = [] := List.eq_nil_of_length_eq_zero h0
    subst hl; exact BytesArg.nil w
  · refine ⟨some ⟨g, 0, none⟩, cap, rfl, hc, hm, by simp, h256, fun hpos => ⟨g, 0, rfl, lt_of_heap hg, fun i hi => ?_⟩⟩
    rw [Nat.zero_add, h.cellAt i (by omega)]
    exact byteVals_at l i hi

theorem Row.of_new {w : World} {B g : Nat} {l : List Nat} (h : w.heap[g]? = some (.cells (byteVals l).toArray 5 (0, 0))) (hB : B ≤ g) (hm : l.length ≤ maxLen) (h256 : ∀ x ∈ l, x < 256) :
    Row w B (.slice (some ⟨g, 0, none⟩) l.length l.length) l := by
  refine ⟨⟨by rw [byteVals_length]; omega, .inr ⟨g, l.length, _, rfl, hB, h, Nat.le_refl _, hm, by simp [byteVals_length], ?_⟩⟩, h256⟩
  rw [List.take_of_length_le (by simp [byteVals_length])]

/-- What append leaves: a row of all of them. -/
def Appended (w w' : World) (B : Nat) (v v' : Value) (l : List Nat) : Prop := Row w' B v' l ∧ w.grownBy w' v.ownBlock

theorem run_append_bytes (w : World) (ty : TypeId) (B : Nat) (v x : Value) (l m : List Nat) (hown : Row w B v l) (hx : BytesArg w x m) (hl : l.length + m.length < 1099511627776) (hB : B ≤ w.heap.size) :
    ∃ v' w', (Builtin.append_ #[27, 27] ty #[v, x]).run Try.prog w = .ok v' w' ∧ Appended w w' B v v' (l ++ m) := by
  obtain ⟨i0, hi, hz0, hz1, hz2⟩ := info_parts Try.info_u8
  obtain ⟨a, cap, rfl, h1, h2, h3, h256, hc⟩ := hx
  have hall : ∀ y ∈ l ++ m, y < 256 := by
    intro y hy
    rcases List.mem_append.1 hy with h | h
    · exact hown.2 y h
    · exact h256 y h
  have hlm : l.length + m.length ≤ maxLen := by unfold maxLen; omega
  cases a with
  | none =>
    have hc0 := h3 rfl
    subst hc0
    have hm : m = [] := List.eq_nil_of_length_eq_zero (by omega)
    subst hm
    refine ⟨v, w, run_append_owned_none w B _ ty _ i0 1 Try.underlying27 hi v _ _ hown.1, ⟨by simpa using hown.1, hall⟩, ⟨rfl, rfl, rfl, Nat.le_refl _, fun _ _ _ => rfl⟩⟩
  | some ad =>
    have hcells : ∀ j u, (byteVals m)[j]? = some u → w.cell? (ad.add j) = some u := by
      intro j u hj
      have hjl : j < m.length := by
        have := (List.getElem?_eq_some_iff.1 hj).1
        rwa [byteVals_length] at this
      obtain ⟨b, off, he, hb, hcell⟩ := hc (by omega)
      cases he
      rw [Addr.add_lit, hcell j hjl, ← hj, byteVals_at m j hjl]
    obtain ⟨v', w', hr, ho, hg, _⟩ := run_append_own (P := Try.prog) w B 27 ty 5 i0 (.int .u8 0) 1 1 Try.underlying27 hi hz0 hz1 hz2 rfl (by decide) v l.length (byteVals l) hown.1 ad m.length cap (byteVals m)
      (by rw [byteVals_length]; omega) hcells (byteVals_one m) hlm (by omega) hB
    refine ⟨v', w', hr, ⟨?_, hall⟩, hg⟩
    rw [List.length_append, byteVals_append]; exact ho

/-- A byte that lies in a block of its own. -/
theorem BytesArg.box (w : World) (c : Nat) (h : c < 256) : BytesArg (w.alloc (.cells #[.int .u8 (c : Int)] 5)) (.slice (some ⟨w.heap.size, 0, none⟩) 1 1) [c] := by
  refine ⟨_, 1, rfl, Nat.le_refl _, by unfold maxLen; omega, by simp, by simpa using h, fun _ => ⟨w.heap.size, 0, rfl, by simp, fun i hi => ?_⟩⟩
  have hi0 : i = 0 := by simpa using hi
  subst hi0
  simp

/-- Behind w0 there is a row of the bytes l; of what was there in w0 nothing has turned. -/
def Own (w0 w : World) (v : Value) (l : List Nat) : Prop := Row w w0.heap.size v l ∧ Kept (fun _ => False) w0 w

theorem Own.nil {w0 w : World} (k : Kept (fun _ => False) w0 w) : Own w0 w (.slice none 0 0) [] := ⟨Row.nil w _, k⟩

theorem Own.all {w0 w w' : World} {v : Value} {l : List Nat} (h : Own w0 w v l) (k : Kept (fun _ => False) w w') : Own w0 w' v l := ⟨h.1.all k, h.2.trans k (fun _ _ x => x)⟩

/-- The text of bytes. -/
def textOf (l : List Nat) : ByteArray := (l.map fun n : Nat => (n : Int)).foldl (fun r n => r.push (UInt8.ofNat n.toNat)) ByteArray.empty

theorem textOf_toList (l : List Nat) : (textOf l).data.toList = l.map UInt8.ofNat := by
  have key : ∀ (l : List Nat) (r : ByteArray), ((l.map fun n : Nat => (n : Int)).foldl (fun r n => r.push (UInt8.ofNat n.toNat)) r).data.toList = r.data.toList ++ l.map UInt8.ofNat := by
    intro l
    induction l with
    | nil => intro r; simp
    | cons c t ih =>
      intro r
      simp only [List.map_cons, List.foldl_cons, Int.toNat_natCast]
      rw [ih]; simp [ByteArray.push]
  unfold textOf; rw [key]; simp

theorem textOf_inj {l m : List Nat} (hl : ∀ x ∈ l, x < 256) (hm : ∀ x ∈ m, x < 256) (h : textOf l = textOf m) : l = m := by
  have e : l.map UInt8.ofNat = m.map UInt8.ofNat := by rw [← textOf_toList, ← textOf_toList, h]
  have back : ∀ k : List Nat, (∀ x ∈ k, x < 256) → (k.map UInt8.ofNat).map UInt8.toNat = k := by
    intro k hk
    rw [List.map_map]
    conv => rhs; rw [← List.map_id k]
    apply List.map_congr_left
    intro x hx
    have := hk x hx
    simp; omega
  rw [← back l hl, ← back m hm, e]

theorem toList_data (s : ByteArray) : s.toList = s.data.toList := by
  have := Go.ByteArray.toList_eq s
  exact this

/-- Whether two texts are alike. -/
theorem textOf_beq {l m : List Nat} (hl : ∀ x ∈ l, x < 256) (hm : ∀ x ∈ m, x < 256) : ((textOf l).toList == (textOf m).toList) = decide (l = m) := by
  by_cases h : l = m
  · subst h; simp
  · have : (textOf l).toList ≠ (textOf m).toList := fun e => by
      rw [toList_data, toList_data] at e
      exact h (textOf_inj hl hm (by
        have e2 := congrArg List.toArray e
        simp only [Array.toArray_toList] at e2
        generalize textOf l = x at e2 ⊢
        generalize textOf m = y at e2 ⊢
        cases x; cases y; cases e2; rfl))
    simp [h, this]

theorem BytesArg.text {w : World} {v : Value} {l : List Nat} (h : BytesArg w v l) : (convert 27 9 v).run Try.prog w = .ok (.string (textOf l)) w := by
  obtain ⟨a, cap, rfl, h1, h2, h3, h256, hc⟩ := h
  rw [run_convert_bytes_string w 27 9 5 _ _ _ Try.underlying27 Try.underlying5 Try.underlying9]
  cases a with
  | none =>
    have hc0 := h3 rfl
    subst hc0
    have hl : l = [] := List.eq_nil_of_length_eq_zero (by omega)
    subst hl
    simp [Conv.bytesToString, textOf]
  | some ad =>
    have hl := run_loadCells_list (P := Try.prog) w ad (byteVals l) (by
      intro j u hj
      have hjl : j < l.length := by
        have := (List.getElem?_eq_some_iff.1 hj).1
        rwa [byteVals_length] at this
      obtain ⟨b, off, he, hb, hcell⟩ := hc (by omega)
      cases he
      rw [Addr.add_lit, hcell j hjl, ← hj, byteVals_at l j hjl])
    rw [byteVals_length] at hl
    have e : (byteVals l).toArray = ((l.map fun n : Nat => (n : Int)).map (Value.int .u8)).toArray := by simp [byteVals]
    rw [e] at hl
    exact run_bytesToString w ad l.length cap _ hl
end Go.Proofs.Ytnccblhdokplkaa
set_option maxRecDepth 100000
namespace Go.Proofs.Ytnccblhdokplkaa
open Go.RowKit

/-- Bytes that are bytes, and not too many. -/
def Fair (l : List Nat) : Prop := (∀ x ∈ l, x < 256) ∧ l.length < 1099511627776

theorem Fair.getD {l : List Nat} (h : Fair l) (i : Nat) : l.getD i 0 < 256 := by
  rw [List.getD]
  cases hh : l[i]? with
  | none => simp
  | some x => simpa using h.1 x (List.mem_of_getElem? hh)

end Go.Proofs.Ytnccblhdokplkaa
set_option maxRecDepth 100000
namespace Go.Proofs.Ytnccblhdokplkaa
open Go.RowKit

/-- A slice's bytes. -/
def SliceOf (w : World) (v : Value) (l : List Nat) : Prop :=
  ∃ a cap, v = .slice a l.length cap ∧ (0 < l.length → ∃ ad, a = some ad ∧ ∀ j u, (byteVals l)[j]? = some u → w.cell? (ad.add j) = some u)


end Go.Proofs.Ytnccblhdokplkaa
set_option maxRecDepth 100000
namespace Go.Proofs.Ytnccblhdokplkaa
open Go.RowKit

/-- What is kept of all that was there ahead of a block of the call's own is kept. -/
theorem Kept.own {S : Nat → Prop} {w w' : World} {o : Obj} (h : Kept S (w.alloc o) w') (hs : ∀ k, k < w.heap.size → ¬ S k) : Kept (fun _ => False) w w' := by
  refine ⟨h.os, h.tape, h.output, ?_, fun k hk _ => ?_⟩
  · have := h.size; simp at this; omega
  · exact (h.block k (by simp; omega) (hs k hk)).trans (Below.heap_alloc w o k hk)

theorem SliceOf.of_new {w : World} {g : Nat} {l : List Nat} (h : w.heap[g]? = some (.cells (byteVals l).toArray 5 (0, 0))) : SliceOf w (.slice (some ⟨g, 0, none⟩) l.length l.length) l := by
  refine ⟨_, _, rfl, fun _ => ⟨⟨g, 0, none⟩, rfl, fun j u hj => ?_⟩⟩
  rw [Addr.add_lit, cell_of_heap h]
  simpa using hj

theorem Kept.all {w w' : World} (h : Kept (fun _ => False) w w') : Below w.heap.size w w' := h.below (Nat.le_refl _) (fun _ _ x => x)

end Go.Proofs.Ytnccblhdokplkaa
set_option maxRecDepth 100000
namespace Go.Proofs.Ytnccblhdokplkaa
open Go.RowKit

theorem BytesArg.slice {w : World} {v : Value} {l : List Nat} (h : BytesArg w v l) : SliceOf w v l := by
  obtain ⟨a, cap, rfl, -, -, -, hl, hc⟩ := h
  refine ⟨a, cap, rfl, fun hpos => ?_⟩
  obtain ⟨b, off, rfl, hb, hcell⟩ := hc hpos
  refine ⟨⟨b, off, none⟩, rfl, fun j u hj => ?_⟩
  have hjl : j < l.length := by
    have := (List.getElem?_eq_some_iff.1 hj).1
    rwa [byteVals_length] at this
  rw [Addr.add_lit, hcell j hjl]
  rw [← hj]; simp [byteVals, List.getD, hjl]

end Go.Proofs.Ytnccblhdokplkaa
set_option maxRecDepth 100000
namespace Go.Proofs.Ytnccblhdokplkaa
open Go.RowKit

theorem SliceOf.of_row {w : World} {v : Value} {l : List Nat} (h : w.ownsRow 0 5 1 v l.length (byteVals l)) : SliceOf w v l := by
  rcases h.2 with ⟨rfl, h0⟩ | ⟨g, cap, cur, rfl, _, hg, _⟩
  · exact ⟨none, 0, by rw [h0], fun hp => by omega⟩
  · exact ⟨_, cap, rfl, fun _ => ⟨⟨g, 0, none⟩, rfl, fun j u hj => h.cells (g := g) rfl j u hj⟩⟩

end Go.Proofs.Ytnccblhdokplkaa
set_option maxRecDepth 100000
namespace Go.Proofs.Ytnccblhdokplkaa
open Go.RowKit

/-- Bytes that can be read. -/
def Byt (w : World) (T : Nat → Prop) (v : Value) (l : List Nat) : Prop := BytesArg w v l ∧ Live w T ∧ (0 < l.length → ∀ a n c, v = .slice (some a) n c → T a.block)
theorem Byt.live {w : World} {T : Nat → Prop} {v : Value} {l : List Nat} (h : Byt w T v l) : Live w T := h.2.1
theorem Byt.all {S : Nat → Prop} {w w' : World} {T : Nat → Prop} {v : Value} {l : List Nat} (h : Byt w T v l) (k : Kept S w w') (ha : Apart T S) : Byt w' T v l := by
  refine ⟨?_, h.2.1.mono k, h.2.2⟩
  obtain ⟨⟨a, cap, rfl, h1, h2, h3, hl, hc⟩, hL, hT⟩ := h
  refine ⟨a, cap, rfl, h1, h2, h3, hl, fun hpos => ?_⟩
  obtain ⟨b, off, rfl, hb, hcell⟩ := hc hpos
  exact ⟨b, off, rfl, Nat.lt_of_lt_of_le hb k.size, fun i hi => (World.cell?_of_block (k.block b hb (ha b (hT hpos _ _ _ rfl)))).trans (hcell i hi)⟩
/-- The block of bytes. -/
def bytB (v : Value) (l : List Nat) : Nat → Prop := fun i => 0 < l.length ∧ ∃ a n c, v = .slice (some a) n c ∧ i = a.block
theorem Byt.arg {w : World} {v : Value} {l : List Nat} (h : BytesArg w v l) : Byt w (bytB v l) v l := by
  refine ⟨h, fun i hi => ?_, fun hp a n c e => ⟨hp, a, n, c, e, rfl⟩⟩
  obtain ⟨hp, a, n, c, rfl, rfl⟩ := hi
  obtain ⟨a', cap, e, h1, h2, h3, hl, hc⟩ := h
  obtain ⟨b, off, rfl, hb, _⟩ := hc hp
  cases e; exact hb
theorem Byt.new {w : World} {g : Nat} {l : List Nat} (h : w.heap[g]? = some (.cells (byteVals l).toArray 5 (0, 0))) (hm : l.length ≤ maxLen) (h256 : ∀ x ∈ l, x < 256) : Byt w (onB g) (.slice (some ⟨g, 0, none⟩) l.length l.length) l := by
  refine ⟨(Row.of_new (B := 0) h (Nat.zero_le _) hm h256).bytes, onB_live (lt_of_heap h), fun _ a n c e => ?_⟩
  cases e; rfl
theorem Byt.nil (w : World) : Byt w noB (.slice none 0 0) [] := ⟨BytesArg.nil w, fun _ h => h.elim, fun h => absurd h (Nat.lt_irrefl 0)⟩

end Go.Proofs.Ytnccblhdokplkaa
set_option maxRecDepth 100000
namespace Go.Proofs.Ytnccblhdokplkaa
open Go.RowKit

theorem Kept.fin {w w' : World} (h : Kept (fun _ => False) w w') : Below w.heap.size w w' := h.below (Nat.le_refl _) (fun _ _ x => x)

theorem BytesArg.cells {w : World} {a : Option Addr} {n cap : Nat} {l : List Nat} (h : BytesArg w (.slice a n cap) l) :
    0 < n → ∃ b off, a = some ⟨b, off, none⟩ ∧ b < w.heap.size ∧ ∀ i, i < n → w.cell? ⟨b, off + i, none⟩ = some (.int .u8 (l.getD i 0 : Nat)) := by
  obtain ⟨a2, cap2, e, _, _, _, _, hc⟩ := h
  cases e; exact hc

theorem BytesArg.shape {w : World} {v : Value} {l : List Nat} (h : BytesArg w v l) : ∃ a cap, v = .slice a l.length cap := by
  obtain ⟨a, cap, rfl, _⟩ := h; exact ⟨a, cap, rfl⟩

theorem Row.shape {w : World} {B : Nat} {v : Value} {l : List Nat} (h : Row w B v l) : ∃ a cap, v = .slice a l.length cap := by
  rcases h.1.2 with ⟨rfl, h0⟩ | ⟨g, cap, cur, rfl, _⟩
  · exact ⟨none, 0, by rw [h0]⟩
  · exact ⟨_, _, rfl⟩

theorem BytesArg.cut {w : World} {a : Option Addr} {len cap : Nat} {l : List Nat} (h : BytesArg w (.slice a len cap) l) (i j cap' : Nat) (hi : i ≤ j) (hj : j ≤ l.length) (hc : j - i ≤ cap') (hm : cap' ≤ maxLen) (a' : Option Addr)
    (ha : 0 < j - i → a' = a.map (·.add i)) (h0 : a' = none → cap' = 0) : BytesArg w (.slice a' (j - i) cap') ((l.drop i).take (j - i)) := by
  obtain ⟨a2, cap2, e, h1, h2, h3, h256, hcell⟩ := h
  cases e
  have hl : ((l.drop i).take (j - i)).length = j - i := by simp; omega
  refine ⟨a', cap', by rw [hl], by rw [hl]; exact hc, hm, h0, fun x hx => h256 x (List.mem_of_mem_drop (List.mem_of_mem_take hx)), fun hpos => ?_⟩
  rw [hl] at hpos
  obtain ⟨b, off, rfl, hb, hx⟩ := hcell (by omega)
  refine ⟨b, off + i, by rw [ha hpos]; simp [Addr.add_lit], hb, fun t ht => ?_⟩
  rw [hl] at ht
  have e1 := hx (i + t) (by omega)
  rw [Nat.add_assoc, e1]
  have ht2 : t < j - i := ht
  simp [List.getD, ht2]

end Go.Proofs.Ytnccblhdokplkaa
set_option maxRecDepth 100000
namespace Go.Proofs.Ytnccblhdokplkaa
open Go.RowKit

theorem y_text {ρ : Operand → Value} {o : Oper} {w : World} {R : Value → World → Prop} {x : Operand} {l : List Nat} (ho : o.op = .convert 27 9 x) (hx : BytesArg w (ρ x) l) (h : R (.string (textOf l)) w) : Yields Try.prog ρ o w R :=
  y_val (by simp [execOp, ho, hx.text]) h

theorem BytesArg.new (w : World) (l : List Nat) (hl : l.length ≤ maxLen) (h : ∀ x ∈ l, x < 256) : BytesArg (w.alloc (.cells (byteVals l).toArray 5)) (.slice (some ⟨w.heap.size, 0, none⟩) l.length l.length) l :=
  (Row.of_new (B := 0) (heap_alloc_new w _) (Nat.zero_le _) hl h).bytes

theorem y_len {ρ : Operand → Value} {o : Oper} {w : World} {R : Value → World → Prop} {c : Call} {x : Operand} {t e : TypeId} {a : Option Addr} {n cap : Nat} (ho : o.op = .call c) (hc : c.callee = .builtin .len) (hx : c.args = #[x]) (ht : c.argTypes = #[t]) (hu : Try.prog.underlying t = some (.slice e))
    (h1 : ρ x = .slice a n cap) (h : R (.int .i64 (n : Int)) w) : Yields Try.prog ρ o w R := by
  obtain ⟨cl, xs, ts⟩ := c
  simp only at hc hx ht
  subst hc; subst hx; subst ht
  exact y_val (v := .int .i64 (n : Int)) (w' := w) (by simp [execOp, ho, h1, resolve, invoke, builtin, run_underlying hu, Builtin.len_]; rfl) h

def Pd.bytes (l : List Nat) : Pd := ⟨fun v w => BytesArg w v l, fun _ _ _ h k => h.all k⟩

end Go.Proofs.Ytnccblhdokplkaa
set_option maxRecDepth 100000
namespace Go.Proofs.Ytnccblhdokplkaa
open Go.RowKit

theorem Kept.setRow {S : Nat → Prop} {a w : World} (h : Kept S a w) (g : Nat) (hg : g < a.heap.size → S g) (c : Array Value) : Kept S a (w.setRow g c) :=
  h.trans (S' := fun k => k = g) ⟨rfl, rfl, rfl, by simp [World.setRow], fun k hk hn => setRow_other _ _ _ _ hn⟩ (fun i hi x => by subst x; exact hg hi)

section
variable {P : Program}

theorem rangeAt_of_heap {w : World} {b : Nat} {c : List Value} {t : TypeId} {f : Nat × Nat} (h : w.heap[b]? = some (.cells c.toArray t f)) : w.rangeAt b 0 c := by
  intro j v hv
  rw [Nat.zero_add, cell_of_heap h]
  simpa using hv

theorem run_loadVar_whole (w : World) (b : Nat) (t ty : TypeId) (cs : Array Value) (fr : Nat × Nat) (d : TypeDesc) (hg : w.heap[b]? = some (.cells cs t fr))
    (hu : P.underlying ty = some d) (hd : d.isRow = true) (hi : (P.info? ty).map (·.size) = some cs.size) : (loadVar ty ⟨b, 0, none⟩).run P w = .ok (.agg cs) w := by
  have e := run_loadVar_mid (P := P) w b 0 ty cs.toList d (rangeAt_of_heap (t := t) (f := fr) (by simpa using hg)) hu hd (by simpa using hi)
  simpa using e

theorem y_store_row {ρ : Operand → Value} {op : Oper} {w : World} {R : Value → World → Prop} (ty : TypeId) (x y : Operand) (ho : op.op = .store ty x y)
    (b : Nat) (old cells : Array Value) (t : TypeId) (hx : ρ x = .pointer (some ⟨b, 0, none⟩)) (hy : ρ y = .agg cells)
    (hg : w.heap[b]? = some (.cells old t (0, 0))) (hs : old.size = cells.size) (hi : (P.info? ty).map (·.size) = some cells.size) (h1 : cells.all (·.oneCell') = true)
    (h : ∀ w', w'.heap[b]? = some (.cells cells t (0, 0)) → Kept (fun k => k = b) w w' → R undef w') : Yields P ρ op w R := by
  unfold Yields execOp
  simp only [ho, hx, hy, Instr.storeAt, Instr.sureAddr, Sem.run_bind, Sem.run_pure, Result.andThen_ok, run_storeVar_row w b t ty old cells hg hi hs h1]
  exact h _ (setRow_heap _ _ _ _ _ _ hg) ((Kept.refl (fun k => k = b) w).setRow b (fun _ => rfl) cells)

/-- A result that is an array or a struct lies in a block. -/
theorem results_cell {fn : Func} {p : Tmp} {ty : TypeId} (h : fn.results = #[.cell p ty]) (tmps : Array Value) (w : World) (b : Nat) (hp : tmps.getD p undef = .pointer (some ⟨b, 0, none⟩))
    (cs : Array Value) (t : TypeId) (fr : Nat × Nat) (d : TypeDesc) (hg : w.heap[b]? = some (.cells cs t fr))
    (hu : P.underlying ty = some d) (hd : d.isRow = true) (hi : (P.info? ty).map (·.size) = some cs.size) : (results fn tmps).run P w = .ok (.agg cs) w := by
  have hl := run_loadVar_whole (P := P) w b t ty cs fr d hg hu hd hi
  have hp' : tmps[p]?.getD undef = .pointer (some ⟨b, 0, none⟩) := by rw [← hp]; simp
  simp only [results, h]
  simp [hp', asAddr, hl]

theorem y_load_row {ρ : Operand → Value} {o : Oper} {w : World} {R : Value → World → Prop} {ty : TypeId} {x : Operand} (ho : o.op = .load ty x)
    (b : Nat) (hx : ρ x = .pointer (some ⟨b, 0, none⟩)) (cs : Array Value) (t : TypeId) (fr : Nat × Nat) (d : TypeDesc) (hg : w.heap[b]? = some (.cells cs t fr))
    (hu : P.underlying ty = some d) (hd : d.isRow = true) (hi : (P.info? ty).map (·.size) = some cs.size) (h : R (.agg cs) w) : Yields P ρ o w R := by
  have e : (execOp ρ o).run P w = .ok (.value (.agg cs)) w := by
    simp only [execOp, ho, hx, Instr.loadAt, Instr.sureAddr, Sem.run_bind, Sem.run_pure, Result.andThen_ok, run_loadVar_whole w b t ty cs fr d hg hu hd hi]
  unfold Yields; rw [e]; exact h
end
end Go.Proofs.Ytnccblhdokplkaa
set_option maxRecDepth 100000
namespace Go.Proofs.Ytnccblhdokplkaa
open Go.RowKit

/-- An array's cells. -/
def arrL (n : Nat) (b : Nat → Int) : List Value := (List.range n).map fun i => .int .i64 (b i)

theorem arrL_length (n : Nat) (b : Nat → Int) : (arrL n b).length = n := by simp [arrL]

theorem arrL_at {n : Nat} {b : Nat → Int} {i : Nat} (h : i < n) : (arrL n b)[i]? = some (.int .i64 (b i)) := by
  unfold arrL
  rw [List.getElem?_map, List.getElem?_range h]; rfl

theorem arrL_one (n : Nat) (b : Nat → Int) : ∀ u ∈ arrL n b, u.oneCell' = true := by
  intro u hu
  obtain ⟨x, _, rfl⟩ := List.mem_map.1 hu
  rfl

theorem arrL_congr {n : Nat} {b c : Nat → Int} (h : ∀ i, i < n → b i = c i) : arrL n b = arrL n c := by
  unfold arrL
  apply List.map_congr_left
  intro i hi
  rw [h i (by simpa using hi)]

/-- One place told anew. -/
def upd (b : Nat → Int) (k : Nat) (x : Int) : Nat → Int := fun i => if i = k then x else b i

theorem arrL_zero (n : Nat) : (arrL n (fun _ => 0)).toArray = Array.replicate n (.int .i64 0) := by
  unfold arrL
  apply Array.ext'
  rw [Array.toList_replicate]
  show List.map (fun _ => Value.int .i64 0) (List.range n) = _
  rw [List.map_const', List.length_range]

/-- A block in memory. -/
def Blk (w : World) (p : Nat) (t : TypeId) (b : Nat → Int) : Prop := w.heap[p]? = some (.cells (arrL 16 b).toArray t (0, 0))

theorem Blk.all {w w' : World} {S : Nat → Prop} {p : Nat} {t : TypeId} {b : Nat → Int} (h : Blk w p t b) (k : Kept S w w') (hn : ¬ S p) : Blk w' p t b := k.at h hn
theorem Blk.congr {w : World} {p : Nat} {t : TypeId} {b c : Nat → Int} (h : Blk w p t b) (e : ∀ i, i < 16 → b i = c i) : Blk w p t c := by unfold Blk at *; rw [← arrL_congr e]; exact h
theorem Blk.cell {w : World} {p : Nat} {t : TypeId} {b : Nat → Int} (h : Blk w p t b) {i : Nat} (hi : i < 16) : w.cell? ⟨p, i, none⟩ = some (.int .i64 (b i)) := by
  rw [cell_of_heap h, List.getElem?_toArray]; exact arrL_at hi
theorem Blk.free {w : World} {p : Nat} {t : TypeId} {b : Nat → Int} (h : Blk w p t b) (i : Nat) : w.frozen? ⟨p, i, none⟩ = false := frozen_of_heap h
theorem Blk.lt {w : World} {p : Nat} {t : TypeId} {b : Nat → Int} (h : Blk w p t b) : p < w.heap.size := lt_of_heap h
theorem Blk.other {w : World} {p q : Nat} {t : TypeId} {b : Nat → Int} (h : Blk w p t b) (k : Nat) (x : Value) (hq : p ≠ q) : Blk (w.setCell ⟨q, k, none⟩ x) p t b := by
  unfold Blk; rw [heap_setCell_other _ _ _ _ _ hq]; exact h
theorem Blk.new (w : World) (t : TypeId) (b : Nat → Int) : Blk (w.alloc (.cells (arrL 16 b).toArray t)) w.heap.size t b := heap_alloc_new w _
theorem Blk.alloc {w : World} {p : Nat} {t : TypeId} {b : Nat → Int} (h : Blk w p t b) (o : Obj) : Blk (w.alloc o) p t b := (Below.heap_alloc w o p h.lt).trans h

/-- The two types of a block. -/
def BlkT (t : TypeId) : Prop := Try.prog.underlying t = some (.array 16 3) ∧ (Try.prog.info? t).map (·.size) = some 16 ∧ (∀ w, (zeroValue t).run Try.prog w = .ok (.agg (arrL 16 (fun _ => 0)).toArray) w)
theorem BlkT.size {t : TypeId} (h : BlkT t) (b : Nat → Int) : (Try.prog.info? t).map (·.size) = some (arrL 16 b).toArray.size := by rw [List.size_toArray, arrL_length]; exact h.2.1

end Go.Proofs.Ytnccblhdokplkaa
set_option maxRecDepth 100000
namespace Go.Proofs.Ytnccblhdokplkaa
open Go.RowKit

theorem Blk.ne {w : World} {p q : Nat} {t : TypeId} {b : Nat → Int} (h : Blk w p t b) (e : q = w.heap.size) : p ≠ q := by have := h.lt; omega

/-- A block of these numbers, and 0. -/
def blL (l : List Int) : Nat → Int := fun i => l.getD i 0


end Go.Proofs.Ytnccblhdokplkaa
set_option maxRecDepth 100000
namespace Go.Proofs.Ytnccblhdokplkaa
open Go.RowKit

/-- One cell. -/
def Cel (w : World) (p : Nat) (t : TypeId) (v : Value) : Prop := w.heap[p]? = some (.cells #[v] t (0, 0))
theorem Cel.all {S : Nat → Prop} {w w' : World} {p : Nat} {t : TypeId} {v : Value} (h : Cel w p t v) (k : Kept S w w') (hn : ¬ S p) : Cel w' p t v := k.at h hn
theorem Cel.lt {w : World} {p : Nat} {t : TypeId} {v : Value} (h : Cel w p t v) : p < w.heap.size := lt_of_heap h
theorem Cel.cell {w : World} {p : Nat} {t : TypeId} {v : Value} (h : Cel w p t v) : w.cell? ⟨p, 0, none⟩ = some v := by rw [cell_of_heap h]; rfl

def oneC : Value → Bool
  | .int _ _ | .bool _ | .pointer _ | .slice _ _ _ | .string _ => true
  | _ => false

def plainD : TypeDesc → Bool
  | .struct _ | .array _ _ => false
  | _ => true

section
variable {ro : Option Nat} {P : Program} {ρ : Operand → Value} {o : Oper} {w : World} {R : Value → World → Prop}
theorem y_ldA {ty : TypeId} {x : Operand} {a : Addr} {v : Value} {d : TypeDesc} (ho : o.op = .load ty x) (hx : ρ x = .pointer (some a)) (hu : P.underlying ty = some d) (hd : plainD d = true) (hc : w.cell? a = some v) (h : R v w) : Yields P ρ o w R := by
  have hA : (isAgg ty).run P w = .ok false w := by
    cases d <;> first | (simp [plainD] at hd; done) | simp [isAgg, run_underlying hu]
  exact y_val (v := v) (w' := w) (by simp [execOp, ho, hx, Instr.loadAt, Instr.sureAddr, loadVar, hA, hc]) h
theorem y_load_cel {ty t : TypeId} {x : Operand} {p : Nat} {v : Value} {d : TypeDesc} (ho : o.op = .load ty x) (hx : ρ x = .pointer (some ⟨p, 0, none⟩)) (hu : P.underlying ty = some d) (hB : Cel w p t v) (hd : plainD d = true := by rfl) (h : R v w) : Yields P ρ o w R := y_ldA ho hx hu hd hB.cell h
theorem y_fieldR {s : TypeId} {x : Operand} {fs : Array Field} {i b off off' n : Nat} {f : Field} (ho : o.op = .fieldAddr s x i) (hx : ρ x = .pointer (some ⟨b, off, none⟩)) (hu : P.underlying s = some (.struct fs)) (hf : fs[i]? = some f) (hs : (P.info? f.type).map (·.size) = some n) (hn : n ≠ 0) (hoff : off + f.offset = off')
    (h : R (.pointer (some ⟨b, off', none⟩)) w) : Yields P ρ o w R := by
  cases hq : P.info? f.type with
  | none => simp [hq] at hs
  | some j =>
    have hs' : j.size = n := by simpa [hq] using hs
    exact y_val (v := .pointer (some ⟨b, off', none⟩)) (w' := w) (by simp [execOp, ho, hx, Instr.fieldAt, run_underlying hu, hf, Instr.sureAddr, fieldPlace, sizeOf, typeInfo, hq, hs', hn, Addr.add_lit, hoff]) h
theorem y_eqlS {t t' : TypeId} {x y : Operand} {m n : ByteArray} {b : Bool} (ho : o.op = .binOp .eql t x y t') (hx : ρ x = .string m) (hy : ρ y = .string n) (hr : (m.toList == n.toList) = b) (h : R (.bool b) w) : Yields P ρ o w R :=
  y_eql_text ho hx hy (by rw [hr]; exact h)
end

section
variable {ρ : Operand → Value} {o : Oper} {w : World} {R : Value → World → Prop}
theorem y_lenV {c : Call} {x : Operand} {T : Nat → Prop} {v : Value} {l : List Nat} (ho : o.op = .call c) (hc : c = { callee := .builtin .len, args := #[x], argTypes := #[27] }) (hx : ρ x = v) (hb : Byt w T v l) (h : R (.int .i64 ((l.length : Nat) : Int)) w) : Yields Try.prog ρ o w R := by
  subst hc
  obtain ⟨⟨a, cap, rfl, _⟩, _⟩ := hb
  exact y_len ho rfl rfl rfl Try.underlying27 hx h
theorem bytes_at {x : Operand} {T : Nat → Prop} {v : Value} {l : List Nat} (hx : ρ x = v) (hb : Byt w T v l) : BytesArg w (ρ x) l := by rw [hx]; exact hb.1
end

section
variable {ro : Option Nat} {N : Nat} {Q : (Exit → (Nat → Value) → World → Prop)} {F : Nat → Value} {w : World} {o : Oper} {P : Program}
theorem wl_alloc_cel {ops : Array Oper} {rest : List Oper} {t : TypeId} {v : Value} (hg : o.guard = none) (hd : fits N o.dst = true) (ho : o.op = .alloc t) (hi : (P.info? t).map (fun i => (i.zero, i.size)) = some (some v, 1)) (hv : oneC v = true)
    (h : ∀ p w', Cel w' p t v → Grew w noB (onB p) → Kept (fun _ => False) w w' → wl ro P N ops Q rest (putF F o.dst (.pointer (some ⟨p, 0, none⟩))) w') : wl ro P N ops Q (o :: rest) F w :=
  wl_op hg hd (y_of (v := .pointer (some ⟨w.heap.size, 0, none⟩)) (w' := w.alloc (.cells #[v] t)) (by simp [execOp, ho, (zero_of_info hi).1, go_sem]; cases v <;> first | rfl | (simp [oneC] at hv; done)) (h _ _ (heap_alloc_new w _) (onB_new (Nat.le_refl _)) ((Kept.refl _ _).alloc _)))
theorem wl_store_cel {ops : Array Oper} {rest : List Oper} {ty t : TypeId} {x y : Operand} {p : Nat} {v v' : Value} (hg : o.guard = none) (hdn : o.dst = none) (ho : o.op = .store ty x y) (hx : ev (cutF N F) x = .pointer (some ⟨p, 0, none⟩)) (hy : ev (cutF N F) y = v') (hB : Cel w p t v) (hv : oneC v' = true)
    (hs : (P.info? ty).map (·.size) = some 1)
    (h : ∀ w', Cel w' p t v' → Kept (fun k => k = p) w w' → wl ro P N ops Q rest F w') : wl ro P N ops Q (o :: rest) F w := by
  have hc := hB.cell
  have hf : w.frozen? ⟨p, 0, none⟩ = false := frozen_of_heap hB
  cases hq : P.info? ty with
  | none => simp [hq] at hs
  | some i =>
    have hs' : i.size = 1 := by simpa [hq] using hs
    refine wl_op hg (by rw [hdn]; rfl) ?_
    have e : (execOp (ev (cutF N F)) o).run P w = .ok .skip (w.setCell ⟨p, 0, none⟩ v') ∨ (execOp (ev (cutF N F)) o).run P w = .ok (.value undef) (w.setCell ⟨p, 0, none⟩ v') := by
      cases v' <;> first | (simp [oneC] at hv; done) | simp [execOp, ho, hx, hy, Instr.storeAt, Instr.sureAddr, storeVar, sizeOf, typeInfo, hq, hs', Value.cells, hc, hf, go_sem]
    have hn : Cel (w.setCell ⟨p, 0, none⟩ v') p t v' := by unfold Cel; rw [heap_setCell_same _ _ _ _ hB]; rfl
    unfold Yields
    rw [hdn]
    rcases e with e | e <;> rw [e] <;> exact h _ hn ((Kept.refl (fun k => k = p) w).setCell ⟨p, 0, none⟩ (fun _ => rfl) _)
end
end Go.Proofs.Ytnccblhdokplkaa
set_option maxRecDepth 100000
namespace Go.Proofs.Ytnccblhdokplkaa
open Go.RowKit

theorem up_other (F : Nat → Value) (d : Nat) (v : Value) {t : Nat} (h : t ≠ d) : up F d v t = F t := by
  unfold up
  cases hb : Nat.beq t d with
  | false => rfl
  | true => exact absurd (Nat.eq_of_beq_eq_true hb) h
/-- What the body of the loop has been given so far. -/
def Jat {α : Type} (w : World) (_U : Nat → Prop) (J : List α → World → Prop) (pre : List α) : Prop := J pre w ∧ AbidesFrom w.heap.size J
theorem Jat.all {α : Type} {w w' : World} {U : Nat → Prop} {J : List α → World → Prop} {pre : List α} (h : Jat w U J pre) (k : Kept (fun _ => False) w w') (_ : Apart U (fun _ => False)) : Jat w' U J pre :=
  ⟨h.2 _ _ _ none h.1 ⟨k.os, k.tape, k.output, k.size, fun i hi _ => k.block i hi id⟩ (fun _ e => by cases e),
   fun s W W' row hs hg hr => h.2 s W W' row hs hg (fun r e => ⟨Nat.le_trans k.size (hr r e).1, (hr r e).2⟩)⟩
theorem Jat.next {α : Type} {w w' : World} {U : Nat → Prop} {J : List α → World → Prop} {pre xs : List α} (h : Jat w U J pre) (hs : w.heap.size ≤ w'.heap.size) (hj : J xs w') : Jat w' U J xs :=
  ⟨hj, fun s W W' row hs' hg hr => h.2 s W W' row hs' hg (fun r e => ⟨Nat.le_trans hs (hr r e).1, (hr r e).2⟩)⟩

def RowNew (B : Nat) (A : World) (row : Option Nat) : Prop := ∀ r, row = some r → B ≤ r ∧ ∃ o : Obj, A.heap[r]? = some o ∧ o.isCells = false
def Cells (A : World) (T : Nat → Prop) : Prop := ∀ i, T i → ∃ o : Obj, A.heap[i]? = some o ∧ o.isCells = true
theorem kept_row {A B : World} {row : Option Nat} (hg : A.grownBy B row) : Kept (fun k => some k = row) A B := ⟨hg.os, hg.tape, hg.output, hg.size, fun k hk hn => hg.block k hk hn⟩
theorem Cells.apart {A : World} {T : Nat → Prop} {row : Option Nat} {n : Nat} (h : Cells A T) (hr : RowNew n A row) : Apart T (fun k => some k = row) := fun i hi e => by
  obtain ⟨o, ho, hc⟩ := h i hi
  obtain ⟨_, o', ho', hc'⟩ := hr i e.symm
  rw [ho] at ho'; cases ho'; rw [hc] at hc'; cases hc'
theorem Kept.row {S : Nat → Prop} {w0 A B : World} {row : Option Nat} {n : Nat} (h : Kept S w0 A) (hg : A.grownBy B row) (hr : RowNew n A row) (hn : w0.heap.size ≤ n) : Kept S w0 B := h.grown hg (fun k e hk => absurd (hr k e).1 (by omega))
theorem Cells.or {A : World} {T U : Nat → Prop} (h : Cells A T) (k : Cells A U) : Cells A (fun i => T i ∨ U i) := fun i hi => hi.elim (h i) (k i)
theorem cells_of_heap {A : World} {p : Nat} {c : Array Value} {t : TypeId} {z : Nat × Nat} (h : A.heap[p]? = some (.cells c t z)) : Cells A (onB p) := fun i hi => by
  cases hi; exact ⟨_, h, rfl⟩
theorem Blk.cells {w : World} {p : Nat} {t : TypeId} {b : Nat → Int} (h : Blk w p t b) : Cells w (onB p) := cells_of_heap h
theorem Cel.cells {w : World} {p : Nat} {t : TypeId} {v : Value} (h : Cel w p t v) : Cells w (onB p) := cells_of_heap h
theorem Blk.row {A B : World} {row : Option Nat} {n p : Nat} {t : TypeId} {b : Nat → Int} (h : Blk A p t b) (hg : A.grownBy B row) (hr : RowNew n A row) : Blk B p t b := h.all (kept_row hg) (h.cells.apart hr p rfl)
theorem Cel.row {A B : World} {row : Option Nat} {n p : Nat} {t : TypeId} {v : Value} (h : Cel A p t v) (hg : A.grownBy B row) (hr : RowNew n A row) : Cel B p t v := h.all (kept_row hg) (h.cells.apart hr p rfl)
def Mrk (w : World) (D : Nat) : Prop := w.heap[D]? = some (.deferred (some []))
theorem Mrk.all {S : Nat → Prop} {w w' : World} {D : Nat} (h : Mrk w D) (k : Kept S w w') (hn : ¬ S D) : Mrk w' D := k.at h hn
theorem Mrk.lt {w : World} {D : Nat} (h : Mrk w D) : D < w.heap.size := lt_of_heap h
theorem Mrk.apart {w : World} {D : Nat} {T : Nat → Prop} (h : Mrk w D) (hc : Cells w T) : Apart (onB D) T := fun i hi ht => by
  cases hi
  obtain ⟨o, ho, hx⟩ := hc _ ht
  rw [show w.heap[D]? = _ from h] at ho; cases ho; cases hx
end Go.Proofs.Ytnccblhdokplkaa
set_option maxRecDepth 100000
namespace Go.Proofs.Ytnccblhdokplkaa
open Go.RowKit

def Stc (w : World) (p : Nat) (t : TypeId) (vs : List Value) : Prop := w.heap[p]? = some (.cells vs.toArray t (0, 0))
theorem Stc.all {S : Nat → Prop} {w w' : World} {p : Nat} {t : TypeId} {vs : List Value} (h : Stc w p t vs) (k : Kept S w w') (hn : ¬ S p) : Stc w' p t vs := k.at h hn
theorem Stc.lt {w : World} {p : Nat} {t : TypeId} {vs : List Value} (h : Stc w p t vs) : p < w.heap.size := lt_of_heap h
theorem Stc.cells {w : World} {p : Nat} {t : TypeId} {vs : List Value} (h : Stc w p t vs) : Cells w (onB p) := cells_of_heap h
theorem Stc.row {A B : World} {row : Option Nat} {n p : Nat} {t : TypeId} {vs : List Value} (h : Stc A p t vs) (hg : A.grownBy B row) (hr : RowNew n A row) : Stc B p t vs := h.all (kept_row hg) (h.cells.apart hr p rfl)
theorem Stc.cell {w : World} {p : Nat} {t : TypeId} {vs : List Value} {i : Nat} {v : Value} (h : Stc w p t vs) (hi : vs[i]? = some v) : w.cell? ⟨p, i, none⟩ = some v := by
  rw [cell_of_heap h]; simpa using hi
def StcT (P : Program) (ty : TypeId) (n : Nat) : Prop := ∃ d, P.underlying ty = some d ∧ d.isRow = true ∧ (P.info? ty).map (·.size) = some n
/-- Each takes one cell. -/
def OneAll (vs : List Value) : Prop := ∀ v ∈ vs, v.oneCell' = true
theorem oneN : OneAll [] := fun _ h => by cases h
theorem oneI {v : Value} {vs : List Value} (h : v.oneCell' = true) (k : OneAll vs) : OneAll (v :: vs) := fun x hx => by
  rcases List.mem_cons.1 hx with rfl | hx
  · exact h
  · exact k x hx
theorem Byt.oneC {w : World} {T : Nat → Prop} {v : Value} {l : List Nat} (h : Byt w T v l) : oneC v = true := by
  obtain ⟨⟨a, cap, rfl, _⟩, _⟩ := h; rfl
theorem Byt.one {w : World} {T : Nat → Prop} {v : Value} {l : List Nat} (h : Byt w T v l) : v.oneCell' = true := by
  obtain ⟨⟨a, cap, rfl, _⟩, _⟩ := h; rfl

section
variable {ro : Option Nat} {P : Program} {N : Nat} {Q : (Exit → (Nat → Value) → World → Prop)} {F : Nat → Value} {w : World} {o : Oper}
theorem wl_box_stc {ops : Array Oper} {rest : List Oper} {t : TypeId} {x : Operand} {vs : List Value} (hg : o.guard = none) (hd : fits N o.dst = true) (ho : o.op = .box t x) (hx : ev (cutF N F) x = .agg vs.toArray)
    (h : ∀ p w', Stc w' p t vs → Grew w noB (onB p) → Kept (fun _ => False) w w' → wl ro P N ops Q rest (putF F o.dst (.pointer (some ⟨p, 0, none⟩))) w') : wl ro P N ops Q (o :: rest) F w :=
  wl_op hg hd (y_of (v := .pointer (some ⟨w.heap.size, 0, none⟩)) (w' := w.alloc (.cells vs.toArray t)) (by simp [execOp, ho, hx, go_sem]) (h _ _ (heap_alloc_new w _) (onB_new (Nat.le_refl _)) ((Kept.refl _ _).alloc _)))
theorem wl_alloc_stc {ops : Array Oper} {rest : List Oper} {t : TypeId} {n : Nat} {vs : List Value} (hg : o.guard = none) (hd : fits N o.dst = true) (ho : o.op = .alloc t) (hi : (P.info? t).map (fun i => (i.zero, i.size)) = some (some (.agg vs.toArray), n))
    (h : ∀ p w', Stc w' p t vs → Grew w noB (onB p) → Kept (fun _ => False) w w' → wl ro P N ops Q rest (putF F o.dst (.pointer (some ⟨p, 0, none⟩))) w') : wl ro P N ops Q (o :: rest) F w :=
  wl_op hg hd (y_of (v := .pointer (some ⟨w.heap.size, 0, none⟩)) (w' := w.alloc (.cells vs.toArray t)) (by simp [execOp, ho, (zero_of_info hi).1, go_sem]) (h _ _ (heap_alloc_new w _) (onB_new (Nat.le_refl _)) ((Kept.refl _ _).alloc _)))
theorem wl_store_stc {ops : Array Oper} {rest : List Oper} {ty t : TypeId} {x y : Operand} {p : Nat} {vs us : List Value} (hT : StcT P ty us.length) (hg : o.guard = none) (hdn : o.dst = none) (ho : o.op = .store ty x y) (hx : ev (cutF N F) x = .pointer (some ⟨p, 0, none⟩)) (hy : ev (cutF N F) y = .agg us.toArray) (hB : Stc w p t vs) (hl : vs.length = us.length) (h1 : OneAll us)
    (h : ∀ w', Stc w' p t us → Kept (fun k => k = p) w w' → wl ro P N ops Q rest F w') : wl ro P N ops Q (o :: rest) F w := by
  obtain ⟨d, _, _, hsz⟩ := hT
  refine wl_op hg (by rw [hdn]; rfl) (y_store_row ty x y ho p _ us.toArray t hx hy hB (by simpa using hl) (by rw [List.size_toArray]; exact hsz) (all_oneCell_toArray h1) fun w' hw hk => ?_)
  rw [hdn]
  exact h w' hw hk
end
section
variable {P : Program} {ρ : Operand → Value} {o : Oper} {w : World} {R : Value → World → Prop}
theorem y_load_stc {ty t : TypeId} {x : Operand} {p : Nat} {vs : List Value} (hT : StcT P ty vs.length) (ho : o.op = .load ty x) (hx : ρ x = .pointer (some ⟨p, 0, none⟩)) (hB : Stc w p t vs) (h : R (.agg vs.toArray) w) : Yields P ρ o w R := by
  obtain ⟨d, hu, hd, hs⟩ := hT
  exact y_load_row ho p hx _ t (0, 0) d hB hu hd (by rw [List.size_toArray]; exact hs) h
theorem y_ld_stc {ty t : TypeId} {x : Operand} {p k : Nat} {vs : List Value} {v : Value} {d : TypeDesc} (ho : o.op = .load ty x) (hx : ρ x = .pointer (some ⟨p, k, none⟩)) (hu : P.underlying ty = some d) (hB : Stc w p t vs) (hk : vs[k]? = some v) (hd : plainD d = true) (h : R v w) : Yields P ρ o w R := y_ldA ho hx hu hd (hB.cell hk) h
theorem res_stc {N : Nat} {F : Nat → Value} {p : Tmp} {ty t : TypeId} {q : Nat} {vs : List Value} (hT : StcT P ty vs.length) (ht : Nat.blt p N = true) (hp : F p = .pointer (some ⟨q, 0, none⟩)) (hB : Stc w q t vs) : ResOk P N F w (.cell p ty) (.agg vs.toArray) := by
  obtain ⟨d, hu, hd, hs⟩ := hT
  exact ⟨ht, _, hp, run_loadVar_whole w q t ty _ (0, 0) d hB hu hd (by rw [List.size_toArray]; exact hs)⟩
end

def wqr (l : Option Nat) (P : Program) (N : Nat) (c : Code) (Q : (Exit → (Nat → Value) → World → Prop)) : Nat → (Nat → Value) → World → Prop
  | 0, _, _ => False
  | m + 1, F, w => wq l P N c (thenP (wqr l P N c Q m) Q) F w
theorem wqr_step {l : Option Nat} {P : Program} {N : Nat} {c : Code} {Q : (Exit → (Nat → Value) → World → Prop)} {m : Nat} {F : Nat → Value} {w : World} (h : wq l P N c (thenP (wqr l P N c Q m) Q) F w) : wqr l P N c Q (m + 1) F w := h
theorem wqr_rounds {l : Option Nat} {P : Program} {N : Nat} {c : Code} {Q : (Exit → (Nat → Value) → World → Prop)} : ∀ (m : Nat) (F : Nat → Value) (w : World) (a : Act), Fr N F a → wqr l P N c Q m F w → Code.roundsIn (fen l) 0 P c (Fp N Q) m a w := by
  intro m
  induction m with
  | zero => intro F w a _ h; exact h.elim
  | succ m ih =>
    intro F w a ha h
    refine wpIn_mono (h a ha) ?_
    rintro e a' w' ⟨F', hF, hq⟩
    cases e with
    | normal => exact ih F' w' a' hF hq
    | _ => exact ⟨F', hF, hq⟩
theorem wq_rounds {l : Option Nat} {P : Program} {N : Nat} {c : Code} {Q : (Exit → (Nat → Value) → World → Prop)} {F : Nat → Value} {w : World} (m : Nat) (h : wqr l P N c Q m F w) : wq l P N (.loop c) Q F w :=
  fun a ha => wpIn_loop_rounds m (wqr_rounds m F w a ha h)
end Go.Proofs.Ytnccblhdokplkaa
set_option maxRecDepth 100000
namespace Go.Proofs.Ytnccblhdokplkaa
open Go.RowKit

/-- One more operation is listed. -/
def upL (L : Nat → Bool) (i : Nat) : Nat → Bool := fun j => if j = i then true else L j
/-- One more answer. -/
def upV (v : Nat → Value) (i : Nat) (x : Value) : Nat → Value := fun j => if j = i then x else v j

/-- Whether each operation that writes a slot waits for operation i. -/
def late (os : List Oper) (t : Tmp) (i : Nat) : Bool := os.all fun o => o.dst != some t || o.after.toList.any fun e => Region.binds .any e && e.on == i

/-- What is asked of one operation. -/
def StepJ (os : List Oper) (P : Program) (D : List (Option Tmp)) (J : (Nat → Bool) → (Nat → Value) → World → Prop) (a0 : Act) (i : Nat) (o : Oper) : Prop :=
  ∀ (L : Nat → Bool) (v : Nat → Value) (a : Act) (w : World), J L v w → L i = false → (∀ e ∈ o.after.toList, Region.binds .any e = true → L e.on = true) →
    (∀ t, some t ∉ D → a.eval (.tmp t) = a0.eval (.tmp t)) → (∀ j d, L j = true → D[j]? = some (some d) → a.eval (.tmp d) = v j) → (∀ t, late os t i = true → a.eval (.tmp t) = a0.eval (.tmp t)) →
    (goes D o a = true → Yields P a.eval o w (fun x w' => J (upL L i) (upV v i x) w')) ∧ (goes D o a = false → J (upL L i) (upV v i undef) w)

def StepsJ (os : List Oper) (P : Program) (D : List (Option Tmp)) (J : (Nat → Bool) → (Nat → Value) → World → Prop) (a0 : Act) : Nat → List Oper → Prop
  | _, [] => True
  | i, o :: r => StepJ os P D J a0 i o ∧ StepsJ os P D J a0 (i + 1) r

theorem StepsJ.at {all : List Oper} {P : Program} {D : List (Option Tmp)} {J : (Nat → Bool) → (Nat → Value) → World → Prop} {a0 : Act} : ∀ {i : Nat} {os : List Oper}, StepsJ all P D J a0 i os → ∀ k o, os[k]? = some o → StepJ all P D J a0 (i + k) o := by
  intro i os
  induction os generalizing i with
  | nil => intro _ k o h; simp at h
  | cons x r ih =>
    intro h k o hk
    cases k with
    | zero => simp at hk; subst hk; exact h.1
    | succ k =>
      simp at hk
      have := ih h.2 k o hk
      rwa [show i + 1 + k = i + (k + 1) by omega] at this

structure MidJ (ops : Array Oper) (D : List (Option Tmp)) (J : (Nat → Bool) → (Nat → Value) → World → Prop) (a0 : Act) (v : Nat → Value) (listed : Array Bool) (a : Act) (w : World) : Prop where
  size : a.tmps.size = a0.tmps.size
  ls : listed.size = ops.size
  defers : a.defers = a0.defers
  out : ∀ t, (∀ j, listed.getD j false = true → D[j]? ≠ some (some t)) → a.tmps.getD t undef = a0.tmps.getD t undef
  here : ∀ j d, listed.getD j false = true → D[j]? = some (some d) → a.tmps.getD d undef = v j
  good : J (fun j => listed.getD j false) v w
  cl : ∀ (k : Nat) (o : Oper), ops[k]? = some o → listed.getD k false = true → ∀ e ∈ o.after.toList, Region.binds .any e = true → listed.getD e.on false = true

theorem wpAny_inv {P : Program} {ops : Array Oper} {Q : Exit → Act → World → Prop} {a0 : Act} (D : List (Option Tmp)) (J : (Nat → Bool) → (Nat → Value) → World → Prop)
    (hpl : plain a0.tmps.size 0 D ops.toList = true) (hsteps : StepsJ ops.toList P D J a0 0 ops.toList)
    (hend : ∀ (L : Nat → Bool) (v : Nat → Value) (w : World), J L v w → (∀ i, i < ops.size → L i = true) → Q .normal (putAll v 0 D a0) w) :
    ∀ (fuel : Nat) (listed : Array Bool) (v : Nat → Value) (a : Act) (w : World), MidJ ops D J a0 v listed a w → (fuel = 0 → Region.ready .any ops listed = []) →
      (List.range ops.size).countP (fun i => !listed.getD i false) ≤ fuel → wpAny P .any ops Q fuel listed a w := by
  obtain ⟨hDl, hpa⟩ := plain_at hpl
  have hlen : D.length = ops.size := by simpa using hDl
  have hback : ∀ (k : Nat) (o : Oper), ops[k]? = some o → ∀ e ∈ o.after.toList, Region.binds .any e = true → e.on < k := by
    intro k o hk e he hb
    have := (hpa k o (by simpa using hk)).2.2 e he hb
    omega
  have fin : ∀ (listed : Array Bool) (v : Nat → Value) (a : Act) (w : World), MidJ ops D J a0 v listed a w → Region.ready .any ops listed = [] → Q .normal a w := by
    intro listed v a w hm hr
    have hall := all_listed hback hr hm.ls
    have hp := putAll_frame v D 0 a0
    have ha : a = putAll v 0 D a0 := by
      have ht : a.tmps = (putAll v 0 D a0).tmps := by
        apply Array.ext
        · rw [hm.size, hp.1]
        · intro t h1 h2
          have e : a.tmps.getD t undef = (putAll v 0 D a0).tmps.getD t undef := by
            by_cases hmem : some t ∈ D
            · obtain ⟨j, hj⟩ := List.mem_iff_getElem?.1 hmem
              have hjs : j < ops.size := by rw [← hlen]; exact (List.getElem?_eq_some_iff.1 hj).1
              obtain ⟨g1, g2, _⟩ := hpa j ops[j] (by simp [hjs])
              have hdst : ops[j].dst = some t := by rw [hj] at g1; exact (Option.some.inj g1).symm
              obtain ⟨k1, k2⟩ := g2 t hdst
              rw [hm.here j t (hall j hjs) hj, hp.2.2.2 j t hj k2 k1, Nat.zero_add]
            · rw [hp.2.2.1 t hmem, hm.out t (fun j _ hj => hmem (List.mem_of_getElem? hj))]
          simpa [Array.getD_eq_getD_getElem?, h1, h2] using e
      have hd : a.defers = (putAll v 0 D a0).defers := by rw [hm.defers, hp.2.1]
      cases a
      cases hq : putAll v 0 D a0
      rw [hq] at ht hd
      simp only at ht hd
      rw [ht, hd]
    rw [ha]
    exact hend _ v w hm.good hall
  intro fuel
  induction fuel with
  | zero =>
    intro listed v a w hm h0 _
    exact ⟨h0 rfl, fin listed v a w hm (h0 rfl)⟩
  | succ fuel ih =>
    intro listed v a w hm _ hcount
    refine ⟨fin listed v a w hm, fun i hi => ?_⟩
    obtain ⟨hlt, hnl, o, ho, haft⟩ := mem_ready hi
    have hlsz : i < listed.size := by rw [hm.ls]; exact hlt
    have hnl' : listed.getD i false = false := by simpa [Array.getD, hlsz] using hnl
    obtain ⟨g1, g2, g3⟩ := hpa i o (by simpa using ho)
    have hstep := hsteps.at i o (by simpa using ho)
    rw [Nat.zero_add] at hstep
    have hout : ∀ t, some t ∉ D → a.eval (.tmp t) = a0.eval (.tmp t) := fun t ht => hm.out t (fun j _ hj => ht (List.mem_of_getElem? hj))
    have hlate : ∀ t, late ops.toList t i = true → a.eval (.tmp t) = a0.eval (.tmp t) := by
      intro t ht
      refine hm.out t fun j hj hD => ?_
      have hjs : j < ops.size := by rw [← hlen]; exact (List.getElem?_eq_some_iff.1 hD).1
      obtain ⟨k1, _, _⟩ := hpa j ops[j] (by simp [hjs])
      have hdst : ops[j].dst = some t := by rw [hD] at k1; exact (Option.some.inj k1).symm
      unfold late at ht
      have h1 := List.all_eq_true.1 ht ops[j] (by simp)
      simp only [hdst, bne_self_eq_false, Bool.false_or] at h1
      obtain ⟨e, he, hb⟩ := List.any_eq_true.1 h1
      simp only [Bool.and_eq_true, beq_iff_eq] at hb
      have h2 := hm.cl j ops[j] (by simp [hjs]) hj e he hb.1
      rw [hb.2, hnl'] at h2
      cases h2
    obtain ⟨s1, s2⟩ := hstep (fun j => listed.getD j false) v a w hm.good hnl' haft hout (fun j d hj hD => hm.here j d hj hD) hlate
    -- what is left when it answers x in the world w'
    have next : ∀ (x : Value) (w' : World), J (upL (fun j => listed.getD j false) i) (upV v i x) w' → wpAny P .any ops Q fuel (listed.setIfInBounds i true) (a.put o.dst x) w' := by
      intro x w' hJ
      have hcnt : (List.range ops.size).countP (fun j => !(listed.setIfInBounds i true).getD j false) ≤ fuel := by
        have h1 : (List.range ops.size).countP (fun j => !(listed.setIfInBounds i true).getD j false) < (List.range ops.size).countP (fun j => !listed.getD j false) := by
          have hmemi : i ∈ List.range ops.size := by simpa using hlt
          have key : ∀ (l : List Nat), i ∈ l → (∀ j, (!(listed.setIfInBounds i true).getD j false) = true → (!listed.getD j false) = true) → l.countP (fun j => !(listed.setIfInBounds i true).getD j false) < l.countP (fun j => !listed.getD j false) := by
            intro l
            induction l with
            | nil => intro h; cases h
            | cons y r ihl =>
              intro hy himp
              have hle : r.countP (fun j => !(listed.setIfInBounds i true).getD j false) ≤ r.countP (fun j => !listed.getD j false) := List.countP_mono_left fun j _ hj => himp j hj
              by_cases hyi : y = i
              · subst hyi
                have e1 : (!(listed.setIfInBounds y true).getD y false) = false := by rw [getD_set_true _ _ _ hlsz, if_pos rfl]; rfl
                have e2 : (!listed.getD y false) = true := by rw [hnl']; rfl
                rw [List.countP_cons, List.countP_cons]
                simp only [e1, e2, if_true, Bool.false_eq_true, if_false]
                omega
              · have hir : i ∈ r := by
                  rcases List.mem_cons.1 hy with h | h
                  · exact absurd h.symm hyi
                  · exact h
                have := ihl hir himp
                rw [List.countP_cons, List.countP_cons]
                have e3 : (listed.setIfInBounds i true).getD y false = listed.getD y false := by rw [getD_set_true _ _ _ hlsz, if_neg hyi]
                rw [e3]; omega
          refine key _ hmemi fun j hj => ?_
          rw [getD_set_true _ _ _ hlsz] at hj
          by_cases hji : j = i
          · rw [if_pos hji] at hj; cases hj
          · rwa [if_neg hji] at hj
        omega
      have hmid : MidJ ops D J a0 (upV v i x) (listed.setIfInBounds i true) (a.put o.dst x) w' := by
        refine ⟨?_, by simpa using hm.ls, ?_, ?_, ?_, ?_, ?_⟩
        · rw [← hm.size]; cases o.dst <;> simp [Act.put]
        · rw [← hm.defers]; cases o.dst <;> rfl
        · intro t ht
          have hold := hm.out t (fun j hj => ht j (by rw [getD_set_true _ _ _ hlsz]; split <;> first | rfl | exact hj))
          have hne : o.dst ≠ some t := by
            intro e
            exact ht i (by rw [getD_set_true _ _ _ hlsz, if_pos rfl]) (by rw [g1, e])
          rw [← hold]
          cases hd : o.dst with
          | none => rfl
          | some d =>
            have : d ≠ t := fun e => hne (by rw [hd, e])
            simp only [Act.put, Array.getD_eq_getD_getElem?, Array.getElem?_setIfInBounds_ne this]
        · intro j d hj hD
          by_cases hji : j = i
          · subst hji
            have hd : o.dst = some d := by rw [g1] at hD; exact Option.some.inj hD
            have hsz : d < a.tmps.size := by rw [hm.size]; exact (g2 d hd).1
            simp [hd, Act.put, Array.getD_eq_getD_getElem?, hsz, upV]
          · rw [getD_set_true _ _ _ hlsz, if_neg hji] at hj
            have hold := hm.here j d hj hD
            rw [show upV v i x j = v j from if_neg hji, ← hold]
            cases hd : o.dst with
            | none => rfl
            | some y =>
              have hne : y ≠ d := by
                rintro rfl
                rw [hd] at g1
                rcases Nat.lt_or_gt_of_ne hji with hlt2 | hgt2
                · have hjs : j < ops.size := by rw [← hlen]; exact (List.getElem?_eq_some_iff.1 hD).1
                  obtain ⟨k1, k2, _⟩ := hpa j ops[j] (by simp [hjs])
                  have hdst : ops[j].dst = some y := by rw [hD] at k1; exact (Option.some.inj k1).symm
                  exact (k2 y hdst).2 i hlt2 g1
                · exact (g2 y hd).2 j hgt2 hD
              simp only [Act.put, Array.getD_eq_getD_getElem?, Array.getElem?_setIfInBounds_ne hne]
        · have e : (fun j => (listed.setIfInBounds i true).getD j false) = upL (fun j => listed.getD j false) i := by
            funext j; exact getD_set_true _ _ _ hlsz
          rw [e]; exact hJ
        · intro k o' hk hl e he hb
          rw [getD_set_true _ _ _ hlsz] at hl ⊢
          by_cases hee : e.on = i
          · rw [if_pos hee]
          · rw [if_neg hee]
            by_cases hki : k = i
            · subst hki
              rw [ho] at hk
              cases hk
              exact haft e he hb
            · rw [if_neg hki] at hl
              exact hm.cl k o' hk hl e he hb
      refine ih _ _ _ _ hmid ?_ hcnt
      intro hz
      subst hz
      have hz0 : (List.range ops.size).countP (fun j => !(listed.setIfInBounds i true).getD j false) = 0 := by omega
      rw [List.countP_eq_zero] at hz0
      cases hr : Region.ready .any ops (listed.setIfInBounds i true) with
      | nil => rfl
      | cons y r =>
        have hy : y ∈ Region.ready .any ops (listed.setIfInBounds i true) := by rw [hr]; simp
        obtain ⟨q1, q2, _⟩ := mem_ready hy
        have := hz0 y (by simpa using q1)
        have hys : y < (listed.setIfInBounds i true).size := by simp [hm.ls]; exact q1
        have q3 : (listed.setIfInBounds i true).getD y false = false := by rw [← getD_same _ y hys]; exact q2
        rw [q3] at this
        exact absurd rfl this
    have hwant : Region.wanted o (yielded ops a.tmps) = goes D o a := by
      unfold Region.wanted goes
      cases hg : o.guard with
      | none => rfl
      | some p =>
        obtain ⟨j, want⟩ := p
        simp only [yielded]
        by_cases hj : j < ops.size
        · obtain ⟨k1, k2, _⟩ := hpa j ops[j] (by simp [hj])
          have hDj : D.getD j none = ops[j].dst := by simp [List.getD, k1]
          rw [hDj]
          simp only [Array.getElem?_eq_getElem hj, Option.bind_some]
          cases hd : ops[j].dst with
          | none => simp
          | some d =>
            have hsz : d < a.tmps.size := by rw [hm.size]; exact (k2 d hd).1
            simp only [Option.bind_some, Array.getElem?_eq_getElem hsz]
            have he : a.eval (.tmp d) = a.tmps[d] := by simp [Act.eval, Array.getD, hsz]
            rw [he]
            cases a.tmps[d] <;> simp
        · have hDj : D.getD j none = none := by simp [List.getD, List.getElem?_eq_none (show D.length ≤ j by omega)]
          rw [hDj]
          simp [Array.getElem?_eq_none (show ops.size ≤ j by omega)]
    unfold wpOp
    rw [ho]
    simp only [hwant]
    cases hgo : goes D o a with
    | true =>
      simp only [if_true]
      refine .inl (Yields.wp ?_)
      have := s1 hgo
      revert this
      unfold Yields
      generalize (execOp a.eval o).run P w = res
      intro h
      cases res with
      | ok n w' =>
        cases n <;> simp only at h ⊢ <;> first
          | exact next _ _ h
          | exact h.elim
          | exact Calls.mono h (fun e w'' ⟨y, he, hk⟩ => ⟨y, he, next _ _ hk⟩)
      | halt y w' => exact h.elim
    | false =>
      simp only [Bool.false_eq_true, if_false]
      exact next undef w (s2 hgo)


theorem wp_region_inv {P : Program} {id : Nat} {ops : Array Oper} {Q : Exit → Act → World → Prop} {a0 : Act} {w0 : World} (D : List (Option Tmp)) (J : (Nat → Bool) → (Nat → Value) → World → Prop)
    (hm : P.follows .mixedOrders = true) (hpl : plain a0.tmps.size 0 D ops.toList = true) (h0 : J (fun _ => false) (fun _ => undef) w0.drew) (hsteps : StepsJ ops.toList P D J a0 0 ops.toList)
    (hend : ∀ (L : Nat → Bool) (v : Nat → Value) (w : World), J L v w → (∀ i, i < ops.size → L i = true) → Q .normal (putAll v 0 D a0) w) : (Code.region id ops true).wp P Q a0 w0 := by
  refine wp_region_any hm ?_
  have hno : ∀ j, (Array.replicate ops.size false).getD j false = false := by
    intro j
    by_cases h : j < ops.size <;> simp [Array.getD, h]
  refine wpAny_inv D J hpl hsteps hend ops.size _ (fun _ => undef) a0 _ ⟨rfl, by simp, rfl, fun _ _ => rfl, fun j _ hj => ?_, ?_, fun k _ _ hl => ?_⟩ ?_ ?_
  · rw [hno] at hj; cases hj
  · have e : (fun j => (Array.replicate ops.size false).getD j false) = fun _ => false := funext hno
    rw [e]; exact h0
  · rw [hno] at hl; cases hl
  · intro h0
    cases hr : Region.ready .any ops (Array.replicate ops.size false) with
    | nil => rfl
    | cons y r =>
      have hy : y ∈ Region.ready .any ops (Array.replicate ops.size false) := by rw [hr]; simp
      have := (mem_ready hy).1
      omega
  · exact Nat.le_trans (List.countP_le_length) (by simp)
end Go.Proofs.Ytnccblhdokplkaa
set_option maxRecDepth 100000
namespace Go.Proofs.Ytnccblhdokplkaa
open Go.RowKit

/-- Who holds the row: the latest of these operations (the latest first) that is listed. -/
def hold (L : Nat → Bool) (v : Nat → Value) (C : Nat → List Nat) (vI : Value) (lI : List Nat) : List Nat → Value × List Nat
  | [] => (vI, lI)
  | x :: r => if L x = true then (v x, C x) else hold L v C vI lI r

/-- They are listed in their order. -/
def Closed (L : Nat → Bool) : List Nat → Prop
  | [] => True
  | [_] => True
  | y :: x :: r => (L y = true → L x = true) ∧ Closed L (x :: r)

theorem Closed.later {L : Nat → Bool} : ∀ {ys : List Nat} {x : Nat} {r : List Nat}, Closed L (ys ++ x :: r) → L x = false → ∀ y ∈ ys, L y = false := by
  intro ys
  induction ys with
  | nil => intro x r _ _ y hy; cases hy
  | cons z zs ih =>
    intro x r h hx y hy
    have hrec : Closed L (zs ++ x :: r) := by
      cases zs with
      | nil => exact h.2
      | cons z' zs' => exact h.2
    have hzs := ih hrec hx
    rcases List.mem_cons.1 hy with rfl | hy
    · cases hz : L y with
      | false => rfl
      | true =>
        cases zs with
        | nil => have := h.1 hz; rw [hx] at this; cases this
        | cons z' zs' => have := h.1 hz; rw [hzs z' (by simp)] at this; cases this
    · exact hzs y hy

theorem hold_later {L : Nat → Bool} {v : Nat → Value} {C : Nat → List Nat} {vI : Value} {lI : List Nat} : ∀ {ys r : List Nat}, (∀ y ∈ ys, L y = false) → hold L v C vI lI (ys ++ r) = hold L v C vI lI r := by
  intro ys
  induction ys with
  | nil => intro r _; rfl
  | cons z zs ih =>
    intro r h
    simp only [List.cons_append, hold]
    rw [if_neg (by rw [h z (by simp)]; decide)]
    exact ih (fun y hy => h y (by simp [hy]))

theorem Closed.up {L : Nat → Bool} : ∀ {X : List Nat} {i : Nat}, Closed L X → (∀ ys x r, X = ys ++ i :: x :: r → L x = true) → Closed (upL L i) X := by
  intro X
  induction X with
  | nil => intro i _ _; exact trivial
  | cons y r ih =>
    intro i h hp
    cases r with
    | nil => exact trivial
    | cons x r =>
      refine ⟨fun hy => ?_, ih h.2 fun ys x' r' e => hp (y :: ys) x' r' (by rw [e]; rfl)⟩
      unfold upL at hy ⊢
      by_cases hx : x = i
      · rw [if_pos hx]
      · rw [if_neg hx]
        by_cases hyi : y = i
        · subst hyi; exact hp [] x r rfl
        · rw [if_neg hyi] at hy; exact h.1 hy

theorem Closed.up_other {L : Nat → Bool} {X : List Nat} {i : Nat} (h : Closed L X) (hi : i ∉ X) : Closed (upL L i) X :=
  h.up fun ys x r e => absurd (by rw [e]; simp) hi

theorem hold_up_other {L : Nat → Bool} {v : Nat → Value} {C : Nat → List Nat} {vI : Value} {lI : List Nat} {i : Nat} {x : Value} : ∀ {X : List Nat}, i ∉ X → hold (upL L i) (upV v i x) C vI lI X = hold L v C vI lI X := by
  intro X
  induction X with
  | nil => intro _; rfl
  | cons y r ih =>
    intro hi
    have hy : y ≠ i := fun e => hi (by simp [e])
    simp only [hold]
    rw [show upL L i y = L y from if_neg hy, show upV v i x y = v y from if_neg hy, ih (fun h => hi (by simp [h]))]

/-- The invariant. -/
def OwnJ (w0 : World) (S0 : Nat → Prop) (B : Nat) (vI : Value) (lI : List Nat) (X : List Nat) (C : Nat → List Nat) (G : Nat → Value → World → Prop) (L : Nat → Bool) (v : Nat → Value) (w : World) : Prop :=
  ∃ S : Nat → Prop, (∀ k, S k → k < w.heap.size) ∧ (∀ k, S k → S0 k ∨ w0.heap.size ≤ k) ∧ Kept S w0 w ∧ Closed L X ∧ (∀ j, L j = true → ∀ w', Kept S w w' → G j (v j) w') ∧
    Row w B (hold L v C vI lI X).1 (hold L v C vI lI X).2 ∧ (∀ g, (hold L v C vI lI X).1.ownBlock = some g → S g)

/-- What is asked of an operation that leaves the row alone. -/
theorem StepJ.other {os : List Oper} {P : Program} {D : List (Option Tmp)} {w0 : World} {S0 : Nat → Prop} {B : Nat} {vI : Value} {lI X : List Nat} {C : Nat → List Nat} {G : Nat → Value → World → Prop} {a0 : Act} {i : Nat} {o : Oper} (hi : i ∉ X)
    (h : ∀ (S : Nat → Prop) (a : Act) (w : World), (∀ k, S k → k < w.heap.size) → (∀ w', Kept S w w' → Kept S0 w0 w') → (∀ t, some t ∉ D → a.eval (.tmp t) = a0.eval (.tmp t)) → (∀ t, late os t i = true → a.eval (.tmp t) = a0.eval (.tmp t)) →
      Deps D (fun j x w => ∀ w', Kept S w w' → G j x w') a w o.after.toList → (∀ x, X.head? = some x → ∀ e ∈ o.after.toList, e.on = x → Region.binds .any e = true → ∀ d, D.getD x none = some d → Row w B (a.eval (.tmp d)) (C x)) →
      (goes D o a = true → Yields P a.eval o w (fun x w' => (∀ w'', Kept S w' w'' → G i x w'') ∧ Kept (fun _ => False) w w')) ∧ (goes D o a = false → ∀ w', Kept S w w' → G i undef w')) :
    StepJ os P D (OwnJ w0 S0 B vI lI X C G) a0 i o := by
  intro L v a w ⟨S, hlt, h0, hk, hcl, hg, hrow, hown⟩ hli hedges hout hhere hlate
  have hR : ∀ w', Kept S w w' → Kept S0 w0 w' := fun w' k => (hk.trans k (fun _ _ x => x)).mono (fun b hb hS => by
    rcases h0 b hS with h | h
    · exact h
    · omega)
  have hdeps : Deps D (fun j x w => ∀ w', Kept S w w' → G j x w') a w o.after.toList := Deps.mk fun e he hb d hd => by
    have hL := hedges e he hb
    have hDe : D[e.on]? = some (some d) := by
      cases hx : D[e.on]? with
      | none => simp [List.getD, hx] at hd
      | some y => simp [List.getD, hx] at hd; rw [hd]
    rw [hhere e.on d hL hDe]
    exact hg e.on hL
  have hr : ∀ x, X.head? = some x → ∀ e ∈ o.after.toList, e.on = x → Region.binds .any e = true → ∀ d, D.getD x none = some d → Row w B (a.eval (.tmp d)) (C x) := by
    intro x hx e he hex hb d hd
    subst hex
    have hL := hedges e he hb
    have hDe : D[e.on]? = some (some d) := by
      cases hx : D[e.on]? with
      | none => simp [List.getD, hx] at hd
      | some y => simp [List.getD, hx] at hd; rw [hd]
    rw [hhere e.on d hL hDe]
    cases X with
    | nil => cases hx
    | cons y r =>
      simp at hx
      subst hx
      simpa [hold, hL] using hrow
  obtain ⟨s1, s2⟩ := h S a w hlt hR hout hlate hdeps hr
  have fin : ∀ (x : Value) (w' : World), (∀ w'', Kept S w' w'' → G i x w'') → Kept (fun _ => False) w w' → OwnJ w0 S0 B vI lI X C G (upL L i) (upV v i x) w' := by
    intro x w' hG hkk
    refine ⟨S, fun k hS => Nat.lt_of_lt_of_le (hlt k hS) hkk.size, h0, hk.trans hkk (fun _ _ f => f.elim), hcl.up_other hi, fun j hj w'' k => ?_, ?_, ?_⟩
    · by_cases hji : j = i
      · subst hji; rw [show upV v j x j = x from if_pos rfl]; exact hG w'' k
      · rw [show upL L i j = L j from if_neg hji] at hj
        rw [show upV v i x j = v j from if_neg hji]
        exact hg j hj w'' ((hkk.mono (S' := S) (fun _ _ f => f.elim)).trans k (fun _ _ f => f))
    · rw [hold_up_other hi]; exact hrow.all hkk
    · rw [hold_up_other hi]; exact hown
  refine ⟨fun hgo => ?_, fun hgo => fin undef w (s2 hgo) (Kept.refl _ _)⟩
  have := s1 hgo
  revert this
  unfold Yields
  generalize (execOp a.eval o).run P w = r
  intro hh
  cases r with
  | ok n w' =>
    cases n <;> simp only at hh ⊢ <;> first
      | exact fin _ _ hh.1 hh.2
      | exact hh.elim
      | exact Calls.mono hh (fun e w'' ⟨y, he, hk⟩ => ⟨y, he, fin _ _ hk.1 hk.2⟩)
  | halt x w' => exact hh.elim

/-- Who held the row: the first of these, or whoever came with it. -/
def Prev (D : List (Option Tmp)) (C : Nat → List Nat) (vI : Value) (lI : List Nat) (a : Act) (p : Value) (lp : List Nat) : List Nat → Prop
  | [] => p = vI ∧ lp = lI
  | x :: _ => lp = C x ∧ ∀ d, D.getD x none = some d → p = a.eval (.tmp d)

/-- What is asked of an operation that takes the row on: p is who held it. -/
theorem StepJ.own {os : List Oper} {P : Program} {D : List (Option Tmp)} {w0 : World} {S0 : Nat → Prop} {B : Nat} {vI : Value} {lI X : List Nat} {C : Nat → List Nat} {G : Nat → Value → World → Prop} {a0 : Act} {i : Nat} {o : Oper} (ys r : List Nat) (hX : X = ys ++ i :: r) (hnd : i ∉ ys ∧ i ∉ r)
    (hr : ∀ x, r.head? = some x → ∃ e ∈ o.after.toList, e.on = x ∧ Region.binds .any e = true ∧ ∃ d, D.getD x none = some d) (hG : ∀ x w, G i x w)
    (h : ∀ (S : Nat → Prop) (a : Act) (w : World), (∀ k, S k → k < w.heap.size) → (∀ w', Kept S w w' → Kept S0 w0 w') → (∀ t, some t ∉ D → a.eval (.tmp t) = a0.eval (.tmp t)) → (∀ t, late os t i = true → a.eval (.tmp t) = a0.eval (.tmp t)) →
      Deps D (fun j x w => ∀ w', Kept S w w' → G j x w') a w o.after.toList → ∀ (p : Value) (lp : List Nat), Row w B p lp →
      Prev D C vI lI a p lp r →
      goes D o a = true ∧ Yields P a.eval o w (fun x w' => Row w' B x (C i) ∧ Kept (fun k => p.ownBlock = some k) w w' ∧ (x.ownBlock = p.ownBlock ∨ ∀ g, x.ownBlock = some g → w.heap.size ≤ g))) :
    StepJ os P D (OwnJ w0 S0 B vI lI X C G) a0 i o := by
  intro L v a w ⟨S, hlt, h0, hk, hcl, hg, hrow, hown⟩ hli hedges hout hhere hlate
  subst hX
  have hlater := hcl.later hli
  have hhold : hold L v C vI lI (ys ++ i :: r) = hold L v C vI lI r := by
    rw [hold_later hlater]
    show (if L i = true then (v i, C i) else hold L v C vI lI r) = hold L v C vI lI r
    rw [if_neg (by rw [hli]; decide)]
  rw [hhold] at hrow hown
  have hR : ∀ w', Kept S w w' → Kept S0 w0 w' := fun w' k => (hk.trans k (fun _ _ x => x)).mono (fun b hb hS => by
    rcases h0 b hS with h | h
    · exact h
    · omega)
  have hat : ∀ (j : Nat) (d : Tmp), D.getD j none = some d → D[j]? = some (some d) := by
    intro j d hd
    cases hx : D[j]? with
    | none => simp [List.getD, hx] at hd
    | some y => simp [List.getD, hx] at hd; rw [hd]
  have hdeps : Deps D (fun j x w => ∀ w', Kept S w w' → G j x w') a w o.after.toList := Deps.mk fun e he hb d hd => by
    have hL := hedges e he hb
    rw [hhere e.on d hL (hat e.on d hd)]
    exact hg e.on hL
  have hlx : ∀ x, r.head? = some x → L x = true := by
    intro x hx
    obtain ⟨e, he, rfl, hb, _⟩ := hr x hx
    exact hedges e he hb
  have hp : Prev D C vI lI a (hold L v C vI lI r).1 (hold L v C vI lI r).2 r := by
    clear hhold hrow hown hcl h
    cases r with
    | nil => exact ⟨rfl, rfl⟩
    | cons x r' =>
      have hL := hlx x rfl
      have e1 : hold L v C vI lI (x :: r') = (v x, C x) := by
        show (if L x = true then (v x, C x) else hold L v C vI lI r') = _
        rw [if_pos hL]
      refine ⟨by rw [e1], fun d hd => ?_⟩
      rw [e1, hhere x d hL (hat x d hd)]
  obtain ⟨hgo, hy⟩ := h S a w hlt hR hout hlate hdeps _ _ hrow hp
  generalize (hold L v C vI lI r).1 = p at *
  have fin : ∀ (x : Value) (w' : World), Row w' B x (C i) → Kept (fun k => p.ownBlock = some k) w w' → (x.ownBlock = p.ownBlock ∨ ∀ g, x.ownBlock = some g → w.heap.size ≤ g) → OwnJ w0 S0 B vI lI (ys ++ i :: r) C G (upL L i) (upV v i x) w' := by
    intro x w' hrx hkk hwh
    have hkS : Kept S w w' := hkk.mono (fun k _ e => hown k e)
    refine ⟨fun k => S k ∨ x.ownBlock = some k, ?_, ?_, ?_, ?_, ?_, ?_, ?_⟩
    · rintro k (hS | hx)
      · exact Nat.lt_of_lt_of_le (hlt k hS) hkk.size
      · exact (hrx.lt k hx).2
    · rintro k (hS | hx)
      · exact h0 k hS
      · rcases hwh with e | e
        · exact h0 k (hown k (by rw [← e]; exact hx))
        · exact .inr (Nat.le_trans hk.size (e k hx))
    · exact (hk.trans hkS (fun _ _ x => x)).mono (fun _ _ x => .inl x)
    · refine hcl.up fun ys' x' r' e => ?_
      -- the two ways to part the list are one
      have key : ∀ (zs ys' : List Nat) (x' : Nat) (r r' : List Nat), i ∉ zs → i ∉ ys' → zs ++ i :: r = ys' ++ i :: x' :: r' → r = x' :: r' := by
        intro zs
        induction zs with
        | nil =>
          intro ys' x' r r' _ hy e
          cases ys' with
          | nil => simpa using e
          | cons z zs => simp at e; exact absurd e.1 (fun h => hy (by simp [h]))
        | cons z zs ih =>
          intro ys' x' r r' hz hy e
          cases ys' with
          | nil => simp at e; exact absurd e.1.symm (fun h => hz (by simp [h]))
          | cons y ys'' => simp at e; exact ih ys'' x' r r' (fun h => hz (by simp [h])) (fun h => hy (by simp [h])) e.2
      have hin : i ∉ ys' := by
        intro hm
        have hc : (ys ++ i :: r).count i = 1 := by rw [List.count_append, List.count_eq_zero_of_not_mem hnd.1, List.count_cons_self, List.count_eq_zero_of_not_mem hnd.2]
        rw [e, List.count_append, List.count_cons_self] at hc
        have := List.count_pos_iff.2 hm
        omega
      have := key ys ys' x' r r' hnd.1 hin e
      subst this
      exact hlx x' rfl
    · intro j hj w'' k
      by_cases hji : j = i
      · subst hji; exact hG _ _
      · rw [show upL L i j = L j from if_neg hji] at hj
        rw [show upV v i x j = v j from if_neg hji]
        refine hg j hj w'' (hkS.trans k fun b hb hS => ?_)
        rcases hS with hS | hx
        · exact hS
        · rcases hwh with e | e
          · exact hown b (by rw [← e]; exact hx)
          · have := e b hx; omega
    · have e : hold (upL L i) (upV v i x) C vI lI (ys ++ i :: r) = (x, C i) := by
        rw [hold_later (fun y hym => by rw [show upL L i y = L y from if_neg (fun h : y = i => hnd.1 (by rw [← h]; exact hym))]; exact hlater y hym)]
        show (if upL L i i = true then (upV v i x i, C i) else _) = _
        rw [if_pos (show upL L i i = true from if_pos rfl), show upV v i x i = x from if_pos rfl]
      rw [e]; exact hrx
    · have e : hold (upL L i) (upV v i x) C vI lI (ys ++ i :: r) = (x, C i) := by
        rw [hold_later (fun y hym => by rw [show upL L i y = L y from if_neg (fun h : y = i => hnd.1 (by rw [← h]; exact hym))]; exact hlater y hym)]
        show (if upL L i i = true then (upV v i x i, C i) else _) = _
        rw [if_pos (show upL L i i = true from if_pos rfl), show upV v i x i = x from if_pos rfl]
      rw [e]
      intro g hgx
      exact .inr hgx
  refine ⟨fun _ => ?_, fun hno => ?_⟩
  · revert hy
    unfold Yields
    generalize (execOp a.eval o).run P w = res
    intro hh
    cases res with
    | ok n w' =>
      cases n <;> simp only at hh ⊢ <;> first
        | exact fin _ _ hh.1 hh.2.1 hh.2.2
        | exact hh.elim
        | exact Calls.mono hh (fun e w'' ⟨y, he, hk⟩ => ⟨y, he, fin _ _ hk.1 hk.2.1 hk.2.2⟩)
    | halt x w' => exact hh.elim
  · rw [hgo] at hno; cases hno


section
variable {os : List Oper} {P : Program} {D : List (Option Tmp)} {w0 : World} {S0 : Nat → Prop} {B : Nat} {vI : Value} {lI X : List Nat} {C : Nat → List Nat} {Gs : List Pd} {a0 : Act} {i : Nat} {o : Oper}

theorem StepJ.one (hi : i ∉ X) (hg : o.guard = none)
    (h : ∀ (S : Nat → Prop) (a : Act) (w : World), (∀ k, S k → k < w.heap.size) → (∀ w', Kept S w w' → Kept S0 w0 w') → (∀ t, some t ∉ D → a.eval (.tmp t) = a0.eval (.tmp t)) → (∀ t, late os t i = true → a.eval (.tmp t) = a0.eval (.tmp t)) →
      Deps D (fun j x w => ∀ w', Kept S w w' → Said Gs j x w') a w o.after.toList → (∀ x, X.head? = some x → ∀ e ∈ o.after.toList, e.on = x → Region.binds .any e = true → ∀ d, D.getD x none = some d → Row w B (a.eval (.tmp d)) (C x)) →
      Yields P a.eval o w (fun x w' => (∀ w'', Kept S w' w'' → Said Gs i x w'') ∧ Kept (fun _ => False) w w')) :
    StepJ os P D (OwnJ w0 S0 B vI lI X C (Said Gs)) a0 i o :=
  StepJ.other hi fun S a w hlt hR hout hlate hD hrow => ⟨fun _ => h S a w hlt hR hout hlate hD hrow, fun hno => by unfold goes at hno; rw [hg] at hno; cases hno⟩

theorem goes_of {a : Act} {j : Nat} {want : Bool} {d : Tmp} (hg : o.guard = some (j, want)) (hd : D.getD j none = some d) (h : a.eval (.tmp d) = .bool want) : goes D o a = true := by
  unfold goes
  rw [hg]
  simp only [hd, h]
  simp

theorem StepJ.when (hi : i ∉ X) (j : Nat) (want : Bool) (d : Tmp) (hg : o.guard = some (j, want)) (hd : D.getD j none = some d)
    (h : ∀ (S : Nat → Prop) (a : Act) (w : World), (∀ k, S k → k < w.heap.size) → (∀ w', Kept S w w' → Kept S0 w0 w') → (∀ t, some t ∉ D → a.eval (.tmp t) = a0.eval (.tmp t)) → (∀ t, late os t i = true → a.eval (.tmp t) = a0.eval (.tmp t)) →
      Deps D (fun j x w => ∀ w', Kept S w w' → Said Gs j x w') a w o.after.toList → (∀ x, X.head? = some x → ∀ e ∈ o.after.toList, e.on = x → Region.binds .any e = true → ∀ d, D.getD x none = some d → Row w B (a.eval (.tmp d)) (C x)) →
      a.eval (.tmp d) = .bool want ∧ Yields P a.eval o w (fun x w' => (∀ w'', Kept S w' w'' → Said Gs i x w'') ∧ Kept (fun _ => False) w w')) :
    StepJ os P D (OwnJ w0 S0 B vI lI X C (Said Gs)) a0 i o :=
  StepJ.other hi fun S a w hlt hR hout hlate hD hrow => by
    obtain ⟨h1, h2⟩ := h S a w hlt hR hout hlate hD hrow
    exact ⟨fun _ => h2, fun hno => by rw [goes_of hg hd h1] at hno; cases hno⟩

end

end Go.Proofs.Ytnccblhdokplkaa
set_option maxRecDepth 100000
namespace Go.Proofs.Ytnccblhdokplkaa
open Go.RowKit

theorem byteVals_zeros (n : Nat) : (madeCells (Value.int .u8 0).cells n).toList = byteVals (List.replicate n 0) := by
  unfold madeCells byteVals Value.cells
  rw [List.map_replicate]
  apply List.ext_getElem?
  intro i
  by_cases h : i < n
  · simp [h, Nat.mod_one]
  · simp [h]

theorem zeros_lt (n : Nat) : ∀ x ∈ List.replicate n 0, x < 256 := by intro x hx; have := (List.mem_replicate.1 hx).2; omega

theorem y_built1 {ρ : Operand → Value} {o : Oper} {w : World} {R : Value → World → Prop} {x : Operand} {c : Nat} (ho : o.op = .buildSlice 27 1 #[(0, x)]) (hx : ρ x = .int .u8 (c : Int))
    (h : R (.slice (some ⟨w.heap.size, 0, none⟩) 1 1) (w.alloc (.cells (byteVals [c]).toArray 5))) : Yields Try.prog ρ o w R :=
  y_val (v := .slice (some ⟨w.heap.size, 0, none⟩) 1 1) (w' := w.alloc (.cells (byteVals [c]).toArray 5)) (by simp [execOp, ho, hx, go_sem]; rfl) h

/-- Bytes up to some place. -/
theorem BytesArg.upto {w : World} {v : Value} {l : List Nat} (h : BytesArg w v l) (j : Nat) (hj : j ≤ l.length) (k : IntKind) :
    ∃ v', (Instr.sliceAt 27 v none (some (.int k (j : Int))) none).run Try.prog w = .ok v' w ∧ BytesArg w v' (l.take j) := by
  obtain ⟨a, cap, rfl, h1, h2, h3, h256, hc⟩ := h
  have hb : ¬ cap < j := by omega
  have hb0 : BytesArg w (.slice a l.length cap) l := ⟨a, cap, rfl, h1, h2, h3, h256, hc⟩
  obtain ⟨i0, hi, hz0, hz1, hz2⟩ := info_parts Try.info_u8
  refine ⟨.slice a j cap, ?_, ?_⟩
  · cases a with
    | none => simp [Instr.sliceAt, Instr.slice, Instr.sliceBounds, Instr.sliceBound, asIntOf, run_underlying Try.underlying27, sizeOf, typeInfo, hi, hb]
    | some ad => simp [Instr.sliceAt, Instr.slice, Instr.sliceBounds, Instr.sliceBound, asIntOf, run_underlying Try.underlying27, sizeOf, typeInfo, hi, hb, Addr.add]
  · have := hb0.cut 0 j cap (Nat.zero_le _) hj (by omega) h2 a (fun _ => by cases a with | none => rfl | some ad => simp [Addr.add]) h3
    simpa using this

end Go.Proofs.Ytnccblhdokplkaa
set_option maxRecDepth 100000
namespace Go.Proofs.Ytnccblhdokplkaa
open Go.RowKit

def Owb (w : World) (T : Nat → Prop) (v : Value) (l : List Nat) : Prop := Row w 0 v l ∧ ∀ i, T i ↔ v.ownBlock = some i
theorem Owb.nil (w : World) : Owb w noB (.slice none 0 0) [] := ⟨Row.nil w 0, fun i => ⟨fun h => h.elim, fun h => by cases h⟩⟩
theorem Owb.live {w : World} {T : Nat → Prop} {v : Value} {l : List Nat} (h : Owb w T v l) : Live w T := fun i hi => (h.1.lt i ((h.2 i).1 hi)).2
theorem Owb.byt {w : World} {T : Nat → Prop} {v : Value} {l : List Nat} (h : Owb w T v l) : Byt w T v l := ⟨h.1.bytes, h.live, fun _ a n c e => (h.2 a.block).2 (by rw [e]; rfl)⟩
theorem Owb.all {S : Nat → Prop} {w w' : World} {T : Nat → Prop} {v : Value} {l : List Nat} (h : Owb w T v l) (k : Kept S w w') (ha : Apart T S) : Owb w' T v l := ⟨h.1.kept k (fun g hg => ha g ((h.2 g).2 hg)), h.2⟩
theorem Owb.one {w : World} {T : Nat → Prop} {v : Value} {l : List Nat} (h : Owb w T v l) : v.oneCell' = true := h.byt.one
theorem Owb.oneC {w : World} {T : Nat → Prop} {v : Value} {l : List Nat} (h : Owb w T v l) : oneC v = true := h.byt.oneC
theorem Owb.cells {w : World} {T : Nat → Prop} {v : Value} {l : List Nat} (h : Owb w T v l) : Cells w T := fun i hi => by
  have hv := (h.2 i).1 hi
  rcases h.1.1.2 with ⟨rfl, _⟩ | ⟨g, cap, cur, rfl, _, hg, _⟩
  · cases hv
  · cases hv; exact ⟨_, hg, rfl⟩
theorem Owb.row {A B : World} {row : Option Nat} {n : Nat} {T : Nat → Prop} {v : Value} {l : List Nat} (h : Owb A T v l) (hg : A.grownBy B row) (hr : RowNew n A row) : Owb B T v l := h.all (kept_row hg) (h.cells.apart hr)
theorem Owb.lt256 {w : World} {T : Nat → Prop} {v : Value} {l : List Nat} (h : Owb w T v l) : ∀ x ∈ l, x < 256 := h.1.2
theorem Owb.of {w : World} {v : Value} {l : List Nat} (h : Row w 0 v l) : Owb w (fun i => v.ownBlock = some i) v l := ⟨h, fun _ => Iff.rfl⟩
theorem Byt.lt256 {w : World} {T : Nat → Prop} {v : Value} {l : List Nat} (h : Byt w T v l) : ∀ x ∈ l, x < 256 := h.1.lt256

def bytAddr (v : Value) (j : Nat) : Value := match v with
  | .slice (some a) _ _ => .pointer (some (a.add j))
  | _ => undef
section
variable {ρ : Operand → Value} {o : Oper} {w : World} {R : Value → World → Prop}
theorem y_atB {x ix : Operand} {T : Nat → Prop} {v : Value} {l : List Nat} {k : IntKind} (j : Nat) {i : Int} (ho : o.op = .indexAddr 27 x ix) (hx : ρ x = v) (hi : ρ ix = .int k i) (hij : i = (j : Int)) (hb : Byt w T v l) (hj : j < l.length) (h : R (bytAddr v j) w) : Yields Try.prog ρ o w R := by
  subst hij
  obtain ⟨⟨a, cap, rfl, _, _, _, _, hc⟩, _⟩ := hb
  obtain ⟨b, off, rfl, _, _⟩ := hc (by omega)
  obtain ⟨i0, hi0, hz0, hz1, hz2⟩ := info_parts Try.info_u8
  exact y_val (v := bytAddr (.slice (some ⟨b, off, none⟩) l.length cap) j) (w' := w) (by simp [execOp, ho, hx, hi, Instr.indexAt, run_underlying Try.underlying27, asIntOf, sizeOf, typeInfo, hi0, hz1, hj, bytAddr]) h
theorem Byt.at_ {w : World} {T : Nat → Prop} {v : Value} {l : List Nat} {j : Nat} (hb : Byt w T v l) (hj : j < l.length) : ∃ a, bytAddr v j = .pointer (some a) ∧ w.cell? a = some (.int .u8 (l.getD j 0 : Nat)) := by
  obtain ⟨⟨a, cap, rfl, _, _, _, _, hc⟩, _⟩ := hb
  obtain ⟨b, off, rfl, _, hcell⟩ := hc (by omega)
  exact ⟨⟨b, off + j, none⟩, by rw [bytAddr, Addr.add_lit], hcell j hj⟩
theorem y_ldB {x : Operand} {T : Nat → Prop} {v : Value} {l : List Nat} {j : Nat} (ho : o.op = .load 5 x) (hx : ρ x = bytAddr v j) (hb : Byt w T v l) (hj : j < l.length) (h : R (.int .u8 ((l.getD j 0 : Nat) : Int)) w) : Yields Try.prog ρ o w R := by
  obtain ⟨a, ha, hc⟩ := hb.at_ hj
  exact y_ldA ho (hx.trans ha) Try.underlying5 rfl hc h
end

/-- Where what is appended lies: there, or in memory of its own. -/
theorem run_append_where (w : World) (ty : TypeId) (v x : Value) (l m : List Nat) (hown : Row w 0 v l) (hx : BytesArg w x m) (hl : l.length + m.length < 1099511627776) :
    ∃ v' w', (Builtin.append_ #[27, 27] ty #[v, x]).run Try.prog w = .ok v' w' ∧ Appended w w' 0 v v' (l ++ m) ∧ (v'.ownBlock = v.ownBlock ∨ ∀ i, v'.ownBlock = some i → w.heap.size ≤ i) := by
  obtain ⟨v', w', hr, hA⟩ := run_append_bytes w ty 0 v x l m hown hx hl (Nat.zero_le _)
  refine ⟨v', w', hr, hA, ?_⟩
  obtain ⟨i0, hi, hz0, hz1, hz2⟩ := info_parts Try.info_u8
  obtain ⟨a, cap, rfl, h1, h2, h3, h256, hc⟩ := hx
  rcases hown.1.2 with ⟨rfl, h0⟩ | ⟨g, cp, cur, rfl, hb, hg, hnc, hcm, hcs, htake⟩
  · -- none yet: whatever there is is new
    right
    intro i hi'
    have hnil : l = [] := List.eq_nil_of_length_eq_zero h0
    subst hnil
    obtain ⟨v2, w2, hr2, hA2⟩ := run_append_bytes w ty w.heap.size (.slice none 0 0) (.slice a m.length cap) [] m (Row.nil w _) ⟨a, cap, rfl, h1, h2, h3, h256, hc⟩ (by simpa using hl) (Nat.le_refl _)
    rw [hr] at hr2
    cases hr2
    exact (hA2.1.lt i hi').1
  · cases a with
    | none =>
      have hc0 := h3 rfl
      subst hc0
      have hm : m = [] := List.eq_nil_of_length_eq_zero (by omega)
      subst hm
      left
      have hr2 := run_append_owned_none (P := Try.prog) w 0 27 ty _ i0 1 Try.underlying27 hi (.slice (some ⟨g, 0, none⟩) l.length cp) _ _ hown.1
      simp only [List.length_nil] at hr
      rw [hr2] at hr
      cases hr; rfl
    | some ad =>
      have hcells : ∀ j u, (byteVals m)[j]? = some u → w.cell? (ad.add j) = some u := by
        intro j u hj
        have hjl : j < m.length := by
          have := (List.getElem?_eq_some_iff.1 hj).1
          rwa [byteVals_length] at this
        obtain ⟨b, off, he, hb, hcell⟩ := hc (by omega)
        cases he
        rw [Addr.add_lit, hcell j hjl, ← hj, byteVals_at m j hjl]
      by_cases hroom : l.length + m.length ≤ cp
      · left
        have hr2 := run_append_room (P := Try.prog) w 27 ty 5 i0 Try.underlying27 hi g l.length cp cur hg ad m.length cap (byteVals m) (by rw [hz1, byteVals_length]; omega) hcells (byteVals_one m) hroom (by rw [hz1, byteVals_length, hcs]; omega)
        rw [hr2] at hr
        cases hr; rfl
      · right
        intro i hi'
        have hr2 := run_append_grow (P := Try.prog) w 27 ty 5 i0 (.int .u8 0) Try.underlying27 hi hz0 ⟨g, 0, none⟩ l.length cp (byteVals l) (by rw [hz1, byteVals_length]; omega) (hown.1.cells rfl) ad m.length cap (byteVals m) (by rw [hz1, byteVals_length]; omega) hcells (by omega) (by omega) (growslice_fits (by omega) (by rw [hz2]; omega))
        rw [hr2] at hr
        cases hr
        cases hi'; exact Nat.le_refl _

section
variable {ro : Option Nat} {N : Nat} {Q : (Exit → (Nat → Value) → World → Prop)} {F : Nat → Value} {w : World} {o : Oper}
theorem wl_builtB0 {ops : Array Oper} {rest : List Oper} (hg : o.guard = none) (hd : fits N o.dst = true) (ho : o.op = .buildSlice 27 0 #[])
    (h : ∀ v w' T, Owb w' T v [] → Grew w noB T → Kept (fun _ => False) w w' → wl ro Try.prog N ops Q rest (putF F o.dst v) w') : wl ro Try.prog N ops Q (o :: rest) F w := by
  refine wl_op hg hd (y_val (v := .slice (some ⟨w.heap.size, 0, none⟩) 0 0) (w' := w.alloc (.cells (byteVals []).toArray 5)) (by simp [execOp, ho, go_sem]; rfl) (h _ _ _ (Owb.of (Row.of_new (B := 0) (l := []) (heap_alloc_new w _) (Nat.zero_le _) (Nat.zero_le _) (by simp))) (fun i hi => .inr ?_) ((Kept.refl _ _).alloc _)))
  cases hi; exact Nat.le_refl _
theorem wl_builtB1 {ops : Array Oper} {rest : List Oper} {x : Operand} {n : Nat} {z : Int} (hg : o.guard = none) (hd : fits N o.dst = true) (ho : o.op = .buildSlice 27 1 #[(0, x)]) (hx : ev (cutF N F) x = .int .u8 z) (hz : z = (n : Int)) (hn : n < 256)
    (h : ∀ v w' T, Owb w' T v [n] → Grew w noB T → Kept (fun _ => False) w w' → wl ro Try.prog N ops Q rest (putF F o.dst v) w') : wl ro Try.prog N ops Q (o :: rest) F w := by
  subst hz
  refine wl_op hg hd (y_built1 ho hx (h _ _ _ (Owb.of (Row.of_new (B := 0) (l := [n]) (heap_alloc_new w _) (Nat.zero_le _) (show 1 ≤ maxLen by decide) (by simpa using hn))) (fun i hi => .inr ?_) ((Kept.refl _ _).alloc _)))
  cases hi; exact Nat.le_refl _
theorem wl_appendB {ops : Array Oper} {rest : List Oper} {c : Call} {x y : Operand} {T U : Nat → Prop} {v u : Value} {l m : List Nat} (hg : o.guard = none) (hd : fits N o.dst = true) (ho : o.op = .call c) (hc : c = { callee := .builtin .append, args := #[x, y], argTypes := #[27, 27] }) (hx : ev (cutF N F) x = v) (hy : ev (cutF N F) y = u) (hv : Owb w T v l) (hu : Byt w U u m) (hl : l.length + m.length < 1099511627776)
    (h : ∀ v' w' T', Owb w' T' v' (l ++ m) → Grew w T T' → Kept T w w' → wl ro Try.prog N ops Q rest (putF F o.dst v') w') : wl ro Try.prog N ops Q (o :: rest) F w := by
  subst hc
  obtain ⟨v', w', hr, hA, hw⟩ := run_append_where w o.type v u l m hv.1 hu.1 hl
  refine wl_op hg hd (y_val (v := v') (w' := w') (by simp [execOp, ho, resolve, invoke, builtin, hx, hy, hr]) (h v' w' _ (Owb.of hA.1) (fun i hi => ?_) ((Kept.refl T w).grown hA.2 (fun k e _ => (hv.2 k).2 e))))
  rcases hw with hw | hw
  · exact .inl ((hv.2 i).2 (hw ▸ hi))
  · exact .inr (hw i hi)
end
end Go.Proofs.Ytnccblhdokplkaa
set_option maxRecDepth 100000
namespace Go.Proofs.Ytnccblhdokplkaa
open Go.RowKit

/-- A kind of row: the slice's type, its elements', how many cells each has, the cells of an element, the one that is there when it is made. -/
structure RowT (α : Type) where
  t : TypeId
  e : TypeId
  k : Nat
  by_ : Nat
  enc : α → List Value
  d : α
  z : Value
class RowT.Ok {α : Type} (r : RowT α) : Prop where
  slice : Try.prog.underlying r.t = some (.slice r.e)
  info : (Try.prog.info? r.e).map (fun i => (i.zero, i.size, i.bytes)) = some (some r.z, r.k, r.by_)
  cells : r.z.cells.toList = r.enc r.d
  pos : 0 < r.k
  len : ∀ x, (r.enc x).length = r.k
  one : ∀ x, ∀ u ∈ r.enc x, u.oneCell' = true
  small : r.by_ ≤ 64

section
variable {α : Type} {r : RowT α}
theorem flat_len [h : r.Ok] (l : List α) : (l.flatMap r.enc).length = l.length * r.k := by
  induction l with
  | nil => simp
  | cons x l ih => rw [List.flatMap_cons, List.length_append, ih, h.len, List.length_cons, Nat.add_mul]; omega
/-- A row that can be read. -/
def RoA (r : RowT α) (w : World) (T : Nat → Prop) (v : Value) (l : List α) : Prop :=
  ∃ a cap, v = .slice a l.length cap ∧ l.length ≤ cap ∧ cap ≤ maxLen ∧ (a = none → cap = 0) ∧ Live w T ∧
    (0 < l.length → ∃ b off, a = some ⟨b, off, none⟩ ∧ T b ∧ ∀ j u, (l.flatMap r.enc)[j]? = some u → w.cell? ⟨b, off + j, none⟩ = some u)
theorem RoA.nil (r : RowT α) (w : World) : RoA r w noB (.slice none 0 0) [] := ⟨none, 0, rfl, Nat.le_refl _, by unfold maxLen; omega, fun _ => rfl, fun _ h => h.elim, fun h => absurd h (by simp)⟩
theorem RoA.live {w : World} {T : Nat → Prop} {v : Value} {l : List α} (h : RoA r w T v l) : Live w T := by obtain ⟨_, _, _, _, _, _, h, _⟩ := h; exact h
theorem RoA.all {S : Nat → Prop} {w w' : World} {T : Nat → Prop} {v : Value} {l : List α} (h : RoA r w T v l) (k : Kept S w w') (ha : Apart T S) : RoA r w' T v l := by
  obtain ⟨a, cap, rfl, h1, h2, h3, hL, hc⟩ := h
  refine ⟨a, cap, rfl, h1, h2, h3, hL.mono k, fun hp => ?_⟩
  obtain ⟨b, off, rfl, hb, hcell⟩ := hc hp
  exact ⟨b, off, rfl, hb, fun j u hj => (World.cell?_of_block (k.block b (hL b hb) (ha b hb))).trans (hcell j u hj)⟩
theorem RoA.row {A B : World} {row : Option Nat} {n : Nat} {T : Nat → Prop} {v : Value} {l : List α} [hk : r.Ok] (h : RoA r A T v l) (hg : A.grownBy B row) (hr : RowNew n A row) : RoA r B T v l := by
  obtain ⟨a, cap, rfl, h1, h2, h3, hL, hc⟩ := h
  have k := kept_row hg
  refine ⟨a, cap, rfl, h1, h2, h3, hL.mono k, fun hp => ?_⟩
  obtain ⟨b, off, rfl, hb, hcell⟩ := hc hp
  have h0 : 0 < (l.flatMap r.enc).length := by rw [flat_len (r := r)]; exact Nat.mul_pos hp hk.pos
  refine ⟨b, off, rfl, hb, fun j u hj => (World.cell?_of_block (k.block b (hL b hb) fun e => ?_)).trans (hcell j u hj)⟩
  obtain ⟨_, o, ho, hn⟩ := hr b e.symm
  have := hcell 0 _ (List.getElem?_eq_getElem h0)
  unfold World.cell? at this
  simp only at this
  rw [ho] at this
  cases o <;> simp_all [Obj.isCells]
theorem RoA.one {w : World} {T : Nat → Prop} {v : Value} {l : List α} (h : RoA r w T v l) : v.oneCell' = true := by obtain ⟨a, cap, rfl, _⟩ := h; rfl
theorem RoA.oneC {w : World} {T : Nat → Prop} {v : Value} {l : List α} (h : RoA r w T v l) : oneC v = true := by obtain ⟨a, cap, rfl, _⟩ := h; rfl
/-- A row of the call's own. -/
def RoO (r : RowT α) (w : World) (T : Nat → Prop) (v : Value) (l : List α) : Prop := w.ownsRow 0 r.e r.k v l.length (l.flatMap r.enc) ∧ ∀ i, T i ↔ v.ownBlock = some i
theorem RoO.nil (r : RowT α) (w : World) : RoO r w noB (.slice none 0 0) [] := ⟨World.ownsRow_nil w 0 r.e r.k, fun i => ⟨fun h => h.elim, fun h => by cases h⟩⟩
theorem RoO.live {w : World} {T : Nat → Prop} {v : Value} {l : List α} (h : RoO r w T v l) : Live w T := fun i hi => (h.1.lt i ((h.2 i).1 hi)).2
theorem RoO.all {S : Nat → Prop} {w w' : World} {T : Nat → Prop} {v : Value} {l : List α} (h : RoO r w T v l) (k : Kept S w w') (ha : Apart T S) : RoO r w' T v l := by
  refine ⟨⟨h.1.1, ?_⟩, h.2⟩
  rcases h.1.2 with hn | ⟨g, cap, cur, rfl, hb, hg, rest⟩
  · exact .inl hn
  · exact .inr ⟨g, cap, cur, rfl, hb, k.at hg (ha g ((h.2 g).2 rfl)), rest⟩
theorem RoO.roa {w : World} {T : Nat → Prop} {v : Value} {l : List α} (h : RoO r w T v l) : RoA r w T v l := by
  have hL := h.live
  rcases h.1.2 with ⟨rfl, h0⟩ | ⟨g, cap, cur, rfl, hb, hg, h1, h2, h3, h4⟩
  · have : l = [] := List.eq_nil_of_length_eq_zero h0
    subst this
    exact ⟨none, 0, rfl, Nat.le_refl _, by unfold maxLen; omega, fun _ => rfl, hL, fun h => absurd h (by simp)⟩
  · refine ⟨some ⟨g, 0, none⟩, cap, rfl, h1, h2, by simp, hL, fun _ => ⟨g, 0, rfl, (h.2 g).2 rfl, fun j u hj => ?_⟩⟩
    have := h.1.cells (g := g) rfl j u hj
    rwa [Addr.add_lit] at this
theorem RoO.cells {w : World} {T : Nat → Prop} {v : Value} {l : List α} (h : RoO r w T v l) : Cells w T := fun i hi => by
  have hv := (h.2 i).1 hi
  rcases h.1.2 with ⟨rfl, _⟩ | ⟨g, cap, cur, rfl, _, hg, _⟩
  · cases hv
  · cases hv; exact ⟨_, hg, rfl⟩
theorem RoO.row {A B : World} {row : Option Nat} {n : Nat} {T : Nat → Prop} {v : Value} {l : List α} (h : RoO r A T v l) (hg : A.grownBy B row) (hr : RowNew n A row) : RoO r B T v l := h.all (kept_row hg) (h.cells.apart hr)
theorem RoO.of {w : World} {v : Value} {l : List α} (h : w.ownsRow 0 r.e r.k v l.length (l.flatMap r.enc)) : RoO r w (fun i => v.ownBlock = some i) v l := ⟨h, fun _ => Iff.rfl⟩
theorem RoO.one {w : World} {T : Nat → Prop} {v : Value} {l : List α} (h : RoO r w T v l) : v.oneCell' = true := h.roa.one
theorem RoO.oneC {w : World} {T : Nat → Prop} {v : Value} {l : List α} (h : RoO r w T v l) : oneC v = true := h.roa.oneC
end

section
variable {α : Type} {r : RowT α} {ρ : Operand → Value} {o : Oper} {w : World} {R : Value → World → Prop}
theorem RoA.shape {T : Nat → Prop} {v : Value} {l : List α} {j : Nat} (hb : RoA r w T v l) (hj : j < l.length) (m : Nat) : ∃ b off, bytAddr v m = .pointer (some ⟨b, off + m, none⟩) ∧ ∀ n, bytAddr v n = .pointer (some ⟨b, off + n, none⟩) := by
  obtain ⟨a, cap, rfl, _, _, _, _, hc⟩ := hb
  obtain ⟨b, off, rfl, _, _⟩ := hc (by omega)
  exact ⟨b, off, by rw [bytAddr, Addr.add_lit], fun n => by rw [bytAddr, Addr.add_lit]⟩
end

end Go.Proofs.Ytnccblhdokplkaa
set_option maxRecDepth 100000
namespace Go.Proofs.Ytnccblhdokplkaa
open Go.RowKit

/-- A part of a slice of bytes: from l, up to h, its room up to m. -/
def subV (v : Value) (l h m : Nat) : Value := match v with
  | .slice a _ _ => .slice (if m = l then a else a.map (·.add l)) (h - l) (m - l)
  | _ => undef
def capV : Value → Nat
  | .slice _ _ c => c
  | _ => 0
theorem Byt.cap {w : World} {T : Nat → Prop} {v : Value} {l : List Nat} (h : Byt w T v l) : l.length ≤ capV v ∧ capV v ≤ maxLen := by
  obtain ⟨⟨a, cap, rfl, h1, h2, _⟩, _⟩ := h; exact ⟨h1, h2⟩
theorem Byt.sub {w : World} {T : Nat → Prop} {v : Value} {l : List Nat} (hb : Byt w T v l) {i j m : Nat} (h1 : i ≤ j) (h2 : j ≤ m) (h3 : j ≤ l.length) (h4 : m ≤ capV v) : Byt w T (subV v i j m) ((l.drop i).take (j - i)) := by
  have hc := hb.cap
  obtain ⟨hB, hL, hT⟩ := hb
  obtain ⟨a, cap, rfl, k1, k2, k3, k4, k5⟩ := hB
  have hB : BytesArg w (.slice a l.length cap) l := ⟨a, cap, rfl, k1, k2, k3, k4, k5⟩
  have hm : m ≤ cap := h4
  refine ⟨hB.cut i j (m - i) h1 h3 (by omega) (by omega) (if m = i then a else a.map (fun z : Addr => z.add i)) (fun hp => by rw [if_neg (by omega)]) (fun h0 => ?_), hL, fun hp a' n c e => ?_⟩
  · split at h0
    · omega
    · have : a = none := by cases a <;> simp_all
      have := k3 this; omega
  · have hlen : 0 < j - i := by
      have : ((l.drop i).take (j - i)).length = j - i := by simp; omega
      omega
    simp only [subV] at e
    rw [if_neg (by omega)] at e
    cases a with
    | none => simp at e
    | some a0 =>
      simp at e
      obtain ⟨e1, _, _⟩ := e
      have hblk : a'.block = a0.block := by rw [← e1]; unfold Addr.add; split <;> rfl
      rw [hblk]
      exact hT (by omega) a0 _ _ rfl
section
variable {ρ : Operand → Value} {o : Oper} {w : World} {R : Value → World → Prop}
theorem y_cut3 {x lo hi mx : Operand} {T : Nat → Prop} {v : Value} {l : List Nat} {kl kh km : IntKind} (i j m : Nat) {il ih im : Int} (ho : o.op = .slice 27 x (some lo) (some hi) (some mx)) (hx : ρ x = v) (hl : ρ lo = .int kl il) (hh : ρ hi = .int kh ih) (hm : ρ mx = .int km im) (e1 : il = (i : Int)) (e2 : ih = (j : Int)) (e3 : im = (m : Int)) (hb : Byt w T v l) (h1 : i ≤ j) (h2 : j ≤ m) (h3 : m ≤ l.length) (h : R (subV v i j m) w) : Yields Try.prog ρ o w R := by
  subst e1; subst e2; subst e3
  have hc := hb.cap
  obtain ⟨⟨a, cap, rfl, k1, _⟩, _⟩ := hb
  obtain ⟨i0, hi0, hz0, hz1, hz2⟩ := info_parts Try.info_u8
  have hmc : m ≤ cap := by omega
  refine y_val (v := subV (.slice a l.length cap) i j m) (w' := w) ?_ h
  have b1 : (Instr.sliceBounds true l.length cap (some (.int kl (i : Int))) (some (.int kh (j : Int))) (some (.int km (m : Int)))).run Try.prog w = .ok (i, j, m) w := by
    simp [Instr.sliceBounds, Instr.sliceBound, asIntOf, hmc, h1, h2]
  simp [execOp, ho, hx, hl, hh, hm, Instr.sliceAt, Instr.slice, run_underlying Try.underlying27, b1, sizeOf, typeInfo, hi0, hz1, subV]
theorem y_cutH {x hi : Operand} {T : Nat → Prop} {v : Value} {l : List Nat} {kh : IntKind} (j : Nat) {ih : Int} (ho : o.op = .slice 27 x none (some hi) none) (hx : ρ x = v) (hh : ρ hi = .int kh ih) (e2 : ih = (j : Int)) (hb : Byt w T v l) (h2 : j ≤ l.length) (h : R (subV v 0 j (capV v)) w) : Yields Try.prog ρ o w R := by
  subst e2
  obtain ⟨⟨a, cap, rfl, k1, _⟩, _⟩ := hb
  obtain ⟨i0, hi0, hz0, hz1, hz2⟩ := info_parts Try.info_u8
  have hmc : j ≤ cap := by omega
  refine y_val (v := subV (.slice a l.length cap) 0 j (capV (.slice a l.length cap))) (w' := w) ?_ h
  have b1 : (Instr.sliceBounds true l.length cap none (some (.int kh (j : Int))) none).run Try.prog w = .ok (0, j, cap) w := by
    simp [Instr.sliceBounds, Instr.sliceBound, asIntOf, hmc]
  simp [execOp, ho, hx, hh, Instr.sliceAt, Instr.slice, run_underlying Try.underlying27, b1, sizeOf, typeInfo, hi0, hz1, subV, capV]
  rfl
end
end Go.Proofs.Ytnccblhdokplkaa
set_option maxRecDepth 100000
namespace Go.Proofs.Ytnccblhdokplkaa
open Go.RowKit

theorem Byt.row {A B : World} {row : Option Nat} {n : Nat} {T : Nat → Prop} {v : Value} {l : List Nat} (h : Byt A T v l) (hg : A.grownBy B row) (hr : RowNew n A row) : Byt B T v l := by
  obtain ⟨⟨a, cap, rfl, h1, h2, h3, hl, hc⟩, hL, hT⟩ := h
  have k := kept_row hg
  refine ⟨⟨a, cap, rfl, h1, h2, h3, hl, fun hpos => ?_⟩, hL.mono k, hT⟩
  obtain ⟨b, off, rfl, hb, hcell⟩ := hc hpos
  refine ⟨b, off, rfl, Nat.lt_of_lt_of_le hb k.size, fun i hi => (World.cell?_of_block (k.block b hb fun e => ?_)).trans (hcell i hi)⟩
  obtain ⟨_, o, ho, hn⟩ := hr b e.symm
  have := hcell 0 hpos
  unfold World.cell? at this
  simp only at this
  rw [ho] at this
  cases o <;> simp_all [Obj.isCells]
theorem Mrk.far {w : World} {D : Nat} {T : Nat → Prop} (hd : w.heap.size ≤ D) (hL : Live w T) : Apart (onB D) T := fun i hi ht => by
  cases hi
  exact absurd (hL _ ht) (by omega)


section
variable {P : Program} {fn : Func} {N : Nat} {R : Ending → World → Prop} {F : Nat → Value} {w : World}
theorem endc_3 {t1 t2 t3 : Tmp} {ty : TypeId} {v1 v2 v3 : Value} (hm : F N = undef) (h : fn.results = #[.cell t1 ty, .tmp t2, .tmp t3]) (h1 : ResOk P N F w (.cell t1 ty) v1) (h2 : ResOk P N F w (.tmp t2) v2) (h3 : ResOk P N F w (.tmp t3) v3)
    (hR : R (.returned (.tuple #[v1, v2, v3])) w) : endP P fn N R .ret F w := by
  refine ⟨hm, fun a ha => ⟨_, ?_, hR⟩⟩
  obtain ⟨b1, ad, e, hl⟩ := h1; obtain ⟨b2, h2⟩ := h2; obtain ⟨b3, h3⟩ := h3
  rw [← ha.at' _ b1] at e; rw [← ha.at' _ b2] at h2; rw [← ha.at' _ b3] at h3
  simp [results, h] at *; simp [h2, h3, e, asAddr, hl]
end

theorem y_storeStc {P : Program} {ρ : Operand → Value} {o : Oper} {w : World} {R : Value → World → Prop} {ty t : TypeId} {x y : Operand} {p : Nat} {vs us : List Value} (hT : StcT P ty us.length) (ho : o.op = .store ty x y) (hx : ρ x = .pointer (some ⟨p, 0, none⟩)) (hy : ρ y = .agg us.toArray) (hB : Stc w p t vs) (hl : vs.length = us.length) (h1 : OneAll us)
    (h : ∀ w', Stc w' p t us → Kept (fun k => k = p) w w' → R undef w') : Yields P ρ o w R := by
  obtain ⟨d, _, _, hsz⟩ := hT
  exact y_store_row ty x y ho p _ us.toArray t hx hy hB (by simpa using hl) (by rw [List.size_toArray]; exact hsz) (all_oneCell_toArray h1) fun w' hw hk => h w' hw hk
section
variable {P : Program} {ρ : Operand → Value} {o : Oper} {w : World} {R : Value → World → Prop}
theorem y_shlR {t t' : TypeId} {k k' : IntKind} {x y : Operand} {m r : Int} (n : Nat) (ho : o.op = .binOp .shl t x y t') (hx : ρ x = .int k m) (hy : ρ y = .int k' (n : Int)) (hr : k.wrap (m * 2 ^ min n k.bits) = r) (h : R (.int k r) w) : Yields P ρ o w R :=
  y_of (v := .int k (k.wrap (m * 2 ^ min n k.bits))) (w' := w) (by
    have h0 : (0 : Int) ≤ (n : Int) := by omega
    simp only [execOp, ho, hx, hy, binOp_shl, shift_shl_any k k' m (n : Int) h0, Int.toNat_natCast, eqGuard]
    rfl) (by rw [hr]; exact h)
end
end Go.Proofs.Ytnccblhdokplkaa
set_option maxRecDepth 100000
namespace Go.Proofs.Ytnccblhdokplkaa
open Go.RowKit

def Arr (w : World) (p : Nat) (t : TypeId) (n : Nat) (b : Nat → Int) : Prop := w.heap[p]? = some (.cells (arrL n b).toArray t (0, 0))
def ArrT (t : TypeId) (n : Nat) : Prop := Try.prog.underlying t = some (.array n 3) ∧ (Try.prog.info? t).map (·.size) = some n ∧ ∀ w, (zeroValue t).run Try.prog w = .ok (.agg (arrL n (fun _ => 0)).toArray) w
theorem ArrT.of {t : TypeId} {n : Nat} (hu : Try.prog.underlying t = some (.array n 3)) (hi : (Try.prog.info? t).map (fun i => (i.zero, i.size)) = some (some (.agg (Array.replicate n (.int .i64 0))), n)) : ArrT t n :=
  ⟨hu, (zero_of_info hi).2, by rw [arrL_zero]; exact (zero_of_info hi).1⟩
theorem ArrT.size {t : TypeId} {n : Nat} (h : ArrT t n) (b : Nat → Int) : (Try.prog.info? t).map (·.size) = some (arrL n b).toArray.size := by rw [List.size_toArray, arrL_length]; exact h.2.1

section
variable {w w' : World} {p n : Nat} {t : TypeId} {b c : Nat → Int}
theorem Arr.all {S : Nat → Prop} (h : Arr w p t n b) (k : Kept S w w') (hn : ¬ S p) : Arr w' p t n b := k.at h hn
theorem Arr.congr (h : Arr w p t n b) (e : ∀ i, i < n → b i = c i) : Arr w p t n c := by unfold Arr at *; rw [← arrL_congr e]; exact h
theorem Arr.cell (h : Arr w p t n b) {i : Nat} (hi : i < n) : w.cell? ⟨p, i, none⟩ = some (.int .i64 (b i)) := by
  rw [cell_of_heap h, List.getElem?_toArray]; exact arrL_at hi
theorem Arr.free (h : Arr w p t n b) (i : Nat) : w.frozen? ⟨p, i, none⟩ = false := frozen_of_heap h
theorem Arr.lt (h : Arr w p t n b) : p < w.heap.size := lt_of_heap h
theorem Arr.new (w : World) (t : TypeId) (n : Nat) (b : Nat → Int) : Arr (w.alloc (.cells (arrL n b).toArray t)) w.heap.size t n b := heap_alloc_new w _
end

section
variable {ro : Option Nat} {P : Program} {N : Nat} {Q : (Exit → (Nat → Value) → World → Prop)} {F : Nat → Value} {w : World} {n : Nat}
theorem wl_box_arr {ops : Array Oper} {o : Oper} {rest : List Oper} {t : TypeId} {x : Operand} {b : Nat → Int} (hg : o.guard = none) (hd : fits N o.dst = true) (ho : o.op = .box t x) (hx : ev (cutF N F) x = .agg (arrL n b).toArray)
    (h : ∀ p w', p = w.heap.size → Arr w' p t n b → Kept (fun _ => False) w w' → wl ro P N ops Q rest (putF F o.dst (.pointer (some ⟨p, 0, none⟩))) w') : wl ro P N ops Q (o :: rest) F w :=
  wl_op hg hd (y_of (v := .pointer (some ⟨w.heap.size, 0, none⟩)) (w' := w.alloc (.cells (arrL n b).toArray t)) (by simp [execOp, ho, hx, go_sem]) (h _ _ rfl (Arr.new w t n b) ((Kept.refl _ _).alloc _)))
theorem wl_alloc_arr {ops : Array Oper} {o : Oper} {rest : List Oper} {t : TypeId} (hg : o.guard = none) (hd : fits N o.dst = true) (ho : o.op = .alloc t) (hz : ∀ w, (zeroValue t).run P w = .ok (.agg (arrL n (fun _ => 0)).toArray) w)
    (h : ∀ p w', p = w.heap.size → Arr w' p t n (fun _ => 0) → Kept (fun _ => False) w w' → wl ro P N ops Q rest (putF F o.dst (.pointer (some ⟨p, 0, none⟩))) w') : wl ro P N ops Q (o :: rest) F w :=
  wl_op hg hd (y_of (v := .pointer (some ⟨w.heap.size, 0, none⟩)) (w' := w.alloc (.cells (arrL n (fun _ => 0)).toArray t)) (by simp [execOp, ho, hz, go_sem]) (h _ _ rfl (Arr.new w t n _) ((Kept.refl _ _).alloc _)))
end

section
variable {ro : Option Nat} {N : Nat} {Q : (Exit → (Nat → Value) → World → Prop)} {F : Nat → Value} {w : World} {ρ : Operand → Value} {o : Oper} {R : Value → World → Prop} {n : Nat}
theorem wl_store_arr {ops : Array Oper} {rest : List Oper} {ty t : TypeId} {x y : Operand} {p : Nat} {b c : Nat → Int} (hT : ArrT ty n) (hg : o.guard = none) (hdn : o.dst = none) (ho : o.op = .store ty x y) (hx : ev (cutF N F) x = .pointer (some ⟨p, 0, none⟩)) (hy : ev (cutF N F) y = .agg (arrL n c).toArray) (hB : Arr w p t n b)
    (h : ∀ w', Arr w' p t n c → Kept (fun k => k = p) w w' → wl ro Try.prog N ops Q rest F w') : wl ro Try.prog N ops Q (o :: rest) F w := by
  refine wl_op hg (by rw [hdn]; rfl) (y_store_row ty x y ho p _ (arrL n c).toArray t hx hy hB (by rw [List.size_toArray, List.size_toArray, arrL_length, arrL_length]) (hT.size c) (all_oneCell_toArray (arrL_one _ _)) fun w' hw hk => ?_)
  rw [hdn]
  exact h w' hw hk
end

section
variable {ro : Option Nat} {P : Program} {ρ : Operand → Value} {o : Oper} {w : World} {R : Value → World → Prop}
theorem y_buildL {t : TypeId} {l : List (Nat × Operand)} {l' : List (Nat × Value)} {cells : Array Value} {v : Value} (ho : o.op = .build t l.toArray) (hl : l.map (fun p => (p.1, ρ p.2)) = l') (hc : P.built t l' = some cells) (hv : .agg cells = v) (h : R v w) : Yields P ρ o w R := by
  subst hl
  exact y_buildR ho (by rw [← hc]; congr 1; simp) hv h
theorem bpN : ([] : List (Nat × Operand)).map (fun p => (p.1, ρ p.2)) = [] := rfl
theorem bpC {i : Nat} {x : Operand} {v : Value} {xs : List (Nat × Operand)} {vs : List (Nat × Value)} (h : ρ x = v) (h2 : xs.map (fun p => (p.1, ρ p.2)) = vs) : ((i, x) :: xs).map (fun p => (p.1, ρ p.2)) = (i, v) :: vs := by simp [h, ← h2]
end
end Go.Proofs.Ytnccblhdokplkaa
set_option maxRecDepth 100000
namespace Go.Proofs.Ytnccblhdokplkaa

/-- The c-th number of the u-th wave. -/
def wv (u c : Nat) : Int := ([1, 1, 1, 1, 1, 1, -1, -1, 1, -1, -1, 1, 1, -1, 1, -1] : List Int).getD (4 * u + c) 0

/-- The sums of a block's rows, with rows as columns. -/
def turn (b : Nat → Int) (i : Nat) : Int :=
  b (4 * (i % 4)) * wv (i / 4) 0 + b (4 * (i % 4) + 1) * wv (i / 4) 1 + b (4 * (i % 4) + 2) * wv (i / 4) 2 + b (4 * (i % 4) + 3) * wv (i / 4) 3

def cl (m x : Int) : Int := max (-m) (min x m)
end Go.Proofs.Ytnccblhdokplkaa
set_option maxRecDepth 100000
namespace Go.Proofs.Ytnccblhdokplkaa

structure FD where
  W : Int
  H : Int
  p0 : List Nat
  p1 : List Nat
  p2 : List Nat
def FD.none : FD := ⟨0, 0, [], [], []⟩
def sideB (n : Int) : Bool := decide (8 ≤ n) && decide (n ≤ 64) && decide (Int.tmod n 8 = 0)
/-- May it be? -/
def okF (f : FD) : Prop := sideB f.W = true ∧ sideB f.H = true ∧ (f.p0.length : Int) = f.W * f.H ∧ (f.p1.length : Int) = Int.tdiv (f.W * f.H) 4 ∧ (f.p2.length : Int) = Int.tdiv (f.W * f.H) 4
instance (f : FD) : Decidable (okF f) := by unfold okF; infer_instance
end Go.Proofs.Ytnccblhdokplkaa
set_option maxRecDepth 100000
namespace Go.Proofs.Ytnccblhdokplkaa
open Go.RowKit

/-- The first k places told anew. -/
def upto (k : Nat) (b c : Nat → Int) : Nat → Int := fun i => if i < k then c i else b i
theorem upto_zero (b c : Nat → Int) : upto 0 b c = b := by funext i; simp [upto]
theorem upto_set (k : Nat) (b c : Nat → Int) : upd (upto k b c) k (c k) = upto (k + 1) b c := by
  funext i
  unfold upd upto
  by_cases h : i = k
  · subst h; simp
  · rw [if_neg h]
    by_cases h2 : i < k
    · rw [if_pos h2, if_pos (by omega)]
    · rw [if_neg h2, if_neg (by omega)]
theorem Blk.first {w : World} {p : Nat} {t : TypeId} {b c : Nat → Int} (h : Blk w p t b) : Blk w p t (upto 0 b c) := by rw [upto_zero]; exact h
theorem Blk.next {w : World} {p : Nat} {t : TypeId} {b c : Nat → Int} {k : Nat} {x : Int} (h : Blk w p t (upd (upto k b c) k x)) (e : x = c k) : Blk w p t (upto (k + 1) b c) := by rw [← upto_set, ← e]; exact h
/-- The first c terms of a row's sum by a wave. -/
def ps (b : Nat → Int) (r u : Nat) : Nat → Int
  | 0 => 0
  | c + 1 => ps b r u c + b (r * 4 + c) * wv u c

end Go.Proofs.Ytnccblhdokplkaa
set_option maxRecDepth 100000
namespace Go.Proofs.Ytnccblhdokplkaa

def alikeF (a b : FD) : Prop := okF a ∧ okF b ∧ a.W = b.W ∧ a.H = b.H
instance (a b : FD) : Decidable (alikeF a b) := by unfold alikeF; infer_instance
def within (w h u v : Int) : Prop := 0 ≤ u ∧ u < w ∧ 0 ≤ v ∧ v < h
instance (w h u v : Int) : Decidable (within w h u v) := by unfold within; infer_instance
end Go.Proofs.Ytnccblhdokplkaa
set_option maxRecDepth 100000
namespace Go.Proofs.Ytnccblhdokplkaa
open Go.RowKit
/-- A frame that can be read. -/
def FrmV (w : World) (v : Value) (f : FD) : Prop := ∃ (a b c : Value) (Ta Tb Tc : Nat → Prop), v = .agg #[.int .i64 f.W, .int .i64 f.H, a, b, c] ∧ Owb w Ta a f.p0 ∧ Owb w Tb b f.p1 ∧ Owb w Tc c f.p2
theorem FrmV.all {w w' : World} {v : Value} {f : FD} (h : FrmV w v f) (k : Kept (fun _ => False) w w') : FrmV w' v f := by
  obtain ⟨a, b, c, Ta, Tb, Tc, e, h1, h2, h3⟩ := h
  exact ⟨a, b, c, Ta, Tb, Tc, e, h1.all k Apart.none, h2.all k Apart.none, h3.all k Apart.none⟩
theorem Stc.apart {w : World} {p : Nat} {t : TypeId} {vs : List Value} {T : Nat → Prop} {v : Value} {l : List Nat} (h : Stc w p t vs) (ho : Owb w T v l) (ht : t ≠ 5) : Apart (onB p) T := fun i hi hT => by
  cases hi
  have hv := (ho.2 _).1 hT
  rcases ho.1.1.2 with ⟨rfl, _⟩ | ⟨g, cap, cur, rfl, _, hg, _⟩
  · cases hv
  · cases hv
    have h' := h
    unfold Stc at h'
    rw [h'] at hg
    cases hg; exact ht rfl
end Go.Proofs.Ytnccblhdokplkaa
set_option maxRecDepth 100000
namespace Go.Proofs.Ytnccblhdokplkaa
open Go.RowKit

theorem retB {a b : Bool} (h : a = b) : Ending.returned (.bool a) = .returned (.bool b) := by rw [h]
/-- A function that is asked with a number below n, in whatever world in which nothing that was there has changed. -/
def Ask1 (w : World) (n : Nat) (v : Value) (g : Nat → Int) : Prop :=
  ∃ (f : FuncId) (cs : List Value), v = .func (.func f) #[] cs.toArray ∧ (∀ args w, (callFunc f args).run Try.prog w = .ok (.enter f args) w) ∧
    ∀ w', Kept (fun _ => False) w w' → ∀ k : Nat, k < n → Calls Try.prog f (.int .i64 (k : Int) :: cs).toArray w' fun e w'' => e = .returned (.int .i64 (g k)) ∧ Kept (fun _ => False) w' w''
theorem Ask1.all {w w' : World} {n : Nat} {v : Value} {g : Nat → Int} (h : Ask1 w n v g) (k : Kept (fun _ => False) w w') : Ask1 w' n v g := by
  obtain ⟨f, cs, e, hf, h⟩ := h
  exact ⟨f, cs, e, hf, fun w2 k2 => h w2 (k.trans k2 (fun _ _ x => x))⟩
/-- .. with two. -/
def Ask2 (w : World) (n : Nat) (v : Value) (g : Nat → Nat → Int) : Prop :=
  ∃ (f : FuncId) (cs : List Value), v = .func (.func f) #[] cs.toArray ∧ (∀ args w, (callFunc f args).run Try.prog w = .ok (.enter f args) w) ∧
    ∀ w', Kept (fun _ => False) w w' → ∀ i k : Nat, i < n → k < n → Calls Try.prog f (.int .i64 (i : Int) :: .int .i64 (k : Int) :: cs).toArray w' fun e w'' => e = .returned (.int .i64 (g i k)) ∧ Kept (fun _ => False) w' w''
theorem Ask2.all {w w' : World} {n : Nat} {v : Value} {g : Nat → Nat → Int} (h : Ask2 w n v g) (k : Kept (fun _ => False) w w') : Ask2 w' n v g := by
  obtain ⟨f, cs, e, hf, h⟩ := h
  exact ⟨f, cs, e, hf, fun w2 k2 => h w2 (k.trans k2 (fun _ _ x => x))⟩
section
variable {ρ : Operand → Value} {o : Oper} {w : World} {R : Value → World → Prop}
theorem y_fnc {P : Program} {f : FuncId} {xs : List Operand} {vs : List Value} (ho : o.op = .makeFunc (.func f) #[] xs.toArray) (hx : xs.map ρ = vs) (h : R (.func (.func f) #[] vs.toArray) w) : Yields P ρ o w R := by
  subst hx
  exact y_of (v := .func (.func f) #[] (xs.map ρ).toArray) (w' := w) (by simp [execOp, ho, show ∀ cap, (Instr.makeFunc (.func f) #[] cap).run P w = .ok (.func (.func f) #[] cap) w from fun _ => rfl]) h
theorem end_arr {N n : Nat} {F : Nat → Value} {fn : Func} {p : Tmp} {ty t : TypeId} {q : Nat} {b : Nat → Int} {R : Ending → World → Prop} (hT : ArrT ty n) (hm : F N = undef) (ht : Nat.blt p N = true) (h : fn.results = #[.cell p ty]) (hp : F p = .pointer (some ⟨q, 0, none⟩)) (hB : Arr w q t n b) (hR : R (.returned (.agg (arrL n b).toArray)) w) : endP Try.prog fn N R .ret F w :=
  ⟨hm, fun a ha => ⟨_, results_cell h _ _ q (by rw [ha.at' p ht]; exact hp) _ t (0, 0) _ hB hT.1 rfl (hT.size b), hR⟩⟩
end
end Go.Proofs.Ytnccblhdokplkaa
set_option maxRecDepth 100000
namespace Go.Proofs.Ytnccblhdokplkaa
open Go.RowKit

/-- What is asked of one operation. U tells which operation uses an answer up. -/
def StepU (U : Nat → Option Nat) (P : Program) (R : World → Prop) (D : List (Option Tmp)) (G H : Nat → Value → World → Prop) (a0 : Act) (i : Nat) (o : Oper) : Prop :=
  ∀ (a : Act) (w : World), R w → (∀ t, some t ∉ D → a.eval (.tmp t) = a0.eval (.tmp t)) → Deps D (fun j v w => (U j = none ∨ U j = some i) → G j v w) a w o.after.toList →
    (goes D o a = true → Yields P a.eval o w (fun v w' => G i v w' ∧ R w' ∧ (∀ j x, j ≠ i → U j ≠ some i → G j x w → G j x w') ∧ (∀ j x, U j ≠ some i → H j x w → H j x w') ∧ ∀ j d, U j = some i → D[j]? = some (some d) → H j (a.eval (.tmp d)) w')) ∧ (goes D o a = false → G i undef w ∧ ∀ j, U j ≠ some i)
def StepsU (U : Nat → Option Nat) (P : Program) (R : World → Prop) (D : List (Option Tmp)) (G H : Nat → Value → World → Prop) (a0 : Act) : Nat → List Oper → Prop
  | _, [] => True
  | i, o :: r => StepU U P R D G H a0 i o ∧ StepsU U P R D G H a0 (i + 1) r
theorem StepsU.at {U : Nat → Option Nat} {P : Program} {R : World → Prop} {D : List (Option Tmp)} {G H : Nat → Value → World → Prop} {a0 : Act} : ∀ {i : Nat} {os : List Oper}, StepsU U P R D G H a0 i os → ∀ k o, os[k]? = some o → StepU U P R D G H a0 (i + k) o := by
  intro i os
  induction os generalizing i with
  | nil => intro _ k o h; simp at h
  | cons x r ih =>
    intro h k o hk
    cases k with
    | zero => simp at hk; subst hk; exact h.1
    | succ k =>
      simp at hk
      have := ih h.2 k o hk
      rwa [show i + 1 + k = i + (k + 1) by omega] at this
end Go.Proofs.Ytnccblhdokplkaa
set_option maxRecDepth 100000
namespace Go.Proofs.Ytnccblhdokplkaa
open Go.RowKit

/-- Which operation uses an answer up. -/
def usedBy (l : List (Nat × Nat)) (j : Nat) : Option Nat := (l.find? fun q => q.1 == j).map (·.2)
theorem usedBy_mem {l : List (Nat × Nat)} {j k : Nat} (h : usedBy l j = some k) : (j, k) ∈ l := by
  unfold usedBy at h
  cases hf : l.find? fun q => q.1 == j with
  | none => rw [hf] at h; cases h
  | some q =>
    rw [hf] at h
    cases h
    have h1 := List.find?_some hf
    have h2 := List.mem_of_find?_eq_some hf
    have : q.1 = j := by simpa using h1
    rw [← this]; exact h2
def noUse (l : List (Nat × Nat)) (i : Nat) : Bool := l.all fun q => q.2 != i
theorem noUse_at {l : List (Nat × Nat)} {i : Nat} (h : noUse l i = true) (j : Nat) : usedBy l j ≠ some i := fun e => by
  have := List.all_eq_true.1 h _ (usedBy_mem e)
  simp at this
def oneUse (l : List (Nat × Nat)) (i j : Nat) : Bool := l.all fun q => q.2 != i || q.1 == j
theorem oneUse_at {l : List (Nat × Nat)} {i j : Nat} (h : oneUse l i j = true) {j' : Nat} (e : usedBy l j' = some i) : j' = j := by
  have := List.all_eq_true.1 h _ (usedBy_mem e)
  simpa using this
/-- What is told to operation i. -/
def Told (l : List (Nat × Nat)) (Gs : List Pd) (i : Nat) : Nat → Value → World → Prop := fun j v w => (usedBy l j = none ∨ usedBy l j = some i) → Said Gs j v w
/-- What operation i leaves. -/
def Left (l : List (Nat × Nat)) (D : List (Option Tmp)) (Gs Hs : List Pd) (w0 : World) (i : Nat) (ρ : Operand → Value) (w : World) (v : Value) (w' : World) : Prop :=
  Said Gs i v w' ∧ Kept (fun _ => False) w0 w' ∧ (∀ j x, j ≠ i → usedBy l j ≠ some i → Said Gs j x w → Said Gs j x w') ∧ (∀ j x, usedBy l j ≠ some i → Said Hs j x w → Said Hs j x w') ∧ ∀ j d, usedBy l j = some i → D[j]? = some (some d) → Said Hs j (ρ (.tmp d)) w'
section
variable {P : Program} {N : Nat} {F : Nat → Value} {w : World} {Q : Exit → (Nat → Value) → World → Prop}

def StepFU (l : List (Nat × Nat)) (N : Nat) (P : Program) (D : List (Option Tmp)) (Gs Hs : List Pd) (F0 : Nat → Value) (w0 : World) (i : Nat) (o : Oper) : Prop :=
  ∀ (F : Nat → Value) (w : World), Kept (fun _ => False) w0 w → (∀ t, Nat.blt t N = true → some t ∉ D → F t = F0 t) → DepsF D (Told l Gs i) F w o.after.toList →
    match o.guard with
    | none => Yields P (ev F) o w (Left l D Gs Hs w0 i (ev F) w)
    | some (j, want) => ∃ d, D.getD j none = some d ∧
      ((F d = .bool want ∧ Yields P (ev F) o w (Left l D Gs Hs w0 i (ev F) w)) ∨ ((F d = .bool (!want) ∨ F d = undef) ∧ Said Gs i undef w ∧ noUse l i = true))
def StepsFU (l : List (Nat × Nat)) (N : Nat) (P : Program) (D : List (Option Tmp)) (Gs Hs : List Pd) (F0 : Nat → Value) (w0 : World) : Nat → List Oper → Prop
  | _, [] => True
  | i, o :: r => StepFU l N P D Gs Hs F0 w0 i o ∧ StepsFU l N P D Gs Hs F0 w0 (i + 1) r
theorem StepFU.step {l : List (Nat × Nat)} {D : List (Option Tmp)} {Gs Hs : List Pd} {w0 : World} {i : Nat} {o : Oper} {a0 : Act} (ha : Fr N F a0) (h : StepFU l N P D Gs Hs F w0 i o) : StepU (usedBy l) P (Kept (fun _ => False) w0) D (Said Gs) (Said Hs) a0 i o := by
  intro a w hR hout hD
  have h1 := h (fun t => a.tmps.getD t undef) w hR (fun t hb ht => by rw [← ha.at' t hb]; exact hout t ht) hD.toF
  rw [← eval_ev a] at h1
  unfold goes
  cases hg : o.guard with
  | none => rw [hg] at h1; exact ⟨fun _ => h1, fun e => by cases e⟩
  | some g =>
    obtain ⟨j, want⟩ := g
    rw [hg] at h1
    obtain ⟨d, hd, h1⟩ := h1
    simp only [hd]
    have hev : a.eval (.tmp d) = a.tmps.getD d undef := rfl
    rcases h1 with ⟨hv, hy⟩ | ⟨hv, hs⟩
    · rw [hev, hv]; exact ⟨fun _ => hy, fun e => by simp at e⟩
    · refine ⟨fun e => ?_, fun _ => ⟨hs.1, noUse_at hs.2⟩⟩
      rcases hv with hv | hv
      · rw [hev, hv] at e; cases want <;> simp at e
      · rw [hev, hv] at e; simp [undef] at e
theorem StepsFU.steps {l : List (Nat × Nat)} {D : List (Option Tmp)} {Gs Hs : List Pd} {w0 : World} {a0 : Act} (ha : Fr N F a0) : ∀ {os : List Oper} {i : Nat}, StepsFU l N P D Gs Hs F w0 i os → StepsU (usedBy l) P (Kept (fun _ => False) w0) D (Said Gs) (Said Hs) a0 i os := by
  intro os
  induction os with
  | nil => intro i _; exact trivial
  | cons o r ih => intro i h; exact ⟨h.1.step ha, ih h.2⟩
theorem left_plain {l : List (Nat × Nat)} {D : List (Option Tmp)} {Gs Hs : List Pd} {w0 w w' : World} {i : Nat} {ρ : Operand → Value} {v : Value} (hn : noUse l i = true) (hR : Kept (fun _ => False) w0 w) (h : Said Gs i v w' ∧ Kept (fun _ => False) w w') : Left l D Gs Hs w0 i ρ w v w' :=
  ⟨h.1, hR.trans h.2 (fun _ _ x => x), fun j _ _ _ hj => (Gs.getD j Pd.any).stays _ _ _ hj h.2, fun j _ _ hj => (Hs.getD j Pd.any).stays _ _ _ hj h.2, fun j _ e => absurd e (noUse_at hn j)⟩
theorem Yields.mono' {ρ : Operand → Value} {o : Oper} {R R' : Value → World → Prop} (h : Yields P ρ o w R) (hr : ∀ v w', R v w' → R' v w') : Yields P ρ o w R' := by
  revert h
  unfold Yields
  generalize (execOp ρ o).run P w = r
  intro h
  cases r with
  | ok n w' =>
    cases n <;> simp only at h ⊢ <;> first
      | exact hr _ _ h
      | exact h.elim
      | exact Calls.mono h (fun e w'' ⟨y, he, hk⟩ => ⟨y, he, hr _ _ hk⟩)
  | halt y w' => exact h.elim
theorem StepFU.one {l : List (Nat × Nat)} {D : List (Option Tmp)} {Gs Hs : List Pd} {F0 : Nat → Value} {w0 : World} {i : Nat} {o : Oper} (hn : noUse l i = true) (hg : o.guard = none)
    (h : ∀ (F : Nat → Value) (w : World), Kept (fun _ => False) w0 w → (∀ t, Nat.blt t N = true → some t ∉ D → F t = F0 t) → DepsF D (Told l Gs i) F w o.after.toList → Yields P (ev F) o w (fun v w' => Said Gs i v w' ∧ Kept (fun _ => False) w w')) : StepFU l N P D Gs Hs F0 w0 i o := by
  intro F w h1 h2 h3
  rw [hg]
  exact (h F w h1 h2 h3).mono' fun _ _ x => left_plain hn h1 x
theorem StepFU.when {l : List (Nat × Nat)} {D : List (Option Tmp)} {Gs Hs : List Pd} {F0 : Nat → Value} {w0 : World} {i : Nat} {o : Oper} (hn : noUse l i = true) (j : Nat) (want : Bool) (d : Tmp) (hg : o.guard = some (j, want)) (hd : D.getD j none = some d)
    (h : ∀ (F : Nat → Value) (w : World), Kept (fun _ => False) w0 w → (∀ t, Nat.blt t N = true → some t ∉ D → F t = F0 t) → DepsF D (Told l Gs i) F w o.after.toList → F d = .bool want ∧ Yields P (ev F) o w (fun v w' => Said Gs i v w' ∧ Kept (fun _ => False) w w')) : StepFU l N P D Gs Hs F0 w0 i o := by
  intro F w h1 h2 h3
  rw [hg]
  obtain ⟨hv, hy⟩ := h F w h1 h2 h3
  exact ⟨d, hd, .inl ⟨hv, hy.mono' fun _ _ x => left_plain hn h1 x⟩⟩
theorem StepFU.unless {l : List (Nat × Nat)} {D : List (Option Tmp)} {Gs Hs : List Pd} {F0 : Nat → Value} {w0 : World} {i : Nat} {o : Oper} (hn : noUse l i = true) (j : Nat) (want : Bool) (d : Tmp) (hg : o.guard = some (j, want)) (hd : D.getD j none = some d)
    (h : ∀ (F : Nat → Value) (w : World), Kept (fun _ => False) w0 w → (∀ t, Nat.blt t N = true → some t ∉ D → F t = F0 t) → DepsF D (Told l Gs i) F w o.after.toList → (F d = .bool (!want) ∨ F d = undef) ∧ Said Gs i undef w) : StepFU l N P D Gs Hs F0 w0 i o := by
  intro F w h1 h2 h3
  rw [hg]
  exact ⟨d, hd, .inr ⟨(h F w h1 h2 h3).1, (h F w h1 h2 h3).2, hn⟩⟩

def Pd.under (Ty : TypeId → Prop) (p : Pd) : Prop := ∀ v w w' S, p.says v w → Kept S w w' → (∀ i, S i → ∀ c e f, w.heap[i]? = some (.cells c e f) → Ty e) → p.says v w'
theorem under_any {Ty : TypeId → Prop} : Pd.any.under Ty := fun _ _ _ _ _ _ _ => trivial
def AllUnder (Ty : TypeId → Prop) (skip : Nat → Bool) : Nat → List Pd → Prop
  | _, [] => True
  | k, p :: r => (skip k = true ∨ p.under Ty) ∧ AllUnder Ty skip (k + 1) r
theorem AllUnder.at {Ty : TypeId → Prop} {skip : Nat → Bool} : ∀ {Gs : List Pd} {k : Nat}, AllUnder Ty skip k Gs → ∀ j, skip (k + j) = false → (Gs.getD j Pd.any).under Ty := by
  intro Gs
  induction Gs with
  | nil => intro k _ j _; exact under_any
  | cons p r ih =>
    intro k h j hj
    cases j with
    | zero =>
      rcases h.1 with e | e
      · rw [Nat.add_zero] at hj; rw [hj] at e; cases e
      · exact e
    | succ j => exact ih h.2 j (by rw [show k + 1 + j = k + (j + 1) by omega]; exact hj)
/-- The operation that uses an answer up: it turns blocks that were made here. -/
theorem StepFU.turn {l : List (Nat × Nat)} {D : List (Option Tmp)} {Gs Hs : List Pd} {F0 : Nat → Value} {w0 : World} {i : Nat} {o : Oper} (j : Nat) (d : Tmp) (Ty : TypeId → Prop) (hg : o.guard = none) (hd : D[j]? = some (some d)) (h1u : oneUse l i j = true) (hu : AllUnder Ty (fun q => decide (q = i ∨ usedBy l q = some i)) 0 Gs) (hu2 : AllUnder Ty (fun q => decide (usedBy l q = some i)) 0 Hs)
    (h : ∀ (F : Nat → Value) (w : World), Kept (fun _ => False) w0 w → (∀ t, Nat.blt t N = true → some t ∉ D → F t = F0 t) → DepsF D (Told l Gs i) F w o.after.toList →
      Yields P (ev F) o w (fun v w' => Said Gs i v w' ∧ Said Hs j (F d) w' ∧ ∃ S, Kept S w w' ∧ (∀ x, S x → w0.heap.size ≤ x) ∧ ∀ x, S x → ∀ c e f, w.heap[x]? = some (.cells c e f) → Ty e)) : StepFU l N P D Gs Hs F0 w0 i o := by
  intro F w h1 h2 h3
  rw [hg]
  refine (h F w h1 h2 h3).mono' fun v w' ⟨hs, hs2, S, k, hn, ht⟩ => ⟨hs, h1.trans k (fun x hx hS => absurd (hn x hS) (by omega)), fun q x hj hU hx => ?_, fun q x hU hx => ?_, fun q d' hU hq => ?_⟩
  · exact hu.at q (by rw [Nat.zero_add]; exact decide_eq_false (fun e => e.elim hj hU)) x w w' S hx k ht
  · exact hu2.at q (by rw [Nat.zero_add]; exact decide_eq_false hU) x w w' S hx k ht
  · have e := oneUse_at h1u hU
    subst e
    rw [hd] at hq
    cases hq
    exact hs2

end
end Go.Proofs.Ytnccblhdokplkaa
