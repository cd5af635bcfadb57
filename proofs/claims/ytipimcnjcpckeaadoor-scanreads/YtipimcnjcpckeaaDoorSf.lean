/- Things in memory by the blocks that are theirs: what grows, what is apart, what stays. No program in it. -/
import Derived.Test.YtipimcnjcpckeaaDoorSr
namespace Go.Proofs.YtipimcnjcpckeaaDoor
open Go.RowKit

/-- What is taken besides is new. -/
def Grew (w : World) (T T' : Nat → Prop) : Prop := ∀ i, T' i → T i ∨ w.heap.size ≤ i
def Apart (T U : Nat → Prop) : Prop := ∀ i, T i → ¬ U i
def noB : Nat → Prop := fun _ => False
def Live (w : World) (T : Nat → Prop) : Prop := ∀ i, T i → i < w.heap.size

theorem Grew.refl (w : World) (T : Nat → Prop) : Grew w T T := fun _ h => .inl h
theorem Grew.trans {S : Nat → Prop} {w0 w : World} {B T T' : Nat → Prop} (h : Grew w0 B T) (k : Kept S w0 w) (g : Grew w T T') : Grew w0 B T' := fun i hi => by
  rcases g i hi with h1 | h1
  · exact h i h1
  · exact .inr (Nat.le_trans k.size h1)
theorem Grew.new {S : Nat → Prop} {w0 w : World} {T : Nat → Prop} (k : Kept S w0 w) (g : Grew w noB T) : Grew w0 noB T := (Grew.refl w0 noB).trans k g
theorem Grew.weak {w0 : World} {B B' T : Nat → Prop} (h : Grew w0 B T) (hb : ∀ i, B i → B' i) : Grew w0 B' T := fun i hi => (h i hi).elim (fun x => .inl (hb i x)) .inr
theorem Grew.ok {w0 : World} {B T S : Nat → Prop} (h : Grew w0 B T) (hb : ∀ i, B i → S i) : ∀ i, i < w0.heap.size → T i → S i := fun i hi ht => by
  rcases h i ht with h1 | h1
  · exact hb i h1
  · omega
theorem noB_le {S : Nat → Prop} : ∀ i, noB i → S i := fun _ h => h.elim
theorem Apart.symm {T U : Nat → Prop} (h : Apart T U) : Apart U T := fun i hu ht => h i ht hu
theorem Apart.grew {w : World} {T T' U : Nat → Prop} (h : Apart T U) (g : Grew w T T') (hl : Live w U) : Apart T' U := fun i ht hu => by
  rcases g i ht with h1 | h1
  · exact h i h1 hu
  · have := hl i hu; omega
theorem Apart.new {w : World} {T' U : Nat → Prop} (g : Grew w noB T') (hl : Live w U) : Apart T' U := Apart.grew (T := noB) (fun _ h => h.elim) g hl
theorem Apart.none {T : Nat → Prop} : Apart T noB := fun _ _ h => h
/-- One block. -/
def onB (p : Nat) : Nat → Prop := fun i => i = p
theorem onB_new {w : World} {p : Nat} (h : w.heap.size ≤ p) : Grew w noB (onB p) := fun i hi => .inr (by unfold onB at hi; omega)
theorem onB_live {w : World} {p : Nat} (h : p < w.heap.size) : Live w (onB p) := fun i hi => by unfold onB at hi; omega
theorem onB_apart {p q : Nat} (h : p ≠ q) : Apart (onB p) (onB q) := fun _ hi hj => h (hi.symm.trans hj)
theorem Live.mono {S : Nat → Prop} {w w' : World} {T : Nat → Prop} (h : Live w T) (k : Kept S w w') : Live w' T := fun i hi => Nat.lt_of_lt_of_le (h i hi) k.size

section
variable {ro : Option Nat} {P : Program} {N : Nat} {Q : (Exit → (Nat → Value) → World → Prop)} {F : Nat → Value} {w : World}
/-- A guarded call that is come to. -/
theorem wl_callw {ops : Array Oper} {o : Oper} {rest : List Oper} {R : Value → World → Prop} (j : Nat) (want : Bool) (d : Tmp) (hg : o.guard = some (j, want)) (hj : (ops[j]?).bind (·.dst) = some d) (hdn : Nat.blt d N = true) (hv : F d = .bool want) (hd : fits N o.dst = true)
    (hy : Yields P (ev (cutF N F)) o w R) (h : ∀ v w', R v w' → wl ro P N ops Q rest (putF F o.dst v) w') : wl ro P N ops Q (o :: rest) F w := by
  refine wl_when j want d hg hj hdn hv hd ?_
  revert hy
  unfold Yields
  generalize (execOp (ev (cutF N F)) o).run P w = r
  intro hy
  cases r with
  | ok n w' =>
    cases n <;> simp only at hy ⊢ <;> first
      | exact h _ _ hy
      | exact hy.elim
      | exact Calls.mono hy (fun e w'' ⟨v, he, hk⟩ => ⟨v, he, h _ _ hk⟩)
  | halt x w' => exact hy.elim
end
end Go.Proofs.YtipimcnjcpckeaaDoor
