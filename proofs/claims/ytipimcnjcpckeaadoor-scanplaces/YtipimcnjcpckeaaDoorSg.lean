/- Labels and jumps ahead; package variables that are arrays, loaded as a whole. -/
import Derived.Test.YtipimcnjcpckeaaDoorSb
import Derived.Scope
namespace Go.Proofs.YtipimcnjcpckeaaDoor
open Go.RowKit

/-- As Q; by a jump: what holds there. -/
def jumpP (J : Nat → (Nat → Value) → World → Prop) (Q : (Exit → (Nat → Value) → World → Prop)) : (Exit → (Nat → Value) → World → Prop)
  | .goto l, F, w => J l F w
  | e, F, w => Q e F w
def stayP (Q : (Exit → (Nat → Value) → World → Prop)) : (Exit → (Nat → Value) → World → Prop)
  | .goto _, _, _ => False
  | e, F, w => Q e F w

theorem wp_scope_ahead {P : Program} {a : Act} {w : World} {Q : Exit → Act → World → Prop} {c : Code} (J : Nat → Act → World → Prop)
    (first : c.wp P (fun e a w => match e with | .goto l => J l a w | e => Q e a w) a w)
    (pass : ∀ l a w, J l a w → ∃ rest, findLabel c l = some rest ∧ rest.wp P (Exit.noGoto Q) a w) : (Code.scope c).wp P Q a w := by
  intro b k cs
  obtain ⟨e, a₁, w₁, hq, harr⟩ := first b (.inScope c :: k) cs
  cases e with
  | normal => exact ⟨.normal, a₁, w₁, hq, .head step_scope (Steps.trans harr (.one step_inScope))⟩
  | exit id => exact ⟨.exit id, a₁, w₁, hq, fun k' hk => .head step_scope (harr k' (by simp [exitTo, hk]))⟩
  | goto l =>
    obtain ⟨rest, hf, hr⟩ := pass l a₁ w₁ hq
    have hg : gotoIn l (.inScope c :: k) = some (.code rest :: .inScope c :: k) := by simp [gotoIn, hf]
    obtain ⟨e₂, a₂, w₂, hq₂, harr₂⟩ := hr b (.inScope c :: k) cs
    have hs : Go.Steps P (lone (b.at a (.code (.scope c) :: k)) cs w) (lone (b.at a₁ (.code rest :: .inScope c :: k)) cs w₁) := .head step_scope (harr _ hg)
    cases e₂ with
    | normal => exact ⟨.normal, a₂, w₂, hq₂, Steps.trans hs (Steps.trans harr₂ (.one step_inScope))⟩
    | exit id => exact ⟨.exit id, a₂, w₂, hq₂, fun k' hk => Steps.trans hs (harr₂ k' (by simp [exitTo, hk]))⟩
    | goto l' => exact hq₂.elim
    | ret => exact ⟨_, a₂, w₂, hq₂, .of_steps hs harr₂⟩
    | panic ch => exact ⟨_, a₂, w₂, hq₂, .of_steps hs harr₂⟩
    | outgrown => exact ⟨_, a₂, w₂, hq₂, .of_steps hs harr₂⟩
  | ret => exact ⟨_, a₁, w₁, hq, .of_steps (.one step_scope) harr⟩
  | panic ch => exact ⟨_, a₁, w₁, hq, .of_steps (.one step_scope) harr⟩
  | outgrown => exact ⟨_, a₁, w₁, hq, .of_steps (.one step_scope) harr⟩

section
variable {ro : Option Nat} {P : Program} {N : Nat} {Q : (Exit → (Nat → Value) → World → Prop)} {F : Nat → Value} {w : World}
theorem wq_scope {c : Code} (h : wq none P N c (jumpP (fun l F w => ∃ rest, findLabel c l = some rest ∧ wq none P N rest (stayP Q) F w) Q) F w) : wq none P N (.scope c) Q F w := by
  intro a ha
  refine wpIn_wide.2 ?_
  refine wp_scope_ahead (fun l a w => ∃ F, Fr N F a ∧ ∃ rest, findLabel c l = some rest ∧ wq none P N rest (stayP Q) F w) (wp_mono (wpIn_wide.1 (h a ha)) ?_) ?_
  · rintro e a' w' ⟨F', hF, hq⟩
    cases e <;> exact ⟨F', hF, hq⟩
  · rintro l a' w' ⟨F', hF, rest, hf, hr⟩
    refine ⟨rest, hf, wp_mono (wpIn_wide.1 (hr a' hF)) ?_⟩
    rintro e a'' w'' ⟨F'', hF'', hq⟩
    cases e <;> first | exact ⟨F'', hF'', hq⟩ | exact hq.elim
theorem wq_goto {l : Nat} (h : Q (.goto l) F w) : wq ro P N (.goto l) Q F w := fun _ ha => wpIn_goto ⟨F, ha, h⟩
theorem wq_label {l : Nat} (h : Q .normal F w) : wq ro P N (.label l) Q F w := fun _ ha => wpIn_label ⟨F, ha, h⟩
theorem then_goto {next : (Nat → Value) → World → Prop} {l : Nat} (h : Q (.goto l) F w) : thenP next Q (.goto l) F w := h
theorem in_goto {id l : Nat} (h : Q (.goto l) F w) : inP id Q (.goto l) F w := h
theorem jump_normal {J : Nat → (Nat → Value) → World → Prop} (h : Q .normal F w) : jumpP J Q .normal F w := h
theorem jump_exit {J : Nat → (Nat → Value) → World → Prop} {id : Nat} (h : Q (.exit id) F w) : jumpP J Q (.exit id) F w := h
theorem jump_ret {J : Nat → (Nat → Value) → World → Prop} (h : Q .ret F w) : jumpP J Q .ret F w := h
theorem jump_goto {J : Nat → (Nat → Value) → World → Prop} {l : Nat} (h : J l F w) : jumpP J Q (.goto l) F w := h
theorem stay_normal (h : Q .normal F w) : stayP Q .normal F w := h
theorem stay_exit {id : Nat} (h : Q (.exit id) F w) : stayP Q (.exit id) F w := h
theorem stay_ret (h : Q .ret F w) : stayP Q .ret F w := h
end

/-- A package variable of sixteen ints. -/
def BlkG (w : World) (p : Nat) (b : Nat → Int) : Prop := ∃ t f, w.heap[p]? = some (.cells (arrL 16 b).toArray t f)
theorem BlkG.all {S : Nat → Prop} {w w' : World} {p : Nat} {b : Nat → Int} (h : BlkG w p b) (k : Kept S w w') (hn : ¬ S p) : BlkG w' p b := by
  obtain ⟨t, f, h⟩ := h; exact ⟨t, f, k.at h hn⟩
theorem BlkG.lt {w : World} {p : Nat} {b : Nat → Int} (h : BlkG w p b) : p < w.heap.size := by obtain ⟨t, f, h⟩ := h; exact lt_of_heap h
theorem BlkG.cell {w : World} {p : Nat} {b : Nat → Int} (h : BlkG w p b) {i : Nat} (hi : i < 16) : w.cell? ⟨p, i, none⟩ = some (.int .i64 (b i)) := by
  obtain ⟨t, f, h⟩ := h
  rw [cell_of_heap h, List.getElem?_toArray]; exact arrL_at hi
theorem y_load_glob {ρ : Operand → Value} {o : Oper} {w : World} {R : Value → World → Prop} {ty : TypeId} {x : Operand} {p : Nat} {b : Nat → Int} (hT : BlkT ty) (ho : o.op = .load ty x) (hx : ρ x = .pointer (some ⟨p, 0, none⟩)) (hB : BlkG w p b) (h : R (blkV b) w) : Yields Tryd.prog ρ o w R := by
  obtain ⟨t, f, hB⟩ := hB
  exact y_load_row ho p hx _ t f _ hB hT.1 rfl (hT.size b) h
end Go.Proofs.YtipimcnjcpckeaaDoor
