/- A slice of blocks among the things. -/
import Derived.Test.YtipimcnjcpckeaaDoorSs
import Derived.Deep.MidRow
namespace Go.Proofs.YtipimcnjcpckeaaDoor
open Go.RowKit

/-- A slice of blocks that can be read. -/
def Mat (w : World) (T : Nat → Prop) (v : Value) (ms : List (Nat → Int)) : Prop :=
  ∃ a cap, v = .slice a ms.length cap ∧ Live w T ∧ (0 < ms.length → ∃ b off, a = some ⟨b, off, none⟩ ∧ T b ∧ ∀ i, i < ms.length → ∀ j, j < 16 → w.cell? ⟨b, off + i * 16 + j, none⟩ = some (.int .i64 ((ms.getD i fun _ => 0) j)))
theorem Mat.live {w : World} {T : Nat → Prop} {v : Value} {ms : List (Nat → Int)} (h : Mat w T v ms) : Live w T := by obtain ⟨a, cap, _, h, _⟩ := h; exact h
theorem Mat.all {S : Nat → Prop} {w w' : World} {T : Nat → Prop} {v : Value} {ms : List (Nat → Int)} (h : Mat w T v ms) (k : Kept S w w') (ha : Apart T S) : Mat w' T v ms := by
  obtain ⟨a, cap, rfl, hL, hc⟩ := h
  refine ⟨a, cap, rfl, hL.mono k, fun hp => ?_⟩
  obtain ⟨b, off, rfl, hT, hcell⟩ := hc hp
  exact ⟨b, off, rfl, hT, fun i hi j hj => (World.cell?_of_block (k.block b (hL b hT) (ha b hT))).trans (hcell i hi j hj)⟩
def matAddr (v : Value) (j : Nat) : Value := match v with
  | .slice (some a) _ _ => .pointer (some (a.add (j * 16)))
  | _ => undef

section
variable {ρ : Operand → Value} {o : Oper} {w : World} {R : Value → World → Prop}
theorem y_lenM {c : Call} {x : Operand} {T : Nat → Prop} {v : Value} {ms : List (Nat → Int)} (ho : o.op = .call c) (hc : c = { callee := .builtin .len, args := #[x], argTypes := #[49] }) (hx : ρ x = v) (hb : Mat w T v ms) (h : R (.int .i64 ((ms.length : Nat) : Int)) w) : Yields Tryd.prog ρ o w R := by
  subst hc
  obtain ⟨a, cap, rfl, _⟩ := hb
  exact y_len ho rfl rfl rfl Tryd.underlying49 hx h
theorem y_atM {x ix : Operand} {T : Nat → Prop} {v : Value} {ms : List (Nat → Int)} {k : IntKind} (j : Nat) {i : Int} (ho : o.op = .indexAddr 49 x ix) (hx : ρ x = v) (hi : ρ ix = .int k i) (hij : i = (j : Int)) (hb : Mat w T v ms) (hj : j < ms.length) (h : R (matAddr v j) w) : Yields Tryd.prog ρ o w R := by
  subst hij
  obtain ⟨a, cap, rfl, _, hc⟩ := hb
  obtain ⟨b, off, rfl, _, _⟩ := hc (by omega)
  cases hq : Tryd.prog.info? 22 with
  | none => have := blkT_arr.2.1; simp [hq] at this
  | some i =>
    have hs' : i.size = 16 := by have := blkT_arr.2.1; simpa [hq] using this
    exact y_val (v := matAddr (.slice (some ⟨b, off, none⟩) ms.length cap) j) (w' := w) (by simp [execOp, ho, hx, hi, Instr.indexAt, run_underlying Tryd.underlying49, asIntOf, sizeOf, typeInfo, hq, hs', hj, matAddr]) h
theorem y_loadM {x : Operand} {T : Nat → Prop} {v : Value} {ms : List (Nat → Int)} {j : Nat} (ho : o.op = .load 22 x) (hx : ρ x = matAddr v j) (hb : Mat w T v ms) (hj : j < ms.length) (h : R (blkV (ms.getD j fun _ => 0)) w) : Yields Tryd.prog ρ o w R := by
  obtain ⟨a, cap, rfl, _, hc⟩ := hb
  obtain ⟨b, off, rfl, _, hcell⟩ := hc (by omega)
  have e := run_loadVar_mid (P := Tryd.prog) w b (off + j * 16) 22 (arrL 16 (ms.getD j fun _ => 0)) _ (fun k u hk => by
    have hk16 : k < 16 := by have := (List.getElem?_eq_some_iff.1 hk).1; rwa [arrL_length] at this
    rw [arrL_at hk16] at hk
    rw [hcell j hj k hk16]; exact hk) blkT_arr.1 rfl (by rw [arrL_length]; exact blkT_arr.2.1)
  have hx' : ρ x = .pointer (some ⟨b, off + j * 16, none⟩) := by rw [hx, matAddr, Addr.add_mid]
  exact y_val (v := blkV (ms.getD j fun _ => 0)) (w' := w) (by simp only [execOp, ho, hx', Instr.loadAt, Instr.sureAddr, Sem.run_bind, Sem.run_pure, Result.andThen_ok, e]; rfl) h
end
end Go.Proofs.YtipimcnjcpckeaaDoor
