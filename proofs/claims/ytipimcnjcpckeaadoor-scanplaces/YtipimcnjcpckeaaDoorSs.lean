/- Texts, bytes, single cells, and structs of the law's own, in a walk by slots. -/
import Derived.Test.YtipimcnjcpckeaaDoorTh
import Derived.Test.YtipimcnjcpckeaaDoorYd
import Derived.Test.YtipimcnjcpckeaaDoorSb
namespace Go.Proofs.YtipimcnjcpckeaaDoor
open Go.RowKit

/-- One cell. -/
def Cel (w : World) (p : Nat) (t : TypeId) (v : Value) : Prop := w.heap[p]? = some (.cells #[v] t (0, 0))
theorem Cel.all {S : Nat → Prop} {w w' : World} {p : Nat} {t : TypeId} {v : Value} (h : Cel w p t v) (k : Kept S w w') (hn : ¬ S p) : Cel w' p t v := k.at h hn
theorem Cel.lt {w : World} {p : Nat} {t : TypeId} {v : Value} (h : Cel w p t v) : p < w.heap.size := lt_of_heap h
theorem Cel.cell {w : World} {p : Nat} {t : TypeId} {v : Value} (h : Cel w p t v) : w.cell? ⟨p, 0, none⟩ = some v := by rw [cell_of_heap h]; rfl

def oneC : Value → Bool
  | .int _ _ | .bool _ | .pointer _ | .slice _ _ _ | .string _ => true
  | _ => false

def plainD : TypeDesc → Bool
  | .struct _ | .array _ _ => false
  | _ => true

section
variable {ro : Option Nat} {P : Program} {ρ : Operand → Value} {o : Oper} {w : World} {R : Value → World → Prop}
theorem y_ldA {ty : TypeId} {x : Operand} {a : Addr} {v : Value} {d : TypeDesc} (ho : o.op = .load ty x) (hx : ρ x = .pointer (some a)) (hu : P.underlying ty = some d) (hd : plainD d = true) (hc : w.cell? a = some v) (h : R v w) : Yields P ρ o w R := by
  have hA : (isAgg ty).run P w = .ok false w := by
    cases d <;> first | (simp [plainD] at hd; done) | simp [isAgg, run_underlying hu]
  exact y_val (v := v) (w' := w) (by simp [execOp, ho, hx, Instr.loadAt, Instr.sureAddr, loadVar, hA, hc]) h
theorem y_load_cel {ty t : TypeId} {x : Operand} {p : Nat} {v : Value} {d : TypeDesc} (ho : o.op = .load ty x) (hx : ρ x = .pointer (some ⟨p, 0, none⟩)) (hu : P.underlying ty = some d) (hB : Cel w p t v) (hd : plainD d = true := by rfl) (h : R v w) : Yields P ρ o w R := y_ldA ho hx hu hd hB.cell h
theorem y_nilc {x : Operand} {a : Addr} (ho : o.op = .nilCheck x) (hx : ρ x = .pointer (some a)) (h : R (.pointer (some a)) w) : Yields P ρ o w R :=
  y_val (by simp [execOp, ho, hx]) h
theorem y_fieldR {s : TypeId} {x : Operand} {fs : Array Field} {i b off off' n : Nat} {f : Field} (ho : o.op = .fieldAddr s x i) (hx : ρ x = .pointer (some ⟨b, off, none⟩)) (hu : P.underlying s = some (.struct fs)) (hf : fs[i]? = some f) (hs : (P.info? f.type).map (·.size) = some n) (hn : n ≠ 0) (hoff : off + f.offset = off')
    (h : R (.pointer (some ⟨b, off', none⟩)) w) : Yields P ρ o w R := by
  cases hq : P.info? f.type with
  | none => simp [hq] at hs
  | some j =>
    have hs' : j.size = n := by simpa [hq] using hs
    exact y_val (v := .pointer (some ⟨b, off', none⟩)) (w' := w) (by simp [execOp, ho, hx, Instr.fieldAt, run_underlying hu, hf, Instr.sureAddr, fieldPlace, sizeOf, typeInfo, hq, hs', hn, Addr.add_lit, hoff]) h
theorem y_catR {t t' : TypeId} {x y : Operand} {m n r : ByteArray} (ho : o.op = .binOp .add t x y t') (hx : ρ x = .string m) (hy : ρ y = .string n) (hz : m.size + n.size ≤ 9223372036854775807) (hr : m ++ n = r) (h : R (.string r) w) : Yields P ρ o w R :=
  y_val (v := .string (m ++ n)) (w' := w) (by simp [execOp, ho, hx, hy, go_sem, Nat.not_lt.2 hz]) (by rw [hr]; exact h)
theorem y_eqlS {t t' : TypeId} {x y : Operand} {m n : ByteArray} {b : Bool} (ho : o.op = .binOp .eql t x y t') (hx : ρ x = .string m) (hy : ρ y = .string n) (hr : (m.toList == n.toList) = b) (h : R (.bool b) w) : Yields P ρ o w R :=
  y_eql_text ho hx hy (by rw [hr]; exact h)
theorem y_neqS {t t' : TypeId} {x y : Operand} {m n : ByteArray} {b : Bool} (ho : o.op = .binOp .neq t x y t') (hx : ρ x = .string m) (hy : ρ y = .string n) (hr : (!(m.toList == n.toList)) = b) (h : R (.bool b) w) : Yields P ρ o w R :=
  y_val (v := .bool (!(m.toList == n.toList))) (w' := w) (by simp [execOp, ho, hx, hy, go_sem]) (by rw [hr]; exact h)
end

section
variable {ρ : Operand → Value} {o : Oper} {w : World} {R : Value → World → Prop}
theorem y_lenT {c : Call} {x : Operand} {l : List Bool} (ho : o.op = .call c) (hc : c = { callee := .builtin .len, args := #[x], argTypes := #[9] }) (hx : ρ x = .string (strOf l)) (h : R (.int .i64 ((l.length : Nat) : Int)) w) : Yields Tryd.prog ρ o w R := by
  subst hc
  refine y_val (v := .int .i64 ((l.length : Nat) : Int)) (w' := w) ?_ h
  rw [← strOf_size l]
  simp [execOp, ho, hx, resolve, invoke, builtin, run_underlying Tryd.underlying9, Builtin.len_]
  rfl
theorem y_lenV {c : Call} {x : Operand} {T : Nat → Prop} {v : Value} {l : List Nat} (ho : o.op = .call c) (hc : c = { callee := .builtin .len, args := #[x], argTypes := #[25] }) (hx : ρ x = v) (hb : Byt w T v l) (h : R (.int .i64 ((l.length : Nat) : Int)) w) : Yields Tryd.prog ρ o w R := by
  subst hc
  obtain ⟨⟨a, cap, rfl, _⟩, _⟩ := hb
  exact y_len ho rfl rfl rfl Tryd.underlying25 hx h
theorem bytes_at {x : Operand} {T : Nat → Prop} {v : Value} {l : List Nat} (hx : ρ x = v) (hb : Byt w T v l) : BytesArg w (ρ x) l := by rw [hx]; exact hb.1
theorem y_rf_lost {x : Operand} {T : Nat → Prop} {p : Nat} {l : List Nat} {st : Option Nat} (ho : o.op = .load 4 x) (hx : ρ x = .pointer (some ⟨p, 2, none⟩)) (hb : Rfi w T p l st) {c : Bool} (hr : st.isNone = c) (h : R (.bool c) w) : Yields Tryd.prog ρ o w R := by
  subst hr
  obtain ⟨_, _, _, hb⟩ := hb
  cases st with
  | none => obtain ⟨a, _, hb⟩ := hb; exact y_ldA ho hx Tryd.underlying4 rfl hb.facts.2.2.1 h
  | some a => exact y_ldA ho hx Tryd.underlying4 rfl hb.2.facts.2.2.1 h
end

section
variable {ro : Option Nat} {N : Nat} {Q : (Exit → (Nat → Value) → World → Prop)} {F : Nat → Value} {w : World} {o : Oper} {P : Program}
theorem wl_box_cel {ops : Array Oper} {rest : List Oper} {t : TypeId} {x : Operand} {v : Value} (hg : o.guard = none) (hd : fits N o.dst = true) (ho : o.op = .box t x) (hx : ev (cutF N F) x = v) (hv : oneC v = true)
    (h : ∀ p w', Cel w' p t v → Grew w noB (onB p) → Kept (fun _ => False) w w' → wl ro P N ops Q rest (putF F o.dst (.pointer (some ⟨p, 0, none⟩))) w') : wl ro P N ops Q (o :: rest) F w :=
  wl_op hg hd (y_of (v := .pointer (some ⟨w.heap.size, 0, none⟩)) (w' := w.alloc (.cells #[v] t)) (by simp [execOp, ho, hx, go_sem]; cases v <;> first | rfl | (simp [oneC] at hv; done)) (h _ _ (heap_alloc_new w _) (onB_new (Nat.le_refl _)) ((Kept.refl _ _).alloc _)))
theorem wl_alloc_cel {ops : Array Oper} {rest : List Oper} {t : TypeId} {v : Value} (hg : o.guard = none) (hd : fits N o.dst = true) (ho : o.op = .alloc t) (hi : (P.info? t).map (fun i => (i.zero, i.size)) = some (some v, 1)) (hv : oneC v = true)
    (h : ∀ p w', Cel w' p t v → Grew w noB (onB p) → Kept (fun _ => False) w w' → wl ro P N ops Q rest (putF F o.dst (.pointer (some ⟨p, 0, none⟩))) w') : wl ro P N ops Q (o :: rest) F w :=
  wl_op hg hd (y_of (v := .pointer (some ⟨w.heap.size, 0, none⟩)) (w' := w.alloc (.cells #[v] t)) (by simp [execOp, ho, (zero_of_info hi).1, go_sem]; cases v <;> first | rfl | (simp [oneC] at hv; done)) (h _ _ (heap_alloc_new w _) (onB_new (Nat.le_refl _)) ((Kept.refl _ _).alloc _)))
theorem wl_store_cel {ops : Array Oper} {rest : List Oper} {ty t : TypeId} {x y : Operand} {p : Nat} {v v' : Value} (hg : o.guard = none) (hdn : o.dst = none) (ho : o.op = .store ty x y) (hx : ev (cutF N F) x = .pointer (some ⟨p, 0, none⟩)) (hy : ev (cutF N F) y = v') (hB : Cel w p t v) (hv : oneC v' = true)
    (hs : (P.info? ty).map (·.size) = some 1)
    (h : ∀ w', Cel w' p t v' → Kept (fun k => k = p) w w' → wl ro P N ops Q rest F w') : wl ro P N ops Q (o :: rest) F w := by
  have hc := hB.cell
  have hf : w.frozen? ⟨p, 0, none⟩ = false := frozen_of_heap hB
  cases hq : P.info? ty with
  | none => simp [hq] at hs
  | some i =>
    have hs' : i.size = 1 := by simpa [hq] using hs
    refine wl_op hg (by rw [hdn]; rfl) ?_
    have e : (execOp (ev (cutF N F)) o).run P w = .ok .skip (w.setCell ⟨p, 0, none⟩ v') ∨ (execOp (ev (cutF N F)) o).run P w = .ok (.value undef) (w.setCell ⟨p, 0, none⟩ v') := by
      cases v' <;> first | (simp [oneC] at hv; done) | simp [execOp, ho, hx, hy, Instr.storeAt, Instr.sureAddr, storeVar, sizeOf, typeInfo, hq, hs', Value.cells, hc, hf, go_sem]
    have hn : Cel (w.setCell ⟨p, 0, none⟩ v') p t v' := by unfold Cel; rw [heap_setCell_same _ _ _ _ hB]; rfl
    unfold Yields
    rw [hdn]
    rcases e with e | e <;> rw [e] <;> exact h _ hn ((Kept.refl (fun k => k = p) w).setCell ⟨p, 0, none⟩ (fun _ => rfl) _)
theorem wl_box_wri {ops : Array Oper} {rest : List Oper} {x : Operand} (hg : o.guard = none) (hd : fits N o.dst = true) (ho : o.op = .box 27 x) (hx : ev (cutF N F) x = .agg #[.slice none 0 0, .int .i64 0])
    (h : ∀ p w' T, Wri w' T p [] → Grew w noB T → Kept (fun _ => False) w w' → wl ro P N ops Q rest (putF F o.dst (.pointer (some ⟨p, 0, none⟩))) w') : wl ro P N ops Q (o :: rest) F w :=
  wl_op hg hd (y_of (v := .pointer (some ⟨w.heap.size, 0, none⟩)) (w' := w.alloc (.cells #[.slice none 0 0, .int .i64 0] 27)) (by simp [execOp, ho, hx, go_sem])
    (h _ _ _ ⟨none, rfl, WrIs.new w⟩ (fun i hi => .inr (by rcases hi with rfl | hi; exact Nat.le_refl _; cases hi)) ((Kept.refl _ _).alloc _)))
theorem wl_box_rfi {ops : Array Oper} {rest : List Oper} {x : Operand} {l : List Nat} (hg : o.guard = none) (hd : fits N o.dst = true) (ho : o.op = .box 40 x) (hx : ev (cutF N F) x = .agg #[.string (strOf (bitsOf l)), .int .i64 0, .bool false]) (hf : Fair l) (hl : l.length ≤ 1000)
    (h : ∀ p w' T, Rfi w' T p l (some 0) → Grew w noB T → Kept (fun _ => False) w w' → wl ro P N ops Q rest (putF F o.dst (.pointer (some ⟨p, 0, none⟩))) w') : wl ro P N ops Q (o :: rest) F w :=
  wl_op hg hd (y_of (v := .pointer (some ⟨w.heap.size, 0, none⟩)) (w' := w.alloc (.cells #[.string (strOf (bitsOf l)), .int .i64 0, .bool false] 40)) (by simp [execOp, ho, hx, go_sem])
    (h _ _ _ ⟨hf, hl, rfl, Nat.zero_le _, heap_alloc_new w _⟩ (onB_new (Nat.le_refl _)) ((Kept.refl _ _).alloc _)))
end
end Go.Proofs.YtipimcnjcpckeaaDoor
