/- What BlockPredicts reaches of my texts, part 6. -/
import Derived.Test.YtdcbabgcbkdlhaaGreatDoorBlockPredictsE
set_option maxRecDepth 100000
set_option maxRecDepth 100000
namespace Go.Proofs.YtdcbabgcbkdlhaaGreatDoor
open Go.RowKit

def intsV (xs : List Int) : Array Value := (xs.map fun x => Value.int .i64 x).toArray
def sameI (xs ys : List Int) : Bool := decide (xs = ys)
theorem sameI_self (xs : List Int) : sameI xs xs = true := decide_eq_true rfl
theorem part_i64 (w : World) (xs : List Int) (i : Nat) (z : Int) (h : xs[i]? = some z) : (part 3 (intsV xs) i).run Tryz.prog w = .ok (.int .i64 z) w := by
  have e : (intsV xs)[i]? = some (.int .i64 z) := by
    unfold intsV
    rw [List.getElem?_toArray, List.getElem?_map, h]; rfl
  simp [part, isAgg, run_underlying Tryz.underlying3, e]
theorem run_same_fields (w : World) (d : Nat) (xs ys : List Int) : ∀ (fs : List Field) (k : Nat), fs.map (fun f => (f.name == "_", f.type, f.offset)) = (List.range' k fs.length).map (fun i => (false, 3, i)) → xs.length = k + fs.length → ys.length = k + fs.length →
    (Op.eqFields (d + 1) (intsV xs) (intsV ys) fs).run Tryz.prog w = .ok (sameI (xs.drop k) (ys.drop k)) w := by
  intro fs
  induction fs with
  | nil =>
    intro k _ hx hy
    simp only [List.length_nil, Nat.add_zero] at hx hy
    rw [List.drop_of_length_le (by omega), List.drop_of_length_le (by omega), sameI_self]
    simp [Op.eqFields]
  | cons f r ih =>
    intro k hf hx hy
    simp only [List.length_cons] at hx hy
    simp only [List.map_cons, List.length_cons, List.range'_succ, List.cons.injEq, Prod.mk.injEq] at hf
    obtain ⟨⟨hn, ht, ho⟩, hr⟩ := hf
    have hn' : f.name ≠ "_" := by simpa using hn
    have hkx : k < xs.length := by omega
    have hky : k < ys.length := by omega
    have p1 := part_i64 w xs k xs[k] (List.getElem?_eq_getElem hkx)
    have p2 := part_i64 w ys k ys[k] (List.getElem?_eq_getElem hky)
    have p3 := ih (k + 1) hr (by omega) (by omega)
    have ex : xs.drop k = xs[k] :: xs.drop (k + 1) := List.drop_eq_getElem_cons hkx
    have ey : ys.drop k = ys[k] :: ys.drop (k + 1) := List.drop_eq_getElem_cons hky
    have hs : sameI (xs.drop k) (ys.drop k) = (decide (xs[k] = ys[k]) && sameI (xs.drop (k + 1)) (ys.drop (k + 1))) := by
      rw [ex, ey]
      generalize xs[k] = a
      generalize ys[k] = b
      generalize xs.drop (k + 1) = X
      generalize ys.drop (k + 1) = Y
      unfold sameI
      by_cases h : a = b <;> simp [h]
    rw [hs]
    generalize sameI (xs.drop (k + 1)) (ys.drop (k + 1)) = q at p3
    generalize xs[k] = a at p1
    generalize ys[k] = b at p2
    simp only [Op.eqFields, ht, ho]
    rw [if_pos hn']
    simp only [Sem.run_bind, p1, p2, Result.andThen_ok, run_equalIn_int w d 3 .i64 .i64 _ _ Tryz.underlying3]
    by_cases h1 : a = b
    · subst h1
      simp only [beq_self_eq_true, Bool.not_true, Bool.false_eq_true, if_false, p3, decide_true, Bool.true_and]
    · have : (a == b) = false := by simpa using h1
      simp [this, h1]
/-- A struct of n ints. -/
def StructI (ty : TypeId) (n : Nat) : Prop := (Tryz.prog.underlying ty = some (.struct (Tryz.prog.fieldsOf ty)) ∧ Tryz.prog.stoodInHeld ty = false) ∧ Tryz.prog.eqGuardType Tryz.prog.depth ty = false ∧ (Tryz.prog.fieldsOf ty).toList.map (fun f => (f.name == "_", f.type, f.offset)) = (List.range' 0 n).map (fun i => (false, 3, i))
end Go.Proofs.YtdcbabgcbkdlhaaGreatDoor
set_option maxRecDepth 100000
namespace Go.Proofs.YtdcbabgcbkdlhaaGreatDoor
open Go.RowKit

def sameCh (c d : Ch) : Bool := decide (c.m = d.m) && (sameI [c.px, c.py] [d.px, d.py] && (sameI [c.nx, c.ny] [d.nx, d.ny] && sameB c.b d.b))
theorem run_same_intsD (w : World) (n0 : Nat) {ty : TypeId} {n : Nat} (hS : StructI ty n) (xs ys : List Int) (hx : xs.length = n) (hy : ys.length = n) : (Op.equalIn (n0 + 2) ty (.agg (intsV xs)) (.agg (intsV ys))).run Tryz.prog w = .ok (sameI xs ys) w := by
  rw [run_equalIn_struct w (n0 + 1) _ _ _ hS.1.1 hS.1.2]
  have hlen : (Tryz.prog.fieldsOf ty).toList.length = n := by have := congrArg List.length hS.2.2; simpa using this
  have := run_same_fields w n0 xs ys (Tryz.prog.fieldsOf ty).toList 0 (by rw [hlen]; exact hS.2.2) (by omega) (by omega)
  simpa using this
theorem run_same_blkD (w : World) (n0 : Nat) (t : TypeId) (ht : BlkT t) (a b : Nat → Int) : (Op.equalIn (n0 + 2) t (blkV a) (blkV b)).run Tryz.prog w = .ok (sameB a b) w := by
  obtain ⟨i0, hi⟩ : ∃ i, Tryz.prog.info? 3 = some i := by
    have := Tryz.size_int
    cases h : Tryz.prog.info? 3 with
    | none => rw [h] at this; cases this
    | some i => exact ⟨i, rfl⟩
  unfold blkV
  rw [run_equalIn_array w (n0 + 1) _ _ ht.1 hi, run_eqItems_ints Tryz.underlying3 Tryz.cells_int w n0 16 a b _ (fun i hi => by simpa using hi)]
  rfl
theorem structI_vec : StructI 27 2 := ⟨⟨by kernel_rfl, by kernel_rfl⟩, by kernel_rfl, by kernel_rfl⟩
theorem Tryz.chFields : (Tryz.prog.fieldsOf 31).toList.map (fun f => (f.name == "_", f.type, f.offset)) = [(false, 3, 0), (false, 27, 1), (false, 27, 3), (false, 29, 5)] := by kernel_rfl
theorem Tryz.guard_ch : Tryz.prog.eqGuardType Tryz.prog.depth 31 = false := by kernel_rfl
theorem Tryz.held_ch : Tryz.prog.underlying 31 = some (.struct (Tryz.prog.fieldsOf 31)) ∧ Tryz.prog.stoodInHeld 31 = false := ⟨by kernel_rfl, by kernel_rfl⟩
theorem part_ch0 (w : World) (c : Ch) : (part 3 (chV c).toArray 0).run Tryz.prog w = .ok (.int .i64 c.m) w := by
  simp [part, isAgg, run_underlying Tryz.underlying3, chV]
theorem part_agg (w : World) (ty : TypeId) (vs us : List Value) (k n : Nat) {d : TypeDesc} (hu : Tryz.prog.underlying ty = some d) (hd : (match d with | .struct _ => true | .array _ _ => true | _ => false) = true) (hs : (Tryz.prog.info? ty).map (·.size) = some n) (hk : (vs.drop k).take n = us) : (part ty vs.toArray k).run Tryz.prog w = .ok (.agg us.toArray) w := by
  cases hq : Tryz.prog.info? ty with
  | none => rw [hq] at hs; cases hs
  | some i =>
    have hs' : i.size = n := by simpa [hq] using hs
    subst hs'
    subst hk
    have e : vs.toArray.extract k (k + i.size) = ((vs.drop k).take i.size).toArray := by
      rw [List.extract_toArray]; simp [List.extract_eq_take_drop]
    cases d <;> simp at hd <;> simp only [part, isAgg, run_underlying hu, sizeOf, typeInfo, hq, Sem.run_bind, Sem.run_pure, Result.andThen_ok, run_program, if_true, e]
/-- One field more. -/
theorem eqFields_more {w : World} {z : Nat} {A B : Array Value} {f : Field} {r : List Field} {t : TypeId} {k : Nat} {a b : Value} {s q : Bool} (hf : (f.name == "_", f.type, f.offset) = (false, t, k))
    (ha : (part t A k).run Tryz.prog w = .ok a w) (hb : (part t B k).run Tryz.prog w = .ok b w) (hs : (Op.equalIn z t a b).run Tryz.prog w = .ok s w) (hq : (Op.eqFields z A B r).run Tryz.prog w = .ok q w) :
    (Op.eqFields z A B (f :: r)).run Tryz.prog w = .ok (s && q) w := by
  simp only [Prod.mk.injEq] at hf
  obtain ⟨n0, t0, o0⟩ := hf
  have m0 : f.name ≠ "_" := by simpa using n0
  simp only [Op.eqFields, t0, o0]
  rw [if_pos m0]
  simp only [Sem.run_bind, ha, hb, hs, Result.andThen_ok]
  cases s
  · simp
  · simp only [Bool.not_true, Bool.false_eq_true, if_false, hq, Bool.true_and]
theorem eqFields_none {w : World} {z : Nat} {A B : Array Value} : (Op.eqFields z A B []).run Tryz.prog w = .ok true w := by simp [Op.eqFields]
theorem list_four {α : Type} {l : List α} (h : l.length = 4) : ∃ a b c d, l = [a, b, c, d] := by
  match l, h with
  | [a, b, c, d], _ => exact ⟨a, b, c, d, rfl⟩
theorem run_same_chD (w : World) (z : Nat) (c d : Ch) : (Op.equalIn (z + 3) 31 (.agg (chV c).toArray) (.agg (chV d).toArray)).run Tryz.prog w = .ok (sameCh c d) w := by
  rw [run_equalIn_struct w (z + 2) _ _ _ Tryz.held_ch.1 Tryz.held_ch.2]
  have hf := Tryz.chFields
  have ri := run_equalIn_int w (z + 1) 3 .i64 .i64 c.m d.m Tryz.underlying3
  have hv : ∀ (x : Ch), (part 27 (chV x).toArray 1).run Tryz.prog w = .ok (.agg (intsV [x.px, x.py])) w := fun x => part_agg w 27 (chV x) [.int .i64 x.px, .int .i64 x.py] 1 2 Tryz.underlying27 rfl (by kernel_rfl) rfl
  have hn : ∀ (x : Ch), (part 27 (chV x).toArray 3).run Tryz.prog w = .ok (.agg (intsV [x.nx, x.ny])) w := fun x => part_agg w 27 (chV x) [.int .i64 x.nx, .int .i64 x.ny] 3 2 Tryz.underlying27 rfl (by kernel_rfl) rfl
  have hb : ∀ (x : Ch), (part 29 (chV x).toArray 5).run Tryz.prog w = .ok (blkV x.b) w := fun x => part_agg w 29 (chV x) (arrL 16 x.b) 5 16 Tryz.underlying29 rfl (by kernel_rfl) rfl
  have p0 := part_ch0 w c
  have q0 := part_ch0 w d
  have r1 := run_same_intsD w z structI_vec [c.px, c.py] [d.px, d.py] rfl rfl
  have r2 := run_same_intsD w z structI_vec [c.nx, c.ny] [d.nx, d.ny] rfl rfl
  have r3 := run_same_blkD w z 29 blkT_block c.b d.b
  have p1 := hv c; have q1 := hv d; have p2 := hn c; have q2 := hn d; have p3 := hb c; have q3 := hb d
  generalize (chV c).toArray = A at *
  generalize (chV d).toArray = B at *
  generalize (Tryz.prog.fieldsOf 31).toList = fs at hf ⊢
  obtain ⟨f0, f1, f2, f3, rfl⟩ := list_four (l := fs) (by have := congrArg List.length hf; simpa using this)
  simp only [List.map_cons, List.map_nil, List.cons.injEq, and_true] at hf
  obtain ⟨h0, h1, h2, h3⟩ := hf
  have e := eqFields_more h0 p0 q0 ri (eqFields_more h1 p1 q1 r1 (eqFields_more h2 p2 q2 r2 (eqFields_more h3 p3 q3 r3 eqFields_none)))
  rw [e]
  unfold sameCh
  rw [Bool.and_true, show (c.m == d.m) = decide (c.m = d.m) from by rw [Bool.eq_iff_iff]; simp]
theorem run_same_ch (w : World) (c d : Ch) : (Op.equalIn 10000 31 (.agg (chV c).toArray) (.agg (chV d).toArray)).run Tryz.prog w = .ok (sameCh c d) w := run_same_chD w 9997 c d
section
variable {ρ : Operand → Value} {o : Oper} {w : World} {R : Value → World → Prop}
theorem y_eqlCh {t' : TypeId} {x y : Operand} {c d : Ch} {q : Bool} (ho : o.op = .binOp .eql 31 x y t') (hx : ρ x = .agg (chV c).toArray) (hy : ρ y = .agg (chV d).toArray) (hr : sameCh c d = q) (h : R (.bool q) w) : Yields Tryz.prog ρ o w R :=
  y_of (v := .bool (sameCh c d)) (w' := w) (by simp only [execOp, ho, hx, hy, Sem.run_bind, run_eqGuard_agg w .eql _ _ _ _ _ Tryz.guard_ch, run_eql_struct, run_same_ch, Result.andThen_ok, Sem.run_pure]) (by rw [hr]; exact h)
end
end Go.Proofs.YtdcbabgcbkdlhaaGreatDoor
set_option maxRecDepth 100000
namespace Go.Proofs.YtdcbabgcbkdlhaaGreatDoor

def cpB (f p n : FD) (k x y : Int) (c : Ch) : Nat → Int :=
  if c.m < 0 ∨ 6 < c.m then fun _ => 0 else if c.m < 4 then predB f k x y c.m else if c.m = 5 then mvB n k x y c.nx c.ny
  else if mvE p k x y c.px c.py ≠ 0 ∨ c.m = 4 then mvB p k x y c.px c.py else if mvE n k x y c.nx c.ny ≠ 0 then fun _ => 0 else bothB (mvB p k x y c.px c.py) (mvB n k x y c.nx c.ny)
def cpE (f p n : FD) (k x y : Int) (c : Ch) : Int :=
  if c.m < 0 ∨ 6 < c.m then 120 else if c.m < 4 then predE f k x y c.m else if c.m = 5 then mvE n k x y c.nx c.ny
  else if mvE p k x y c.px c.py ≠ 0 ∨ c.m = 4 then mvE p k x y c.px c.py else if mvE n k x y c.nx c.ny ≠ 0 then mvE n k x y c.nx c.ny else 0
section
variable {f p n : FD} {k x y : Int} {c : Ch}
theorem mv_err {f : FD} {p x y X Y : Int} (h : mvE f p x y X Y ≠ 0) : mvB f p x y X Y = fun _ => 0 := by
  by_cases hp : placeF f p x y
  · by_cases hv : vecOk X Y
    · exact absurd (mv_yes hp hv).1 h
    · exact (mv_none hp hv).2
  · exact (mv_no hp).2
theorem cp_bad (h : c.m < 0 ∨ 6 < c.m) : cpB f p n k x y c = (fun _ => 0) ∧ cpE f p n k x y c = 120 := ⟨if_pos h, if_pos h⟩
theorem cp_own (h : 0 ≤ c.m ∧ c.m < 4) : cpB f p n k x y c = predB f k x y c.m ∧ cpE f p n k x y c = predE f k x y c.m := by
  have n1 : ¬ (c.m < 0 ∨ 6 < c.m) := by omega
  exact ⟨(if_neg n1).trans (if_pos h.2), (if_neg n1).trans (if_pos h.2)⟩
theorem cp_next (h : c.m = 5) : cpB f p n k x y c = mvB n k x y c.nx c.ny ∧ cpE f p n k x y c = mvE n k x y c.nx c.ny := by
  have n1 : ¬ (c.m < 0 ∨ 6 < c.m) := by omega
  have n2 : ¬ c.m < 4 := by omega
  exact ⟨(if_neg n1).trans ((if_neg n2).trans (if_pos h)), (if_neg n1).trans ((if_neg n2).trans (if_pos h))⟩
theorem cp_past (h : c.m = 4) : cpB f p n k x y c = mvB p k x y c.px c.py ∧ cpE f p n k x y c = mvE p k x y c.px c.py := by
  have n1 : ¬ (c.m < 0 ∨ 6 < c.m) := by omega
  have n2 : ¬ c.m < 4 := by omega
  have n3 : ¬ c.m = 5 := by omega
  exact ⟨(if_neg n1).trans ((if_neg n2).trans ((if_neg n3).trans (if_pos (Or.inr h)))), (if_neg n1).trans ((if_neg n2).trans ((if_neg n3).trans (if_pos (Or.inr h))))⟩
theorem cp_both1 (h : c.m = 6) (e : mvE p k x y c.px c.py ≠ 0) : cpB f p n k x y c = mvB p k x y c.px c.py ∧ cpE f p n k x y c = mvE p k x y c.px c.py := by
  have n1 : ¬ (c.m < 0 ∨ 6 < c.m) := by omega
  have n2 : ¬ c.m < 4 := by omega
  have n3 : ¬ c.m = 5 := by omega
  exact ⟨(if_neg n1).trans ((if_neg n2).trans ((if_neg n3).trans (if_pos (Or.inl e)))), (if_neg n1).trans ((if_neg n2).trans ((if_neg n3).trans (if_pos (Or.inl e))))⟩
theorem cp_both2 (h : c.m = 6) (e : mvE p k x y c.px c.py = 0) (e2 : mvE n k x y c.nx c.ny ≠ 0) : cpB f p n k x y c = (fun _ => 0) ∧ cpE f p n k x y c = mvE n k x y c.nx c.ny := by
  have n1 : ¬ (c.m < 0 ∨ 6 < c.m) := by omega
  have n2 : ¬ c.m < 4 := by omega
  have n3 : ¬ c.m = 5 := by omega
  have n4 : ¬ (mvE p k x y c.px c.py ≠ 0 ∨ c.m = 4) := fun z => z.elim (fun z => z e) (fun z => by omega)
  exact ⟨(if_neg n1).trans ((if_neg n2).trans ((if_neg n3).trans ((if_neg n4).trans (if_pos e2)))), (if_neg n1).trans ((if_neg n2).trans ((if_neg n3).trans ((if_neg n4).trans (if_pos e2))))⟩
theorem cp_both (h : c.m = 6) (e : mvE p k x y c.px c.py = 0) (e2 : mvE n k x y c.nx c.ny = 0) : cpB f p n k x y c = bothB (mvB p k x y c.px c.py) (mvB n k x y c.nx c.ny) ∧ cpE f p n k x y c = 0 := by
  have n1 : ¬ (c.m < 0 ∨ 6 < c.m) := by omega
  have n2 : ¬ c.m < 4 := by omega
  have n3 : ¬ c.m = 5 := by omega
  have n4 : ¬ (mvE p k x y c.px c.py ≠ 0 ∨ c.m = 4) := fun z => z.elim (fun z => z e) (fun z => by omega)
  exact ⟨(if_neg n1).trans ((if_neg n2).trans ((if_neg n3).trans ((if_neg n4).trans (if_neg (fun z => z e2))))), (if_neg n1).trans ((if_neg n2).trans ((if_neg n3).trans ((if_neg n4).trans (if_neg (fun z => z e2)))))⟩
theorem cp_pastE (h : c.m = 4 ∨ c.m = 6) (e : mvE p k x y c.px c.py ≠ 0) : cpB f p n k x y c = (fun _ => 0) ∧ cpE f p n k x y c = mvE p k x y c.px c.py := by
  rcases h with h | h
  · exact ⟨(cp_past h).1.trans (mv_err e), (cp_past h).2⟩
  · exact ⟨(cp_both1 h e).1.trans (mv_err e), (cp_both1 h e).2⟩
theorem cp_nextE (h : c.m = 5) (e : mvE n k x y c.nx c.ny ≠ 0) : cpB f p n k x y c = (fun _ => 0) ∧ cpE f p n k x y c = mvE n k x y c.nx c.ny :=
  ⟨(cp_next h).1.trans (mv_err e), (cp_next h).2⟩
end
theorem past_t {m : Int} (h : pastB m = true) : m = 4 ∨ m = 6 := by unfold pastB at h; simpa using h
theorem past_f {m : Int} (h : pastB m = false) : m ≠ 4 ∧ m ≠ 6 := by unfold pastB at h; simpa using h
theorem next_t {m : Int} (h : nextB m = true) : m = 5 ∨ m = 6 := by unfold nextB at h; simpa using h
theorem next_f {m : Int} (h : nextB m = false) : m ≠ 5 ∧ m ≠ 6 := by unfold nextB at h; simpa using h

def c8M (a : Nat → Int) : Nat → Int := fun i => min (max (a i) 0) 255
def buB (b : Nat → Int) (l : Nat → Int) (q : Int) : Nat → Int := if ern q = 0 then c8M (moreB b (backB (upB l q))) else fun _ => 0
theorem bu_yes {b l : Nat → Int} {q : Int} (h : ern q = 0) : buB b l q = c8M (moreB b (backB (upB l q))) := if_pos h
theorem bu_no {b l : Nat → Int} {q : Int} (h : ern q ≠ 0) : buB b l q = fun _ => 0 := if_neg h
structure ChOk (k : Int) (c : Ch) : Prop where
  m : 0 ≤ c.m ∧ c.m ≤ mostK k
  past : pastB c.m = false → c.px = 0 ∧ c.py = 0
  next : nextB c.m = false → c.nx = 0 ∧ c.ny = 0
  far : ∀ i, i < 16 → -1048576 ≤ c.b i ∧ c.b i ≤ 1048576
  p : vecOk c.px c.py
  n : vecOk c.nx c.ny
theorem sameVec_eq {a b c d : Int} (h : sameVec a b c d = true) : a = c ∧ b = d := by unfold sameVec at h; simpa using h
theorem far_no {b : Nat → Int} : ∀ n, farCh b n = false → ∀ i, i < n → -1048576 ≤ b i ∧ b i ≤ 1048576 := by
  intro n
  induction n with
  | zero => intro _ i hi; omega
  | succ n ih =>
    intro h i hi
    unfold farCh at h
    obtain ⟨h1, h2⟩ := Bool.or_eq_false_iff.1 h
    by_cases e : i = n
    · subst e; have := of_decide_eq_false h2; omega
    · exact ih h1 i (by omega)
theorem ch_ok {k : Int} {c : Ch} (h : chE k c = 0) : ChOk k c := by
  unfold chE at h
  split at h
  · cases h
  · rename_i hb
    split at h
    · cases h
    · rename_i hf
      split at h
      · rename_i hv
        have hf' : farCh c.b 16 = false := by simpa using hf
        refine ⟨?_, fun z => ?_, fun z => ?_, far_no 16 hf', hv.1, hv.2⟩
        · unfold badM at hb; omega
        · have : ¬ (sameVec c.px c.py 0 0 = false) := fun e => hb (Or.inr (Or.inr (Or.inl ⟨z, e⟩)))
          exact sameVec_eq (by simpa using this)
        · have : ¬ (sameVec c.nx c.ny 0 0 = false) := fun e => hb (Or.inr (Or.inr (Or.inr ⟨z, e⟩)))
          exact sameVec_eq (by simpa using this)
      · cases h
theorem mostK_le (k : Int) : mostK k ≤ 6 := by unfold mostK; split; omega; split; omega; split <;> omega
theorem stV_back {has : Bool} {l : List Nat} {a : Nat} {X Y gx gy : Int} (hv : vecOk X Y) (h0 : has = false → X = 0 ∧ Y = 0) (hb : BitsAt l a (if has = true then vecBits X Y gx gy else [])) :
    stV has l gx gy (some a) = (X, Y, 0, some (a + (if has = true then vecBits X Y gx gy else []).length)) := by
  cases has with
  | true =>
    rw [if_pos rfl] at hb
    obtain ⟨h1, h2, h3, h4⟩ := vr_back l a X Y gx gy hv hb
    rw [stV_yes rfl, h1, h2, h3, h4, if_pos rfl]
  | false =>
    obtain ⟨rfl, rfl⟩ := h0 rfl
    rw [stV_no rfl, if_neg Bool.false_ne_true]; rfl
theorem ch_back {l : List Nat} {a : Nat} {k : Int} {c : Ch} {ax ay bx yy : Int} (hk : chE k c = 0) (hb : BitsAt l a (chBits c ax ay bx yy)) :
    ∃ d, rdCh l k ax ay bx yy (some a) = (d, 0, some (a + (chBits c ax ay bx yy).length)) ∧ sameCh d c = true := by
  have ho := ch_ok hk
  have hmk := mostK_le k
  unfold chBits at hb
  have hw := wholeRd_bits l a c.m (mostK k) ho.m.1 (by have := ho.m; omega) ho.m.2 hb.left.left.left
  have hp := stV_back (has := pastB c.m) ho.p ho.past (show BitsAt l (a + (wholeBits c.m).length) (pastBits c ax ay) from hb.left.left.right)
  have hn := stV_back (has := nextB c.m) ho.n ho.next (show BitsAt l (a + (wholeBits c.m ++ pastBits c ax ay).length) (nextBits c bx yy) from hb.left.right)
  obtain ⟨d, hs, hd⟩ := scan_back l _ c.b hb.right
  refine ⟨⟨c.m, c.px, c.py, c.nx, c.ny, d⟩, ?_, ?_⟩
  · have e1 : rdStep (wholeRd l (mostK k)) (some a) = (c.m, some (a + (wholeBits c.m).length)) := by simp only [rdStep, hw]
    unfold rdCh; rw [e1]; unfold rd1; rw [if_neg (by simp)]
    show rd2 l c.m bx yy (stV (pastB c.m) l ax ay (some (a + (wholeBits c.m).length))) = _
    rw [hp]
    unfold rd2; rw [if_pos rfl]
    rw [show a + (wholeBits c.m).length + (if pastB c.m = true then vecBits c.px c.py ax ay else []).length = a + (wholeBits c.m ++ pastBits c ax ay).length from by rw [List.length_append]; unfold pastBits; omega, hn]
    unfold rd3; rw [if_pos rfl]
    rw [show a + (wholeBits c.m ++ pastBits c ax ay).length + (if nextB c.m = true then vecBits c.nx c.ny bx yy else []).length = a + (wholeBits c.m ++ pastBits c ax ay ++ nextBits c bx yy).length from by rw [List.length_append (bs := nextBits c bx yy)]; unfold nextBits; omega]
    unfold rd4; simp only; rw [hs]; simp only [if_true]
    rw [show a + (wholeBits c.m ++ pastBits c ax ay ++ nextBits c bx yy).length + (scanBits c.b).length = a + (chBits c ax ay bx yy).length from by unfold chBits; rw [List.length_append (bs := scanBits c.b)]; omega]
  · unfold sameCh
    rw [sameI_self, sameI_self, decide_eq_true rfl, sameB_true (fun i hi => (hd i hi).trans (cl_id _ _ (ho.far i hi).1 (ho.far i hi).2))]; rfl
/-- Where a reader stands that stays where there is no choice. -/
def rdChT (l : List Nat) (k ax ay bx yy : Int) (st : Option Nat) : Option Nat := if (rdCh l k ax ay bx yy st).2.1 = 0 then (rdCh l k ax ay bx yy st).2.2 else st
theorem rdStep_at (l : List Nat) (n : Int) (a : Nat) : rdStep (wholeRd l n) (some a) = match wholeAt l a with
    | some (v, a') => if n < v then (0, none) else (v, some a')
    | none => (0, none) := by
  cases hq : wholeAt l a with
  | none => simp [rdStep, wholeRd, hq]
  | some x =>
    obtain ⟨v, a'⟩ := x
    by_cases h : n < v
    · simp [rdStep, wholeRd, hq, h]
    · simp [rdStep, wholeRd, hq, h]
theorem rdStep_most {l : List Nat} {m n : Int} (h : m ≤ n) (st : Option Nat) :
    rdStep (wholeRd l m) st = if (rdStep (wholeRd l n) st).2.isNone = true ∨ m < (rdStep (wholeRd l n) st).1 then (0, none) else rdStep (wholeRd l n) st := by
  cases st with
  | none => rfl
  | some a =>
    rw [rdStep_at l m a, rdStep_at l n a]
    cases wholeAt l a with
    | none => rfl
    | some x =>
      obtain ⟨v, a'⟩ := x
      simp only
      by_cases h1 : n < v
      · rw [if_pos h1, if_pos (show m < v by omega)]; exact (if_pos (Or.inl rfl)).symm
      · rw [if_neg h1]
        by_cases h2 : m < v
        · rw [if_pos h2, if_pos (Or.inr h2)]
        · rw [if_neg h2, if_neg (by rintro (z | z); cases z; exact h2 z)]
theorem chBits_short (c : Ch) (ax ay bx yy : Int) : (chBits c ax ay bx yy).length ≤ 2400 := by
  have h1 := vecBits_short c.px c.py ax ay
  have h2 := vecBits_short c.nx c.ny bx yy
  have h3 := wholeBits_short c.m
  have h4 := scanBits_length c.b
  have h5 : (pastBits c ax ay).length ≤ 128 := by unfold pastBits; split; omega; simp
  have h6 : (nextBits c bx yy).length ≤ 128 := by unfold nextBits; split; omega; simp
  unfold chBits; rw [List.length_append, List.length_append, List.length_append]; omega
theorem wrCh_short (k : Int) (c : Ch) (ax ay bx yy : Int) : (wrCh k c ax ay bx yy).length ≤ 2400 := by
  unfold wrCh; split
  · exact chBits_short _ _ _ _ _
  · simp
end Go.Proofs.YtdcbabgcbkdlhaaGreatDoor
set_option maxRecDepth 100000
namespace Go.Proofs.YtdcbabgcbkdlhaaGreatDoor
open Go.RowKit

def Rdi.ty (e : TypeId) : Prop := e = 72 ∨ e = 5
instance (e : TypeId) : Decidable (Rdi.ty e) := by unfold Rdi.ty; infer_instance
theorem Rdi.at {w : World} {T : Nat → Prop} {p : Nat} {l : List Nat} {st : Option Nat} (h : Rdi w T p l st) (x : Nat) (hx : T x) : ∃ c e f, w.heap[x]? = some (.cells c e f) ∧ Rdi.ty e := by
  obtain ⟨_, g, rfl, h⟩ := h
  have hr : ∃ a b, RdAt w p g l a b := by
    cases st with
    | none => obtain ⟨a, h⟩ := h; exact ⟨a, _, h⟩
    | some a => exact ⟨a, _, h.2⟩
  obtain ⟨a, b, h1, h2, _⟩ := hr
  rcases hx with rfl | rfl
  · exact ⟨_, _, _, h1, .inl rfl⟩
  · exact ⟨_, _, _, h2, .inr rfl⟩
end Go.Proofs.YtdcbabgcbkdlhaaGreatDoor
set_option maxRecDepth 100000
namespace Go.Proofs.YtdcbabgcbkdlhaaGreatDoor
open Go.RowKit

/-- A kind of row: the slice's type, its elements', how many cells each has, the cells of an element, the one that is there when it is made. -/
structure RowT (α : Type) where
  t : TypeId
  e : TypeId
  k : Nat
  by_ : Nat
  enc : α → List Value
  d : α
  z : Value
class RowT.Ok {α : Type} (r : RowT α) : Prop where
  slice : Tryz.prog.underlying r.t = some (.slice r.e)
  info : (Tryz.prog.info? r.e).map (fun i => (i.zero, i.size, i.bytes)) = some (some r.z, r.k, r.by_)
  cells : r.z.cells.toList = r.enc r.d
  pos : 0 < r.k
  len : ∀ x, (r.enc x).length = r.k
  one : ∀ x, ∀ u ∈ r.enc x, u.oneCell' = true
  small : r.by_ ≤ 192

section
variable {α : Type} {r : RowT α}
theorem flat_len [h : r.Ok] (l : List α) : (l.flatMap r.enc).length = l.length * r.k := by
  induction l with
  | nil => simp
  | cons x l ih => rw [List.flatMap_cons, List.length_append, ih, h.len, List.length_cons, Nat.add_mul]; omega
/-- A row that can be read. -/
def RoA (r : RowT α) (w : World) (T : Nat → Prop) (v : Value) (l : List α) : Prop :=
  ∃ a cap, v = .slice a l.length cap ∧ l.length ≤ cap ∧ cap ≤ maxLen ∧ (a = none → cap = 0) ∧ Live w T ∧
    (0 < l.length → ∃ b off, a = some ⟨b, off, none⟩ ∧ T b ∧ ∀ j u, (l.flatMap r.enc)[j]? = some u → w.cell? ⟨b, off + j, none⟩ = some u)
theorem RoA.nil (r : RowT α) (w : World) : RoA r w noB (.slice none 0 0) [] := ⟨none, 0, rfl, Nat.le_refl _, by unfold maxLen; omega, fun _ => rfl, fun _ h => h.elim, fun h => absurd h (by simp)⟩
theorem RoA.live {w : World} {T : Nat → Prop} {v : Value} {l : List α} (h : RoA r w T v l) : Live w T := by obtain ⟨_, _, _, _, _, _, h, _⟩ := h; exact h
theorem RoA.all {S : Nat → Prop} {w w' : World} {T : Nat → Prop} {v : Value} {l : List α} (h : RoA r w T v l) (k : Kept S w w') (ha : Apart T S) : RoA r w' T v l := by
  obtain ⟨a, cap, rfl, h1, h2, h3, hL, hc⟩ := h
  refine ⟨a, cap, rfl, h1, h2, h3, hL.mono k, fun hp => ?_⟩
  obtain ⟨b, off, rfl, hb, hcell⟩ := hc hp
  exact ⟨b, off, rfl, hb, fun j u hj => (World.cell?_of_block (k.block b (hL b hb) (ha b hb))).trans (hcell j u hj)⟩
theorem RoA.row {A B : World} {row : Option Nat} {n : Nat} {T : Nat → Prop} {v : Value} {l : List α} [hk : r.Ok] (h : RoA r A T v l) (hg : A.grownBy B row) (hr : RowNew n A row) : RoA r B T v l := by
  obtain ⟨a, cap, rfl, h1, h2, h3, hL, hc⟩ := h
  have k := kept_row hg
  refine ⟨a, cap, rfl, h1, h2, h3, hL.mono k, fun hp => ?_⟩
  obtain ⟨b, off, rfl, hb, hcell⟩ := hc hp
  have h0 : 0 < (l.flatMap r.enc).length := by rw [flat_len (r := r)]; exact Nat.mul_pos hp hk.pos
  refine ⟨b, off, rfl, hb, fun j u hj => (World.cell?_of_block (k.block b (hL b hb) fun e => ?_)).trans (hcell j u hj)⟩
  obtain ⟨_, o, ho, hn⟩ := hr b e.symm
  have := hcell 0 _ (List.getElem?_eq_getElem h0)
  unfold World.cell? at this
  simp only at this
  rw [ho] at this
  cases o <;> simp_all [Obj.isCells]
theorem RoA.one {w : World} {T : Nat → Prop} {v : Value} {l : List α} (h : RoA r w T v l) : v.oneCell' = true := by obtain ⟨a, cap, rfl, _⟩ := h; rfl
theorem RoA.oneC {w : World} {T : Nat → Prop} {v : Value} {l : List α} (h : RoA r w T v l) : oneC v = true := by obtain ⟨a, cap, rfl, _⟩ := h; rfl
/-- A row of the call's own. -/
def RoO (r : RowT α) (w : World) (T : Nat → Prop) (v : Value) (l : List α) : Prop := w.ownsRow 0 r.e r.k v l.length (l.flatMap r.enc) ∧ ∀ i, T i ↔ v.ownBlock = some i
theorem RoO.nil (r : RowT α) (w : World) : RoO r w noB (.slice none 0 0) [] := ⟨World.ownsRow_nil w 0 r.e r.k, fun i => ⟨fun h => h.elim, fun h => by cases h⟩⟩
theorem RoO.live {w : World} {T : Nat → Prop} {v : Value} {l : List α} (h : RoO r w T v l) : Live w T := fun i hi => (h.1.lt i ((h.2 i).1 hi)).2
theorem RoO.all {S : Nat → Prop} {w w' : World} {T : Nat → Prop} {v : Value} {l : List α} (h : RoO r w T v l) (k : Kept S w w') (ha : Apart T S) : RoO r w' T v l := by
  refine ⟨⟨h.1.1, ?_⟩, h.2⟩
  rcases h.1.2 with hn | ⟨g, cap, cur, rfl, hb, hg, rest⟩
  · exact .inl hn
  · exact .inr ⟨g, cap, cur, rfl, hb, k.at hg (ha g ((h.2 g).2 rfl)), rest⟩
theorem RoO.roa {w : World} {T : Nat → Prop} {v : Value} {l : List α} (h : RoO r w T v l) : RoA r w T v l := by
  have hL := h.live
  rcases h.1.2 with ⟨rfl, h0⟩ | ⟨g, cap, cur, rfl, hb, hg, h1, h2, h3, h4⟩
  · have : l = [] := List.eq_nil_of_length_eq_zero h0
    subst this
    exact ⟨none, 0, rfl, Nat.le_refl _, by unfold maxLen; omega, fun _ => rfl, hL, fun h => absurd h (by simp)⟩
  · refine ⟨some ⟨g, 0, none⟩, cap, rfl, h1, h2, by simp, hL, fun _ => ⟨g, 0, rfl, (h.2 g).2 rfl, fun j u hj => ?_⟩⟩
    have := h.1.cells (g := g) rfl j u hj
    rwa [Addr.add_lit] at this
theorem RoO.cells {w : World} {T : Nat → Prop} {v : Value} {l : List α} (h : RoO r w T v l) : Cells w T := fun i hi => by
  have hv := (h.2 i).1 hi
  rcases h.1.2 with ⟨rfl, _⟩ | ⟨g, cap, cur, rfl, _, hg, _⟩
  · cases hv
  · cases hv; exact ⟨_, hg, rfl⟩
theorem RoO.row {A B : World} {row : Option Nat} {n : Nat} {T : Nat → Prop} {v : Value} {l : List α} (h : RoO r A T v l) (hg : A.grownBy B row) (hr : RowNew n A row) : RoO r B T v l := h.all (kept_row hg) (h.cells.apart hr)
theorem RoO.of {w : World} {v : Value} {l : List α} (h : w.ownsRow 0 r.e r.k v l.length (l.flatMap r.enc)) : RoO r w (fun i => v.ownBlock = some i) v l := ⟨h, fun _ => Iff.rfl⟩
theorem RoO.one {w : World} {T : Nat → Prop} {v : Value} {l : List α} (h : RoO r w T v l) : v.oneCell' = true := h.roa.one
theorem RoO.oneC {w : World} {T : Nat → Prop} {v : Value} {l : List α} (h : RoO r w T v l) : oneC v = true := h.roa.oneC
end


end Go.Proofs.YtdcbabgcbkdlhaaGreatDoor
set_option maxRecDepth 100000
namespace Go.Proofs.YtdcbabgcbkdlhaaGreatDoor
open Go.RowKit

def pairV (a b : Int) : Value := .agg #[.int .i64 a, .int .i64 b]
/-- A struct of two ints. -/
structure TwoInts (K : TypeId) : Prop where
  und : Tryz.prog.underlying K = some (.struct (Tryz.prog.fieldsOf K))
  hel : Tryz.prog.stoodInHeld K = false
  flds : ∃ n0 n1 : String, n0 ≠ "_" ∧ n1 ≠ "_" ∧ (Tryz.prog.fieldsOf K).toList.map (fun f => (f.name, f.type, f.offset)) = [(n0, 3, 0), (n1, 3, 1)]
theorem TwoInts.split {K : TypeId} (h : TwoInts K) : ∃ f0 f1 : Field, Tryz.prog.fieldsOf K = #[f0, f1] ∧ f0.name ≠ "_" ∧ f1.name ≠ "_" ∧ f0.type = 3 ∧ f1.type = 3 ∧ f0.offset = 0 ∧ f1.offset = 1 := by
  obtain ⟨n0, n1, h0, h1, hf⟩ := h.flds
  have hlen : (Tryz.prog.fieldsOf K).toList.length = 2 := by simpa using congrArg List.length hf
  match hq : (Tryz.prog.fieldsOf K).toList, hlen with
  | [f0, f1], _ =>
    rw [hq] at hf
    simp only [List.map_cons, List.map_nil, List.cons.injEq, Prod.mk.injEq, and_true] at hf
    obtain ⟨⟨e0, t0, o0⟩, ⟨e1, t1, o1⟩⟩ := hf
    exact ⟨f0, f1, by rw [← hq], by rw [e0]; exact h0, by rw [e1]; exact h1, t0, t1, o0, o1⟩
/-- A map's entries, as they stand. -/
def entV (es : List MapEntry) (L : List ((Int × Int) × Int × Int)) : Prop := es.map (fun e => (e.key, e.val)) = L.map fun q => (pairV q.1.1 q.1.2, pairV q.2.1 q.2.2)
abbrev Ents := List ((Int × Int) × Int × Int)
def lookL (a b : Int) : Ents → Int × Int
  | [] => (0, 0)
  | q :: r => if q.1 = (a, b) then q.2 else lookL a b r
/-- A map in memory, and what it tells of each place. -/
def Mpf (w : World) (r : Nat) (g : Int → Int → Int × Int) : Prop := ∃ es clock L, w.heap[r]? = some (.map es clock) ∧ entV es.toList L ∧ (L.map (·.1)).Nodup ∧ ∀ a b, lookL a b L = g a b
theorem Mpf.lt {w : World} {r : Nat} {g : Int → Int → Int × Int} (h : Mpf w r g) : r < w.heap.size := by obtain ⟨_, _, _, h, _⟩ := h; exact lt_of_heap h
theorem Mpf.all {S : Nat → Prop} {w w' : World} {r : Nat} {g : Int → Int → Int × Int} (h : Mpf w r g) (k : Kept S w w') (hn : ¬ S r) : Mpf w' r g := by
  obtain ⟨es, clock, L, h1, h2⟩ := h; exact ⟨es, clock, L, k.at h1 hn, h2⟩
theorem Mpf.congr {w : World} {r : Nat} {g g' : Int → Int → Int × Int} (h : Mpf w r g) (e : ∀ a b, g a b = g' a b) : Mpf w r g' := by
  obtain ⟨es, clock, L, h1, h2, h3, h4⟩ := h; exact ⟨es, clock, L, h1, h2, h3, fun a b => (h4 a b).trans (e a b)⟩
end Go.Proofs.YtdcbabgcbkdlhaaGreatDoor
set_option maxRecDepth 100000
namespace Go.Proofs.YtdcbabgcbkdlhaaGreatDoor
open Go.RowKit

theorem stcT_reader : StcT Tryz.prog 72 3 := ⟨_, Tryz.underlying72, rfl, by kernel_rfl⟩
/-- A block of bytes that are read. -/
def Rby (w : World) (T : Nat → Prop) (g : Nat) (l : List Nat) : Prop := T = onB g ∧ w.heap[g]? = some (.cells (byteVals l).toArray 5 (0, 0))
theorem Rby.live {w : World} {T : Nat → Prop} {g : Nat} {l : List Nat} (h : Rby w T g l) : Live w T := by
  obtain ⟨rfl, h⟩ := h; exact onB_live (lt_of_heap h)
theorem Rby.all {S : Nat → Prop} {w w' : World} {T : Nat → Prop} {g : Nat} {l : List Nat} (h : Rby w T g l) (k : Kept S w w') (ha : Apart T S) : Rby w' T g l := by
  obtain ⟨rfl, h⟩ := h; exact ⟨rfl, k.at h (ha g rfl)⟩
def okR (l : List Nat) (st : Option Nat) (a : Nat) (b : Bool) : Prop := match st with
  | some n => n ≤ 8 * l.length ∧ a = n ∧ b = false
  | none => b = true
theorem rdis_open {w : World} {p g : Nat} {l : List Nat} {st : Option Nat} (h : RdIs w p g l st) : ∃ (a : Nat) (b : Bool), okR l st a b ∧ Stc w p 72 [.slice (some ⟨g, 0, none⟩) l.length l.length, .int .i64 (a : Int), .bool b] ∧ Rby w (onB g) g l ∧ Apart (onB p) (onB g) := by
  cases st with
  | none =>
    obtain ⟨a, h⟩ := h
    exact ⟨a, true, rfl, h.1, ⟨rfl, h.2.1⟩, fun i h1 h2 => h.2.2 (h2.symm.trans h1)⟩
  | some n => exact ⟨n, false, ⟨h.1, rfl, rfl⟩, h.2.1, ⟨rfl, h.2.2.1⟩, fun i h1 h2 => h.2.2.2 (h2.symm.trans h1)⟩
theorem rdis_close {w : World} {p g : Nat} {l : List Nat} {st : Option Nat} {a : Nat} {b : Bool} (ho : okR l st a b) (h1 : Stc w p 72 [.slice (some ⟨g, 0, none⟩) l.length l.length, .int .i64 (a : Int), .bool b]) (h2 : Rby w (onB g) g l) (ha : Apart (onB p) (onB g)) : RdIs w p g l st := by
  have hne : g ≠ p := fun e => ha g e rfl
  cases st with
  | none => cases ho; exact ⟨a, h1, h2.2, hne⟩
  | some n => obtain ⟨h3, rfl, rfl⟩ := ho; exact ⟨h3, h1, h2.2, hne⟩
theorem rdi_open {w : World} {T : Nat → Prop} {p : Nat} {l : List Nat} {st : Option Nat} (h : Rdi w T p l st) : ∃ (g a : Nat) (b : Bool), Fair l ∧ (∀ i, T i ↔ (onB p i ∨ onB g i)) ∧ okR l st a b ∧ Stc w p 72 [.slice (some ⟨g, 0, none⟩) l.length l.length, .int .i64 (a : Int), .bool b] ∧ Rby w (onB g) g l ∧ Apart (onB p) (onB g) := by
  obtain ⟨hf, g, rfl, h⟩ := h
  obtain ⟨a, b, h1, h2, h3, h4⟩ := rdis_open h
  exact ⟨g, a, b, hf, fun i => Iff.rfl, h1, h2, h3, h4⟩
theorem rdi_close {w : World} {p g : Nat} {l : List Nat} {st : Option Nat} {a : Nat} {b : Bool} (hf : Fair l) (ho : okR l st a b) (h1 : Stc w p 72 [.slice (some ⟨g, 0, none⟩) l.length l.length, .int .i64 (a : Int), .bool b]) (h2 : Rby w (onB g) g l) (ha : Apart (onB p) (onB g)) : Rdi w (fun i => onB p i ∨ onB g i) p l st := ⟨hf, g, rfl, rdis_close ho h1 h2 ha⟩
/-- At q a copy of the reader at p, that goes on by itself. -/
def Rd2 (w : World) (T : Nat → Prop) (q p : Nat) (l : List Nat) (st1 st : Option Nat) : Prop := Fair l ∧ ∃ g, (∀ i, T i ↔ (onB p i ∨ onB q i ∨ onB g i)) ∧ q ≠ p ∧ RdIs w p g l st1 ∧ RdIs w q g l st
theorem Rd2.live {w : World} {T : Nat → Prop} {q p : Nat} {l : List Nat} {st1 st : Option Nat} (h : Rd2 w T q p l st1 st) : Live w T := by
  obtain ⟨_, g, hT, _, h1, h2⟩ := h
  intro i hi
  rcases (hT i).1 hi with e | e | e <;> cases e
  · exact h1.lt.1
  · exact h2.lt.1
  · exact h1.lt.2.1
theorem Rd2.all {S : Nat → Prop} {w w' : World} {T : Nat → Prop} {q p : Nat} {l : List Nat} {st1 st : Option Nat} (h : Rd2 w T q p l st1 st) (k : Kept S w w') (ha : Apart T S) : Rd2 w' T q p l st1 st := by
  obtain ⟨hf, g, hT, hn, h1, h2⟩ := h
  have np := ha p ((hT p).2 (.inl rfl))
  have nq := ha q ((hT q).2 (.inr (.inl rfl)))
  have ng := ha g ((hT g).2 (.inr (.inr rfl)))
  exact ⟨hf, g, hT, hn, h1.kept k np ng, h2.kept k nq ng⟩
/-- Where a reader stands behind a vector: where it stood, if there is none. -/
def vrT (l : List Nat) (gx gy : Int) (s : Option Nat) : Option Nat := if rdOk l gx gy s then vrS l s else s
theorem vrT_ok {l : List Nat} {gx gy : Int} {s : Option Nat} (h : vrE l gx gy s = 0) : vrT l gx gy s = vrS l s := by
  unfold vrE at h; unfold vrT
  split at h
  · rename_i h'; rw [if_pos h']
  · cases h
set_option maxHeartbeats 4000000 in
set_option maxRecDepth 100000 in
theorem vt_clamped (n : Int) (w0 : World) :
  Calls Tryz.prog 95 #[.int .i64 (n)] w0 fun e w' => e = .returned (.int .i64 (cl 64 n)) ∧ Kept (fun _ => False) w0 w' := by
 refine calls_wq (args := [.int .i64 (n)]) 6 Tryz.func95 rfl rfl (Nat.le_of_ble_eq_true rfl) ?_
 have K0 := Kept.refl (fun _ => False) w0
 refine wq_seq ?_
 refine wq_region ?_
 refine wl_v (.int .i64 (0)) rfl rfl (y_asg rfl rfl ⟨rfl, rfl⟩) ?_
 refine wl_nil fun F1 hF2 => ?_
 have s3 : F1 0 = .int .i64 (n) := (hF2 0).trans rfl
 have s4 : F1 6 = undef := (hF2 6).trans rfl
 clear hF2
 refine then_normal ?_
 refine wq_seq ?_
 refine wq_region ?_
 refine wl_v (.int .i64 (n)) rfl rfl (y_mov rfl s3 ⟨rfl, rfl⟩) ?_
 refine wl_v (.int .i64 (min (n) (64))) rfl rfl (y_minR rfl rfl rfl rfl ⟨rfl, rfl⟩) ?_
 refine wl_v (.int .i64 (cl 64 n)) rfl rfl (y_maxR rfl rfl rfl ((by unfold cl; omega)) ⟨rfl, rfl⟩) ?_
 refine wl_v (.int .i64 (cl 64 n)) rfl rfl (y_asg rfl rfl ⟨rfl, rfl⟩) ?_
 refine wl_nil fun F5 hF6 => ?_
 have s7 := (hF6 6).trans s4
 have s8 : F5 2 = .int .i64 (cl 64 n) := (hF6 2).trans rfl
 clear hF6
 refine then_normal ?_
 refine wq_ret ?_
 exact end_tmp (v := .int .i64 (cl 64 n)) s7 rfl rfl s8 ⟨rfl, K0⟩
set_option maxHeartbeats 4000000 in
set_option maxRecDepth 100000 in
theorem vt_near (X Y : Int) (w0 : World) :
  Calls Tryz.prog 65 #[.agg #[.int .i64 (X), .int .i64 (Y)]] w0 fun e w' => e = .returned (.agg #[.int .i64 (cl 64 X), .int .i64 (cl 64 Y)]) ∧ Kept (fun _ => False) w0 w' := by
 refine calls_wq (args := [.agg #[.int .i64 (X), .int .i64 (Y)]]) 10 Tryz.func65 rfl rfl (Nat.le_of_ble_eq_true rfl) ?_
 have K0 := Kept.refl (fun _ => False) w0
 refine wq_seq ?_
 refine wq_region ?_
 refine wl_box_stc (vs := [.int .i64 (X), .int .i64 (Y)]) rfl rfl rfl rfl fun p1 w2 B4 g5 k3 => ?_
 have K7 := K0.trans k3 (fun _ _ x => x.elim)
 refine wl_alloc_stc (n := 2) (vs := [.int .i64 (0), .int .i64 (0)]) rfl rfl rfl (by kernel_rfl) fun p8 w9 B11 g12 k10 => ?_
 have gr13 : Grew w0 noB (onB p8) := Grew.new K7 g12
 have B15 := B4.all k10 id
 have K16 := K7.trans k10 (fun _ _ x => x.elim)
 refine wl_nil fun F17 hF18 => ?_
 have s19 : F17 10 = undef := (hF18 10).trans rfl
 have s20 : F17 1 = .pointer (some ⟨p1, 0, none⟩) := (hF18 1).trans rfl
 have s21 : F17 2 = .pointer (some ⟨p8, 0, none⟩) := (hF18 2).trans rfl
 clear hF18
 refine then_normal ?_
 refine wq_seq ?_
 refine wq_tail 7 [some 3, some 4, some 5, some 6, some 7, some 8, some 9] [Pd.eq (.pointer (some ⟨p1, 0, none⟩)), Pd.eq (.int .i64 (X)), Pd.eq (.int .i64 (cl 64 (X))), Pd.eq (.pointer (some ⟨p1, 1, none⟩)), Pd.eq (.int .i64 (Y)), Pd.eq (.int .i64 (cl 64 (Y))), Pd.eq (.agg #[.int .i64 (cl 64 (X)), .int .i64 (cl 64 (Y))])] (by kernel_rfl) (by kernel_rfl) (by kernel_rfl) ?_ ?_
 ·refine stepsF_cons ?_ ?_
  ·refine StepF.one rfl fun F_ w_ hR hout hD => ?_
   exact (y_fieldR (n := 1) rfl ((hout 1 rfl (by decide)).trans s20) Tryz.underlying27 rfl (by kernel_rfl) (by decide) rfl ⟨rfl, Kept.refl _ _⟩)
  refine stepsF_cons ?_ ?_
  ·refine StepF.one rfl fun F_ w_ hR hout hD => ?_
   have g3 : F_ 3 = .pointer (some ⟨p1, 0, none⟩) := (hD.get 0 rfl rfl rfl)
   exact (y_ld_stc rfl g3 Tryz.underlying3 (B15.all hR id) rfl rfl ⟨rfl, Kept.refl _ _⟩)
  refine stepsF_cons ?_ ?_
  ·refine StepF.one rfl fun F_ w_ hR hout hD => ?_
   have g4 : F_ 4 = .int .i64 (X) := (hD.get 0 rfl rfl rfl)
   exact (y_cs rfl rfl rfl (fun _ _ => by kernel_rfl) (ev_func _) (vsC g4 vsN) (vt_clamped (X)  _   ) (fun e_ w_ h_ => ⟨_, h_.1, rfl, h_.2⟩))
  refine stepsF_cons ?_ ?_
  ·refine StepF.one rfl fun F_ w_ hR hout hD => ?_
   exact (y_fieldR (n := 1) rfl ((hout 1 rfl (by decide)).trans s20) Tryz.underlying27 rfl (by kernel_rfl) (by decide) rfl ⟨rfl, Kept.refl _ _⟩)
  refine stepsF_cons ?_ ?_
  ·refine StepF.one rfl fun F_ w_ hR hout hD => ?_
   have g6 : F_ 6 = .pointer (some ⟨p1, 1, none⟩) := (hD.get 0 rfl rfl rfl)
   exact (y_ld_stc rfl g6 Tryz.underlying3 (B15.all hR id) rfl rfl ⟨rfl, Kept.refl _ _⟩)
  refine stepsF_cons ?_ ?_
  ·refine StepF.one rfl fun F_ w_ hR hout hD => ?_
   have g7 : F_ 7 = .int .i64 (Y) := (hD.get 0 rfl rfl rfl)
   exact (y_cs rfl rfl rfl (fun _ _ => by kernel_rfl) (ev_func _) (vsC g7 vsN) (vt_clamped (Y)  _   ) (fun e_ w_ h_ => ⟨_, h_.1, rfl, h_.2⟩))
  refine stepsF_cons ?_ ?_
  ·refine StepF.one rfl fun F_ w_ hR hout hD => ?_
   have g5 : F_ 5 = .int .i64 (cl 64 (X)) := (hD.get 0 rfl rfl rfl)
   have g8 : F_ 8 = .int .i64 (cl 64 (Y)) := (hD.get 1 rfl rfl rfl)
   exact (y_buildL (l' := [(0, .int .i64 (cl 64 (X))), (1, .int .i64 (cl 64 (Y)))]) (cells := #[.int .i64 (cl 64 (X)), .int .i64 (cl 64 (Y))]) rfl (bpC g5 (bpC g8 bpN)) (by kernel_rfl) rfl ⟨rfl, Kept.refl _ _⟩)
  exact stepsF_nil
 intro v22 F23 w24 k25 G26 hF27
 have B30 := B11.all k25 id
 have K31 := K16.trans k25 (fun _ _ x => x.elim)
 have s32 := (hF27 10).trans s19
 have s33 := (hF27 2).trans s21
 have s34 : F23 9 = .agg #[.int .i64 (cl 64 (X)), .int .i64 (cl 64 (Y))] := (hF27 9).trans (G26 6 (by decide))
 clear G26 hF27
 refine wl_store_stc (us := [.int .i64 (cl 64 (X)), .int .i64 (cl 64 (Y))]) stcT_vector rfl rfl rfl s33 s34 B30 rfl (oneI rfl (oneI rfl oneN)) fun w35 B36 k37 => ?_
 have K39 := K31.trans k37 (Grew.ok (S := fun _ => False) gr13 noB_le)
 refine wl_nil fun F40 hF41 => ?_
 have s42 := (hF41 10).trans s32
 have s43 := (hF41 2).trans s33
 clear hF41
 refine then_normal ?_
 refine wq_ret ?_
 exact end_stc (vs := [.int .i64 (cl 64 (X)), .int .i64 (cl 64 (Y))]) stcT_vector s42 rfl rfl s43 B36 ⟨rfl, K39⟩
set_option maxHeartbeats 4000000 in
set_option maxRecDepth 100000 in
theorem vt_write (p : Nat) (bs : List Bool) (X Y A B : Int) (T_w : Nat → Prop) (w0 : World) (hm : bs.length + 200 < 1099511627776) (h_w : Wri w0 T_w p (bs)) :
  Calls Tryz.prog 30 #[.pointer (some ⟨p, 0, none⟩), .agg #[.int .i64 (X), .int .i64 (Y)], .agg #[.int .i64 (A), .int .i64 (B)]] w0 fun e w' => ∃ (T_w' : Nat → Prop), e = .returned (.tuple #[]) ∧ Kept (T_w) w0 w' ∧ (Wri w' T_w' p (bs ++ vecBits X Y A B) ∧ Grew w0 T_w T_w') := by
 refine calls_wq (args := [.pointer (some ⟨p, 0, none⟩), .agg #[.int .i64 (X), .int .i64 (Y)], .agg #[.int .i64 (A), .int .i64 (B)]]) 24 Tryz.func30 rfl rfl (Nat.le_of_ble_eq_true rfl) ?_
 have K0 := Kept.refl (T_w) w0
 have h1 := cl64 X
 have h2 := cl64 Y
 have h3 := cl64 A
 have h4 := cl64 B
 have h5 := signedBits_short (cl 64 X - cl 64 A)
 have g_w := Grew.refl w0 T_w
 refine wq_seq ?_
 refine wq_region ?_
 refine wl_box_stc (vs := [.int .i64 (X), .int .i64 (Y)]) rfl rfl rfl rfl fun p1 w2 B4 g5 k3 => ?_
 have gr6 : Grew w0 noB (onB p1) := Grew.new K0 g5
 have ap7 : Apart (onB p1) (T_w) := Apart.new g5 (h_w).live
 have B8 := h_w.all k3 Apart.none
 have K9 := K0.trans k3 (fun _ _ x => x.elim)
 refine wl_box_stc (vs := [.int .i64 (A), .int .i64 (B)]) rfl rfl rfl rfl fun p10 w11 B13 g14 k12 => ?_
 have gr15 : Grew w0 noB (onB p10) := Grew.new K9 g14
 have ap16 : Apart (onB p10) (T_w) := Apart.new g14 (B8).live
 have ap17 : Apart (onB p10) (onB p1) := Apart.new g14 (onB_live (B4).lt)
 have B18 := B8.all k12 Apart.none
 have B19 := B4.all k12 id
 have K20 := K9.trans k12 (fun _ _ x => x.elim)
 refine wl_nil fun F21 hF22 => ?_
 have s23 : F21 0 = .pointer (some ⟨p, 0, none⟩) := (hF22 0).trans rfl
 have s24 : F21 24 = undef := (hF22 24).trans rfl
 have s25 : F21 4 = .pointer (some ⟨p1, 0, none⟩) := (hF22 4).trans rfl
 have s26 : F21 5 = .pointer (some ⟨p10, 0, none⟩) := (hF22 5).trans rfl
 clear hF22
 refine then_normal ?_
 refine wq_seq ?_
 refine wq_tail 4 [some 6, some 7, some 8, some 9] [Pd.eq (.agg #[.int .i64 (X), .int .i64 (Y)]), Pd.eq (.agg #[.int .i64 (cl 64 (X)), .int .i64 (cl 64 (Y))]), Pd.eq (.agg #[.int .i64 (A), .int .i64 (B)]), Pd.eq (.agg #[.int .i64 (cl 64 (A)), .int .i64 (cl 64 (B))])] (by kernel_rfl) (by kernel_rfl) (by kernel_rfl) ?_ ?_
 ·refine stepsF_cons ?_ ?_
  ·refine StepF.one rfl fun F_ w_ hR hout hD => ?_
   exact (y_load_stc stcT_vector rfl ((hout 4 rfl (by decide)).trans s25) (B19.all hR id) ⟨rfl, Kept.refl _ _⟩)
  refine stepsF_cons ?_ ?_
  ·refine StepF.one rfl fun F_ w_ hR hout hD => ?_
   have g6 : F_ 6 = .agg #[.int .i64 (X), .int .i64 (Y)] := (hD.get 0 rfl rfl rfl)
   exact (y_cs rfl rfl rfl (fun _ _ => by kernel_rfl) (ev_func _) (vsC g6 vsN) (vt_near (X) (Y)  _   ) (fun e_ w_ h_ => ⟨_, h_.1, rfl, h_.2⟩))
  refine stepsF_cons ?_ ?_
  ·refine StepF.one rfl fun F_ w_ hR hout hD => ?_
   exact (y_load_stc stcT_vector rfl ((hout 5 rfl (by decide)).trans s26) (B13.all hR id) ⟨rfl, Kept.refl _ _⟩)
  refine stepsF_cons ?_ ?_
  ·refine StepF.one rfl fun F_ w_ hR hout hD => ?_
   have g8 : F_ 8 = .agg #[.int .i64 (A), .int .i64 (B)] := (hD.get 0 rfl rfl rfl)
   exact (y_cs rfl rfl rfl (fun _ _ => by kernel_rfl) (ev_func _) (vsC g8 vsN) (vt_near (A) (B)  _   ) (fun e_ w_ h_ => ⟨_, h_.1, rfl, h_.2⟩))
  exact stepsF_nil
 intro v27 F28 w29 k30 G31 hF32
 have B34 := B18.all k30 Apart.none
 have B35 := B19.all k30 id
 have B36 := B13.all k30 id
 have K37 := K20.trans k30 (fun _ _ x => x.elim)
 have s38 := (hF32 0).trans s23
 have s39 := (hF32 24).trans s24
 have s40 := (hF32 4).trans s25
 have s41 := (hF32 5).trans s26
 have s42 : F28 7 = .agg #[.int .i64 (cl 64 (X)), .int .i64 (cl 64 (Y))] := (hF32 7).trans (G31 1 (by decide))
 have s43 : F28 9 = .agg #[.int .i64 (cl 64 (A)), .int .i64 (cl 64 (B))] := (hF32 9).trans (G31 3 (by decide))
 clear G31 hF32
 refine wl_store_stc (us := [.int .i64 (cl 64 (X)), .int .i64 (cl 64 (Y))]) stcT_vector rfl rfl rfl s40 s42 B35 rfl (oneI rfl (oneI rfl oneN)) fun w44 B45 k46 => ?_
 have B47 := B34.all k46 (fun i h x => (((ap7).symm) i h x))
 have B48 := B36.all k46 (fun x => ((ap17) p10 rfl x))
 have K49 := K37.trans k46 (Grew.ok (S := T_w) gr6 noB_le)
 refine wl_store_stc (us := [.int .i64 (cl 64 (A)), .int .i64 (cl 64 (B))]) stcT_vector rfl rfl rfl s41 s43 B48 rfl (oneI rfl (oneI rfl oneN)) fun w50 B51 k52 => ?_
 have B53 := B47.all k52 (fun i h x => (((ap16).symm) i h x))
 have B54 := B45.all k52 (fun x => (((ap17).symm) p1 rfl x))
 have K55 := K49.trans k52 (Grew.ok (S := T_w) gr15 noB_le)
 refine wl_nil fun F56 hF57 => ?_
 have s58 := (hF57 0).trans s38
 have s59 := (hF57 24).trans s39
 have s60 := (hF57 4).trans s40
 have s61 := (hF57 5).trans s41
 clear hF57
 refine then_normal ?_
 refine wq_seq ?_
 refine wq_region ?_
 refine wl_v (.pointer (some ⟨p, 0, none⟩)) rfl rfl (y_mov rfl s58 ⟨rfl, rfl⟩) ?_
 refine wl_v (.pointer (some ⟨p1, 0, none⟩)) rfl rfl (y_fieldR (n := 1) rfl s60 Tryz.underlying27 rfl (by kernel_rfl) (by decide) rfl ⟨rfl, rfl⟩) ?_
 refine wl_v (.int .i64 (cl 64 (X))) rfl rfl (y_ld_stc rfl rfl Tryz.underlying3 B54 rfl rfl ⟨rfl, rfl⟩) ?_
 refine wl_v (.pointer (some ⟨p10, 0, none⟩)) rfl rfl (y_fieldR (n := 1) rfl s61 Tryz.underlying27 rfl (by kernel_rfl) (by decide) rfl ⟨rfl, rfl⟩) ?_
 refine wl_v (.int .i64 (cl 64 (A))) rfl rfl (y_ld_stc rfl rfl Tryz.underlying3 B51 rfl rfl ⟨rfl, rfl⟩) ?_
 refine wl_v (.int .i64 ((cl 64 (X)) - (cl 64 (A)))) rfl rfl (y_sub rfl rfl rfl (i64_i rfl (by omega)) ⟨rfl, rfl⟩) ?_
 refine wl_call (R := fun v_ w_ => ∃ (T64 : Nat → Prop), .tuple #[] = v_ ∧ Kept (T_w) w50 w_ ∧ (Wri w_ T64 p ((bs) ++ signedBits ((cl 64 (X)) - (cl 64 (A)))) ∧ Grew w50 (T_w) T64)) rfl rfl (y_cs rfl rfl rfl (fun _ _ => by kernel_rfl) (ev_func _) (vsC rfl (vsC rfl vsN)) (t_signed (p) (bs) ((cl 64 (X)) - (cl 64 (A))) (T_w) _ (by omega) B53 ) (fun e_ w_ h_ => by obtain ⟨T64_, he_, hr_⟩ := h_; exact ⟨_, he_, T64_, rfl, hr_⟩)) ?_
 rintro _ w62 ⟨T64, rfl, k63, ⟨B65, g66⟩⟩
 have B67 := B54.all k63 (fun x => ((ap7) p1 rfl x))
 have B68 := B51.all k63 (fun x => ((ap16) p10 rfl x))
 have K69 := K55.trans k63 (fun i hi x => ((Grew.ok (S := T_w) g_w (fun _ x => x)) i hi x))
 have gr70 := g_w.trans K55 g66
 refine wl_nil fun F73 hF74 => ?_
 have s75 := (hF74 0).trans s58
 have s76 := (hF74 24).trans s59
 have s77 := (hF74 4).trans s60
 have s78 := (hF74 5).trans s61
 clear hF74
 refine then_normal ?_
 refine wq_region ?_
 refine wl_v (.pointer (some ⟨p, 0, none⟩)) rfl rfl (y_mov rfl s75 ⟨rfl, rfl⟩) ?_
 refine wl_v (.pointer (some ⟨p1, 1, none⟩)) rfl rfl (y_fieldR (n := 1) rfl s77 Tryz.underlying27 rfl (by kernel_rfl) (by decide) rfl ⟨rfl, rfl⟩) ?_
 refine wl_v (.int .i64 (cl 64 (Y))) rfl rfl (y_ld_stc rfl rfl Tryz.underlying3 B67 rfl rfl ⟨rfl, rfl⟩) ?_
 refine wl_v (.pointer (some ⟨p10, 1, none⟩)) rfl rfl (y_fieldR (n := 1) rfl s78 Tryz.underlying27 rfl (by kernel_rfl) (by decide) rfl ⟨rfl, rfl⟩) ?_
 refine wl_v (.int .i64 (cl 64 (B))) rfl rfl (y_ld_stc rfl rfl Tryz.underlying3 B68 rfl rfl ⟨rfl, rfl⟩) ?_
 refine wl_v (.int .i64 ((cl 64 (Y)) - (cl 64 (B)))) rfl rfl (y_sub rfl rfl rfl (i64_i rfl (by omega)) ⟨rfl, rfl⟩) ?_
 refine wl_call (R := fun v_ w_ => ∃ (T81 : Nat → Prop), .tuple #[] = v_ ∧ Kept (T64) w62 w_ ∧ (Wri w_ T81 p (((bs) ++ signedBits ((cl 64 (X)) - (cl 64 (A)))) ++ signedBits ((cl 64 (Y)) - (cl 64 (B)))) ∧ Grew w62 (T64) T81)) rfl rfl (y_cs rfl rfl rfl (fun _ _ => by kernel_rfl) (ev_func _) (vsC rfl (vsC rfl vsN)) (t_signed (p) ((bs) ++ signedBits ((cl 64 (X)) - (cl 64 (A)))) ((cl 64 (Y)) - (cl 64 (B))) (T64) _ (by rw [List.length_append]; omega) B65 ) (fun e_ w_ h_ => by obtain ⟨T81_, he_, hr_⟩ := h_; exact ⟨_, he_, T81_, rfl, hr_⟩)) ?_
 rintro _ w79 ⟨T81, rfl, k80, ⟨B82, g83⟩⟩
 have K86 := K69.trans k80 (fun i hi x => ((Grew.ok (S := T_w) gr70 (fun _ x => x)) i hi x))
 have gr87 := gr70.trans K69 g83
 refine wl_nil fun F90 hF91 => ?_
 have s92 := (hF91 24).trans s76
 clear hF91
 exact end_none s92 rfl ⟨T81, rfl, K86, ⟨(by unfold vecBits; rw [← List.append_assoc]; exact B82), gr87⟩⟩
end Go.Proofs.YtdcbabgcbkdlhaaGreatDoor
set_option maxRecDepth 100000
namespace Go.Proofs.YtdcbabgcbkdlhaaGreatDoor
open Go.RowKit

/-- The readers' own blocks. -/
def tR (R : List (Nat × Option Nat)) : Nat → Prop := fun i => ∃ x ∈ R, i = x.1
/-- At q a reader; the other readers of the same bytes. -/
def Rdx (w : World) (T : Nat → Prop) (q : Nat) (l : List Nat) (st : Option Nat) (R : List (Nat × Option Nat)) : Prop :=
  Fair l ∧ ∃ g, (∀ i, T i ↔ (onB q i ∨ onB g i ∨ tR R i)) ∧ (q :: R.map (·.1)).Nodup ∧ RdIs w q g l st ∧ ∀ x ∈ R, RdIs w x.1 g l x.2
theorem Rdx.live {w : World} {T : Nat → Prop} {q : Nat} {l : List Nat} {st : Option Nat} {R : List (Nat × Option Nat)} (h : Rdx w T q l st R) : Live w T := by
  obtain ⟨_, g, hT, _, h1, h2⟩ := h
  intro i hi
  rcases (hT i).1 hi with e | e | ⟨x, hx, e⟩
  · cases e; exact h1.lt.1
  · cases e; exact h1.lt.2.1
  · subst e; exact (h2 x hx).lt.1
theorem Rdx.all {S : Nat → Prop} {w w' : World} {T : Nat → Prop} {q : Nat} {l : List Nat} {st : Option Nat} {R : List (Nat × Option Nat)} (h : Rdx w T q l st R) (k : Kept S w w') (ha : Apart T S) : Rdx w' T q l st R := by
  obtain ⟨hf, g, hT, hn, h1, h2⟩ := h
  have nq := ha q ((hT q).2 (.inl rfl))
  have ng := ha g ((hT g).2 (.inr (.inl rfl)))
  exact ⟨hf, g, hT, hn, h1.kept k nq ng, fun x hx => (h2 x hx).kept k (ha x.1 ((hT _).2 (.inr (.inr ⟨x, hx, rfl⟩)))) ng⟩
/-- The other readers alone. -/
def Rst (w : World) (T : Nat → Prop) (R : List (Nat × Option Nat)) (g : Nat) (l : List Nat) : Prop :=
  T = tR R ∧ (R.map (·.1)).Nodup ∧ ∀ x ∈ R, g ≠ x.1 ∧ ∃ (a : Nat) (b : Bool), okR l x.2 a b ∧ Stc w x.1 72 [.slice (some ⟨g, 0, none⟩) l.length l.length, .int .i64 (a : Int), .bool b]
theorem Rst.live {w : World} {T : Nat → Prop} {R : List (Nat × Option Nat)} {g : Nat} {l : List Nat} (h : Rst w T R g l) : Live w T := by
  obtain ⟨rfl, _, h⟩ := h
  rintro i ⟨x, hx, rfl⟩
  obtain ⟨_, a, b, _, hs⟩ := h x hx
  exact lt_of_heap hs
theorem Rst.all {S : Nat → Prop} {w w' : World} {T : Nat → Prop} {R : List (Nat × Option Nat)} {g : Nat} {l : List Nat} (h : Rst w T R g l) (k : Kept S w w') (ha : Apart T S) : Rst w' T R g l := by
  obtain ⟨rfl, hn, h⟩ := h
  refine ⟨rfl, hn, fun x hx => ?_⟩
  obtain ⟨hg, a, b, ho, hs⟩ := h x hx
  exact ⟨hg, a, b, ho, hs.all k (ha x.1 ⟨x, hx, rfl⟩)⟩
theorem rdx_open {w : World} {T : Nat → Prop} {q : Nat} {l : List Nat} {st : Option Nat} {R : List (Nat × Option Nat)} (h : Rdx w T q l st R) : ∃ (g a : Nat) (b : Bool), Fair l ∧ (∀ i, T i ↔ (onB q i ∨ onB g i ∨ tR R i)) ∧ okR l st a b ∧
    Stc w q 72 [.slice (some ⟨g, 0, none⟩) l.length l.length, .int .i64 (a : Int), .bool b] ∧ Rby w (onB g) g l ∧ Rst w (tR R) R g l ∧ Apart (onB q) (onB g) ∧ Apart (onB q) (tR R) ∧ Apart (onB g) (tR R) := by
  obtain ⟨hf, g, hT, hn, h1, h2⟩ := h
  obtain ⟨a, b, u1, u2, u3, u4⟩ := rdis_open h1
  refine ⟨g, a, b, hf, hT, u1, u2, u3, ⟨rfl, (List.nodup_cons.1 hn).2, fun x hx => ?_⟩, u4, ?_, ?_⟩
  · obtain ⟨c, d, v1, v2, v3, v4⟩ := rdis_open (h2 x hx)
    exact ⟨(h2 x hx).lt.2.2, c, d, v1, v2⟩
  · rintro i e ⟨x, hx, e2⟩
    cases e
    exact (List.nodup_cons.1 hn).1 (e2 ▸ List.mem_map.2 ⟨x, hx, rfl⟩)
  · rintro i e ⟨x, hx, e2⟩
    cases e
    exact (h2 x hx).lt.2.2 e2
theorem rst_is {w : World} {T : Nat → Prop} {R : List (Nat × Option Nat)} {g : Nat} {l : List Nat} (h : Rst w T R g l) (hg : Rby w (onB g) g l) : ∀ x ∈ R, RdIs w x.1 g l x.2 := fun x hx => by
  obtain ⟨_, _, h⟩ := h
  obtain ⟨hne, a, b, ho, hs⟩ := h x hx
  exact rdis_close ho hs hg (fun i e1 e2 => hne (e2.symm.trans e1))
theorem rdx_close {w : World} {q g : Nat} {l : List Nat} {st : Option Nat} {a : Nat} {b : Bool} {R : List (Nat × Option Nat)} {T1 : Nat → Prop} (hf : Fair l) (ho : okR l st a b) (h1 : Stc w q 72 [.slice (some ⟨g, 0, none⟩) l.length l.length, .int .i64 (a : Int), .bool b]) (h2 : Rby w (onB g) g l) (h3 : Rst w T1 R g l) (a1 : Apart (onB q) (onB g)) (a2 : Apart (onB q) T1) :
    Rdx w (fun i => onB q i ∨ onB g i ∨ T1 i) q l st R := by
  obtain ⟨rfl, hn, h4⟩ := h3
  refine ⟨hf, g, fun _ => Iff.rfl, List.nodup_cons.2 ⟨fun hm => ?_, hn⟩, rdis_close ho h1 h2 a1, rst_is ⟨rfl, hn, h4⟩ h2⟩
  obtain ⟨x, hx, e⟩ := List.mem_map.1 hm
  exact a2 q rfl ⟨x, hx, e.symm⟩
/-- A copy goes ahead. -/
theorem rdx_push {w : World} {q c g : Nat} {l : List Nat} {st : Option Nat} {a : Nat} {b : Bool} {R : List (Nat × Option Nat)} {T1 : Nat → Prop} (hf : Fair l) (ho : okR l st a b) (h1 : Stc w q 72 [.slice (some ⟨g, 0, none⟩) l.length l.length, .int .i64 (a : Int), .bool b]) (h2 : Stc w c 72 [.slice (some ⟨g, 0, none⟩) l.length l.length, .int .i64 (a : Int), .bool b]) (h3 : Rby w (onB g) g l) (h4 : Rst w T1 R g l)
    (a1 : Apart (onB q) (onB c)) (a2 : Apart (onB q) (onB g)) (a3 : Apart (onB q) T1) (a4 : Apart (onB c) (onB g)) (a5 : Apart (onB c) T1) : Rdx w (fun i => onB q i ∨ onB c i ∨ onB g i ∨ T1 i) c l st ((q, st) :: R) := by
  obtain ⟨rfl, hn, h5⟩ := h4
  refine ⟨hf, g, fun i => ?_, ?_, rdis_close ho h2 h3 a4, fun x hx => ?_⟩
  · have e : tR ((q, st) :: R) i ↔ (onB q i ∨ tR R i) := by
      unfold tR onB; simp
    rw [e]
    constructor
    · rintro (h | h | h | h)
      · exact .inr (.inr (.inl h))
      · exact .inl h
      · exact .inr (.inl h)
      · exact .inr (.inr (.inr h))
    · rintro (h | h | h | h)
      · exact .inr (.inl h)
      · exact .inr (.inr (.inl h))
      · exact .inl h
      · exact .inr (.inr (.inr h))
  · refine List.nodup_cons.2 ⟨fun hm => ?_, List.nodup_cons.2 ⟨fun hm => ?_, hn⟩⟩
    · rcases List.mem_cons.1 hm with e | hm
      · exact a1 q rfl e.symm
      · obtain ⟨x, hx, e⟩ := List.mem_map.1 hm; exact a5 c rfl ⟨x, hx, e.symm⟩
    · obtain ⟨x, hx, e⟩ := List.mem_map.1 hm; exact a3 q rfl ⟨x, hx, e.symm⟩
  · rcases List.mem_cons.1 hx with rfl | hx
    · exact rdis_close ho h1 h3 a2
    · exact rst_is ⟨rfl, hn, h5⟩ h3 x hx
theorem rst_nil (w : World) (g : Nat) (l : List Nat) : Rst w (tR []) [] g l := ⟨rfl, List.nodup_nil, fun x hx => by cases hx⟩
theorem rdx_push0 {w : World} {q c g : Nat} {l : List Nat} {st : Option Nat} {a : Nat} {b : Bool} (hf : Fair l) (ho : okR l st a b) (h1 : Stc w q 72 [.slice (some ⟨g, 0, none⟩) l.length l.length, .int .i64 (a : Int), .bool b]) (h2 : Stc w c 72 [.slice (some ⟨g, 0, none⟩) l.length l.length, .int .i64 (a : Int), .bool b]) (h3 : Rby w (onB g) g l)
    (a1 : Apart (onB q) (onB c)) (a2 : Apart (onB q) (onB g)) (a4 : Apart (onB c) (onB g)) : Rdx w (fun i => onB q i ∨ onB c i ∨ onB g i) c l st [(q, st)] := by
  have no : ∀ {T : Nat → Prop}, Apart T (tR []) := fun i _ h => by obtain ⟨x, hx, _⟩ := h; cases hx
  obtain ⟨_, g', hT, hn, h5, h6⟩ := rdx_push hf ho h1 h2 h3 (rst_nil w g l) a1 a2 no a4 no
  refine ⟨hf, g', fun i => ?_, hn, h5, h6⟩
  have e : ¬ tR [] i := fun h => by obtain ⟨x, hx, _⟩ := h; cases hx
  rw [← hT i]
  constructor
  · rintro (h | h | h)
    · exact .inl h
    · exact .inr (.inl h)
    · exact .inr (.inr (.inl h))
  · rintro (h | h | h | h)
    · exact .inl h
    · exact .inr (.inl h)
    · exact .inr (.inr h)
    · exact absurd h e
/-- The copy, and the one that it is a copy of. -/
theorem rdx_pop {w : World} {T : Nat → Prop} {q c : Nat} {l : List Nat} {st1 st : Option Nat} {R : List (Nat × Option Nat)} (h : Rdx w T c l st ((q, st1) :: R)) : ∃ (g a1 : Nat) (b1 : Bool) (a2 : Nat) (b2 : Bool), Fair l ∧ (∀ i, T i ↔ (onB q i ∨ onB c i ∨ onB g i ∨ tR R i)) ∧ okR l st1 a1 b1 ∧ okR l st a2 b2 ∧
    Stc w q 72 [.slice (some ⟨g, 0, none⟩) l.length l.length, .int .i64 (a1 : Int), .bool b1] ∧ Stc w c 72 [.slice (some ⟨g, 0, none⟩) l.length l.length, .int .i64 (a2 : Int), .bool b2] ∧ Rby w (onB g) g l ∧ Rst w (tR R) R g l ∧
    Apart (onB q) (onB c) ∧ Apart (onB q) (onB g) ∧ Apart (onB q) (tR R) ∧ Apart (onB c) (onB g) ∧ Apart (onB c) (tR R) ∧ Apart (onB g) (tR R) := by
  obtain ⟨hf, g, hT, hn, h1, h2⟩ := h
  have e : ∀ i, tR ((q, st1) :: R) i ↔ (onB q i ∨ tR R i) := fun i => by unfold tR onB; simp
  obtain ⟨n1, n2⟩ := List.nodup_cons.1 hn
  obtain ⟨n3, n4⟩ := List.nodup_cons.1 n2
  obtain ⟨a1, b1, u1, u2, u3, u4⟩ := rdis_open (h2 (q, st1) (List.mem_cons_self ..))
  obtain ⟨a2, b2, v1, v2, v3, v4⟩ := rdis_open h1
  have hR : ∀ x ∈ R, RdIs w x.1 g l x.2 := fun x hx => h2 x (List.mem_cons_of_mem _ hx)
  refine ⟨g, a1, b1, a2, b2, hf, fun i => ?_, u1, v1, u2, v2, u3, ⟨rfl, n4, fun x hx => ?_⟩, ?_, u4, ?_, v4, ?_, ?_⟩
  · rw [hT i, e i]
    constructor
    · rintro (h | h | h | h)
      · exact .inr (.inl h)
      · exact .inr (.inr (.inl h))
      · exact .inl h
      · exact .inr (.inr (.inr h))
    · rintro (h | h | h | h)
      · exact .inr (.inr (.inl h))
      · exact .inl h
      · exact .inr (.inl h)
      · exact .inr (.inr (.inr h))
  · obtain ⟨c1, d1, w1, w2, _, _⟩ := rdis_open (hR x hx)
    exact ⟨(hR x hx).lt.2.2, c1, d1, w1, w2⟩
  · intro i e1 e2
    exact n1 (List.mem_cons.2 (.inl (e2.symm.trans e1)))
  · rintro i e1 ⟨x, hx, e2⟩
    cases e1
    exact n3 (List.mem_map.2 ⟨x, hx, e2.symm⟩)
  · rintro i e1 ⟨x, hx, e2⟩
    cases e1
    exact n1 (List.mem_cons.2 (.inr (List.mem_map.2 ⟨x, hx, e2.symm⟩)))
  · rintro i e1 ⟨x, hx, e2⟩
    cases e1
    exact (hR x hx).lt.2.2 e2
theorem rdx_pop0 {w : World} {T : Nat → Prop} {q c : Nat} {l : List Nat} {st1 st : Option Nat} (h : Rdx w T c l st [(q, st1)]) : ∃ (g a1 : Nat) (b1 : Bool) (a2 : Nat) (b2 : Bool), Fair l ∧ (∀ i, T i ↔ (onB q i ∨ onB c i ∨ onB g i)) ∧ okR l st1 a1 b1 ∧ okR l st a2 b2 ∧
    Stc w q 72 [.slice (some ⟨g, 0, none⟩) l.length l.length, .int .i64 (a1 : Int), .bool b1] ∧ Stc w c 72 [.slice (some ⟨g, 0, none⟩) l.length l.length, .int .i64 (a2 : Int), .bool b2] ∧ Rby w (onB g) g l ∧
    Apart (onB q) (onB c) ∧ Apart (onB q) (onB g) ∧ Apart (onB c) (onB g) := by
  obtain ⟨g, a1, b1, a2, b2, hf, hT, u1, v1, u2, v2, u3, _, p1, p2, _, p4, _, _⟩ := rdx_pop h
  refine ⟨g, a1, b1, a2, b2, hf, fun i => ?_, u1, v1, u2, v2, u3, p1, p2, p4⟩
  have e : ¬ tR [] i := fun h => by obtain ⟨x, hx, _⟩ := h; cases hx
  rw [hT i]
  constructor
  · rintro (h | h | h | h)
    · exact .inl h
    · exact .inr (.inl h)
    · exact .inr (.inr h)
    · exact absurd h e
  · rintro (h | h | h)
    · exact .inl h
    · exact .inr (.inl h)
    · exact .inr (.inr (.inl h))
theorem rdx_thing {w w' : World} {T : Nat → Prop} {q g : Nat} {l : List Nat} {st : Option Nat} {R : List (Nat × Option Nat)} {r : Int × Option Nat} {e : Ending} (hf : Fair l) (hT : ∀ i, T i ↔ (onB q i ∨ onB g i ∨ tR R i)) (hn : (q :: R.map (·.1)).Nodup) (h1 : RdIs w q g l st) (h2 : ∀ x ∈ R, RdIs w x.1 g l x.2) (hd : RdDone w q g l r e w') :
    ∃ (T_r' : Nat → Prop), e = .returned (.int .i64 r.1) ∧ Kept T w w' ∧ (Rdx w' T_r' q l r.2 R ∧ Grew w T T_r') := by
  obtain ⟨k1, k2, k3⟩ := hd
  refine ⟨T, k1, k3.mono (fun _ _ z => (hT _).2 (.inl z)), ⟨hf, g, hT, hn, k2, fun x hx => (h2 x hx).kept k3 (fun z => ?_) h1.lt.2.2⟩, Grew.refl _ _⟩
  exact (List.nodup_cons.1 hn).1 (z ▸ List.mem_map.2 ⟨x, hx, rfl⟩)
theorem t_rsignedX (q : Nat) (l : List Nat) (st : Option Nat) (R : List (Nat × Option Nat)) (m : Int) (T_r : Nat → Prop) (w0 : World) (h_r : Rdx w0 T_r q l st R) :
    Calls Tryz.prog 73 #[.pointer (some ⟨q, 0, none⟩), .int .i64 m] w0 fun e w' => ∃ (T_r' : Nat → Prop), e = .returned (.int .i64 (rdStep (signedRd l m) st).1) ∧ Kept T_r w0 w' ∧ (Rdx w' T_r' q l (rdStep (signedRd l m) st).2 R ∧ Grew w0 T_r T_r') := by
  obtain ⟨hf, g, hT, hn, h1, h2⟩ := h_r
  exact (rsigned_any q g l st m w0 hf h1).mono fun _ _ hd => rdx_thing hf hT hn h1 h2 hd
theorem t_rwholeX (q : Nat) (l : List Nat) (st : Option Nat) (R : List (Nat × Option Nat)) (m : Int) (T_r : Nat → Prop) (w0 : World) (h_r : Rdx w0 T_r q l st R) :
    Calls Tryz.prog 32 #[.pointer (some ⟨q, 0, none⟩), .int .i64 m] w0 fun e w' => ∃ (T_r' : Nat → Prop), e = .returned (.int .i64 (rdStep (wholeRd l m) st).1) ∧ Kept T_r w0 w' ∧ (Rdx w' T_r' q l (rdStep (wholeRd l m) st).2 R ∧ Grew w0 T_r T_r') := by
  obtain ⟨hf, g, hT, hn, h1, h2⟩ := h_r
  exact (rwhole_any q g l st m w0 hf h1).mono fun _ _ hd => rdx_thing hf hT hn h1 h2 hd
theorem t_lostX (q : Nat) (l : List Nat) (st : Option Nat) (R : List (Nat × Option Nat)) (T_r : Nat → Prop) (w0 : World) (h_r : Rdx w0 T_r q l st R) :
    Calls Tryz.prog 33 #[.pointer (some ⟨q, 0, none⟩)] w0 fun e w' => e = .returned (.bool (st.isNone)) ∧ Kept (fun _ => False) w0 w' := by
  obtain ⟨hf, g, hT, hn, h1, h2⟩ := h_r
  exact (lost_any q g l st w0 h1).mono fun _ _ ⟨e, hw⟩ => by subst hw; exact ⟨e, Kept.refl _ _⟩

set_option maxHeartbeats 4000000 in
set_option maxRecDepth 100000 in
theorem vt_readX (p : Nat) (l : List Nat) (st : Option Nat) (R : List (Nat × Option Nat)) (A B : Int) (T_r : Nat → Prop) (w0 : World) (h_r : Rdx w0 T_r p (l) (st) (R)) :
  Calls Tryz.prog 35 #[.pointer (some ⟨p, 0, none⟩), .agg #[.int .i64 (A), .int .i64 (B)]] w0 fun e w' => ∃ (T_r' : Nat → Prop), e = .returned (.tuple #[.agg #[.int .i64 (vrX l A B st), .int .i64 (vrY l A B st)], .int .i64 (vrE l A B st)]) ∧ Kept (T_r) w0 w' ∧ (Rdx w' T_r' p (l) (vrT l A B st) (R) ∧ Grew w0 T_r T_r') := by
 refine calls_wq (args := [.pointer (some ⟨p, 0, none⟩), .agg #[.int .i64 (A), .int .i64 (B)]]) 37 Tryz.func35 rfl rfl (Nat.le_of_ble_eq_true rfl) ?_
 have K0 := Kept.refl (T_r) w0
 have h1 := cl64 A
 have h2 := cl64 B
 have h3 := rdX_le l st
 have h4 := rdX_le l (rdX l st).2
 have g_r := Grew.refl w0 T_r
 refine wq_seq ?_
 refine wq_region ?_
 refine wl_box_stc (vs := [.int .i64 (A), .int .i64 (B)]) rfl rfl rfl rfl fun p1 w2 B4 g5 k3 => ?_
 have B8 := h_r.all k3 Apart.none
 have K9 := K0.trans k3 (fun _ _ x => x.elim)
 refine wl_alloc_stc (n := 2) (vs := [.int .i64 (0), .int .i64 (0)]) rfl rfl rfl (by kernel_rfl) fun p10 w11 B13 g14 k12 => ?_
 have gr15 : Grew w0 noB (onB p10) := Grew.new K9 g14
 have ap16 : Apart (onB p10) (T_r) := Apart.new g14 (B8).live
 have B18 := B8.all k12 Apart.none
 have B19 := B4.all k12 id
 have K20 := K9.trans k12 (fun _ _ x => x.elim)
 refine wl_v (.int .i64 (0)) rfl rfl (y_asg rfl rfl ⟨rfl, rfl⟩) ?_
 refine wl_nil fun F21 hF22 => ?_
 have s23 : F21 0 = .pointer (some ⟨p, 0, none⟩) := (hF22 0).trans rfl
 have s24 : F21 37 = undef := (hF22 37).trans rfl
 have s25 : F21 3 = .pointer (some ⟨p1, 0, none⟩) := (hF22 3).trans rfl
 have s26 : F21 4 = .pointer (some ⟨p10, 0, none⟩) := (hF22 4).trans rfl
 clear hF22
 refine then_normal ?_
 refine wq_seq ?_
 refine wq_seq ?_
 refine wq_region ?_
 refine wl_v (.pointer (some ⟨p, 0, none⟩)) rfl rfl (y_mov rfl s23 ⟨rfl, rfl⟩) ?_
 refine wl_v (.bool false) rfl rfl (y_noNil rfl rfl rfl Tryz.underlying50 ⟨rfl, rfl⟩) ?_
 refine wl_nil fun F27 hF28 => ?_
 have s29 := (hF28 0).trans s23
 have s30 := (hF28 37).trans s24
 have s31 := (hF28 3).trans s25
 have s32 := (hF28 4).trans s26
 have s33 : F27 9 = .bool false := (hF28 9).trans rfl
 clear hF28
 refine then_normal ?_
 refine wq_cond (t := false) s33 (fun e => by cases e) (fun _ => ?_)
 refine wq_skip ?_
 refine then_normal ?_
 refine wq_seq ?_
 obtain ⟨g, a, b, hf, hT, hok, hp, hg, hr, hap, hap2, hap3⟩ := rdx_open B18
 have gr34 : Grew w0 (T_r) (onB p) := fun i h => g_r i ((fun i h => (hT i).2 (Or.inl h)) i h)
 have ap36 : Apart (onB p) (onB p10) := fun i h => (ap16).symm i ((fun i h => (hT i).2 (Or.inl h)) i h)
 have gr37 : Grew w0 (T_r) (onB g) := fun i h => g_r i ((fun i h => (hT i).2 (Or.inr (Or.inl h))) i h)
 have ap39 : Apart (onB g) (onB p10) := fun i h => (ap16).symm i ((fun i h => (hT i).2 (Or.inr (Or.inl h))) i h)
 have gr40 : Grew w0 (T_r) (tR R) := fun i h => g_r i ((fun i h => (hT i).2 (Or.inr (Or.inr h))) i h)
 have ap42 : Apart (tR R) (onB p10) := fun i h => (ap16).symm i ((fun i h => (hT i).2 (Or.inr (Or.inr h))) i h)
 have ap43 : Apart (onB p) (onB g) := hap
 have ap44 : Apart (onB p) (tR R) := hap2
 refine wq_region ?_
 refine wl_v (.pointer (some ⟨p, 0, none⟩)) rfl rfl (y_mov rfl s29 ⟨rfl, rfl⟩) ?_
 refine wl_v (.pointer (some ⟨p, 0, none⟩)) rfl rfl (y_nilc rfl rfl ⟨rfl, rfl⟩) ?_
 refine wl_v (.agg #[.slice (some ⟨g, 0, none⟩) l.length l.length, .int .i64 (((a : Nat) : Int)), .bool (b)]) rfl rfl (y_load_stc stcT_reader rfl rfl hp ⟨rfl, rfl⟩) ?_
 refine wl_alloc_stc (n := 3) (vs := [.slice none 0 0, .int .i64 (((0 : Nat) : Int)), .bool false]) rfl rfl rfl (by kernel_rfl) fun p46 w47 B49 g50 k48 => ?_
 have gr51 : Grew w0 noB (onB p46) := Grew.new K20 g50
 have ap52 : Apart (onB p46) (onB p1) := Apart.new g50 (onB_live (B19).lt)
 have ap53 : Apart (onB p46) (onB p10) := Apart.new g50 (onB_live (B13).lt)
 have ap54 : Apart (onB p46) (onB p) := Apart.new g50 (onB_live (hp).lt)
 have ap55 : Apart (onB p46) (onB g) := Apart.new g50 (hg).live
 have ap56 : Apart (onB p46) (tR R) := Apart.new g50 (hr).live
 have B57 := B19.all k48 id
 have B58 := B13.all k48 id
 have B59 := hp.all k48 id
 have B60 := hg.all k48 Apart.none
 have B61 := hr.all k48 Apart.none
 have K62 := K20.trans k48 (fun _ _ x => x.elim)
 refine wl_store_stc (us := [.slice (some ⟨g, 0, none⟩) l.length l.length, .int .i64 (((a : Nat) : Int)), .bool (b)]) stcT_reader rfl rfl rfl rfl rfl B49 rfl (oneI rfl (oneI rfl (oneI rfl oneN))) fun w63 B64 k65 => ?_
 have B66 := B57.all k65 (fun x => (((ap52).symm) p1 rfl x))
 have B67 := B58.all k65 (fun x => (((ap53).symm) p10 rfl x))
 have B68 := B59.all k65 (fun x => (((ap54).symm) p rfl x))
 have B69 := B60.all k65 (fun i h x => (((ap55).symm) i h x))
 have B70 := B61.all k65 (fun i h x => (((ap56).symm) i h x))
 have K71 := K62.trans k65 (Grew.ok (S := T_r) gr51 noB_le)
 refine wl_nil fun F72 hF73 => ?_
 have s74 := (hF73 0).trans s29
 have s75 := (hF73 37).trans s30
 have s76 := (hF73 3).trans s31
 have s77 := (hF73 4).trans s32
 have s78 : F72 6 = .pointer (some ⟨p46, 0, none⟩) := (hF73 6).trans rfl
 clear hF73
 refine then_normal ?_
 refine wq_seq ?_
 have B79 : Rdx w63 (fun i => (onB p) i ∨ ((onB p46) i ∨ ((onB g) i ∨ ((tR R) i)))) p46 (l) (st) (List.cons (p, st) R) := rdx_push hf hok B68 B64 B69 B70 (ap54).symm ap43 ap44 ap55 ap56
 have gr80 : Grew w0 (T_r) (fun i => (onB p) i ∨ ((onB p46) i ∨ ((onB g) i ∨ ((tR R) i)))) := fun i h => h.elim (fun y => gr34 i y) (fun y => y.elim (fun y => (Grew.weak gr51 (fun _ z => z.elim)) i y) (fun y => y.elim (fun y => gr37 i y) (fun y => gr40 i y)))
 have ap82 : Apart (fun i => (onB p) i ∨ ((onB p46) i ∨ ((onB g) i ∨ ((tR R) i)))) (onB p10) := fun i h => h.elim (fun y => (ap36) i y) (fun y => y.elim (fun y => (ap53) i y) (fun y => y.elim (fun y => (ap39) i y) (fun y => (ap42) i y)))
 refine wq_region ?_
 refine wl_v (.agg #[.int .i64 (A), .int .i64 (B)]) rfl rfl (y_load_stc stcT_vector rfl s76 B66 ⟨rfl, rfl⟩) ?_
 refine wl_call (R := fun v_ w_ => v_ = .agg #[.int .i64 (cl 64 (A)), .int .i64 (cl 64 (B))] ∧ Kept (fun _ => False) w63 w_) rfl rfl (y_cs rfl rfl rfl (fun _ _ => by kernel_rfl) (ev_func _) (vsC rfl vsN) (vt_near (A) (B)  _   ) (fun e_ w_ h_ => ⟨_, h_.1, rfl, h_.2⟩)) ?_
 rintro _ w83 ⟨rfl, k84⟩
 have B86 := B67.all k84 id
 have B87 := B79.all k84 Apart.none
 have K88 := K71.trans k84 (fun _ _ x => x.elim)
 refine wl_alloc_stc (n := 2) (vs := [.int .i64 (0), .int .i64 (0)]) rfl rfl rfl (by kernel_rfl) fun p89 w90 B92 g93 k91 => ?_
 have gr94 : Grew w0 noB (onB p89) := Grew.new K88 g93
 have ap96 : Apart (onB p89) (onB p10) := Apart.new g93 (onB_live (B86).lt)
 have ap97 : Apart (onB p89) (fun i => (onB p) i ∨ ((onB p46) i ∨ ((onB g) i ∨ ((tR R) i)))) := Apart.new g93 (B87).live
 have B99 := B86.all k91 id
 have B100 := B87.all k91 Apart.none
 have K101 := K88.trans k91 (fun _ _ x => x.elim)
 refine wl_store_stc (us := [.int .i64 (cl 64 (A)), .int .i64 (cl 64 (B))]) stcT_vector rfl rfl rfl rfl rfl B92 rfl (oneI rfl (oneI rfl oneN)) fun w102 B103 k104 => ?_
 have B106 := B99.all k104 (fun x => (((ap96).symm) p10 rfl x))
 have B107 := B100.all k104 (fun i h x => (((ap97).symm) i h x))
 have K108 := K101.trans k104 (Grew.ok (S := T_r) gr94 noB_le)
 refine wl_nil fun F109 hF110 => ?_
 have s111 := (hF110 0).trans s74
 have s112 := (hF110 37).trans s75
 have s113 := (hF110 4).trans s77
 have s114 := (hF110 6).trans s78
 have s115 : F109 7 = .pointer (some ⟨p89, 0, none⟩) := (hF110 7).trans rfl
 clear hF110
 refine then_normal ?_
 refine wq_seq ?_
 refine wq_turns (S := fun i => (fun i => (onB p) i ∨ ((onB p46) i ∨ ((onB g) i ∨ ((tR R) i)))) i ∨ ((onB p89) i)) [(5, 1)] [some 16, some 17, some 18, some 19, some 20, none] [Pt.eq (.pointer (some ⟨p89, 0, none⟩)), Pt.eq (.int .i64 (cl 64 (A))), Pt.thg ⟨fun w_ => Rdx w_ (fun i => (onB p) i ∨ ((onB p46) i ∨ ((onB g) i ∨ ((tR R) i)))) p46 (l) (st) (List.cons (p, st) R), fun i => (onB p) i ∨ ((onB p46) i ∨ ((onB g) i ∨ ((tR R) i))), fun T_ w_ => Rdx w_ T_ p46 ((l)) ((rdStep (signedRd (l) (128)) (st)).2) ((List.cons (p, st) R)), fun _ _ _ h_ k_ ha_ => h_.all k_ ha_, fun _ _ _ _ h_ k_ ha_ => h_.all k_ ha_, fun _ h_ => h_.live, fun _ _ h_ => h_.live⟩ (.int .i64 ((rdX l st).1)), Pt.eq (.int .i64 ((rdX l st).1 + cl 64 A)), Pt.eq (.pointer (some ⟨p89, 0, none⟩)), Pt.thg (stcThg p89 27 [.int .i64 (cl 64 (A)), .int .i64 (cl 64 (B))] [.int .i64 ((rdX l st).1 + cl 64 A), .int .i64 (cl 64 (B))]) undef] (by kernel_rfl) (by kernel_rfl) (by kernel_rfl) rfl (OldsT.old ⟨⟨fun _ x_ => Or.inl x_, B107, ⟨(ap97).symm, trivial⟩⟩, ⟨⟨fun _ x_ => Or.inr x_, B103, trivial⟩, trivial⟩⟩) ?_ ?_
 ·refine stepsFT_cons ?_ ?_
  ·refine StepFT.one rfl fun F_ w_ hR hout hD => ?_
   exact (y_fieldR (n := 1) rfl ((hout 7 rfl (by decide)).trans s115) Tryz.underlying27 rfl (by kernel_rfl) (by decide) rfl ⟨rfl, Kept.refl _ _⟩)
  refine stepsFT_cons ?_ ?_
  ·refine StepFT.oneA rfl fun F_ w_ hR hout hD hA_ => ?_
   have g16 : F_ 16 = .pointer (some ⟨p89, 0, none⟩) := (hD.get 0 rfl rfl rfl).1
   have hA5_ : Stc w_ p89 27 [.int .i64 (cl 64 (A)), .int .i64 (cl 64 (B))] := hA_ 5 _ _ (by decide) rfl
   exact (y_ld_stc rfl g16 Tryz.underlying3 hA5_ rfl rfl ⟨rfl, Kept.refl _ _⟩)
  refine stepsFT_cons ?_ ?_
  ·refine StepFT.turn rfl rfl fun F_ w_ hR hout hD hA_ => ?_
   exact (y_cs rfl rfl rfl (fun _ _ => by kernel_rfl) (ev_func _) (vsC ((hout 6 rfl (by decide)).trans s114) (vsC rfl vsN)) (t_rsignedX (p46) (l) (st) (List.cons (p, st) R) (128) (fun i => (onB p) i ∨ ((onB p46) i ∨ ((onB g) i ∨ ((tR R) i)))) _  hA_ ) (fun e_ w_ h_ => by obtain ⟨_, he_, k_, hb_, hg_⟩ := h_; exact ⟨_, he_, rfl, k_, _, hb_, hg_⟩))
  refine stepsFT_cons ?_ ?_
  ·refine StepFT.one rfl fun F_ w_ hR hout hD => ?_
   have g17 : F_ 17 = .int .i64 (cl 64 (A)) := (hD.get 0 rfl rfl rfl).1
   have g18 : F_ 18 = .int .i64 ((rdX l st).1) := (hD.get 1 rfl rfl rfl).1
   exact (y_add rfl g17 g18 ((by rw [Int.add_comm, IntKind.wrap_i64]; omega)) ⟨rfl, Kept.refl _ _⟩)
  refine stepsFT_cons ?_ ?_
  ·refine StepFT.one rfl fun F_ w_ hR hout hD => ?_
   exact (y_fieldR (n := 1) rfl ((hout 7 rfl (by decide)).trans s115) Tryz.underlying27 rfl (by kernel_rfl) (by decide) rfl ⟨rfl, Kept.refl _ _⟩)
  refine stepsFT_cons ?_ ?_
  ·refine StepFT.turn rfl rfl fun F_ w_ hR hout hD hA_ => ?_
   have g20 : F_ 20 = .pointer (some ⟨p89, 0, none⟩) := (hD.get 0 rfl rfl rfl).1
   have g19 : F_ 19 = .int .i64 ((rdX l st).1 + cl 64 A) := (hD.get 1 rfl rfl rfl).1
   exact y_setStc rfl g20 g19 hA_ rfl rfl (by kernel_rfl) fun w2_ b_ k_ => ⟨rfl, k_, _, ⟨rfl, b_⟩, Grew.refl _ _⟩
  exact stepsFT_nil
 intro v116 Tf123 F117 w118 k119 G120 Gt124 Ga125 hF121
 have B127 := B106.all k119 (fun x => (x.elim (fun y => (((ap82).symm) p10 rfl y)) (fun y => (((ap96).symm) p10 rfl y))))
 have K128 := K108.trans k119 (fun i hi x => (x.elim (fun y => ((Grew.ok (S := T_r) gr80 (fun _ x => x)) i hi y)) (fun y => ((Grew.ok (S := T_r) gr94 noB_le) i hi y))))
 obtain ⟨T129, e130⟩ : ∃ T_, T_ = Tf123 2 := ⟨_, rfl⟩
 have B131 : Rdx w118 (T129) p46 ((l)) ((rdStep (signedRd (l) (128)) (st)).2) ((List.cons (p, st) R)) := by rw [e130]; exact (Gt124 2 _ _ rfl).1
 have g132 : Grew w102 (fun i => (onB p) i ∨ ((onB p46) i ∨ ((onB g) i ∨ ((tR R) i)))) T129 := by rw [e130]; exact (Gt124 2 _ _ rfl).2
 have gr133 := gr80.trans K108 g132
 have ap135 : Apart T129 (onB p10) := (ap82).grew g132 (onB_live (B106).lt)
 have e136 : onB p89 = Tf123 5 := ((Gt124 5 _ _ rfl).1.1).symm
 have B137 : Stc w118 p89 27 [.int .i64 ((rdX l st).1 + cl 64 A), .int .i64 (cl 64 (B))] := (Gt124 5 _ _ rfl).1.2
 have ap138 : Apart T129 (onB p89) := by rw [e130, e136]; exact Ga125 2 5 _ _ _ _ (by decide) rfl rfl
 clear Gt124 Ga125
 have s139 := (hF121 0).trans s111
 have s140 := (hF121 37).trans s112
 have s141 := (hF121 4).trans s113
 have s142 := (hF121 6).trans s114
 have s143 := (hF121 7).trans s115
 clear G120 hF121
 refine then_normal ?_
 refine wq_seq ?_
 refine wq_turns (S := fun i => (T129) i ∨ ((onB p89) i)) [(5, 1)] [some 21, some 22, some 23, some 24, some 25, none] [Pt.eq (.pointer (some ⟨p89, 1, none⟩)), Pt.eq (.int .i64 (cl 64 (B))), Pt.thg ⟨fun w_ => Rdx w_ (T129) p46 ((l)) ((rdStep (signedRd (l) (128)) (st)).2) ((List.cons (p, st) R)), T129, fun T_ w_ => Rdx w_ T_ p46 (((l))) ((rdStep (signedRd ((l)) (128)) ((rdStep (signedRd (l) (128)) (st)).2)).2) (((List.cons (p, st) R))), fun _ _ _ h_ k_ ha_ => h_.all k_ ha_, fun _ _ _ _ h_ k_ ha_ => h_.all k_ ha_, fun _ h_ => h_.live, fun _ _ h_ => h_.live⟩ (.int .i64 ((rdX l (rdX l st).2).1)), Pt.eq (.int .i64 ((rdX l (rdX l st).2).1 + cl 64 B)), Pt.eq (.pointer (some ⟨p89, 1, none⟩)), Pt.thg (stcThg p89 27 [.int .i64 ((rdX l st).1 + cl 64 A), .int .i64 (cl 64 (B))] [.int .i64 ((rdX l st).1 + cl 64 A), .int .i64 ((rdX l (rdX l st).2).1 + cl 64 B)]) undef] (by kernel_rfl) (by kernel_rfl) (by kernel_rfl) rfl (OldsT.old ⟨⟨fun _ x_ => Or.inl x_, B131, ⟨ap138, trivial⟩⟩, ⟨⟨fun _ x_ => Or.inr x_, B137, trivial⟩, trivial⟩⟩) ?_ ?_
 ·refine stepsFT_cons ?_ ?_
  ·refine StepFT.one rfl fun F_ w_ hR hout hD => ?_
   exact (y_fieldR (n := 1) rfl ((hout 7 rfl (by decide)).trans s143) Tryz.underlying27 rfl (by kernel_rfl) (by decide) rfl ⟨rfl, Kept.refl _ _⟩)
  refine stepsFT_cons ?_ ?_
  ·refine StepFT.oneA rfl fun F_ w_ hR hout hD hA_ => ?_
   have g21 : F_ 21 = .pointer (some ⟨p89, 1, none⟩) := (hD.get 0 rfl rfl rfl).1
   have hA5_ : Stc w_ p89 27 [.int .i64 ((rdX l st).1 + cl 64 A), .int .i64 (cl 64 (B))] := hA_ 5 _ _ (by decide) rfl
   exact (y_ld_stc rfl g21 Tryz.underlying3 hA5_ rfl rfl ⟨rfl, Kept.refl _ _⟩)
  refine stepsFT_cons ?_ ?_
  ·refine StepFT.turn rfl rfl fun F_ w_ hR hout hD hA_ => ?_
   exact (y_cs rfl rfl rfl (fun _ _ => by kernel_rfl) (ev_func _) (vsC ((hout 6 rfl (by decide)).trans s142) (vsC rfl vsN)) (t_rsignedX (p46) ((l)) ((rdStep (signedRd (l) (128)) (st)).2) ((List.cons (p, st) R)) (128) (T129) _  hA_ ) (fun e_ w_ h_ => by obtain ⟨_, he_, k_, hb_, hg_⟩ := h_; exact ⟨_, he_, rfl, k_, _, hb_, hg_⟩))
  refine stepsFT_cons ?_ ?_
  ·refine StepFT.one rfl fun F_ w_ hR hout hD => ?_
   have g22 : F_ 22 = .int .i64 (cl 64 (B)) := (hD.get 0 rfl rfl rfl).1
   have g23 : F_ 23 = .int .i64 ((rdX l (rdX l st).2).1) := (hD.get 1 rfl rfl rfl).1
   exact (y_add rfl g22 g23 ((by rw [Int.add_comm, IntKind.wrap_i64]; omega)) ⟨rfl, Kept.refl _ _⟩)
  refine stepsFT_cons ?_ ?_
  ·refine StepFT.one rfl fun F_ w_ hR hout hD => ?_
   exact (y_fieldR (n := 1) rfl ((hout 7 rfl (by decide)).trans s143) Tryz.underlying27 rfl (by kernel_rfl) (by decide) rfl ⟨rfl, Kept.refl _ _⟩)
  refine stepsFT_cons ?_ ?_
  ·refine StepFT.turn rfl rfl fun F_ w_ hR hout hD hA_ => ?_
   have g25 : F_ 25 = .pointer (some ⟨p89, 1, none⟩) := (hD.get 0 rfl rfl rfl).1
   have g24 : F_ 24 = .int .i64 ((rdX l (rdX l st).2).1 + cl 64 B) := (hD.get 1 rfl rfl rfl).1
   exact y_setStc rfl g25 g24 hA_ rfl rfl (by kernel_rfl) fun w2_ b_ k_ => ⟨rfl, k_, _, ⟨rfl, b_⟩, Grew.refl _ _⟩
  exact stepsFT_nil
 intro v144 Tf151 F145 w146 k147 G148 Gt152 Ga153 hF149
 have B155 := B127.all k147 (fun x => (x.elim (fun y => (((ap135).symm) p10 rfl y)) (fun y => (((ap96).symm) p10 rfl y))))
 have K156 := K128.trans k147 (fun i hi x => (x.elim (fun y => ((Grew.ok (S := T_r) gr133 (fun _ x => x)) i hi y)) (fun y => ((Grew.ok (S := T_r) gr94 noB_le) i hi y))))
 obtain ⟨T157, e158⟩ : ∃ T_, T_ = Tf151 2 := ⟨_, rfl⟩
 have B159 : Rdx w146 (T157) p46 (((l))) ((rdStep (signedRd ((l)) (128)) ((rdStep (signedRd (l) (128)) (st)).2)).2) (((List.cons (p, st) R))) := by rw [e158]; exact (Gt152 2 _ _ rfl).1
 have g160 : Grew w118 (T129) T157 := by rw [e158]; exact (Gt152 2 _ _ rfl).2
 have gr161 := gr133.trans K128 g160
 have ap163 : Apart T157 (onB p10) := (ap135).grew g160 (onB_live (B127).lt)
 have e164 : onB p89 = Tf151 5 := ((Gt152 5 _ _ rfl).1.1).symm
 have B165 : Stc w146 p89 27 [.int .i64 ((rdX l st).1 + cl 64 A), .int .i64 ((rdX l (rdX l st).2).1 + cl 64 B)] := (Gt152 5 _ _ rfl).1.2
 have ap166 : Apart T157 (onB p89) := by rw [e158, e164]; exact Ga153 2 5 _ _ _ _ (by decide) rfl rfl
 clear Gt152 Ga153
 have s167 := (hF149 0).trans s139
 have s168 := (hF149 37).trans s140
 have s169 := (hF149 4).trans s141
 have s170 := (hF149 6).trans s142
 have s171 := (hF149 7).trans s143
 clear G148 hF149
 refine then_normal ?_
 refine wq_seq ?_
 refine wq_seq ?_
 rcases Bool.eq_false_or_eq_true (((rdStep (signedRd ((l)) (128)) ((rdStep (signedRd (l) (128)) (st)).2)).2).isNone) with d172 | d172
 ·skip
  refine wq_region ?_
  refine wl_call (R := fun v_ w_ => v_ = .bool true ∧ Kept (fun _ => False) w146 w_) rfl rfl (y_cs rfl rfl rfl (fun _ _ => by kernel_rfl) (ev_func _) (vsC s170 vsN) (t_lostX (p46) (((l))) ((rdStep (signedRd ((l)) (128)) ((rdStep (signedRd (l) (128)) (st)).2)).2) (((List.cons (p, st) R))) (T157) _  B159 ) (fun e_ w_ h_ => ⟨_, h_.1, (congrArg Value.bool d172), h_.2⟩)) ?_
  rintro _ w173 ⟨rfl, k174⟩
  have B176 := B155.all k174 id
  have B177 := B159.all k174 Apart.none
  have K179 := K156.trans k174 (fun _ _ x => x.elim)
  refine wl_v (.bool true) rfl rfl (y_mov rfl rfl ⟨rfl, rfl⟩) ?_
  refine wl_unless 1 false 27 rfl rfl rfl (Or.inl rfl) rfl ?_
  refine wl_unless 1 false 27 rfl rfl rfl (Or.inl rfl) rfl ?_
  refine wl_unless 1 false 27 rfl rfl rfl (Or.inl rfl) rfl ?_
  refine wl_v (.bool true) rfl rfl (y_pickT rfl rfl rfl ⟨rfl, rfl⟩) ?_
  refine wl_nil fun F180 hF181 => ?_
  have s183 := (hF181 37).trans s168
  have s184 := (hF181 4).trans s169
  have s187 : F180 31 = .bool true := (hF181 31).trans rfl
  clear hF181
  refine then_normal ?_
  refine wq_cond (t := true) s187 (fun _ => ?_) (fun e => by cases e)
  refine wq_seq ?_
  have hk : ¬ rdOk l A B st := by unfold rdOk; rintro ⟨h7, h8⟩; first | exact h7 (Option.isNone_iff_eq_none.1 (by assumption)) | exact absurd (vecE_yes h8) (by assumption)
  have hR := vr_no hk
  obtain ⟨g2, a1, b1, a2, b2, hf2, hT2, ho1, ho2, hp2, hq2, hg2, hr2, ap1_, ap2_, ap3_, ap4_, ap5_, ap6_⟩ := rdx_pop B177
  have gr188 : Grew w0 (T_r) (onB p) := fun i h => gr161 i ((fun i h => (hT2 i).2 (Or.inl h)) i h)
  have ap190 : Apart (onB p) (onB p10) := fun i h => ap163 i ((fun i h => (hT2 i).2 (Or.inl h)) i h)
  have gr196 : Grew w0 (T_r) (onB g2) := fun i h => gr161 i ((fun i h => (hT2 i).2 (Or.inr (Or.inr (Or.inl h)))) i h)
  have ap198 : Apart (onB g2) (onB p10) := fun i h => ap163 i ((fun i h => (hT2 i).2 (Or.inr (Or.inr (Or.inl h)))) i h)
  have gr200 : Grew w0 (T_r) (tR R) := fun i h => gr161 i ((fun i h => (hT2 i).2 (Or.inr (Or.inr (Or.inr h)))) i h)
  have ap202 : Apart (tR R) (onB p10) := fun i h => ap163 i ((fun i h => (hT2 i).2 (Or.inr (Or.inr (Or.inr h)))) i h)
  have ap205 : Apart (onB p) (onB g2) := ap2_
  have ap206 : Apart (onB p) (tR R) := ap3_
  refine wq_region ?_
  refine wl_v (.agg #[.int .i64 (0), .int .i64 (0)]) rfl rfl (y_buildL (l' := []) (cells := #[.int .i64 (0), .int .i64 (0)]) rfl bpN (by kernel_rfl) rfl ⟨rfl, rfl⟩) ?_
  refine wl_store_stc (us := [.int .i64 (0), .int .i64 (0)]) stcT_vector rfl rfl rfl s184 rfl B176 rfl (oneI rfl (oneI rfl oneN)) fun w210 B211 k212 => ?_
  have B215 := hp2.all k212 (fun x => ((ap190) p rfl x))
  have B217 := hg2.all k212 (fun i h x => ((ap198) i h x))
  have B218 := hr2.all k212 (fun i h x => ((ap202) i h x))
  have K219 := K179.trans k212 (Grew.ok (S := T_r) gr15 noB_le)
  refine wl_v (.int .i64 (90)) rfl rfl (y_asg rfl rfl ⟨rfl, rfl⟩) ?_
  refine wl_nil fun F220 hF221 => ?_
  have s222 := (hF221 37).trans s183
  have s223 := (hF221 4).trans s184
  have s224 : F220 5 = .int .i64 (90) := (hF221 5).trans rfl
  clear hF221
  refine then_normal ?_
  refine wq_ret ?_
  refine then_ret ?_
  have B225 : Rdx w210 (fun i => (onB p) i ∨ ((onB g2) i ∨ ((tR R) i))) p (l) (vrT l A B st) (R) := (by first | (rw [show vrT l A B st = st from if_neg hk]; exact rdx_close hf2 ho1 B215 B217 B218 ap205 ap206) | (rw [show vrT l A B st = vrS l st from if_pos hk]; exact rdx_close hf2 ho2 B215 B217 B218 ap205 ap206))
  have gr226 : Grew w0 (T_r) (fun i => (onB p) i ∨ ((onB g2) i ∨ ((tR R) i))) := fun i h => h.elim (fun y => gr188 i y) (fun y => y.elim (fun y => gr196 i y) (fun y => gr200 i y))
  exact end_2 s222 rfl (res_stc (vs := [.int .i64 (0), .int .i64 (0)]) stcT_vector rfl s223 B211) (res_tmp (v := .int .i64 (90)) rfl s224) ⟨(fun i => (onB p) i ∨ ((onB g2) i ∨ ((tR R) i))), (by rw [hR.1, hR.2.1, hR.2.2]), K219, ⟨B225, gr226⟩⟩
 ·skip
  refine wq_region ?_
  refine wl_call (R := fun v_ w_ => v_ = .bool false ∧ Kept (fun _ => False) w146 w_) rfl rfl (y_cs rfl rfl rfl (fun _ _ => by kernel_rfl) (ev_func _) (vsC s170 vsN) (t_lostX (p46) (((l))) ((rdStep (signedRd ((l)) (128)) ((rdStep (signedRd (l) (128)) (st)).2)).2) (((List.cons (p, st) R))) (T157) _  B159 ) (fun e_ w_ h_ => ⟨_, h_.1, (congrArg Value.bool d172), h_.2⟩)) ?_
  rintro _ w231 ⟨rfl, k232⟩
  have B234 := B155.all k232 id
  have B235 := B159.all k232 Apart.none
  have B236 := B165.all k232 id
  have K237 := K156.trans k232 (fun _ _ x => x.elim)
  refine wl_v (.bool false) rfl rfl (y_mov rfl rfl ⟨rfl, rfl⟩) ?_
  refine wl_vw (.agg #[.int .i64 ((rdX l st).1 + cl 64 A), .int .i64 ((rdX l (rdX l st).2).1 + cl 64 B)]) 1 false 27 rfl rfl rfl rfl rfl (y_load_stc stcT_vector rfl s171 B236 ⟨rfl, rfl⟩) ?_
  refine wl_callw (R := fun v_ w_ => v_ = .int .i64 (vecE ((rdX l st).1 + cl 64 A) ((rdX l (rdX l st).2).1 + cl 64 B)) ∧ Kept (fun _ => False) w231 w_) 1 false 27 rfl rfl rfl rfl rfl (y_cs rfl rfl rfl (fun _ _ => by kernel_rfl) (ev_func _) (vsC rfl vsN) (mo_check ((rdX l st).1 + cl 64 A) ((rdX l (rdX l st).2).1 + cl 64 B)  _   ) (fun e_ w_ h_ => ⟨_, h_.1, rfl, h_.2⟩)) ?_
  rintro _ w238 ⟨rfl, k239⟩
  have B241 := B234.all k239 id
  have B242 := B235.all k239 Apart.none
  have B243 := B236.all k239 id
  have K244 := K237.trans k239 (fun _ _ x => x.elim)
  refine wl_vw (.bool (decide ((vecE ((rdX l st).1 + cl 64 A) ((rdX l (rdX l st).2).1 + cl 64 B)) ≠ (0)))) 1 false 27 rfl rfl rfl rfl rfl (y_neqI rfl rfl rfl rfl ⟨rfl, rfl⟩) ?_
  refine wl_v (.bool (decide ((vecE ((rdX l st).1 + cl 64 A) ((rdX l (rdX l st).2).1 + cl 64 B)) ≠ (0)))) rfl rfl (y_pickF rfl rfl rfl ⟨rfl, rfl⟩) ?_
  refine wl_nil fun F245 hF246 => ?_
  have s247 := (hF246 0).trans s167
  have s248 := (hF246 37).trans s168
  have s249 := (hF246 4).trans s169
  have s250 := (hF246 6).trans s170
  have s251 := (hF246 7).trans s171
  have s252 : F245 31 = .bool (decide ((vecE ((rdX l st).1 + cl 64 A) ((rdX l (rdX l st).2).1 + cl 64 B)) ≠ (0))) := (hF246 31).trans rfl
  clear hF246
  refine then_normal ?_
  refine wq_cond s252 (fun c253 => ?_) (fun c253 => ?_)
  ·replace c253 := of_decide_eq_true c253
   refine wq_seq ?_
   have hk : ¬ rdOk l A B st := by unfold rdOk; rintro ⟨h7, h8⟩; first | exact h7 (Option.isNone_iff_eq_none.1 (by assumption)) | exact absurd (vecE_yes h8) (by assumption)
   have hR := vr_no hk
   obtain ⟨g2, a1, b1, a2, b2, hf2, hT2, ho1, ho2, hp2, hq2, hg2, hr2, ap1_, ap2_, ap3_, ap4_, ap5_, ap6_⟩ := rdx_pop B242
   have gr254 : Grew w0 (T_r) (onB p) := fun i h => gr161 i ((fun i h => (hT2 i).2 (Or.inl h)) i h)
   have ap256 : Apart (onB p) (onB p10) := fun i h => ap163 i ((fun i h => (hT2 i).2 (Or.inl h)) i h)
   have gr262 : Grew w0 (T_r) (onB g2) := fun i h => gr161 i ((fun i h => (hT2 i).2 (Or.inr (Or.inr (Or.inl h)))) i h)
   have ap264 : Apart (onB g2) (onB p10) := fun i h => ap163 i ((fun i h => (hT2 i).2 (Or.inr (Or.inr (Or.inl h)))) i h)
   have gr266 : Grew w0 (T_r) (tR R) := fun i h => gr161 i ((fun i h => (hT2 i).2 (Or.inr (Or.inr (Or.inr h)))) i h)
   have ap268 : Apart (tR R) (onB p10) := fun i h => ap163 i ((fun i h => (hT2 i).2 (Or.inr (Or.inr (Or.inr h)))) i h)
   have ap271 : Apart (onB p) (onB g2) := ap2_
   have ap272 : Apart (onB p) (tR R) := ap3_
   refine wq_region ?_
   refine wl_v (.agg #[.int .i64 (0), .int .i64 (0)]) rfl rfl (y_buildL (l' := []) (cells := #[.int .i64 (0), .int .i64 (0)]) rfl bpN (by kernel_rfl) rfl ⟨rfl, rfl⟩) ?_
   refine wl_store_stc (us := [.int .i64 (0), .int .i64 (0)]) stcT_vector rfl rfl rfl s249 rfl B241 rfl (oneI rfl (oneI rfl oneN)) fun w276 B277 k278 => ?_
   have B281 := hp2.all k278 (fun x => ((ap256) p rfl x))
   have B283 := hg2.all k278 (fun i h x => ((ap264) i h x))
   have B284 := hr2.all k278 (fun i h x => ((ap268) i h x))
   have K285 := K244.trans k278 (Grew.ok (S := T_r) gr15 noB_le)
   refine wl_v (.int .i64 (90)) rfl rfl (y_asg rfl rfl ⟨rfl, rfl⟩) ?_
   refine wl_nil fun F286 hF287 => ?_
   have s288 := (hF287 37).trans s248
   have s289 := (hF287 4).trans s249
   have s290 : F286 5 = .int .i64 (90) := (hF287 5).trans rfl
   clear hF287
   refine then_normal ?_
   refine wq_ret ?_
   refine then_ret ?_
   have B291 : Rdx w276 (fun i => (onB p) i ∨ ((onB g2) i ∨ ((tR R) i))) p (l) (vrT l A B st) (R) := (by first | (rw [show vrT l A B st = st from if_neg hk]; exact rdx_close hf2 ho1 B281 B283 B284 ap271 ap272) | (rw [show vrT l A B st = vrS l st from if_pos hk]; exact rdx_close hf2 ho2 B281 B283 B284 ap271 ap272))
   have gr292 : Grew w0 (T_r) (fun i => (onB p) i ∨ ((onB g2) i ∨ ((tR R) i))) := fun i h => h.elim (fun y => gr254 i y) (fun y => y.elim (fun y => gr262 i y) (fun y => gr266 i y))
   exact end_2 s288 rfl (res_stc (vs := [.int .i64 (0), .int .i64 (0)]) stcT_vector rfl s289 B277) (res_tmp (v := .int .i64 (90)) rfl s290) ⟨(fun i => (onB p) i ∨ ((onB g2) i ∨ ((tR R) i))), (by rw [hR.1, hR.2.1, hR.2.2]), K285, ⟨B291, gr292⟩⟩
  ·replace c253 := of_decide_eq_false c253
   refine wq_skip ?_
   refine then_normal ?_
   refine wq_seq ?_
   have hk : rdOk l A B st := by unfold rdOk; exact ⟨fun h7 => absurd (Option.isNone_iff_eq_none.2 h7) (Bool.eq_false_iff.1 (by assumption)), (vecE_iff _ _).1 (Decidable.byContradiction (by assumption))⟩
   have hR := vr_yes hk
   obtain ⟨g2, a1, b1, a2, b2, hf2, hT2, ho1, ho2, hp2, hq2, hg2, hr2, ap1_, ap2_, ap3_, ap4_, ap5_, ap6_⟩ := rdx_pop B242
   have gr297 : Grew w0 (T_r) (onB p) := fun i h => gr161 i ((fun i h => (hT2 i).2 (Or.inl h)) i h)
   have ap299 : Apart (onB p) (onB p10) := fun i h => ap163 i ((fun i h => (hT2 i).2 (Or.inl h)) i h)
   have ap300 : Apart (onB p) (onB p89) := fun i h => ap166 i ((fun i h => (hT2 i).2 (Or.inl h)) i h)
   have gr305 : Grew w0 (T_r) (onB g2) := fun i h => gr161 i ((fun i h => (hT2 i).2 (Or.inr (Or.inr (Or.inl h)))) i h)
   have ap307 : Apart (onB g2) (onB p10) := fun i h => ap163 i ((fun i h => (hT2 i).2 (Or.inr (Or.inr (Or.inl h)))) i h)
   have gr309 : Grew w0 (T_r) (tR R) := fun i h => gr161 i ((fun i h => (hT2 i).2 (Or.inr (Or.inr (Or.inr h)))) i h)
   have ap311 : Apart (tR R) (onB p10) := fun i h => ap163 i ((fun i h => (hT2 i).2 (Or.inr (Or.inr (Or.inr h)))) i h)
   have ap314 : Apart (onB p) (onB g2) := ap2_
   have ap315 : Apart (onB p) (tR R) := ap3_
   refine wq_region ?_
   refine wl_v (.pointer (some ⟨p, 0, none⟩)) rfl rfl (y_mov rfl s247 ⟨rfl, rfl⟩) ?_
   refine wl_v (.agg #[.slice (some ⟨g2, 0, none⟩) l.length l.length, .int .i64 (((a2 : Nat) : Int)), .bool (b2)]) rfl rfl (y_load_stc stcT_reader rfl s250 hq2 ⟨rfl, rfl⟩) ?_
   refine wl_v (.pointer (some ⟨p, 0, none⟩)) rfl rfl (y_nilc rfl rfl ⟨rfl, rfl⟩) ?_
   refine wl_store_stc (us := [.slice (some ⟨g2, 0, none⟩) l.length l.length, .int .i64 (((a2 : Nat) : Int)), .bool (b2)]) stcT_reader rfl rfl rfl rfl rfl hp2 rfl (oneI rfl (oneI rfl (oneI rfl oneN))) fun w319 B320 k321 => ?_
   have B323 := B241.all k321 (fun x => (((ap299).symm) p10 rfl x))
   have B324 := B243.all k321 (fun x => (((ap300).symm) p89 rfl x))
   have B326 := hg2.all k321 (fun i h x => (((ap314).symm) i h x))
   have B327 := hr2.all k321 (fun i h x => (((ap315).symm) i h x))
   have K328 := K244.trans k321 (Grew.ok (S := T_r) gr297 (fun _ x => x))
   refine wl_nil fun F329 hF330 => ?_
   have s331 := (hF330 37).trans s248
   have s332 := (hF330 4).trans s249
   have s333 := (hF330 7).trans s251
   clear hF330
   refine then_normal ?_
   refine wq_seq ?_
   refine wq_region ?_
   refine wl_v (.agg #[.int .i64 ((rdX l st).1 + cl 64 A), .int .i64 ((rdX l (rdX l st).2).1 + cl 64 B)]) rfl rfl (y_load_stc stcT_vector rfl s333 B324 ⟨rfl, rfl⟩) ?_
   refine wl_store_stc (us := [.int .i64 ((rdX l st).1 + cl 64 A), .int .i64 ((rdX l (rdX l st).2).1 + cl 64 B)]) stcT_vector rfl rfl rfl s332 rfl B323 rfl (oneI rfl (oneI rfl oneN)) fun w334 B335 k336 => ?_
   have B339 := B320.all k336 (fun x => ((ap299) p rfl x))
   have B341 := B326.all k336 (fun i h x => ((ap307) i h x))
   have B342 := B327.all k336 (fun i h x => ((ap311) i h x))
   have K343 := K328.trans k336 (Grew.ok (S := T_r) gr15 noB_le)
   refine wl_v (.int .i64 (0)) rfl rfl (y_asg rfl rfl ⟨rfl, rfl⟩) ?_
   refine wl_nil fun F344 hF345 => ?_
   have s346 := (hF345 37).trans s331
   have s347 := (hF345 4).trans s332
   have s348 : F344 5 = .int .i64 (0) := (hF345 5).trans rfl
   clear hF345
   refine then_normal ?_
   refine wq_ret ?_
   have B349 : Rdx w334 (fun i => (onB p) i ∨ ((onB g2) i ∨ ((tR R) i))) p (l) (vrT l A B st) (R) := (by first | (rw [show vrT l A B st = st from if_neg hk]; exact rdx_close hf2 ho1 B339 B341 B342 ap314 ap315) | (rw [show vrT l A B st = vrS l st from if_pos hk]; exact rdx_close hf2 ho2 B339 B341 B342 ap314 ap315))
   have gr350 : Grew w0 (T_r) (fun i => (onB p) i ∨ ((onB g2) i ∨ ((tR R) i))) := fun i h => h.elim (fun y => gr297 i y) (fun y => y.elim (fun y => gr305 i y) (fun y => gr309 i y))
   exact end_2 s346 rfl (res_stc (vs := [.int .i64 ((rdX l st).1 + cl 64 A), .int .i64 ((rdX l (rdX l st).2).1 + cl 64 B)]) stcT_vector rfl s347 B335) (res_tmp (v := .int .i64 (0)) rfl s348) ⟨(fun i => (onB p) i ∨ ((onB g2) i ∨ ((tR R) i))), (by rw [hR.1, hR.2.1, hR.2.2]), K343, ⟨B349, gr350⟩⟩

set_option maxHeartbeats 4000000 in
set_option maxRecDepth 100000 in
theorem scan_readX (p : Nat) (l : List Nat) (st : Option Nat) (R : List (Nat × Option Nat)) (T_r : Nat → Prop) (w0 : World) (hO : ScanIn w0) (hG : ∀ i, T_r i → 1 < i) (h_r : Rdx w0 T_r p (l) (st) (R)) :
  Calls Tryz.prog 36 #[.pointer (some ⟨p, 0, none⟩)] w0 fun e w' => ∃ (T_r' : Nat → Prop), e = .returned (.tuple #[blkV ((scanRd l st).1), .int .i64 ((scanRd l st).2.1)]) ∧ Kept (T_r) w0 w' ∧ (Rdx w' T_r' p (l) (rdSt l st) (R) ∧ Grew w0 T_r T_r') := by
 refine calls_wq (args := [.pointer (some ⟨p, 0, none⟩)]) 48 Tryz.func36 rfl rfl (Nat.le_of_ble_eq_true rfl) ?_
 have K0 := Kept.refl (T_r) w0
 have hle := gBig_whole l st
 obtain ⟨M, hM⟩ : ∃ M, M = (rdStep (wholeRd l gBig) st).1.toNat := ⟨_, rfl⟩
 have g_r := Grew.refl w0 T_r
 refine wq_seq ?_
 refine wq_region ?_
 refine wl_alloc_blk rfl rfl rfl blkT_block.2.2 fun p1 w2 e5 B3 k4 => ?_
 have g6 := onB_new (Nat.le_of_eq e5.symm)
 have gr7 : Grew w0 noB (onB p1) := Grew.new K0 g6
 have ap8 : Apart (onB p1) (T_r) := Apart.new g6 (h_r).live
 clear e5 g6
 have B9 := h_r.all k4 Apart.none
 have K10 := K0.trans k4 (fun _ _ x => x.elim)
 refine wl_v (.int .i64 (0)) rfl rfl (y_asg rfl rfl ⟨rfl, rfl⟩) ?_
 refine wl_nil fun F11 hF12 => ?_
 have s13 : F11 0 = .pointer (some ⟨p, 0, none⟩) := (hF12 0).trans rfl
 have s14 : F11 48 = undef := (hF12 48).trans rfl
 have s15 : F11 2 = .pointer (some ⟨p1, 0, none⟩) := (hF12 2).trans rfl
 have s16 : F11 3 = .int .i64 (0) := (hF12 3).trans rfl
 clear hF12
 refine then_normal ?_
 refine wq_scope ?_
 refine wq_seq ?_
 refine wq_seq ?_
 refine wq_region ?_
 refine wl_v (.pointer (some ⟨p, 0, none⟩)) rfl rfl (y_mov rfl s13 ⟨rfl, rfl⟩) ?_
 refine wl_v (.bool false) rfl rfl (y_noNil rfl rfl rfl Tryz.underlying50 ⟨rfl, rfl⟩) ?_
 refine wl_nil fun F17 hF18 => ?_
 have s19 := (hF18 0).trans s13
 have s20 := (hF18 48).trans s14
 have s21 := (hF18 2).trans s15
 have s22 := (hF18 3).trans s16
 have s23 : F17 9 = .bool false := (hF18 9).trans rfl
 clear hF18
 refine then_normal ?_
 refine wq_cond (t := false) s23 (fun e => by cases e) (fun _ => ?_)
 refine wq_skip ?_
 refine then_normal ?_
 refine wq_seq ?_
 refine wq_region ?_
 refine wl_alloc_blk rfl rfl rfl blkT_block.2.2 fun p24 w25 e28 B26 k27 => ?_
 have g29 := onB_new (Nat.le_of_eq e28.symm)
 have gr30 : Grew w0 noB (onB p24) := Grew.new K10 g29
 have ap31 : Apart (onB p24) (T_r) := Apart.new g29 (B9).live
 have ap32 : Apart (onB p24) (onB p1) := Apart.new g29 (onB_live (B3).lt)
 clear e28 g29
 have B33 := B9.all k27 Apart.none
 have B34 := B3.all k27 id
 have K35 := K10.trans k27 (fun _ _ x => x.elim)
 refine wl_nil fun F36 hF37 => ?_
 have s38 := (hF37 0).trans s19
 have s39 := (hF37 48).trans s20
 have s40 := (hF37 2).trans s21
 have s41 := (hF37 3).trans s22
 have s42 := (hF37 9).trans s23
 have s43 : F36 4 = .pointer (some ⟨p24, 0, none⟩) := (hF37 4).trans rfl
 clear hF37
 refine then_normal ?_
 refine wq_seq ?_
 refine wq_region ?_
 refine wl_v (.int .i64 (0)) rfl rfl (y_asg rfl rfl ⟨rfl, rfl⟩) ?_
 refine wl_nil fun F44 hF45 => ?_
 have s46 := (hF45 0).trans s38
 have s47 := (hF45 48).trans s39
 have s48 := (hF45 2).trans s40
 have s49 := (hF45 3).trans s41
 have s50 := (hF45 9).trans s42
 have s51 := (hF45 4).trans s43
 have s52 : F44 5 = .int .i64 (0) := (hF45 5).trans rfl
 clear hF45
 refine then_normal ?_
 refine wq_seq ?_
 refine wq_region ?_
 refine wl_v (.pointer (some ⟨p, 0, none⟩)) rfl rfl (y_mov rfl s46 ⟨rfl, rfl⟩) ?_
 refine wl_call (R := fun v_ w_ => ∃ (T55 : Nat → Prop), .int .i64 (((M : Nat) : Int)) = v_ ∧ Kept (T_r) w25 w_ ∧ (Rdx w_ T55 p ((l)) ((rdStep (wholeRd (l) (9223372036854775807)) (st)).2) ((R)) ∧ Grew w25 (T_r) T55)) rfl rfl (y_cs rfl rfl rfl (fun _ _ => by kernel_rfl) (ev_func _) (vsC rfl (vsC rfl vsN)) (t_rwholeX (p) (l) (st) (R) (9223372036854775807) (T_r) _  B33 ) (fun e_ w_ h_ => by obtain ⟨T55_, he_, hr_⟩ := h_; exact ⟨_, he_, T55_, (congrArg (Value.int .i64) (by rw [show (9223372036854775807 : Int) = gBig from rfl]; omega)).symm, hr_⟩)) ?_
 rintro _ w53 ⟨T55, rfl, k54, ⟨B56, g57⟩⟩
 have B58 := B34.all k54 (fun x => ((ap8) p1 rfl x))
 have B59 := B26.all k54 (fun x => ((ap31) p24 rfl x))
 have K60 := K35.trans k54 (fun i hi x => ((Grew.ok (S := T_r) g_r (fun _ x => x)) i hi x))
 have gr61 := g_r.trans K35 g57
 have ap62 : Apart T55 (onB p1) := ((ap8).symm).grew g57 (onB_live (B34).lt)
 have ap63 : Apart T55 (onB p24) := ((ap31).symm).grew g57 (onB_live (B26).lt)
 refine wl_v (.int .i64 (((M : Nat) : Int))) rfl rfl (y_asg rfl rfl ⟨rfl, rfl⟩) ?_
 refine wl_nil fun F64 hF65 => ?_
 have s66 := (hF65 0).trans s46
 have s67 := (hF65 48).trans s47
 have s68 := (hF65 2).trans s48
 have s69 := (hF65 3).trans s49
 have s70 := (hF65 9).trans s50
 have s71 := (hF65 4).trans s51
 have s72 := (hF65 5).trans s52
 have s73 : F64 6 = .int .i64 (((M : Nat) : Int)) := (hF65 6).trans rfl
 clear hF65
 refine then_normal ?_
 refine wq_seq ?_
 refine wq_seq ?_
 have B74 : Rdx w53 (T55) p (l) ((rdStep (wholeRd l gBig) st).2) (R) := (B56)
 rcases Bool.eq_false_or_eq_true (((rdStep (wholeRd l gBig) st).2).isNone) with d75 | d75
 ·skip
  refine wq_region ?_
  refine wl_v (.pointer (some ⟨p, 0, none⟩)) rfl rfl (y_mov rfl s66 ⟨rfl, rfl⟩) ?_
  refine wl_call (R := fun v_ w_ => v_ = .bool true ∧ Kept (fun _ => False) w53 w_) rfl rfl (y_cs rfl rfl rfl (fun _ _ => by kernel_rfl) (ev_func _) (vsC rfl vsN) (t_lostX (p) (l) ((rdStep (wholeRd l gBig) st).2) (R) (T55) _  B74 ) (fun e_ w_ h_ => ⟨_, h_.1, (congrArg Value.bool d75), h_.2⟩)) ?_
  rintro _ w76 ⟨rfl, k77⟩
  have B78 := B74.all k77 Apart.none
  have B79 := B58.all k77 id
  have K81 := K60.trans k77 (fun _ _ x => x.elim)
  refine wl_v (.bool true) rfl rfl (y_mov rfl rfl ⟨rfl, rfl⟩) ?_
  refine wl_unless 2 false 15 rfl rfl rfl (Or.inl rfl) rfl ?_
  refine wl_unless 2 false 15 rfl rfl rfl (Or.inl rfl) rfl ?_
  refine wl_v (.bool true) rfl rfl (y_pickT rfl rfl rfl ⟨rfl, rfl⟩) ?_
  refine wl_nil fun F82 hF83 => ?_
  have s85 := (hF83 48).trans s67
  have s86 := (hF83 2).trans s68
  have s92 : F82 18 = .bool true := (hF83 18).trans rfl
  clear hF83
  refine then_normal ?_
  refine wq_cond (t := true) s92 (fun _ => ?_) (fun e => by cases e)
  refine wq_goto ?_
  refine then_goto ?_
  refine jump_goto ⟨_, rfl, ?_⟩
  refine wq_seq ?_
  refine wq_skip ?_
  refine then_normal ?_
  refine wq_seq ?_
  first | have hR := g_none (l := l) (s := st) (Or.inl (by assumption)) | have hR := g_none (l := l) (s := st) (Or.inr (by omega)) | have hR := g_far (by omega) hI (by omega) | have hR := g_bad (by omega) hI (by omega) (by first | exact Or.inl (by assumption) | exact Or.inr (by assumption))
  refine wq_region ?_
  refine wl_v (blkV (fun _ => 0)) rfl rfl (y_buildR (cells := (arrL 16 (fun _ => 0)).toArray) rfl (by kernel_rfl) rfl ⟨rfl, rfl⟩) ?_
  refine wl_store_blk blkT_block rfl rfl rfl s86 rfl B79 fun w93 B94 k95 => ?_
  have B96 := B78.all k95 (fun i h x => ((ap62) i h x))
  have K98 := K81.trans k95 (Grew.ok (S := T_r) gr7 noB_le)
  refine wl_v (.int .i64 (60)) rfl rfl (y_asg rfl rfl ⟨rfl, rfl⟩) ?_
  refine wl_nil fun F99 hF100 => ?_
  have s101 := (hF100 48).trans s85
  have s102 := (hF100 2).trans s86
  have s103 : F99 3 = .int .i64 (60) := (hF100 3).trans rfl
  clear hF100
  refine then_normal ?_
  refine wq_ret ?_
  refine stay_ret ?_
  exact end_2 s101 rfl (res_blk blkT_block rfl s102 B94) (res_tmp (v := .int .i64 (60)) rfl s103) ⟨T55, (by rw [← (told_as hR).1, ← (told_as hR).2.1]), K98, ⟨(by rw [(told_as hR).2.2]; exact B96), gr61⟩⟩
 ·skip
  refine wq_region ?_
  refine wl_v (.pointer (some ⟨p, 0, none⟩)) rfl rfl (y_mov rfl s66 ⟨rfl, rfl⟩) ?_
  refine wl_call (R := fun v_ w_ => v_ = .bool false ∧ Kept (fun _ => False) w53 w_) rfl rfl (y_cs rfl rfl rfl (fun _ _ => by kernel_rfl) (ev_func _) (vsC rfl vsN) (t_lostX (p) (l) ((rdStep (wholeRd l gBig) st).2) (R) (T55) _  B74 ) (fun e_ w_ h_ => ⟨_, h_.1, (congrArg Value.bool d75), h_.2⟩)) ?_
  rintro _ w104 ⟨rfl, k105⟩
  have B106 := B74.all k105 Apart.none
  have B107 := B58.all k105 id
  have B108 := B59.all k105 id
  have K109 := K60.trans k105 (fun _ _ x => x.elim)
  refine wl_v (.bool false) rfl rfl (y_mov rfl rfl ⟨rfl, rfl⟩) ?_
  refine wl_vw (.int .i64 (((M : Nat) : Int))) 2 false 15 rfl rfl rfl rfl rfl (y_mov rfl s73 ⟨rfl, rfl⟩) ?_
  refine wl_vw (.bool (decide ((16) < (((M : Nat) : Int))))) 2 false 15 rfl rfl rfl rfl rfl (y_gtr rfl rfl rfl rfl ⟨rfl, rfl⟩) ?_
  refine wl_v (.bool (decide ((16) < (((M : Nat) : Int))))) rfl rfl (y_pickF rfl rfl rfl ⟨rfl, rfl⟩) ?_
  refine wl_nil fun F110 hF111 => ?_
  have s112 := (hF111 0).trans s66
  have s113 := (hF111 48).trans s67
  have s114 := (hF111 2).trans s68
  have s115 := (hF111 3).trans s69
  have s116 := (hF111 9).trans s70
  have s117 := (hF111 4).trans s71
  have s118 := (hF111 5).trans s72
  have s119 := (hF111 6).trans s73
  have s120 : F110 18 = .bool (decide ((16) < (((M : Nat) : Int)))) := (hF111 18).trans rfl
  clear hF111
  refine then_normal ?_
  refine wq_cond s120 (fun c121 => ?_) (fun c121 => ?_)
  ·replace c121 := of_decide_eq_true c121
   refine wq_goto ?_
   refine then_goto ?_
   refine jump_goto ⟨_, rfl, ?_⟩
   refine wq_seq ?_
   refine wq_skip ?_
   refine then_normal ?_
   refine wq_seq ?_
   first | have hR := g_none (l := l) (s := st) (Or.inl (by assumption)) | have hR := g_none (l := l) (s := st) (Or.inr (by omega)) | have hR := g_far (by omega) hI (by omega) | have hR := g_bad (by omega) hI (by omega) (by first | exact Or.inl (by assumption) | exact Or.inr (by assumption))
   refine wq_region ?_
   refine wl_v (blkV (fun _ => 0)) rfl rfl (y_buildR (cells := (arrL 16 (fun _ => 0)).toArray) rfl (by kernel_rfl) rfl ⟨rfl, rfl⟩) ?_
   refine wl_store_blk blkT_block rfl rfl rfl s114 rfl B107 fun w122 B123 k124 => ?_
   have B125 := B106.all k124 (fun i h x => ((ap62) i h x))
   have K127 := K109.trans k124 (Grew.ok (S := T_r) gr7 noB_le)
   refine wl_v (.int .i64 (60)) rfl rfl (y_asg rfl rfl ⟨rfl, rfl⟩) ?_
   refine wl_nil fun F128 hF129 => ?_
   have s130 := (hF129 48).trans s113
   have s131 := (hF129 2).trans s114
   have s132 : F128 3 = .int .i64 (60) := (hF129 3).trans rfl
   clear hF129
   refine then_normal ?_
   refine wq_ret ?_
   refine stay_ret ?_
   exact end_2 s130 rfl (res_blk blkT_block rfl s131 B123) (res_tmp (v := .int .i64 (60)) rfl s132) ⟨T55, (by rw [← (told_as hR).1, ← (told_as hR).2.1]), K127, ⟨(by rw [(told_as hR).2.2]; exact B125), gr61⟩⟩
  ·replace c121 := of_decide_eq_false c121
   refine wq_skip ?_
   refine then_normal ?_
   refine wq_seq ?_
   refine wq_seq ?_
   refine wq_region ?_
   refine wl_v (.int .i64 (((M : Nat) : Int))) rfl rfl (y_mov rfl s119 ⟨rfl, rfl⟩) ?_
   refine wl_v (.int .i64 (0)) rfl rfl (y_mov rfl rfl ⟨rfl, rfl⟩) ?_
   refine wl_nil fun F133 hF134 => ?_
   have s135 := (hF134 0).trans s112
   have s136 := (hF134 48).trans s113
   have s137 := (hF134 2).trans s114
   have s138 := (hF134 3).trans s115
   have s139 := (hF134 9).trans s116
   have s140 := (hF134 4).trans s117
   have s141 := (hF134 5).trans s118
   have s142 := (hF134 6).trans s119
   have s143 := (hF134 18).trans s120
   have s144 : F133 19 = .int .i64 (((M : Nat) : Int)) := (hF134 19).trans rfl
   have s145 : F133 20 = .int .i64 (0) := (hF134 20).trans rfl
   clear hF134
   refine then_normal ?_
   refine wq_block ?_
   refine wq_loop (fun nn FF ww => ∃ (i : Nat), ∃ (a : Nat), ∃ (b : Nat → Int), ∃ (s : Option Nat), ∃ (T146 : Nat → Prop), (i ≤ M) ∧ (a ≤ 16) ∧ (gRest l (M - i) a b s = gRd l st) ∧ nn = M - i ∧ FF 0 = .pointer (some ⟨p, 0, none⟩) ∧ FF 2 = .pointer (some ⟨p1, 0, none⟩) ∧ FF 3 = .int .i64 (0) ∧ FF 4 = .pointer (some ⟨p24, 0, none⟩) ∧ FF 6 = .int .i64 (((M : Nat) : Int)) ∧ FF 9 = .bool false ∧ FF 18 = .bool (decide ((16) < (((M : Nat) : Int)))) ∧ FF 19 = .int .i64 (((M : Nat) : Int)) ∧ FF 48 = undef ∧ FF 5 = .int .i64 (((a : Nat) : Int)) ∧ FF 20 = .int .i64 (((i : Nat) : Int)) ∧ Kept (T_r) w0 ww ∧ Rdx ww (T146) p (l) (s) (R) ∧ Blk ww p1 29 (fun _ => 0) ∧ Blk ww p24 29 (b) ∧ Grew w0 (T_r) T146 ∧ Apart (T146) (onB p1) ∧ Apart (T146) (onB p24)) (M - (0)) ⟨0, 0, (fun _ => 0), (rdStep (wholeRd l gBig) st).2, T55, by omega, by omega, (g_start (by assumption) (by omega) hM), rfl, s135, s137, s138, s140, s142, s139, s143, s144, s136, s141, s145, K109, B106, B107, B108, gr61, ap62, ap63⟩ ?_
   rintro n150 F147 w148 ⟨i, a, b, s, T146, i151, i152, hI, hn150, s153, s154, s155, s156, s157, s158, s159, s160, s161, s162, s163, K149, B164, B165, B166, gr167, ap168, ap169⟩
   refine wq_seq ?_
   refine wq_region ?_
   refine wl_v (.bool (decide ((((i : Nat) : Int)) < (((M : Nat) : Int))))) rfl rfl (y_lss rfl s163 s160 rfl ⟨rfl, rfl⟩) ?_
   refine wl_nil fun F170 hF171 => ?_
   have s172 := (hF171 0).trans s153
   have s173 := (hF171 2).trans s154
   have s174 := (hF171 3).trans s155
   have s175 := (hF171 4).trans s156
   have s176 := (hF171 6).trans s157
   have s177 := (hF171 9).trans s158
   have s178 := (hF171 18).trans s159
   have s179 := (hF171 19).trans s160
   have s180 := (hF171 48).trans s161
   have s181 := (hF171 5).trans s162
   have s182 := (hF171 20).trans s163
   have s183 : F170 21 = .bool (decide ((((i : Nat) : Int)) < (((M : Nat) : Int)))) := (hF171 21).trans rfl
   clear hF171
   refine then_normal ?_
   refine wq_seq ?_
   refine wq_cond s183 (fun c184 => ?_) (fun c184 => ?_)
   ·replace c184 := of_decide_eq_true c184
    refine wq_skip ?_
    refine then_normal ?_
    refine wq_seq ?_
    refine wq_block ?_
    refine wq_seq ?_
    have hat := gBig_at l a s
    refine wq_region ?_
    refine wl_v (.int .i64 (((a : Nat) : Int))) rfl rfl (y_mov rfl s181 ⟨rfl, rfl⟩) ?_
    refine wl_v (.pointer (some ⟨p, 0, none⟩)) rfl rfl (y_mov rfl s172 ⟨rfl, rfl⟩) ?_
    refine wl_call (R := fun v_ w_ => ∃ (T187 : Nat → Prop), .int .i64 ((rdStep (wholeRd (l) (9223372036854775807)) (s)).1) = v_ ∧ Kept (T146) w148 w_ ∧ (Rdx w_ T187 p ((l)) ((rdStep (wholeRd (l) (9223372036854775807)) (s)).2) ((R)) ∧ Grew w148 (T146) T187)) rfl rfl (y_cs rfl rfl rfl (fun _ _ => by kernel_rfl) (ev_func _) (vsC rfl (vsC rfl vsN)) (t_rwholeX (p) (l) (s) (R) (9223372036854775807) (T146) _  B164 ) (fun e_ w_ h_ => by obtain ⟨T187_, he_, hr_⟩ := h_; exact ⟨_, he_, T187_, rfl, hr_⟩)) ?_
    rintro _ w185 ⟨T187, rfl, k186, ⟨B188, g189⟩⟩
    have B190 := B165.all k186 (fun x => (((ap168).symm) p1 rfl x))
    have B191 := B166.all k186 (fun x => (((ap169).symm) p24 rfl x))
    have K192 := K149.trans k186 (fun i hi x => ((Grew.ok (S := T_r) gr167 (fun _ x => x)) i hi x))
    have gr193 := gr167.trans K149 g189
    have ap194 : Apart T187 (onB p1) := (ap168).grew g189 (onB_live (B165).lt)
    have ap195 : Apart T187 (onB p24) := (ap169).grew g189 (onB_live (B166).lt)
    refine wl_v (.int .i64 ((((gOne l a s).1 : Nat) : Int))) rfl rfl (y_add rfl rfl rfl (i64_n (by rw [show (9223372036854775807 : Int) = gBig from rfl]; exact hat.1) (by omega)) ⟨rfl, rfl⟩) ?_
    refine wl_v (.int .i64 ((((gOne l a s).1 : Nat) : Int))) rfl rfl (y_asg rfl rfl ⟨rfl, rfl⟩) ?_
    refine wl_nil fun F196 hF197 => ?_
    have s198 := (hF197 0).trans s172
    have s199 := (hF197 2).trans s173
    have s200 := (hF197 3).trans s174
    have s201 := (hF197 4).trans s175
    have s202 := (hF197 6).trans s176
    have s203 := (hF197 9).trans s177
    have s204 := (hF197 18).trans s178
    have s205 := (hF197 19).trans s179
    have s206 := (hF197 48).trans s180
    have s207 := (hF197 20).trans s182
    have s209 : F196 5 = .int .i64 ((((gOne l a s).1 : Nat) : Int)) := (hF197 5).trans rfl
    clear hF197
    refine then_normal ?_
    refine wq_seq ?_
    refine wq_seq ?_
    have B210 : Rdx w185 (T187) p (l) ((rdStep (wholeRd l gBig) s).2) (R) := (B188)
    refine wq_region ?_
    refine wl_v (.int .i64 ((((gOne l a s).1 : Nat) : Int))) rfl rfl (y_mov rfl s209 ⟨rfl, rfl⟩) ?_
    refine wl_v (.bool (decide ((16) ≤ ((((gOne l a s).1 : Nat) : Int))))) rfl rfl (y_geq rfl rfl rfl rfl ⟨rfl, rfl⟩) ?_
    refine wl_nil fun F211 hF212 => ?_
    have s213 := (hF212 0).trans s198
    have s214 := (hF212 2).trans s199
    have s215 := (hF212 3).trans s200
    have s216 := (hF212 4).trans s201
    have s217 := (hF212 6).trans s202
    have s218 := (hF212 9).trans s203
    have s219 := (hF212 18).trans s204
    have s220 := (hF212 19).trans s205
    have s221 := (hF212 48).trans s206
    have s222 := (hF212 20).trans s207
    have s224 := (hF212 5).trans s209
    have s225 : F211 27 = .bool (decide ((16) ≤ ((((gOne l a s).1 : Nat) : Int)))) := (hF212 27).trans rfl
    clear hF212
    refine then_normal ?_
    refine wq_cond s225 (fun c226 => ?_) (fun c226 => ?_)
    ·replace c226 := of_decide_eq_true c226
     refine wq_goto ?_
     refine then_goto ?_
     refine in_goto ?_
     refine then_goto ?_
     refine then_goto ?_
     refine in_goto ?_
     refine then_goto ?_
     refine jump_goto ⟨_, rfl, ?_⟩
     refine wq_seq ?_
     refine wq_skip ?_
     refine then_normal ?_
     refine wq_seq ?_
     first | have hR := g_none (l := l) (s := st) (Or.inl (by assumption)) | have hR := g_none (l := l) (s := st) (Or.inr (by omega)) | have hR := g_far (by omega) hI (by omega) | have hR := g_bad (by omega) hI (by omega) (by first | exact Or.inl (by assumption) | exact Or.inr (by assumption))
     refine wq_region ?_
     refine wl_v (blkV (fun _ => 0)) rfl rfl (y_buildR (cells := (arrL 16 (fun _ => 0)).toArray) rfl (by kernel_rfl) rfl ⟨rfl, rfl⟩) ?_
     refine wl_store_blk blkT_block rfl rfl rfl s214 rfl B190 fun w227 B228 k229 => ?_
     have B230 := B210.all k229 (fun i h x => ((ap194) i h x))
     have K232 := K192.trans k229 (Grew.ok (S := T_r) gr7 noB_le)
     refine wl_v (.int .i64 (60)) rfl rfl (y_asg rfl rfl ⟨rfl, rfl⟩) ?_
     refine wl_nil fun F233 hF234 => ?_
     have s235 := (hF234 2).trans s214
     have s236 := (hF234 48).trans s221
     have s237 : F233 3 = .int .i64 (60) := (hF234 3).trans rfl
     clear hF234
     refine then_normal ?_
     refine wq_ret ?_
     refine stay_ret ?_
     exact end_2 s236 rfl (res_blk blkT_block rfl s235 B228) (res_tmp (v := .int .i64 (60)) rfl s237) ⟨T187, (by rw [← (told_as hR).1, ← (told_as hR).2.1]), K232, ⟨(by rw [(told_as hR).2.2]; exact B230), gr193⟩⟩
    ·replace c226 := of_decide_eq_false c226
     refine wq_skip ?_
     refine then_normal ?_
     refine wq_seq ?_
     refine wq_region ?_
     refine wl_v (.pointer (some ⟨p, 0, none⟩)) rfl rfl (y_mov rfl s213 ⟨rfl, rfl⟩) ?_
     refine wl_call (R := fun v_ w_ => ∃ (T240 : Nat → Prop), .int .i64 ((gOne l a s).2.1) = v_ ∧ Kept (T187) w185 w_ ∧ (Rdx w_ T240 p ((l)) ((rdStep (signedRd (l) (9223372036854775807)) ((rdStep (wholeRd l gBig) s).2)).2) ((R)) ∧ Grew w185 (T187) T240)) rfl rfl (y_cs rfl rfl rfl (fun _ _ => by kernel_rfl) (ev_func _) (vsC rfl (vsC rfl vsN)) (t_rsignedX (p) (l) ((rdStep (wholeRd l gBig) s).2) (R) (9223372036854775807) (T187) _  B210 ) (fun e_ w_ h_ => by obtain ⟨T240_, he_, hr_⟩ := h_; exact ⟨_, he_, T240_, rfl, hr_⟩)) ?_
     rintro _ w238 ⟨T240, rfl, k239, ⟨B241, g242⟩⟩
     have B243 := B190.all k239 (fun x => (((ap194).symm) p1 rfl x))
     have B244 := B191.all k239 (fun x => (((ap195).symm) p24 rfl x))
     have K245 := K192.trans k239 (fun i hi x => ((Grew.ok (S := T_r) gr193 (fun _ x => x)) i hi x))
     have gr246 := gr193.trans K192 g242
     have ap247 : Apart T240 (onB p1) := (ap194).grew g242 (onB_live (B190).lt)
     have ap248 : Apart T240 (onB p24) := (ap195).grew g242 (onB_live (B191).lt)
     refine wl_v (.int .i64 ((gOne l a s).2.1)) rfl rfl (y_asg rfl rfl ⟨rfl, rfl⟩) ?_
     refine wl_nil fun F249 hF250 => ?_
     have s251 := (hF250 0).trans s213
     have s252 := (hF250 2).trans s214
     have s253 := (hF250 3).trans s215
     have s254 := (hF250 4).trans s216
     have s255 := (hF250 6).trans s217
     have s256 := (hF250 9).trans s218
     have s257 := (hF250 18).trans s219
     have s258 := (hF250 19).trans s220
     have s259 := (hF250 48).trans s221
     have s260 := (hF250 20).trans s222
     have s262 := (hF250 5).trans s224
     have s264 : F249 7 = .int .i64 ((gOne l a s).2.1) := (hF250 7).trans rfl
     clear hF250
     refine then_normal ?_
     refine wq_seq ?_
     refine wq_seq ?_
     have B265 : Rdx w238 (T240) p (l) ((gOne l a s).2.2) (R) := (B241)
     by_cases d266 : ((gOne l a s).2.1) = (0)
     ·skip
      refine wq_region ?_
      refine wl_v (.int .i64 ((gOne l a s).2.1)) rfl rfl (y_mov rfl s264 ⟨rfl, rfl⟩) ?_
      refine wl_v (.bool true) rfl rfl (y_eqlI rfl rfl rfl (decide_eq_true d266) ⟨rfl, rfl⟩) ?_
      refine wl_v (.bool true) rfl rfl (y_mov rfl rfl ⟨rfl, rfl⟩) ?_
      refine wl_unless 2 false 32 rfl rfl rfl (Or.inl rfl) rfl ?_
      refine wl_unless 2 false 32 rfl rfl rfl (Or.inl rfl) rfl ?_
      refine wl_unless 2 false 32 rfl rfl rfl (Or.inl rfl) rfl ?_
      refine wl_unless 2 false 32 rfl rfl rfl (Or.inl rfl) rfl ?_
      refine wl_v (.bool true) rfl rfl (y_pickT rfl rfl rfl ⟨rfl, rfl⟩) ?_
      refine wl_nil fun F267 hF268 => ?_
      have s270 := (hF268 2).trans s252
      have s277 := (hF268 48).trans s259
      have s283 : F267 37 = .bool true := (hF268 37).trans rfl
      clear hF268
      refine then_normal ?_
      refine wq_cond (t := true) s283 (fun _ => ?_) (fun e => by cases e)
      refine wq_goto ?_
      refine then_goto ?_
      refine in_goto ?_
      refine then_goto ?_
      refine then_goto ?_
      refine in_goto ?_
      refine then_goto ?_
      refine jump_goto ⟨_, rfl, ?_⟩
      refine wq_seq ?_
      refine wq_skip ?_
      refine then_normal ?_
      refine wq_seq ?_
      first | have hR := g_none (l := l) (s := st) (Or.inl (by assumption)) | have hR := g_none (l := l) (s := st) (Or.inr (by omega)) | have hR := g_far (by omega) hI (by omega) | have hR := g_bad (by omega) hI (by omega) (by first | exact Or.inl (by assumption) | exact Or.inr (by assumption))
      refine wq_region ?_
      refine wl_v (blkV (fun _ => 0)) rfl rfl (y_buildR (cells := (arrL 16 (fun _ => 0)).toArray) rfl (by kernel_rfl) rfl ⟨rfl, rfl⟩) ?_
      refine wl_store_blk blkT_block rfl rfl rfl s270 rfl B243 fun w284 B285 k286 => ?_
      have B287 := B265.all k286 (fun i h x => ((ap247) i h x))
      have K289 := K245.trans k286 (Grew.ok (S := T_r) gr7 noB_le)
      refine wl_v (.int .i64 (60)) rfl rfl (y_asg rfl rfl ⟨rfl, rfl⟩) ?_
      refine wl_nil fun F290 hF291 => ?_
      have s292 := (hF291 2).trans s270
      have s293 := (hF291 48).trans s277
      have s294 : F290 3 = .int .i64 (60) := (hF291 3).trans rfl
      clear hF291
      refine then_normal ?_
      refine wq_ret ?_
      refine stay_ret ?_
      exact end_2 s293 rfl (res_blk blkT_block rfl s292 B285) (res_tmp (v := .int .i64 (60)) rfl s294) ⟨T240, (by rw [← (told_as hR).1, ← (told_as hR).2.1]), K289, ⟨(by rw [(told_as hR).2.2]; exact B287), gr246⟩⟩
     ·skip
      refine wq_region ?_
      refine wl_v (.int .i64 ((gOne l a s).2.1)) rfl rfl (y_mov rfl s264 ⟨rfl, rfl⟩) ?_
      refine wl_v (.bool false) rfl rfl (y_eqlI rfl rfl rfl (decide_eq_false d266) ⟨rfl, rfl⟩) ?_
      refine wl_v (.bool false) rfl rfl (y_mov rfl rfl ⟨rfl, rfl⟩) ?_
      refine wl_vw (.int .i64 ((gOne l a s).2.1)) 2 false 32 rfl rfl rfl rfl rfl (y_mov rfl s264 ⟨rfl, rfl⟩) ?_
      refine wl_vw (.int .i64 ((gOne l a s).2.1)) 2 false 32 rfl rfl rfl rfl rfl (y_mov rfl s264 ⟨rfl, rfl⟩) ?_
      refine wl_callw (R := fun v_ w_ => v_ = .int .i64 (cl 1048576 ((gOne l a s).2.1)) ∧ Kept (fun _ => False) w238 w_) 2 false 32 rfl rfl rfl rfl rfl (y_cs rfl rfl rfl (fun _ _ => by kernel_rfl) (ev_func _) (vsC rfl vsN) (scan_clamped ((gOne l a s).2.1)  _   ) (fun e_ w_ h_ => ⟨_, h_.1, rfl, h_.2⟩)) ?_
      rintro _ w295 ⟨rfl, k296⟩
      have B297 := B265.all k296 Apart.none
      have B298 := B243.all k296 id
      have B299 := B244.all k296 id
      have K300 := K245.trans k296 (fun _ _ x => x.elim)
      refine wl_vw (.bool (decide (((gOne l a s).2.1) ≠ (cl 1048576 ((gOne l a s).2.1))))) 2 false 32 rfl rfl rfl rfl rfl (y_neqI rfl rfl rfl rfl ⟨rfl, rfl⟩) ?_
      refine wl_v (.bool (decide (((gOne l a s).2.1) ≠ (cl 1048576 ((gOne l a s).2.1))))) rfl rfl (y_pickF rfl rfl rfl ⟨rfl, rfl⟩) ?_
      refine wl_nil fun F301 hF302 => ?_
      have s303 := (hF302 0).trans s251
      have s304 := (hF302 2).trans s252
      have s305 := (hF302 3).trans s253
      have s306 := (hF302 4).trans s254
      have s307 := (hF302 6).trans s255
      have s308 := (hF302 9).trans s256
      have s309 := (hF302 18).trans s257
      have s310 := (hF302 19).trans s258
      have s311 := (hF302 48).trans s259
      have s312 := (hF302 20).trans s260
      have s314 := (hF302 5).trans s262
      have s316 := (hF302 7).trans s264
      have s317 : F301 37 = .bool (decide (((gOne l a s).2.1) ≠ (cl 1048576 ((gOne l a s).2.1)))) := (hF302 37).trans rfl
      clear hF302
      refine then_normal ?_
      refine wq_cond s317 (fun c318 => ?_) (fun c318 => ?_)
      ·replace c318 := of_decide_eq_true c318
       refine wq_goto ?_
       refine then_goto ?_
       refine in_goto ?_
       refine then_goto ?_
       refine then_goto ?_
       refine in_goto ?_
       refine then_goto ?_
       refine jump_goto ⟨_, rfl, ?_⟩
       refine wq_seq ?_
       refine wq_skip ?_
       refine then_normal ?_
       refine wq_seq ?_
       first | have hR := g_none (l := l) (s := st) (Or.inl (by assumption)) | have hR := g_none (l := l) (s := st) (Or.inr (by omega)) | have hR := g_far (by omega) hI (by omega) | have hR := g_bad (by omega) hI (by omega) (by first | exact Or.inl (by assumption) | exact Or.inr (by assumption))
       refine wq_region ?_
       refine wl_v (blkV (fun _ => 0)) rfl rfl (y_buildR (cells := (arrL 16 (fun _ => 0)).toArray) rfl (by kernel_rfl) rfl ⟨rfl, rfl⟩) ?_
       refine wl_store_blk blkT_block rfl rfl rfl s304 rfl B298 fun w319 B320 k321 => ?_
       have B322 := B297.all k321 (fun i h x => ((ap247) i h x))
       have K324 := K300.trans k321 (Grew.ok (S := T_r) gr7 noB_le)
       refine wl_v (.int .i64 (60)) rfl rfl (y_asg rfl rfl ⟨rfl, rfl⟩) ?_
       refine wl_nil fun F325 hF326 => ?_
       have s327 := (hF326 2).trans s304
       have s328 := (hF326 48).trans s311
       have s329 : F325 3 = .int .i64 (60) := (hF326 3).trans rfl
       clear hF326
       refine then_normal ?_
       refine wq_ret ?_
       refine stay_ret ?_
       exact end_2 s328 rfl (res_blk blkT_block rfl s327 B320) (res_tmp (v := .int .i64 (60)) rfl s329) ⟨T240, (by rw [← (told_as hR).1, ← (told_as hR).2.1]), K324, ⟨(by rw [(told_as hR).2.2]; exact B322), gr246⟩⟩
      ·replace c318 := of_decide_eq_false c318
       refine wq_skip ?_
       refine then_normal ?_
       refine wq_seq ?_
       have hN : ¬ ((gOne l a s).2.1 = 0 ∨ (gOne l a s).2.1 ≠ cl 1048576 (gOne l a s).2.1) := by rintro (h | h); exact absurd h (by assumption); exact absurd h (by assumption)
       have ho := ord_lt (gOne l a s).1 (by omega)
       refine wq_region ?_
       refine wl_v (.int .i64 ((((gOne l a s).1 : Nat) : Int))) rfl rfl (y_mov rfl s314 ⟨rfl, rfl⟩) ?_
       refine wl_v (.pointer (some ⟨1, (gOne l a s).1, none⟩)) rfl rfl (y_atR ((gOne l a s).1) (s := 1) rfl rfl rfl (by omega) Tryz.underlying28 (by omega) (by kernel_rfl) (by omega) ⟨rfl, rfl⟩) ?_
       refine wl_v (.int .i64 (((ord (gOne l a s).1 : Nat) : Int))) rfl rfl (y_ldR rfl rfl Tryz.underlying3 (((hO.but K300 hG).cell (by omega))) ⟨rfl, rfl⟩) ?_
       refine wl_v (.int .i64 ((gOne l a s).2.1)) rfl rfl (y_mov rfl s316 ⟨rfl, rfl⟩) ?_
       refine wl_v (.pointer (some ⟨p24, ord (gOne l a s).1, none⟩)) rfl rfl (y_atR (ord (gOne l a s).1) (s := 1) rfl s306 rfl (by omega) Tryz.underlying29 (by omega) (by kernel_rfl) (by omega) ⟨rfl, rfl⟩) ?_
       refine wl_set_blk rfl rfl rfl rfl rfl B299 (by omega) (by kernel_rfl) fun w330 B331 k332 => ?_
       have B333 := B297.all k332 (fun i h x => ((ap248) i h x))
       have B334 := B298.all k332 (fun x => (((ap32).symm) p1 rfl x))
       have K335 := K300.trans k332 (Grew.ok (S := T_r) gr30 noB_le)
       refine wl_nil fun F336 hF337 => ?_
       have s338 := (hF337 0).trans s303
       have s339 := (hF337 2).trans s304
       have s340 := (hF337 3).trans s305
       have s341 := (hF337 4).trans s306
       have s342 := (hF337 6).trans s307
       have s343 := (hF337 9).trans s308
       have s344 := (hF337 18).trans s309
       have s345 := (hF337 19).trans s310
       have s346 := (hF337 48).trans s311
       have s347 := (hF337 20).trans s312
       have s348 := (hF337 5).trans s314
       clear hF337
       refine then_normal ?_
       refine wq_region ?_
       refine wl_v (.int .i64 ((((gOne l a s).1 : Nat) : Int))) rfl rfl (y_mov rfl s348 ⟨rfl, rfl⟩) ?_
       refine wl_v (.int .i64 (((((gOne l a s).1) + 1 : Nat) : Int))) rfl rfl (y_add rfl rfl rfl (i64_n (by omega) (by omega)) ⟨rfl, rfl⟩) ?_
       refine wl_v (.int .i64 (((((gOne l a s).1) + 1 : Nat) : Int))) rfl rfl (y_asg rfl rfl ⟨rfl, rfl⟩) ?_
       refine wl_nil fun F351 hF352 => ?_
       have s353 := (hF352 0).trans s338
       have s354 := (hF352 2).trans s339
       have s355 := (hF352 3).trans s340
       have s356 := (hF352 4).trans s341
       have s357 := (hF352 6).trans s342
       have s358 := (hF352 9).trans s343
       have s359 := (hF352 18).trans s344
       have s360 := (hF352 19).trans s345
       have s361 := (hF352 48).trans s346
       have s362 := (hF352 20).trans s347
       have s365 : F351 5 = .int .i64 (((((gOne l a s).1) + 1 : Nat) : Int)) := (hF352 5).trans rfl
       clear hF352
       refine in_normal ?_
       refine then_normal ?_
       refine wq_region ?_
       refine wl_v (.int .i64 (((i + 1 : Nat) : Int))) rfl rfl (y_add rfl s362 rfl (i64_n (by omega) (by omega)) ⟨rfl, rfl⟩) ?_
       refine wl_v (.int .i64 (((i + 1 : Nat) : Int))) rfl rfl (y_mov rfl rfl ⟨rfl, rfl⟩) ?_
       refine wl_nil fun F366 hF367 => ?_
       have s368 := (hF367 0).trans s353
       have s369 := (hF367 2).trans s354
       have s370 := (hF367 3).trans s355
       have s371 := (hF367 4).trans s356
       have s372 := (hF367 6).trans s357
       have s373 := (hF367 9).trans s358
       have s374 := (hF367 18).trans s359
       have s375 := (hF367 19).trans s360
       have s376 := (hF367 48).trans s361
       have s379 := (hF367 5).trans s365
       have s380 : F366 20 = .int .i64 (((i + 1 : Nat) : Int)) := (hF367 20).trans rfl
       clear hF367
       exact then_normal ⟨(M - (i + 1)), by omega, i + 1, (gOne l a s).1 + 1, (upd b (ord (gOne l a s).1) (gOne l a s).2.1), (gOne l a s).2.2, T240, by omega, by omega, (g_ok (by omega) hI (by omega) hN), rfl, s368, s369, s370, s371, s372, s373, s374, s375, s376, s379, s380, K335, B333, B334, B331, gr246, ap247, ap248⟩
   ·replace c184 := of_decide_eq_false c184
    refine wq_exit ?_
    refine then_exit ?_
    refine then_exit ?_
    refine in_here ?_
    refine then_normal ?_
    refine wq_seq ?_
    refine wq_seq ?_
    have hR := g_done (by omega) hI
    refine wq_region ?_
    refine wl_v (blkV (b)) rfl rfl (y_load_blk blkT_block rfl s175 B166 ⟨rfl, rfl⟩) ?_
    refine wl_store_blk blkT_block rfl rfl rfl s173 rfl B165 fun w381 B382 k383 => ?_
    have B384 := B164.all k383 (fun i h x => ((ap168) i h x))
    have K386 := K149.trans k383 (Grew.ok (S := T_r) gr7 noB_le)
    refine wl_v (.int .i64 (0)) rfl rfl (y_asg rfl rfl ⟨rfl, rfl⟩) ?_
    refine wl_nil fun F387 hF388 => ?_
    have s389 := (hF388 2).trans s173
    have s390 := (hF388 48).trans s180
    have s391 : F387 3 = .int .i64 (0) := (hF388 3).trans rfl
    clear hF388
    refine then_normal ?_
    refine wq_ret ?_
    refine then_ret ?_
    refine jump_ret ?_
    exact end_2 s390 rfl (res_blk blkT_block rfl s389 B382) (res_tmp (v := .int .i64 (0)) rfl s391) ⟨T146, (by rw [← (told_as hR).1, ← (told_as hR).2.1]), K386, ⟨(by rw [(told_as hR).2.2]; exact B384), gr167⟩⟩
end Go.Proofs.YtdcbabgcbkdlhaaGreatDoor
