/- What PictureTells reaches of my texts, part 7. -/
import Derived.Test.YtknjpdcpmpfklaaGreatDoorPictureTellsF
set_option maxRecDepth 100000
set_option maxHeartbeats 4000000
set_option maxRecDepth 100000
namespace Go.Proofs.YtknjpdcpmpfklaaGreatDoor
open Go.RowKit
structure RowT (α : Type) where
  t : TypeId
  e : TypeId
  k : Nat
  by_ : Nat
  enc : α → List Value
  d : α
  z : Value
class RowT.Ok {α : Type} (r : RowT α) : Prop where
  slice : Tryz.prog.underlying r.t = some (.slice r.e)
  info : (Tryz.prog.info? r.e).map (fun i => (i.zero, i.size, i.bytes)) = some (some r.z, r.k, r.by_)
  cells : r.z.cells.toList = r.enc r.d
  pos : 0 < r.k
  len : ∀ x, (r.enc x).length = r.k
  one : ∀ x, ∀ u ∈ r.enc x, u.oneCell' = true
  small : r.by_ ≤ 192
section
variable {α : Type} {r : RowT α}
theorem flat_len [h : r.Ok] (l : List α) : (l.flatMap r.enc).length = l.length * r.k := by
  induction l with
  | nil => simp
  | cons x l ih => rw [List.flatMap_cons, List.length_append, ih, h.len, List.length_cons, Nat.add_mul]; omega
theorem flat_at [h : r.Ok] (l : List α) (i j : Nat) (hi : i < l.length) (hj : j < r.k) : (l.flatMap r.enc)[i * r.k + j]? = (r.enc (l.getD i r.d))[j]? := by
  induction l generalizing i with
  | nil => simp at hi
  | cons x l ih =>
    rw [List.flatMap_cons]
    cases i with
    | zero => rw [Nat.zero_mul, Nat.zero_add, List.getElem?_append_left (by rw [h.len]; exact hj)]; rfl
    | succ i =>
      have hi' : i < l.length := by simpa using hi
      rw [List.getElem?_append_right (by rw [h.len, Nat.add_mul]; omega), h.len, show (i + 1) * r.k + j - r.k = i * r.k + j by rw [Nat.add_mul]; omega, ih i hi']
      rfl
theorem flat_one [h : r.Ok] (l : List α) : ∀ u ∈ l.flatMap r.enc, u.oneCell' = true := fun u hu => by
  obtain ⟨x, _, hx⟩ := List.mem_flatMap.1 hu
  exact h.one x u hx
theorem flat_set [h : r.Ok] (l : List α) (i : Nat) (u : α) (hi : i < l.length) : (l.set i u).flatMap r.enc = (l.flatMap r.enc).take (i * r.k) ++ r.enc u ++ (l.flatMap r.enc).drop (i * r.k + r.k) := by
  induction l generalizing i with
  | nil => simp at hi
  | cons x l ih =>
    cases i with
    | zero =>
      rw [List.set_cons_zero, List.flatMap_cons, List.flatMap_cons, Nat.zero_mul, Nat.zero_add, List.take_zero, List.nil_append]
      congr 1
      rw [List.drop_append_of_le_length (by rw [h.len]; exact Nat.le_refl _), List.drop_of_length_le (by rw [h.len]; exact Nat.le_refl _), List.nil_append]
    | succ i =>
      have hi' : i < l.length := by simpa using hi
      have hx := h.len x
      rw [List.set_cons_succ, List.flatMap_cons, List.flatMap_cons, ih i hi']
      rw [List.take_append, List.drop_append, hx, show (i + 1) * r.k - r.k = i * r.k by rw [Nat.add_mul]; omega, show (i + 1) * r.k + r.k - r.k = i * r.k + r.k by rw [Nat.add_mul]; omega]
      have t1 : (r.enc x).take ((i + 1) * r.k) = r.enc x := List.take_of_length_le (by rw [hx, Nat.add_mul]; omega)
      have t2 : (r.enc x).drop ((i + 1) * r.k + r.k) = [] := List.drop_of_length_le (by rw [hx, Nat.add_mul]; omega)
      rw [t1, t2]
      simp
theorem flat_rep [h : r.Ok] (n : Nat) : (madeCells r.z.cells (n * r.k)).toList = (List.replicate n r.d).flatMap r.enc := by
  have hzs : r.z.cells.size = r.k := by rw [← Array.length_toList, h.cells, h.len]
  apply List.ext_getElem?
  intro m
  by_cases hm : m < n * r.k
  · have hk := h.pos
    have hi : m / r.k < n := Nat.div_lt_of_lt_mul (by rwa [Nat.mul_comm])
    have hj : m % r.k < r.k := Nat.mod_lt _ hk
    have e := flat_at (r := r) (List.replicate n r.d) (m / r.k) (m % r.k) (by simpa using hi) hj
    rw [show m / r.k * r.k + m % r.k = m by rw [Nat.mul_comm]; exact Nat.div_add_mod m r.k] at e
    have e2 : (List.replicate n r.d).getD (m / r.k) r.d = r.d := by simp [List.getD, hi]
    rw [e2, ← h.cells] at e
    rw [e]
    have hjz : m % r.k < r.z.cells.size := by rw [hzs]; exact hj
    simp only [madeCells, Array.toList_map, Array.toList_range, List.getElem?_map, List.getElem?_range hm, Option.map_some, hzs, Array.getElem?_toList]
    rw [getElem!_pos r.z.cells (m % r.k) hjz, Array.getElem?_eq_getElem hjz]
  · rw [List.getElem?_eq_none (by rw [Array.length_toList, size_madeCells]; omega), List.getElem?_eq_none (by rw [flat_len (r := r)]; simp; omega)]
def RoA (r : RowT α) (w : World) (T : Nat → Prop) (v : Value) (l : List α) : Prop :=
  ∃ a cap, v = .slice a l.length cap ∧ l.length ≤ cap ∧ cap ≤ maxLen ∧ (a = none → cap = 0) ∧ Live w T ∧
    (0 < l.length → ∃ b off, a = some ⟨b, off, none⟩ ∧ T b ∧ ∀ j u, (l.flatMap r.enc)[j]? = some u → w.cell? ⟨b, off + j, none⟩ = some u)
theorem RoA.nil (r : RowT α) (w : World) : RoA r w noB (.slice none 0 0) [] := ⟨none, 0, rfl, Nat.le_refl _, by unfold maxLen; omega, fun _ => rfl, fun _ h => h.elim, fun h => absurd h (by simp)⟩
theorem RoA.live {w : World} {T : Nat → Prop} {v : Value} {l : List α} (h : RoA r w T v l) : Live w T := by obtain ⟨_, _, _, _, _, _, h, _⟩ := h; exact h
theorem RoA.all {S : Nat → Prop} {w w' : World} {T : Nat → Prop} {v : Value} {l : List α} (h : RoA r w T v l) (k : Kept S w w') (ha : Apart T S) : RoA r w' T v l := by
  obtain ⟨a, cap, rfl, h1, h2, h3, hL, hc⟩ := h
  refine ⟨a, cap, rfl, h1, h2, h3, hL.mono k, fun hp => ?_⟩
  obtain ⟨b, off, rfl, hb, hcell⟩ := hc hp
  exact ⟨b, off, rfl, hb, fun j u hj => (World.cell?_of_block (k.block b (hL b hb) (ha b hb))).trans (hcell j u hj)⟩
theorem RoA.row {A B : World} {row : Option Nat} {n : Nat} {T : Nat → Prop} {v : Value} {l : List α} [hk : r.Ok] (h : RoA r A T v l) (hg : A.grownBy B row) (hr : RowNew n A row) : RoA r B T v l := by
  obtain ⟨a, cap, rfl, h1, h2, h3, hL, hc⟩ := h
  have k := kept_row hg
  refine ⟨a, cap, rfl, h1, h2, h3, hL.mono k, fun hp => ?_⟩
  obtain ⟨b, off, rfl, hb, hcell⟩ := hc hp
  have h0 : 0 < (l.flatMap r.enc).length := by rw [flat_len (r := r)]; exact Nat.mul_pos hp hk.pos
  refine ⟨b, off, rfl, hb, fun j u hj => (World.cell?_of_block (k.block b (hL b hb) fun e => ?_)).trans (hcell j u hj)⟩
  obtain ⟨_, o, ho, hn⟩ := hr b e.symm
  have := hcell 0 _ (List.getElem?_eq_getElem h0)
  unfold World.cell? at this
  simp only at this
  rw [ho] at this
  cases o <;> simp_all [Obj.isCells]
theorem RoA.one {w : World} {T : Nat → Prop} {v : Value} {l : List α} (h : RoA r w T v l) : v.oneCell' = true := by obtain ⟨a, cap, rfl, _⟩ := h; rfl
theorem RoA.oneC {w : World} {T : Nat → Prop} {v : Value} {l : List α} (h : RoA r w T v l) : oneC v = true := by obtain ⟨a, cap, rfl, _⟩ := h; rfl
theorem RoA.short {w : World} {T : Nat → Prop} {v : Value} {l : List α} (h : RoA r w T v l) : l.length ≤ 9223372036854775807 := by
  obtain ⟨a, cap, rfl, h1, h2, _⟩ := h; unfold maxLen at h2; omega
theorem Byt.slc {w : World} {T : Nat → Prop} {v : Value} {l : List Nat} (h : Byt w T v l) : ∃ a n c, v = .slice a n c := by obtain ⟨⟨a, cap, rfl, _⟩, _⟩ := h; exact ⟨_, _, _, rfl⟩
theorem Owb.slc {w : World} {T : Nat → Prop} {v : Value} {l : List Nat} (h : Owb w T v l) : ∃ a n c, v = .slice a n c := h.byt.slc
def RoO (r : RowT α) (w : World) (T : Nat → Prop) (v : Value) (l : List α) : Prop := w.ownsRow 0 r.e r.k v l.length (l.flatMap r.enc) ∧ ∀ i, T i ↔ v.ownBlock = some i
theorem RoO.nil (r : RowT α) (w : World) : RoO r w noB (.slice none 0 0) [] := ⟨World.ownsRow_nil w 0 r.e r.k, fun i => ⟨fun h => h.elim, fun h => by cases h⟩⟩
theorem RoO.live {w : World} {T : Nat → Prop} {v : Value} {l : List α} (h : RoO r w T v l) : Live w T := fun i hi => (h.1.lt i ((h.2 i).1 hi)).2
theorem RoO.all {S : Nat → Prop} {w w' : World} {T : Nat → Prop} {v : Value} {l : List α} (h : RoO r w T v l) (k : Kept S w w') (ha : Apart T S) : RoO r w' T v l := by
  refine ⟨⟨h.1.1, ?_⟩, h.2⟩
  rcases h.1.2 with hn | ⟨g, cap, cur, rfl, hb, hg, rest⟩
  · exact .inl hn
  · exact .inr ⟨g, cap, cur, rfl, hb, k.at hg (ha g ((h.2 g).2 rfl)), rest⟩
theorem RoO.roa {w : World} {T : Nat → Prop} {v : Value} {l : List α} (h : RoO r w T v l) : RoA r w T v l := by
  have hL := h.live
  rcases h.1.2 with ⟨rfl, h0⟩ | ⟨g, cap, cur, rfl, hb, hg, h1, h2, h3, h4⟩
  · have : l = [] := List.eq_nil_of_length_eq_zero h0
    subst this
    exact ⟨none, 0, rfl, Nat.le_refl _, by unfold maxLen; omega, fun _ => rfl, hL, fun h => absurd h (by simp)⟩
  · refine ⟨some ⟨g, 0, none⟩, cap, rfl, h1, h2, by simp, hL, fun _ => ⟨g, 0, rfl, (h.2 g).2 rfl, fun j u hj => ?_⟩⟩
    have := h.1.cells (g := g) rfl j u hj
    rwa [Addr.add_lit] at this
theorem RoO.cells {w : World} {T : Nat → Prop} {v : Value} {l : List α} (h : RoO r w T v l) : Cells w T := fun i hi => by
  have hv := (h.2 i).1 hi
  rcases h.1.2 with ⟨rfl, _⟩ | ⟨g, cap, cur, rfl, _, hg, _⟩
  · cases hv
  · cases hv; exact ⟨_, hg, rfl⟩
theorem RoO.row {A B : World} {row : Option Nat} {n : Nat} {T : Nat → Prop} {v : Value} {l : List α} (h : RoO r A T v l) (hg : A.grownBy B row) (hr : RowNew n A row) : RoO r B T v l := h.all (kept_row hg) (h.cells.apart hr)
theorem RoO.of {w : World} {v : Value} {l : List α} (h : w.ownsRow 0 r.e r.k v l.length (l.flatMap r.enc)) : RoO r w (fun i => v.ownBlock = some i) v l := ⟨h, fun _ => Iff.rfl⟩
theorem RoO.one {w : World} {T : Nat → Prop} {v : Value} {l : List α} (h : RoO r w T v l) : v.oneCell' = true := h.roa.one
theorem RoA.slc {w : World} {T : Nat → Prop} {v : Value} {l : List α} (h : RoA r w T v l) : ∃ a n c, v = .slice a n c := by obtain ⟨a, cap, rfl, _⟩ := h; exact ⟨_, _, _, rfl⟩
theorem RoO.slc {w : World} {T : Nat → Prop} {v : Value} {l : List α} (h : RoO r w T v l) : ∃ a n c, v = .slice a n c := h.roa.slc
theorem RoO.oneC {w : World} {T : Nat → Prop} {v : Value} {l : List α} (h : RoO r w T v l) : oneC v = true := h.roa.oneC
end
section
variable {α : Type} {r : RowT α} {ρ : Operand → Value} {o : Oper} {w : World} {R : Value → World → Prop}
theorem y_atRo {x ix : Operand} {T : Nat → Prop} {v : Value} {l : List α} {k : IntKind} [hk : r.Ok] (j : Nat) {i : Int} (ho : o.op = .indexAddr r.t x ix) (hx : ρ x = v) (hi : ρ ix = .int k i) (hij : i = (j : Int)) (hb : RoA r w T v l) (hj : j < l.length) (h : R (bytAddr v (j * r.k)) w) : Yields Tryz.prog ρ o w R := by
  subst hij
  obtain ⟨a, cap, rfl, _, _, _, _, hc⟩ := hb
  obtain ⟨b, off, rfl, _, _⟩ := hc (by omega)
  obtain ⟨i0, hi0, hz0, hz1, hz2⟩ := info_parts hk.info
  exact y_val (v := bytAddr (.slice (some ⟨b, off, none⟩) l.length cap) (j * r.k)) (w' := w) (by simp [execOp, ho, hx, hi, Instr.indexAt, run_underlying hk.slice, asIntOf, sizeOf, typeInfo, hi0, hz1, hj, bytAddr]) h
theorem RoA.shape {T : Nat → Prop} {v : Value} {l : List α} {j : Nat} (hb : RoA r w T v l) (hj : j < l.length) (m : Nat) : ∃ b off, bytAddr v m = .pointer (some ⟨b, off + m, none⟩) ∧ ∀ n, bytAddr v n = .pointer (some ⟨b, off + n, none⟩) := by
  obtain ⟨a, cap, rfl, _, _, _, _, hc⟩ := hb
  obtain ⟨b, off, rfl, _, _⟩ := hc (by omega)
  exact ⟨b, off, by rw [bytAddr, Addr.add_lit], fun n => by rw [bytAddr, Addr.add_lit]⟩
theorem y_ldRoP {x : Operand} {T : Nat → Prop} {v : Value} {l : List α} {ty : TypeId} {n : Nat} {us : List Value} [hk : r.Ok] (j m : Nat) (hT : StcT Tryz.prog ty n) (ho : o.op = .load ty x) (hx : ρ x = bytAddr v (j * r.k + m)) (hb : RoA r w T v l) (hj : j < l.length) (hm : m + n ≤ r.k) (hu : ((r.enc (l.getD j r.d)).drop m).take n = us) (h : R (.agg us.toArray) w) : Yields Tryz.prog ρ o w R := by
  subst hu
  obtain ⟨a, cap, rfl, _, _, _, _, hc⟩ := hb
  obtain ⟨b, off, rfl, _, hcell⟩ := hc (by omega)
  obtain ⟨d, hu, hd, hs⟩ := hT
  have hlen : (((r.enc (l.getD j r.d)).drop m).take n).length = n := by rw [List.length_take, List.length_drop, hk.len]; omega
  have e := run_loadVar_mid (P := Tryz.prog) w b (off + (j * r.k + m)) ty (((r.enc (l.getD j r.d)).drop m).take n) d (fun q u hq => by
    have hqn : q < n := by have := (List.getElem?_eq_some_iff.1 hq).1; omega
    rw [show off + (j * r.k + m) + q = off + (j * r.k + (m + q)) by omega]
    refine hcell (j * r.k + (m + q)) u ?_
    rw [flat_at (r := r) l j (m + q) hj (by omega)]
    rwa [List.getElem?_take, if_pos hqn, List.getElem?_drop] at hq) hu hd (by rw [hlen]; exact hs)
  have hx' : ρ x = .pointer (some ⟨b, off + (j * r.k + m), none⟩) := by rw [hx, bytAddr, Addr.add_lit]
  exact y_val (v := .agg (((r.enc (l.getD j r.d)).drop m).take n).toArray) (w' := w) (by simp only [execOp, ho, hx', Instr.loadAt, Instr.sureAddr, Sem.run_bind, Sem.run_pure, Result.andThen_ok, e]) h
theorem y_lenRo {c : Call} {x : Operand} {T : Nat → Prop} {v : Value} {l : List α} [hk : r.Ok] (ho : o.op = .call c) (hc : c = { callee := .builtin .len, args := #[x], argTypes := #[r.t] }) (hx : ρ x = v) (hb : RoA r w T v l) (h : R (.int .i64 ((l.length : Nat) : Int)) w) : Yields Tryz.prog ρ o w R := by
  subst hc
  obtain ⟨a, cap, rfl, _⟩ := hb
  exact y_len ho rfl rfl rfl hk.slice hx h
end
section
variable {α : Type} {r : RowT α} {ro : Option Nat} {N : Nat} {Q : (Exit → (Nat → Value) → World → Prop)} {F : Nat → Value} {w : World} {o : Oper}
theorem wl_setRo {ops : Array Oper} {rest : List Oper} {x y : Operand} {T : Nat → Prop} {v val : Value} {l : List α} {u : α} [hk : r.Ok] (j : Nat) (hg : o.guard = none) (hdn : o.dst = none) (ho : o.op = .store r.e x y) (hx : ev (cutF N F) x = bytAddr v (j * r.k)) (hy : ev (cutF N F) y = val) (hv : val.cells.toList = r.enc u) (hB : RoO r w T v l) (hj : j < l.length)
    (h : ∀ w', RoO r w' T v (l.set j u) → Kept T w w' → wl ro Tryz.prog N ops Q rest F w') : wl ro Tryz.prog N ops Q (o :: rest) F w := by
  have hc := hB
  rcases hB.1.2 with ⟨rfl, h0⟩ | ⟨g, cap, cur, rfl, hb, hgg, hnc, hcm, hcs, htake⟩
  · omega
  · obtain ⟨i0, hi0, hz0, hz1, hz2⟩ := info_parts hk.info
    have hx' : ev (cutF N F) x = .pointer (some ⟨g, j * r.k, none⟩) := by rw [hx, bytAddr, Addr.add_lit, Nat.zero_add]
    have hle : j * r.k + r.k ≤ l.length * r.k := by rw [← Nat.succ_mul]; exact Nat.mul_le_mul_right _ hj
    have hcap : l.length * r.k ≤ cap * r.k := Nat.mul_le_mul_right _ hnc
    have hul := hk.len u
    have hst := run_storeCells_at Tryz.prog g (j * r.k) r.e (r.enc u) 0 cur w hgg (by omega) (hk.one u)
    have hvs : val.cells.size = r.k := by rw [← Array.length_toList, hv, hul]
    simp only [Nat.add_zero] at hst
    refine wl_op hg (by rw [hdn]; rfl) ?_
    have e : (execOp (ev (cutF N F)) o).run Tryz.prog w = .ok .skip (w.setRow g (cur.toList.take (j * r.k) ++ r.enc u ++ cur.toList.drop (j * r.k + (r.enc u).length)).toArray) ∨ (execOp (ev (cutF N F)) o).run Tryz.prog w = .ok (.value undef) (w.setRow g (cur.toList.take (j * r.k) ++ r.enc u ++ cur.toList.drop (j * r.k + (r.enc u).length)).toArray) := by
      have hsv : (storeVar r.e ⟨g, j * r.k, none⟩ val).run Tryz.prog w = .ok () (w.setRow g (cur.toList.take (j * r.k) ++ r.enc u ++ cur.toList.drop (j * r.k + (r.enc u).length)).toArray) := by
        rw [← hv] at hst ⊢
        simp [storeVar, sizeOf, typeInfo, hi0, hz1, hvs, hst]
      left
      simp only [execOp, ho, hx', hy, Instr.storeAt, Instr.sureAddr, Sem.run_bind, Sem.run_pure, Result.andThen_ok, hsv]
    have hset := flat_set (r := r) l j u hj
    have hrow : RoO r (w.setRow g (cur.toList.take (j * r.k) ++ r.enc u ++ cur.toList.drop (j * r.k + (r.enc u).length)).toArray) T (.slice (some ⟨g, 0, none⟩) l.length cap) (l.set j u) := by
      refine ⟨⟨by rw [flat_len (r := r)], .inr ⟨g, cap, _, by rw [List.length_set], hb, setRow_heap _ _ _ _ _ _ hgg, by rw [List.length_set]; exact hnc, hcm, ?_, ?_⟩⟩, hB.2⟩
      · simp; omega
      · rw [List.length_set, hset, ← htake]
        have hcl : cur.toList.length = cap * r.k := by simpa using hcs
        have hpl : (cur.toList.take (j * r.k) ++ r.enc u).length = j * r.k + r.k := by rw [List.length_append, List.length_take, hul]; omega
        rw [List.toList_toArray, List.take_append, List.take_of_length_le (by rw [hpl]; exact hle), hpl, List.take_take, Nat.min_eq_left (by omega), List.drop_take, hul]
    unfold Yields
    rw [hdn]
    rcases e with e | e <;> rw [e] <;> exact h _ hrow ((Kept.refl T w).setRow g (fun _ => (hB.2 g).2 rfl) _)
theorem wl_makeRo {ops : Array Oper} {rest : List Oper} {x y : Operand} {kl kc : IntKind} {n : Nat} {i j : Int} [hk : r.Ok] (hg : o.guard = none) (hd : fits N o.dst = true) (ho : o.op = .makeSlice r.t x y) (hx : ev (cutF N F) x = .int kl i) (hy : ev (cutF N F) y = .int kc j) (hi : i = (n : Int)) (hj : j = (n : Int)) (hn : n < 1099511627776)
    (h : ∀ v w' T, RoO r w' T v (List.replicate n r.d) → Grew w noB T → Kept (fun _ => False) w w' → wl ro Tryz.prog N ops Q rest (putF F o.dst v) w') : wl ro Tryz.prog N ops Q (o :: rest) F w := by
  subst hi; subst hj
  obtain ⟨i0, hi0, hz0, hz1, hz2⟩ := info_parts hk.info
  have hsm := hk.small
  have hr := run_make (P := Tryz.prog) w r.t r.e i0 r.z hk.slice hi0 hz0 kl kc n n (by omega) (Int.le_refl _) (by
    rw [hz2]
    have h1 : r.by_ * n ≤ 192 * 1099511627776 := Nat.mul_le_mul hsm (by omega)
    have h2 : ((r.by_ * n : Nat) : Int) = (r.by_ : Int) * (n : Int) := Int.natCast_mul _ _
    omega) (by omega)
  simp only [Int.toNat_natCast, hz1] at hr
  refine wl_op hg hd (y_val (v := .slice (some ⟨w.heap.size, 0, none⟩) n n) (w' := w.alloc (.cells (madeCells r.z.cells (n * r.k)) r.e)) (by simp [execOp, ho, hx, hy, hr]) (h _ _ _ (RoO.of ⟨by rw [flat_len (r := r)], .inr ⟨w.heap.size, n, _, by rw [List.length_replicate], Nat.zero_le _, heap_alloc_new _ _, by rw [List.length_replicate]; exact Nat.le_refl _, by unfold maxLen; omega, size_madeCells _ _, ?_⟩⟩) (fun i hi => .inr ?_) ((Kept.refl _ _).alloc _)))
  · rw [← flat_rep (r := r) n, List.length_replicate, List.take_of_length_le (by rw [Array.length_toList, size_madeCells]; exact Nat.le_refl _)]
  · cases hi; exact Nat.le_refl _
theorem wl_appendRo {ops : Array Oper} {rest : List Oper} {c : Call} {x y : Operand} {T U : Nat → Prop} {v u : Value} {l m : List α} [hk : r.Ok] (hg : o.guard = none) (hd : fits N o.dst = true) (ho : o.op = .call c) (hc : c = { callee := .builtin .append, args := #[x, y], argTypes := #[r.t, r.t] }) (hx : ev (cutF N F) x = v) (hy : ev (cutF N F) y = u) (hv : RoO r w T v l) (hu : RoA r w U u m) (hl : l.length + m.length < 549755813888)
    (h : ∀ v' w' T', RoO r w' T' v' (l ++ m) → Grew w T T' → Kept T w w' → wl ro Tryz.prog N ops Q rest (putF F o.dst v') w') : wl ro Tryz.prog N ops Q (o :: rest) F w := by
  subst hc
  obtain ⟨i0, hi0, hz0, hz1, hz2⟩ := info_parts hk.info
  obtain ⟨a, cap, rfl, h1, h2, h3, _, hcu⟩ := hu
  cases a with
  | none =>
    have hc0 := h3 rfl
    subst hc0
    have hm : m = [] := List.eq_nil_of_length_eq_zero (by omega)
    subst hm
    have hr := run_append_owned_none (P := Tryz.prog) w 0 r.t o.type r.e i0 r.k hk.slice hi0 v _ _ hv.1
    refine wl_op hg hd (y_val (v := v) (w' := w) (by simp [execOp, ho, resolve, invoke, builtin, hx, hy, hr]) (h v w T (by rw [List.append_nil]; exact hv) (Grew.refl w T) (Kept.refl _ _)))
  | some ad =>
    have hzs : r.z.cells.size = r.k := by rw [← Array.length_toList, hk.cells, hk.len]
    obtain ⟨v', w', hr, hown, hgr, hw⟩ := run_append_whose (P := Tryz.prog) w r.t o.type r.e i0 r.z r.k r.by_ hk.slice hi0 hz0 hz1 hz2 hzs hk.pos v l.length (l.flatMap r.enc) hv.1 ad m.length cap (m.flatMap r.enc) (flat_len (r := r) m) (fun j x hj => by
      have hp : 0 < m.length := by
        rcases Nat.eq_zero_or_pos m.length with e | e
        · have : m = [] := List.eq_nil_of_length_eq_zero e
          subst this; simp at hj
        · exact e
      obtain ⟨b, off, e, _, hcell⟩ := hcu hp
      cases e
      rw [Addr.add_lit]; exact hcell j x hj) (flat_one (r := r) m) (by unfold maxLen; omega) (by
        have hsm := hk.small
        have : (l.length + m.length) * r.by_ ≤ 549755813888 * 192 := Nat.mul_le_mul (by omega) hsm
        omega)
    refine wl_op hg hd (y_val (v := v') (w' := w') (by simp [execOp, ho, resolve, invoke, builtin, hx, hy, hr]) (h v' w' _ (RoO.of (by rw [List.length_append, List.flatMap_append]; exact hown)) (fun i hi => ?_) ((Kept.refl T w).grown hgr (fun k e _ => (hv.2 k).2 e))))
    rcases hw with hw | ⟨g, hw, hge⟩
    · exact .inl ((hv.2 i).2 (hw ▸ hi))
    · rw [hw] at hi; cases hi; exact .inr hge
theorem wl_builtRo {ops : Array Oper} {rest : List Oper} {parts : Array (Nat × Operand)} {n : Nat} {xs : List Operand} {vs : List Value} {l : List α} [hk : r.Ok] (hg : o.guard = none) (hd : fits N o.dst = true) (ho : o.op = .buildSlice r.t n parts) (hn : n = l.length) (hp : parts.toList = (xs.zipIdx 0).map fun x => (x.2, x.1)) (hx : xs.map (ev (cutF N F)) = vs) (hv : (vs.map fun v => v.cells.toList) = l.map r.enc) (h0 : 0 < l.length) (hsz : l.length * r.k ≤ 65536)
    (h : ∀ v w' T, RoO r w' T v l → Grew w noB T → Kept (fun _ => False) w w' → wl ro Tryz.prog N ops Q rest (putF F o.dst v) w') : wl ro Tryz.prog N ops Q (o :: rest) F w := by
  subst hn; subst hx
  obtain ⟨i0, hi0, hz0, hz1, hz2⟩ := info_parts hk.info
  have hpos := hk.pos
  have hlp : 0 < l.length * r.k := Nat.mul_pos h0 hpos
  have hlen : xs.length = l.length := by have := congrArg List.length hv; simpa using this
  have hflat : (xs.map (ev (cutF N F))).flatMap (fun v => v.cells.toList) = l.flatMap r.enc := by
    rw [List.flatMap_def, List.flatMap_def, hv]
  have hsize : ∀ v ∈ xs.map (ev (cutF N F)), v.cells.size = r.k := by
    intro v hv'
    have : v.cells.toList ∈ l.map r.enc := by rw [← hv]; exact List.mem_map.2 ⟨v, hv', rfl⟩
    obtain ⟨x, _, e⟩ := List.mem_map.1 this
    rw [← Array.length_toList, ← e, hk.len]
  have hrun := run_buildSlice (P := Tryz.prog) w r.t r.e l.length (parts.map fun (i, x) => (i, ev (cutF N F) x)) (l.flatMap r.enc).toArray i0 r.z hk.slice hi0 hz0 (by rw [hz1]; omega) (by rw [hz1]; omega) (by
    rw [hz1]
    have e : (parts.map fun (i, x) => (i, ev (cutF N F) x)).toList = ((xs.map (ev (cutF N F))).zipIdx 0).map fun x => (x.2, x.1) := by
      rw [Array.toList_map, hp, List.zipIdx_map, List.map_map, List.map_map]; rfl
    rw [e, Great.fill_whole hpos _ _ hsize (by rw [List.length_map, hlen]; simp), hflat])
  refine wl_op hg hd (y_val (v := .slice (some ⟨w.heap.size, 0, none⟩) l.length l.length) (w' := w.alloc (.cells (l.flatMap r.enc).toArray r.e)) (by simp [execOp, ho, hrun]) (h _ _ _ (RoO.of ⟨flat_len (r := r) l, .inr ⟨w.heap.size, l.length, _, rfl, Nat.zero_le _, heap_alloc_new _ _, Nat.le_refl _, by unfold maxLen; have := Nat.le_mul_of_pos_right l.length hpos; omega, by rw [List.size_toArray, flat_len (r := r)], ?_⟩⟩) (fun i hi => .inr ?_) ((Kept.refl _ _).alloc _)))
  · rw [List.toList_toArray]; exact List.take_of_length_le (by rw [flat_len (r := r)]; exact Nat.le_refl _)
  · cases hi; exact Nat.le_refl _
end
end Go.Proofs.YtknjpdcpmpfklaaGreatDoor
set_option maxRecDepth 100000
namespace Go.Proofs.YtknjpdcpmpfklaaGreatDoor
open Go.RowKit
structure Vc where
  X : Int
  Y : Int
def rVec : RowT Vc := { t := 111, e := 67, k := 2, by_ := 16, enc := fun x => [.int .i64 x.X, .int .i64 x.Y], d := ⟨0, 0⟩, z := .agg #[.int .i64 0, .int .i64 0] }
theorem one_two {a b : Int} : ∀ u ∈ [Value.int .i64 a, Value.int .i64 b], u.oneCell' = true := fun u hu => by
  rcases List.mem_cons.1 hu with rfl | hu
  · rfl
  · rcases List.mem_cons.1 hu with rfl | hu
    · rfl
    · cases hu
instance rVec_ok : RowT.Ok rVec := ⟨Tryz.underlying111, by kernel_rfl, rfl, by decide, fun _ => rfl, fun _ => one_two, by decide⟩
def vfL (f : VF) : List Vc := (List.range (f.w * f.h).toNat).map fun (i : Nat) => ⟨f.X ((i : Int) % f.w) ((i : Int) / f.w), f.Y ((i : Int) % f.w) ((i : Int) / f.w)⟩
theorem vfL_length (f : VF) : (vfL f).length = (f.w * f.h).toNat := by unfold vfL; simp
theorem in_lt {f : VF} (k : OkV f) {x y : Int} (h : inV f x y) : 0 ≤ y * f.w + x ∧ y * f.w + x < f.w * f.h ∧ f.w * f.h ≤ 256 := by
  obtain ⟨h1, h2, h3, h4⟩ := h
  have hw := k.w; have hh := k.h
  have a1 : 0 ≤ y * f.w := Int.mul_nonneg h3 (by omega)
  have a2 : (y + 1) * f.w ≤ f.h * f.w := Int.mul_le_mul_of_nonneg_right (by omega) (by omega)
  have a3 : f.w * f.h ≤ 16 * 16 := Int.mul_le_mul hw.2 hh.2 (by omega) (by omega)
  rw [Int.add_mul, Int.one_mul, Int.mul_comm f.h] at a2
  omega
theorem in_div {f : VF} {x y : Int} (h : inV f x y) : (y * f.w + x) % f.w = x ∧ (y * f.w + x) / f.w = y := by
  obtain ⟨h1, h2, h3, h4⟩ := h
  constructor
  · rw [Int.add_comm, Int.add_mul_emod_self_right]; exact Int.emod_eq_of_lt h1 h2
  · rw [Int.add_comm, Int.add_mul_ediv_right _ _ (by omega), Int.ediv_eq_zero_of_lt h1 h2, Int.zero_add]
theorem vfL_at {f : VF} (k : OkV f) {x y : Int} (h : inV f x y) : (vfL f).getD (y * f.w + x).toNat ⟨0, 0⟩ = ⟨f.X x y, f.Y x y⟩ := by
  have hl := in_lt k h
  have hd := in_div h
  have e : (((y * f.w + x).toNat : Nat) : Int) = y * f.w + x := Int.toNat_of_nonneg hl.1
  unfold vfL
  rw [List.getD_eq_getElem?_getD, List.getElem?_map, List.getElem?_range (by omega)]
  simp only [Option.map_some, Option.getD_some, e, hd.1, hd.2]
theorem vfL_lay {f : VF} (k : OkV f) {x y : Int} (h : inV f x y) (X Y : Int) : (vfL f).set (y * f.w + x).toNat ⟨X, Y⟩ = vfL (layV f x y X Y) := by
  have hl := in_lt k h
  have hd := in_div h
  have hw := k.w
  apply List.ext_getElem?
  intro i
  have e : (((y * f.w + x).toNat : Nat) : Int) = y * f.w + x := Int.toNat_of_nonneg hl.1
  by_cases hi : i < (f.w * f.h).toNat
  · have e2 : (vfL (layV f x y X Y))[i]? = some ⟨(layV f x y X Y).X ((i : Int) % f.w) ((i : Int) / f.w), (layV f x y X Y).Y ((i : Int) % f.w) ((i : Int) / f.w)⟩ := by
      show ((List.range (f.w * f.h).toNat).map _)[i]? = _
      rw [List.getElem?_map, List.getElem?_range hi]; rfl
    rw [e2]
    by_cases hx : i = (y * f.w + x).toNat
    · subst hx
      rw [List.getElem?_set_self (by rw [vfL_length]; omega), e, hd.1, hd.2]
      unfold layV; simp
    · rw [List.getElem?_set_ne (fun e => hx e.symm)]
      have e3 : (vfL f)[i]? = some ⟨f.X ((i : Int) % f.w) ((i : Int) / f.w), f.Y ((i : Int) % f.w) ((i : Int) / f.w)⟩ := by
        unfold vfL; rw [List.getElem?_map, List.getElem?_range hi]; rfl
      rw [e3]
      have hn : ¬ ((i : Int) % f.w = x ∧ (i : Int) / f.w = y) := fun ⟨m1, m2⟩ => hx (by
        have := Int.mul_ediv_add_emod (i : Int) f.w
        rw [m1, m2, Int.mul_comm] at this
        omega)
      unfold layV; simp only [if_neg hn]
  · rw [List.getElem?_eq_none (by rw [List.length_set, vfL_length]; omega), List.getElem?_eq_none (by rw [vfL_length]; show (f.w * f.h).toNat ≤ i; omega)]
theorem vfL_new (w h : Int) : List.replicate (w * h).toNat (⟨0, 0⟩ : Vc) = vfL (newV w h) := by
  unfold vfL newV
  apply List.ext_getElem?
  intro i
  by_cases hi : i < (w * h).toNat
  · simp [hi]
  · simp [hi]
def Vfr (w : World) (T : Nat → Prop) (p : Nat) (f : VF) : Prop := ∃ v T2, (∀ i, T i ↔ (onB p i ∨ T2 i)) ∧ Stc w p 113 [.int .i64 f.w, .int .i64 f.h, v] ∧ RoO rVec w T2 v (vfL f) ∧ Apart (onB p) T2 ∧ OkV f
theorem Vfr.live {w : World} {T : Nat → Prop} {p : Nat} {f : VF} (h : Vfr w T p f) : Live w T := by
  obtain ⟨v, T2, hT, h1, h2, _⟩ := h
  exact fun i hi => ((hT i).1 hi).elim (fun e => by cases e; exact h1.lt) (fun e => h2.live i e)
theorem Vfr.all {S : Nat → Prop} {w w' : World} {T : Nat → Prop} {p : Nat} {f : VF} (h : Vfr w T p f) (k : Kept S w w') (ha : Apart T S) : Vfr w' T p f := by
  obtain ⟨v, T2, hT, h1, h2, h3, h4⟩ := h
  exact ⟨v, T2, hT, h1.all k (ha p ((hT p).2 (Or.inl rfl))), h2.all k (fun i hi => ha i ((hT i).2 (Or.inr hi))), h3, h4⟩
theorem Vfr.ok {w : World} {T : Nat → Prop} {p : Nat} {f : VF} (h : Vfr w T p f) : OkV f := by obtain ⟨_, _, _, _, _, _, h⟩ := h; exact h
def Vfo (w : World) (T : Nat → Prop) (v : Value) (o : Option VF) : Prop := match o with
  | none => v = .pointer none ∧ T = noB
  | some f => ∃ p, v = .pointer (some ⟨p, 0, none⟩) ∧ Vfr w T p f
theorem Vfo.nil (w : World) : Vfo w noB (.pointer none) none := ⟨rfl, rfl⟩
theorem Vfo.live {w : World} {T : Nat → Prop} {v : Value} {o : Option VF} (h : Vfo w T v o) : Live w T := by
  cases o with
  | none => obtain ⟨_, rfl⟩ := h; exact fun _ h => h.elim
  | some f => obtain ⟨p, _, h⟩ := h; exact h.live
theorem Vfo.all {S : Nat → Prop} {w w' : World} {T : Nat → Prop} {v : Value} {o : Option VF} (h : Vfo w T v o) (k : Kept S w w') (ha : Apart T S) : Vfo w' T v o := by
  cases o with
  | none => exact h
  | some f => obtain ⟨p, e, h⟩ := h; exact ⟨p, e, h.all k ha⟩
theorem Vfo.ok {w : World} {T : Nat → Prop} {v : Value} {f : VF} (h : Vfo w T v (some f)) : OkV f := by obtain ⟨_, _, h⟩ := h; exact h.ok
def optV (m n : Int) : Option VF := if sidesOk m n then some (newV m n) else none
def newVE (m n : Int) : Int := if sidesOk m n then 0 else 1
theorem optV_yes {m n : Int} (h : sidesOk m n) : optV m n = some (newV m n) := if_pos h
theorem optV_no {m n : Int} (h : ¬ sidesOk m n) : optV m n = none := if_neg h
theorem newVE_yes {m n : Int} (h : sidesOk m n) : newVE m n = 0 := if_pos h
theorem newVE_no {m n : Int} (h : ¬ sidesOk m n) : newVE m n = 1 := if_neg h
theorem sides_mul {m n : Int} (h : sidesOk m n) : 1 ≤ m * n ∧ m * n ≤ 256 := by
  obtain ⟨h1, h2, h3, h4⟩ := h
  have a := Int.mul_le_mul h1 h3 (by omega) (by omega)
  have b := Int.mul_le_mul h2 h4 (by omega) (by omega)
  omega
theorem mref_vnew (m n : Int) (w0 : World) :
  Calls Tryz.prog 36 #[.int .i64 (m), .int .i64 (n)] w0 fun e w' => ∃ (v1 : Value) (T1 : Nat → Prop), e = .returned (.tuple #[v1, .int .i64 (newVE m n)]) ∧ Kept (fun _ => False) w0 w' ∧ (Vfo w' T1 v1 ((optV m n)) ∧ Grew w0 noB T1) := by
 refine calls_wq (args := [iv m, iv n]) 28 Tryz.func36 rfl rfl (Nat.le_of_ble_eq_true rfl) ?_
 have K0 := Kept.refl (fun _ => False) w0
 refine wq_seq (wq_region (wl_v (.pointer none) rfl rfl (y_asg rfl rfl rr) (wl_v (iv 0) rfl rfl (y_asg rfl rfl rr) (wl_nil fun F1 hF2 => ?_))))
 have s3 : F1 0 = iv m := (hF2 0).trans rfl
 have s4 : F1 1 = iv n := (hF2 1).trans rfl
 have s5 : F1 28 = undef := (hF2 28).trans rfl
 clear hF2
 refine then_normal (wq_seq (wq_seq ?_))
 by_cases d6 : m < 1
 ·skip
  refine wq_region (wl_mv rfl rfl rfl s3 (wl_v (.bool true) rfl rfl (y_lss rfl rfl rfl (decide_eq_true d6) rr) (wl_v (.bool true) rfl rfl (y_mov rfl rfl rr) (wl_unless 2 false 8 rfl rfl rfl (Or.inl rfl) rfl (wl_unless 2 false 8 rfl rfl rfl (Or.inl rfl) rfl (wl_v (.bool true) rfl rfl (y_pickT rfl rfl rfl rr) (wl_v (.bool true) rfl rfl (y_mov rfl rfl rr) (wl_unless 6 false 12 rfl rfl rfl (Or.inl rfl) rfl (wl_unless 6 false 12 rfl rfl rfl (Or.inl rfl) rfl (wl_v (.bool true) rfl rfl (y_pickT rfl rfl rfl rr) (wl_v (.bool true) rfl rfl (y_mov rfl rfl rr) ?_)))))))))))
  refine wl_unless 10 false 16 rfl rfl rfl (Or.inl rfl) rfl (wl_unless 10 false 16 rfl rfl rfl (Or.inl rfl) rfl (wl_v (.bool true) rfl rfl (y_pickT rfl rfl rfl rr) (wl_nil fun F7 hF8 => ?_)))
  have s11 := (hF8 28).trans s5
  have s12 : F7 19 = .bool true := (hF8 19).trans rfl
  clear hF8
  refine then_normal ?_
  refine wq_cond (t := true) s12 (fun _ => ?_) (fun e => by cases e)
  refine wq_seq (wq_region (wl_v (.pointer none) rfl rfl (y_asg rfl rfl rr) (wl_v (iv 1) rfl rfl (y_asg rfl rfl rr) (wl_nil fun F13 hF14 => ?_))))
  have s15 := (hF14 28).trans s11
  have s16 : F13 4 = .pointer none := (hF14 4).trans rfl
  have s17 : F13 5 = iv 1 := (hF14 5).trans rfl
  clear hF14
  refine then_normal (wq_ret (then_ret ?_))
  exact end_2 s15 rfl (res_tmp (v := .pointer none) rfl s16) (res_tmp (v := iv 1) rfl s17) ⟨(.pointer none), noB, (by first | rw [newVE_yes hs] | rw [newVE_no (by unfold sidesOk; omega)]), K0, ⟨(by first | (rw [optV_yes hs]; exact (Vfo.nil _)) | (rw [optV_no (by unfold sidesOk; omega)]; exact (Vfo.nil _))), (Grew.refl _ _)⟩⟩
 ·skip
  by_cases d18 : 16 < m
  ·skip
   refine wq_region (wl_mv rfl rfl rfl s3 (wl_v (.bool false) rfl rfl (y_lss rfl rfl rfl (decide_eq_false d6) rr) (wl_v (.bool false) rfl rfl (y_mov rfl rfl rr) (wl_vw (iv m) 2 false 8 rfl rfl rfl rfl rfl (y_mov rfl s3 rr) (wl_vw (.bool true) 2 false 8 rfl rfl rfl rfl rfl (y_gtr rfl rfl rfl (decide_eq_true d18) rr) (wl_v (.bool true) rfl rfl (y_pickF rfl rfl rfl rr) (wl_v (.bool true) rfl rfl (y_mov rfl rfl rr) (wl_unless 6 false 12 rfl rfl rfl (Or.inl rfl) rfl (wl_unless 6 false 12 rfl rfl rfl (Or.inl rfl) rfl (wl_v (.bool true) rfl rfl (y_pickT rfl rfl rfl rr) (wl_v (.bool true) rfl rfl (y_mov rfl rfl rr) ?_)))))))))))
   refine wl_unless 10 false 16 rfl rfl rfl (Or.inl rfl) rfl (wl_unless 10 false 16 rfl rfl rfl (Or.inl rfl) rfl (wl_v (.bool true) rfl rfl (y_pickT rfl rfl rfl rr) (wl_nil fun F19 hF20 => ?_)))
   have s23 := (hF20 28).trans s5
   have s24 : F19 19 = .bool true := (hF20 19).trans rfl
   clear hF20
   refine then_normal ?_
   refine wq_cond (t := true) s24 (fun _ => ?_) (fun e => by cases e)
   refine wq_seq (wq_region (wl_v (.pointer none) rfl rfl (y_asg rfl rfl rr) (wl_v (iv 1) rfl rfl (y_asg rfl rfl rr) (wl_nil fun F25 hF26 => ?_))))
   have s27 := (hF26 28).trans s23
   have s28 : F25 4 = .pointer none := (hF26 4).trans rfl
   have s29 : F25 5 = iv 1 := (hF26 5).trans rfl
   clear hF26
   refine then_normal (wq_ret (then_ret ?_))
   exact end_2 s27 rfl (res_tmp (v := .pointer none) rfl s28) (res_tmp (v := iv 1) rfl s29) ⟨(.pointer none), noB, (by first | rw [newVE_yes hs] | rw [newVE_no (by unfold sidesOk; omega)]), K0, ⟨(by first | (rw [optV_yes hs]; exact (Vfo.nil _)) | (rw [optV_no (by unfold sidesOk; omega)]; exact (Vfo.nil _))), (Grew.refl _ _)⟩⟩
  ·skip
   by_cases d30 : n < 1
   ·skip
    refine wq_region (wl_mv rfl rfl rfl s3 (wl_v (.bool false) rfl rfl (y_lss rfl rfl rfl (decide_eq_false d6) rr) (wl_v (.bool false) rfl rfl (y_mov rfl rfl rr) (wl_vw (iv m) 2 false 8 rfl rfl rfl rfl rfl (y_mov rfl s3 rr) (wl_vw (.bool false) 2 false 8 rfl rfl rfl rfl rfl (y_gtr rfl rfl rfl (decide_eq_false d18) rr) (wl_v (.bool false) rfl rfl (y_pickF rfl rfl rfl rr) (wl_v (.bool false) rfl rfl (y_mov rfl rfl rr) (wl_vw (iv n) 6 false 12 rfl rfl rfl rfl rfl (y_mov rfl s4 rr) (wl_vw (.bool true) 6 false 12 rfl rfl rfl rfl rfl (y_lss rfl rfl rfl (decide_eq_true d30) rr) (wl_v (.bool true) rfl rfl (y_pickF rfl rfl rfl rr) (wl_v (.bool true) rfl rfl (y_mov rfl rfl rr) ?_)))))))))))
    refine wl_unless 10 false 16 rfl rfl rfl (Or.inl rfl) rfl (wl_unless 10 false 16 rfl rfl rfl (Or.inl rfl) rfl (wl_v (.bool true) rfl rfl (y_pickT rfl rfl rfl rr) (wl_nil fun F31 hF32 => ?_)))
    have s35 := (hF32 28).trans s5
    have s36 : F31 19 = .bool true := (hF32 19).trans rfl
    clear hF32
    refine then_normal ?_
    refine wq_cond (t := true) s36 (fun _ => ?_) (fun e => by cases e)
    refine wq_seq (wq_region (wl_v (.pointer none) rfl rfl (y_asg rfl rfl rr) (wl_v (iv 1) rfl rfl (y_asg rfl rfl rr) (wl_nil fun F37 hF38 => ?_))))
    have s39 := (hF38 28).trans s35
    have s40 : F37 4 = .pointer none := (hF38 4).trans rfl
    have s41 : F37 5 = iv 1 := (hF38 5).trans rfl
    clear hF38
    refine then_normal (wq_ret (then_ret ?_))
    exact end_2 s39 rfl (res_tmp (v := .pointer none) rfl s40) (res_tmp (v := iv 1) rfl s41) ⟨(.pointer none), noB, (by first | rw [newVE_yes hs] | rw [newVE_no (by unfold sidesOk; omega)]), K0, ⟨(by first | (rw [optV_yes hs]; exact (Vfo.nil _)) | (rw [optV_no (by unfold sidesOk; omega)]; exact (Vfo.nil _))), (Grew.refl _ _)⟩⟩
   ·skip
    refine wq_region (wl_mv rfl rfl rfl s3 (wl_v (.bool false) rfl rfl (y_lss rfl rfl rfl (decide_eq_false d6) rr) (wl_v (.bool false) rfl rfl (y_mov rfl rfl rr) (wl_vw (iv m) 2 false 8 rfl rfl rfl rfl rfl (y_mov rfl s3 rr) (wl_vw (.bool false) 2 false 8 rfl rfl rfl rfl rfl (y_gtr rfl rfl rfl (decide_eq_false d18) rr) (wl_v (.bool false) rfl rfl (y_pickF rfl rfl rfl rr) (wl_v (.bool false) rfl rfl (y_mov rfl rfl rr) (wl_vw (iv n) 6 false 12 rfl rfl rfl rfl rfl (y_mov rfl s4 rr) (wl_vw (.bool false) 6 false 12 rfl rfl rfl rfl rfl (y_lss rfl rfl rfl (decide_eq_false d30) rr) (wl_v (.bool false) rfl rfl (y_pickF rfl rfl rfl rr) (wl_v (.bool false) rfl rfl (y_mov rfl rfl rr) ?_)))))))))))
    refine wl_vw (iv n) 10 false 16 rfl rfl rfl rfl rfl (y_mov rfl s4 rr) (wl_vw (.bool (decide (16 < n))) 10 false 16 rfl rfl rfl rfl rfl (y_gtr rfl rfl rfl rfl rr) (wl_v (.bool (decide (16 < n))) rfl rfl (y_pickF rfl rfl rfl rr) (wl_nil fun F42 hF43 => ?_)))
    obtain ⟨s44, s45, s46⟩ := t3 hF43 0 s3 1 s4 28 s5
    have s47 : F42 19 = .bool (decide (16 < n)) := (hF43 19).trans rfl
    clear hF43
    refine then_normal ?_
    refine wq_cond s47 (fun c48 => ?_) (fun c48 => ?_)
    ·replace c48 := of_decide_eq_true c48
     refine wq_seq (wq_region (wl_v (.pointer none) rfl rfl (y_asg rfl rfl rr) (wl_v (iv 1) rfl rfl (y_asg rfl rfl rr) (wl_nil fun F49 hF50 => ?_))))
     have s51 := (hF50 28).trans s46
     have s52 : F49 4 = .pointer none := (hF50 4).trans rfl
     have s53 : F49 5 = iv 1 := (hF50 5).trans rfl
     clear hF50
     refine then_normal (wq_ret (then_ret ?_))
     exact end_2 s51 rfl (res_tmp (v := .pointer none) rfl s52) (res_tmp (v := iv 1) rfl s53) ⟨(.pointer none), noB, (by first | rw [newVE_yes hs] | rw [newVE_no (by unfold sidesOk; omega)]), K0, ⟨(by first | (rw [optV_yes hs]; exact (Vfo.nil _)) | (rw [optV_no (by unfold sidesOk; omega)]; exact (Vfo.nil _))), (Grew.refl _ _)⟩⟩
    ·replace c48 := of_decide_eq_false c48
     refine wq_skip (then_normal (wq_seq ?_))
     have hs : sidesOk m n := ⟨by omega, by omega, by omega, by omega⟩
     have hmn := sides_mul hs
     refine wq_region (wl_mv rfl rfl rfl s44 (wl_mv rfl rfl rfl s45 (wl_mv rfl rfl rfl s44 (wl_mv rfl rfl rfl s45 (wl_v (iv (m * n)) rfl rfl (y_mul rfl rfl rfl (i64_i rfl (by omega)) rr) (wl_makeRo (r := rVec) (n := (m * n).toNat) rfl rfl rfl rfl rfl (by omega) (by omega) (by omega) fun v54 w55 T59 B57 g58 k56 => ?_))))))
     have gr60 : Grew w0 noB T59 := Grew.new K0 g58
     have K61 := K0.tr k56
     refine wl_v (.agg #[iv m, iv n, v54]) rfl rfl (y_buildL (l' := [(0, iv m), (1, iv n), (2, v54)]) (cells := #[iv m, iv n, v54]) rfl (bpC rfl (bpC rfl (bpC rfl bpN))) (by obtain ⟨_, _, _, e0_⟩ := B57.slc; rw [e0_]; kernel_rfl) rfl rr) (wl_box_stc (vs := [iv m, iv n, v54]) rfl rfl rfl rfl fun p62 w63 B65 g66 k64 => ?_)
     have gr67 : Grew w0 noB (onB p62) := Grew.new K61 g66
     have ap68 : Apart (onB p62) T59 := Apart.new g66 B57.live
     have B69 := B57.all k64 Apart.none
     have K70 := K61.tr k64
     refine wl_v (pt p62 0) rfl rfl (y_asg rfl rfl rr) (wl_v (iv 0) rfl rfl (y_asg rfl rfl rr) (wl_nil fun F71 hF72 => ?_))
     have s73 := (hF72 28).trans s46
     have s74 : F71 4 = pt p62 0 := (hF72 4).trans rfl
     have s75 : F71 5 = iv 0 := (hF72 5).trans rfl
     clear hF72
     refine then_normal (wq_ret ?_)
     have B76 : Vfo w63 (fun i => (onB p62) i ∨ (T59 i)) (pt p62 0) (some (newV m n)) := ⟨_, rfl, _, _, fun i => Iff.rfl, B65, (by rw [← vfL_new]; exact B69), ap68, okV_new hs⟩
     have gr77 : Grew w0 noB (fun i => (onB p62) i ∨ (T59 i)) := fun i h => h.elim (fun y => gr67 i y) (fun y => gr60 i y)
     exact end_2 s73 rfl (res_tmp (v := pt p62 0) rfl s74) (res_tmp (v := iv 0) rfl s75) ⟨(pt p62 0), (fun i => (onB p62) i ∨ (T59 i)), (by first | rw [newVE_yes hs] | rw [newVE_no (by unfold sidesOk; omega)]), K70, ⟨(by first | (rw [optV_yes hs]; exact B76) | (rw [optV_no (by unfold sidesOk; omega)]; exact B76)), gr77⟩⟩
theorem mref_vget (v : Value) (f : VF) (x y : Int) (T_q : Nat → Prop) (w0 : World) (h_q : Vfo w0 T_q v ((some f))) :
  Calls Tryz.prog 73 #[v, .int .i64 (x), .int .i64 (y)] w0 fun e w' => e = .returned (.agg #[.int .i64 (f.X x y), .int .i64 (f.Y x y)]) ∧ Kept (fun _ => False) w0 w' := by
 refine calls_wq (args := [v, iv x, iv y]) 44 Tryz.func73 rfl rfl (Nat.le_of_ble_eq_true rfl) ?_
 have K0 := Kept.refl (fun _ => False) w0
 have g_q := Grew.refl w0 T_q
 obtain ⟨p, rfl, c, T2, hT, hp, hr, hap, ok⟩ := h_q
 refine wq_seq (wq_region (wl_alloc_stc (n := 2) (vs := [iv 0, iv 0]) rfl rfl rfl (by kernel_rfl) fun p4 w5 B7 g8 k6 => ?_))
 have gr9 : Grew w0 noB (onB p4) := Grew.new K0 g8
 have B12 := hp.all k6 id
 have B13 := hr.all k6 Apart.none
 have K14 := K0.tr k6
 refine wl_nil fun F15 hF16 => ?_
 have s17 : F15 0 = pt p 0 := (hF16 0).trans rfl
 have s18 : F15 1 = iv x := (hF16 1).trans rfl
 have s19 : F15 2 = iv y := (hF16 2).trans rfl
 have s20 : F15 44 = undef := (hF16 44).trans rfl
 have s21 : F15 6 = pt p4 0 := (hF16 6).trans rfl
 clear hF16
 refine then_normal (wq_seq (wq_seq ?_))
 by_cases d22 : x < 0
 ·skip
  refine wq_region (wl_mv rfl rfl rfl s18 (wl_v (.bool true) rfl rfl (y_lss rfl rfl rfl (decide_eq_true d22) rr) (wl_v (.bool true) rfl rfl (y_mov rfl rfl rr) (wl_unless 2 false 9 rfl rfl rfl (Or.inl rfl) rfl (wl_unless 2 false 9 rfl rfl rfl (Or.inl rfl) rfl (wl_unless 2 false 9 rfl rfl rfl (Or.inl rfl) rfl (wl_unless 2 false 9 rfl rfl rfl (Or.inl rfl) rfl (wl_unless 2 false 9 rfl rfl rfl (Or.inl rfl) rfl (wl_unless 2 false 9 rfl rfl rfl (Or.inl rfl) rfl (wl_v (.bool true) rfl rfl (y_pickT rfl rfl rfl rr) (wl_v (.bool true) rfl rfl (y_mov rfl rfl rr) ?_)))))))))))
  refine wl_unless 10 false 17 rfl rfl rfl (Or.inl rfl) rfl (wl_unless 10 false 17 rfl rfl rfl (Or.inl rfl) rfl (wl_v (.bool true) rfl rfl (y_pickT rfl rfl rfl rr) (wl_v (.bool true) rfl rfl (y_mov rfl rfl rr) (wl_unless 14 false 21 rfl rfl rfl (Or.inl rfl) rfl (wl_unless 14 false 21 rfl rfl rfl (Or.inl rfl) rfl (wl_unless 14 false 21 rfl rfl rfl (Or.inl rfl) rfl (wl_unless 14 false 21 rfl rfl rfl (Or.inl rfl) rfl (wl_unless 14 false 21 rfl rfl rfl (Or.inl rfl) rfl (wl_unless 14 false 21 rfl rfl rfl (Or.inl rfl) rfl (wl_v (.bool true) rfl rfl (y_pickT rfl rfl rfl rr) (wl_nil fun F23 hF24 => ?_)))))))))))
  obtain ⟨s28, s29⟩ := t2 hF24 44 s20 6 s21
  have s30 : F23 28 = .bool true := (hF24 28).trans rfl
  clear hF24
  refine then_normal ?_
  refine wq_cond (t := true) s30 (fun _ => ?_) (fun e => by cases e)
  refine wq_seq ?_
  have hno : ¬ inV f x y := by unfold inV; omega
  refine wq_region (wl_v (.agg #[iv 0, iv 0]) rfl rfl (y_buildL (l' := []) (cells := #[iv 0, iv 0]) rfl bpN (by kernel_rfl) rfl rr) (wl_store_stc (us := [iv 0, iv 0]) stcT_vector rfl rfl rfl s29 rfl B7 rfl (oneI rfl (oneI rfl oneN)) fun w31 B32 k33 => ?_))
  have K36 := K14.trans k33 (Grew.ok (S := fun _ => False) gr9 noB_le)
  refine wl_nil fun F37 hF38 => ?_
  obtain ⟨s39, s40⟩ := t2 hF38 44 s28 6 s29
  clear hF38
  refine then_normal (wq_ret (then_ret ?_))
  exact end_stc (vs := [iv 0, iv 0]) stcT_vector s39 rfl rfl s40 B32 ⟨(by first | rw [vfL_at ok hin] | rw [(ok.out x y hno).1, (ok.out x y hno).2]), K36⟩
 ·skip
  by_cases d41 : (f.w) ≤ x
  ·skip
   refine wq_region (wl_mv rfl rfl rfl s18 (wl_v (.bool false) rfl rfl (y_lss rfl rfl rfl (decide_eq_false d22) rr) (wl_v (.bool false) rfl rfl (y_mov rfl rfl rr) (wl_vw (iv x) 2 false 9 rfl rfl rfl rfl rfl (y_mov rfl s18 rr) (wl_vw (pt p 0) 2 false 9 rfl rfl rfl rfl rfl (y_mov rfl s17 rr) (wl_vw (pt p 0) 2 false 9 rfl rfl rfl rfl rfl (y_nilc rfl rfl rr) (wl_vw (pt p 0) 2 false 9 rfl rfl rfl rfl rfl (y_fieldR (n := 1) rfl rfl Tryz.underlying113 rfl (by kernel_rfl) (by decide) rfl rr) (wl_vw (iv (f.w)) 2 false 9 rfl rfl rfl rfl rfl (y_ld_stc rfl rfl Tryz.underlying3 B12 rfl rfl rr) (wl_vw (.bool true) 2 false 9 rfl rfl rfl rfl rfl (y_geq rfl rfl rfl (decide_eq_true d41) rr) (wl_v (.bool true) rfl rfl (y_pickF rfl rfl rfl rr) (wl_v (.bool true) rfl rfl (y_mov rfl rfl rr) ?_)))))))))))
   refine wl_unless 10 false 17 rfl rfl rfl (Or.inl rfl) rfl (wl_unless 10 false 17 rfl rfl rfl (Or.inl rfl) rfl (wl_v (.bool true) rfl rfl (y_pickT rfl rfl rfl rr) (wl_v (.bool true) rfl rfl (y_mov rfl rfl rr) (wl_unless 14 false 21 rfl rfl rfl (Or.inl rfl) rfl (wl_unless 14 false 21 rfl rfl rfl (Or.inl rfl) rfl (wl_unless 14 false 21 rfl rfl rfl (Or.inl rfl) rfl (wl_unless 14 false 21 rfl rfl rfl (Or.inl rfl) rfl (wl_unless 14 false 21 rfl rfl rfl (Or.inl rfl) rfl (wl_unless 14 false 21 rfl rfl rfl (Or.inl rfl) rfl (wl_v (.bool true) rfl rfl (y_pickT rfl rfl rfl rr) (wl_nil fun F42 hF43 => ?_)))))))))))
   obtain ⟨s47, s48⟩ := t2 hF43 44 s20 6 s21
   have s49 : F42 28 = .bool true := (hF43 28).trans rfl
   clear hF43
   refine then_normal ?_
   refine wq_cond (t := true) s49 (fun _ => ?_) (fun e => by cases e)
   refine wq_seq ?_
   have hno : ¬ inV f x y := by unfold inV; omega
   refine wq_region (wl_v (.agg #[iv 0, iv 0]) rfl rfl (y_buildL (l' := []) (cells := #[iv 0, iv 0]) rfl bpN (by kernel_rfl) rfl rr) (wl_store_stc (us := [iv 0, iv 0]) stcT_vector rfl rfl rfl s48 rfl B7 rfl (oneI rfl (oneI rfl oneN)) fun w50 B51 k52 => ?_))
   have K55 := K14.trans k52 (Grew.ok (S := fun _ => False) gr9 noB_le)
   refine wl_nil fun F56 hF57 => ?_
   obtain ⟨s58, s59⟩ := t2 hF57 44 s47 6 s48
   clear hF57
   refine then_normal (wq_ret (then_ret ?_))
   exact end_stc (vs := [iv 0, iv 0]) stcT_vector s58 rfl rfl s59 B51 ⟨(by first | rw [vfL_at ok hin] | rw [(ok.out x y hno).1, (ok.out x y hno).2]), K55⟩
  ·skip
   by_cases d60 : y < 0
   ·skip
    refine wq_region (wl_mv rfl rfl rfl s18 (wl_v (.bool false) rfl rfl (y_lss rfl rfl rfl (decide_eq_false d22) rr) (wl_v (.bool false) rfl rfl (y_mov rfl rfl rr) (wl_vw (iv x) 2 false 9 rfl rfl rfl rfl rfl (y_mov rfl s18 rr) (wl_vw (pt p 0) 2 false 9 rfl rfl rfl rfl rfl (y_mov rfl s17 rr) (wl_vw (pt p 0) 2 false 9 rfl rfl rfl rfl rfl (y_nilc rfl rfl rr) (wl_vw (pt p 0) 2 false 9 rfl rfl rfl rfl rfl (y_fieldR (n := 1) rfl rfl Tryz.underlying113 rfl (by kernel_rfl) (by decide) rfl rr) (wl_vw (iv (f.w)) 2 false 9 rfl rfl rfl rfl rfl (y_ld_stc rfl rfl Tryz.underlying3 B12 rfl rfl rr) (wl_vw (.bool false) 2 false 9 rfl rfl rfl rfl rfl (y_geq rfl rfl rfl (decide_eq_false d41) rr) (wl_v (.bool false) rfl rfl (y_pickF rfl rfl rfl rr) (wl_v (.bool false) rfl rfl (y_mov rfl rfl rr) ?_)))))))))))
    refine wl_vw (iv y) 10 false 17 rfl rfl rfl rfl rfl (y_mov rfl s19 rr) (wl_vw (.bool true) 10 false 17 rfl rfl rfl rfl rfl (y_lss rfl rfl rfl (decide_eq_true d60) rr) (wl_v (.bool true) rfl rfl (y_pickF rfl rfl rfl rr) (wl_v (.bool true) rfl rfl (y_mov rfl rfl rr) (wl_unless 14 false 21 rfl rfl rfl (Or.inl rfl) rfl (wl_unless 14 false 21 rfl rfl rfl (Or.inl rfl) rfl (wl_unless 14 false 21 rfl rfl rfl (Or.inl rfl) rfl (wl_unless 14 false 21 rfl rfl rfl (Or.inl rfl) rfl (wl_unless 14 false 21 rfl rfl rfl (Or.inl rfl) rfl (wl_unless 14 false 21 rfl rfl rfl (Or.inl rfl) rfl (wl_v (.bool true) rfl rfl (y_pickT rfl rfl rfl rr) (wl_nil fun F61 hF62 => ?_)))))))))))
    obtain ⟨s66, s67⟩ := t2 hF62 44 s20 6 s21
    have s68 : F61 28 = .bool true := (hF62 28).trans rfl
    clear hF62
    refine then_normal ?_
    refine wq_cond (t := true) s68 (fun _ => ?_) (fun e => by cases e)
    refine wq_seq ?_
    have hno : ¬ inV f x y := by unfold inV; omega
    refine wq_region (wl_v (.agg #[iv 0, iv 0]) rfl rfl (y_buildL (l' := []) (cells := #[iv 0, iv 0]) rfl bpN (by kernel_rfl) rfl rr) (wl_store_stc (us := [iv 0, iv 0]) stcT_vector rfl rfl rfl s67 rfl B7 rfl (oneI rfl (oneI rfl oneN)) fun w69 B70 k71 => ?_))
    have K74 := K14.trans k71 (Grew.ok (S := fun _ => False) gr9 noB_le)
    refine wl_nil fun F75 hF76 => ?_
    obtain ⟨s77, s78⟩ := t2 hF76 44 s66 6 s67
    clear hF76
    refine then_normal (wq_ret (then_ret ?_))
    exact end_stc (vs := [iv 0, iv 0]) stcT_vector s77 rfl rfl s78 B70 ⟨(by first | rw [vfL_at ok hin] | rw [(ok.out x y hno).1, (ok.out x y hno).2]), K74⟩
   ·skip
    refine wq_region (wl_mv rfl rfl rfl s18 (wl_v (.bool false) rfl rfl (y_lss rfl rfl rfl (decide_eq_false d22) rr) (wl_v (.bool false) rfl rfl (y_mov rfl rfl rr) (wl_vw (iv x) 2 false 9 rfl rfl rfl rfl rfl (y_mov rfl s18 rr) (wl_vw (pt p 0) 2 false 9 rfl rfl rfl rfl rfl (y_mov rfl s17 rr) (wl_vw (pt p 0) 2 false 9 rfl rfl rfl rfl rfl (y_nilc rfl rfl rr) (wl_vw (pt p 0) 2 false 9 rfl rfl rfl rfl rfl (y_fieldR (n := 1) rfl rfl Tryz.underlying113 rfl (by kernel_rfl) (by decide) rfl rr) (wl_vw (iv (f.w)) 2 false 9 rfl rfl rfl rfl rfl (y_ld_stc rfl rfl Tryz.underlying3 B12 rfl rfl rr) (wl_vw (.bool false) 2 false 9 rfl rfl rfl rfl rfl (y_geq rfl rfl rfl (decide_eq_false d41) rr) (wl_v (.bool false) rfl rfl (y_pickF rfl rfl rfl rr) (wl_v (.bool false) rfl rfl (y_mov rfl rfl rr) ?_)))))))))))
    refine wl_vw (iv y) 10 false 17 rfl rfl rfl rfl rfl (y_mov rfl s19 rr) (wl_vw (.bool false) 10 false 17 rfl rfl rfl rfl rfl (y_lss rfl rfl rfl (decide_eq_false d60) rr) (wl_v (.bool false) rfl rfl (y_pickF rfl rfl rfl rr) (wl_v (.bool false) rfl rfl (y_mov rfl rfl rr) (wl_vw (iv y) 14 false 21 rfl rfl rfl rfl rfl (y_mov rfl s19 rr) (wl_vw (pt p 0) 14 false 21 rfl rfl rfl rfl rfl (y_mov rfl s17 rr) (wl_vw (pt p 0) 14 false 21 rfl rfl rfl rfl rfl (y_nilc rfl rfl rr) (wl_vw (pt p 1) 14 false 21 rfl rfl rfl rfl rfl (y_fieldR (n := 1) rfl rfl Tryz.underlying113 rfl (by kernel_rfl) (by decide) rfl rr) (wl_vw (iv (f.h)) 14 false 21 rfl rfl rfl rfl rfl (y_ld_stc rfl rfl Tryz.underlying3 B12 rfl rfl rr) (wl_vw (.bool (decide ((f.h) ≤ y))) 14 false 21 rfl rfl rfl rfl rfl (y_geq rfl rfl rfl rfl rr) (wl_v (.bool (decide ((f.h) ≤ y))) rfl rfl (y_pickF rfl rfl rfl rr) (wl_nil fun F79 hF80 => ?_)))))))))))
    obtain ⟨s81, s82, s83, s84, s85⟩ := t5 hF80 0 s17 1 s18 2 s19 44 s20 6 s21
    have s86 : F79 28 = .bool (decide ((f.h) ≤ y)) := (hF80 28).trans rfl
    clear hF80
    refine then_normal ?_
    refine wq_cond s86 (fun c87 => ?_) (fun c87 => ?_)
    ·replace c87 := of_decide_eq_true c87
     refine wq_seq ?_
     have hno : ¬ inV f x y := by unfold inV; omega
     refine wq_region (wl_v (.agg #[iv 0, iv 0]) rfl rfl (y_buildL (l' := []) (cells := #[iv 0, iv 0]) rfl bpN (by kernel_rfl) rfl rr) (wl_store_stc (us := [iv 0, iv 0]) stcT_vector rfl rfl rfl s85 rfl B7 rfl (oneI rfl (oneI rfl oneN)) fun w88 B89 k90 => ?_))
     have K93 := K14.trans k90 (Grew.ok (S := fun _ => False) gr9 noB_le)
     refine wl_nil fun F94 hF95 => ?_
     obtain ⟨s96, s97⟩ := t2 hF95 44 s84 6 s85
     clear hF95
     refine then_normal (wq_ret (then_ret ?_))
     exact end_stc (vs := [iv 0, iv 0]) stcT_vector s96 rfl rfl s97 B89 ⟨(by first | rw [vfL_at ok hin] | rw [(ok.out x y hno).1, (ok.out x y hno).2]), K93⟩
    ·replace c87 := of_decide_eq_false c87
     refine wq_skip (then_normal (wq_seq ?_))
     have hin : inV f x y := ⟨by omega, by omega, by omega, by omega⟩
     have hl := in_lt ok hin
     have hw := ok.w
     have hlen := vfL_length f
     refine wq_tail 14 [some 30, some 31, some 32, some 33, some 34, some 35, some 36, some 37, some 38, some 39, some 40, some 41, some 42, some 43] [Pd.eq (pt p 0), Pd.eq (pt p 0), Pd.eq (pt p 2), Pd.eq c, Pd.eq (iv y), Pd.eq (pt p 0), Pd.eq (pt p 0), Pd.eq (pt p 0), Pd.eq (iv (f.w)), Pd.eq (iv (y * (f.w))), Pd.eq (iv x), Pd.eq (iv ((y * (f.w)) + x)), Pd.eq (bytAddr c ((((y * (f.w)) + x).toNat) * 2)), Pd.eq (.agg #[iv (((vfL f).getD (((y * (f.w)) + x).toNat) ⟨0, 0⟩).X), iv (((vfL f).getD (((y * (f.w)) + x).toNat) ⟨0, 0⟩).Y)])] (by kernel_rfl) (by kernel_rfl) (by kernel_rfl) ?_ ?_
     ·refine stepsF_cons ?_ ?_
      ·refine StepF.one rfl fun F_ w_ hR hout hD => ?_
       exact (y_mov rfl ((hout 0 rfl (by decide)).trans s81) ⟨rfl, Kept.refl _ _⟩)
      refine stepsF_cons ?_ ?_
      ·refine StepF.one rfl fun F_ w_ hR hout hD => ?_
       have g30 : F_ 30 = pt p 0 := (hD.get 0 rfl rfl rfl)
       exact (y_nilc rfl g30 ⟨rfl, Kept.refl _ _⟩)
      refine stepsF_cons ?_ ?_
      ·refine StepF.one rfl fun F_ w_ hR hout hD => ?_
       have g31 : F_ 31 = pt p 0 := (hD.get 0 rfl rfl rfl)
       exact (y_fieldR (n := 1) rfl g31 Tryz.underlying113 rfl (by kernel_rfl) (by decide) rfl ⟨rfl, Kept.refl _ _⟩)
      refine stepsF_cons ?_ ?_
      ·refine StepF.one rfl fun F_ w_ hR hout hD => ?_
       have g32 : F_ 32 = pt p 2 := (hD.get 0 rfl rfl rfl)
       exact (y_ld_stc rfl g32 Tryz.underlying111 (B12.all hR id) rfl rfl ⟨rfl, Kept.refl _ _⟩)
      refine stepsF_cons ?_ ?_
      ·refine StepF.one rfl fun F_ w_ hR hout hD => ?_
       exact (y_mov rfl ((hout 2 rfl (by decide)).trans s83) ⟨rfl, Kept.refl _ _⟩)
      refine stepsF_cons ?_ ?_
      ·refine StepF.one rfl fun F_ w_ hR hout hD => ?_
       exact (y_mov rfl ((hout 0 rfl (by decide)).trans s81) ⟨rfl, Kept.refl _ _⟩)
      refine stepsF_cons ?_ ?_
      ·refine StepF.one rfl fun F_ w_ hR hout hD => ?_
       have g35 : F_ 35 = pt p 0 := (hD.get 0 rfl rfl rfl)
       exact (y_nilc rfl g35 ⟨rfl, Kept.refl _ _⟩)
      refine stepsF_cons ?_ ?_
      ·refine StepF.one rfl fun F_ w_ hR hout hD => ?_
       have g36 : F_ 36 = pt p 0 := (hD.get 0 rfl rfl rfl)
       exact (y_fieldR (n := 1) rfl g36 Tryz.underlying113 rfl (by kernel_rfl) (by decide) rfl ⟨rfl, Kept.refl _ _⟩)
      refine stepsF_cons ?_ ?_
      ·refine StepF.one rfl fun F_ w_ hR hout hD => ?_
       have g37 : F_ 37 = pt p 0 := (hD.get 0 rfl rfl rfl)
       exact (y_ld_stc rfl g37 Tryz.underlying3 (B12.all hR id) rfl rfl ⟨rfl, Kept.refl _ _⟩)
      refine stepsF_cons ?_ ?_
      ·refine StepF.one rfl fun F_ w_ hR hout hD => ?_
       have g34 : F_ 34 = iv y := (hD.get 0 rfl rfl rfl)
       have g38 : F_ 38 = iv (f.w) := (hD.get 1 rfl rfl rfl)
       exact (y_mul rfl g34 g38 (i64_i rfl (by omega)) ⟨rfl, Kept.refl _ _⟩)
      refine stepsF_cons ?_ ?_
      ·refine StepF.one rfl fun F_ w_ hR hout hD => ?_
       exact (y_mov rfl ((hout 1 rfl (by decide)).trans s82) ⟨rfl, Kept.refl _ _⟩)
      refine stepsF_cons ?_ ?_
      ·refine StepF.one rfl fun F_ w_ hR hout hD => ?_
       have g39 : F_ 39 = iv (y * (f.w)) := (hD.get 0 rfl rfl rfl)
       have g40 : F_ 40 = iv x := (hD.get 1 rfl rfl rfl)
       exact (y_add rfl g39 g40 (i64_i rfl (by omega)) ⟨rfl, Kept.refl _ _⟩)
      refine stepsF_cons ?_ ?_
      ·refine StepF.one rfl fun F_ w_ hR hout hD => ?_
       have g33 : F_ 33 = c := (hD.get 0 rfl rfl rfl)
       have g41 : F_ 41 = iv ((y * (f.w)) + x) := (hD.get 1 rfl rfl rfl)
       exact (y_atRo (r := rVec) (((y * (f.w)) + x).toNat) rfl g33 g41 (by omega) (B13.all hR Apart.none).roa (by omega) ⟨rfl, Kept.refl _ _⟩)
      refine stepsF_cons ?_ ?_
      ·refine StepF.one rfl fun F_ w_ hR hout hD => ?_
       have g42 : F_ 42 = bytAddr c ((((y * (f.w)) + x).toNat) * 2) := (hD.get 0 rfl rfl rfl)
       exact (y_ldRoP (r := rVec) (n := 2) (((y * (f.w)) + x).toNat) 0 stcT_vector rfl g42 (B13.all hR Apart.none).roa (by omega) (by decide) rfl ⟨rfl, Kept.refl _ _⟩)
      exact stepsF_nil
     intro v98 F99 w100 k101 G102 hF103
     have B107 := B7.all k101 id
     have K108 := K14.tr k101
     obtain ⟨s109, s110⟩ := t2 hF103 44 s84 6 s85
     have s111 : F99 43 = .agg #[iv (((vfL f).getD (((y * (f.w)) + x).toNat) ⟨0, 0⟩).X), iv (((vfL f).getD (((y * (f.w)) + x).toNat) ⟨0, 0⟩).Y)] := (hF103 43).trans (G102 13 (by decide))
     clear G102 hF103
     refine wl_store_stc (us := [iv (((vfL f).getD (((y * (f.w)) + x).toNat) ⟨0, 0⟩).X), iv (((vfL f).getD (((y * (f.w)) + x).toNat) ⟨0, 0⟩).Y)]) stcT_vector rfl rfl rfl s110 s111 B107 rfl (oneI rfl (oneI rfl oneN)) fun w112 B113 k114 => ?_
     have K117 := K108.trans k114 (Grew.ok (S := fun _ => False) gr9 noB_le)
     refine wl_nil fun F118 hF119 => ?_
     obtain ⟨s120, s121⟩ := t2 hF119 44 s109 6 s110
     clear hF119
     refine then_normal (wq_ret ?_)
     exact end_stc (vs := [iv (((vfL f).getD (((y * (f.w)) + x).toNat) ⟨0, 0⟩).X), iv (((vfL f).getD (((y * (f.w)) + x).toNat) ⟨0, 0⟩).Y)]) stcT_vector s120 rfl rfl s121 B113 ⟨(by first | rw [vfL_at ok hin] | rw [(ok.out x y hno).1, (ok.out x y hno).2]), K117⟩
theorem mref_vset (v : Value) (f : VF) (x y X Y : Int) (T_q : Nat → Prop) (w0 : World) (h_q : Vfo w0 T_q v ((some f))) :
  Calls Tryz.prog 39 #[v, .int .i64 (x), .int .i64 (y), .agg #[.int .i64 (X), .int .i64 (Y)]] w0 fun e w' => ∃ (T_q' : Nat → Prop), e = .returned (.int .i64 (setE f x y X Y)) ∧ Kept (T_q) w0 w' ∧ (Vfo w' T_q' v ((some (setV f x y X Y))) ∧ Grew w0 T_q T_q') := by
 refine calls_wq (args := [v, iv x, iv y, .agg #[iv X, iv Y]]) 48 Tryz.func39 rfl rfl (Nat.le_of_ble_eq_true rfl) ?_
 have K0 := Kept.refl T_q w0
 have g_q := Grew.refl w0 T_q
 obtain ⟨p, rfl, c, T2, hT, hp, hr, hap, ok⟩ := h_q
 have gr1 : Grew w0 T_q (onB p) := fun i h => g_q i ((fun i h => (hT i).2 (Or.inl h)) i h)
 have gr2 : Grew w0 T_q T2 := fun i h => g_q i ((fun i h => (hT i).2 (Or.inr h)) i h)
 have ap3 : Apart (onB p) T2 := hap
 refine wq_seq (wq_region (wl_box_stc (vs := [iv X, iv Y]) rfl rfl rfl rfl fun p4 w5 B7 g8 k6 => ?_))
 have B12 := hp.all k6 id
 have B13 := hr.all k6 Apart.none
 have K14 := K0.tr k6
 refine wl_v (iv 0) rfl rfl (y_asg rfl rfl rr) (wl_nil fun F15 hF16 => ?_)
 have s17 : F15 0 = pt p 0 := (hF16 0).trans rfl
 have s18 : F15 1 = iv x := (hF16 1).trans rfl
 have s19 : F15 2 = iv y := (hF16 2).trans rfl
 have s20 : F15 48 = undef := (hF16 48).trans rfl
 have s21 : F15 7 = pt p4 0 := (hF16 7).trans rfl
 clear hF16
 refine then_normal (wq_seq (wq_seq ?_))
 by_cases d22 : x < 0
 ·skip
  refine wq_region (wl_mv rfl rfl rfl s18 (wl_v (.bool true) rfl rfl (y_lss rfl rfl rfl (decide_eq_true d22) rr) (wl_v (.bool true) rfl rfl (y_mov rfl rfl rr) (wl_unless 2 false 11 rfl rfl rfl (Or.inl rfl) rfl (wl_unless 2 false 11 rfl rfl rfl (Or.inl rfl) rfl (wl_unless 2 false 11 rfl rfl rfl (Or.inl rfl) rfl (wl_unless 2 false 11 rfl rfl rfl (Or.inl rfl) rfl (wl_unless 2 false 11 rfl rfl rfl (Or.inl rfl) rfl (wl_unless 2 false 11 rfl rfl rfl (Or.inl rfl) rfl (wl_v (.bool true) rfl rfl (y_pickT rfl rfl rfl rr) (wl_v (.bool true) rfl rfl (y_mov rfl rfl rr) ?_)))))))))))
  refine wl_unless 10 false 19 rfl rfl rfl (Or.inl rfl) rfl (wl_unless 10 false 19 rfl rfl rfl (Or.inl rfl) rfl (wl_v (.bool true) rfl rfl (y_pickT rfl rfl rfl rr) (wl_v (.bool true) rfl rfl (y_mov rfl rfl rr) (wl_unless 14 false 23 rfl rfl rfl (Or.inl rfl) rfl (wl_unless 14 false 23 rfl rfl rfl (Or.inl rfl) rfl (wl_unless 14 false 23 rfl rfl rfl (Or.inl rfl) rfl (wl_unless 14 false 23 rfl rfl rfl (Or.inl rfl) rfl (wl_unless 14 false 23 rfl rfl rfl (Or.inl rfl) rfl (wl_unless 14 false 23 rfl rfl rfl (Or.inl rfl) rfl (wl_v (.bool true) rfl rfl (y_pickT rfl rfl rfl rr) (wl_nil fun F23 hF24 => ?_)))))))))))
  have s28 := (hF24 48).trans s20
  have s30 : F23 30 = .bool true := (hF24 30).trans rfl
  clear hF24
  refine then_normal ?_
  refine wq_cond (t := true) s30 (fun _ => ?_) (fun e => by cases e)
  refine wq_seq ?_
  have hno : ¬ inV f x y := by unfold inV; omega
  refine wq_region (wl_v (iv 1) rfl rfl (y_asg rfl rfl rr) (wl_nil fun F31 hF32 => ?_))
  have s33 := (hF32 48).trans s28
  have s34 : F31 8 = iv 1 := (hF32 8).trans rfl
  clear hF32
  refine then_normal (wq_ret (then_ret ?_))
  have B35 : Vfo w5 (fun i => (onB p) i ∨ (T2 i)) (pt p 0) (some (setV f x y X Y)) := (by first | (rw [(set_yes hin hv).2]; exact ⟨_, rfl, _, _, fun i => Iff.rfl, B12, (by rw [← vfL_lay ok hin]; exact B13), ap3, okV_lay ok hin hv⟩) | (rw [(set_none hin hvn).2]; exact ⟨_, rfl, _, _, fun i => Iff.rfl, B12, B13, ap3, ok⟩) | (rw [(set_no hno).2]; exact ⟨_, rfl, _, _, fun i => Iff.rfl, B12, B13, ap3, ok⟩))
  have gr36 : Grew w0 T_q (fun i => (onB p) i ∨ (T2 i)) := fun i h => h.elim (fun y => gr1 i y) (fun y => gr2 i y)
  exact end_tmp (v := iv 1) s33 rfl rfl s34 ⟨(fun i => (onB p) i ∨ (T2 i)), (by first | rw [(set_yes hin hv).1] | rw [(set_none hin hvn).1] | rw [(set_no hno).1]), K14, ⟨B35, gr36⟩⟩
 ·skip
  by_cases d38 : (f.w) ≤ x
  ·skip
   refine wq_region (wl_mv rfl rfl rfl s18 (wl_v (.bool false) rfl rfl (y_lss rfl rfl rfl (decide_eq_false d22) rr) (wl_v (.bool false) rfl rfl (y_mov rfl rfl rr) (wl_vw (iv x) 2 false 11 rfl rfl rfl rfl rfl (y_mov rfl s18 rr) (wl_vw (pt p 0) 2 false 11 rfl rfl rfl rfl rfl (y_mov rfl s17 rr) (wl_vw (pt p 0) 2 false 11 rfl rfl rfl rfl rfl (y_nilc rfl rfl rr) (wl_vw (pt p 0) 2 false 11 rfl rfl rfl rfl rfl (y_fieldR (n := 1) rfl rfl Tryz.underlying113 rfl (by kernel_rfl) (by decide) rfl rr) (wl_vw (iv (f.w)) 2 false 11 rfl rfl rfl rfl rfl (y_ld_stc rfl rfl Tryz.underlying3 B12 rfl rfl rr) (wl_vw (.bool true) 2 false 11 rfl rfl rfl rfl rfl (y_geq rfl rfl rfl (decide_eq_true d38) rr) (wl_v (.bool true) rfl rfl (y_pickF rfl rfl rfl rr) (wl_v (.bool true) rfl rfl (y_mov rfl rfl rr) ?_)))))))))))
   refine wl_unless 10 false 19 rfl rfl rfl (Or.inl rfl) rfl (wl_unless 10 false 19 rfl rfl rfl (Or.inl rfl) rfl (wl_v (.bool true) rfl rfl (y_pickT rfl rfl rfl rr) (wl_v (.bool true) rfl rfl (y_mov rfl rfl rr) (wl_unless 14 false 23 rfl rfl rfl (Or.inl rfl) rfl (wl_unless 14 false 23 rfl rfl rfl (Or.inl rfl) rfl (wl_unless 14 false 23 rfl rfl rfl (Or.inl rfl) rfl (wl_unless 14 false 23 rfl rfl rfl (Or.inl rfl) rfl (wl_unless 14 false 23 rfl rfl rfl (Or.inl rfl) rfl (wl_unless 14 false 23 rfl rfl rfl (Or.inl rfl) rfl (wl_v (.bool true) rfl rfl (y_pickT rfl rfl rfl rr) (wl_nil fun F39 hF40 => ?_)))))))))))
   have s44 := (hF40 48).trans s20
   have s46 : F39 30 = .bool true := (hF40 30).trans rfl
   clear hF40
   refine then_normal ?_
   refine wq_cond (t := true) s46 (fun _ => ?_) (fun e => by cases e)
   refine wq_seq ?_
   have hno : ¬ inV f x y := by unfold inV; omega
   refine wq_region (wl_v (iv 1) rfl rfl (y_asg rfl rfl rr) (wl_nil fun F47 hF48 => ?_))
   have s49 := (hF48 48).trans s44
   have s50 : F47 8 = iv 1 := (hF48 8).trans rfl
   clear hF48
   refine then_normal (wq_ret (then_ret ?_))
   have B51 : Vfo w5 (fun i => (onB p) i ∨ (T2 i)) (pt p 0) (some (setV f x y X Y)) := (by first | (rw [(set_yes hin hv).2]; exact ⟨_, rfl, _, _, fun i => Iff.rfl, B12, (by rw [← vfL_lay ok hin]; exact B13), ap3, okV_lay ok hin hv⟩) | (rw [(set_none hin hvn).2]; exact ⟨_, rfl, _, _, fun i => Iff.rfl, B12, B13, ap3, ok⟩) | (rw [(set_no hno).2]; exact ⟨_, rfl, _, _, fun i => Iff.rfl, B12, B13, ap3, ok⟩))
   have gr52 : Grew w0 T_q (fun i => (onB p) i ∨ (T2 i)) := fun i h => h.elim (fun y => gr1 i y) (fun y => gr2 i y)
   exact end_tmp (v := iv 1) s49 rfl rfl s50 ⟨(fun i => (onB p) i ∨ (T2 i)), (by first | rw [(set_yes hin hv).1] | rw [(set_none hin hvn).1] | rw [(set_no hno).1]), K14, ⟨B51, gr52⟩⟩
  ·skip
   by_cases d54 : y < 0
   ·skip
    refine wq_region (wl_mv rfl rfl rfl s18 (wl_v (.bool false) rfl rfl (y_lss rfl rfl rfl (decide_eq_false d22) rr) (wl_v (.bool false) rfl rfl (y_mov rfl rfl rr) (wl_vw (iv x) 2 false 11 rfl rfl rfl rfl rfl (y_mov rfl s18 rr) (wl_vw (pt p 0) 2 false 11 rfl rfl rfl rfl rfl (y_mov rfl s17 rr) (wl_vw (pt p 0) 2 false 11 rfl rfl rfl rfl rfl (y_nilc rfl rfl rr) (wl_vw (pt p 0) 2 false 11 rfl rfl rfl rfl rfl (y_fieldR (n := 1) rfl rfl Tryz.underlying113 rfl (by kernel_rfl) (by decide) rfl rr) (wl_vw (iv (f.w)) 2 false 11 rfl rfl rfl rfl rfl (y_ld_stc rfl rfl Tryz.underlying3 B12 rfl rfl rr) (wl_vw (.bool false) 2 false 11 rfl rfl rfl rfl rfl (y_geq rfl rfl rfl (decide_eq_false d38) rr) (wl_v (.bool false) rfl rfl (y_pickF rfl rfl rfl rr) (wl_v (.bool false) rfl rfl (y_mov rfl rfl rr) ?_)))))))))))
    refine wl_vw (iv y) 10 false 19 rfl rfl rfl rfl rfl (y_mov rfl s19 rr) (wl_vw (.bool true) 10 false 19 rfl rfl rfl rfl rfl (y_lss rfl rfl rfl (decide_eq_true d54) rr) (wl_v (.bool true) rfl rfl (y_pickF rfl rfl rfl rr) (wl_v (.bool true) rfl rfl (y_mov rfl rfl rr) (wl_unless 14 false 23 rfl rfl rfl (Or.inl rfl) rfl (wl_unless 14 false 23 rfl rfl rfl (Or.inl rfl) rfl (wl_unless 14 false 23 rfl rfl rfl (Or.inl rfl) rfl (wl_unless 14 false 23 rfl rfl rfl (Or.inl rfl) rfl (wl_unless 14 false 23 rfl rfl rfl (Or.inl rfl) rfl (wl_unless 14 false 23 rfl rfl rfl (Or.inl rfl) rfl (wl_v (.bool true) rfl rfl (y_pickT rfl rfl rfl rr) (wl_nil fun F55 hF56 => ?_)))))))))))
    have s60 := (hF56 48).trans s20
    have s62 : F55 30 = .bool true := (hF56 30).trans rfl
    clear hF56
    refine then_normal ?_
    refine wq_cond (t := true) s62 (fun _ => ?_) (fun e => by cases e)
    refine wq_seq ?_
    have hno : ¬ inV f x y := by unfold inV; omega
    refine wq_region (wl_v (iv 1) rfl rfl (y_asg rfl rfl rr) (wl_nil fun F63 hF64 => ?_))
    have s65 := (hF64 48).trans s60
    have s66 : F63 8 = iv 1 := (hF64 8).trans rfl
    clear hF64
    refine then_normal (wq_ret (then_ret ?_))
    have B67 : Vfo w5 (fun i => (onB p) i ∨ (T2 i)) (pt p 0) (some (setV f x y X Y)) := (by first | (rw [(set_yes hin hv).2]; exact ⟨_, rfl, _, _, fun i => Iff.rfl, B12, (by rw [← vfL_lay ok hin]; exact B13), ap3, okV_lay ok hin hv⟩) | (rw [(set_none hin hvn).2]; exact ⟨_, rfl, _, _, fun i => Iff.rfl, B12, B13, ap3, ok⟩) | (rw [(set_no hno).2]; exact ⟨_, rfl, _, _, fun i => Iff.rfl, B12, B13, ap3, ok⟩))
    have gr68 : Grew w0 T_q (fun i => (onB p) i ∨ (T2 i)) := fun i h => h.elim (fun y => gr1 i y) (fun y => gr2 i y)
    exact end_tmp (v := iv 1) s65 rfl rfl s66 ⟨(fun i => (onB p) i ∨ (T2 i)), (by first | rw [(set_yes hin hv).1] | rw [(set_none hin hvn).1] | rw [(set_no hno).1]), K14, ⟨B67, gr68⟩⟩
   ·skip
    refine wq_region (wl_mv rfl rfl rfl s18 (wl_v (.bool false) rfl rfl (y_lss rfl rfl rfl (decide_eq_false d22) rr) (wl_v (.bool false) rfl rfl (y_mov rfl rfl rr) (wl_vw (iv x) 2 false 11 rfl rfl rfl rfl rfl (y_mov rfl s18 rr) (wl_vw (pt p 0) 2 false 11 rfl rfl rfl rfl rfl (y_mov rfl s17 rr) (wl_vw (pt p 0) 2 false 11 rfl rfl rfl rfl rfl (y_nilc rfl rfl rr) (wl_vw (pt p 0) 2 false 11 rfl rfl rfl rfl rfl (y_fieldR (n := 1) rfl rfl Tryz.underlying113 rfl (by kernel_rfl) (by decide) rfl rr) (wl_vw (iv (f.w)) 2 false 11 rfl rfl rfl rfl rfl (y_ld_stc rfl rfl Tryz.underlying3 B12 rfl rfl rr) (wl_vw (.bool false) 2 false 11 rfl rfl rfl rfl rfl (y_geq rfl rfl rfl (decide_eq_false d38) rr) (wl_v (.bool false) rfl rfl (y_pickF rfl rfl rfl rr) (wl_v (.bool false) rfl rfl (y_mov rfl rfl rr) ?_)))))))))))
    refine wl_vw (iv y) 10 false 19 rfl rfl rfl rfl rfl (y_mov rfl s19 rr) (wl_vw (.bool false) 10 false 19 rfl rfl rfl rfl rfl (y_lss rfl rfl rfl (decide_eq_false d54) rr) (wl_v (.bool false) rfl rfl (y_pickF rfl rfl rfl rr) (wl_v (.bool false) rfl rfl (y_mov rfl rfl rr) (wl_vw (iv y) 14 false 23 rfl rfl rfl rfl rfl (y_mov rfl s19 rr) (wl_vw (pt p 0) 14 false 23 rfl rfl rfl rfl rfl (y_mov rfl s17 rr) (wl_vw (pt p 0) 14 false 23 rfl rfl rfl rfl rfl (y_nilc rfl rfl rr) (wl_vw (pt p 1) 14 false 23 rfl rfl rfl rfl rfl (y_fieldR (n := 1) rfl rfl Tryz.underlying113 rfl (by kernel_rfl) (by decide) rfl rr) (wl_vw (iv (f.h)) 14 false 23 rfl rfl rfl rfl rfl (y_ld_stc rfl rfl Tryz.underlying3 B12 rfl rfl rr) (wl_vw (.bool (decide ((f.h) ≤ y))) 14 false 23 rfl rfl rfl rfl rfl (y_geq rfl rfl rfl rfl rr) (wl_v (.bool (decide ((f.h) ≤ y))) rfl rfl (y_pickF rfl rfl rfl rr) (wl_nil fun F70 hF71 => ?_)))))))))))
    obtain ⟨s72, s73, s74, s75, s76⟩ := t5 hF71 0 s17 1 s18 2 s19 48 s20 7 s21
    have s77 : F70 30 = .bool (decide ((f.h) ≤ y)) := (hF71 30).trans rfl
    clear hF71
    refine then_normal ?_
    refine wq_cond s77 (fun c78 => ?_) (fun c78 => ?_)
    ·replace c78 := of_decide_eq_true c78
     refine wq_seq ?_
     have hno : ¬ inV f x y := by unfold inV; omega
     refine wq_region (wl_v (iv 1) rfl rfl (y_asg rfl rfl rr) (wl_nil fun F79 hF80 => ?_))
     have s81 := (hF80 48).trans s75
     have s82 : F79 8 = iv 1 := (hF80 8).trans rfl
     clear hF80
     refine then_normal (wq_ret (then_ret ?_))
     have B83 : Vfo w5 (fun i => (onB p) i ∨ (T2 i)) (pt p 0) (some (setV f x y X Y)) := (by first | (rw [(set_yes hin hv).2]; exact ⟨_, rfl, _, _, fun i => Iff.rfl, B12, (by rw [← vfL_lay ok hin]; exact B13), ap3, okV_lay ok hin hv⟩) | (rw [(set_none hin hvn).2]; exact ⟨_, rfl, _, _, fun i => Iff.rfl, B12, B13, ap3, ok⟩) | (rw [(set_no hno).2]; exact ⟨_, rfl, _, _, fun i => Iff.rfl, B12, B13, ap3, ok⟩))
     have gr84 : Grew w0 T_q (fun i => (onB p) i ∨ (T2 i)) := fun i h => h.elim (fun y => gr1 i y) (fun y => gr2 i y)
     exact end_tmp (v := iv 1) s81 rfl rfl s82 ⟨(fun i => (onB p) i ∨ (T2 i)), (by first | rw [(set_yes hin hv).1] | rw [(set_none hin hvn).1] | rw [(set_no hno).1]), K14, ⟨B83, gr84⟩⟩
    ·replace c78 := of_decide_eq_false c78
     refine wq_skip (then_normal (wq_seq (wq_seq ?_)))
     have hin : inV f x y := ⟨by omega, by omega, by omega, by omega⟩
     refine wq_region (wl_v (.agg #[iv X, iv Y]) rfl rfl (y_load_stc stcT_vector rfl s76 B7 rr) (wl_cs rfl rfl rfl rfl rfl (fun _ _ => by kernel_rfl) (vsC rfl vsN) (mref_check X Y  _   ) fun w86 k87 => ?_))
     have B88 := B12.all k87 id
     have B89 := B13.all k87 Apart.none
     have B90 := B7.all k87 id
     have K91 := K14.tr k87
     refine wl_v (.bool (decide ((vecE X Y) ≠ 0))) rfl rfl (y_neqI rfl rfl rfl rfl rr) (wl_nil fun F92 hF93 => ?_)
     obtain ⟨s94, s95, s96, s97, s98⟩ := t5 hF93 0 s72 1 s73 2 s74 48 s75 7 s76
     have s99 : F92 33 = .bool (decide ((vecE X Y) ≠ 0)) := (hF93 33).trans rfl
     clear hF93
     refine then_normal ?_
     refine wq_cond s99 (fun c100 => ?_) (fun c100 => ?_)
     ·replace c100 := of_decide_eq_true c100
      refine wq_seq ?_
      have hvn : ¬ vecOk X Y := fun h => absurd ((vecE_iff X Y).2 h) (by assumption)
      refine wq_region (wl_v (iv 90) rfl rfl (y_asg rfl rfl rr) (wl_nil fun F101 hF102 => ?_))
      have s103 := (hF102 48).trans s97
      have s104 : F101 8 = iv 90 := (hF102 8).trans rfl
      clear hF102
      refine then_normal (wq_ret (then_ret ?_))
      have B105 : Vfo w86 (fun i => (onB p) i ∨ (T2 i)) (pt p 0) (some (setV f x y X Y)) := (by first | (rw [(set_yes hin hv).2]; exact ⟨_, rfl, _, _, fun i => Iff.rfl, B88, (by rw [← vfL_lay ok hin]; exact B89), ap3, okV_lay ok hin hv⟩) | (rw [(set_none hin hvn).2]; exact ⟨_, rfl, _, _, fun i => Iff.rfl, B88, B89, ap3, ok⟩) | (rw [(set_no hno).2]; exact ⟨_, rfl, _, _, fun i => Iff.rfl, B88, B89, ap3, ok⟩))
      have gr106 : Grew w0 T_q (fun i => (onB p) i ∨ (T2 i)) := fun i h => h.elim (fun y => gr1 i y) (fun y => gr2 i y)
      exact end_tmp (v := iv 90) s103 rfl rfl s104 ⟨(fun i => (onB p) i ∨ (T2 i)), (by first | rw [(set_yes hin hv).1] | rw [(set_none hin hvn).1] | rw [(set_no hno).1]), K91, ⟨B105, gr106⟩⟩
     ·replace c100 := of_decide_eq_false c100
      refine wq_skip (then_normal (wq_seq ?_))
      have hv : vecOk X Y := (vecE_iff X Y).1 (by first | assumption | (apply Decidable.byContradiction; assumption))
      have hl := in_lt ok hin
      have hw := ok.w
      have hlen := vfL_length f
      refine wq_tail 14 [some 34, some 35, some 36, some 37, some 38, some 39, some 40, some 41, some 42, some 43, some 44, some 45, some 46, some 47] [Pd.eq (pt p 0), Pd.eq (pt p 0), Pd.eq (pt p 2), Pd.eq c, Pd.eq (iv y), Pd.eq (pt p 0), Pd.eq (pt p 0), Pd.eq (pt p 0), Pd.eq (iv (f.w)), Pd.eq (iv (y * (f.w))), Pd.eq (iv x), Pd.eq (iv ((y * (f.w)) + x)), Pd.eq (.agg #[iv X, iv Y]), Pd.eq (bytAddr c ((((y * (f.w)) + x).toNat) * 2))] (by kernel_rfl) (by kernel_rfl) (by kernel_rfl) ?_ ?_
      ·refine stepsF_cons ?_ ?_
       ·refine StepF.one rfl fun F_ w_ hR hout hD => ?_
        exact (y_mov rfl ((hout 0 rfl (by decide)).trans s94) ⟨rfl, Kept.refl _ _⟩)
       refine stepsF_cons ?_ ?_
       ·refine StepF.one rfl fun F_ w_ hR hout hD => ?_
        have g34 : F_ 34 = pt p 0 := (hD.get 0 rfl rfl rfl)
        exact (y_nilc rfl g34 ⟨rfl, Kept.refl _ _⟩)
       refine stepsF_cons ?_ ?_
       ·refine StepF.one rfl fun F_ w_ hR hout hD => ?_
        have g35 : F_ 35 = pt p 0 := (hD.get 0 rfl rfl rfl)
        exact (y_fieldR (n := 1) rfl g35 Tryz.underlying113 rfl (by kernel_rfl) (by decide) rfl ⟨rfl, Kept.refl _ _⟩)
       refine stepsF_cons ?_ ?_
       ·refine StepF.one rfl fun F_ w_ hR hout hD => ?_
        have g36 : F_ 36 = pt p 2 := (hD.get 0 rfl rfl rfl)
        exact (y_ld_stc rfl g36 Tryz.underlying111 (B88.all hR id) rfl rfl ⟨rfl, Kept.refl _ _⟩)
       refine stepsF_cons ?_ ?_
       ·refine StepF.one rfl fun F_ w_ hR hout hD => ?_
        exact (y_mov rfl ((hout 2 rfl (by decide)).trans s96) ⟨rfl, Kept.refl _ _⟩)
       refine stepsF_cons ?_ ?_
       ·refine StepF.one rfl fun F_ w_ hR hout hD => ?_
        exact (y_mov rfl ((hout 0 rfl (by decide)).trans s94) ⟨rfl, Kept.refl _ _⟩)
       refine stepsF_cons ?_ ?_
       ·refine StepF.one rfl fun F_ w_ hR hout hD => ?_
        have g39 : F_ 39 = pt p 0 := (hD.get 0 rfl rfl rfl)
        exact (y_nilc rfl g39 ⟨rfl, Kept.refl _ _⟩)
       refine stepsF_cons ?_ ?_
       ·refine StepF.one rfl fun F_ w_ hR hout hD => ?_
        have g40 : F_ 40 = pt p 0 := (hD.get 0 rfl rfl rfl)
        exact (y_fieldR (n := 1) rfl g40 Tryz.underlying113 rfl (by kernel_rfl) (by decide) rfl ⟨rfl, Kept.refl _ _⟩)
       refine stepsF_cons ?_ ?_
       ·refine StepF.one rfl fun F_ w_ hR hout hD => ?_
        have g41 : F_ 41 = pt p 0 := (hD.get 0 rfl rfl rfl)
        exact (y_ld_stc rfl g41 Tryz.underlying3 (B88.all hR id) rfl rfl ⟨rfl, Kept.refl _ _⟩)
       refine stepsF_cons ?_ ?_
       ·refine StepF.one rfl fun F_ w_ hR hout hD => ?_
        have g38 : F_ 38 = iv y := (hD.get 0 rfl rfl rfl)
        have g42 : F_ 42 = iv (f.w) := (hD.get 1 rfl rfl rfl)
        exact (y_mul rfl g38 g42 (i64_i rfl (by omega)) ⟨rfl, Kept.refl _ _⟩)
       refine stepsF_cons ?_ ?_
       ·refine StepF.one rfl fun F_ w_ hR hout hD => ?_
        exact (y_mov rfl ((hout 1 rfl (by decide)).trans s95) ⟨rfl, Kept.refl _ _⟩)
       refine stepsF_cons ?_ ?_
       ·refine StepF.one rfl fun F_ w_ hR hout hD => ?_
        have g43 : F_ 43 = iv (y * (f.w)) := (hD.get 0 rfl rfl rfl)
        have g44 : F_ 44 = iv x := (hD.get 1 rfl rfl rfl)
        exact (y_add rfl g43 g44 (i64_i rfl (by omega)) ⟨rfl, Kept.refl _ _⟩)
       refine stepsF_cons ?_ ?_
       ·refine StepF.one rfl fun F_ w_ hR hout hD => ?_
        exact (y_load_stc stcT_vector rfl ((hout 7 rfl (by decide)).trans s98) (B90.all hR id) ⟨rfl, Kept.refl _ _⟩)
       refine stepsF_cons ?_ ?_
       ·refine StepF.one rfl fun F_ w_ hR hout hD => ?_
        have g37 : F_ 37 = c := (hD.get 0 rfl rfl rfl)
        have g45 : F_ 45 = iv ((y * (f.w)) + x) := (hD.get 1 rfl rfl rfl)
        exact (y_atRo (r := rVec) (((y * (f.w)) + x).toNat) rfl g37 g45 (by omega) (B89.all hR Apart.none).roa (by omega) ⟨rfl, Kept.refl _ _⟩)
       exact stepsF_nil
      intro v108 F109 w110 k111 G112 hF113
      have B115 := B88.all k111 id
      have B116 := B89.all k111 Apart.none
      have K118 := K91.tr k111
      have s119 := (hF113 48).trans s97
      have s120 : F109 46 = .agg #[iv X, iv Y] := (hF113 46).trans (G112 12 (by decide))
      have s121 : F109 47 = bytAddr c ((((y * (f.w)) + x).toNat) * 2) := (hF113 47).trans (G112 13 (by decide))
      clear G112 hF113
      refine wl_setRo (r := rVec) (u := ⟨X, Y⟩) (((y * (f.w)) + x).toNat) rfl rfl rfl s121 s120 rfl B116 (by omega) fun w122 B123 k124 => ?_
      have B125 := B115.all k124 (ap3 p rfl)
      have K127 := K118.trans k124 (Grew.ok (S := T_q) gr2 (fun _ x => x))
      refine wl_nil fun F128 hF129 => ?_
      have s130 := (hF129 48).trans s119
      clear hF129
      refine then_normal (wq_seq (wq_region (wl_v (iv 0) rfl rfl (y_asg rfl rfl rr) (wl_nil fun F131 hF132 => ?_))))
      have s133 := (hF132 48).trans s130
      have s134 : F131 8 = iv 0 := (hF132 8).trans rfl
      clear hF132
      refine then_normal (wq_ret ?_)
      have B135 : Vfo w122 (fun i => (onB p) i ∨ (T2 i)) (pt p 0) (some (setV f x y X Y)) := (by first | (rw [(set_yes hin hv).2]; exact ⟨_, rfl, _, _, fun i => Iff.rfl, B125, (by rw [← vfL_lay ok hin]; exact B123), ap3, okV_lay ok hin hv⟩) | (rw [(set_none hin hvn).2]; exact ⟨_, rfl, _, _, fun i => Iff.rfl, B125, B123, ap3, ok⟩) | (rw [(set_no hno).2]; exact ⟨_, rfl, _, _, fun i => Iff.rfl, B125, B123, ap3, ok⟩))
      have gr136 : Grew w0 T_q (fun i => (onB p) i ∨ (T2 i)) := fun i h => h.elim (fun y => gr1 i y) (fun y => gr2 i y)
      exact end_tmp (v := iv 0) s133 rfl rfl s134 ⟨(fun i => (onB p) i ∨ (T2 i)), (by first | rw [(set_yes hin hv).1] | rw [(set_none hin hvn).1] | rw [(set_no hno).1]), K127, ⟨B135, gr136⟩⟩
theorem mref_vguess (v : Value) (f : VF) (x y : Int) (T_q : Nat → Prop) (w0 : World) (h_q : Vfo w0 T_q v ((some f))) :
  Calls Tryz.prog 38 #[v, .int .i64 (x), .int .i64 (y)] w0 fun e w' => e = .returned (.agg #[.int .i64 (gX f x y), .int .i64 (gY f x y)]) ∧ Kept (fun _ => False) w0 w' := by
 refine calls_wq (args := [v, iv x, iv y]) 39 Tryz.func38 rfl rfl (Nat.le_of_ble_eq_true rfl) ?_
 have K0 := Kept.refl (fun _ => False) w0
 have ok := h_q.ok
 have g_q := Grew.refl w0 T_q
 refine wq_seq (wq_region (wl_alloc_stc (n := 2) (vs := [iv 0, iv 0]) rfl rfl rfl (by kernel_rfl) fun p1 w2 B4 g5 k3 => ?_))
 have gr6 : Grew w0 noB (onB p1) := Grew.new K0 g5
 have B8 := h_q.all k3 Apart.none
 have K9 := K0.tr k3
 refine wl_nil fun F10 hF11 => ?_
 have s12 : F10 0 = v := (hF11 0).trans rfl
 have s13 : F10 1 = iv x := (hF11 1).trans rfl
 have s14 : F10 2 = iv y := (hF11 2).trans rfl
 have s15 : F10 39 = undef := (hF11 39).trans rfl
 have s16 : F10 6 = pt p1 0 := (hF11 6).trans rfl
 clear hF11
 refine then_normal (wq_seq (wq_seq ?_))
 by_cases d17 : x < (-5)
 ·skip
  refine wq_region (wl_mv rfl rfl rfl s13 (wl_v (.bool true) rfl rfl (y_lss rfl rfl rfl (decide_eq_true d17) rr) (wl_v (.bool true) rfl rfl (y_mov rfl rfl rr) (wl_unless 2 false 9 rfl rfl rfl (Or.inl rfl) rfl (wl_unless 2 false 9 rfl rfl rfl (Or.inl rfl) rfl (wl_v (.bool true) rfl rfl (y_pickT rfl rfl rfl rr) (wl_v (.bool true) rfl rfl (y_mov rfl rfl rr) (wl_unless 6 false 13 rfl rfl rfl (Or.inl rfl) rfl (wl_unless 6 false 13 rfl rfl rfl (Or.inl rfl) rfl (wl_v (.bool true) rfl rfl (y_pickT rfl rfl rfl rr) (wl_v (.bool true) rfl rfl (y_mov rfl rfl rr) ?_)))))))))))
  refine wl_unless 10 false 17 rfl rfl rfl (Or.inl rfl) rfl (wl_unless 10 false 17 rfl rfl rfl (Or.inl rfl) rfl (wl_v (.bool true) rfl rfl (y_pickT rfl rfl rfl rr) (wl_nil fun F18 hF19 => ?_)))
  obtain ⟨s23, s24⟩ := t2 hF19 39 s15 6 s16
  have s25 : F18 20 = .bool true := (hF19 20).trans rfl
  clear hF19
  refine then_normal ?_
  refine wq_cond (t := true) s25 (fun _ => ?_) (fun e => by cases e)
  refine wq_seq (wq_region (wl_v (.agg #[iv 0, iv 0]) rfl rfl (y_buildL (l' := []) (cells := #[iv 0, iv 0]) rfl bpN (by kernel_rfl) rfl rr) (wl_store_stc (us := [iv 0, iv 0]) stcT_vector rfl rfl rfl s24 rfl B4 rfl (oneI rfl (oneI rfl oneN)) fun w26 B27 k28 => ?_)))
  have K30 := K9.trans k28 (Grew.ok (S := fun _ => False) gr6 noB_le)
  refine wl_nil fun F31 hF32 => ?_
  obtain ⟨s33, s34⟩ := t2 hF32 39 s23 6 s24
  clear hF32
  refine then_normal (wq_ret (then_ret ?_))
  exact end_stc (vs := [iv 0, iv 0]) stcT_vector s33 rfl rfl s34 B27 ⟨(by first | rfl | rw [(guess_far ok (by omega)).1, (guess_far ok (by omega)).2]), K30⟩
 ·skip
  by_cases d35 : 100 < x
  ·skip
   refine wq_region (wl_mv rfl rfl rfl s13 (wl_v (.bool false) rfl rfl (y_lss rfl rfl rfl (decide_eq_false d17) rr) (wl_v (.bool false) rfl rfl (y_mov rfl rfl rr) (wl_vw (iv x) 2 false 9 rfl rfl rfl rfl rfl (y_mov rfl s13 rr) (wl_vw (.bool true) 2 false 9 rfl rfl rfl rfl rfl (y_gtr rfl rfl rfl (decide_eq_true d35) rr) (wl_v (.bool true) rfl rfl (y_pickF rfl rfl rfl rr) (wl_v (.bool true) rfl rfl (y_mov rfl rfl rr) (wl_unless 6 false 13 rfl rfl rfl (Or.inl rfl) rfl (wl_unless 6 false 13 rfl rfl rfl (Or.inl rfl) rfl (wl_v (.bool true) rfl rfl (y_pickT rfl rfl rfl rr) (wl_v (.bool true) rfl rfl (y_mov rfl rfl rr) ?_)))))))))))
   refine wl_unless 10 false 17 rfl rfl rfl (Or.inl rfl) rfl (wl_unless 10 false 17 rfl rfl rfl (Or.inl rfl) rfl (wl_v (.bool true) rfl rfl (y_pickT rfl rfl rfl rr) (wl_nil fun F36 hF37 => ?_)))
   obtain ⟨s41, s42⟩ := t2 hF37 39 s15 6 s16
   have s43 : F36 20 = .bool true := (hF37 20).trans rfl
   clear hF37
   refine then_normal ?_
   refine wq_cond (t := true) s43 (fun _ => ?_) (fun e => by cases e)
   refine wq_seq (wq_region (wl_v (.agg #[iv 0, iv 0]) rfl rfl (y_buildL (l' := []) (cells := #[iv 0, iv 0]) rfl bpN (by kernel_rfl) rfl rr) (wl_store_stc (us := [iv 0, iv 0]) stcT_vector rfl rfl rfl s42 rfl B4 rfl (oneI rfl (oneI rfl oneN)) fun w44 B45 k46 => ?_)))
   have K48 := K9.trans k46 (Grew.ok (S := fun _ => False) gr6 noB_le)
   refine wl_nil fun F49 hF50 => ?_
   obtain ⟨s51, s52⟩ := t2 hF50 39 s41 6 s42
   clear hF50
   refine then_normal (wq_ret (then_ret ?_))
   exact end_stc (vs := [iv 0, iv 0]) stcT_vector s51 rfl rfl s52 B45 ⟨(by first | rfl | rw [(guess_far ok (by omega)).1, (guess_far ok (by omega)).2]), K48⟩
  ·skip
   by_cases d53 : y < (-5)
   ·skip
    refine wq_region (wl_mv rfl rfl rfl s13 (wl_v (.bool false) rfl rfl (y_lss rfl rfl rfl (decide_eq_false d17) rr) (wl_v (.bool false) rfl rfl (y_mov rfl rfl rr) (wl_vw (iv x) 2 false 9 rfl rfl rfl rfl rfl (y_mov rfl s13 rr) (wl_vw (.bool false) 2 false 9 rfl rfl rfl rfl rfl (y_gtr rfl rfl rfl (decide_eq_false d35) rr) (wl_v (.bool false) rfl rfl (y_pickF rfl rfl rfl rr) (wl_v (.bool false) rfl rfl (y_mov rfl rfl rr) (wl_vw (iv y) 6 false 13 rfl rfl rfl rfl rfl (y_mov rfl s14 rr) (wl_vw (.bool true) 6 false 13 rfl rfl rfl rfl rfl (y_lss rfl rfl rfl (decide_eq_true d53) rr) (wl_v (.bool true) rfl rfl (y_pickF rfl rfl rfl rr) (wl_v (.bool true) rfl rfl (y_mov rfl rfl rr) ?_)))))))))))
    refine wl_unless 10 false 17 rfl rfl rfl (Or.inl rfl) rfl (wl_unless 10 false 17 rfl rfl rfl (Or.inl rfl) rfl (wl_v (.bool true) rfl rfl (y_pickT rfl rfl rfl rr) (wl_nil fun F54 hF55 => ?_)))
    obtain ⟨s59, s60⟩ := t2 hF55 39 s15 6 s16
    have s61 : F54 20 = .bool true := (hF55 20).trans rfl
    clear hF55
    refine then_normal ?_
    refine wq_cond (t := true) s61 (fun _ => ?_) (fun e => by cases e)
    refine wq_seq (wq_region (wl_v (.agg #[iv 0, iv 0]) rfl rfl (y_buildL (l' := []) (cells := #[iv 0, iv 0]) rfl bpN (by kernel_rfl) rfl rr) (wl_store_stc (us := [iv 0, iv 0]) stcT_vector rfl rfl rfl s60 rfl B4 rfl (oneI rfl (oneI rfl oneN)) fun w62 B63 k64 => ?_)))
    have K66 := K9.trans k64 (Grew.ok (S := fun _ => False) gr6 noB_le)
    refine wl_nil fun F67 hF68 => ?_
    obtain ⟨s69, s70⟩ := t2 hF68 39 s59 6 s60
    clear hF68
    refine then_normal (wq_ret (then_ret ?_))
    exact end_stc (vs := [iv 0, iv 0]) stcT_vector s69 rfl rfl s70 B63 ⟨(by first | rfl | rw [(guess_far ok (by omega)).1, (guess_far ok (by omega)).2]), K66⟩
   ·skip
    refine wq_region (wl_mv rfl rfl rfl s13 (wl_v (.bool false) rfl rfl (y_lss rfl rfl rfl (decide_eq_false d17) rr) (wl_v (.bool false) rfl rfl (y_mov rfl rfl rr) (wl_vw (iv x) 2 false 9 rfl rfl rfl rfl rfl (y_mov rfl s13 rr) (wl_vw (.bool false) 2 false 9 rfl rfl rfl rfl rfl (y_gtr rfl rfl rfl (decide_eq_false d35) rr) (wl_v (.bool false) rfl rfl (y_pickF rfl rfl rfl rr) (wl_v (.bool false) rfl rfl (y_mov rfl rfl rr) (wl_vw (iv y) 6 false 13 rfl rfl rfl rfl rfl (y_mov rfl s14 rr) (wl_vw (.bool false) 6 false 13 rfl rfl rfl rfl rfl (y_lss rfl rfl rfl (decide_eq_false d53) rr) (wl_v (.bool false) rfl rfl (y_pickF rfl rfl rfl rr) (wl_v (.bool false) rfl rfl (y_mov rfl rfl rr) ?_)))))))))))
    refine wl_vw (iv y) 10 false 17 rfl rfl rfl rfl rfl (y_mov rfl s14 rr) (wl_vw (.bool (decide (100 < y))) 10 false 17 rfl rfl rfl rfl rfl (y_gtr rfl rfl rfl rfl rr) (wl_v (.bool (decide (100 < y))) rfl rfl (y_pickF rfl rfl rfl rr) (wl_nil fun F71 hF72 => ?_)))
    obtain ⟨s73, s74, s75, s76, s77⟩ := t5 hF72 0 s12 1 s13 2 s14 39 s15 6 s16
    have s78 : F71 20 = .bool (decide (100 < y)) := (hF72 20).trans rfl
    clear hF72
    refine then_normal ?_
    refine wq_cond s78 (fun c79 => ?_) (fun c79 => ?_)
    ·replace c79 := of_decide_eq_true c79
     refine wq_seq (wq_region (wl_v (.agg #[iv 0, iv 0]) rfl rfl (y_buildL (l' := []) (cells := #[iv 0, iv 0]) rfl bpN (by kernel_rfl) rfl rr) (wl_store_stc (us := [iv 0, iv 0]) stcT_vector rfl rfl rfl s77 rfl B4 rfl (oneI rfl (oneI rfl oneN)) fun w80 B81 k82 => ?_)))
     have K84 := K9.trans k82 (Grew.ok (S := fun _ => False) gr6 noB_le)
     refine wl_nil fun F85 hF86 => ?_
     obtain ⟨s87, s88⟩ := t2 hF86 39 s76 6 s77
     clear hF86
     refine then_normal (wq_ret (then_ret ?_))
     exact end_stc (vs := [iv 0, iv 0]) stcT_vector s87 rfl rfl s88 B81 ⟨(by first | rfl | rw [(guess_far ok (by omega)).1, (guess_far ok (by omega)).2]), K84⟩
    ·replace c79 := of_decide_eq_false c79
     refine wq_skip (then_normal (wq_seq (wq_region (wl_mv rfl rfl rfl s73 (wl_mv rfl rfl rfl s74 (wl_v (iv (x - 1)) rfl rfl (y_sub rfl rfl rfl (i64_i rfl (by omega)) rr) (wl_mv rfl rfl rfl s75 (wl_cs rfl rfl rfl rfl rfl (fun _ _ => by kernel_rfl) (vsC rfl (vsC rfl (vsC rfl vsN))) (mref_vget v f (x - 1) y T_q _  B8 ) fun w89 k90 => ?_))))))))
     have B91 := B8.all k90 Apart.none
     have B92 := B4.all k90 id
     have K93 := K9.tr k90
     refine wl_mv rfl rfl rfl s73 (wl_mv rfl rfl rfl s74 (wl_mv rfl rfl rfl s75 (wl_v (iv (y - 1)) rfl rfl (y_sub rfl rfl rfl (i64_i rfl (by omega)) rr) (wl_cs rfl rfl rfl rfl rfl (fun _ _ => by kernel_rfl) (vsC rfl (vsC rfl (vsC rfl vsN))) (mref_vget v f x (y - 1) T_q _  B91 ) fun w94 k95 => ?_))))
     have B96 := B91.all k95 Apart.none
     have B97 := B92.all k95 id
     have K98 := K93.tr k95
     refine wl_mv rfl rfl rfl s73 (wl_mv rfl rfl rfl s74 (wl_v (iv (x + 1)) rfl rfl (y_add rfl rfl rfl (i64_i rfl (by omega)) rr) (wl_mv rfl rfl rfl s75 (wl_v (iv (y - 1)) rfl rfl (y_sub rfl rfl rfl (i64_i rfl (by omega)) rr) (wl_cs rfl rfl rfl rfl rfl (fun _ _ => by kernel_rfl) (vsC rfl (vsC rfl (vsC rfl vsN))) (mref_vget v f (x + 1) (y - 1) T_q _  B96 ) fun w99 k100 => ?_)))))
     have B102 := B97.all k100 id
     have K103 := K98.tr k100
     refine wl_cs rfl rfl rfl rfl rfl (fun _ _ => by kernel_rfl) (vsC rfl (vsC rfl (vsC rfl vsN))) (vref_median (f.X (x - 1) y) (f.Y (x - 1) y) (f.X x (y - 1)) (f.Y x (y - 1)) (f.X (x + 1) (y - 1)) (f.Y (x + 1) (y - 1))  _   ) fun w104 k105 => ?_
     have B107 := B102.all k105 id
     have K108 := K103.tr k105
     refine wl_store_stc (us := [iv (med (f.X (x - 1) y) (f.X x (y - 1)) (f.X (x + 1) (y - 1))), iv (med (f.Y (x - 1) y) (f.Y x (y - 1)) (f.Y (x + 1) (y - 1)))]) stcT_vector rfl rfl rfl s77 rfl B107 rfl (oneI rfl (oneI rfl oneN)) fun w109 B110 k111 => ?_
     have K113 := K108.trans k111 (Grew.ok (S := fun _ => False) gr6 noB_le)
     refine wl_nil fun F114 hF115 => ?_
     obtain ⟨s116, s117⟩ := t2 hF115 39 s76 6 s77
     clear hF115
     refine then_normal (wq_ret ?_)
     exact end_stc (vs := [iv (med (f.X (x - 1) y) (f.X x (y - 1)) (f.X (x + 1) (y - 1))), iv (med (f.Y (x - 1) y) (f.Y x (y - 1)) (f.Y (x + 1) (y - 1)))]) stcT_vector s116 rfl rfl s117 B110 ⟨(by first | rfl | rw [(guess_far ok (by omega)).1, (guess_far ok (by omega)).2]), K113⟩
end Go.Proofs.YtknjpdcpmpfklaaGreatDoor
set_option maxRecDepth 100000
namespace Go.Proofs.YtknjpdcpmpfklaaGreatDoor
open Go.RowKit
def pairV (a b : Int) : Value := .agg #[.int .i64 a, .int .i64 b]
structure TwoInts (K : TypeId) : Prop where
  und : Tryz.prog.underlying K = some (.struct (Tryz.prog.fieldsOf K))
  hel : Tryz.prog.stoodInHeld K = false
  flds : ∃ n0 n1 : String, n0 ≠ "_" ∧ n1 ≠ "_" ∧ (Tryz.prog.fieldsOf K).toList.map (fun f => (f.name, f.type, f.offset)) = [(n0, 3, 0), (n1, 3, 1)]
theorem TwoInts.split {K : TypeId} (h : TwoInts K) : ∃ f0 f1 : Field, Tryz.prog.fieldsOf K = #[f0, f1] ∧ f0.name ≠ "_" ∧ f1.name ≠ "_" ∧ f0.type = 3 ∧ f1.type = 3 ∧ f0.offset = 0 ∧ f1.offset = 1 := by
  obtain ⟨n0, n1, h0, h1, hf⟩ := h.flds
  have hlen : (Tryz.prog.fieldsOf K).toList.length = 2 := by simpa using congrArg List.length hf
  match hq : (Tryz.prog.fieldsOf K).toList, hlen with
  | [f0, f1], _ =>
    rw [hq] at hf
    simp only [List.map_cons, List.map_nil, List.cons.injEq, Prod.mk.injEq, and_true] at hf
    obtain ⟨⟨e0, t0, o0⟩, ⟨e1, t1, o1⟩⟩ := hf
    exact ⟨f0, f1, by rw [← hq], by rw [e0]; exact h0, by rw [e1]; exact h1, t0, t1, o0, o1⟩
theorem run_same_two {K : TypeId} (h : TwoInts K) (w : World) (a b c d : Int) : (Op.equal K (pairV a b) (pairV c d)).run Tryz.prog w = .ok (sameVec a b c d) w := by
  obtain ⟨f0, f1, hf, n0, n1, t0, t1, o0, o1⟩ := h.split
  have e := run_equalIn_struct (P := Tryz.prog) w 9999 K #[.int .i64 a, .int .i64 b] #[.int .i64 c, .int .i64 d] h.und h.hel
  unfold Op.equal pairV
  refine e.trans ?_
  rw [hf]
  have p1 := part_int w #[.int .i64 a, .int .i64 b] 0 a rfl
  have p2 := part_int w #[.int .i64 c, .int .i64 d] 0 c rfl
  have p3 := part_int w #[.int .i64 a, .int .i64 b] 1 b rfl
  have p4 := part_int w #[.int .i64 c, .int .i64 d] 1 d rfl
  simp only [Op.eqFields, t0, o0, t1, o1]
  rw [if_pos n0, if_pos n1]
  simp only [Sem.run_bind, p1, p2, Result.andThen_ok, run_equalIn_int w 9998 3 .i64 .i64 _ _ Tryz.underlying3]
  unfold sameVec
  by_cases h1 : a = c
  · subst h1
    simp only [beq_self_eq_true, Bool.not_true, Bool.false_eq_true, if_false, Sem.run_bind, p3, p4, Result.andThen_ok, run_equalIn_int w 9998 3 .i64 .i64 _ _ Tryz.underlying3]
    by_cases h2 : b = d
    · subst h2; simp
    · have : (b == d) = false := by simpa using h2
      simp [this, h2]
  · have : (a == c) = false := by simpa using h1
    simp [this, h1]
theorem run_check_two {K : TypeId} (h : TwoInts K) (w : World) (em : Bool) (a b : Int) : (Instr.checkKey em 10000 K (pairV a b)).run Tryz.prog w = .ok () w := by
  obtain ⟨f0, f1, hf, n0, n1, t0, t1, o0, o1⟩ := h.split
  have hu := h.und
  rw [hf] at hu
  have p1 := part_int w #[.int .i64 a, .int .i64 b] 0 a rfl
  have p3 := part_int w #[.int .i64 a, .int .i64 b] 1 b rfl
  have hi : ∀ z : Int, (Instr.checkKey em 9999 3 (.int .i64 z)).run Tryz.prog w = .ok () w := fun z => by
    have e : ∀ n, (Instr.checkKey em (n + 1) 3 (.int .i64 z)).run Tryz.prog w = .ok () w := fun n => by
      unfold Instr.checkKey
      simp only [Sem.run_bind, run_underlying Tryz.underlying3, Result.andThen_ok, Sem.run_pure]
    exact e 9998
  unfold pairV
  have e : ∀ n, (∀ z : Int, (Instr.checkKey em n 3 (.int .i64 z)).run Tryz.prog w = .ok () w) → (Instr.checkKey em (n + 1) K (.agg #[.int .i64 a, .int .i64 b])).run Tryz.prog w = .ok () w := fun n hn => by
    unfold Instr.checkKey
    simp [run_underlying hu, n0, n1, t0, t1, o0, o1, p1, p3, hn]
  exact e 9999 hi
def entV (es : List MapEntry) (L : List ((Int × Int) × Int × Int)) : Prop := es.map (fun e => (e.key, e.val)) = L.map fun q => (pairV q.1.1 q.1.2, pairV q.2.1 q.2.2)
def idxL (a b : Int) : List ((Int × Int) × Int × Int) → Nat → Option (Nat × Int × Int)
  | [], _ => none
  | q :: r, i => if q.1 = (a, b) then some (i, q.2) else idxL a b r (i + 1)
theorem run_asking {K : TypeId} (h : TwoInts K) (w : World) (a b : Int) : ∀ (L : List ((Int × Int) × Int × Int)) (es : List MapEntry) (i : Nat), entV es L → (Instr.findAsking K (pairV a b) es i).run Tryz.prog w = .ok ((idxL a b L i).map fun z => (z.1, pairV z.2.1 z.2.2)) w := by
  intro L
  induction L with
  | nil =>
    intro es i he
    have : es = [] := by simpa [entV] using he
    subst this
    simp [Instr.findAsking, idxL]
  | cons q r ih =>
    intro es i he
    cases es with
    | nil => simp [entV] at he
    | cons e es =>
      obtain ⟨⟨c, d⟩, X, Y⟩ := q
      simp only [entV, List.map_cons, List.cons.injEq, Prod.mk.injEq] at he
      obtain ⟨⟨e1, e2⟩, he⟩ := he
      simp only [Instr.findAsking, Sem.run_bind, e1, e2, run_same_two h, Result.andThen_ok, idxL]
      by_cases hk : (c, d) = (a, b)
      · cases hk
        rw [sameVec_self, if_pos rfl, if_pos rfl]; rfl
      · rw [if_neg hk]
        have hs : sameVec a b c d = false := by
          unfold sameVec
          by_cases h1 : a = c
          · subst h1
            rw [decide_eq_false (p := b = d) (fun h2 => hk (by rw [h2])), Bool.and_false]
          · rw [decide_eq_false h1, Bool.false_and]
        rw [hs, if_neg (by simp)]
        exact ih es (i + 1) he
theorem run_find_two {K : TypeId} (h : TwoInts K) (w : World) (a b : Int) (L : List ((Int × Int) × Int × Int)) (es : List MapEntry) (he : entV es L) : (Instr.findKey K (pairV a b) es).run Tryz.prog w = .ok ((idxL a b L 0).map fun z => (z.1, pairV z.2.1 z.2.2)) w := by
  have ha := run_asking h w a b L es 0 he
  unfold Instr.findKey
  cases es with
  | nil =>
    have : L = [] := by simpa [entV] using he.symm
    subst this
    simp [run_underlying h.und, Instr.findNow, idxL]
  | cons e es =>
    simp only [Sem.run_bind, run_underlying h.und, Result.andThen_ok, Instr.findNow, Instr.sameNow]
    exact ha
abbrev Ents := List ((Int × Int) × Int × Int)
def lookL (a b : Int) : Ents → Int × Int
  | [] => (0, 0)
  | q :: r => if q.1 = (a, b) then q.2 else lookL a b r
def setL (a b X Y : Int) : Ents → Ents
  | [] => [((a, b), X, Y)]
  | q :: r => if q.1 = (a, b) then ((a, b), X, Y) :: r else q :: setL a b X Y r
def delL (a b : Int) : Ents → Ents
  | [] => []
  | q :: r => if q.1 = (a, b) then r else q :: delL a b r
theorem idx_none {a b : Int} : ∀ {L : Ents} {k : Nat}, idxL a b L k = none → lookL a b L = (0, 0) ∧ (∀ X Y, setL a b X Y L = L ++ [((a, b), X, Y)]) ∧ delL a b L = L := by
  intro L
  induction L with
  | nil => intro k _; exact ⟨rfl, fun _ _ => rfl, rfl⟩
  | cons q r ih =>
    intro k h
    rw [idxL] at h
    by_cases hq : q.1 = (a, b)
    · rw [if_pos hq] at h; cases h
    · rw [if_neg hq] at h
      obtain ⟨h1, h2, h3⟩ := ih h
      exact ⟨by rw [lookL, if_neg hq, h1], fun X Y => by rw [setL, if_neg hq, h2, List.cons_append], by rw [delL, if_neg hq, h3]⟩
theorem idx_some {a b : Int} {z : Int × Int} : ∀ {L : Ents} {k j : Nat}, idxL a b L k = some (j, z) → ∃ i, j = k + i ∧ L[i]? = some ((a, b), z) ∧ lookL a b L = z ∧ (∀ X Y, setL a b X Y L = L.set i ((a, b), X, Y)) ∧ delL a b L = L.eraseIdx i := by
  intro L
  induction L with
  | nil => intro k j h; cases h
  | cons q r ih =>
    intro k j h
    rw [idxL] at h
    by_cases hq : q.1 = (a, b)
    · rw [if_pos hq] at h
      cases h
      exact ⟨0, rfl, by rw [List.getElem?_cons_zero, ← hq], by rw [lookL, if_pos hq], fun X Y => by rw [setL, if_pos hq]; rfl, by rw [delL, if_pos hq]; rfl⟩
    · rw [if_neg hq] at h
      obtain ⟨i, h1, h2, h3, h4, h5⟩ := ih h
      exact ⟨i + 1, by omega, by rw [List.getElem?_cons_succ]; exact h2, by rw [lookL, if_neg hq, h3], fun X Y => by rw [setL, if_neg hq, h4]; rfl, by rw [delL, if_neg hq, h5]; rfl⟩
theorem look_set (a b X Y c d : Int) (L : Ents) : lookL c d (setL a b X Y L) = if (c, d) = (a, b) then (X, Y) else lookL c d L := by
  induction L with
  | nil =>
    by_cases h : (c, d) = (a, b)
    · rw [if_pos h, setL]
      simp only [lookL]
      rw [if_pos h.symm]
    · rw [if_neg h, setL]
      simp only [lookL]
      rw [if_neg (fun e => h e.symm)]
  | cons q r ih =>
    rw [setL]
    by_cases hq : q.1 = (a, b)
    · rw [if_pos hq, lookL]
      by_cases h : (c, d) = (a, b)
      · rw [if_pos h, if_pos h.symm]
      · rw [if_neg h, if_neg (fun e => h e.symm), lookL, if_neg (fun e => h (by rw [← e, hq]))]
    · rw [if_neg hq, lookL, lookL, ih]
      by_cases h2 : q.1 = (c, d)
      · rw [if_pos h2, if_pos h2, if_neg (fun e => hq (by rw [h2, e]))]
      · rw [if_neg h2, if_neg h2]
theorem look_out {c d : Int} {L : Ents} (h : (c, d) ∉ L.map (·.1)) : lookL c d L = (0, 0) := by
  induction L with
  | nil => rfl
  | cons q r ih =>
    simp only [List.map_cons, List.mem_cons, not_or] at h
    rw [lookL, if_neg (fun e => h.1 e.symm)]; exact ih h.2
theorem look_del (a b c d : Int) (L : Ents) (hn : (L.map (·.1)).Nodup) : lookL c d (delL a b L) = if (c, d) = (a, b) then (0, 0) else lookL c d L := by
  induction L with
  | nil => rw [delL, lookL]; split <;> rfl
  | cons q r ih =>
    simp only [List.map_cons, List.nodup_cons] at hn
    rw [delL]
    by_cases hq : q.1 = (a, b)
    · rw [if_pos hq]
      by_cases h : (c, d) = (a, b)
      · rw [if_pos h]; exact look_out (by rw [h, ← hq]; exact hn.1)
      · rw [if_neg h, lookL, if_neg (fun e => h (by rw [← e, hq]))]
    · rw [if_neg hq, lookL, lookL, ih hn.2]
      by_cases h2 : q.1 = (c, d)
      · rw [if_pos h2, if_pos h2, if_neg (fun e => hq (by rw [h2, e]))]
      · rw [if_neg h2, if_neg h2]
theorem keys_set (a b X Y : Int) (L : Ents) (k : Int × Int) : k ∈ (setL a b X Y L).map (·.1) ↔ k = (a, b) ∨ k ∈ L.map (·.1) := by
  induction L with
  | nil => simp [setL]
  | cons q r ih =>
    rw [setL]
    by_cases hq : q.1 = (a, b)
    · rw [if_pos hq]; simp only [List.map_cons, List.mem_cons, hq]
      constructor
      · rintro (h | h)
        · exact .inl h
        · exact .inr (.inr h)
      · rintro (h | h | h)
        · exact .inl h
        · exact .inl h
        · exact .inr h
    · rw [if_neg hq]; simp only [List.map_cons, List.mem_cons, ih]
      constructor
      · rintro (h | h | h)
        · exact .inr (.inl h)
        · exact .inl h
        · exact .inr (.inr h)
      · rintro (h | h | h)
        · exact .inr (.inl h)
        · exact .inl h
        · exact .inr (.inr h)
theorem nodup_set (a b X Y : Int) (L : Ents) (hn : (L.map (·.1)).Nodup) : ((setL a b X Y L).map (·.1)).Nodup := by
  induction L with
  | nil => simp [setL]
  | cons q r ih =>
    simp only [List.map_cons, List.nodup_cons] at hn
    rw [setL]
    by_cases hq : q.1 = (a, b)
    · rw [if_pos hq]; simp only [List.map_cons, List.nodup_cons]; exact ⟨by rw [← hq]; exact hn.1, hn.2⟩
    · rw [if_neg hq]; simp only [List.map_cons, List.nodup_cons]
      refine ⟨fun h => ?_, ih hn.2⟩
      rcases (keys_set a b X Y r q.1).1 h with h | h
      · exact hq h
      · exact hn.1 h
theorem del_sub (a b : Int) (L : Ents) : (delL a b L).Sublist L := by
  induction L with
  | nil => exact List.Sublist.refl _
  | cons q r ih =>
    rw [delL]
    split
    · exact List.sublist_cons_self _ _
    · exact ih.cons_cons _
theorem nodup_del (a b : Int) (L : Ents) (hn : (L.map (·.1)).Nodup) : ((delL a b L).map (·.1)).Nodup := List.Nodup.sublist ((del_sub a b L).map _) hn
def Mpf (w : World) (r : Nat) (g : Int → Int → Int × Int) : Prop := ∃ es clock L, w.heap[r]? = some (.map es clock) ∧ entV es.toList L ∧ (L.map (·.1)).Nodup ∧ ∀ a b, lookL a b L = g a b
theorem Mpf.lt {w : World} {r : Nat} {g : Int → Int → Int × Int} (h : Mpf w r g) : r < w.heap.size := by obtain ⟨_, _, _, h, _⟩ := h; exact lt_of_heap h
theorem Mpf.all {S : Nat → Prop} {w w' : World} {r : Nat} {g : Int → Int → Int × Int} (h : Mpf w r g) (k : Kept S w w') (hn : ¬ S r) : Mpf w' r g := by
  obtain ⟨es, clock, L, h1, h2⟩ := h; exact ⟨es, clock, L, k.at h1 hn, h2⟩
theorem Mpf.congr {w : World} {r : Nat} {g g' : Int → Int → Int × Int} (h : Mpf w r g) (e : ∀ a b, g a b = g' a b) : Mpf w r g' := by
  obtain ⟨es, clock, L, h1, h2, h3, h4⟩ := h; exact ⟨es, clock, L, h1, h2, h3, fun a b => (h4 a b).trans (e a b)⟩
def layG (g : Int → Int → Int × Int) (a b X Y : Int) : Int → Int → Int × Int := fun c d => if (c, d) = (a, b) then (X, Y) else g c d
section
variable {ρ : Operand → Value} {o : Oper} {w : World} {R : Value → World → Prop} {M K E : TypeId}
theorem y_look2 {x ix : Operand} {r : Nat} {a b : Int} {g : Int → Int → Int × Int} (hK : TwoInts K) (hM : Tryz.prog.underlying M = some (.map K E)) (hz : (Tryz.prog.info? E).bind (·.zero) = some (pairV 0 0)) (ho : o.op = .lookup M x ix false) (hx : ρ x = .map (some r)) (hi : ρ ix = pairV a b) (hB : Mpf w r g) (h : R (pairV (g a b).1 (g a b).2) w) : Yields Tryz.prog ρ o w R := by
  obtain ⟨es, clock, L, h1, h2, _, h4⟩ := hB
  have hf := run_find_two hK w a b L es.toList h2
  have hc := run_check_two hK w es.isEmpty a b
  have hz' : (zeroValue E).run Tryz.prog w = .ok (pairV 0 0) w := by
    cases hq : Tryz.prog.info? E with
    | none => rw [hq] at hz; cases hz
    | some i =>
      have : i.zero = some (pairV 0 0) := by rw [hq] at hz; exact hz
      simp [zeroValue, typeInfo, hq, this]
  refine y_val (v := pairV (g a b).1 (g a b).2) (w' := w) ?_ h
  rw [← h4 a b]
  cases hq : idxL a b L 0 with
  | none =>
    rw [hq] at hf
    rw [(idx_none hq).1]
    simp [execOp, ho, hx, hi, Instr.lookup, run_underlying hM, MapKept.run_getObj_map h1, hc, hf, hz']
  | some z =>
    obtain ⟨j, X, Y⟩ := z
    obtain ⟨i, _, _, e, _⟩ := idx_some hq
    rw [hq] at hf
    rw [e]
    simp [execOp, ho, hx, hi, Instr.lookup, run_underlying hM, MapKept.run_getObj_map h1, hc, hf]
theorem heap_set {w : World} {r : Nat} {ob : Obj} (h : r < w.heap.size) : ({ w with heap := w.heap.setIfInBounds r ob } : World).heap[r]? = some ob := by simp [h]
theorem kept_set (w : World) (r : Nat) (ob : Obj) : Kept (onB r) w { w with heap := w.heap.setIfInBounds r ob } := ⟨rfl, rfl, rfl, by simp, fun i hi hn => by
  have : r ≠ i := fun e => hn e.symm
  simp [Array.getElem?_setIfInBounds_ne this]⟩
theorem map_erase {α β : Type} (f : α → β) : ∀ (l : List α) (i : Nat), (l.eraseIdx i).map f = (l.map f).eraseIdx i := by
  intro l
  induction l with
  | nil => intro i; rfl
  | cons x l ih =>
    intro i
    cases i with
    | zero => rfl
    | succ i => simp [ih i]
theorem entV_at {es : List MapEntry} {L : Ents} (h : entV es L) {i : Nat} {q : (Int × Int) × Int × Int} (hq : L[i]? = some q) : ∃ e, es[i]? = some e ∧ e.key = pairV q.1.1 q.1.2 ∧ e.val = pairV q.2.1 q.2.2 := by
  have := congrArg (fun l => l[i]?) h
  simp only [List.getElem?_map, hq, Option.map_some] at this
  cases he : es[i]? with
  | none => rw [he] at this; cases this
  | some e =>
    rw [he] at this
    simp only [Option.map_some, Option.some.injEq, Prod.mk.injEq] at this
    exact ⟨e, rfl, this.1, this.2⟩
theorem same_bits (a b : Int) : Instr.sameBits 10000 (pairV a b) (pairV a b) = true := by
  have e : ∀ n, Instr.sameBits (n + 1) (pairV a b) (pairV a b) = true := fun n => by
    unfold pairV Instr.sameBits
    simp [Instr.sameBits]
  exact e 9999
theorem y_upd2 {x ix y : Operand} {r : Nat} {a b X Y : Int} {g : Int → Int → Int × Int} (hK : TwoInts K) (hM : Tryz.prog.underlying M = some (.map K E)) (ho : o.op = .mapUpdate M x ix y) (hx : ρ x = .map (some r)) (hi : ρ ix = pairV a b) (hy : ρ y = pairV X Y) (hB : Mpf w r g)
    (h : ∀ u w', Mpf w' r (layG g a b X Y) → Kept (onB r) w w' → R u w') : Yields Tryz.prog ρ o w R := by
  obtain ⟨es, clock, L, h1, h2, h3, h4⟩ := hB
  have hlt := lt_of_heap h1
  have hf := run_find_two hK w a b L es.toList h2
  have hc := run_check_two hK w false a b
  have hlay : ∀ c d, lookL c d (setL a b X Y L) = layG g a b X Y c d := fun c d => by rw [look_set]; unfold layG; rw [h4]
  have main : ∀ es' clock', entV es'.toList (setL a b X Y L) → (Instr.mapUpdate M (.map (some r)) (pairV a b) (pairV X Y)).run Tryz.prog w = .ok () { w with heap := w.heap.setIfInBounds r (.map es' clock') } → Yields Tryz.prog ρ o w R := by
    intro es' clock' he hr
    have hB' : Mpf { w with heap := w.heap.setIfInBounds r (.map es' clock') } r (layG g a b X Y) := ⟨es', clock', _, heap_set hlt, he, nodup_set a b X Y L h3, hlay⟩
    unfold Yields
    have e : (execOp ρ o).run Tryz.prog w = .ok .skip { w with heap := w.heap.setIfInBounds r (.map es' clock') } ∨ (execOp ρ o).run Tryz.prog w = .ok (.value undef) { w with heap := w.heap.setIfInBounds r (.map es' clock') } := by
      simp [execOp, ho, hx, hi, hy, hr]
    rcases e with e | e <;> rw [e] <;> exact h _ _ hB' (kept_set w r _)
  cases hq : idxL a b L 0 with
  | none =>
    rw [hq] at hf
    refine main (es.push { key := pairV a b, val := pairV X Y, born := clock }) (clock + 1) ?_ ?_
    · rw [(idx_none hq).2.1 X Y, Array.toList_push]
      unfold entV at h2 ⊢
      rw [List.map_append, List.map_append, h2]; rfl
    · simp [Instr.mapUpdate, run_underlying hM, MapKept.run_getObj_map h1, hc, hf, MapKept.run_setObj_map _ h1]
  | some z =>
    obtain ⟨j, X0, Y0⟩ := z
    obtain ⟨i, hji, hLi, _, hset, _⟩ := idx_some hq
    have hji : j = i := by omega
    subst hji
    rw [hq] at hf
    obtain ⟨e, he, hek, hev⟩ := entV_at h2 hLi
    have he' : es[j]? = some e := by simpa using he
    refine main (es.modify j fun e => { e with key := pairV a b, val := pairV X Y }) clock ?_ ?_
    · rw [hset X Y]
      unfold entV at h2 ⊢
      apply List.ext_getElem?
      intro n
      have h2n := congrArg (fun l => l[n]?) h2
      simp only [List.getElem?_map] at h2n
      rw [List.getElem?_map, List.getElem?_map, Array.getElem?_toList, Array.getElem?_modify]
      have hes : es.toList[n]? = es[n]? := Array.getElem?_toList
      rw [hes] at h2n
      by_cases hn : j = n
      · subst hn
        rw [if_pos rfl, he', List.getElem?_set_self (List.getElem?_eq_some_iff.1 hLi).1]; rfl
      · rw [if_neg hn, List.getElem?_set_ne hn]; exact h2n
    · have hkk : ((es[j]?).map (·.key)).getD (pairV a b) = pairV a b := by rw [he']; exact hek
      simp [Instr.mapUpdate, run_underlying hM, MapKept.run_getObj_map h1, hc, hf, MapKept.run_setObj_map _ h1, hkk, Instr.keyThatStays, same_bits]
theorem y_del2 {c : Call} {x ix : Operand} {r : Nat} {a b : Int} {g : Int → Int → Int × Int} (hK : TwoInts K) (hM : Tryz.prog.underlying M = some (.map K E)) (ho : o.op = .call c) (hc' : c = { callee := .builtin .delete, args := #[x, ix], argTypes := #[M, K] }) (hx : ρ x = .map (some r)) (hi : ρ ix = pairV a b) (hB : Mpf w r g)
    (h : ∀ u w', Mpf w' r (layG g a b 0 0) → Kept (onB r) w w' → R u w') : Yields Tryz.prog ρ o w R := by
  subst hc'
  obtain ⟨es, clock, L, h1, h2, h3, h4⟩ := hB
  have hlt := lt_of_heap h1
  have hf := run_find_two hK w a b L es.toList h2
  have hc := run_check_two hK w es.isEmpty a b
  have hlay : ∀ c d, lookL c d (delL a b L) = layG g a b 0 0 c d := fun c d => by rw [look_del a b c d L h3]; unfold layG; rw [h4]
  have main : ∀ es', entV es'.toList (delL a b L) → (Builtin.delete_ #[M, K] o.type #[.map (some r), pairV a b]).run Tryz.prog w = .ok (.tuple #[]) { w with heap := w.heap.setIfInBounds r (.map es' clock) } → Yields Tryz.prog ρ o w R := by
    intro es' he hr
    have hB' : Mpf { w with heap := w.heap.setIfInBounds r (.map es' clock) } r (layG g a b 0 0) := ⟨es', clock, _, heap_set hlt, he, nodup_del a b L h3, hlay⟩
    exact y_val (v := .tuple #[]) (by simp [execOp, ho, resolve, invoke, builtin, hx, hi, hr]) (h _ _ hB' (kept_set w r _))
  cases hq : idxL a b L 0 with
  | none =>
    rw [hq] at hf
    refine main es (by rw [(idx_none hq).2.2]; exact h2) ?_
    simp [Builtin.delete_, run_underlying hM, MapKept.run_getObj_map h1, hc, hf, MapKept.run_setObj_map _ h1]
  | some z =>
    obtain ⟨j, X0, Y0⟩ := z
    obtain ⟨i, hji, hLi, _, _, hdel⟩ := idx_some hq
    have hji : j = i := by omega
    subst hji
    rw [hq] at hf
    refine main (es.eraseIdxIfInBounds j) ?_ ?_
    · rw [hdel]
      unfold entV at h2 ⊢
      rw [Array.toList_eraseIdxIfInBounds, map_erase, map_erase, h2]
    · simp [Builtin.delete_, run_underlying hM, MapKept.run_getObj_map h1, hc, hf, MapKept.run_setObj_map _ h1]
theorem y_makeMap2 (ho : o.op = .makeMap M none) (h : ∀ r w', Mpf w' r (fun _ _ => (0, 0)) → Grew w noB (onB r) → Kept (fun _ => False) w w' → R (.map (some r)) w') : Yields Tryz.prog ρ o w R :=
  y_val (v := .map (some w.heap.size)) (w' := w.alloc (.map #[] 0)) (by simp [execOp, ho, Instr.makeMap, go_sem]) (h _ _ ⟨#[], 0, [], heap_alloc_new _ _, rfl, by simp, fun _ _ => rfl⟩ (onB_new (Nat.le_refl _)) ((Kept.refl _ _).alloc _))
end
end Go.Proofs.YtknjpdcpmpfklaaGreatDoor
set_option maxRecDepth 100000
namespace Go.Proofs.YtknjpdcpmpfklaaGreatDoor
open Go.RowKit
def vfG (f : VF) : Int → Int → Int × Int := fun a b => (f.X a b, f.Y a b)
def Vfp (w : World) (T : Nat → Prop) (p : Nat) (f : VF) : Prop := ∃ r, (∀ i, T i ↔ (onB p i ∨ onB r i)) ∧ Stc w p 136 [.int .i64 f.w, .int .i64 f.h, .map (some r)] ∧ Mpf w r (vfG f) ∧ Apart (onB p) (onB r) ∧ OkV f
theorem Vfp.live {w : World} {T : Nat → Prop} {p : Nat} {f : VF} (h : Vfp w T p f) : Live w T := by
  obtain ⟨r, hT, h1, h2, _⟩ := h
  exact fun i hi => ((hT i).1 hi).elim (fun e => by cases e; exact h1.lt) (fun e => by cases e; exact h2.lt)
theorem Vfp.all {S : Nat → Prop} {w w' : World} {T : Nat → Prop} {p : Nat} {f : VF} (h : Vfp w T p f) (k : Kept S w w') (ha : Apart T S) : Vfp w' T p f := by
  obtain ⟨r, hT, h1, h2, h3, h4⟩ := h
  exact ⟨r, hT, h1.all k (ha p ((hT p).2 (Or.inl rfl))), h2.all k (ha r ((hT r).2 (Or.inr rfl))), h3, h4⟩
theorem Vfp.ok {w : World} {T : Nat → Prop} {p : Nat} {f : VF} (h : Vfp w T p f) : OkV f := by obtain ⟨_, _, _, _, _, h⟩ := h; exact h
def Vpo (w : World) (T : Nat → Prop) (v : Value) (o : Option VF) : Prop := match o with
  | none => v = .pointer none ∧ T = noB
  | some f => ∃ p, v = .pointer (some ⟨p, 0, none⟩) ∧ Vfp w T p f
theorem Vpo.nil (w : World) : Vpo w noB (.pointer none) none := ⟨rfl, rfl⟩
theorem Vpo.live {w : World} {T : Nat → Prop} {v : Value} {o : Option VF} (h : Vpo w T v o) : Live w T := by
  cases o with
  | none => obtain ⟨_, rfl⟩ := h; exact fun _ h => h.elim
  | some f => obtain ⟨p, _, h⟩ := h; exact h.live
theorem Vpo.all {S : Nat → Prop} {w w' : World} {T : Nat → Prop} {v : Value} {o : Option VF} (h : Vpo w T v o) (k : Kept S w w') (ha : Apart T S) : Vpo w' T v o := by
  cases o with
  | none => exact h
  | some f => obtain ⟨p, e, h⟩ := h; exact ⟨p, e, h.all k ha⟩
theorem Vpo.ok {w : World} {T : Nat → Prop} {v : Value} {f : VF} (h : Vpo w T v (some f)) : OkV f := by obtain ⟨_, _, h⟩ := h; exact h.ok
theorem Vpo.isnil {w : World} {T : Nat → Prop} {v : Value} {o : Option VF} (h : Vpo w T v o) : ∃ a, v = .pointer a ∧ a.isNone = o.isNone := by
  cases o with
  | none => exact ⟨none, h.1, rfl⟩
  | some f => obtain ⟨p, e, _⟩ := h; exact ⟨_, e, rfl⟩
theorem Vfo.isnil {w : World} {T : Nat → Prop} {v : Value} {o : Option VF} (h : Vfo w T v o) : ∃ a, v = .pointer a ∧ a.isNone = o.isNone := by
  cases o with
  | none => exact ⟨none, h.1, rfl⟩
  | some f => obtain ⟨p, e, _⟩ := h; exact ⟨_, e, rfl⟩
def inI (n : Int) : Prop := -9223372036854775808 ≤ n ∧ n ≤ 9223372036854775807
end Go.Proofs.YtknjpdcpmpfklaaGreatDoor
set_option maxRecDepth 100000
namespace Go.Proofs.YtknjpdcpmpfklaaGreatDoor
open Go.RowKit
theorem stcT_reader : StcT Tryz.prog 106 3 := ⟨_, Tryz.underlying106, rfl, by kernel_rfl⟩
def Rby (w : World) (T : Nat → Prop) (g : Nat) (l : List Nat) : Prop := T = onB g ∧ w.heap[g]? = some (.cells (byteVals l).toArray 5 (0, 0))
theorem Rby.live {w : World} {T : Nat → Prop} {g : Nat} {l : List Nat} (h : Rby w T g l) : Live w T := by
  obtain ⟨rfl, h⟩ := h; exact onB_live (lt_of_heap h)
theorem Rby.all {S : Nat → Prop} {w w' : World} {T : Nat → Prop} {g : Nat} {l : List Nat} (h : Rby w T g l) (k : Kept S w w') (ha : Apart T S) : Rby w' T g l := by
  obtain ⟨rfl, h⟩ := h; exact ⟨rfl, k.at h (ha g rfl)⟩
def okR (l : List Nat) (st : Option Nat) (a : Nat) (b : Bool) : Prop := match st with
  | some n => n ≤ 8 * l.length ∧ a = n ∧ b = false
  | none => b = true
theorem rdis_open {w : World} {p g : Nat} {l : List Nat} {st : Option Nat} (h : RdIs w p g l st) : ∃ (a : Nat) (b : Bool), okR l st a b ∧ Stc w p 106 [.slice (some ⟨g, 0, none⟩) l.length l.length, .int .i64 (a : Int), .bool b] ∧ Rby w (onB g) g l ∧ Apart (onB p) (onB g) := by
  cases st with
  | none =>
    obtain ⟨a, h⟩ := h
    exact ⟨a, true, rfl, h.1, ⟨rfl, h.2.1⟩, fun i h1 h2 => h.2.2 (h2.symm.trans h1)⟩
  | some n => exact ⟨n, false, ⟨h.1, rfl, rfl⟩, h.2.1, ⟨rfl, h.2.2.1⟩, fun i h1 h2 => h.2.2.2 (h2.symm.trans h1)⟩
theorem rdis_close {w : World} {p g : Nat} {l : List Nat} {st : Option Nat} {a : Nat} {b : Bool} (ho : okR l st a b) (h1 : Stc w p 106 [.slice (some ⟨g, 0, none⟩) l.length l.length, .int .i64 (a : Int), .bool b]) (h2 : Rby w (onB g) g l) (ha : Apart (onB p) (onB g)) : RdIs w p g l st := by
  have hne : g ≠ p := fun e => ha g e rfl
  cases st with
  | none => cases ho; exact ⟨a, h1, h2.2, hne⟩
  | some n => obtain ⟨h3, rfl, rfl⟩ := ho; exact ⟨h3, h1, h2.2, hne⟩
theorem rdi_open {w : World} {T : Nat → Prop} {p : Nat} {l : List Nat} {st : Option Nat} (h : Rdi w T p l st) : ∃ (g a : Nat) (b : Bool), Fair l ∧ (∀ i, T i ↔ (onB p i ∨ onB g i)) ∧ okR l st a b ∧ Stc w p 106 [.slice (some ⟨g, 0, none⟩) l.length l.length, .int .i64 (a : Int), .bool b] ∧ Rby w (onB g) g l ∧ Apart (onB p) (onB g) := by
  obtain ⟨hf, g, rfl, h⟩ := h
  obtain ⟨a, b, h1, h2, h3, h4⟩ := rdis_open h
  exact ⟨g, a, b, hf, fun i => Iff.rfl, h1, h2, h3, h4⟩
theorem rdi_close {w : World} {p g : Nat} {l : List Nat} {st : Option Nat} {a : Nat} {b : Bool} (hf : Fair l) (ho : okR l st a b) (h1 : Stc w p 106 [.slice (some ⟨g, 0, none⟩) l.length l.length, .int .i64 (a : Int), .bool b]) (h2 : Rby w (onB g) g l) (ha : Apart (onB p) (onB g)) : Rdi w (fun i => onB p i ∨ onB g i) p l st := ⟨hf, g, rfl, rdis_close ho h1 h2 ha⟩
def Rd2 (w : World) (T : Nat → Prop) (q p : Nat) (l : List Nat) (st1 st : Option Nat) : Prop := Fair l ∧ ∃ g, (∀ i, T i ↔ (onB p i ∨ onB q i ∨ onB g i)) ∧ q ≠ p ∧ RdIs w p g l st1 ∧ RdIs w q g l st
theorem Rd2.live {w : World} {T : Nat → Prop} {q p : Nat} {l : List Nat} {st1 st : Option Nat} (h : Rd2 w T q p l st1 st) : Live w T := by
  obtain ⟨_, g, hT, _, h1, h2⟩ := h
  intro i hi
  rcases (hT i).1 hi with e | e | e <;> cases e
  · exact h1.lt.1
  · exact h2.lt.1
  · exact h1.lt.2.1
theorem Rd2.all {S : Nat → Prop} {w w' : World} {T : Nat → Prop} {q p : Nat} {l : List Nat} {st1 st : Option Nat} (h : Rd2 w T q p l st1 st) (k : Kept S w w') (ha : Apart T S) : Rd2 w' T q p l st1 st := by
  obtain ⟨hf, g, hT, hn, h1, h2⟩ := h
  have np := ha p ((hT p).2 (.inl rfl))
  have nq := ha q ((hT q).2 (.inr (.inl rfl)))
  have ng := ha g ((hT g).2 (.inr (.inr rfl)))
  exact ⟨hf, g, hT, hn, h1.kept k np ng, h2.kept k nq ng⟩
def vrT (l : List Nat) (gx gy : Int) (s : Option Nat) : Option Nat := if rdOk l gx gy s then vrS l s else s
theorem vrT_ok {l : List Nat} {gx gy : Int} {s : Option Nat} (h : vrE l gx gy s = 0) : vrT l gx gy s = vrS l s := by
  unfold vrE at h; unfold vrT
  split at h
  · rename_i h'; rw [if_pos h']
  · cases h
theorem twoK_place : TwoInts 138 := ⟨Tryz.underlying138, by kernel_rfl, "x", "y", by decide, by decide, by kernel_rfl⟩
theorem stcT_place : StcT Tryz.prog 138 2 := ⟨_, Tryz.underlying138, rfl, by kernel_rfl⟩
theorem vt_may (n : Int) (w0 : World) :
  Calls Tryz.prog 94 #[.int .i64 (n)] w0 fun e w' => e = .returned (.bool (decide (1 ≤ n ∧ n ≤ 16))) ∧ Kept (fun _ => False) w0 w' := by
 refine calls_wq (args := [iv n]) 9 Tryz.func94 rfl rfl (Nat.le_of_ble_eq_true rfl) ?_
 have K0 := Kept.refl (fun _ => False) w0
 refine wq_seq (wq_region (wl_v (.bool false) rfl rfl (y_asg rfl rfl rr) (wl_nil fun F1 hF2 => ?_)))
 have s3 : F1 0 = iv n := (hF2 0).trans rfl
 have s4 : F1 9 = undef := (hF2 9).trans rfl
 clear hF2
 refine then_normal (wq_seq ?_)
 by_cases d5 : 1 ≤ n
 ·skip
  refine wq_region (wl_mv rfl rfl rfl s3 (wl_v (.bool true) rfl rfl (y_geq rfl rfl rfl (decide_eq_true d5) rr) (wl_v (.bool true) rfl rfl (y_mov rfl rfl rr) (wl_vw (iv n) 2 true 5 rfl rfl rfl rfl rfl (y_mov rfl s3 rr) (wl_vw (.bool (decide (n ≤ 16))) 2 true 5 rfl rfl rfl rfl rfl (y_leq rfl rfl rfl rfl rr) (wl_v (.bool (decide (n ≤ 16))) rfl rfl (y_pickT rfl rfl rfl rr) (wl_v (.bool (decide (n ≤ 16))) rfl rfl (y_asg rfl rfl rr) (wl_nil fun F6 hF7 => ?_))))))))
  have s8 := (hF7 9).trans s4
  have s9 : F6 2 = .bool (decide (n ≤ 16)) := (hF7 2).trans rfl
  clear hF7
  refine then_normal (wq_ret ?_)
  exact end_tmp (v := .bool (decide (n ≤ 16))) s8 rfl rfl s9 ⟨(retB (by first | exact (decide_eq_true (by omega)).symm | exact (decide_eq_false (by omega)).symm | exact decide_eq_decide.2 (by omega))), K0⟩
 ·skip
  refine wq_region (wl_mv rfl rfl rfl s3 (wl_v (.bool false) rfl rfl (y_geq rfl rfl rfl (decide_eq_false d5) rr) (wl_v (.bool false) rfl rfl (y_mov rfl rfl rr) (wl_unless 2 true 5 rfl rfl rfl (Or.inl rfl) rfl (wl_unless 2 true 5 rfl rfl rfl (Or.inl rfl) rfl (wl_v (.bool false) rfl rfl (y_pickF rfl rfl rfl rr) (wl_v (.bool false) rfl rfl (y_asg rfl rfl rr) (wl_nil fun F10 hF11 => ?_))))))))
  have s12 := (hF11 9).trans s4
  have s13 : F10 2 = .bool false := (hF11 2).trans rfl
  clear hF11
  refine then_normal (wq_ret ?_)
  exact end_tmp (v := .bool false) s12 rfl rfl s13 ⟨(retB (by first | exact (decide_eq_true (by omega)).symm | exact (decide_eq_false (by omega)).symm | exact decide_eq_decide.2 (by omega))), K0⟩
theorem vt_within (x n : Int) (w0 : World) :
  Calls Tryz.prog 102 #[.int .i64 (x), .int .i64 (n)] w0 fun e w' => e = .returned (.bool (decide (0 ≤ x ∧ x < n))) ∧ Kept (fun _ => False) w0 w' := by
 refine calls_wq (args := [iv x, iv n]) 12 Tryz.func102 rfl rfl (Nat.le_of_ble_eq_true rfl) ?_
 have K0 := Kept.refl (fun _ => False) w0
 refine wq_seq (wq_region (wl_v (.bool false) rfl rfl (y_asg rfl rfl rr) (wl_nil fun F1 hF2 => ?_)))
 have s3 : F1 0 = iv x := (hF2 0).trans rfl
 have s4 : F1 1 = iv n := (hF2 1).trans rfl
 have s5 : F1 12 = undef := (hF2 12).trans rfl
 clear hF2
 refine then_normal (wq_seq ?_)
 by_cases d6 : 0 ≤ x
 ·skip
  refine wq_region (wl_mv rfl rfl rfl s3 (wl_v (.bool true) rfl rfl (y_geq rfl rfl rfl (decide_eq_true d6) rr) (wl_v (.bool true) rfl rfl (y_mov rfl rfl rr) (wl_vw (iv x) 2 true 7 rfl rfl rfl rfl rfl (y_mov rfl s3 rr) (wl_vw (iv n) 2 true 7 rfl rfl rfl rfl rfl (y_mov rfl s4 rr) (wl_vw (.bool (decide (x < n))) 2 true 7 rfl rfl rfl rfl rfl (y_lss rfl rfl rfl rfl rr) (wl_v (.bool (decide (x < n))) rfl rfl (y_pickT rfl rfl rfl rr) (wl_v (.bool (decide (x < n))) rfl rfl (y_asg rfl rfl rr) (wl_nil fun F7 hF8 => ?_)))))))))
  have s9 := (hF8 12).trans s5
  have s10 : F7 4 = .bool (decide (x < n)) := (hF8 4).trans rfl
  clear hF8
  refine then_normal (wq_ret ?_)
  exact end_tmp (v := .bool (decide (x < n))) s9 rfl rfl s10 ⟨(retB (by first | exact (decide_eq_true (by omega)).symm | exact (decide_eq_false (by omega)).symm | exact decide_eq_decide.2 (by omega))), K0⟩
 ·skip
  refine wq_region (wl_mv rfl rfl rfl s3 (wl_v (.bool false) rfl rfl (y_geq rfl rfl rfl (decide_eq_false d6) rr) (wl_v (.bool false) rfl rfl (y_mov rfl rfl rr) (wl_unless 2 true 7 rfl rfl rfl (Or.inl rfl) rfl (wl_unless 2 true 7 rfl rfl rfl (Or.inl rfl) rfl (wl_unless 2 true 7 rfl rfl rfl (Or.inl rfl) rfl (wl_v (.bool false) rfl rfl (y_pickF rfl rfl rfl rr) (wl_v (.bool false) rfl rfl (y_asg rfl rfl rr) (wl_nil fun F11 hF12 => ?_)))))))))
  have s13 := (hF12 12).trans s5
  have s14 : F11 4 = .bool false := (hF12 4).trans rfl
  clear hF12
  refine then_normal (wq_ret ?_)
  exact end_tmp (v := .bool false) s13 rfl rfl s14 ⟨(retB (by first | exact (decide_eq_true (by omega)).symm | exact (decide_eq_false (by omega)).symm | exact decide_eq_decide.2 (by omega))), K0⟩
theorem vt_between (a b c : Int) (w0 : World) :
  Calls Tryz.prog 126 #[.int .i64 (a), .int .i64 (b), .int .i64 (c)] w0 fun e w' => e = .returned (.int .i64 (med a b c)) ∧ Kept (fun _ => False) w0 w' := by
 refine calls_wq (args := [iv a, iv b, iv c]) 16 Tryz.func126 rfl rfl (Nat.le_of_ble_eq_true rfl) ?_
 have K0 := Kept.refl (fun _ => False) w0
 refine wq_seq (wq_region (wl_v (iv 0) rfl rfl (y_asg rfl rfl rr) (wl_nil fun F1 hF2 => ?_)))
 have s3 : F1 0 = iv a := (hF2 0).trans rfl
 have s4 : F1 1 = iv b := (hF2 1).trans rfl
 have s5 : F1 2 = iv c := (hF2 2).trans rfl
 have s6 : F1 16 = undef := (hF2 16).trans rfl
 clear hF2
 refine then_normal (wq_seq (wq_region (wl_mv rfl rfl rfl s3 (wl_mv rfl rfl rfl s4 (wl_v (iv (min a b)) rfl rfl (y_minR rfl rfl rfl rfl rr) (wl_mv rfl rfl rfl s3 (wl_mv rfl rfl rfl s4 (wl_v (iv (max a b)) rfl rfl (y_maxR rfl rfl rfl rfl rr) (wl_mv rfl rfl rfl s5 (wl_v (iv (min (max a b) c)) rfl rfl (y_minR rfl rfl rfl rfl rr) (wl_v (iv (max (min a b) (min (max a b) c))) rfl rfl (y_maxR rfl rfl rfl rfl rr) ?_)))))))))))
 refine wl_v (iv (max (min a b) (min (max a b) c))) rfl rfl (y_asg rfl rfl rr) (wl_nil fun F7 hF8 => ?_)
 have s9 := (hF8 16).trans s6
 have s10 : F7 6 = iv (max (min a b) (min (max a b) c)) := (hF8 6).trans rfl
 clear hF8
 refine then_normal (wq_ret ?_)
 exact end_tmp (v := iv (max (min a b) (min (max a b) c))) s9 rfl rfl s10 ⟨rfl, K0⟩
theorem vt_median (a b c d m n : Int) (w0 : World) :
  Calls Tryz.prog 95 #[.agg #[.int .i64 (a), .int .i64 (b)], .agg #[.int .i64 (c), .int .i64 (d)], .agg #[.int .i64 (m), .int .i64 (n)]] w0 fun e w' => e = .returned (.agg #[.int .i64 (med a c m), .int .i64 (med b d n)]) ∧ Kept (fun _ => False) w0 w' := by
 refine calls_wq (args := [.agg #[iv a, iv b], .agg #[iv c, iv d], .agg #[iv m, iv n]]) 22 Tryz.func95 rfl rfl (Nat.le_of_ble_eq_true rfl) ?_
 have K0 := Kept.refl (fun _ => False) w0
 refine wq_seq (wq_region (wl_box_stc (vs := [iv a, iv b]) rfl rfl rfl rfl fun p1 w2 B4 g5 k3 => ?_))
 have K7 := K0.tr k3
 refine wl_box_stc (vs := [iv c, iv d]) rfl rfl rfl rfl fun p8 w9 B11 g12 k10 => ?_
 have B15 := B4.all k10 id
 have K16 := K7.tr k10
 refine wl_box_stc (vs := [iv m, iv n]) rfl rfl rfl rfl fun p17 w18 B20 g21 k19 => ?_
 have B25 := B15.all k19 id
 have B26 := B11.all k19 id
 have K27 := K16.tr k19
 refine wl_alloc_stc (n := 2) (vs := [iv 0, iv 0]) rfl rfl rfl (by kernel_rfl) fun p28 w29 B31 g32 k30 => ?_
 have gr33 : Grew w0 noB (onB p28) := Grew.new K27 g32
 have B37 := B25.all k30 id
 have B38 := B26.all k30 id
 have B39 := B20.all k30 id
 have K40 := K27.tr k30
 refine wl_nil fun F41 hF42 => ?_
 have s43 : F41 22 = undef := (hF42 22).trans rfl
 have s44 : F41 3 = pt p1 0 := (hF42 3).trans rfl
 have s45 : F41 4 = pt p8 0 := (hF42 4).trans rfl
 have s46 : F41 5 = pt p17 0 := (hF42 5).trans rfl
 have s47 : F41 6 = pt p28 0 := (hF42 6).trans rfl
 clear hF42
 refine then_normal (wq_seq ?_)
 refine wq_tail 15 [some 7, some 8, some 9, some 10, some 11, some 12, some 13, some 14, some 15, some 16, some 17, some 18, some 19, some 20, some 21] [Pd.eq (pt p1 0), Pd.eq (iv a), Pd.eq (pt p8 0), Pd.eq (iv c), Pd.eq (pt p17 0), Pd.eq (iv m), Pd.eq (iv (med a c m)), Pd.eq (pt p1 1), Pd.eq (iv b), Pd.eq (pt p8 1), Pd.eq (iv d), Pd.eq (pt p17 1), Pd.eq (iv n), Pd.eq (iv (med b d n)), Pd.eq (.agg #[iv (med a c m), iv (med b d n)])] (by kernel_rfl) (by kernel_rfl) (by kernel_rfl) ?_ ?_
 ·refine stepsF_cons ?_ ?_
  ·refine StepF.one rfl fun F_ w_ hR hout hD => ?_
   exact (y_fieldR (n := 1) rfl ((hout 3 rfl (by decide)).trans s44) Tryz.underlying67 rfl (by kernel_rfl) (by decide) rfl ⟨rfl, Kept.refl _ _⟩)
  refine stepsF_cons ?_ ?_
  ·refine StepF.one rfl fun F_ w_ hR hout hD => ?_
   have g7 : F_ 7 = pt p1 0 := (hD.get 0 rfl rfl rfl)
   exact (y_ld_stc rfl g7 Tryz.underlying3 (B37.all hR id) rfl rfl ⟨rfl, Kept.refl _ _⟩)
  refine stepsF_cons ?_ ?_
  ·refine StepF.one rfl fun F_ w_ hR hout hD => ?_
   exact (y_fieldR (n := 1) rfl ((hout 4 rfl (by decide)).trans s45) Tryz.underlying67 rfl (by kernel_rfl) (by decide) rfl ⟨rfl, Kept.refl _ _⟩)
  refine stepsF_cons ?_ ?_
  ·refine StepF.one rfl fun F_ w_ hR hout hD => ?_
   have g9 : F_ 9 = pt p8 0 := (hD.get 0 rfl rfl rfl)
   exact (y_ld_stc rfl g9 Tryz.underlying3 (B38.all hR id) rfl rfl ⟨rfl, Kept.refl _ _⟩)
  refine stepsF_cons ?_ ?_
  ·refine StepF.one rfl fun F_ w_ hR hout hD => ?_
   exact (y_fieldR (n := 1) rfl ((hout 5 rfl (by decide)).trans s46) Tryz.underlying67 rfl (by kernel_rfl) (by decide) rfl ⟨rfl, Kept.refl _ _⟩)
  refine stepsF_cons ?_ ?_
  ·refine StepF.one rfl fun F_ w_ hR hout hD => ?_
   have g11 : F_ 11 = pt p17 0 := (hD.get 0 rfl rfl rfl)
   exact (y_ld_stc rfl g11 Tryz.underlying3 (B39.all hR id) rfl rfl ⟨rfl, Kept.refl _ _⟩)
  refine stepsF_cons ?_ ?_
  ·refine StepF.one rfl fun F_ w_ hR hout hD => ?_
   have g8 : F_ 8 = iv a := (hD.get 0 rfl rfl rfl)
   have g10 : F_ 10 = iv c := (hD.get 1 rfl rfl rfl)
   have g12 : F_ 12 = iv m := (hD.get 2 rfl rfl rfl)
   exact (y_cs rfl rfl rfl (fun _ _ => by kernel_rfl) (ev_func _) (vsC g8 (vsC g10 (vsC g12 vsN))) (vt_between a c m  _   ) (fun e_ w_ h_ => ⟨_, h_.1, rfl, h_.2⟩))
  refine stepsF_cons ?_ ?_
  ·refine StepF.one rfl fun F_ w_ hR hout hD => ?_
   exact (y_fieldR (n := 1) rfl ((hout 3 rfl (by decide)).trans s44) Tryz.underlying67 rfl (by kernel_rfl) (by decide) rfl ⟨rfl, Kept.refl _ _⟩)
  refine stepsF_cons ?_ ?_
  ·refine StepF.one rfl fun F_ w_ hR hout hD => ?_
   have g14 : F_ 14 = pt p1 1 := (hD.get 0 rfl rfl rfl)
   exact (y_ld_stc rfl g14 Tryz.underlying3 (B37.all hR id) rfl rfl ⟨rfl, Kept.refl _ _⟩)
  refine stepsF_cons ?_ ?_
  ·refine StepF.one rfl fun F_ w_ hR hout hD => ?_
   exact (y_fieldR (n := 1) rfl ((hout 4 rfl (by decide)).trans s45) Tryz.underlying67 rfl (by kernel_rfl) (by decide) rfl ⟨rfl, Kept.refl _ _⟩)
  refine stepsF_cons ?_ ?_
  ·refine StepF.one rfl fun F_ w_ hR hout hD => ?_
   have g16 : F_ 16 = pt p8 1 := (hD.get 0 rfl rfl rfl)
   exact (y_ld_stc rfl g16 Tryz.underlying3 (B38.all hR id) rfl rfl ⟨rfl, Kept.refl _ _⟩)
  refine stepsF_cons ?_ ?_
  ·refine StepF.one rfl fun F_ w_ hR hout hD => ?_
   exact (y_fieldR (n := 1) rfl ((hout 5 rfl (by decide)).trans s46) Tryz.underlying67 rfl (by kernel_rfl) (by decide) rfl ⟨rfl, Kept.refl _ _⟩)
  refine stepsF_cons ?_ ?_
  ·refine StepF.one rfl fun F_ w_ hR hout hD => ?_
   have g18 : F_ 18 = pt p17 1 := (hD.get 0 rfl rfl rfl)
   exact (y_ld_stc rfl g18 Tryz.underlying3 (B39.all hR id) rfl rfl ⟨rfl, Kept.refl _ _⟩)
  refine stepsF_cons ?_ ?_
  ·refine StepF.one rfl fun F_ w_ hR hout hD => ?_
   have g15 : F_ 15 = iv b := (hD.get 0 rfl rfl rfl)
   have g17 : F_ 17 = iv d := (hD.get 1 rfl rfl rfl)
   have g19 : F_ 19 = iv n := (hD.get 2 rfl rfl rfl)
   exact (y_cs rfl rfl rfl (fun _ _ => by kernel_rfl) (ev_func _) (vsC g15 (vsC g17 (vsC g19 vsN))) (vt_between b d n  _   ) (fun e_ w_ h_ => ⟨_, h_.1, rfl, h_.2⟩))
  refine stepsF_cons ?_ ?_
  ·refine StepF.one rfl fun F_ w_ hR hout hD => ?_
   have g13 : F_ 13 = iv (med a c m) := (hD.get 0 rfl rfl rfl)
   have g20 : F_ 20 = iv (med b d n) := (hD.get 1 rfl rfl rfl)
   exact (y_buildL (l' := [(0, iv (med a c m)), (1, iv (med b d n))]) (cells := #[iv (med a c m), iv (med b d n)]) rfl (bpC g13 (bpC g20 bpN)) (by kernel_rfl) rfl ⟨rfl, Kept.refl _ _⟩)
  exact stepsF_nil
 intro v48 F49 w50 k51 G52 hF53
 have B58 := B31.all k51 id
 have K59 := K40.tr k51
 obtain ⟨s60, s61⟩ := t2 hF53 22 s43 6 s47
 have s62 : F49 21 = .agg #[iv (med a c m), iv (med b d n)] := (hF53 21).trans (G52 14 (by decide))
 clear G52 hF53
 refine wl_store_stc (us := [iv (med a c m), iv (med b d n)]) stcT_vector rfl rfl rfl s61 s62 B58 rfl (oneI rfl (oneI rfl oneN)) fun w63 B64 k65 => ?_
 have K69 := K59.trans k65 (Grew.ok (S := fun _ => False) gr33 noB_le)
 refine wl_nil fun F70 hF71 => ?_
 obtain ⟨s72, s73⟩ := t2 hF71 22 s60 6 s61
 clear hF71
 refine then_normal (wq_ret ?_)
 exact end_stc (vs := [iv (med a c m), iv (med b d n)]) stcT_vector s72 rfl rfl s73 B64 ⟨rfl, K69⟩
theorem vt_clamped (n : Int) (w0 : World) :
  Calls Tryz.prog 154 #[.int .i64 (n)] w0 fun e w' => e = .returned (.int .i64 (cl 64 n)) ∧ Kept (fun _ => False) w0 w' := by
 refine calls_wq (args := [iv n]) 6 Tryz.func154 rfl rfl (Nat.le_of_ble_eq_true rfl) ?_
 have K0 := Kept.refl (fun _ => False) w0
 refine wq_seq (wq_region (wl_v (iv 0) rfl rfl (y_asg rfl rfl rr) (wl_nil fun F1 hF2 => ?_)))
 have s3 : F1 0 = iv n := (hF2 0).trans rfl
 have s4 : F1 6 = undef := (hF2 6).trans rfl
 clear hF2
 refine then_normal (wq_seq (wq_region (wl_mv rfl rfl rfl s3 (wl_v (iv (min n 64)) rfl rfl (y_minR rfl rfl rfl rfl rr) (wl_v (iv (cl 64 n)) rfl rfl (y_maxR rfl rfl rfl (by unfold cl; omega) rr) (wl_v (iv (cl 64 n)) rfl rfl (y_asg rfl rfl rr) (wl_nil fun F5 hF6 => ?_)))))))
 have s7 := (hF6 6).trans s4
 have s8 : F5 2 = iv (cl 64 n) := (hF6 2).trans rfl
 clear hF6
 refine then_normal (wq_ret ?_)
 exact end_tmp (v := iv (cl 64 n)) s7 rfl rfl s8 ⟨rfl, K0⟩
theorem vt_near (X Y : Int) (w0 : World) :
  Calls Tryz.prog 131 #[.agg #[.int .i64 (X), .int .i64 (Y)]] w0 fun e w' => e = .returned (.agg #[.int .i64 (cl 64 X), .int .i64 (cl 64 Y)]) ∧ Kept (fun _ => False) w0 w' := by
 refine calls_wq (args := [.agg #[iv X, iv Y]]) 10 Tryz.func131 rfl rfl (Nat.le_of_ble_eq_true rfl) ?_
 have K0 := Kept.refl (fun _ => False) w0
 refine wq_seq (wq_region (wl_box_stc (vs := [iv X, iv Y]) rfl rfl rfl rfl fun p1 w2 B4 g5 k3 => ?_))
 have K7 := K0.tr k3
 refine wl_alloc_stc (n := 2) (vs := [iv 0, iv 0]) rfl rfl rfl (by kernel_rfl) fun p8 w9 B11 g12 k10 => ?_
 have gr13 : Grew w0 noB (onB p8) := Grew.new K7 g12
 have B15 := B4.all k10 id
 have K16 := K7.tr k10
 refine wl_nil fun F17 hF18 => ?_
 have s19 : F17 10 = undef := (hF18 10).trans rfl
 have s20 : F17 1 = pt p1 0 := (hF18 1).trans rfl
 have s21 : F17 2 = pt p8 0 := (hF18 2).trans rfl
 clear hF18
 refine then_normal (wq_seq ?_)
 refine wq_tail 7 [some 3, some 4, some 5, some 6, some 7, some 8, some 9] [Pd.eq (pt p1 0), Pd.eq (iv X), Pd.eq (iv (cl 64 X)), Pd.eq (pt p1 1), Pd.eq (iv Y), Pd.eq (iv (cl 64 Y)), Pd.eq (.agg #[iv (cl 64 X), iv (cl 64 Y)])] (by kernel_rfl) (by kernel_rfl) (by kernel_rfl) ?_ ?_
 ·refine stepsF_cons ?_ ?_
  ·refine StepF.one rfl fun F_ w_ hR hout hD => ?_
   exact (y_fieldR (n := 1) rfl ((hout 1 rfl (by decide)).trans s20) Tryz.underlying67 rfl (by kernel_rfl) (by decide) rfl ⟨rfl, Kept.refl _ _⟩)
  refine stepsF_cons ?_ ?_
  ·refine StepF.one rfl fun F_ w_ hR hout hD => ?_
   have g3 : F_ 3 = pt p1 0 := (hD.get 0 rfl rfl rfl)
   exact (y_ld_stc rfl g3 Tryz.underlying3 (B15.all hR id) rfl rfl ⟨rfl, Kept.refl _ _⟩)
  refine stepsF_cons ?_ ?_
  ·refine StepF.one rfl fun F_ w_ hR hout hD => ?_
   have g4 : F_ 4 = iv X := (hD.get 0 rfl rfl rfl)
   exact (y_cs rfl rfl rfl (fun _ _ => by kernel_rfl) (ev_func _) (vsC g4 vsN) (vt_clamped X  _   ) (fun e_ w_ h_ => ⟨_, h_.1, rfl, h_.2⟩))
  refine stepsF_cons ?_ ?_
  ·refine StepF.one rfl fun F_ w_ hR hout hD => ?_
   exact (y_fieldR (n := 1) rfl ((hout 1 rfl (by decide)).trans s20) Tryz.underlying67 rfl (by kernel_rfl) (by decide) rfl ⟨rfl, Kept.refl _ _⟩)
  refine stepsF_cons ?_ ?_
  ·refine StepF.one rfl fun F_ w_ hR hout hD => ?_
   have g6 : F_ 6 = pt p1 1 := (hD.get 0 rfl rfl rfl)
   exact (y_ld_stc rfl g6 Tryz.underlying3 (B15.all hR id) rfl rfl ⟨rfl, Kept.refl _ _⟩)
  refine stepsF_cons ?_ ?_
  ·refine StepF.one rfl fun F_ w_ hR hout hD => ?_
   have g7 : F_ 7 = iv Y := (hD.get 0 rfl rfl rfl)
   exact (y_cs rfl rfl rfl (fun _ _ => by kernel_rfl) (ev_func _) (vsC g7 vsN) (vt_clamped Y  _   ) (fun e_ w_ h_ => ⟨_, h_.1, rfl, h_.2⟩))
  refine stepsF_cons ?_ ?_
  ·refine StepF.one rfl fun F_ w_ hR hout hD => ?_
   have g5 : F_ 5 = iv (cl 64 X) := (hD.get 0 rfl rfl rfl)
   have g8 : F_ 8 = iv (cl 64 Y) := (hD.get 1 rfl rfl rfl)
   exact (y_buildL (l' := [(0, iv (cl 64 X)), (1, iv (cl 64 Y))]) (cells := #[iv (cl 64 X), iv (cl 64 Y)]) rfl (bpC g5 (bpC g8 bpN)) (by kernel_rfl) rfl ⟨rfl, Kept.refl _ _⟩)
  exact stepsF_nil
 intro v22 F23 w24 k25 G26 hF27
 have B30 := B11.all k25 id
 have K31 := K16.tr k25
 obtain ⟨s32, s33⟩ := t2 hF27 10 s19 2 s21
 have s34 : F23 9 = .agg #[iv (cl 64 X), iv (cl 64 Y)] := (hF27 9).trans (G26 6 (by decide))
 clear G26 hF27
 refine wl_store_stc (us := [iv (cl 64 X), iv (cl 64 Y)]) stcT_vector rfl rfl rfl s33 s34 B30 rfl (oneI rfl (oneI rfl oneN)) fun w35 B36 k37 => ?_
 have K39 := K31.trans k37 (Grew.ok (S := fun _ => False) gr13 noB_le)
 refine wl_nil fun F40 hF41 => ?_
 obtain ⟨s42, s43⟩ := t2 hF41 10 s32 2 s33
 clear hF41
 refine then_normal (wq_ret ?_)
 exact end_stc (vs := [iv (cl 64 X), iv (cl 64 Y)]) stcT_vector s42 rfl rfl s43 B36 ⟨rfl, K39⟩
theorem vt_new (m n : Int) (w0 : World) :
  Calls Tryz.prog 59 #[.int .i64 (m), .int .i64 (n)] w0 fun e w' => ∃ (v1 : Value) (T1 : Nat → Prop), e = .returned (.tuple #[v1, .int .i64 (newVE m n)]) ∧ Kept (fun _ => False) w0 w' ∧ (Vpo w' T1 v1 ((optV m n)) ∧ Grew w0 noB T1) := by
 refine calls_wq (args := [iv m, iv n]) 19 Tryz.func59 rfl rfl (Nat.le_of_ble_eq_true rfl) ?_
 have K0 := Kept.refl (fun _ => False) w0
 refine wq_seq (wq_region (wl_v (.pointer none) rfl rfl (y_asg rfl rfl rr) (wl_v (iv 0) rfl rfl (y_asg rfl rfl rr) (wl_nil fun F1 hF2 => ?_))))
 have s3 : F1 0 = iv m := (hF2 0).trans rfl
 have s4 : F1 1 = iv n := (hF2 1).trans rfl
 have s5 : F1 19 = undef := (hF2 19).trans rfl
 clear hF2
 refine then_normal (wq_seq (wq_seq ?_))
 by_cases d6 : 1 ≤ m ∧ m ≤ 16
 ·skip
  by_cases d7 : 1 ≤ n ∧ n ≤ 16
  ·skip
   refine wq_region (wl_mv rfl rfl rfl s3 (wl_call (R := fun v_ w_ => v_ = .bool true ∧ Kept (fun _ => False) w0 w_) rfl rfl (y_cs rfl rfl rfl (fun _ _ => by kernel_rfl) (ev_func _) (vsC rfl vsN) (vt_may m  _   ) (fun e_ w_ h_ => ⟨_, h_.1, (congrArg Value.bool (decide_eq_true d6)), h_.2⟩)) ?_))
   rintro _ w8 ⟨rfl, k9⟩
   have K10 := K0.tr k9
   refine wl_v (.bool false) rfl rfl (y_not rfl rfl rfl rr) (wl_v (.bool false) rfl rfl (y_mov rfl rfl rr) (wl_vw (iv n) 3 false 9 rfl rfl rfl rfl rfl (y_mov rfl s4 rr) (wl_callw (R := fun v_ w_ => v_ = .bool true ∧ Kept (fun _ => False) w8 w_) 3 false 9 rfl rfl rfl rfl rfl (y_cs rfl rfl rfl (fun _ _ => by kernel_rfl) (ev_func _) (vsC rfl vsN) (vt_may n  _   ) (fun e_ w_ h_ => ⟨_, h_.1, (congrArg Value.bool (decide_eq_true d7)), h_.2⟩)) ?_)))
   rintro _ w11 ⟨rfl, k12⟩
   have K13 := K10.tr k12
   refine wl_vw (.bool false) 3 false 9 rfl rfl rfl rfl rfl (y_not rfl rfl rfl rr) (wl_v (.bool false) rfl rfl (y_pickF rfl rfl rfl rr) (wl_nil fun F14 hF15 => ?_))
   obtain ⟨s16, s17, s18⟩ := t3 hF15 0 s3 1 s4 19 s5
   have s19 : F14 13 = .bool false := (hF15 13).trans rfl
   clear hF15
   refine then_normal ?_
   refine wq_cond (t := false) s19 (fun e => by cases e) (fun _ => ?_)
   refine wq_skip (then_normal (wq_seq ?_))
   have hs : sidesOk m n := ⟨by omega, by omega, by omega, by omega⟩
   refine wq_region (wl_mv rfl rfl rfl s16 (wl_mv rfl rfl rfl s17 ?_))
   refine wl_op rfl rfl (y_makeMap2 rfl fun p20 w21 B23 g24 k22 => ?_)
   have gr25 : Grew w0 noB (onB p20) := Grew.new K13 g24
   have K26 := K13.tr k22
   refine wl_v (.agg #[iv m, iv n, .map (some p20)]) rfl rfl (y_buildL (l' := [(0, iv m), (1, iv n), (2, .map (some p20))]) (cells := #[iv m, iv n, .map (some p20)]) rfl (bpC rfl (bpC rfl (bpC rfl bpN))) (by kernel_rfl) rfl rr) (wl_box_stc (vs := [iv m, iv n, .map (some p20)]) rfl rfl rfl rfl fun p27 w28 B30 g31 k29 => ?_)
   have gr32 : Grew w0 noB (onB p27) := Grew.new K26 g31
   have ap33 : Apart (onB p27) (onB p20) := Apart.new g31 (onB_live B23.lt)
   have B34 := B23.all k29 id
   have K35 := K26.tr k29
   refine wl_v (pt p27 0) rfl rfl (y_asg rfl rfl rr) (wl_v (iv 0) rfl rfl (y_asg rfl rfl rr) (wl_nil fun F36 hF37 => ?_))
   have s38 := (hF37 19).trans s18
   have s39 : F36 4 = pt p27 0 := (hF37 4).trans rfl
   have s40 : F36 5 = iv 0 := (hF37 5).trans rfl
   clear hF37
   refine then_normal (wq_ret ?_)
   have B41 : Vpo w28 (fun i => (onB p27) i ∨ ((onB p20) i)) (pt p27 0) (some (newV m n)) := ⟨_, rfl, _, fun i => Iff.rfl, B30, B34, ap33, okV_new hs⟩
   have gr42 : Grew w0 noB (fun i => (onB p27) i ∨ ((onB p20) i)) := fun i h => h.elim (fun y => gr32 i y) (fun y => gr25 i y)
   exact end_2 s38 rfl (res_tmp (v := pt p27 0) rfl s39) (res_tmp (v := iv 0) rfl s40) ⟨(pt p27 0), (fun i => (onB p27) i ∨ ((onB p20) i)), (by first | rw [newVE_yes hs] | rw [newVE_no (by unfold sidesOk; omega)]), K35, ⟨(by first | (rw [optV_yes hs]; exact B41) | (rw [optV_no (by unfold sidesOk; omega)]; exact B41)), gr42⟩⟩
  ·skip
   refine wq_region (wl_mv rfl rfl rfl s3 (wl_call (R := fun v_ w_ => v_ = .bool true ∧ Kept (fun _ => False) w0 w_) rfl rfl (y_cs rfl rfl rfl (fun _ _ => by kernel_rfl) (ev_func _) (vsC rfl vsN) (vt_may m  _   ) (fun e_ w_ h_ => ⟨_, h_.1, (congrArg Value.bool (decide_eq_true d6)), h_.2⟩)) ?_))
   rintro _ w43 ⟨rfl, k44⟩
   have K45 := K0.tr k44
   refine wl_v (.bool false) rfl rfl (y_not rfl rfl rfl rr) (wl_v (.bool false) rfl rfl (y_mov rfl rfl rr) (wl_vw (iv n) 3 false 9 rfl rfl rfl rfl rfl (y_mov rfl s4 rr) (wl_callw (R := fun v_ w_ => v_ = .bool false ∧ Kept (fun _ => False) w43 w_) 3 false 9 rfl rfl rfl rfl rfl (y_cs rfl rfl rfl (fun _ _ => by kernel_rfl) (ev_func _) (vsC rfl vsN) (vt_may n  _   ) (fun e_ w_ h_ => ⟨_, h_.1, (congrArg Value.bool (decide_eq_false d7)), h_.2⟩)) ?_)))
   rintro _ w46 ⟨rfl, k47⟩
   have K48 := K45.tr k47
   refine wl_vw (.bool true) 3 false 9 rfl rfl rfl rfl rfl (y_not rfl rfl rfl rr) (wl_v (.bool true) rfl rfl (y_pickF rfl rfl rfl rr) (wl_nil fun F49 hF50 => ?_))
   have s53 := (hF50 19).trans s5
   have s54 : F49 13 = .bool true := (hF50 13).trans rfl
   clear hF50
   refine then_normal ?_
   refine wq_cond (t := true) s54 (fun _ => ?_) (fun e => by cases e)
   refine wq_seq (wq_region (wl_v (.pointer none) rfl rfl (y_asg rfl rfl rr) (wl_v (iv 1) rfl rfl (y_asg rfl rfl rr) (wl_nil fun F55 hF56 => ?_))))
   have s57 := (hF56 19).trans s53
   have s58 : F55 4 = .pointer none := (hF56 4).trans rfl
   have s59 : F55 5 = iv 1 := (hF56 5).trans rfl
   clear hF56
   refine then_normal (wq_ret (then_ret ?_))
   exact end_2 s57 rfl (res_tmp (v := .pointer none) rfl s58) (res_tmp (v := iv 1) rfl s59) ⟨(.pointer none), noB, (by first | rw [newVE_yes hs] | rw [newVE_no (by unfold sidesOk; omega)]), K48, ⟨(by first | (rw [optV_yes hs]; exact (Vpo.nil _)) | (rw [optV_no (by unfold sidesOk; omega)]; exact (Vpo.nil _))), (Grew.refl _ _)⟩⟩
 ·skip
  refine wq_region (wl_mv rfl rfl rfl s3 (wl_call (R := fun v_ w_ => v_ = .bool false ∧ Kept (fun _ => False) w0 w_) rfl rfl (y_cs rfl rfl rfl (fun _ _ => by kernel_rfl) (ev_func _) (vsC rfl vsN) (vt_may m  _   ) (fun e_ w_ h_ => ⟨_, h_.1, (congrArg Value.bool (decide_eq_false d6)), h_.2⟩)) ?_))
  rintro _ w60 ⟨rfl, k61⟩
  have K62 := K0.tr k61
  refine wl_v (.bool true) rfl rfl (y_not rfl rfl rfl rr) (wl_v (.bool true) rfl rfl (y_mov rfl rfl rr) (wl_unless 3 false 9 rfl rfl rfl (Or.inl rfl) rfl (wl_unless 3 false 9 rfl rfl rfl (Or.inl rfl) rfl (wl_unless 3 false 9 rfl rfl rfl (Or.inl rfl) rfl (wl_v (.bool true) rfl rfl (y_pickT rfl rfl rfl rr) (wl_nil fun F63 hF64 => ?_))))))
  have s67 := (hF64 19).trans s5
  have s68 : F63 13 = .bool true := (hF64 13).trans rfl
  clear hF64
  refine then_normal ?_
  refine wq_cond (t := true) s68 (fun _ => ?_) (fun e => by cases e)
  refine wq_seq (wq_region (wl_v (.pointer none) rfl rfl (y_asg rfl rfl rr) (wl_v (iv 1) rfl rfl (y_asg rfl rfl rr) (wl_nil fun F69 hF70 => ?_))))
  have s71 := (hF70 19).trans s67
  have s72 : F69 4 = .pointer none := (hF70 4).trans rfl
  have s73 : F69 5 = iv 1 := (hF70 5).trans rfl
  clear hF70
  refine then_normal (wq_ret (then_ret ?_))
  exact end_2 s71 rfl (res_tmp (v := .pointer none) rfl s72) (res_tmp (v := iv 1) rfl s73) ⟨(.pointer none), noB, (by first | rw [newVE_yes hs] | rw [newVE_no (by unfold sidesOk; omega)]), K62, ⟨(by first | (rw [optV_yes hs]; exact (Vpo.nil _)) | (rw [optV_no (by unfold sidesOk; omega)]; exact (Vpo.nil _))), (Grew.refl _ _)⟩⟩
theorem lay_vfG (f : VF) (x y X Y a b : Int) : layG (vfG f) x y X Y a b = vfG (layV f x y X Y) a b := by
  unfold layG vfG layV
  by_cases h : a = x ∧ b = y
  · obtain ⟨rfl, rfl⟩ := h; simp
  · rw [if_neg (fun e => h (by simpa using e))]; simp only [if_neg h]
theorem same_zero {X Y : Int} (h : sameVec X Y 0 0 = true) : X = 0 ∧ Y = 0 := by unfold sameVec at h; simpa using h
def dnI (x : Int) : Int := IntKind.i64.wrap (x - 1)
def upI (x : Int) : Int := IntKind.i64.wrap (x + 1)
theorem dnI_cases {x : Int} (h : inI x) : dnI x = x - 1 ∨ (x = -9223372036854775808 ∧ dnI x = 9223372036854775807) := by
  by_cases e : x = -9223372036854775808
  · subst e; exact Or.inr ⟨rfl, by decide⟩
  · exact Or.inl (by unfold dnI; unfold inI at h; rw [IntKind.wrap_i64]; omega)
theorem upI_cases {x : Int} (h : inI x) : upI x = x + 1 ∨ (x = 9223372036854775807 ∧ upI x = -9223372036854775808) := by
  by_cases e : x = 9223372036854775807
  · subst e; exact Or.inr ⟨rfl, by decide⟩
  · exact Or.inl (by unfold upI; unfold inI at h; rw [IntKind.wrap_i64]; omega)
theorem look_wrap {f : VF} (ok : OkV f) {a b a' b' : Int} (h : (a = a' ∧ b = b') ∨ (¬ inV f a b ∧ ¬ inV f a' b')) : f.X a b = f.X a' b' ∧ f.Y a b = f.Y a' b' := by
  rcases h with ⟨rfl, rfl⟩ | ⟨h1, h2⟩
  · exact ⟨rfl, rfl⟩
  · exact ⟨(ok.out _ _ h1).1.trans (ok.out _ _ h2).1.symm, (ok.out _ _ h1).2.trans (ok.out _ _ h2).2.symm⟩
theorem guess_wrap {f : VF} (ok : OkV f) {x y : Int} (hx : inI x) (hy : inI y) : med (f.X (dnI x) y) (f.X x (dnI y)) (f.X (upI x) (dnI y)) = gX f x y ∧ med (f.Y (dnI x) y) (f.Y x (dnI y)) (f.Y (upI x) (dnI y)) = gY f x y := by
  have hw := ok.w
  have hh := ok.h
  have c1 := dnI_cases hx
  have c2 := dnI_cases hy
  have c3 := upI_cases hx
  have a := look_wrap ok (a := dnI x) (b := y) (a' := x - 1) (b' := y) (by unfold inV; omega)
  have b := look_wrap ok (a := x) (b := dnI y) (a' := x) (b' := y - 1) (by unfold inV; omega)
  have c := look_wrap ok (a := upI x) (b := dnI y) (a' := x + 1) (b' := y - 1) (by unfold inV; omega)
  unfold gX gY
  rw [a.1, a.2, b.1, b.2, c.1, c.2]
  exact ⟨rfl, rfl⟩
theorem vt_guess1 (v : Value) (f : VF) (x y : Int) (T_q : Nat → Prop) (w0 : World) (hx : inI x) (hy : inI y) (h_q : Vpo w0 T_q v ((some f))) :
  Calls Tryz.prog 61 #[v, .int .i64 (x), .int .i64 (y)] w0 fun e w' => e = .returned (.agg #[.int .i64 (gX f x y), .int .i64 (gY f x y)]) ∧ Kept (fun _ => False) w0 w' := by
 refine calls_wq (args := [v, iv x, iv y]) 45 Tryz.func61 rfl rfl (Nat.le_of_ble_eq_true rfl) ?_
 have K0 := Kept.refl (fun _ => False) w0
 have hgw := guess_wrap h_q.ok hx hy
 have g_q := Grew.refl w0 T_q
 obtain ⟨p, rfl, c, hT, hp, hr, hap, ok⟩ := h_q
 refine wq_seq (wq_region (wl_alloc_stc (n := 2) (vs := [iv 0, iv 0]) rfl rfl rfl (by kernel_rfl) fun p4 w5 B7 g8 k6 => ?_))
 have gr9 : Grew w0 noB (onB p4) := Grew.new K0 g8
 have B12 := hp.all k6 id
 have B13 := hr.all k6 id
 have K14 := K0.tr k6
 refine wl_nil fun F15 hF16 => ?_
 have s17 : F15 0 = pt p 0 := (hF16 0).trans rfl
 have s18 : F15 1 = iv x := (hF16 1).trans rfl
 have s19 : F15 2 = iv y := (hF16 2).trans rfl
 have s20 : F15 45 = undef := (hF16 45).trans rfl
 have s21 : F15 6 = pt p4 0 := (hF16 6).trans rfl
 clear hF16
 refine then_normal (wq_seq (wq_seq (wq_region (wl_mv rfl rfl rfl s17 (wl_v (.bool false) rfl rfl (y_noNil rfl rfl rfl Tryz.underlying56 rr) (wl_nil fun F22 hF23 => ?_))))))
 obtain ⟨s24, s25, s26, s27, s28⟩ := t5 hF23 0 s17 1 s18 2 s19 45 s20 6 s21
 have s29 : F22 11 = .bool false := (hF23 11).trans rfl
 clear hF23
 refine then_normal ?_
 refine wq_cond (t := false) s29 (fun e => by cases e) (fun _ => ?_)
 refine wq_skip (then_normal (wq_seq (wq_region (wl_mv rfl rfl rfl s25 (wl_v (iv (dnI x)) rfl rfl (y_sub rfl rfl rfl rfl rr) (wl_mv rfl rfl rfl s26 (wl_v (.agg #[iv (dnI x), iv y]) rfl rfl (y_buildL (l' := [(0, iv (dnI x)), (1, iv y)]) (cells := #[iv (dnI x), iv y]) rfl (bpC rfl (bpC rfl bpN)) (by kernel_rfl) rfl rr) (wl_mv rfl rfl rfl s25 (wl_mv rfl rfl rfl s26 (wl_v (iv (dnI y)) rfl rfl (y_sub rfl rfl rfl rfl rr) (wl_v (.agg #[iv x, iv (dnI y)]) rfl rfl (y_buildL (l' := [(0, iv x), (1, iv (dnI y))]) (cells := #[iv x, iv (dnI y)]) rfl (bpC rfl (bpC rfl bpN)) (by kernel_rfl) rfl rr) ?_)))))))))))
 refine wl_mv rfl rfl rfl s25 (wl_v (iv (upI x)) rfl rfl (y_add rfl rfl rfl rfl rr) (wl_mv rfl rfl rfl s26 (wl_v (iv (dnI y)) rfl rfl (y_sub rfl rfl rfl rfl rr) (wl_v (.agg #[iv (upI x), iv (dnI y)]) rfl rfl (y_buildL (l' := [(0, iv (upI x)), (1, iv (dnI y))]) (cells := #[iv (upI x), iv (dnI y)]) rfl (bpC rfl (bpC rfl bpN)) (by kernel_rfl) rfl rr) (wl_alloc_stc (n := 2) (vs := [iv 0, iv 0]) rfl rfl rfl (by kernel_rfl) fun p30 w31 B33 g34 k32 => ?_)))))
 have gr35 : Grew w0 noB (onB p30) := Grew.new K14 g34
 have ap36 : Apart (onB p30) (onB p) := Apart.new g34 (onB_live B12.lt)
 have ap37 : Apart (onB p30) (onB c) := Apart.new g34 (onB_live B13.lt)
 have ap38 : Apart (onB p30) (onB p4) := Apart.new g34 (onB_live B7.lt)
 have B39 := B12.all k32 id
 have B40 := B13.all k32 id
 have B41 := B7.all k32 id
 have K42 := K14.tr k32
 refine wl_alloc_stc (n := 2) (vs := [iv 0, iv 0]) rfl rfl rfl (by kernel_rfl) fun p43 w44 B46 g47 k45 => ?_
 have gr48 : Grew w0 noB (onB p43) := Grew.new K42 g47
 have ap49 : Apart (onB p43) (onB p) := Apart.new g47 (onB_live B39.lt)
 have ap50 : Apart (onB p43) (onB c) := Apart.new g47 (onB_live B40.lt)
 have ap51 : Apart (onB p43) (onB p4) := Apart.new g47 (onB_live B41.lt)
 have ap52 : Apart (onB p43) (onB p30) := Apart.new g47 (onB_live B33.lt)
 have B53 := B39.all k45 id
 have B54 := B40.all k45 id
 have B55 := B41.all k45 id
 have B56 := B33.all k45 id
 have K57 := K42.tr k45
 refine wl_alloc_stc (n := 2) (vs := [iv 0, iv 0]) rfl rfl rfl (by kernel_rfl) fun p58 w59 B61 g62 k60 => ?_
 have gr63 : Grew w0 noB (onB p58) := Grew.new K57 g62
 have ap64 : Apart (onB p58) (onB p) := Apart.new g62 (onB_live B53.lt)
 have ap65 : Apart (onB p58) (onB c) := Apart.new g62 (onB_live B54.lt)
 have ap66 : Apart (onB p58) (onB p4) := Apart.new g62 (onB_live B55.lt)
 have ap67 : Apart (onB p58) (onB p30) := Apart.new g62 (onB_live B56.lt)
 have ap68 : Apart (onB p58) (onB p43) := Apart.new g62 (onB_live B46.lt)
 have B69 := B53.all k60 id
 have B70 := B54.all k60 id
 have B71 := B55.all k60 id
 have B72 := B56.all k60 id
 have B73 := B46.all k60 id
 have K74 := K57.tr k60
 refine wl_store_stc (us := [iv (dnI x), iv y]) stcT_place rfl rfl rfl rfl rfl B72 rfl (oneI rfl (oneI rfl oneN)) fun w75 B76 k77 => ?_
 have B78 := B69.all k77 (ap36.symm p rfl)
 have B79 := B70.all k77 (ap37.symm c rfl)
 have B80 := B71.all k77 (ap38.symm p4 rfl)
 have B81 := B73.all k77 (ap52 p43 rfl)
 have B82 := B61.all k77 (ap67 p58 rfl)
 have K83 := K74.trans k77 (Grew.ok (S := fun _ => False) gr35 noB_le)
 refine wl_store_stc (us := [iv x, iv (dnI y)]) stcT_place rfl rfl rfl rfl rfl B81 rfl (oneI rfl (oneI rfl oneN)) fun w84 B85 k86 => ?_
 have B87 := B78.all k86 (ap49.symm p rfl)
 have B88 := B79.all k86 (ap50.symm c rfl)
 have B89 := B80.all k86 (ap51.symm p4 rfl)
 have B90 := B76.all k86 (ap52.symm p30 rfl)
 have B91 := B82.all k86 (ap68 p58 rfl)
 have K92 := K83.trans k86 (Grew.ok (S := fun _ => False) gr48 noB_le)
 refine wl_store_stc (us := [iv (upI x), iv (dnI y)]) stcT_place rfl rfl rfl rfl rfl B91 rfl (oneI rfl (oneI rfl oneN)) fun w93 B94 k95 => ?_
 have B96 := B87.all k95 (ap64.symm p rfl)
 have B97 := B88.all k95 (ap65.symm c rfl)
 have B98 := B89.all k95 (ap66.symm p4 rfl)
 have B99 := B90.all k95 (ap67.symm p30 rfl)
 have B100 := B85.all k95 (ap68.symm p43 rfl)
 have K101 := K92.trans k95 (Grew.ok (S := fun _ => False) gr63 noB_le)
 refine wl_nil fun F102 hF103 => ?_
 obtain ⟨s104, s105, s106⟩ := t3 hF103 0 s24 45 s27 6 s28
 have s107 : F102 7 = pt p30 0 := (hF103 7).trans rfl
 have s108 : F102 8 = pt p43 0 := (hF103 8).trans rfl
 have s109 : F102 9 = pt p58 0 := (hF103 9).trans rfl
 clear hF103
 refine then_normal (wq_seq ?_)
 refine wq_tail 19 [some 26, some 27, some 28, some 29, some 30, some 31, some 32, some 33, some 34, some 35, some 36, some 37, some 38, some 39, some 40, some 41, some 42, some 43, some 44] [Pd.eq (pt p 0), Pd.eq (pt p 0), Pd.eq (pt p 2), Pd.eq (.map (some c)), Pd.eq (.agg #[iv (dnI x), iv y]), Pd.eq (.agg #[iv (((vfG f) (dnI x) y).1), iv (((vfG f) (dnI x) y).2)]), Pd.eq (pt p 0), Pd.eq (pt p 0), Pd.eq (pt p 2), Pd.eq (.map (some c)), Pd.eq (.agg #[iv x, iv (dnI y)]), Pd.eq (.agg #[iv (((vfG f) x (dnI y)).1), iv (((vfG f) x (dnI y)).2)]), Pd.eq (pt p 0), Pd.eq (pt p 0), Pd.eq (pt p 2), Pd.eq (.map (some c)), Pd.eq (.agg #[iv (upI x), iv (dnI y)]), Pd.eq (.agg #[iv (((vfG f) (upI x) (dnI y)).1), iv (((vfG f) (upI x) (dnI y)).2)]), Pd.eq (.agg #[iv (med (((vfG f) (dnI x) y).1) (((vfG f) x (dnI y)).1) (((vfG f) (upI x) (dnI y)).1)), iv (med (((vfG f) (dnI x) y).2) (((vfG f) x (dnI y)).2) (((vfG f) (upI x) (dnI y)).2))])] (by kernel_rfl) (by kernel_rfl) (by kernel_rfl) ?_ ?_
 ·refine stepsF_cons ?_ ?_
  ·refine StepF.one rfl fun F_ w_ hR hout hD => ?_
   exact (y_mov rfl ((hout 0 rfl (by decide)).trans s104) ⟨rfl, Kept.refl _ _⟩)
  refine stepsF_cons ?_ ?_
  ·refine StepF.one rfl fun F_ w_ hR hout hD => ?_
   have g26 : F_ 26 = pt p 0 := (hD.get 0 rfl rfl rfl)
   exact (y_nilc rfl g26 ⟨rfl, Kept.refl _ _⟩)
  refine stepsF_cons ?_ ?_
  ·refine StepF.one rfl fun F_ w_ hR hout hD => ?_
   have g27 : F_ 27 = pt p 0 := (hD.get 0 rfl rfl rfl)
   exact (y_fieldR (n := 1) rfl g27 Tryz.underlying136 rfl (by kernel_rfl) (by decide) rfl ⟨rfl, Kept.refl _ _⟩)
  refine stepsF_cons ?_ ?_
  ·refine StepF.one rfl fun F_ w_ hR hout hD => ?_
   have g28 : F_ 28 = pt p 2 := (hD.get 0 rfl rfl rfl)
   exact (y_ld_stc rfl g28 Tryz.underlying134 (B96.all hR id) rfl rfl ⟨rfl, Kept.refl _ _⟩)
  refine stepsF_cons ?_ ?_
  ·refine StepF.one rfl fun F_ w_ hR hout hD => ?_
   exact (y_load_stc stcT_place rfl ((hout 7 rfl (by decide)).trans s107) (B99.all hR id) ⟨rfl, Kept.refl _ _⟩)
  refine stepsF_cons ?_ ?_
  ·refine StepF.one rfl fun F_ w_ hR hout hD => ?_
   have g29 : F_ 29 = .map (some c) := (hD.get 0 rfl rfl rfl)
   have g30 : F_ 30 = .agg #[iv (dnI x), iv y] := (hD.get 1 rfl rfl rfl)
   exact (y_look2 (a := dnI x) (b := y) twoK_place Tryz.underlying134 (by kernel_rfl) rfl g29 g30 (B97.all hR id) ⟨rfl, Kept.refl _ _⟩)
  refine stepsF_cons ?_ ?_
  ·refine StepF.one rfl fun F_ w_ hR hout hD => ?_
   exact (y_mov rfl ((hout 0 rfl (by decide)).trans s104) ⟨rfl, Kept.refl _ _⟩)
  refine stepsF_cons ?_ ?_
  ·refine StepF.one rfl fun F_ w_ hR hout hD => ?_
   have g32 : F_ 32 = pt p 0 := (hD.get 0 rfl rfl rfl)
   exact (y_nilc rfl g32 ⟨rfl, Kept.refl _ _⟩)
  refine stepsF_cons ?_ ?_
  ·refine StepF.one rfl fun F_ w_ hR hout hD => ?_
   have g33 : F_ 33 = pt p 0 := (hD.get 0 rfl rfl rfl)
   exact (y_fieldR (n := 1) rfl g33 Tryz.underlying136 rfl (by kernel_rfl) (by decide) rfl ⟨rfl, Kept.refl _ _⟩)
  refine stepsF_cons ?_ ?_
  ·refine StepF.one rfl fun F_ w_ hR hout hD => ?_
   have g34 : F_ 34 = pt p 2 := (hD.get 0 rfl rfl rfl)
   exact (y_ld_stc rfl g34 Tryz.underlying134 (B96.all hR id) rfl rfl ⟨rfl, Kept.refl _ _⟩)
  refine stepsF_cons ?_ ?_
  ·refine StepF.one rfl fun F_ w_ hR hout hD => ?_
   exact (y_load_stc stcT_place rfl ((hout 8 rfl (by decide)).trans s108) (B100.all hR id) ⟨rfl, Kept.refl _ _⟩)
  refine stepsF_cons ?_ ?_
  ·refine StepF.one rfl fun F_ w_ hR hout hD => ?_
   have g35 : F_ 35 = .map (some c) := (hD.get 0 rfl rfl rfl)
   have g36 : F_ 36 = .agg #[iv x, iv (dnI y)] := (hD.get 1 rfl rfl rfl)
   exact (y_look2 (a := x) (b := dnI y) twoK_place Tryz.underlying134 (by kernel_rfl) rfl g35 g36 (B97.all hR id) ⟨rfl, Kept.refl _ _⟩)
  refine stepsF_cons ?_ ?_
  ·refine StepF.one rfl fun F_ w_ hR hout hD => ?_
   exact (y_mov rfl ((hout 0 rfl (by decide)).trans s104) ⟨rfl, Kept.refl _ _⟩)
  refine stepsF_cons ?_ ?_
  ·refine StepF.one rfl fun F_ w_ hR hout hD => ?_
   have g38 : F_ 38 = pt p 0 := (hD.get 0 rfl rfl rfl)
   exact (y_nilc rfl g38 ⟨rfl, Kept.refl _ _⟩)
  refine stepsF_cons ?_ ?_
  ·refine StepF.one rfl fun F_ w_ hR hout hD => ?_
   have g39 : F_ 39 = pt p 0 := (hD.get 0 rfl rfl rfl)
   exact (y_fieldR (n := 1) rfl g39 Tryz.underlying136 rfl (by kernel_rfl) (by decide) rfl ⟨rfl, Kept.refl _ _⟩)
  refine stepsF_cons ?_ ?_
  ·refine StepF.one rfl fun F_ w_ hR hout hD => ?_
   have g40 : F_ 40 = pt p 2 := (hD.get 0 rfl rfl rfl)
   exact (y_ld_stc rfl g40 Tryz.underlying134 (B96.all hR id) rfl rfl ⟨rfl, Kept.refl _ _⟩)
  refine stepsF_cons ?_ ?_
  ·refine StepF.one rfl fun F_ w_ hR hout hD => ?_
   exact (y_load_stc stcT_place rfl ((hout 9 rfl (by decide)).trans s109) (B94.all hR id) ⟨rfl, Kept.refl _ _⟩)
  refine stepsF_cons ?_ ?_
  ·refine StepF.one rfl fun F_ w_ hR hout hD => ?_
   have g41 : F_ 41 = .map (some c) := (hD.get 0 rfl rfl rfl)
   have g42 : F_ 42 = .agg #[iv (upI x), iv (dnI y)] := (hD.get 1 rfl rfl rfl)
   exact (y_look2 (a := upI x) (b := dnI y) twoK_place Tryz.underlying134 (by kernel_rfl) rfl g41 g42 (B97.all hR id) ⟨rfl, Kept.refl _ _⟩)
  refine stepsF_cons ?_ ?_
  ·refine StepF.one rfl fun F_ w_ hR hout hD => ?_
   have g31 : F_ 31 = .agg #[iv (((vfG f) (dnI x) y).1), iv (((vfG f) (dnI x) y).2)] := (hD.get 0 rfl rfl rfl)
   have g37 : F_ 37 = .agg #[iv (((vfG f) x (dnI y)).1), iv (((vfG f) x (dnI y)).2)] := (hD.get 1 rfl rfl rfl)
   have g43 : F_ 43 = .agg #[iv (((vfG f) (upI x) (dnI y)).1), iv (((vfG f) (upI x) (dnI y)).2)] := (hD.get 2 rfl rfl rfl)
   exact (y_cs rfl rfl rfl (fun _ _ => by kernel_rfl) (ev_func _) (vsC g31 (vsC g37 (vsC g43 vsN))) (vt_median (((vfG f) (dnI x) y).1) (((vfG f) (dnI x) y).2) (((vfG f) x (dnI y)).1) (((vfG f) x (dnI y)).2) (((vfG f) (upI x) (dnI y)).1) (((vfG f) (upI x) (dnI y)).2)  _   ) (fun e_ w_ h_ => ⟨_, h_.1, rfl, h_.2⟩))
  exact stepsF_nil
 intro v110 F111 w112 k113 G114 hF115
 have B119 := B98.all k113 id
 have K123 := K101.tr k113
 obtain ⟨s124, s125⟩ := t2 hF115 45 s105 6 s106
 have s126 : F111 44 = .agg #[iv (med (((vfG f) (dnI x) y).1) (((vfG f) x (dnI y)).1) (((vfG f) (upI x) (dnI y)).1)), iv (med (((vfG f) (dnI x) y).2) (((vfG f) x (dnI y)).2) (((vfG f) (upI x) (dnI y)).2))] := (hF115 44).trans (G114 18 (by decide))
 clear G114 hF115
 refine wl_store_stc (us := [iv (med (((vfG f) (dnI x) y).1) (((vfG f) x (dnI y)).1) (((vfG f) (upI x) (dnI y)).1)), iv (med (((vfG f) (dnI x) y).2) (((vfG f) x (dnI y)).2) (((vfG f) (upI x) (dnI y)).2))]) stcT_vector rfl rfl rfl s125 s126 B119 rfl (oneI rfl (oneI rfl oneN)) fun w127 B128 k129 => ?_
 have K135 := K123.trans k129 (Grew.ok (S := fun _ => False) gr9 noB_le)
 refine wl_nil fun F136 hF137 => ?_
 obtain ⟨s138, s139⟩ := t2 hF137 45 s124 6 s125
 clear hF137
 refine then_normal (wq_ret ?_)
 exact end_stc (vs := [iv (med (((vfG f) (dnI x) y).1) (((vfG f) x (dnI y)).1) (((vfG f) (upI x) (dnI y)).1)), iv (med (((vfG f) (dnI x) y).2) (((vfG f) x (dnI y)).2) (((vfG f) (upI x) (dnI y)).2))]) stcT_vector s138 rfl rfl s139 B128 ⟨(by first | rfl | exact congrArg _ (by rw [← hgw.1, ← hgw.2]; rfl)), K135⟩
end Go.Proofs.YtknjpdcpmpfklaaGreatDoor
set_option maxRecDepth 100000
namespace Go.Proofs.YtknjpdcpmpfklaaGreatDoor
open Go.RowKit
def tR (R : List (Nat × Option Nat)) : Nat → Prop := fun i => ∃ x ∈ R, i = x.1
def Rdx (w : World) (T : Nat → Prop) (q : Nat) (l : List Nat) (st : Option Nat) (R : List (Nat × Option Nat)) : Prop :=
  Fair l ∧ ∃ g, (∀ i, T i ↔ (onB q i ∨ onB g i ∨ tR R i)) ∧ (q :: R.map (·.1)).Nodup ∧ RdIs w q g l st ∧ ∀ x ∈ R, RdIs w x.1 g l x.2
theorem Rdx.live {w : World} {T : Nat → Prop} {q : Nat} {l : List Nat} {st : Option Nat} {R : List (Nat × Option Nat)} (h : Rdx w T q l st R) : Live w T := by
  obtain ⟨_, g, hT, _, h1, h2⟩ := h
  intro i hi
  rcases (hT i).1 hi with e | e | ⟨x, hx, e⟩
  · cases e; exact h1.lt.1
  · cases e; exact h1.lt.2.1
  · subst e; exact (h2 x hx).lt.1
theorem Rdx.all {S : Nat → Prop} {w w' : World} {T : Nat → Prop} {q : Nat} {l : List Nat} {st : Option Nat} {R : List (Nat × Option Nat)} (h : Rdx w T q l st R) (k : Kept S w w') (ha : Apart T S) : Rdx w' T q l st R := by
  obtain ⟨hf, g, hT, hn, h1, h2⟩ := h
  have nq := ha q ((hT q).2 (.inl rfl))
  have ng := ha g ((hT g).2 (.inr (.inl rfl)))
  exact ⟨hf, g, hT, hn, h1.kept k nq ng, fun x hx => (h2 x hx).kept k (ha x.1 ((hT _).2 (.inr (.inr ⟨x, hx, rfl⟩)))) ng⟩
def Rst (w : World) (T : Nat → Prop) (R : List (Nat × Option Nat)) (g : Nat) (l : List Nat) : Prop :=
  T = tR R ∧ (R.map (·.1)).Nodup ∧ ∀ x ∈ R, g ≠ x.1 ∧ ∃ (a : Nat) (b : Bool), okR l x.2 a b ∧ Stc w x.1 106 [.slice (some ⟨g, 0, none⟩) l.length l.length, .int .i64 (a : Int), .bool b]
theorem Rst.live {w : World} {T : Nat → Prop} {R : List (Nat × Option Nat)} {g : Nat} {l : List Nat} (h : Rst w T R g l) : Live w T := by
  obtain ⟨rfl, _, h⟩ := h
  rintro i ⟨x, hx, rfl⟩
  obtain ⟨_, a, b, _, hs⟩ := h x hx
  exact lt_of_heap hs
theorem Rst.all {S : Nat → Prop} {w w' : World} {T : Nat → Prop} {R : List (Nat × Option Nat)} {g : Nat} {l : List Nat} (h : Rst w T R g l) (k : Kept S w w') (ha : Apart T S) : Rst w' T R g l := by
  obtain ⟨rfl, hn, h⟩ := h
  refine ⟨rfl, hn, fun x hx => ?_⟩
  obtain ⟨hg, a, b, ho, hs⟩ := h x hx
  exact ⟨hg, a, b, ho, hs.all k (ha x.1 ⟨x, hx, rfl⟩)⟩
theorem rdx_open {w : World} {T : Nat → Prop} {q : Nat} {l : List Nat} {st : Option Nat} {R : List (Nat × Option Nat)} (h : Rdx w T q l st R) : ∃ (g a : Nat) (b : Bool), Fair l ∧ (∀ i, T i ↔ (onB q i ∨ onB g i ∨ tR R i)) ∧ okR l st a b ∧
    Stc w q 106 [.slice (some ⟨g, 0, none⟩) l.length l.length, .int .i64 (a : Int), .bool b] ∧ Rby w (onB g) g l ∧ Rst w (tR R) R g l ∧ Apart (onB q) (onB g) ∧ Apart (onB q) (tR R) ∧ Apart (onB g) (tR R) := by
  obtain ⟨hf, g, hT, hn, h1, h2⟩ := h
  obtain ⟨a, b, u1, u2, u3, u4⟩ := rdis_open h1
  refine ⟨g, a, b, hf, hT, u1, u2, u3, ⟨rfl, (List.nodup_cons.1 hn).2, fun x hx => ?_⟩, u4, ?_, ?_⟩
  · obtain ⟨c, d, v1, v2, v3, v4⟩ := rdis_open (h2 x hx)
    exact ⟨(h2 x hx).lt.2.2, c, d, v1, v2⟩
  · rintro i e ⟨x, hx, e2⟩
    cases e
    exact (List.nodup_cons.1 hn).1 (e2 ▸ List.mem_map.2 ⟨x, hx, rfl⟩)
  · rintro i e ⟨x, hx, e2⟩
    cases e
    exact (h2 x hx).lt.2.2 e2
theorem rst_is {w : World} {T : Nat → Prop} {R : List (Nat × Option Nat)} {g : Nat} {l : List Nat} (h : Rst w T R g l) (hg : Rby w (onB g) g l) : ∀ x ∈ R, RdIs w x.1 g l x.2 := fun x hx => by
  obtain ⟨_, _, h⟩ := h
  obtain ⟨hne, a, b, ho, hs⟩ := h x hx
  exact rdis_close ho hs hg (fun i e1 e2 => hne (e2.symm.trans e1))
theorem rdx_close {w : World} {q g : Nat} {l : List Nat} {st : Option Nat} {a : Nat} {b : Bool} {R : List (Nat × Option Nat)} {T1 : Nat → Prop} (hf : Fair l) (ho : okR l st a b) (h1 : Stc w q 106 [.slice (some ⟨g, 0, none⟩) l.length l.length, .int .i64 (a : Int), .bool b]) (h2 : Rby w (onB g) g l) (h3 : Rst w T1 R g l) (a1 : Apart (onB q) (onB g)) (a2 : Apart (onB q) T1) :
    Rdx w (fun i => onB q i ∨ onB g i ∨ T1 i) q l st R := by
  obtain ⟨rfl, hn, h4⟩ := h3
  refine ⟨hf, g, fun _ => Iff.rfl, List.nodup_cons.2 ⟨fun hm => ?_, hn⟩, rdis_close ho h1 h2 a1, rst_is ⟨rfl, hn, h4⟩ h2⟩
  obtain ⟨x, hx, e⟩ := List.mem_map.1 hm
  exact a2 q rfl ⟨x, hx, e.symm⟩
theorem rdx_push {w : World} {q c g : Nat} {l : List Nat} {st : Option Nat} {a : Nat} {b : Bool} {R : List (Nat × Option Nat)} {T1 : Nat → Prop} (hf : Fair l) (ho : okR l st a b) (h1 : Stc w q 106 [.slice (some ⟨g, 0, none⟩) l.length l.length, .int .i64 (a : Int), .bool b]) (h2 : Stc w c 106 [.slice (some ⟨g, 0, none⟩) l.length l.length, .int .i64 (a : Int), .bool b]) (h3 : Rby w (onB g) g l) (h4 : Rst w T1 R g l)
    (a1 : Apart (onB q) (onB c)) (a2 : Apart (onB q) (onB g)) (a3 : Apart (onB q) T1) (a4 : Apart (onB c) (onB g)) (a5 : Apart (onB c) T1) : Rdx w (fun i => onB q i ∨ onB c i ∨ onB g i ∨ T1 i) c l st ((q, st) :: R) := by
  obtain ⟨rfl, hn, h5⟩ := h4
  refine ⟨hf, g, fun i => ?_, ?_, rdis_close ho h2 h3 a4, fun x hx => ?_⟩
  · have e : tR ((q, st) :: R) i ↔ (onB q i ∨ tR R i) := by
      unfold tR onB; simp
    rw [e]
    constructor
    · rintro (h | h | h | h)
      · exact .inr (.inr (.inl h))
      · exact .inl h
      · exact .inr (.inl h)
      · exact .inr (.inr (.inr h))
    · rintro (h | h | h | h)
      · exact .inr (.inl h)
      · exact .inr (.inr (.inl h))
      · exact .inl h
      · exact .inr (.inr (.inr h))
  · refine List.nodup_cons.2 ⟨fun hm => ?_, List.nodup_cons.2 ⟨fun hm => ?_, hn⟩⟩
    · rcases List.mem_cons.1 hm with e | hm
      · exact a1 q rfl e.symm
      · obtain ⟨x, hx, e⟩ := List.mem_map.1 hm; exact a5 c rfl ⟨x, hx, e.symm⟩
    · obtain ⟨x, hx, e⟩ := List.mem_map.1 hm; exact a3 q rfl ⟨x, hx, e.symm⟩
  · rcases List.mem_cons.1 hx with rfl | hx
    · exact rdis_close ho h1 h3 a2
    · exact rst_is ⟨rfl, hn, h5⟩ h3 x hx
theorem rst_nil (w : World) (g : Nat) (l : List Nat) : Rst w (tR []) [] g l := ⟨rfl, List.nodup_nil, fun x hx => by cases hx⟩
theorem rdx_push0 {w : World} {q c g : Nat} {l : List Nat} {st : Option Nat} {a : Nat} {b : Bool} (hf : Fair l) (ho : okR l st a b) (h1 : Stc w q 106 [.slice (some ⟨g, 0, none⟩) l.length l.length, .int .i64 (a : Int), .bool b]) (h2 : Stc w c 106 [.slice (some ⟨g, 0, none⟩) l.length l.length, .int .i64 (a : Int), .bool b]) (h3 : Rby w (onB g) g l)
    (a1 : Apart (onB q) (onB c)) (a2 : Apart (onB q) (onB g)) (a4 : Apart (onB c) (onB g)) : Rdx w (fun i => onB q i ∨ onB c i ∨ onB g i) c l st [(q, st)] := by
  have no : ∀ {T : Nat → Prop}, Apart T (tR []) := fun i _ h => by obtain ⟨x, hx, _⟩ := h; cases hx
  obtain ⟨_, g', hT, hn, h5, h6⟩ := rdx_push hf ho h1 h2 h3 (rst_nil w g l) a1 a2 no a4 no
  refine ⟨hf, g', fun i => ?_, hn, h5, h6⟩
  have e : ¬ tR [] i := fun h => by obtain ⟨x, hx, _⟩ := h; cases hx
  rw [← hT i]
  constructor
  · rintro (h | h | h)
    · exact .inl h
    · exact .inr (.inl h)
    · exact .inr (.inr (.inl h))
  · rintro (h | h | h | h)
    · exact .inl h
    · exact .inr (.inl h)
    · exact .inr (.inr h)
    · exact absurd h e
theorem rdx_pop {w : World} {T : Nat → Prop} {q c : Nat} {l : List Nat} {st1 st : Option Nat} {R : List (Nat × Option Nat)} (h : Rdx w T c l st ((q, st1) :: R)) : ∃ (g a1 : Nat) (b1 : Bool) (a2 : Nat) (b2 : Bool), Fair l ∧ (∀ i, T i ↔ (onB q i ∨ onB c i ∨ onB g i ∨ tR R i)) ∧ okR l st1 a1 b1 ∧ okR l st a2 b2 ∧
    Stc w q 106 [.slice (some ⟨g, 0, none⟩) l.length l.length, .int .i64 (a1 : Int), .bool b1] ∧ Stc w c 106 [.slice (some ⟨g, 0, none⟩) l.length l.length, .int .i64 (a2 : Int), .bool b2] ∧ Rby w (onB g) g l ∧ Rst w (tR R) R g l ∧
    Apart (onB q) (onB c) ∧ Apart (onB q) (onB g) ∧ Apart (onB q) (tR R) ∧ Apart (onB c) (onB g) ∧ Apart (onB c) (tR R) ∧ Apart (onB g) (tR R) := by
  obtain ⟨hf, g, hT, hn, h1, h2⟩ := h
  have e : ∀ i, tR ((q, st1) :: R) i ↔ (onB q i ∨ tR R i) := fun i => by unfold tR onB; simp
  obtain ⟨n1, n2⟩ := List.nodup_cons.1 hn
  obtain ⟨n3, n4⟩ := List.nodup_cons.1 n2
  obtain ⟨a1, b1, u1, u2, u3, u4⟩ := rdis_open (h2 (q, st1) (List.mem_cons_self ..))
  obtain ⟨a2, b2, v1, v2, v3, v4⟩ := rdis_open h1
  have hR : ∀ x ∈ R, RdIs w x.1 g l x.2 := fun x hx => h2 x (List.mem_cons_of_mem _ hx)
  refine ⟨g, a1, b1, a2, b2, hf, fun i => ?_, u1, v1, u2, v2, u3, ⟨rfl, n4, fun x hx => ?_⟩, ?_, u4, ?_, v4, ?_, ?_⟩
  · rw [hT i, e i]
    constructor
    · rintro (h | h | h | h)
      · exact .inr (.inl h)
      · exact .inr (.inr (.inl h))
      · exact .inl h
      · exact .inr (.inr (.inr h))
    · rintro (h | h | h | h)
      · exact .inr (.inr (.inl h))
      · exact .inl h
      · exact .inr (.inl h)
      · exact .inr (.inr (.inr h))
  · obtain ⟨c1, d1, w1, w2, _, _⟩ := rdis_open (hR x hx)
    exact ⟨(hR x hx).lt.2.2, c1, d1, w1, w2⟩
  · intro i e1 e2
    exact n1 (List.mem_cons.2 (.inl (e2.symm.trans e1)))
  · rintro i e1 ⟨x, hx, e2⟩
    cases e1
    exact n3 (List.mem_map.2 ⟨x, hx, e2.symm⟩)
  · rintro i e1 ⟨x, hx, e2⟩
    cases e1
    exact n1 (List.mem_cons.2 (.inr (List.mem_map.2 ⟨x, hx, e2.symm⟩)))
  · rintro i e1 ⟨x, hx, e2⟩
    cases e1
    exact (hR x hx).lt.2.2 e2
theorem rdx_pop0 {w : World} {T : Nat → Prop} {q c : Nat} {l : List Nat} {st1 st : Option Nat} (h : Rdx w T c l st [(q, st1)]) : ∃ (g a1 : Nat) (b1 : Bool) (a2 : Nat) (b2 : Bool), Fair l ∧ (∀ i, T i ↔ (onB q i ∨ onB c i ∨ onB g i)) ∧ okR l st1 a1 b1 ∧ okR l st a2 b2 ∧
    Stc w q 106 [.slice (some ⟨g, 0, none⟩) l.length l.length, .int .i64 (a1 : Int), .bool b1] ∧ Stc w c 106 [.slice (some ⟨g, 0, none⟩) l.length l.length, .int .i64 (a2 : Int), .bool b2] ∧ Rby w (onB g) g l ∧
    Apart (onB q) (onB c) ∧ Apart (onB q) (onB g) ∧ Apart (onB c) (onB g) := by
  obtain ⟨g, a1, b1, a2, b2, hf, hT, u1, v1, u2, v2, u3, _, p1, p2, _, p4, _, _⟩ := rdx_pop h
  refine ⟨g, a1, b1, a2, b2, hf, fun i => ?_, u1, v1, u2, v2, u3, p1, p2, p4⟩
  have e : ¬ tR [] i := fun h => by obtain ⟨x, hx, _⟩ := h; cases hx
  rw [hT i]
  constructor
  · rintro (h | h | h | h)
    · exact .inl h
    · exact .inr (.inl h)
    · exact .inr (.inr h)
    · exact absurd h e
  · rintro (h | h | h)
    · exact .inl h
    · exact .inr (.inl h)
    · exact .inr (.inr (.inl h))
theorem rdx_thing {w w' : World} {T : Nat → Prop} {q g : Nat} {l : List Nat} {st : Option Nat} {R : List (Nat × Option Nat)} {r : Int × Option Nat} {e : Ending} (hf : Fair l) (hT : ∀ i, T i ↔ (onB q i ∨ onB g i ∨ tR R i)) (hn : (q :: R.map (·.1)).Nodup) (h1 : RdIs w q g l st) (h2 : ∀ x ∈ R, RdIs w x.1 g l x.2) (hd : RdDone w q g l r e w') :
    ∃ (T_r' : Nat → Prop), e = .returned (.int .i64 r.1) ∧ Kept T w w' ∧ (Rdx w' T_r' q l r.2 R ∧ Grew w T T_r') := by
  obtain ⟨k1, k2, k3⟩ := hd
  refine ⟨T, k1, k3.mono (fun _ _ z => (hT _).2 (.inl z)), ⟨hf, g, hT, hn, k2, fun x hx => (h2 x hx).kept k3 (fun z => ?_) h1.lt.2.2⟩, Grew.refl _ _⟩
  exact (List.nodup_cons.1 hn).1 (z ▸ List.mem_map.2 ⟨x, hx, rfl⟩)
theorem t_rsignedX (q : Nat) (l : List Nat) (st : Option Nat) (R : List (Nat × Option Nat)) (m : Int) (T_r : Nat → Prop) (w0 : World) (h_r : Rdx w0 T_r q l st R) :
    Calls Tryz.prog 132 #[.pointer (some ⟨q, 0, none⟩), .int .i64 m] w0 fun e w' => ∃ (T_r' : Nat → Prop), e = .returned (.int .i64 (rdStep (signedRd l m) st).1) ∧ Kept T_r w0 w' ∧ (Rdx w' T_r' q l (rdStep (signedRd l m) st).2 R ∧ Grew w0 T_r T_r') := by
  obtain ⟨hf, g, hT, hn, h1, h2⟩ := h_r
  exact (rsigned_any q g l st m w0 hf h1).mono fun _ _ hd => rdx_thing hf hT hn h1 h2 hd
theorem t_rwholeX (q : Nat) (l : List Nat) (st : Option Nat) (R : List (Nat × Option Nat)) (m : Int) (T_r : Nat → Prop) (w0 : World) (h_r : Rdx w0 T_r q l st R) :
    Calls Tryz.prog 96 #[.pointer (some ⟨q, 0, none⟩), .int .i64 m] w0 fun e w' => ∃ (T_r' : Nat → Prop), e = .returned (.int .i64 (rdStep (wholeRd l m) st).1) ∧ Kept T_r w0 w' ∧ (Rdx w' T_r' q l (rdStep (wholeRd l m) st).2 R ∧ Grew w0 T_r T_r') := by
  obtain ⟨hf, g, hT, hn, h1, h2⟩ := h_r
  exact (rwhole_any q g l st m w0 hf h1).mono fun _ _ hd => rdx_thing hf hT hn h1 h2 hd
theorem t_lostX (q : Nat) (l : List Nat) (st : Option Nat) (R : List (Nat × Option Nat)) (T_r : Nat → Prop) (w0 : World) (h_r : Rdx w0 T_r q l st R) :
    Calls Tryz.prog 98 #[.pointer (some ⟨q, 0, none⟩)] w0 fun e w' => e = .returned (.bool (st.isNone)) ∧ Kept (fun _ => False) w0 w' := by
  obtain ⟨hf, g, hT, hn, h1, h2⟩ := h_r
  exact (lost_any q g l st w0 h1).mono fun _ _ ⟨e, hw⟩ => by subst hw; exact ⟨e, Kept.refl _ _⟩
theorem vt_readX (p : Nat) (l : List Nat) (st : Option Nat) (R : List (Nat × Option Nat)) (A B : Int) (T_r : Nat → Prop) (w0 : World) (h_r : Rdx w0 T_r p (l) (st) (R)) :
  Calls Tryz.prog 100 #[.pointer (some ⟨p, 0, none⟩), .agg #[.int .i64 (A), .int .i64 (B)]] w0 fun e w' => ∃ (T_r' : Nat → Prop), e = .returned (.tuple #[.agg #[.int .i64 (vrX l A B st), .int .i64 (vrY l A B st)], .int .i64 (vrE l A B st)]) ∧ Kept (T_r) w0 w' ∧ (Rdx w' T_r' p (l) (vrT l A B st) (R) ∧ Grew w0 T_r T_r') := by
 refine calls_wq (args := [pt p 0, .agg #[iv A, iv B]]) 37 Tryz.func100 rfl rfl (Nat.le_of_ble_eq_true rfl) ?_
 have K0 := Kept.refl T_r w0
 have h1 := cl64 A
 have h2 := cl64 B
 have h3 := rdX_le l st
 have h4 := rdX_le l (rdX l st).2
 have g_r := Grew.refl w0 T_r
 refine wq_seq (wq_region (wl_box_stc (vs := [iv A, iv B]) rfl rfl rfl rfl fun p1 w2 B4 g5 k3 => ?_))
 have B8 := h_r.all k3 Apart.none
 have K9 := K0.tr k3
 refine wl_alloc_stc (n := 2) (vs := [iv 0, iv 0]) rfl rfl rfl (by kernel_rfl) fun p10 w11 B13 g14 k12 => ?_
 have gr15 : Grew w0 noB (onB p10) := Grew.new K9 g14
 have ap16 : Apart (onB p10) T_r := Apart.new g14 B8.live
 have B18 := B8.all k12 Apart.none
 have B19 := B4.all k12 id
 have K20 := K9.tr k12
 refine wl_v (iv 0) rfl rfl (y_asg rfl rfl rr) (wl_nil fun F21 hF22 => ?_)
 have s23 : F21 0 = pt p 0 := (hF22 0).trans rfl
 have s24 : F21 37 = undef := (hF22 37).trans rfl
 have s25 : F21 3 = pt p1 0 := (hF22 3).trans rfl
 have s26 : F21 4 = pt p10 0 := (hF22 4).trans rfl
 clear hF22
 refine then_normal (wq_seq (wq_seq (wq_region (wl_mv rfl rfl rfl s23 (wl_v (.bool false) rfl rfl (y_noNil rfl rfl rfl Tryz.underlying54 rr) (wl_nil fun F27 hF28 => ?_))))))
 obtain ⟨s29, s30, s31, s32⟩ := t4 hF28 0 s23 37 s24 3 s25 4 s26
 have s33 : F27 9 = .bool false := (hF28 9).trans rfl
 clear hF28
 refine then_normal ?_
 refine wq_cond (t := false) s33 (fun e => by cases e) (fun _ => ?_)
 refine wq_skip (then_normal (wq_seq ?_))
 obtain ⟨g, a, b, hf, hT, hok, hp, hg, hr, hap, hap2, hap3⟩ := rdx_open B18
 have gr34 : Grew w0 T_r (onB p) := fun i h => g_r i ((fun i h => (hT i).2 (Or.inl h)) i h)
 have ap36 : Apart (onB p) (onB p10) := fun i h => ap16.symm i ((fun i h => (hT i).2 (Or.inl h)) i h)
 have gr37 : Grew w0 T_r (onB g) := fun i h => g_r i ((fun i h => (hT i).2 (Or.inr (Or.inl h))) i h)
 have ap39 : Apart (onB g) (onB p10) := fun i h => ap16.symm i ((fun i h => (hT i).2 (Or.inr (Or.inl h))) i h)
 have gr40 : Grew w0 T_r (tR R) := fun i h => g_r i ((fun i h => (hT i).2 (Or.inr (Or.inr h))) i h)
 have ap42 : Apart (tR R) (onB p10) := fun i h => ap16.symm i ((fun i h => (hT i).2 (Or.inr (Or.inr h))) i h)
 have ap43 : Apart (onB p) (onB g) := hap
 have ap44 : Apart (onB p) (tR R) := hap2
 refine wq_region (wl_mv rfl rfl rfl s29 (wl_v (pt p 0) rfl rfl (y_nilc rfl rfl rr) (wl_v (.agg #[.slice (some ⟨g, 0, none⟩) l.length l.length, iv ((a : Nat) : Int), .bool b]) rfl rfl (y_load_stc stcT_reader rfl rfl hp rr) (wl_alloc_stc (n := 3) (vs := [.slice none 0 0, iv ((0 : Nat) : Int), .bool false]) rfl rfl rfl (by kernel_rfl) fun p46 w47 B49 g50 k48 => ?_))))
 have gr51 : Grew w0 noB (onB p46) := Grew.new K20 g50
 have ap52 : Apart (onB p46) (onB p1) := Apart.new g50 (onB_live B19.lt)
 have ap53 : Apart (onB p46) (onB p10) := Apart.new g50 (onB_live B13.lt)
 have ap54 : Apart (onB p46) (onB p) := Apart.new g50 (onB_live hp.lt)
 have ap55 : Apart (onB p46) (onB g) := Apart.new g50 hg.live
 have ap56 : Apart (onB p46) (tR R) := Apart.new g50 hr.live
 have B57 := B19.all k48 id
 have B58 := B13.all k48 id
 have B59 := hp.all k48 id
 have B60 := hg.all k48 Apart.none
 have B61 := hr.all k48 Apart.none
 have K62 := K20.tr k48
 refine wl_store_stc (us := [.slice (some ⟨g, 0, none⟩) l.length l.length, iv ((a : Nat) : Int), .bool b]) stcT_reader rfl rfl rfl rfl rfl B49 rfl (oneI rfl (oneI rfl (oneI rfl oneN))) fun w63 B64 k65 => ?_
 have B66 := B57.all k65 (ap52.symm p1 rfl)
 have B67 := B58.all k65 (ap53.symm p10 rfl)
 have B68 := B59.all k65 (ap54.symm p rfl)
 have B69 := B60.all k65 ap55.symm
 have B70 := B61.all k65 ap56.symm
 have K71 := K62.trans k65 (Grew.ok (S := T_r) gr51 noB_le)
 refine wl_nil fun F72 hF73 => ?_
 obtain ⟨s74, s75, s76, s77⟩ := t4 hF73 0 s29 37 s30 3 s31 4 s32
 have s78 : F72 6 = pt p46 0 := (hF73 6).trans rfl
 clear hF73
 refine then_normal (wq_seq ?_)
 have B79 : Rdx w63 (fun i => (onB p) i ∨ ((onB p46) i ∨ ((onB g) i ∨ ((tR R) i)))) p46 l st (List.cons (p, st) R) := rdx_push hf hok B68 B64 B69 B70 ap54.symm ap43 ap44 ap55 ap56
 have gr80 : Grew w0 T_r (fun i => (onB p) i ∨ ((onB p46) i ∨ ((onB g) i ∨ ((tR R) i)))) := fun i h => h.elim (fun y => gr34 i y) (fun y => y.elim (fun y => (Grew.weak gr51 (fun _ z => z.elim)) i y) (fun y => y.elim (fun y => gr37 i y) (fun y => gr40 i y)))
 have ap82 : Apart (fun i => (onB p) i ∨ ((onB p46) i ∨ ((onB g) i ∨ ((tR R) i)))) (onB p10) := fun i h => h.elim (fun y => ap36 i y) (fun y => y.elim (fun y => ap53 i y) (fun y => y.elim (fun y => ap39 i y) (fun y => ap42 i y)))
 refine wq_region (wl_v (.agg #[iv A, iv B]) rfl rfl (y_load_stc stcT_vector rfl s76 B66 rr) (wl_cs rfl rfl rfl rfl rfl (fun _ _ => by kernel_rfl) (vsC rfl vsN) (vt_near A B  _   ) fun w83 k84 => ?_))
 have B86 := B67.all k84 id
 have B87 := B79.all k84 Apart.none
 have K88 := K71.tr k84
 refine wl_alloc_stc (n := 2) (vs := [iv 0, iv 0]) rfl rfl rfl (by kernel_rfl) fun p89 w90 B92 g93 k91 => ?_
 have gr94 : Grew w0 noB (onB p89) := Grew.new K88 g93
 have ap96 : Apart (onB p89) (onB p10) := Apart.new g93 (onB_live B86.lt)
 have ap97 : Apart (onB p89) (fun i => (onB p) i ∨ ((onB p46) i ∨ ((onB g) i ∨ ((tR R) i)))) := Apart.new g93 B87.live
 have B99 := B86.all k91 id
 have B100 := B87.all k91 Apart.none
 have K101 := K88.tr k91
 refine wl_store_stc (us := [iv (cl 64 A), iv (cl 64 B)]) stcT_vector rfl rfl rfl rfl rfl B92 rfl (oneI rfl (oneI rfl oneN)) fun w102 B103 k104 => ?_
 have B106 := B99.all k104 (ap96.symm p10 rfl)
 have B107 := B100.all k104 ap97.symm
 have K108 := K101.trans k104 (Grew.ok (S := T_r) gr94 noB_le)
 refine wl_nil fun F109 hF110 => ?_
 obtain ⟨s111, s112, s113, s114⟩ := t4 hF110 0 s74 37 s75 4 s77 6 s78
 have s115 : F109 7 = pt p89 0 := (hF110 7).trans rfl
 clear hF110
 refine then_normal (wq_seq ?_)
 refine wq_turns (S := fun i => (fun i => (onB p) i ∨ ((onB p46) i ∨ ((onB g) i ∨ ((tR R) i)))) i ∨ ((onB p89) i)) [(5, 1)] [some 16, some 17, some 18, some 19, some 20, none] [Pt.eq (pt p89 0), Pt.eq (iv (cl 64 A)), Pt.thg ⟨fun w_ => Rdx w_ (fun i => (onB p) i ∨ ((onB p46) i ∨ ((onB g) i ∨ ((tR R) i)))) p46 l st (List.cons (p, st) R), fun i => (onB p) i ∨ ((onB p46) i ∨ ((onB g) i ∨ ((tR R) i))), fun T_ w_ => Rdx w_ T_ p46 l ((rdStep (signedRd l 128) st).2) (List.cons (p, st) R), fun _ _ _ h_ k_ ha_ => h_.all k_ ha_, fun _ _ _ _ h_ k_ ha_ => h_.all k_ ha_, fun _ h_ => h_.live, fun _ _ h_ => h_.live⟩ (iv ((rdX l st).1)), Pt.eq (iv ((rdX l st).1 + cl 64 A)), Pt.eq (pt p89 0), Pt.thg (stcThg p89 67 [iv (cl 64 A), iv (cl 64 B)] [iv ((rdX l st).1 + cl 64 A), iv (cl 64 B)]) undef] (by kernel_rfl) (by kernel_rfl) (by kernel_rfl) rfl (OldsT.old ⟨⟨fun _ x_ => Or.inl x_, B107, ⟨ap97.symm, trivial⟩⟩, ⟨⟨fun _ x_ => Or.inr x_, B103, trivial⟩, trivial⟩⟩) ?_ ?_
 ·refine stepsFT_cons ?_ ?_
  ·refine StepFT.one rfl fun F_ w_ hR hout hD => ?_
   exact (y_fieldR (n := 1) rfl ((hout 7 rfl (by decide)).trans s115) Tryz.underlying67 rfl (by kernel_rfl) (by decide) rfl ⟨rfl, Kept.refl _ _⟩)
  refine stepsFT_cons ?_ ?_
  ·refine StepFT.oneA rfl fun F_ w_ hR hout hD hA_ => ?_
   have g16 : F_ 16 = pt p89 0 := (hD.get 0 rfl rfl rfl).1
   have hA5_ : Stc w_ p89 67 [iv (cl 64 A), iv (cl 64 B)] := hA_ 5 _ _ (by decide) rfl
   exact (y_ld_stc rfl g16 Tryz.underlying3 hA5_ rfl rfl ⟨rfl, Kept.refl _ _⟩)
  refine stepsFT_cons ?_ ?_
  ·refine StepFT.turn rfl rfl fun F_ w_ hR hout hD hA_ => ?_
   exact (y_cs rfl rfl rfl (fun _ _ => by kernel_rfl) (ev_func _) (vsC ((hout 6 rfl (by decide)).trans s114) (vsC rfl vsN)) (t_rsignedX p46 l st (List.cons (p, st) R) 128 (fun i => (onB p) i ∨ ((onB p46) i ∨ ((onB g) i ∨ ((tR R) i)))) _  hA_ ) (fun e_ w_ h_ => by obtain ⟨_, he_, k_, hb_, hg_⟩ := h_; exact ⟨_, he_, rfl, k_, _, hb_, hg_⟩))
  refine stepsFT_cons ?_ ?_
  ·refine StepFT.one rfl fun F_ w_ hR hout hD => ?_
   have g17 : F_ 17 = iv (cl 64 A) := (hD.get 0 rfl rfl rfl).1
   have g18 : F_ 18 = iv ((rdX l st).1) := (hD.get 1 rfl rfl rfl).1
   exact (y_add rfl g17 g18 (by rw [Int.add_comm, IntKind.wrap_i64]; omega) ⟨rfl, Kept.refl _ _⟩)
  refine stepsFT_cons ?_ ?_
  ·refine StepFT.one rfl fun F_ w_ hR hout hD => ?_
   exact (y_fieldR (n := 1) rfl ((hout 7 rfl (by decide)).trans s115) Tryz.underlying67 rfl (by kernel_rfl) (by decide) rfl ⟨rfl, Kept.refl _ _⟩)
  refine stepsFT_cons ?_ ?_
  ·refine StepFT.turn rfl rfl fun F_ w_ hR hout hD hA_ => ?_
   have g20 : F_ 20 = pt p89 0 := (hD.get 0 rfl rfl rfl).1
   have g19 : F_ 19 = iv ((rdX l st).1 + cl 64 A) := (hD.get 1 rfl rfl rfl).1
   exact y_setStc rfl g20 g19 hA_ rfl rfl (by kernel_rfl) fun w2_ b_ k_ => ⟨rfl, k_, _, ⟨rfl, b_⟩, Grew.refl _ _⟩
  exact stepsFT_nil
 intro v116 Tf123 F117 w118 k119 G120 Gt124 Ga125 hF121
 have B127 := B106.all k119 (fun x => (x.elim (fun y => ((ap82.symm) p10 rfl y)) (fun y => ((ap96.symm) p10 rfl y))))
 have K128 := K108.trans k119 (fun i hi x => (x.elim (fun y => ((Grew.ok (S := T_r) gr80 (fun _ x => x)) i hi y)) (fun y => ((Grew.ok (S := T_r) gr94 noB_le) i hi y))))
 obtain ⟨T129, e130⟩ : ∃ T_, T_ = Tf123 2 := ⟨_, rfl⟩
 have B131 : Rdx w118 T129 p46 l ((rdStep (signedRd l 128) st).2) (List.cons (p, st) R) := by rw [e130]; exact (Gt124 2 _ _ rfl).1
 have g132 : Grew w102 (fun i => (onB p) i ∨ ((onB p46) i ∨ ((onB g) i ∨ ((tR R) i)))) T129 := by rw [e130]; exact (Gt124 2 _ _ rfl).2
 have gr133 := gr80.trans K108 g132
 have ap135 : Apart T129 (onB p10) := ap82.grew g132 (onB_live B106.lt)
 have e136 : onB p89 = Tf123 5 := ((Gt124 5 _ _ rfl).1.1).symm
 have B137 : Stc w118 p89 67 [iv ((rdX l st).1 + cl 64 A), iv (cl 64 B)] := (Gt124 5 _ _ rfl).1.2
 have ap138 : Apart T129 (onB p89) := by rw [e130, e136]; exact Ga125 2 5 _ _ _ _ (by decide) rfl rfl
 clear Gt124 Ga125
 obtain ⟨s139, s140, s141, s142, s143⟩ := t5 hF121 0 s111 37 s112 4 s113 6 s114 7 s115
 clear G120 hF121
 refine then_normal (wq_seq ?_)
 refine wq_turns (S := fun i => T129 i ∨ ((onB p89) i)) [(5, 1)] [some 21, some 22, some 23, some 24, some 25, none] [Pt.eq (pt p89 1), Pt.eq (iv (cl 64 B)), Pt.thg ⟨fun w_ => Rdx w_ T129 p46 l ((rdStep (signedRd l 128) st).2) (List.cons (p, st) R), T129, fun T_ w_ => Rdx w_ T_ p46 l ((rdStep (signedRd l 128) ((rdStep (signedRd l 128) st).2)).2) (List.cons (p, st) R), fun _ _ _ h_ k_ ha_ => h_.all k_ ha_, fun _ _ _ _ h_ k_ ha_ => h_.all k_ ha_, fun _ h_ => h_.live, fun _ _ h_ => h_.live⟩ (iv ((rdX l (rdX l st).2).1)), Pt.eq (iv ((rdX l (rdX l st).2).1 + cl 64 B)), Pt.eq (pt p89 1), Pt.thg (stcThg p89 67 [iv ((rdX l st).1 + cl 64 A), iv (cl 64 B)] [iv ((rdX l st).1 + cl 64 A), iv ((rdX l (rdX l st).2).1 + cl 64 B)]) undef] (by kernel_rfl) (by kernel_rfl) (by kernel_rfl) rfl (OldsT.old ⟨⟨fun _ x_ => Or.inl x_, B131, ⟨ap138, trivial⟩⟩, ⟨⟨fun _ x_ => Or.inr x_, B137, trivial⟩, trivial⟩⟩) ?_ ?_
 ·refine stepsFT_cons ?_ ?_
  ·refine StepFT.one rfl fun F_ w_ hR hout hD => ?_
   exact (y_fieldR (n := 1) rfl ((hout 7 rfl (by decide)).trans s143) Tryz.underlying67 rfl (by kernel_rfl) (by decide) rfl ⟨rfl, Kept.refl _ _⟩)
  refine stepsFT_cons ?_ ?_
  ·refine StepFT.oneA rfl fun F_ w_ hR hout hD hA_ => ?_
   have g21 : F_ 21 = pt p89 1 := (hD.get 0 rfl rfl rfl).1
   have hA5_ : Stc w_ p89 67 [iv ((rdX l st).1 + cl 64 A), iv (cl 64 B)] := hA_ 5 _ _ (by decide) rfl
   exact (y_ld_stc rfl g21 Tryz.underlying3 hA5_ rfl rfl ⟨rfl, Kept.refl _ _⟩)
  refine stepsFT_cons ?_ ?_
  ·refine StepFT.turn rfl rfl fun F_ w_ hR hout hD hA_ => ?_
   exact (y_cs rfl rfl rfl (fun _ _ => by kernel_rfl) (ev_func _) (vsC ((hout 6 rfl (by decide)).trans s142) (vsC rfl vsN)) (t_rsignedX p46 l ((rdStep (signedRd l 128) st).2) (List.cons (p, st) R) 128 T129 _  hA_ ) (fun e_ w_ h_ => by obtain ⟨_, he_, k_, hb_, hg_⟩ := h_; exact ⟨_, he_, rfl, k_, _, hb_, hg_⟩))
  refine stepsFT_cons ?_ ?_
  ·refine StepFT.one rfl fun F_ w_ hR hout hD => ?_
   have g22 : F_ 22 = iv (cl 64 B) := (hD.get 0 rfl rfl rfl).1
   have g23 : F_ 23 = iv ((rdX l (rdX l st).2).1) := (hD.get 1 rfl rfl rfl).1
   exact (y_add rfl g22 g23 (by rw [Int.add_comm, IntKind.wrap_i64]; omega) ⟨rfl, Kept.refl _ _⟩)
  refine stepsFT_cons ?_ ?_
  ·refine StepFT.one rfl fun F_ w_ hR hout hD => ?_
   exact (y_fieldR (n := 1) rfl ((hout 7 rfl (by decide)).trans s143) Tryz.underlying67 rfl (by kernel_rfl) (by decide) rfl ⟨rfl, Kept.refl _ _⟩)
  refine stepsFT_cons ?_ ?_
  ·refine StepFT.turn rfl rfl fun F_ w_ hR hout hD hA_ => ?_
   have g25 : F_ 25 = pt p89 1 := (hD.get 0 rfl rfl rfl).1
   have g24 : F_ 24 = iv ((rdX l (rdX l st).2).1 + cl 64 B) := (hD.get 1 rfl rfl rfl).1
   exact y_setStc rfl g25 g24 hA_ rfl rfl (by kernel_rfl) fun w2_ b_ k_ => ⟨rfl, k_, _, ⟨rfl, b_⟩, Grew.refl _ _⟩
  exact stepsFT_nil
 intro v144 Tf151 F145 w146 k147 G148 Gt152 Ga153 hF149
 have B155 := B127.all k147 (fun x => (x.elim (fun y => ((ap135.symm) p10 rfl y)) (fun y => ((ap96.symm) p10 rfl y))))
 have K156 := K128.trans k147 (fun i hi x => (x.elim (fun y => ((Grew.ok (S := T_r) gr133 (fun _ x => x)) i hi y)) (fun y => ((Grew.ok (S := T_r) gr94 noB_le) i hi y))))
 obtain ⟨T157, e158⟩ : ∃ T_, T_ = Tf151 2 := ⟨_, rfl⟩
 have B159 : Rdx w146 T157 p46 l ((rdStep (signedRd l 128) ((rdStep (signedRd l 128) st).2)).2) (List.cons (p, st) R) := by rw [e158]; exact (Gt152 2 _ _ rfl).1
 have g160 : Grew w118 T129 T157 := by rw [e158]; exact (Gt152 2 _ _ rfl).2
 have gr161 := gr133.trans K128 g160
 have ap163 : Apart T157 (onB p10) := ap135.grew g160 (onB_live B127.lt)
 have e164 : onB p89 = Tf151 5 := ((Gt152 5 _ _ rfl).1.1).symm
 have B165 : Stc w146 p89 67 [iv ((rdX l st).1 + cl 64 A), iv ((rdX l (rdX l st).2).1 + cl 64 B)] := (Gt152 5 _ _ rfl).1.2
 have ap166 : Apart T157 (onB p89) := by rw [e158, e164]; exact Ga153 2 5 _ _ _ _ (by decide) rfl rfl
 clear Gt152 Ga153
 obtain ⟨s167, s168, s169, s170, s171⟩ := t5 hF149 0 s139 37 s140 4 s141 6 s142 7 s143
 clear G148 hF149
 refine then_normal (wq_seq (wq_seq ?_))
 rcases Bool.eq_false_or_eq_true (((rdStep (signedRd l 128) ((rdStep (signedRd l 128) st).2)).2).isNone) with d172 | d172
 ·skip
  refine wq_region (wl_call (R := fun v_ w_ => v_ = .bool true ∧ Kept (fun _ => False) w146 w_) rfl rfl (y_cs rfl rfl rfl (fun _ _ => by kernel_rfl) (ev_func _) (vsC s170 vsN) (t_lostX p46 l ((rdStep (signedRd l 128) ((rdStep (signedRd l 128) st).2)).2) (List.cons (p, st) R) T157 _  B159 ) (fun e_ w_ h_ => ⟨_, h_.1, (congrArg Value.bool d172), h_.2⟩)) ?_)
  rintro _ w173 ⟨rfl, k174⟩
  have B176 := B155.all k174 id
  have B177 := B159.all k174 Apart.none
  have K179 := K156.tr k174
  refine wl_v (.bool true) rfl rfl (y_mov rfl rfl rr) (wl_unless 1 false 27 rfl rfl rfl (Or.inl rfl) rfl (wl_unless 1 false 27 rfl rfl rfl (Or.inl rfl) rfl (wl_unless 1 false 27 rfl rfl rfl (Or.inl rfl) rfl (wl_v (.bool true) rfl rfl (y_pickT rfl rfl rfl rr) (wl_nil fun F180 hF181 => ?_)))))
  obtain ⟨s183, s184⟩ := t2 hF181 37 s168 4 s169
  have s187 : F180 31 = .bool true := (hF181 31).trans rfl
  clear hF181
  refine then_normal ?_
  refine wq_cond (t := true) s187 (fun _ => ?_) (fun e => by cases e)
  refine wq_seq ?_
  have hk : ¬ rdOk l A B st := by unfold rdOk; rintro ⟨h7, h8⟩; first | exact h7 (Option.isNone_iff_eq_none.1 (by assumption)) | exact absurd (vecE_yes h8) (by assumption)
  have hR := vr_no hk
  obtain ⟨g2, a1, b1, a2, b2, hf2, hT2, ho1, ho2, hp2, hq2, hg2, hr2, ap1_, ap2_, ap3_, ap4_, ap5_, ap6_⟩ := rdx_pop B177
  have gr188 : Grew w0 T_r (onB p) := fun i h => gr161 i ((fun i h => (hT2 i).2 (Or.inl h)) i h)
  have ap190 : Apart (onB p) (onB p10) := fun i h => ap163 i ((fun i h => (hT2 i).2 (Or.inl h)) i h)
  have gr196 : Grew w0 T_r (onB g2) := fun i h => gr161 i ((fun i h => (hT2 i).2 (Or.inr (Or.inr (Or.inl h)))) i h)
  have ap198 : Apart (onB g2) (onB p10) := fun i h => ap163 i ((fun i h => (hT2 i).2 (Or.inr (Or.inr (Or.inl h)))) i h)
  have gr200 : Grew w0 T_r (tR R) := fun i h => gr161 i ((fun i h => (hT2 i).2 (Or.inr (Or.inr (Or.inr h)))) i h)
  have ap202 : Apart (tR R) (onB p10) := fun i h => ap163 i ((fun i h => (hT2 i).2 (Or.inr (Or.inr (Or.inr h)))) i h)
  have ap205 : Apart (onB p) (onB g2) := ap2_
  have ap206 : Apart (onB p) (tR R) := ap3_
  refine wq_region (wl_v (.agg #[iv 0, iv 0]) rfl rfl (y_buildL (l' := []) (cells := #[iv 0, iv 0]) rfl bpN (by kernel_rfl) rfl rr) (wl_store_stc (us := [iv 0, iv 0]) stcT_vector rfl rfl rfl s184 rfl B176 rfl (oneI rfl (oneI rfl oneN)) fun w210 B211 k212 => ?_))
  have B215 := hp2.all k212 (ap190 p rfl)
  have B217 := hg2.all k212 ap198
  have B218 := hr2.all k212 ap202
  have K219 := K179.trans k212 (Grew.ok (S := T_r) gr15 noB_le)
  refine wl_v (iv 90) rfl rfl (y_asg rfl rfl rr) (wl_nil fun F220 hF221 => ?_)
  obtain ⟨s222, s223⟩ := t2 hF221 37 s183 4 s184
  have s224 : F220 5 = iv 90 := (hF221 5).trans rfl
  clear hF221
  refine then_normal (wq_ret (then_ret ?_))
  have B225 : Rdx w210 (fun i => (onB p) i ∨ ((onB g2) i ∨ ((tR R) i))) p l (vrT l A B st) R := (by first | (rw [show vrT l A B st = st from if_neg hk]; exact rdx_close hf2 ho1 B215 B217 B218 ap205 ap206) | (rw [show vrT l A B st = vrS l st from if_pos hk]; exact rdx_close hf2 ho2 B215 B217 B218 ap205 ap206))
  have gr226 : Grew w0 T_r (fun i => (onB p) i ∨ ((onB g2) i ∨ ((tR R) i))) := fun i h => h.elim (fun y => gr188 i y) (fun y => y.elim (fun y => gr196 i y) (fun y => gr200 i y))
  exact end_2 s222 rfl (res_stc (vs := [iv 0, iv 0]) stcT_vector rfl s223 B211) (res_tmp (v := iv 90) rfl s224) ⟨(fun i => (onB p) i ∨ ((onB g2) i ∨ ((tR R) i))), (by rw [hR.1, hR.2.1, hR.2.2]), K219, ⟨B225, gr226⟩⟩
 ·skip
  refine wq_region (wl_call (R := fun v_ w_ => v_ = .bool false ∧ Kept (fun _ => False) w146 w_) rfl rfl (y_cs rfl rfl rfl (fun _ _ => by kernel_rfl) (ev_func _) (vsC s170 vsN) (t_lostX p46 l ((rdStep (signedRd l 128) ((rdStep (signedRd l 128) st).2)).2) (List.cons (p, st) R) T157 _  B159 ) (fun e_ w_ h_ => ⟨_, h_.1, (congrArg Value.bool d172), h_.2⟩)) ?_)
  rintro _ w231 ⟨rfl, k232⟩
  have B234 := B155.all k232 id
  have B235 := B159.all k232 Apart.none
  have B236 := B165.all k232 id
  have K237 := K156.tr k232
  refine wl_v (.bool false) rfl rfl (y_mov rfl rfl rr) (wl_vw (.agg #[iv ((rdX l st).1 + cl 64 A), iv ((rdX l (rdX l st).2).1 + cl 64 B)]) 1 false 27 rfl rfl rfl rfl rfl (y_load_stc stcT_vector rfl s171 B236 rr) (wl_callw (R := fun v_ w_ => v_ = iv (vecE ((rdX l st).1 + cl 64 A) ((rdX l (rdX l st).2).1 + cl 64 B)) ∧ Kept (fun _ => False) w231 w_) 1 false 27 rfl rfl rfl rfl rfl (y_cs rfl rfl rfl (fun _ _ => by kernel_rfl) (ev_func _) (vsC rfl vsN) (mo_check ((rdX l st).1 + cl 64 A) ((rdX l (rdX l st).2).1 + cl 64 B)  _   ) (fun e_ w_ h_ => ⟨_, h_.1, rfl, h_.2⟩)) ?_))
  rintro _ w238 ⟨rfl, k239⟩
  have B241 := B234.all k239 id
  have B242 := B235.all k239 Apart.none
  have B243 := B236.all k239 id
  have K244 := K237.tr k239
  refine wl_vw (.bool (decide ((vecE ((rdX l st).1 + cl 64 A) ((rdX l (rdX l st).2).1 + cl 64 B)) ≠ 0))) 1 false 27 rfl rfl rfl rfl rfl (y_neqI rfl rfl rfl rfl rr) (wl_v (.bool (decide ((vecE ((rdX l st).1 + cl 64 A) ((rdX l (rdX l st).2).1 + cl 64 B)) ≠ 0))) rfl rfl (y_pickF rfl rfl rfl rr) (wl_nil fun F245 hF246 => ?_))
  obtain ⟨s247, s248, s249, s250, s251⟩ := t5 hF246 0 s167 37 s168 4 s169 6 s170 7 s171
  have s252 : F245 31 = .bool (decide ((vecE ((rdX l st).1 + cl 64 A) ((rdX l (rdX l st).2).1 + cl 64 B)) ≠ 0)) := (hF246 31).trans rfl
  clear hF246
  refine then_normal ?_
  refine wq_cond s252 (fun c253 => ?_) (fun c253 => ?_)
  ·replace c253 := of_decide_eq_true c253
   refine wq_seq ?_
   have hk : ¬ rdOk l A B st := by unfold rdOk; rintro ⟨h7, h8⟩; first | exact h7 (Option.isNone_iff_eq_none.1 (by assumption)) | exact absurd (vecE_yes h8) (by assumption)
   have hR := vr_no hk
   obtain ⟨g2, a1, b1, a2, b2, hf2, hT2, ho1, ho2, hp2, hq2, hg2, hr2, ap1_, ap2_, ap3_, ap4_, ap5_, ap6_⟩ := rdx_pop B242
   have gr254 : Grew w0 T_r (onB p) := fun i h => gr161 i ((fun i h => (hT2 i).2 (Or.inl h)) i h)
   have ap256 : Apart (onB p) (onB p10) := fun i h => ap163 i ((fun i h => (hT2 i).2 (Or.inl h)) i h)
   have gr262 : Grew w0 T_r (onB g2) := fun i h => gr161 i ((fun i h => (hT2 i).2 (Or.inr (Or.inr (Or.inl h)))) i h)
   have ap264 : Apart (onB g2) (onB p10) := fun i h => ap163 i ((fun i h => (hT2 i).2 (Or.inr (Or.inr (Or.inl h)))) i h)
   have gr266 : Grew w0 T_r (tR R) := fun i h => gr161 i ((fun i h => (hT2 i).2 (Or.inr (Or.inr (Or.inr h)))) i h)
   have ap268 : Apart (tR R) (onB p10) := fun i h => ap163 i ((fun i h => (hT2 i).2 (Or.inr (Or.inr (Or.inr h)))) i h)
   have ap271 : Apart (onB p) (onB g2) := ap2_
   have ap272 : Apart (onB p) (tR R) := ap3_
   refine wq_region (wl_v (.agg #[iv 0, iv 0]) rfl rfl (y_buildL (l' := []) (cells := #[iv 0, iv 0]) rfl bpN (by kernel_rfl) rfl rr) (wl_store_stc (us := [iv 0, iv 0]) stcT_vector rfl rfl rfl s249 rfl B241 rfl (oneI rfl (oneI rfl oneN)) fun w276 B277 k278 => ?_))
   have B281 := hp2.all k278 (ap256 p rfl)
   have B283 := hg2.all k278 ap264
   have B284 := hr2.all k278 ap268
   have K285 := K244.trans k278 (Grew.ok (S := T_r) gr15 noB_le)
   refine wl_v (iv 90) rfl rfl (y_asg rfl rfl rr) (wl_nil fun F286 hF287 => ?_)
   obtain ⟨s288, s289⟩ := t2 hF287 37 s248 4 s249
   have s290 : F286 5 = iv 90 := (hF287 5).trans rfl
   clear hF287
   refine then_normal (wq_ret (then_ret ?_))
   have B291 : Rdx w276 (fun i => (onB p) i ∨ ((onB g2) i ∨ ((tR R) i))) p l (vrT l A B st) R := (by first | (rw [show vrT l A B st = st from if_neg hk]; exact rdx_close hf2 ho1 B281 B283 B284 ap271 ap272) | (rw [show vrT l A B st = vrS l st from if_pos hk]; exact rdx_close hf2 ho2 B281 B283 B284 ap271 ap272))
   have gr292 : Grew w0 T_r (fun i => (onB p) i ∨ ((onB g2) i ∨ ((tR R) i))) := fun i h => h.elim (fun y => gr254 i y) (fun y => y.elim (fun y => gr262 i y) (fun y => gr266 i y))
   exact end_2 s288 rfl (res_stc (vs := [iv 0, iv 0]) stcT_vector rfl s289 B277) (res_tmp (v := iv 90) rfl s290) ⟨(fun i => (onB p) i ∨ ((onB g2) i ∨ ((tR R) i))), (by rw [hR.1, hR.2.1, hR.2.2]), K285, ⟨B291, gr292⟩⟩
  ·replace c253 := of_decide_eq_false c253
   refine wq_skip (then_normal (wq_seq ?_))
   have hk : rdOk l A B st := by unfold rdOk; exact ⟨fun h7 => absurd (Option.isNone_iff_eq_none.2 h7) (Bool.eq_false_iff.1 (by assumption)), (vecE_iff _ _).1 (Decidable.byContradiction (by assumption))⟩
   have hR := vr_yes hk
   obtain ⟨g2, a1, b1, a2, b2, hf2, hT2, ho1, ho2, hp2, hq2, hg2, hr2, ap1_, ap2_, ap3_, ap4_, ap5_, ap6_⟩ := rdx_pop B242
   have gr297 : Grew w0 T_r (onB p) := fun i h => gr161 i ((fun i h => (hT2 i).2 (Or.inl h)) i h)
   have ap299 : Apart (onB p) (onB p10) := fun i h => ap163 i ((fun i h => (hT2 i).2 (Or.inl h)) i h)
   have ap300 : Apart (onB p) (onB p89) := fun i h => ap166 i ((fun i h => (hT2 i).2 (Or.inl h)) i h)
   have gr305 : Grew w0 T_r (onB g2) := fun i h => gr161 i ((fun i h => (hT2 i).2 (Or.inr (Or.inr (Or.inl h)))) i h)
   have ap307 : Apart (onB g2) (onB p10) := fun i h => ap163 i ((fun i h => (hT2 i).2 (Or.inr (Or.inr (Or.inl h)))) i h)
   have gr309 : Grew w0 T_r (tR R) := fun i h => gr161 i ((fun i h => (hT2 i).2 (Or.inr (Or.inr (Or.inr h)))) i h)
   have ap311 : Apart (tR R) (onB p10) := fun i h => ap163 i ((fun i h => (hT2 i).2 (Or.inr (Or.inr (Or.inr h)))) i h)
   have ap314 : Apart (onB p) (onB g2) := ap2_
   have ap315 : Apart (onB p) (tR R) := ap3_
   refine wq_region (wl_mv rfl rfl rfl s247 (wl_v (.agg #[.slice (some ⟨g2, 0, none⟩) l.length l.length, iv ((a2 : Nat) : Int), .bool b2]) rfl rfl (y_load_stc stcT_reader rfl s250 hq2 rr) (wl_v (pt p 0) rfl rfl (y_nilc rfl rfl rr) (wl_store_stc (us := [.slice (some ⟨g2, 0, none⟩) l.length l.length, iv ((a2 : Nat) : Int), .bool b2]) stcT_reader rfl rfl rfl rfl rfl hp2 rfl (oneI rfl (oneI rfl (oneI rfl oneN))) fun w319 B320 k321 => ?_))))
   have B323 := B241.all k321 (ap299.symm p10 rfl)
   have B324 := B243.all k321 (ap300.symm p89 rfl)
   have B326 := hg2.all k321 ap314.symm
   have B327 := hr2.all k321 ap315.symm
   have K328 := K244.trans k321 (Grew.ok (S := T_r) gr297 (fun _ x => x))
   refine wl_nil fun F329 hF330 => ?_
   obtain ⟨s331, s332, s333⟩ := t3 hF330 37 s248 4 s249 7 s251
   clear hF330
   refine then_normal (wq_seq (wq_region (wl_v (.agg #[iv ((rdX l st).1 + cl 64 A), iv ((rdX l (rdX l st).2).1 + cl 64 B)]) rfl rfl (y_load_stc stcT_vector rfl s333 B324 rr) (wl_store_stc (us := [iv ((rdX l st).1 + cl 64 A), iv ((rdX l (rdX l st).2).1 + cl 64 B)]) stcT_vector rfl rfl rfl s332 rfl B323 rfl (oneI rfl (oneI rfl oneN)) fun w334 B335 k336 => ?_))))
   have B339 := B320.all k336 (ap299 p rfl)
   have B341 := B326.all k336 ap307
   have B342 := B327.all k336 ap311
   have K343 := K328.trans k336 (Grew.ok (S := T_r) gr15 noB_le)
   refine wl_v (iv 0) rfl rfl (y_asg rfl rfl rr) (wl_nil fun F344 hF345 => ?_)
   obtain ⟨s346, s347⟩ := t2 hF345 37 s331 4 s332
   have s348 : F344 5 = iv 0 := (hF345 5).trans rfl
   clear hF345
   refine then_normal (wq_ret ?_)
   have B349 : Rdx w334 (fun i => (onB p) i ∨ ((onB g2) i ∨ ((tR R) i))) p l (vrT l A B st) R := (by first | (rw [show vrT l A B st = st from if_neg hk]; exact rdx_close hf2 ho1 B339 B341 B342 ap314 ap315) | (rw [show vrT l A B st = vrS l st from if_pos hk]; exact rdx_close hf2 ho2 B339 B341 B342 ap314 ap315))
   have gr350 : Grew w0 T_r (fun i => (onB p) i ∨ ((onB g2) i ∨ ((tR R) i))) := fun i h => h.elim (fun y => gr297 i y) (fun y => y.elim (fun y => gr305 i y) (fun y => gr309 i y))
   exact end_2 s346 rfl (res_stc (vs := [iv ((rdX l st).1 + cl 64 A), iv ((rdX l (rdX l st).2).1 + cl 64 B)]) stcT_vector rfl s347 B335) (res_tmp (v := iv 0) rfl s348) ⟨(fun i => (onB p) i ∨ ((onB g2) i ∨ ((tR R) i))), (by rw [hR.1, hR.2.1, hR.2.2]), K343, ⟨B349, gr350⟩⟩
theorem scan_readX (p : Nat) (l : List Nat) (st : Option Nat) (R : List (Nat × Option Nat)) (T_r : Nat → Prop) (w0 : World) (hO : ScanIn w0) (hG : ∀ i, T_r i → 2 < i) (h_r : Rdx w0 T_r p (l) (st) (R)) :
  Calls Tryz.prog 101 #[.pointer (some ⟨p, 0, none⟩)] w0 fun e w' => ∃ (T_r' : Nat → Prop), e = .returned (.tuple #[blkV ((scanRd l st).1), .int .i64 ((scanRd l st).2.1)]) ∧ Kept (T_r) w0 w' ∧ (Rdx w' T_r' p (l) (rdSt l st) (R) ∧ Grew w0 T_r T_r') := by
 refine calls_wq (args := [pt p 0]) 48 Tryz.func101 rfl rfl (Nat.le_of_ble_eq_true rfl) ?_
 have K0 := Kept.refl T_r w0
 have hle := gBig_whole l st
 obtain ⟨M, hM⟩ : ∃ M, M = (rdStep (wholeRd l gBig) st).1.toNat := ⟨_, rfl⟩
 have g_r := Grew.refl w0 T_r
 refine wq_seq (wq_region (wl_alloc_blk rfl rfl rfl blkT_block.2.2 fun p1 w2 e5 B3 k4 => ?_))
 have g6 := onB_new (Nat.le_of_eq e5.symm)
 have gr7 : Grew w0 noB (onB p1) := Grew.new K0 g6
 have ap8 : Apart (onB p1) T_r := Apart.new g6 h_r.live
 clear e5 g6
 have B9 := h_r.all k4 Apart.none
 have K10 := K0.tr k4
 refine wl_v (iv 0) rfl rfl (y_asg rfl rfl rr) (wl_nil fun F11 hF12 => ?_)
 have s13 : F11 0 = pt p 0 := (hF12 0).trans rfl
 have s14 : F11 48 = undef := (hF12 48).trans rfl
 have s15 : F11 2 = pt p1 0 := (hF12 2).trans rfl
 have s16 : F11 3 = iv 0 := (hF12 3).trans rfl
 clear hF12
 refine then_normal (wq_scope (wq_seq (wq_seq (wq_region (wl_mv rfl rfl rfl s13 (wl_v (.bool false) rfl rfl (y_noNil rfl rfl rfl Tryz.underlying54 rr) (wl_nil fun F17 hF18 => ?_)))))))
 obtain ⟨s19, s20, s21, s22⟩ := t4 hF18 0 s13 48 s14 2 s15 3 s16
 have s23 : F17 9 = .bool false := (hF18 9).trans rfl
 clear hF18
 refine then_normal ?_
 refine wq_cond (t := false) s23 (fun e => by cases e) (fun _ => ?_)
 refine wq_skip (then_normal (wq_seq (wq_region (wl_alloc_blk rfl rfl rfl blkT_block.2.2 fun p24 w25 e28 B26 k27 => ?_))))
 have g29 := onB_new (Nat.le_of_eq e28.symm)
 have gr30 : Grew w0 noB (onB p24) := Grew.new K10 g29
 have ap31 : Apart (onB p24) T_r := Apart.new g29 B9.live
 have ap32 : Apart (onB p24) (onB p1) := Apart.new g29 (onB_live B3.lt)
 clear e28 g29
 have B33 := B9.all k27 Apart.none
 have B34 := B3.all k27 id
 have K35 := K10.tr k27
 refine wl_nil fun F36 hF37 => ?_
 obtain ⟨s38, s39, s40, s41, s42⟩ := t5 hF37 0 s19 48 s20 2 s21 3 s22 9 s23
 have s43 : F36 4 = pt p24 0 := (hF37 4).trans rfl
 clear hF37
 refine then_normal (wq_seq (wq_region (wl_v (iv 0) rfl rfl (y_asg rfl rfl rr) (wl_nil fun F44 hF45 => ?_))))
 obtain ⟨s46, s47, s48, s49, s50, s51⟩ := t6 hF45 0 s38 48 s39 2 s40 3 s41 9 s42 4 s43
 have s52 : F44 5 = iv 0 := (hF45 5).trans rfl
 clear hF45
 refine then_normal (wq_seq (wq_region (wl_mv rfl rfl rfl s46 (wl_call (R := fun v_ w_ => ∃ (T55 : Nat → Prop), iv ((M : Nat) : Int) = v_ ∧ Kept T_r w25 w_ ∧ (Rdx w_ T55 p l ((rdStep (wholeRd l 9223372036854775807) st).2) R ∧ Grew w25 T_r T55)) rfl rfl (y_cs rfl rfl rfl (fun _ _ => by kernel_rfl) (ev_func _) (vsC rfl (vsC rfl vsN)) (t_rwholeX p l st R 9223372036854775807 T_r _  B33 ) (fun e_ w_ h_ => by obtain ⟨T55_, he_, hr_⟩ := h_; exact ⟨_, he_, T55_, (congrArg (Value.int .i64) (by rw [show (9223372036854775807 : Int) = gBig from rfl]; omega)).symm, hr_⟩)) ?_))))
 rintro _ w53 ⟨T55, rfl, k54, ⟨B56, g57⟩⟩
 have B58 := B34.all k54 (ap8 p1 rfl)
 have B59 := B26.all k54 (ap31 p24 rfl)
 have K60 := K35.trans k54 (fun i hi x => ((Grew.ok (S := T_r) g_r (fun _ x => x)) i hi x))
 have gr61 := g_r.trans K35 g57
 have ap62 : Apart T55 (onB p1) := (ap8.symm).grew g57 (onB_live B34.lt)
 have ap63 : Apart T55 (onB p24) := (ap31.symm).grew g57 (onB_live B26.lt)
 refine wl_v (iv ((M : Nat) : Int)) rfl rfl (y_asg rfl rfl rr) (wl_nil fun F64 hF65 => ?_)
 obtain ⟨s66, s67, s68, s69, s70, s71, s72⟩ := t7 hF65 0 s46 48 s47 2 s48 3 s49 9 s50 4 s51 5 s52
 have s73 : F64 6 = iv ((M : Nat) : Int) := (hF65 6).trans rfl
 clear hF65
 refine then_normal (wq_seq (wq_seq ?_))
 have B74 : Rdx w53 T55 p l ((rdStep (wholeRd l gBig) st).2) R := B56
 rcases Bool.eq_false_or_eq_true (((rdStep (wholeRd l gBig) st).2).isNone) with d75 | d75
 ·skip
  refine wq_region (wl_mv rfl rfl rfl s66 (wl_call (R := fun v_ w_ => v_ = .bool true ∧ Kept (fun _ => False) w53 w_) rfl rfl (y_cs rfl rfl rfl (fun _ _ => by kernel_rfl) (ev_func _) (vsC rfl vsN) (t_lostX p l ((rdStep (wholeRd l gBig) st).2) R T55 _  B74 ) (fun e_ w_ h_ => ⟨_, h_.1, (congrArg Value.bool d75), h_.2⟩)) ?_))
  rintro _ w76 ⟨rfl, k77⟩
  have B78 := B74.all k77 Apart.none
  have B79 := B58.all k77 id
  have K81 := K60.tr k77
  refine wl_v (.bool true) rfl rfl (y_mov rfl rfl rr) (wl_unless 2 false 15 rfl rfl rfl (Or.inl rfl) rfl (wl_unless 2 false 15 rfl rfl rfl (Or.inl rfl) rfl (wl_v (.bool true) rfl rfl (y_pickT rfl rfl rfl rr) (wl_nil fun F82 hF83 => ?_))))
  obtain ⟨s85, s86⟩ := t2 hF83 48 s67 2 s68
  have s92 : F82 18 = .bool true := (hF83 18).trans rfl
  clear hF83
  refine then_normal ?_
  refine wq_cond (t := true) s92 (fun _ => ?_) (fun e => by cases e)
  refine wq_goto (then_goto ?_)
  refine jump_goto ⟨_, rfl, ?_⟩
  refine wq_seq (wq_skip (then_normal (wq_seq ?_)))
  first | have hR := g_none (l := l) (s := st) (Or.inl (by assumption)) | have hR := g_none (l := l) (s := st) (Or.inr (by omega)) | have hR := g_far (by omega) hI (by omega) | have hR := g_bad (by omega) hI (by omega) (by first | exact Or.inl (by assumption) | exact Or.inr (by assumption))
  refine wq_region (wl_v (blkV (fun _ => 0)) rfl rfl (y_buildR (cells := (arrL 16 (fun _ => 0)).toArray) rfl (by kernel_rfl) rfl rr) (wl_store_blk blkT_block rfl rfl rfl s86 rfl B79 fun w93 B94 k95 => ?_))
  have B96 := B78.all k95 ap62
  have K98 := K81.trans k95 (Grew.ok (S := T_r) gr7 noB_le)
  refine wl_v (iv 60) rfl rfl (y_asg rfl rfl rr) (wl_nil fun F99 hF100 => ?_)
  obtain ⟨s101, s102⟩ := t2 hF100 48 s85 2 s86
  have s103 : F99 3 = iv 60 := (hF100 3).trans rfl
  clear hF100
  refine then_normal (wq_ret (stay_ret ?_))
  exact end_2 s101 rfl (res_blk blkT_block rfl s102 B94) (res_tmp (v := iv 60) rfl s103) ⟨T55, (by rw [← (told_as hR).1, ← (told_as hR).2.1]), K98, ⟨(by rw [(told_as hR).2.2]; exact B96), gr61⟩⟩
 ·skip
  refine wq_region (wl_mv rfl rfl rfl s66 (wl_call (R := fun v_ w_ => v_ = .bool false ∧ Kept (fun _ => False) w53 w_) rfl rfl (y_cs rfl rfl rfl (fun _ _ => by kernel_rfl) (ev_func _) (vsC rfl vsN) (t_lostX p l ((rdStep (wholeRd l gBig) st).2) R T55 _  B74 ) (fun e_ w_ h_ => ⟨_, h_.1, (congrArg Value.bool d75), h_.2⟩)) ?_))
  rintro _ w104 ⟨rfl, k105⟩
  have B106 := B74.all k105 Apart.none
  have B107 := B58.all k105 id
  have B108 := B59.all k105 id
  have K109 := K60.tr k105
  refine wl_v (.bool false) rfl rfl (y_mov rfl rfl rr) (wl_vw (iv ((M : Nat) : Int)) 2 false 15 rfl rfl rfl rfl rfl (y_mov rfl s73 rr) (wl_vw (.bool (decide (16 < ((M : Nat) : Int)))) 2 false 15 rfl rfl rfl rfl rfl (y_gtr rfl rfl rfl rfl rr) (wl_v (.bool (decide (16 < ((M : Nat) : Int)))) rfl rfl (y_pickF rfl rfl rfl rr) (wl_nil fun F110 hF111 => ?_))))
  obtain ⟨s112, s113, s114, s115, s116, s117, s118, s119⟩ := t8 hF111 0 s66 48 s67 2 s68 3 s69 9 s70 4 s71 5 s72 6 s73
  have s120 : F110 18 = .bool (decide (16 < ((M : Nat) : Int))) := (hF111 18).trans rfl
  clear hF111
  refine then_normal ?_
  refine wq_cond s120 (fun c121 => ?_) (fun c121 => ?_)
  ·replace c121 := of_decide_eq_true c121
   refine wq_goto (then_goto ?_)
   refine jump_goto ⟨_, rfl, ?_⟩
   refine wq_seq (wq_skip (then_normal (wq_seq ?_)))
   first | have hR := g_none (l := l) (s := st) (Or.inl (by assumption)) | have hR := g_none (l := l) (s := st) (Or.inr (by omega)) | have hR := g_far (by omega) hI (by omega) | have hR := g_bad (by omega) hI (by omega) (by first | exact Or.inl (by assumption) | exact Or.inr (by assumption))
   refine wq_region (wl_v (blkV (fun _ => 0)) rfl rfl (y_buildR (cells := (arrL 16 (fun _ => 0)).toArray) rfl (by kernel_rfl) rfl rr) (wl_store_blk blkT_block rfl rfl rfl s114 rfl B107 fun w122 B123 k124 => ?_))
   have B125 := B106.all k124 ap62
   have K127 := K109.trans k124 (Grew.ok (S := T_r) gr7 noB_le)
   refine wl_v (iv 60) rfl rfl (y_asg rfl rfl rr) (wl_nil fun F128 hF129 => ?_)
   obtain ⟨s130, s131⟩ := t2 hF129 48 s113 2 s114
   have s132 : F128 3 = iv 60 := (hF129 3).trans rfl
   clear hF129
   refine then_normal (wq_ret (stay_ret ?_))
   exact end_2 s130 rfl (res_blk blkT_block rfl s131 B123) (res_tmp (v := iv 60) rfl s132) ⟨T55, (by rw [← (told_as hR).1, ← (told_as hR).2.1]), K127, ⟨(by rw [(told_as hR).2.2]; exact B125), gr61⟩⟩
  ·replace c121 := of_decide_eq_false c121
   refine wq_skip (then_normal (wq_seq (wq_seq (wq_region (wl_mv rfl rfl rfl s119 (wl_v (iv 0) rfl rfl (y_mov rfl rfl rr) (wl_nil fun F133 hF134 => ?_)))))))
   obtain ⟨s135, s136, s137, s138, s139, s140, s141, s142, s143⟩ := t9 hF134 0 s112 48 s113 2 s114 3 s115 9 s116 4 s117 5 s118 6 s119 18 s120
   have s144 : F133 19 = iv ((M : Nat) : Int) := (hF134 19).trans rfl
   have s145 : F133 20 = iv 0 := (hF134 20).trans rfl
   clear hF134
   refine then_normal (wq_block (wq_loop (fun nn FF ww => ∃ (i : Nat), ∃ (a : Nat), ∃ (b : Nat → Int), ∃ (s : Option Nat), ∃ (T146 : Nat → Prop), (i ≤ M) ∧ (a ≤ 16) ∧ (gRest l (M - i) a b s = gRd l st) ∧ nn = M - i ∧ FF 0 = pt p 0 ∧ FF 2 = pt p1 0 ∧ FF 3 = iv 0 ∧ FF 4 = pt p24 0 ∧ FF 6 = iv ((M : Nat) : Int) ∧ FF 9 = .bool false ∧ FF 18 = .bool (decide (16 < ((M : Nat) : Int))) ∧ FF 19 = iv ((M : Nat) : Int) ∧ FF 48 = undef ∧ FF 5 = iv ((a : Nat) : Int) ∧ FF 20 = iv ((i : Nat) : Int) ∧ Kept T_r w0 ww ∧ Rdx ww T146 p l s R ∧ Blk ww p1 69 (fun _ => 0) ∧ Blk ww p24 69 b ∧ Grew w0 T_r T146 ∧ Apart T146 (onB p1) ∧ Apart T146 (onB p24)) (M - 0) ⟨0, 0, (fun _ => 0), (rdStep (wholeRd l gBig) st).2, T55, by omega, by omega, (g_start (by assumption) (by omega) hM), rfl, s135, s137, s138, s140, s142, s139, s143, s144, s136, s141, s145, K109, B106, B107, B108, gr61, ap62, ap63⟩ ?_))
   rintro n150 F147 w148 ⟨i, a, b, s, T146, i151, i152, hI, hn150, s153, s154, s155, s156, s157, s158, s159, s160, s161, s162, s163, K149, B164, B165, B166, gr167, ap168, ap169⟩
   refine wq_seq (wq_region (wl_v (.bool (decide (((i : Nat) : Int) < ((M : Nat) : Int)))) rfl rfl (y_lss rfl s163 s160 rfl rr) (wl_nil fun F170 hF171 => ?_)))
   obtain ⟨s172, s173, s174, s175, s176, s177, s178, s179, s180, s181, s182⟩ := t11 hF171 0 s153 2 s154 3 s155 4 s156 6 s157 9 s158 18 s159 19 s160 48 s161 5 s162 20 s163
   have s183 : F170 21 = .bool (decide (((i : Nat) : Int) < ((M : Nat) : Int))) := (hF171 21).trans rfl
   clear hF171
   refine then_normal (wq_seq ?_)
   refine wq_cond s183 (fun c184 => ?_) (fun c184 => ?_)
   ·replace c184 := of_decide_eq_true c184
    refine wq_skip (then_normal (wq_seq (wq_block (wq_seq ?_))))
    have hat := gBig_at l a s
    refine wq_region (wl_mv rfl rfl rfl s181 (wl_mv rfl rfl rfl s172 (wl_call (R := fun v_ w_ => ∃ (T187 : Nat → Prop), iv ((rdStep (wholeRd l 9223372036854775807) s).1) = v_ ∧ Kept T146 w148 w_ ∧ (Rdx w_ T187 p l ((rdStep (wholeRd l 9223372036854775807) s).2) R ∧ Grew w148 T146 T187)) rfl rfl (y_cs rfl rfl rfl (fun _ _ => by kernel_rfl) (ev_func _) (vsC rfl (vsC rfl vsN)) (t_rwholeX p l s R 9223372036854775807 T146 _  B164 ) (fun e_ w_ h_ => by obtain ⟨T187_, he_, hr_⟩ := h_; exact ⟨_, he_, T187_, rfl, hr_⟩)) ?_)))
    rintro _ w185 ⟨T187, rfl, k186, ⟨B188, g189⟩⟩
    have B190 := B165.all k186 (ap168.symm p1 rfl)
    have B191 := B166.all k186 (ap169.symm p24 rfl)
    have K192 := K149.trans k186 (fun i hi x => ((Grew.ok (S := T_r) gr167 (fun _ x => x)) i hi x))
    have gr193 := gr167.trans K149 g189
    have ap194 : Apart T187 (onB p1) := ap168.grew g189 (onB_live B165.lt)
    have ap195 : Apart T187 (onB p24) := ap169.grew g189 (onB_live B166.lt)
    refine wl_v (iv (((gOne l a s).1 : Nat) : Int)) rfl rfl (y_add rfl rfl rfl (i64_n (by rw [show (9223372036854775807 : Int) = gBig from rfl]; exact hat.1) (by omega)) rr) (wl_v (iv (((gOne l a s).1 : Nat) : Int)) rfl rfl (y_asg rfl rfl rr) (wl_nil fun F196 hF197 => ?_))
    obtain ⟨s198, s199, s200, s201, s202, s203, s204, s205, s206, s207⟩ := t10 hF197 0 s172 2 s173 3 s174 4 s175 6 s176 9 s177 18 s178 19 s179 48 s180 20 s182
    have s209 : F196 5 = iv (((gOne l a s).1 : Nat) : Int) := (hF197 5).trans rfl
    clear hF197
    refine then_normal (wq_seq (wq_seq ?_))
    have B210 : Rdx w185 T187 p l ((rdStep (wholeRd l gBig) s).2) R := B188
    refine wq_region (wl_mv rfl rfl rfl s209 (wl_v (.bool (decide (16 ≤ (((gOne l a s).1 : Nat) : Int)))) rfl rfl (y_geq rfl rfl rfl rfl rr) (wl_nil fun F211 hF212 => ?_)))
    obtain ⟨s213, s214, s215, s216, s217, s218, s219, s220, s221, s222, s224⟩ := t11 hF212 0 s198 2 s199 3 s200 4 s201 6 s202 9 s203 18 s204 19 s205 48 s206 20 s207 5 s209
    have s225 : F211 27 = .bool (decide (16 ≤ (((gOne l a s).1 : Nat) : Int))) := (hF212 27).trans rfl
    clear hF212
    refine then_normal ?_
    refine wq_cond s225 (fun c226 => ?_) (fun c226 => ?_)
    ·replace c226 := of_decide_eq_true c226
     refine wq_goto (then_goto (in_goto (then_goto (then_goto (in_goto (then_goto ?_))))))
     refine jump_goto ⟨_, rfl, ?_⟩
     refine wq_seq (wq_skip (then_normal (wq_seq ?_)))
     first | have hR := g_none (l := l) (s := st) (Or.inl (by assumption)) | have hR := g_none (l := l) (s := st) (Or.inr (by omega)) | have hR := g_far (by omega) hI (by omega) | have hR := g_bad (by omega) hI (by omega) (by first | exact Or.inl (by assumption) | exact Or.inr (by assumption))
     refine wq_region (wl_v (blkV (fun _ => 0)) rfl rfl (y_buildR (cells := (arrL 16 (fun _ => 0)).toArray) rfl (by kernel_rfl) rfl rr) (wl_store_blk blkT_block rfl rfl rfl s214 rfl B190 fun w227 B228 k229 => ?_))
     have B230 := B210.all k229 ap194
     have K232 := K192.trans k229 (Grew.ok (S := T_r) gr7 noB_le)
     refine wl_v (iv 60) rfl rfl (y_asg rfl rfl rr) (wl_nil fun F233 hF234 => ?_)
     obtain ⟨s235, s236⟩ := t2 hF234 2 s214 48 s221
     have s237 : F233 3 = iv 60 := (hF234 3).trans rfl
     clear hF234
     refine then_normal (wq_ret (stay_ret ?_))
     exact end_2 s236 rfl (res_blk blkT_block rfl s235 B228) (res_tmp (v := iv 60) rfl s237) ⟨T187, (by rw [← (told_as hR).1, ← (told_as hR).2.1]), K232, ⟨(by rw [(told_as hR).2.2]; exact B230), gr193⟩⟩
    ·replace c226 := of_decide_eq_false c226
     refine wq_skip (then_normal (wq_seq (wq_region (wl_mv rfl rfl rfl s213 (wl_call (R := fun v_ w_ => ∃ (T240 : Nat → Prop), iv ((gOne l a s).2.1) = v_ ∧ Kept T187 w185 w_ ∧ (Rdx w_ T240 p l ((rdStep (signedRd l 9223372036854775807) ((rdStep (wholeRd l gBig) s).2)).2) R ∧ Grew w185 T187 T240)) rfl rfl (y_cs rfl rfl rfl (fun _ _ => by kernel_rfl) (ev_func _) (vsC rfl (vsC rfl vsN)) (t_rsignedX p l ((rdStep (wholeRd l gBig) s).2) R 9223372036854775807 T187 _  B210 ) (fun e_ w_ h_ => by obtain ⟨T240_, he_, hr_⟩ := h_; exact ⟨_, he_, T240_, rfl, hr_⟩)) ?_)))))
     rintro _ w238 ⟨T240, rfl, k239, ⟨B241, g242⟩⟩
     have B243 := B190.all k239 (ap194.symm p1 rfl)
     have B244 := B191.all k239 (ap195.symm p24 rfl)
     have K245 := K192.trans k239 (fun i hi x => ((Grew.ok (S := T_r) gr193 (fun _ x => x)) i hi x))
     have gr246 := gr193.trans K192 g242
     have ap247 : Apart T240 (onB p1) := ap194.grew g242 (onB_live B190.lt)
     have ap248 : Apart T240 (onB p24) := ap195.grew g242 (onB_live B191.lt)
     refine wl_v (iv ((gOne l a s).2.1)) rfl rfl (y_asg rfl rfl rr) (wl_nil fun F249 hF250 => ?_)
     obtain ⟨s251, s252, s253, s254, s255, s256, s257, s258, s259, s260, s262⟩ := t11 hF250 0 s213 2 s214 3 s215 4 s216 6 s217 9 s218 18 s219 19 s220 48 s221 20 s222 5 s224
     have s264 : F249 7 = iv ((gOne l a s).2.1) := (hF250 7).trans rfl
     clear hF250
     refine then_normal (wq_seq (wq_seq ?_))
     have B265 : Rdx w238 T240 p l ((gOne l a s).2.2) R := B241
     by_cases d266 : ((gOne l a s).2.1) = 0
     ·skip
      refine wq_region (wl_mv rfl rfl rfl s264 (wl_v (.bool true) rfl rfl (y_eqlI rfl rfl rfl (decide_eq_true d266) rr) (wl_v (.bool true) rfl rfl (y_mov rfl rfl rr) (wl_unless 2 false 32 rfl rfl rfl (Or.inl rfl) rfl (wl_unless 2 false 32 rfl rfl rfl (Or.inl rfl) rfl (wl_unless 2 false 32 rfl rfl rfl (Or.inl rfl) rfl (wl_unless 2 false 32 rfl rfl rfl (Or.inl rfl) rfl (wl_v (.bool true) rfl rfl (y_pickT rfl rfl rfl rr) (wl_nil fun F267 hF268 => ?_)))))))))
      obtain ⟨s270, s277⟩ := t2 hF268 2 s252 48 s259
      have s283 : F267 37 = .bool true := (hF268 37).trans rfl
      clear hF268
      refine then_normal ?_
      refine wq_cond (t := true) s283 (fun _ => ?_) (fun e => by cases e)
      refine wq_goto (then_goto (in_goto (then_goto (then_goto (in_goto (then_goto ?_))))))
      refine jump_goto ⟨_, rfl, ?_⟩
      refine wq_seq (wq_skip (then_normal (wq_seq ?_)))
      first | have hR := g_none (l := l) (s := st) (Or.inl (by assumption)) | have hR := g_none (l := l) (s := st) (Or.inr (by omega)) | have hR := g_far (by omega) hI (by omega) | have hR := g_bad (by omega) hI (by omega) (by first | exact Or.inl (by assumption) | exact Or.inr (by assumption))
      refine wq_region (wl_v (blkV (fun _ => 0)) rfl rfl (y_buildR (cells := (arrL 16 (fun _ => 0)).toArray) rfl (by kernel_rfl) rfl rr) (wl_store_blk blkT_block rfl rfl rfl s270 rfl B243 fun w284 B285 k286 => ?_))
      have B287 := B265.all k286 ap247
      have K289 := K245.trans k286 (Grew.ok (S := T_r) gr7 noB_le)
      refine wl_v (iv 60) rfl rfl (y_asg rfl rfl rr) (wl_nil fun F290 hF291 => ?_)
      obtain ⟨s292, s293⟩ := t2 hF291 2 s270 48 s277
      have s294 : F290 3 = iv 60 := (hF291 3).trans rfl
      clear hF291
      refine then_normal (wq_ret (stay_ret ?_))
      exact end_2 s293 rfl (res_blk blkT_block rfl s292 B285) (res_tmp (v := iv 60) rfl s294) ⟨T240, (by rw [← (told_as hR).1, ← (told_as hR).2.1]), K289, ⟨(by rw [(told_as hR).2.2]; exact B287), gr246⟩⟩
     ·skip
      refine wq_region (wl_mv rfl rfl rfl s264 (wl_v (.bool false) rfl rfl (y_eqlI rfl rfl rfl (decide_eq_false d266) rr) (wl_v (.bool false) rfl rfl (y_mov rfl rfl rr) (wl_vw (iv ((gOne l a s).2.1)) 2 false 32 rfl rfl rfl rfl rfl (y_mov rfl s264 rr) (wl_vw (iv ((gOne l a s).2.1)) 2 false 32 rfl rfl rfl rfl rfl (y_mov rfl s264 rr) (wl_callw (R := fun v_ w_ => v_ = iv (cl 1048576 ((gOne l a s).2.1)) ∧ Kept (fun _ => False) w238 w_) 2 false 32 rfl rfl rfl rfl rfl (y_cs rfl rfl rfl (fun _ _ => by kernel_rfl) (ev_func _) (vsC rfl vsN) (scan_clamped ((gOne l a s).2.1)  _   ) (fun e_ w_ h_ => ⟨_, h_.1, rfl, h_.2⟩)) ?_))))))
      rintro _ w295 ⟨rfl, k296⟩
      have B297 := B265.all k296 Apart.none
      have B298 := B243.all k296 id
      have B299 := B244.all k296 id
      have K300 := K245.tr k296
      refine wl_vw (.bool (decide (((gOne l a s).2.1) ≠ (cl 1048576 ((gOne l a s).2.1))))) 2 false 32 rfl rfl rfl rfl rfl (y_neqI rfl rfl rfl rfl rr) (wl_v (.bool (decide (((gOne l a s).2.1) ≠ (cl 1048576 ((gOne l a s).2.1))))) rfl rfl (y_pickF rfl rfl rfl rr) (wl_nil fun F301 hF302 => ?_))
      obtain ⟨s303, s304, s305, s306, s307, s308, s309, s310, s311, s312, s314, s316⟩ := t12 hF302 0 s251 2 s252 3 s253 4 s254 6 s255 9 s256 18 s257 19 s258 48 s259 20 s260 5 s262 7 s264
      have s317 : F301 37 = .bool (decide (((gOne l a s).2.1) ≠ (cl 1048576 ((gOne l a s).2.1)))) := (hF302 37).trans rfl
      clear hF302
      refine then_normal ?_
      refine wq_cond s317 (fun c318 => ?_) (fun c318 => ?_)
      ·replace c318 := of_decide_eq_true c318
       refine wq_goto (then_goto (in_goto (then_goto (then_goto (in_goto (then_goto ?_))))))
       refine jump_goto ⟨_, rfl, ?_⟩
       refine wq_seq (wq_skip (then_normal (wq_seq ?_)))
       first | have hR := g_none (l := l) (s := st) (Or.inl (by assumption)) | have hR := g_none (l := l) (s := st) (Or.inr (by omega)) | have hR := g_far (by omega) hI (by omega) | have hR := g_bad (by omega) hI (by omega) (by first | exact Or.inl (by assumption) | exact Or.inr (by assumption))
       refine wq_region (wl_v (blkV (fun _ => 0)) rfl rfl (y_buildR (cells := (arrL 16 (fun _ => 0)).toArray) rfl (by kernel_rfl) rfl rr) (wl_store_blk blkT_block rfl rfl rfl s304 rfl B298 fun w319 B320 k321 => ?_))
       have B322 := B297.all k321 ap247
       have K324 := K300.trans k321 (Grew.ok (S := T_r) gr7 noB_le)
       refine wl_v (iv 60) rfl rfl (y_asg rfl rfl rr) (wl_nil fun F325 hF326 => ?_)
       obtain ⟨s327, s328⟩ := t2 hF326 2 s304 48 s311
       have s329 : F325 3 = iv 60 := (hF326 3).trans rfl
       clear hF326
       refine then_normal (wq_ret (stay_ret ?_))
       exact end_2 s328 rfl (res_blk blkT_block rfl s327 B320) (res_tmp (v := iv 60) rfl s329) ⟨T240, (by rw [← (told_as hR).1, ← (told_as hR).2.1]), K324, ⟨(by rw [(told_as hR).2.2]; exact B322), gr246⟩⟩
      ·replace c318 := of_decide_eq_false c318
       refine wq_skip (then_normal (wq_seq ?_))
       have hN : ¬ ((gOne l a s).2.1 = 0 ∨ (gOne l a s).2.1 ≠ cl 1048576 (gOne l a s).2.1) := by rintro (h | h); exact absurd h (by assumption); exact absurd h (by assumption)
       have ho := ord_lt (gOne l a s).1 (by omega)
       refine wq_region (wl_mv rfl rfl rfl s314 (wl_v (.pointer (some ⟨2, (gOne l a s).1, none⟩)) rfl rfl (y_atR ((gOne l a s).1) (s := 1) rfl rfl rfl (by omega) Tryz.underlying68 (by omega) (by kernel_rfl) (by omega) rr) (wl_v (iv ((ord (gOne l a s).1 : Nat) : Int)) rfl rfl (y_ldR rfl rfl Tryz.underlying3 ((hO.but K300 hG).cell (by omega)) rr) (wl_mv rfl rfl rfl s316 (wl_v (.pointer (some ⟨p24, ord (gOne l a s).1, none⟩)) rfl rfl (y_atR (ord (gOne l a s).1) (s := 1) rfl s306 rfl (by omega) Tryz.underlying69 (by omega) (by kernel_rfl) (by omega) rr) (wl_set_blk rfl rfl rfl rfl rfl B299 (by omega) (by kernel_rfl) fun w330 B331 k332 => ?_))))))
       have B333 := B297.all k332 ap248
       have B334 := B298.all k332 (ap32.symm p1 rfl)
       have K335 := K300.trans k332 (Grew.ok (S := T_r) gr30 noB_le)
       refine wl_nil fun F336 hF337 => ?_
       obtain ⟨s338, s339, s340, s341, s342, s343, s344, s345, s346, s347, s348⟩ := t11 hF337 0 s303 2 s304 3 s305 4 s306 6 s307 9 s308 18 s309 19 s310 48 s311 20 s312 5 s314
       clear hF337
       refine then_normal (wq_region (wl_mv rfl rfl rfl s348 (wl_v (iv ((((gOne l a s).1) + 1 : Nat) : Int)) rfl rfl (y_add rfl rfl rfl (i64_n (by omega) (by omega)) rr) (wl_v (iv ((((gOne l a s).1) + 1 : Nat) : Int)) rfl rfl (y_asg rfl rfl rr) (wl_nil fun F351 hF352 => ?_)))))
       obtain ⟨s353, s354, s355, s356, s357, s358, s359, s360, s361, s362⟩ := t10 hF352 0 s338 2 s339 3 s340 4 s341 6 s342 9 s343 18 s344 19 s345 48 s346 20 s347
       have s365 : F351 5 = iv ((((gOne l a s).1) + 1 : Nat) : Int) := (hF352 5).trans rfl
       clear hF352
       refine in_normal (then_normal (wq_region (wl_v (iv ((i + 1 : Nat) : Int)) rfl rfl (y_add rfl s362 rfl (i64_n (by omega) (by omega)) rr) (wl_v (iv ((i + 1 : Nat) : Int)) rfl rfl (y_mov rfl rfl rr) (wl_nil fun F366 hF367 => ?_)))))
       obtain ⟨s368, s369, s370, s371, s372, s373, s374, s375, s376, s379⟩ := t10 hF367 0 s353 2 s354 3 s355 4 s356 6 s357 9 s358 18 s359 19 s360 48 s361 5 s365
       have s380 : F366 20 = iv ((i + 1 : Nat) : Int) := (hF367 20).trans rfl
       clear hF367
       exact then_normal ⟨(M - (i + 1)), by omega, i + 1, (gOne l a s).1 + 1, (upd b (ord (gOne l a s).1) (gOne l a s).2.1), (gOne l a s).2.2, T240, by omega, by omega, (g_ok (by omega) hI (by omega) hN), rfl, s368, s369, s370, s371, s372, s373, s374, s375, s376, s379, s380, K335, B333, B334, B331, gr246, ap247, ap248⟩
   ·replace c184 := of_decide_eq_false c184
    refine wq_exit (then_exit (then_exit (in_here (then_normal (wq_seq (wq_seq ?_))))))
    have hR := g_done (by omega) hI
    refine wq_region (wl_v (blkV b) rfl rfl (y_load_blk blkT_block rfl s175 B166 rr) (wl_store_blk blkT_block rfl rfl rfl s173 rfl B165 fun w381 B382 k383 => ?_))
    have B384 := B164.all k383 ap168
    have K386 := K149.trans k383 (Grew.ok (S := T_r) gr7 noB_le)
    refine wl_v (iv 0) rfl rfl (y_asg rfl rfl rr) (wl_nil fun F387 hF388 => ?_)
    obtain ⟨s389, s390⟩ := t2 hF388 2 s173 48 s180
    have s391 : F387 3 = iv 0 := (hF388 3).trans rfl
    clear hF388
    refine then_normal (wq_ret (then_ret (jump_ret ?_)))
    exact end_2 s390 rfl (res_blk blkT_block rfl s389 B382) (res_tmp (v := iv 0) rfl s391) ⟨T146, (by rw [← (told_as hR).1, ← (told_as hR).2.1]), K386, ⟨(by rw [(told_as hR).2.2]; exact B384), gr167⟩⟩
end Go.Proofs.YtknjpdcpmpfklaaGreatDoor
