/- What PictureTells reaches of my texts, part 5. -/
import Derived.Test.YtknjpdcpmpfklaaGreatDoorPictureTellsD
set_option maxRecDepth 100000
set_option maxHeartbeats 4000000
set_option maxRecDepth 100000
namespace Go.Proofs.YtknjpdcpmpfklaaGreatDoor
open Go.RowKit
theorem retB {a b : Bool} (h : a = b) : Ending.returned (.bool a) = .returned (.bool b) := by rw [h]
def Ask1 (w : World) (n : Nat) (v : Value) (g : Nat → Int) : Prop :=
  ∃ (f : FuncId) (cs : List Value), v = .func (.func f) #[] cs.toArray ∧ (∀ args w, (callFunc f args).run Tryz.prog w = .ok (.enter f args) w) ∧
    ∀ w', Kept (fun _ => False) w w' → ∀ k : Nat, k < n → Calls Tryz.prog f (.int .i64 (k : Int) :: cs).toArray w' fun e w'' => e = .returned (.int .i64 (g k)) ∧ Kept (fun _ => False) w' w''
theorem Ask1.all {w w' : World} {n : Nat} {v : Value} {g : Nat → Int} (h : Ask1 w n v g) (k : Kept (fun _ => False) w w') : Ask1 w' n v g := by
  obtain ⟨f, cs, e, hf, h⟩ := h
  exact ⟨f, cs, e, hf, fun w2 k2 => h w2 (k.trans k2 (fun _ _ x => x))⟩
def Ask2 (w : World) (n : Nat) (v : Value) (g : Nat → Nat → Int) : Prop :=
  ∃ (f : FuncId) (cs : List Value), v = .func (.func f) #[] cs.toArray ∧ (∀ args w, (callFunc f args).run Tryz.prog w = .ok (.enter f args) w) ∧
    ∀ w', Kept (fun _ => False) w w' → ∀ i k : Nat, i < n → k < n → Calls Tryz.prog f (.int .i64 (i : Int) :: .int .i64 (k : Int) :: cs).toArray w' fun e w'' => e = .returned (.int .i64 (g i k)) ∧ Kept (fun _ => False) w' w''
theorem Ask2.all {w w' : World} {n : Nat} {v : Value} {g : Nat → Nat → Int} (h : Ask2 w n v g) (k : Kept (fun _ => False) w w') : Ask2 w' n v g := by
  obtain ⟨f, cs, e, hf, h⟩ := h
  exact ⟨f, cs, e, hf, fun w2 k2 => h w2 (k.trans k2 (fun _ _ x => x))⟩
def Pd.ask2 (n : Nat) (g : Nat → Nat → Int) : Pd := ⟨fun v w => Ask2 w n v g, fun _ _ _ h k => h.all k⟩
section
variable {ρ : Operand → Value} {o : Oper} {w : World} {R : Value → World → Prop}
theorem y_fnc {P : Program} {f : FuncId} {xs : List Operand} {vs : List Value} (ho : o.op = .makeFunc (.func f) #[] xs.toArray) (hx : xs.map ρ = vs) (h : R (.func (.func f) #[] vs.toArray) w) : Yields P ρ o w R := by
  subst hx
  exact y_of (v := .func (.func f) #[] (xs.map ρ).toArray) (w' := w) (by simp [execOp, ho, show ∀ cap, (Instr.makeFunc (.func f) #[] cap).run P w = .ok (.func (.func f) #[] cap) w from fun _ => rfl]) h
theorem y_ask1 {c : Call} {cx x : Operand} {v : Value} {n k : Nat} {g : Nat → Int} (ho : o.op = .call c) (hc : c.callee = .value cx) (hcx : ρ cx = v) (hx : c.args = #[x]) (hv : ρ x = .int .i64 (k : Int)) (ha : Ask1 w n v g) (hk : k < n)
    (hS : ∀ (e : Ending) w', (e = .returned (.int .i64 (g k)) ∧ Kept (fun _ => False) w w') → ∃ v, e = .returned v ∧ R v w') : Yields Tryz.prog ρ o w R := by
  obtain ⟨f, cs, rfl, hf, h⟩ := ha
  obtain ⟨cl, ag, ts⟩ := c
  simp only at hc hx
  subst hc; subst hx
  unfold Yields
  have e : (execOp ρ o).run Tryz.prog w = .ok (.enter f (.int .i64 (k : Int) :: cs).toArray) w := by simp [execOp, ho, resolve, hcx, hv, Deferred.ofValue, invoke, hf]
  rw [e]
  exact (h w (Kept.refl _ _) k hk).mono hS
theorem y_ask2 {c : Call} {cx x y : Operand} {v : Value} {n i k : Nat} {g : Nat → Nat → Int} (ho : o.op = .call c) (hc : c.callee = .value cx) (hcx : ρ cx = v) (hx : c.args = #[x, y]) (hv : ρ x = .int .i64 (i : Int)) (hv2 : ρ y = .int .i64 (k : Int)) (ha : Ask2 w n v g) (hi : i < n) (hk : k < n)
    (hS : ∀ (e : Ending) w', (e = .returned (.int .i64 (g i k)) ∧ Kept (fun _ => False) w w') → ∃ v, e = .returned v ∧ R v w') : Yields Tryz.prog ρ o w R := by
  obtain ⟨f, cs, rfl, hf, h⟩ := ha
  obtain ⟨cl, ag, ts⟩ := c
  simp only at hc hx
  subst hc; subst hx
  unfold Yields
  have e : (execOp ρ o).run Tryz.prog w = .ok (.enter f (.int .i64 (i : Int) :: .int .i64 (k : Int) :: cs).toArray) w := by simp [execOp, ho, resolve, hcx, hv, hv2, Deferred.ofValue, invoke, hf]
  rw [e]
  exact (h w (Kept.refl _ _) i k hi hk).mono hS
theorem y_lookA {t : TypeId} {x y : Operand} {k : IntKind} {n : Nat} (j : Nat) {a : Nat → Int} {r : Int} (ht : ArrT t n) (ho : o.op = .index t x y) (hx : ρ x = .agg (arrL n a).toArray) (hy : ρ y = .int k (j : Int)) (hj : j < n) (hr : a j = r) (h : R (.int .i64 r) w) : Yields Tryz.prog ρ o w R := by
  subst hr
  have h1 : (arrL n a).toArray[j]? = some (.int .i64 (a j)) := by rw [List.getElem?_toArray]; exact arrL_at hj
  cases hq : Tryz.prog.info? 3 with
  | none => have := Tryz.size_int; simp [hq] at this
  | some i =>
    have hs' : i.size = 1 := by have := Tryz.size_int; simpa [hq] using this
    have hp : (part 3 (arrL n a).toArray j).run Tryz.prog w = .ok (.int .i64 (a j)) w := by simp [part, isAgg, run_underlying Tryz.underlying3, h1]
    have h2 : (j : Int) < (n : Int) := by omega
    exact y_of (v := .int .i64 (a j)) (w' := w) (by simp [execOp, ho, hx, hy, Instr.index, run_underlying ht.1, asIntOf, sizeOf, typeInfo, hq, hs', hj, hp]) h
theorem end_arr {N n : Nat} {F : Nat → Value} {fn : Func} {p : Tmp} {ty t : TypeId} {q : Nat} {b : Nat → Int} {R : Ending → World → Prop} (hT : ArrT ty n) (hm : F N = undef) (ht : Nat.blt p N = true) (h : fn.results = #[.cell p ty]) (hp : F p = .pointer (some ⟨q, 0, none⟩)) (hB : Arr w q t n b) (hR : R (.returned (.agg (arrL n b).toArray)) w) : endP Tryz.prog fn N R .ret F w :=
  ⟨hm, fun a ha => ⟨_, results_cell h _ _ q (by rw [ha.at' p ht]; exact hp) _ t (0, 0) _ hB hT.1 rfl (hT.size b), hR⟩⟩
def Pd.cel (n : Nat) (t : TypeId) (v : Value) : Pd := ⟨fun u w => ∃ p, u = .pointer (some ⟨p, 0, none⟩) ∧ n ≤ p ∧ Cel w p t v, fun _ _ _ ⟨p, e, hn, h⟩ k => ⟨p, e, hn, h.all k id⟩⟩
theorem y_alloc_cel {P : Program} {t : TypeId} {v : Value} (ho : o.op = .alloc t) (hi : (P.info? t).map (fun i => (i.zero, i.size)) = some (some v, 1)) (hv : oneC v = true) (h : R (.pointer (some ⟨w.heap.size, 0, none⟩)) (w.alloc (.cells #[v] t))) : Yields P ρ o w R :=
  y_of (v := .pointer (some ⟨w.heap.size, 0, none⟩)) (w' := w.alloc (.cells #[v] t)) (by simp [execOp, ho, (zero_of_info hi).1, go_sem]; cases v <;> first | rfl | (simp [oneC] at hv; done)) h
end
end Go.Proofs.YtknjpdcpmpfklaaGreatDoor
set_option maxRecDepth 100000
namespace Go.Proofs.YtknjpdcpmpfklaaGreatDoor
open Go.RowKit
theorem arrT_edge : ArrT 172 4 := ArrT.of Tryz.underlying172 (by kernel_rfl)
theorem stcT_fn4 : StcT Tryz.prog 169 4 := ⟨_, Tryz.underlying169, rfl, by kernel_rfl⟩
theorem Arr.first {w : World} {p n : Nat} {t : TypeId} {b c : Nat → Int} (h : Arr w p t n b) : Arr w p t n (upto 0 b c) := by rw [upto_zero]; exact h
theorem Arr.next {w : World} {p n : Nat} {t : TypeId} {b c : Nat → Int} {k : Nat} {x : Int} (h : Arr w p t n (upd (upto k b c) k x)) (e : x = c k) : Arr w p t n (upto (k + 1) b c) := by rw [← upto_set, ← e]; exact h
theorem upd_twice (b : Nat → Int) (k : Nat) (x y : Int) : upd (upd b k x) k y = upd b k y := by funext i; unfold upd; split <;> rfl
theorem Arr.next2 {w : World} {p n : Nat} {t : TypeId} {b c : Nat → Int} {k : Nat} {x y : Int} (h : Arr w p t n (upd (upd (upto k b c) k x) k y)) (e : y = c k) : Arr w p t n (upto (k + 1) b c) := by rw [upd_twice] at h; exact h.next e
theorem Arr.last {w : World} {p n : Nat} {t : TypeId} {b c : Nat → Int} (h : Arr w p t n (upto n b c)) : Arr w p t n c := h.congr (fun i hi => by simp [upto, hi])
theorem is_place (n : Int) (w0 : World) :
  Calls Tryz.prog 139 #[.int .i64 (n)] w0 fun e w' => e = .returned (.bool (decide (0 ≤ n ∧ n ≤ 64))) ∧ Kept (fun _ => False) w0 w' := by
 refine calls_wq (args := [iv n]) 9 Tryz.func139 rfl rfl (Nat.le_of_ble_eq_true rfl) ?_
 have K0 := Kept.refl (fun _ => False) w0
 refine wq_seq (wq_region (wl_v (.bool false) rfl rfl (y_asg rfl rfl rr) (wl_nil fun F1 hF2 => ?_)))
 have s3 : F1 0 = iv n := (hF2 0).trans rfl
 have s4 : F1 9 = undef := (hF2 9).trans rfl
 clear hF2
 refine then_normal (wq_seq ?_)
 by_cases d5 : 0 ≤ n
 ·skip
  refine wq_region (wl_mv rfl rfl rfl s3 (wl_v (.bool true) rfl rfl (y_geq rfl rfl rfl (decide_eq_true d5) rr) (wl_v (.bool true) rfl rfl (y_mov rfl rfl rr) (wl_vw (iv n) 2 true 5 rfl rfl rfl rfl rfl (y_mov rfl s3 rr) (wl_vw (.bool (decide (n ≤ 64))) 2 true 5 rfl rfl rfl rfl rfl (y_leq rfl rfl rfl rfl rr) (wl_v (.bool (decide (n ≤ 64))) rfl rfl (y_pickT rfl rfl rfl rr) (wl_v (.bool (decide (n ≤ 64))) rfl rfl (y_asg rfl rfl rr) (wl_nil fun F6 hF7 => ?_))))))))
  have s8 := (hF7 9).trans s4
  have s9 : F6 2 = .bool (decide (n ≤ 64)) := (hF7 2).trans rfl
  clear hF7
  refine then_normal (wq_ret ?_)
  exact end_tmp (v := .bool (decide (n ≤ 64))) s8 rfl rfl s9 ⟨(retB (by first | exact (decide_eq_true (by omega)).symm | exact (decide_eq_false (by omega)).symm | exact decide_eq_decide.2 (by omega))), K0⟩
 ·skip
  refine wq_region (wl_mv rfl rfl rfl s3 (wl_v (.bool false) rfl rfl (y_geq rfl rfl rfl (decide_eq_false d5) rr) (wl_v (.bool false) rfl rfl (y_mov rfl rfl rr) (wl_unless 2 true 5 rfl rfl rfl (Or.inl rfl) rfl (wl_unless 2 true 5 rfl rfl rfl (Or.inl rfl) rfl (wl_v (.bool false) rfl rfl (y_pickF rfl rfl rfl rr) (wl_v (.bool false) rfl rfl (y_asg rfl rfl rr) (wl_nil fun F10 hF11 => ?_))))))))
  have s12 := (hF11 9).trans s4
  have s13 : F10 2 = .bool false := (hF11 2).trans rfl
  clear hF11
  refine then_normal (wq_ret ?_)
  exact end_tmp (v := .bool false) s12 rfl rfl s13 ⟨(retB (by first | exact (decide_eq_true (by omega)).symm | exact (decide_eq_false (by omega)).symm | exact decide_eq_decide.2 (by omega))), K0⟩
theorem is_above1 (p x y : Int) (k : Nat) (f : FD) (f0 f1 f2 : Value) (b1 : Nat) (b2 : Nat) (b3 : Nat) (b4 : Nat) (T_f0 : Nat → Prop) (T_f1 : Nat → Prop) (T_f2 : Nat → Prop) (w0 : World) (hx : 0 ≤ x ∧ x ≤ 64) (hy : 0 ≤ y ∧ y ≤ 64) (hk : k < 4) (h_f0 : Byt w0 T_f0 f0 ((f).p0)) (h_f1 : Byt w0 T_f1 f1 ((f).p1)) (h_f2 : Byt w0 T_f2 f2 ((f).p2)) (h_b1 : Stc w0 b1 29 [.int .i64 ((f).W), .int .i64 ((f).H), f0, f1, f2]) (h_b2 : Cel w0 b2 3 (.int .i64 (p))) (h_b3 : Cel w0 b3 3 (.int .i64 (x))) (h_b4 : Cel w0 b4 3 (.int .i64 (y))) :
  Calls Tryz.prog 164 #[.int .i64 (((k : Nat) : Int)), .pointer (some ⟨b1, 0, none⟩), .pointer (some ⟨b2, 0, none⟩), .pointer (some ⟨b3, 0, none⟩), .pointer (some ⟨b4, 0, none⟩)] w0 fun e w' => e = .returned (.int .i64 (atF f p (x + (k : Int)) (y - 1))) ∧ Kept (fun _ => False) w0 w' := by
 refine calls_wq (args := [iv ((k : Nat) : Int), pt b1 0, pt b2 0, pt b3 0, pt b4 0]) 15 Tryz.func164 rfl rfl (Nat.le_of_ble_eq_true rfl) ?_
 have K0 := Kept.refl (fun _ => False) w0
 have g_f0 := Grew.refl w0 T_f0
 have g_f1 := Grew.refl w0 T_f1
 have g_f2 := Grew.refl w0 T_f2
 refine wq_seq (wq_region (wl_v (iv 0) rfl rfl (y_asg rfl rfl rr) (wl_nil fun F1 hF2 => ?_)))
 have s3 : F1 0 = iv ((k : Nat) : Int) := (hF2 0).trans rfl
 have s4 : F1 1 = pt b1 0 := (hF2 1).trans rfl
 have s5 : F1 2 = pt b2 0 := (hF2 2).trans rfl
 have s6 : F1 3 = pt b3 0 := (hF2 3).trans rfl
 have s7 : F1 4 = pt b4 0 := (hF2 4).trans rfl
 have s8 : F1 15 = undef := (hF2 15).trans rfl
 clear hF2
 refine then_normal (wq_seq (wq_region (wl_v (.agg #[iv (f.W), iv (f.H), f0, f1, f2]) rfl rfl (y_load_stc stcT_frame rfl s4 h_b1 rr) (wl_v (iv p) rfl rfl (y_load_cel rfl s5 Tryz.underlying3 h_b2 rfl rr) (wl_v (iv x) rfl rfl (y_load_cel rfl s6 Tryz.underlying3 h_b3 rfl rr) (wl_mv rfl rfl rfl s3 (wl_v (iv (x + ((k : Nat) : Int))) rfl rfl (y_add rfl rfl rfl (i64_i rfl (by omega)) rr) (wl_v (iv y) rfl rfl (y_load_cel rfl s7 Tryz.underlying3 h_b4 rfl rr) (wl_v (iv (y - 1)) rfl rfl (y_sub rfl rfl rfl (i64_i rfl (by omega)) rr) (wl_cs rfl rfl rfl rfl rfl (fun _ _ => by kernel_rfl) (vsC rfl (vsC rfl (vsC rfl (vsC rfl vsN)))) (pl_at p (x + ((k : Nat) : Int)) (y - 1) f f0 f1 f2 T_f0 T_f1 T_f2 _  h_f0 h_f1 h_f2 ) fun w9 k10 => ?_))))))))))
 have K18 := K0.tr k10
 refine wl_v (iv (atF f p (x + ((k : Nat) : Int)) (y - 1))) rfl rfl (y_asg rfl rfl rr) (wl_nil fun F19 hF20 => ?_)
 have s21 := (hF20 15).trans s8
 have s22 : F19 6 = iv (atF f p (x + ((k : Nat) : Int)) (y - 1)) := (hF20 6).trans rfl
 clear hF20
 refine then_normal (wq_ret ?_)
 exact end_tmp (v := iv (atF f p (x + ((k : Nat) : Int)) (y - 1))) s21 rfl rfl s22 ⟨rfl, K18⟩
theorem is_left1 (p x y : Int) (k : Nat) (f : FD) (f0 f1 f2 : Value) (b1 : Nat) (b2 : Nat) (b3 : Nat) (b4 : Nat) (T_f0 : Nat → Prop) (T_f1 : Nat → Prop) (T_f2 : Nat → Prop) (w0 : World) (hx : 0 ≤ x ∧ x ≤ 64) (hy : 0 ≤ y ∧ y ≤ 64) (hk : k < 4) (h_f0 : Byt w0 T_f0 f0 ((f).p0)) (h_f1 : Byt w0 T_f1 f1 ((f).p1)) (h_f2 : Byt w0 T_f2 f2 ((f).p2)) (h_b1 : Stc w0 b1 29 [.int .i64 ((f).W), .int .i64 ((f).H), f0, f1, f2]) (h_b2 : Cel w0 b2 3 (.int .i64 (p))) (h_b3 : Cel w0 b3 3 (.int .i64 (x))) (h_b4 : Cel w0 b4 3 (.int .i64 (y))) :
  Calls Tryz.prog 165 #[.int .i64 (((k : Nat) : Int)), .pointer (some ⟨b1, 0, none⟩), .pointer (some ⟨b2, 0, none⟩), .pointer (some ⟨b3, 0, none⟩), .pointer (some ⟨b4, 0, none⟩)] w0 fun e w' => e = .returned (.int .i64 (atF f p (x - 1) (y + (k : Int)))) ∧ Kept (fun _ => False) w0 w' := by
 refine calls_wq (args := [iv ((k : Nat) : Int), pt b1 0, pt b2 0, pt b3 0, pt b4 0]) 15 Tryz.func165 rfl rfl (Nat.le_of_ble_eq_true rfl) ?_
 have K0 := Kept.refl (fun _ => False) w0
 have g_f0 := Grew.refl w0 T_f0
 have g_f1 := Grew.refl w0 T_f1
 have g_f2 := Grew.refl w0 T_f2
 refine wq_seq (wq_region (wl_v (iv 0) rfl rfl (y_asg rfl rfl rr) (wl_nil fun F1 hF2 => ?_)))
 have s3 : F1 0 = iv ((k : Nat) : Int) := (hF2 0).trans rfl
 have s4 : F1 1 = pt b1 0 := (hF2 1).trans rfl
 have s5 : F1 2 = pt b2 0 := (hF2 2).trans rfl
 have s6 : F1 3 = pt b3 0 := (hF2 3).trans rfl
 have s7 : F1 4 = pt b4 0 := (hF2 4).trans rfl
 have s8 : F1 15 = undef := (hF2 15).trans rfl
 clear hF2
 refine then_normal (wq_seq (wq_region (wl_v (.agg #[iv (f.W), iv (f.H), f0, f1, f2]) rfl rfl (y_load_stc stcT_frame rfl s4 h_b1 rr) (wl_v (iv p) rfl rfl (y_load_cel rfl s5 Tryz.underlying3 h_b2 rfl rr) (wl_v (iv x) rfl rfl (y_load_cel rfl s6 Tryz.underlying3 h_b3 rfl rr) (wl_v (iv (x - 1)) rfl rfl (y_sub rfl rfl rfl (i64_i rfl (by omega)) rr) (wl_v (iv y) rfl rfl (y_load_cel rfl s7 Tryz.underlying3 h_b4 rfl rr) (wl_mv rfl rfl rfl s3 (wl_v (iv (y + ((k : Nat) : Int))) rfl rfl (y_add rfl rfl rfl (i64_i rfl (by omega)) rr) (wl_cs rfl rfl rfl rfl rfl (fun _ _ => by kernel_rfl) (vsC rfl (vsC rfl (vsC rfl (vsC rfl vsN)))) (pl_at p (x - 1) (y + ((k : Nat) : Int)) f f0 f1 f2 T_f0 T_f1 T_f2 _  h_f0 h_f1 h_f2 ) fun w9 k10 => ?_))))))))))
 have K18 := K0.tr k10
 refine wl_v (iv (atF f p (x - 1) (y + ((k : Nat) : Int)))) rfl rfl (y_asg rfl rfl rr) (wl_nil fun F19 hF20 => ?_)
 have s21 := (hF20 15).trans s8
 have s22 : F19 6 = iv (atF f p (x - 1) (y + ((k : Nat) : Int))) := (hF20 6).trans rfl
 clear hF20
 refine then_normal (wq_ret ?_)
 exact end_tmp (v := iv (atF f p (x - 1) (y + ((k : Nat) : Int)))) s21 rfl rfl s22 ⟨rfl, K18⟩
def edgeOf (ahead : Int) (g : Nat → Int) : Nat → Int := fun i => if ahead > 0 then g i else 128
theorem edge_yes {a : Int} {g : Nat → Int} {k : Nat} (h : a > 0) : g k = edgeOf a g k := (if_pos h).symm
theorem edge_no {a : Int} {g : Nat → Int} {k : Nat} (h : ¬ a > 0) : 128 = edgeOf a g k := (if_neg h).symm
theorem is_along (ahead : Int) (fv : Value) (g : Nat → Int) (w0 : World) (hg : Ask1 w0 4 fv g) :
  Calls Tryz.prog 163 #[.int .i64 (ahead), fv] w0 fun e w' => e = .returned (.agg (arrL 4 (edgeOf ahead g)).toArray) ∧ Kept (fun _ => False) w0 w' := by
 refine calls_wq (args := [iv ahead, fv]) 21 Tryz.func163 rfl rfl (Nat.le_of_ble_eq_true rfl) ?_
 have K0 := Kept.refl (fun _ => False) w0
 refine wq_seq (wq_region (wl_alloc_arr rfl rfl rfl arrT_edge.2.2 fun p1 w2 e5 B3 k4 => ?_))
 have g6 := onB_new (Nat.le_of_eq e5.symm)
 have gr7 : Grew w0 noB (onB p1) := Grew.new K0 g6
 clear e5 g6
 have K8 := K0.tr k4
 refine wl_nil fun F9 hF10 => ?_
 have s11 : F9 0 = iv ahead := (hF10 0).trans rfl
 have s12 : F9 1 = fv := (hF10 1).trans rfl
 have s13 : F9 21 = undef := (hF10 21).trans rfl
 have s14 : F9 4 = pt p1 0 := (hF10 4).trans rfl
 clear hF10
 refine then_normal (wq_seq (wq_region (wl_alloc_arr rfl rfl rfl arrT_edge.2.2 fun p15 w16 e19 B17 k18 => ?_)))
 have g20 := onB_new (Nat.le_of_eq e19.symm)
 have gr21 : Grew w0 noB (onB p15) := Grew.new K8 g20
 have ap22 : Apart (onB p15) (onB p1) := Apart.new g20 (onB_live B3.lt)
 clear e19 g20
 have B23 := B3.all k18 id
 have K24 := K8.tr k18
 refine wl_nil fun F25 hF26 => ?_
 obtain ⟨s27, s28, s29, s30⟩ := t4 hF26 0 s11 1 s12 21 s13 4 s14
 have s31 : F25 5 = pt p15 0 := (hF26 5).trans rfl
 clear hF26
 refine then_normal (wq_seq (wq_seq (wq_region (wl_v (iv 0) rfl rfl (y_mov rfl rfl rr) (wl_nil fun F32 hF33 => ?_)))))
 obtain ⟨s34, s35, s36, s37, s38⟩ := t5 hF33 0 s27 1 s28 21 s29 4 s30 5 s31
 have s39 : F32 7 = iv 0 := (hF33 7).trans rfl
 clear hF33
 refine then_normal (wq_block (wq_loop (fun nn FF ww => ∃ (k : Nat), (k ≤ 4) ∧ nn = 4 - k ∧ FF 0 = iv ahead ∧ FF 1 = fv ∧ FF 4 = pt p1 0 ∧ FF 5 = pt p15 0 ∧ FF 21 = undef ∧ FF 7 = iv ((k : Nat) : Int) ∧ Kept (fun _ => False) w0 ww ∧ Arr ww p1 172 4 (fun _ => 0) ∧ Arr ww p15 172 4 (upto k (fun _ => 0) (edgeOf ahead g))) (4 - 0) ⟨0, by omega, rfl, s34, s35, s37, s38, s36, s39, K24, B23, B17.first⟩ ?_))
 rintro n43 F40 w41 ⟨k, i44, hn43, s45, s46, s47, s48, s49, s50, K42, B51, B52⟩
 refine wq_seq (wq_region (wl_v (.bool (decide (((k : Nat) : Int) < 4))) rfl rfl (y_lss rfl s50 rfl rfl rr) (wl_nil fun F53 hF54 => ?_)))
 obtain ⟨s55, s56, s57, s58, s59, s60⟩ := t6 hF54 0 s45 1 s46 4 s47 5 s48 21 s49 7 s50
 have s61 : F53 8 = .bool (decide (((k : Nat) : Int) < 4)) := (hF54 8).trans rfl
 clear hF54
 refine then_normal (wq_seq ?_)
 refine wq_cond s61 (fun c62 => ?_) (fun c62 => ?_)
 ·replace c62 := of_decide_eq_true c62
  refine wq_skip (then_normal (wq_seq (wq_block (wq_seq (wq_region (wl_mv rfl rfl rfl s60 (wl_v (iv ((k : Nat) : Int)) rfl rfl (y_asg rfl rfl rr) (wl_nil fun F63 hF64 => ?_))))))))
  obtain ⟨s65, s66, s67, s68, s69, s70⟩ := t6 hF64 0 s55 1 s56 4 s57 5 s58 21 s59 7 s60
  have s71 : F63 6 = iv ((k : Nat) : Int) := (hF64 6).trans rfl
  clear hF64
  refine then_normal (wq_seq (wq_region (wl_mv rfl rfl rfl s71 (wl_v (.pointer (some ⟨p15, k, none⟩)) rfl rfl (y_atR k (s := 1) rfl s68 rfl (by omega) Tryz.underlying172 (by omega) (by kernel_rfl) (by omega) rr) (wl_set_arr rfl rfl rfl rfl rfl B52 (by omega) (by kernel_rfl) fun w72 B73 k74 => ?_)))))
  have B75 := B51.all k74 (ap22.symm p1 rfl)
  have K76 := K42.trans k74 (Grew.ok (S := fun _ => False) gr21 noB_le)
  refine wl_nil fun F77 hF78 => ?_
  obtain ⟨s79, s80, s81, s82, s83, s84, s85⟩ := t7 hF78 0 s65 1 s66 4 s67 5 s68 21 s69 7 s70 6 s71
  clear hF78
  refine then_normal (wq_seq (wq_region (wl_mv rfl rfl rfl s79 (wl_v (.bool (decide (0 < ahead))) rfl rfl (y_gtr rfl rfl rfl rfl rr) (wl_nil fun F86 hF87 => ?_)))))
  obtain ⟨s88, s89, s90, s91, s92, s93, s94⟩ := t7 hF87 0 s79 1 s80 4 s81 5 s82 21 s83 7 s84 6 s85
  have s95 : F86 13 = .bool (decide (0 < ahead)) := (hF87 13).trans rfl
  clear hF87
  refine then_normal ?_
  refine wq_cond s95 (fun c96 => ?_) (fun c96 => ?_)
  ·replace c96 := of_decide_eq_true c96
   refine wq_region (wl_mv rfl rfl rfl s94 (wl_mv rfl rfl rfl s89 (wl_mv rfl rfl rfl s94 (wl_call (R := fun v_ w_ => v_ = iv (g k) ∧ Kept (fun _ => False) w72 w_) rfl rfl (y_ask1 rfl rfl rfl rfl rfl (hg.all K76) (by omega) (fun e_ w_ h_ => ⟨_, h_.1, rfl, h_.2⟩)) ?_))))
   rintro _ w97 ⟨rfl, k98⟩
   have B99 := B75.all k98 id
   have B100 := B73.all k98 id
   have K101 := K76.tr k98
   refine wl_v (.pointer (some ⟨p15, k, none⟩)) rfl rfl (y_atR k (s := 1) rfl s91 rfl (by omega) Tryz.underlying172 (by omega) (by kernel_rfl) (by omega) rr) (wl_set_arr rfl rfl rfl rfl rfl B100 (by omega) (by kernel_rfl) fun w102 B103 k104 => ?_)
   have B105 := B99.all k104 (ap22.symm p1 rfl)
   have K106 := K101.trans k104 (Grew.ok (S := fun _ => False) gr21 noB_le)
   refine wl_nil fun F107 hF108 => ?_
   obtain ⟨s109, s110, s111, s112, s113, s114⟩ := t6 hF108 0 s88 1 s89 4 s90 5 s91 21 s92 7 s93
   clear hF108
   refine in_normal (then_normal (wq_region (wl_v (iv ((k + 1 : Nat) : Int)) rfl rfl (y_add rfl s114 rfl (i64_n (by omega) (by omega)) rr) (wl_v (iv ((k + 1 : Nat) : Int)) rfl rfl (y_mov rfl rfl rr) (wl_nil fun F115 hF116 => ?_)))))
   obtain ⟨s117, s118, s119, s120, s121⟩ := t5 hF116 0 s109 1 s110 4 s111 5 s112 21 s113
   have s122 : F115 7 = iv ((k + 1 : Nat) : Int) := (hF116 7).trans rfl
   clear hF116
   exact then_normal ⟨(4 - (k + 1)), by omega, k + 1, by omega, rfl, s117, s118, s119, s120, s121, s122, K106, B105, (by first | exact B103.next2 (edge_yes (by omega)) | exact B103.next (edge_no (by omega)))⟩
  ·replace c96 := of_decide_eq_false c96
   refine wq_skip (in_normal (then_normal (wq_region (wl_v (iv ((k + 1 : Nat) : Int)) rfl rfl (y_add rfl s93 rfl (i64_n (by omega) (by omega)) rr) (wl_v (iv ((k + 1 : Nat) : Int)) rfl rfl (y_mov rfl rfl rr) (wl_nil fun F123 hF124 => ?_))))))
   obtain ⟨s125, s126, s127, s128, s129⟩ := t5 hF124 0 s88 1 s89 4 s90 5 s91 21 s92
   have s130 : F123 7 = iv ((k + 1 : Nat) : Int) := (hF124 7).trans rfl
   clear hF124
   exact then_normal ⟨(4 - (k + 1)), by omega, k + 1, by omega, rfl, s125, s126, s127, s128, s129, s130, K76, B75, (by first | exact B73.next2 (edge_yes (by omega)) | exact B73.next (edge_no (by omega)))⟩
 ·replace c62 := of_decide_eq_false c62
  refine wq_exit (then_exit (then_exit ?_))
  have l131 : 4 = k := by omega
  subst l131
  have B132 : Arr w41 p15 172 4 (edgeOf ahead g) := (B52.last)
  refine in_here (then_normal (wq_seq (wq_region (wl_v (.agg (arrL 4 (edgeOf ahead g)).toArray) rfl rfl (y_load_arr arrT_edge rfl s58 B132 rr) (wl_store_arr arrT_edge rfl rfl rfl s57 rfl B51 fun w133 B134 k135 => ?_)))))
  have K137 := K42.trans k135 (Grew.ok (S := fun _ => False) gr7 noB_le)
  refine wl_nil fun F138 hF139 => ?_
  obtain ⟨s140, s141⟩ := t2 hF139 4 s57 21 s59
  clear hF139
  refine then_normal (wq_ret ?_)
  exact end_arr arrT_edge s141 rfl rfl s140 B134 ⟨rfl, K137⟩
theorem above_ask {p x y : Int} {f : FD} {f0 f1 f2 : Value} {b1 b2 b3 b4 : Nat} {T0 T1 T2 : Nat → Prop} {w : World} (hx : 0 ≤ x ∧ x ≤ 64) (hy : 0 ≤ y ∧ y ≤ 64) (h0 : Byt w T0 f0 f.p0) (h1 : Byt w T1 f1 f.p1) (h2 : Byt w T2 f2 f.p2)
    (g1 : Stc w b1 29 [.int .i64 f.W, .int .i64 f.H, f0, f1, f2]) (g2 : Cel w b2 3 (.int .i64 p)) (g3 : Cel w b3 3 (.int .i64 x)) (g4 : Cel w b4 3 (.int .i64 y)) :
    Ask1 w 4 (.func (.func 164) #[] #[.pointer (some ⟨b1, 0, none⟩), .pointer (some ⟨b2, 0, none⟩), .pointer (some ⟨b3, 0, none⟩), .pointer (some ⟨b4, 0, none⟩)]) (fun k => atF f p (x + (k : Int)) (y - 1)) :=
  ⟨_, [.pointer (some ⟨b1, 0, none⟩), .pointer (some ⟨b2, 0, none⟩), .pointer (some ⟨b3, 0, none⟩), .pointer (some ⟨b4, 0, none⟩)], rfl, fun _ _ => by kernel_rfl, fun w' k i hi =>
    is_above1 p x y i f f0 f1 f2 b1 b2 b3 b4 T0 T1 T2 w' hx hy hi (h0.all k Apart.none) (h1.all k Apart.none) (h2.all k Apart.none) (g1.all k id) (g2.all k id) (g3.all k id) (g4.all k id)⟩
theorem left_ask {p x y : Int} {f : FD} {f0 f1 f2 : Value} {b1 b2 b3 b4 : Nat} {T0 T1 T2 : Nat → Prop} {w : World} (hx : 0 ≤ x ∧ x ≤ 64) (hy : 0 ≤ y ∧ y ≤ 64) (h0 : Byt w T0 f0 f.p0) (h1 : Byt w T1 f1 f.p1) (h2 : Byt w T2 f2 f.p2)
    (g1 : Stc w b1 29 [.int .i64 f.W, .int .i64 f.H, f0, f1, f2]) (g2 : Cel w b2 3 (.int .i64 p)) (g3 : Cel w b3 3 (.int .i64 x)) (g4 : Cel w b4 3 (.int .i64 y)) :
    Ask1 w 4 (.func (.func 165) #[] #[.pointer (some ⟨b1, 0, none⟩), .pointer (some ⟨b2, 0, none⟩), .pointer (some ⟨b3, 0, none⟩), .pointer (some ⟨b4, 0, none⟩)]) (fun k => atF f p (x - 1) (y + (k : Int))) :=
  ⟨_, [.pointer (some ⟨b1, 0, none⟩), .pointer (some ⟨b2, 0, none⟩), .pointer (some ⟨b3, 0, none⟩), .pointer (some ⟨b4, 0, none⟩)], rfl, fun _ _ => by kernel_rfl, fun w' k i hi =>
    is_left1 p x y i f f0 f1 f2 b1 b2 b3 b4 T0 T1 T2 w' hx hy hi (h0.all k Apart.none) (h1.all k Apart.none) (h2.all k Apart.none) (g1.all k id) (g2.all k id) (g3.all k id) (g4.all k id)⟩
theorem edge_above (f : FD) (p x y : Int) : edgeOf y (fun k => atF f p (x + (k : Int)) (y - 1)) = fun k => aboveF f p x y ((k : Nat) : Int) := by
  funext k; unfold edgeOf aboveF; by_cases h : y ≤ 0
  · rw [if_neg (by omega), if_pos h]
  · rw [if_pos (by omega), if_neg h]
theorem edge_left (f : FD) (p x y : Int) : edgeOf x (fun k => atF f p (x - 1) (y + (k : Int))) = fun k => leftF f p x y ((k : Nat) : Int) := by
  funext k; unfold edgeOf leftF; by_cases h : x ≤ 0
  · rw [if_neg (by omega), if_pos h]
  · rw [if_pos (by omega), if_neg h]
theorem is_above (p x y : Int) (f : FD) (f0 f1 f2 : Value) (T_f0 : Nat → Prop) (T_f1 : Nat → Prop) (T_f2 : Nat → Prop) (w0 : World) (hx : 0 ≤ x ∧ x ≤ 64) (hy : 0 ≤ y ∧ y ≤ 64) (h_f0 : Byt w0 T_f0 f0 ((f).p0)) (h_f1 : Byt w0 T_f1 f1 ((f).p1)) (h_f2 : Byt w0 T_f2 f2 ((f).p2)) :
  Calls Tryz.prog 142 #[.agg #[.int .i64 ((f).W), .int .i64 ((f).H), f0, f1, f2], .int .i64 (p), .int .i64 (x), .int .i64 (y)] w0 fun e w' => e = .returned (.agg (arrL 4 (fun k => aboveF f p x y ((k : Nat) : Int))).toArray) ∧ Kept (fun _ => False) w0 w' := by
 refine calls_wq (args := [.agg #[iv (f.W), iv (f.H), f0, f1, f2], iv p, iv x, iv y]) 12 Tryz.func142 rfl rfl (Nat.le_of_ble_eq_true rfl) ?_
 have K0 := Kept.refl (fun _ => False) w0
 have g_f0 := Grew.refl w0 T_f0
 have g_f1 := Grew.refl w0 T_f1
 have g_f2 := Grew.refl w0 T_f2
 refine wq_seq (wq_region (wl_box_stc (vs := [iv (f.W), iv (f.H), f0, f1, f2]) rfl rfl rfl rfl fun p1 w2 B4 g5 k3 => ?_))
 have B10 := h_f0.all k3 Apart.none
 have B11 := h_f1.all k3 Apart.none
 have B12 := h_f2.all k3 Apart.none
 have K13 := K0.tr k3
 refine wl_box_cel rfl rfl rfl rfl (by rfl) fun p14 w15 B18 g20 k16 => ?_
 have B26 := B10.all k16 Apart.none
 have B27 := B11.all k16 Apart.none
 have B28 := B12.all k16 Apart.none
 have B29 := B4.all k16 id
 have K30 := K13.tr k16
 refine wl_box_cel rfl rfl rfl rfl (by rfl) fun p31 w32 B35 g37 k33 => ?_
 have B44 := B26.all k33 Apart.none
 have B45 := B27.all k33 Apart.none
 have B46 := B28.all k33 Apart.none
 have B47 := B29.all k33 id
 have B48 := B18.all k33 id
 have K49 := K30.tr k33
 refine wl_box_cel rfl rfl rfl rfl (by rfl) fun p50 w51 B54 g56 k52 => ?_
 have B64 := B44.all k52 Apart.none
 have B65 := B45.all k52 Apart.none
 have B66 := B46.all k52 Apart.none
 have B67 := B47.all k52 id
 have B68 := B48.all k52 id
 have B69 := B35.all k52 id
 have K70 := K49.tr k52
 refine wl_alloc_arr rfl rfl rfl arrT_edge.2.2 fun p71 w72 e75 B73 k74 => ?_
 have g76 := onB_new (Nat.le_of_eq e75.symm)
 have gr77 : Grew w0 noB (onB p71) := Grew.new K70 g76
 clear e75 g76
 have B85 := B64.all k74 Apart.none
 have B86 := B65.all k74 Apart.none
 have B87 := B66.all k74 Apart.none
 have B88 := B67.all k74 id
 have B89 := B68.all k74 id
 have B90 := B69.all k74 id
 have B91 := B54.all k74 id
 have K92 := K70.tr k74
 refine wl_nil fun F93 hF94 => ?_
 have s95 : F93 12 = undef := (hF94 12).trans rfl
 have s96 : F93 4 = pt p1 0 := (hF94 4).trans rfl
 have s97 : F93 5 = pt p14 0 := (hF94 5).trans rfl
 have s98 : F93 6 = pt p31 0 := (hF94 6).trans rfl
 have s99 : F93 7 = pt p50 0 := (hF94 7).trans rfl
 have s100 : F93 8 = pt p71 0 := (hF94 8).trans rfl
 clear hF94
 refine then_normal (wq_seq (wq_region (wl_v (iv y) rfl rfl (y_load_cel rfl s99 Tryz.underlying3 B91 rfl rr) (wl_v (.func (.func 164) #[] #[pt p1 0, pt p14 0, pt p31 0, pt p50 0]) rfl rfl (y_fnc rfl (vsC s96 (vsC s97 (vsC s98 (vsC s99 vsN)))) rr) (wl_call (R := fun v_ w_ => v_ = .agg (arrL 4 (fun k => aboveF f p x y ((k : Nat) : Int))).toArray ∧ Kept (fun _ => False) w72 w_) rfl rfl (y_cs rfl rfl rfl (fun _ _ => by kernel_rfl) (ev_func _) (vsC rfl (vsC rfl vsN)) (is_along y (.func (.func 164) #[] #[pt p1 0, pt p14 0, pt p31 0, pt p50 0]) (fun k => atF f p (x + (k : Int)) (y - 1))  _ (above_ask hx hy B85 B86 B87 B88 B89 B90 B91)  ) (fun e_ w_ h_ => ⟨_, h_.1, congrArg (fun z => Value.agg (arrL 4 z).toArray) (edge_above f p x y), h_.2⟩)) ?_)))))
 rintro _ w101 ⟨rfl, k102⟩
 have B110 := B73.all k102 id
 have K111 := K92.tr k102
 refine wl_store_arr arrT_edge rfl rfl rfl s100 rfl B110 fun w112 B113 k114 => ?_
 have K122 := K111.trans k114 (Grew.ok (S := fun _ => False) gr77 noB_le)
 refine wl_nil fun F123 hF124 => ?_
 obtain ⟨s125, s126⟩ := t2 hF124 12 s95 8 s100
 clear hF124
 refine then_normal (wq_ret ?_)
 exact end_arr arrT_edge s125 rfl rfl s126 B113 ⟨rfl, K122⟩
theorem is_left (p x y : Int) (f : FD) (f0 f1 f2 : Value) (T_f0 : Nat → Prop) (T_f1 : Nat → Prop) (T_f2 : Nat → Prop) (w0 : World) (hx : 0 ≤ x ∧ x ≤ 64) (hy : 0 ≤ y ∧ y ≤ 64) (h_f0 : Byt w0 T_f0 f0 ((f).p0)) (h_f1 : Byt w0 T_f1 f1 ((f).p1)) (h_f2 : Byt w0 T_f2 f2 ((f).p2)) :
  Calls Tryz.prog 143 #[.agg #[.int .i64 ((f).W), .int .i64 ((f).H), f0, f1, f2], .int .i64 (p), .int .i64 (x), .int .i64 (y)] w0 fun e w' => e = .returned (.agg (arrL 4 (fun k => leftF f p x y ((k : Nat) : Int))).toArray) ∧ Kept (fun _ => False) w0 w' := by
 refine calls_wq (args := [.agg #[iv (f.W), iv (f.H), f0, f1, f2], iv p, iv x, iv y]) 12 Tryz.func143 rfl rfl (Nat.le_of_ble_eq_true rfl) ?_
 have K0 := Kept.refl (fun _ => False) w0
 have g_f0 := Grew.refl w0 T_f0
 have g_f1 := Grew.refl w0 T_f1
 have g_f2 := Grew.refl w0 T_f2
 refine wq_seq (wq_region (wl_box_stc (vs := [iv (f.W), iv (f.H), f0, f1, f2]) rfl rfl rfl rfl fun p1 w2 B4 g5 k3 => ?_))
 have B10 := h_f0.all k3 Apart.none
 have B11 := h_f1.all k3 Apart.none
 have B12 := h_f2.all k3 Apart.none
 have K13 := K0.tr k3
 refine wl_box_cel rfl rfl rfl rfl (by rfl) fun p14 w15 B18 g20 k16 => ?_
 have B26 := B10.all k16 Apart.none
 have B27 := B11.all k16 Apart.none
 have B28 := B12.all k16 Apart.none
 have B29 := B4.all k16 id
 have K30 := K13.tr k16
 refine wl_box_cel rfl rfl rfl rfl (by rfl) fun p31 w32 B35 g37 k33 => ?_
 have B44 := B26.all k33 Apart.none
 have B45 := B27.all k33 Apart.none
 have B46 := B28.all k33 Apart.none
 have B47 := B29.all k33 id
 have B48 := B18.all k33 id
 have K49 := K30.tr k33
 refine wl_box_cel rfl rfl rfl rfl (by rfl) fun p50 w51 B54 g56 k52 => ?_
 have B64 := B44.all k52 Apart.none
 have B65 := B45.all k52 Apart.none
 have B66 := B46.all k52 Apart.none
 have B67 := B47.all k52 id
 have B68 := B48.all k52 id
 have B69 := B35.all k52 id
 have K70 := K49.tr k52
 refine wl_alloc_arr rfl rfl rfl arrT_edge.2.2 fun p71 w72 e75 B73 k74 => ?_
 have g76 := onB_new (Nat.le_of_eq e75.symm)
 have gr77 : Grew w0 noB (onB p71) := Grew.new K70 g76
 clear e75 g76
 have B85 := B64.all k74 Apart.none
 have B86 := B65.all k74 Apart.none
 have B87 := B66.all k74 Apart.none
 have B88 := B67.all k74 id
 have B89 := B68.all k74 id
 have B90 := B69.all k74 id
 have B91 := B54.all k74 id
 have K92 := K70.tr k74
 refine wl_nil fun F93 hF94 => ?_
 have s95 : F93 12 = undef := (hF94 12).trans rfl
 have s96 : F93 4 = pt p1 0 := (hF94 4).trans rfl
 have s97 : F93 5 = pt p14 0 := (hF94 5).trans rfl
 have s98 : F93 6 = pt p31 0 := (hF94 6).trans rfl
 have s99 : F93 7 = pt p50 0 := (hF94 7).trans rfl
 have s100 : F93 8 = pt p71 0 := (hF94 8).trans rfl
 clear hF94
 refine then_normal (wq_seq (wq_region (wl_v (iv x) rfl rfl (y_load_cel rfl s98 Tryz.underlying3 B90 rfl rr) (wl_v (.func (.func 165) #[] #[pt p1 0, pt p14 0, pt p31 0, pt p50 0]) rfl rfl (y_fnc rfl (vsC s96 (vsC s97 (vsC s98 (vsC s99 vsN)))) rr) (wl_call (R := fun v_ w_ => v_ = .agg (arrL 4 (fun k => leftF f p x y ((k : Nat) : Int))).toArray ∧ Kept (fun _ => False) w72 w_) rfl rfl (y_cs rfl rfl rfl (fun _ _ => by kernel_rfl) (ev_func _) (vsC rfl (vsC rfl vsN)) (is_along x (.func (.func 165) #[] #[pt p1 0, pt p14 0, pt p31 0, pt p50 0]) (fun k => atF f p (x - 1) (y + (k : Int)))  _ (left_ask hx hy B85 B86 B87 B88 B89 B90 B91)  ) (fun e_ w_ h_ => ⟨_, h_.1, congrArg (fun z => Value.agg (arrL 4 z).toArray) (edge_left f p x y), h_.2⟩)) ?_)))))
 rintro _ w101 ⟨rfl, k102⟩
 have B110 := B73.all k102 id
 have K111 := K92.tr k102
 refine wl_store_arr arrT_edge rfl rfl rfl s100 rfl B110 fun w112 B113 k114 => ?_
 have K122 := K111.trans k114 (Grew.ok (S := fun _ => False) gr77 noB_le)
 refine wl_nil fun F123 hF124 => ?_
 obtain ⟨s125, s126⟩ := t2 hF124 12 s95 8 s100
 clear hF124
 refine then_normal (wq_ret ?_)
 exact end_arr arrT_edge s125 rfl rfl s126 B113 ⟨rfl, K122⟩
def totTo (e : Nat → Int) : Nat → Int
  | 0 => 0
  | k + 1 => totTo e k + e k
theorem totTo_le {e : Nat → Int} (h : ∀ i, 0 ≤ e i ∧ e i ≤ 255) (k : Nat) : 0 ≤ totTo e k ∧ totTo e k ≤ 255 * k := by
  induction k with
  | zero => simp [totTo]
  | succ k ih => have := h k; rw [totTo]; omega
theorem is_total (s : Nat → Int) (w0 : World) (he : ∀ i, 0 ≤ s i ∧ s i ≤ 255) :
  Calls Tryz.prog 158 #[.agg (arrL 4 (s)).toArray] w0 fun e w' => e = .returned (.int .i64 (totTo s 4)) ∧ Kept (fun _ => False) w0 w' := by
 refine calls_wq (args := [.agg (arrL 4 s).toArray]) 15 Tryz.func158 rfl rfl (Nat.le_of_ble_eq_true rfl) ?_
 have K0 := Kept.refl (fun _ => False) w0
 refine wq_seq (wq_region (wl_box_arr rfl rfl rfl rfl fun p1 w2 e5 B3 k4 => ?_))
 have g6 := onB_new (Nat.le_of_eq e5.symm)
 clear e5 g6
 have K8 := K0.tr k4
 refine wl_v (iv 0) rfl rfl (y_asg rfl rfl rr) (wl_nil fun F9 hF10 => ?_)
 have s11 : F9 15 = undef := (hF10 15).trans rfl
 have s12 : F9 1 = pt p1 0 := (hF10 1).trans rfl
 clear hF10
 refine then_normal (wq_seq (wq_region (wl_v (iv 0) rfl rfl (y_asg rfl rfl rr) (wl_nil fun F13 hF14 => ?_))))
 obtain ⟨s15, s16⟩ := t2 hF14 15 s11 1 s12
 have s17 : F13 3 = iv 0 := (hF14 3).trans rfl
 clear hF14
 refine then_normal (wq_seq (wq_seq (wq_region (wl_v (.agg (arrL 4 s).toArray) rfl rfl (y_load_arr arrT_edge rfl s16 B3 rr) (wl_v (iv 0) rfl rfl (y_mov rfl rfl rr) (wl_nil fun F18 hF19 => ?_))))))
 obtain ⟨s20, s21⟩ := t2 hF19 15 s15 3 s17
 have s22 : F18 6 = .agg (arrL 4 s).toArray := (hF19 6).trans rfl
 have s23 : F18 7 = iv 0 := (hF19 7).trans rfl
 clear hF19
 refine then_normal (wq_block (wq_loop (fun nn FF ww => ∃ (k : Nat), (k ≤ 4) ∧ nn = 4 - k ∧ FF 6 = .agg (arrL 4 s).toArray ∧ FF 15 = undef ∧ FF 3 = iv (totTo s k) ∧ FF 7 = iv ((k : Nat) : Int) ∧ Kept (fun _ => False) w0 ww ∧ Arr ww p1 172 4 s) (4 - 0) ⟨0, by omega, rfl, s22, s20, s21, s23, K8, B3⟩ ?_))
 rintro n27 F24 w25 ⟨k, i28, hn27, s29, s30, s31, s32, K26, B33⟩
 refine wq_seq (wq_region (wl_v (.bool (decide (((k : Nat) : Int) < 4))) rfl rfl (y_lss rfl s32 rfl rfl rr) (wl_nil fun F34 hF35 => ?_)))
 obtain ⟨s36, s37, s38, s39⟩ := t4 hF35 6 s29 15 s30 3 s31 7 s32
 have s40 : F34 8 = .bool (decide (((k : Nat) : Int) < 4)) := (hF35 8).trans rfl
 clear hF35
 refine then_normal (wq_seq ?_)
 refine wq_cond s40 (fun c41 => ?_) (fun c41 => ?_)
 ·replace c41 := of_decide_eq_true c41
  refine wq_skip (then_normal (wq_seq (wq_block (wq_seq (wq_region (wl_v (iv (s k)) rfl rfl (y_lookA k arrT_edge rfl s36 s39 (by omega) rfl rr) (wl_v (iv (s k)) rfl rfl (y_asg rfl rfl rr) (wl_nil fun F42 hF43 => ?_))))))))
  obtain ⟨s44, s45, s46, s47⟩ := t4 hF43 6 s36 15 s37 3 s38 7 s39
  have s48 : F42 5 = iv (s k) := (hF43 5).trans rfl
  clear hF43
  refine then_normal ?_
  have ht := totTo_le he k
  have hk := he k
  refine wq_region (wl_mv rfl rfl rfl s46 (wl_mv rfl rfl rfl s48 (wl_v (iv ((totTo s k) + (s k))) rfl rfl (y_add rfl rfl rfl (i64_i rfl (by omega)) rr) (wl_v (iv ((totTo s k) + (s k))) rfl rfl (y_asg rfl rfl rr) (wl_nil fun F49 hF50 => ?_)))))
  obtain ⟨s51, s52, s53⟩ := t3 hF50 6 s44 15 s45 7 s47
  have s54 : F49 3 = iv ((totTo s k) + (s k)) := (hF50 3).trans rfl
  clear hF50
  refine in_normal (then_normal (wq_region (wl_v (iv ((k + 1 : Nat) : Int)) rfl rfl (y_add rfl s53 rfl (i64_n (by omega) (by omega)) rr) (wl_v (iv ((k + 1 : Nat) : Int)) rfl rfl (y_mov rfl rfl rr) (wl_nil fun F55 hF56 => ?_)))))
  obtain ⟨s57, s58, s59⟩ := t3 hF56 6 s51 15 s52 3 s54
  have s60 : F55 7 = iv ((k + 1 : Nat) : Int) := (hF56 7).trans rfl
  clear hF56
  exact then_normal ⟨(4 - (k + 1)), by omega, k + 1, by omega, rfl, s57, s58, s59, s60, K26, B33⟩
 ·replace c41 := of_decide_eq_false c41
  refine wq_exit (then_exit (then_exit ?_))
  have l61 : 4 = k := by omega
  subst l61
  refine in_here (then_normal (wq_seq (wq_region (wl_mv rfl rfl rfl s38 (wl_v (iv (totTo s 4)) rfl rfl (y_asg rfl rfl rr) (wl_nil fun F62 hF63 => ?_))))))
  have s64 := (hF63 15).trans s37
  have s65 : F62 2 = iv (totTo s 4) := (hF63 2).trans rfl
  clear hF63
  refine then_normal (wq_ret ?_)
  exact end_tmp (v := iv (totTo s 4)) s64 rfl rfl s65 ⟨rfl, K26⟩
def predG (a l : Nat → Int) (m i k : Nat) : Int :=
  if m = 0 then Int.tdiv (totTo a 4 + totTo l 4 + 4) 8 else if m = 1 then a k else if m = 2 then l i else Int.tdiv (a k + l i + 1) 2
theorem is_p1 (i k : Nat) (n : Int) (b1 : Nat) (w0 : World) (h_b1 : Cel w0 b1 3 (.int .i64 (n))) :
  Calls Tryz.prog 159 #[.int .i64 (((i : Nat) : Int)), .int .i64 (((k : Nat) : Int)), .pointer (some ⟨b1, 0, none⟩)] w0 fun e w' => e = .returned (.int .i64 (n)) ∧ Kept (fun _ => False) w0 w' := by
 refine calls_wq (args := [iv ((i : Nat) : Int), iv ((k : Nat) : Int), pt b1 0]) 7 Tryz.func159 rfl rfl (Nat.le_of_ble_eq_true rfl) ?_
 have K0 := Kept.refl (fun _ => False) w0
 refine wq_seq (wq_region (wl_v (iv 0) rfl rfl (y_asg rfl rfl rr) (wl_nil fun F1 hF2 => ?_)))
 have s3 : F1 2 = pt b1 0 := (hF2 2).trans rfl
 have s4 : F1 7 = undef := (hF2 7).trans rfl
 clear hF2
 refine then_normal (wq_seq (wq_region (wl_v (iv n) rfl rfl (y_load_cel rfl s3 Tryz.underlying3 h_b1 rfl rr) (wl_v (iv n) rfl rfl (y_asg rfl rfl rr) (wl_nil fun F5 hF6 => ?_)))))
 have s7 := (hF6 7).trans s4
 have s8 : F5 5 = iv n := (hF6 5).trans rfl
 clear hF6
 refine then_normal (wq_ret ?_)
 exact end_tmp (v := iv n) s7 rfl rfl s8 ⟨rfl, K0⟩
theorem is_p2 (i k : Nat) (a : Nat → Int) (b1 : Nat) (w0 : World) (hk : k < 4) (h_b1 : Arr w0 b1 172 4 (a)) :
  Calls Tryz.prog 160 #[.int .i64 (((i : Nat) : Int)), .int .i64 (((k : Nat) : Int)), .pointer (some ⟨b1, 0, none⟩)] w0 fun e w' => e = .returned (.int .i64 (a k)) ∧ Kept (fun _ => False) w0 w' := by
 refine calls_wq (args := [iv ((i : Nat) : Int), iv ((k : Nat) : Int), pt b1 0]) 9 Tryz.func160 rfl rfl (Nat.le_of_ble_eq_true rfl) ?_
 have K0 := Kept.refl (fun _ => False) w0
 refine wq_seq (wq_region (wl_v (iv 0) rfl rfl (y_asg rfl rfl rr) (wl_nil fun F1 hF2 => ?_)))
 have s3 : F1 1 = iv ((k : Nat) : Int) := (hF2 1).trans rfl
 have s4 : F1 2 = pt b1 0 := (hF2 2).trans rfl
 have s5 : F1 9 = undef := (hF2 9).trans rfl
 clear hF2
 refine then_normal (wq_seq (wq_region (wl_mv rfl rfl rfl s3 (wl_v (.pointer (some ⟨b1, k, none⟩)) rfl rfl (y_atR k (s := 1) rfl s4 rfl (by omega) Tryz.underlying172 (by omega) (by kernel_rfl) (by omega) rr) (wl_v (iv (a k)) rfl rfl (y_ldR rfl rfl Tryz.underlying3 (h_b1.cell (by omega)) rr) (wl_v (iv (a k)) rfl rfl (y_asg rfl rfl rr) (wl_nil fun F6 hF7 => ?_)))))))
 have s8 := (hF7 9).trans s5
 have s9 : F6 5 = iv (a k) := (hF7 5).trans rfl
 clear hF7
 refine then_normal (wq_ret ?_)
 exact end_tmp (v := iv (a k)) s8 rfl rfl s9 ⟨rfl, K0⟩
theorem is_p3 (i k : Nat) (l : Nat → Int) (b1 : Nat) (w0 : World) (hi : i < 4) (h_b1 : Arr w0 b1 172 4 (l)) :
  Calls Tryz.prog 161 #[.int .i64 (((i : Nat) : Int)), .int .i64 (((k : Nat) : Int)), .pointer (some ⟨b1, 0, none⟩)] w0 fun e w' => e = .returned (.int .i64 (l i)) ∧ Kept (fun _ => False) w0 w' := by
 refine calls_wq (args := [iv ((i : Nat) : Int), iv ((k : Nat) : Int), pt b1 0]) 9 Tryz.func161 rfl rfl (Nat.le_of_ble_eq_true rfl) ?_
 have K0 := Kept.refl (fun _ => False) w0
 refine wq_seq (wq_region (wl_v (iv 0) rfl rfl (y_asg rfl rfl rr) (wl_nil fun F1 hF2 => ?_)))
 have s3 : F1 0 = iv ((i : Nat) : Int) := (hF2 0).trans rfl
 have s4 : F1 2 = pt b1 0 := (hF2 2).trans rfl
 have s5 : F1 9 = undef := (hF2 9).trans rfl
 clear hF2
 refine then_normal (wq_seq (wq_region (wl_mv rfl rfl rfl s3 (wl_v (.pointer (some ⟨b1, i, none⟩)) rfl rfl (y_atR i (s := 1) rfl s4 rfl (by omega) Tryz.underlying172 (by omega) (by kernel_rfl) (by omega) rr) (wl_v (iv (l i)) rfl rfl (y_ldR rfl rfl Tryz.underlying3 (h_b1.cell (by omega)) rr) (wl_v (iv (l i)) rfl rfl (y_asg rfl rfl rr) (wl_nil fun F6 hF7 => ?_)))))))
 have s8 := (hF7 9).trans s5
 have s9 : F6 5 = iv (l i) := (hF7 5).trans rfl
 clear hF7
 refine then_normal (wq_ret ?_)
 exact end_tmp (v := iv (l i)) s8 rfl rfl s9 ⟨rfl, K0⟩
theorem is_p4 (i k : Nat) (a l : Nat → Int) (b1 : Nat) (b2 : Nat) (w0 : World) (hi : i < 4) (hk : k < 4) (ha : ∀ i, 0 ≤ a i ∧ a i ≤ 255) (hl : ∀ i, 0 ≤ l i ∧ l i ≤ 255) (h_b1 : Arr w0 b1 172 4 (a)) (h_b2 : Arr w0 b2 172 4 (l)) :
  Calls Tryz.prog 162 #[.int .i64 (((i : Nat) : Int)), .int .i64 (((k : Nat) : Int)), .pointer (some ⟨b1, 0, none⟩), .pointer (some ⟨b2, 0, none⟩)] w0 fun e w' => e = .returned (.int .i64 (Int.tdiv (a k + l i + 1) 2)) ∧ Kept (fun _ => False) w0 w' := by
 refine calls_wq (args := [iv ((i : Nat) : Int), iv ((k : Nat) : Int), pt b1 0, pt b2 0]) 16 Tryz.func162 rfl rfl (Nat.le_of_ble_eq_true rfl) ?_
 have K0 := Kept.refl (fun _ => False) w0
 refine wq_seq (wq_region (wl_v (iv 0) rfl rfl (y_asg rfl rfl rr) (wl_nil fun F1 hF2 => ?_)))
 have s3 : F1 0 = iv ((i : Nat) : Int) := (hF2 0).trans rfl
 have s4 : F1 1 = iv ((k : Nat) : Int) := (hF2 1).trans rfl
 have s5 : F1 2 = pt b1 0 := (hF2 2).trans rfl
 have s6 : F1 3 = pt b2 0 := (hF2 3).trans rfl
 have s7 : F1 16 = undef := (hF2 16).trans rfl
 clear hF2
 refine then_normal (wq_seq ?_)
 have h1 := ha k
 have h2 := hl i
 refine wq_said [some 7, some 8, some 9, some 10, some 11, some 12, some 13, some 14, some 15, some 6] [Pd.eq (iv ((k : Nat) : Int)), Pd.eq (.pointer (some ⟨b1, k, none⟩)), Pd.eq (iv (a k)), Pd.eq (iv ((i : Nat) : Int)), Pd.eq (.pointer (some ⟨b2, i, none⟩)), Pd.eq (iv (l i)), Pd.eq (iv ((a k) + (l i))), Pd.eq (iv (((a k) + (l i)) + 1)), Pd.eq (iv (Int.tdiv (a k + l i + 1) 2)), Pd.eq (iv (Int.tdiv (a k + l i + 1) 2))] (by kernel_rfl) (by kernel_rfl) ?_ ?_
 ·refine stepsF_cons ?_ ?_
  ·refine StepF.one rfl fun F_ w_ hR hout hD => ?_
   exact (y_mov rfl ((hout 1 rfl (by decide)).trans s4) ⟨rfl, Kept.refl _ _⟩)
  refine stepsF_cons ?_ ?_
  ·refine StepF.one rfl fun F_ w_ hR hout hD => ?_
   have g7 : F_ 7 = iv ((k : Nat) : Int) := (hD.get 0 rfl rfl rfl)
   exact (y_atR k (s := 1) rfl ((hout 2 rfl (by decide)).trans s5) g7 (by omega) Tryz.underlying172 (by omega) (by kernel_rfl) (by omega) ⟨rfl, Kept.refl _ _⟩)
  refine stepsF_cons ?_ ?_
  ·refine StepF.one rfl fun F_ w_ hR hout hD => ?_
   have g8 : F_ 8 = .pointer (some ⟨b1, k, none⟩) := (hD.get 0 rfl rfl rfl)
   exact (y_ldR rfl g8 Tryz.underlying3 ((h_b1.all hR id).cell (by omega)) ⟨rfl, Kept.refl _ _⟩)
  refine stepsF_cons ?_ ?_
  ·refine StepF.one rfl fun F_ w_ hR hout hD => ?_
   exact (y_mov rfl ((hout 0 rfl (by decide)).trans s3) ⟨rfl, Kept.refl _ _⟩)
  refine stepsF_cons ?_ ?_
  ·refine StepF.one rfl fun F_ w_ hR hout hD => ?_
   have g10 : F_ 10 = iv ((i : Nat) : Int) := (hD.get 0 rfl rfl rfl)
   exact (y_atR i (s := 1) rfl ((hout 3 rfl (by decide)).trans s6) g10 (by omega) Tryz.underlying172 (by omega) (by kernel_rfl) (by omega) ⟨rfl, Kept.refl _ _⟩)
  refine stepsF_cons ?_ ?_
  ·refine StepF.one rfl fun F_ w_ hR hout hD => ?_
   have g11 : F_ 11 = .pointer (some ⟨b2, i, none⟩) := (hD.get 0 rfl rfl rfl)
   exact (y_ldR rfl g11 Tryz.underlying3 ((h_b2.all hR id).cell (by omega)) ⟨rfl, Kept.refl _ _⟩)
  refine stepsF_cons ?_ ?_
  ·refine StepF.one rfl fun F_ w_ hR hout hD => ?_
   have g9 : F_ 9 = iv (a k) := (hD.get 0 rfl rfl rfl)
   have g12 : F_ 12 = iv (l i) := (hD.get 1 rfl rfl rfl)
   exact (y_add rfl g9 g12 (i64_i rfl (by omega)) ⟨rfl, Kept.refl _ _⟩)
  refine stepsF_cons ?_ ?_
  ·refine StepF.one rfl fun F_ w_ hR hout hD => ?_
   have g13 : F_ 13 = iv ((a k) + (l i)) := (hD.get 0 rfl rfl rfl)
   exact (y_add rfl g13 rfl (i64_i rfl (by omega)) ⟨rfl, Kept.refl _ _⟩)
  refine stepsF_cons ?_ ?_
  ·refine StepF.one rfl fun F_ w_ hR hout hD => ?_
   have g14 : F_ 14 = iv (((a k) + (l i)) + 1) := (hD.get 0 rfl rfl rfl)
   exact (y_quo rfl g14 rfl (by first | decide | omega) (i64_i rfl (by rw [tdiv2 (by omega)]; omega)) ⟨rfl, Kept.refl _ _⟩)
  refine stepsF_cons ?_ ?_
  ·refine StepF.one rfl fun F_ w_ hR hout hD => ?_
   have g15 : F_ 15 = iv (Int.tdiv (a k + l i + 1) 2) := (hD.get 0 rfl rfl rfl)
   exact (y_asg rfl g15 ⟨rfl, Kept.refl _ _⟩)
  exact stepsF_nil
 intro v8 F9 w10 k11 G12 hF13
 have K17 := K0.tr k11
 have s18 := (hF13 16).trans s7
 have s19 : F9 6 = iv (Int.tdiv (a k + l i + 1) 2) := (hF13 6).trans (G12 9 (by decide))
 clear G12 hF13
 refine then_normal (wq_ret ?_)
 exact end_tmp (v := iv (Int.tdiv (a k + l i + 1) 2)) s18 rfl rfl s19 ⟨rfl, K17⟩
def Fns (w : World) (v : Value) (g : Nat → Nat → Nat → Int) : Prop := ∃ c : Nat → Value, v = .agg #[c 0, c 1, c 2, c 3] ∧ ∀ m, m < 4 → Ask2 w 4 (c m) (g m)
theorem Fns.all {w w' : World} {v : Value} {g : Nat → Nat → Nat → Int} (h : Fns w v g) (k : Kept (fun _ => False) w w') : Fns w' v g := by
  obtain ⟨c, e, h⟩ := h; exact ⟨c, e, fun m hm => (h m hm).all k⟩
def Pd.fns (g : Nat → Nat → Nat → Int) : Pd := ⟨fun v w => Fns w v g, fun _ _ _ h k => h.all k⟩
theorem y_ixF {ρ : Operand → Value} {o : Oper} {w : World} {R : Value → World → Prop} {x y : Operand} {k : IntKind} {v : Value} {g : Nat → Nat → Nat → Int} (j : Nat) {i : Int} (ho : o.op = .index 169 x y) (hx : ρ x = v) (hb : Fns w v g) (hy : ρ y = .int k i) (hi : i = (j : Int)) (hj : j < 4) (h : ∀ c, Ask2 w 4 c (g j) → R c w) : Yields Tryz.prog ρ o w R := by
  obtain ⟨c, rfl, hc⟩ := hb
  subst hi
  have hs : (Tryz.prog.info? 167).map (·.size) = some 1 := by kernel_rfl
  have hv : #[c 0, c 1, c 2, c 3][j]? = some (c j) := by
    rcases (by omega : j = 0 ∨ j = 1 ∨ j = 2 ∨ j = 3) with rfl | rfl | rfl | rfl <;> rfl
  cases hq : Tryz.prog.info? 167 with
  | none => simp [hq] at hs
  | some i =>
    have hs' : i.size = 1 := by simpa [hq] using hs
    have hp : (part 167 #[c 0, c 1, c 2, c 3] j).run Tryz.prog w = .ok (c j) w := by simp [part, isAgg, run_underlying Tryz.underlying167, hv]
    have h1 : (0 : Int) ≤ (j : Int) := by omega
    exact y_of (v := c j) (w' := w) (by simp [execOp, ho, hx, hy, Instr.index, run_underlying Tryz.underlying169, asIntOf, sizeOf, typeInfo, hq, hs', hp, h1, hj]) (h _ (hc j hj))
theorem fns_mk {w : World} {a l : Nat → Int} {b2 b3 b5 : Nat} (ha : ∀ i, 0 ≤ a i ∧ a i ≤ 255) (hl : ∀ i, 0 ≤ l i ∧ l i ≤ 255) (h2 : Arr w b2 172 4 a) (h3 : Arr w b3 172 4 l) (h5 : Cel w b5 3 (.int .i64 (Int.tdiv (totTo a 4 + totTo l 4 + 4) 8))) :
    Fns w (.agg [.func (.func 159) #[] #[.pointer (some ⟨b5, 0, none⟩)], .func (.func 160) #[] #[.pointer (some ⟨b2, 0, none⟩)], .func (.func 161) #[] #[.pointer (some ⟨b3, 0, none⟩)], .func (.func 162) #[] #[.pointer (some ⟨b2, 0, none⟩), .pointer (some ⟨b3, 0, none⟩)]].toArray) (predG a l) := by
  refine ⟨fun m => match m with
    | 0 => .func (.func 159) #[] #[.pointer (some ⟨b5, 0, none⟩)]
    | 1 => .func (.func 160) #[] #[.pointer (some ⟨b2, 0, none⟩)]
    | 2 => .func (.func 161) #[] #[.pointer (some ⟨b3, 0, none⟩)]
    | _ => .func (.func 162) #[] #[.pointer (some ⟨b2, 0, none⟩), .pointer (some ⟨b3, 0, none⟩)], rfl, fun m hm => ?_⟩
  rcases (by omega : m = 0 ∨ m = 1 ∨ m = 2 ∨ m = 3) with rfl | rfl | rfl | rfl
  · exact ⟨_, [_], rfl, fun _ _ => by kernel_rfl, fun w' k i j hi hj => is_p1 i j _ b5 w' (h5.all k id)⟩
  · exact ⟨_, [_], rfl, fun _ _ => by kernel_rfl, fun w' k i j hi hj => is_p2 i j a b2 w' hj (h2.all k id)⟩
  · exact ⟨_, [_], rfl, fun _ _ => by kernel_rfl, fun w' k i j hi hj => is_p3 i j l b3 w' hi (h3.all k id)⟩
  · exact ⟨_, [_, _], rfl, fun _ _ => by kernel_rfl, fun w' k i j hi hj => is_p4 i j a l b2 b3 w' hi hj ha hl (h2.all k id) (h3.all k id)⟩
theorem is_predictions (a l : Nat → Int) (w0 : World) (ha : ∀ i, 0 ≤ a i ∧ a i ≤ 255) (hl : ∀ i, 0 ≤ l i ∧ l i ≤ 255) :
  Calls Tryz.prog 141 #[.agg (arrL 4 (a)).toArray, .agg (arrL 4 (l)).toArray] w0 fun e w' => ∃ (v1 : Value), e = .returned v1 ∧ Kept (fun _ => False) w0 w' ∧ (Pd.fns (predG a l)).says v1 w' := by
 refine calls_wq (args := [.agg (arrL 4 a).toArray, .agg (arrL 4 l).toArray]) 18 Tryz.func141 rfl rfl (Nat.le_of_ble_eq_true rfl) ?_
 have K0 := Kept.refl (fun _ => False) w0
 refine wq_seq (wq_region (wl_box_arr rfl rfl rfl rfl fun p1 w2 e5 B3 k4 => ?_))
 have g6 := onB_new (Nat.le_of_eq e5.symm)
 clear e5 g6
 have K8 := K0.tr k4
 refine wl_box_arr rfl rfl rfl rfl fun p9 w10 e13 B11 k12 => ?_
 have g14 := onB_new (Nat.le_of_eq e13.symm)
 clear e13 g14
 have B17 := B3.all k12 id
 have K18 := K8.tr k12
 refine wl_alloc_stc (n := 4) (vs := [Value.nilFunc, Value.nilFunc, Value.nilFunc, Value.nilFunc]) rfl rfl rfl (by kernel_rfl) fun p19 w20 B22 g23 k21 => ?_
 have gr24 : Grew w0 noB (onB p19) := Grew.new K18 g23
 have ap25 : Apart (onB p19) (onB p1) := Apart.new g23 (onB_live B17.lt)
 have ap26 : Apart (onB p19) (onB p9) := Apart.new g23 (onB_live B11.lt)
 have B27 := B17.all k21 id
 have B28 := B11.all k21 id
 have K29 := K18.tr k21
 refine wl_nil fun F30 hF31 => ?_
 have s32 : F30 18 = undef := (hF31 18).trans rfl
 have s33 : F30 2 = pt p1 0 := (hF31 2).trans rfl
 have s34 : F30 3 = pt p9 0 := (hF31 3).trans rfl
 have s35 : F30 4 = pt p19 0 := (hF31 4).trans rfl
 clear hF31
 refine then_normal (wq_seq ?_)
 have h1 := totTo_le ha 4
 have h2 := totTo_le hl 4
 refine wq_tail 8 [some 6, some 7, some 8, some 9, some 10, some 11, some 12, some 5] [Pd.eq (.agg (arrL 4 a).toArray), Pd.eq (iv (totTo a 4)), Pd.eq (.agg (arrL 4 l).toArray), Pd.eq (iv (totTo l 4)), Pd.eq (iv ((totTo a 4) + (totTo l 4))), Pd.eq (iv (((totTo a 4) + (totTo l 4)) + 4)), Pd.eq (iv (Int.tdiv (totTo a 4 + totTo l 4 + 4) 8)), Pd.cel w20.heap.size 3 (iv 0)] (by kernel_rfl) (by kernel_rfl) (by kernel_rfl) ?_ ?_
 ·refine stepsF_cons ?_ ?_
  ·refine StepF.one rfl fun F_ w_ hR hout hD => ?_
   exact (y_load_arr arrT_edge rfl ((hout 2 rfl (by decide)).trans s33) (B27.all hR id) ⟨rfl, Kept.refl _ _⟩)
  refine stepsF_cons ?_ ?_
  ·refine StepF.one rfl fun F_ w_ hR hout hD => ?_
   have g6 : F_ 6 = .agg (arrL 4 a).toArray := (hD.get 0 rfl rfl rfl)
   exact (y_cs rfl rfl rfl (fun _ _ => by kernel_rfl) (ev_func _) (vsC g6 vsN) (is_total a  _ ha  ) (fun e_ w_ h_ => ⟨_, h_.1, rfl, h_.2⟩))
  refine stepsF_cons ?_ ?_
  ·refine StepF.one rfl fun F_ w_ hR hout hD => ?_
   exact (y_load_arr arrT_edge rfl ((hout 3 rfl (by decide)).trans s34) (B28.all hR id) ⟨rfl, Kept.refl _ _⟩)
  refine stepsF_cons ?_ ?_
  ·refine StepF.one rfl fun F_ w_ hR hout hD => ?_
   have g8 : F_ 8 = .agg (arrL 4 l).toArray := (hD.get 0 rfl rfl rfl)
   exact (y_cs rfl rfl rfl (fun _ _ => by kernel_rfl) (ev_func _) (vsC g8 vsN) (is_total l  _ hl  ) (fun e_ w_ h_ => ⟨_, h_.1, rfl, h_.2⟩))
  refine stepsF_cons ?_ ?_
  ·refine StepF.one rfl fun F_ w_ hR hout hD => ?_
   have g7 : F_ 7 = iv (totTo a 4) := (hD.get 0 rfl rfl rfl)
   have g9 : F_ 9 = iv (totTo l 4) := (hD.get 1 rfl rfl rfl)
   exact (y_add rfl g7 g9 (i64_i rfl (by omega)) ⟨rfl, Kept.refl _ _⟩)
  refine stepsF_cons ?_ ?_
  ·refine StepF.one rfl fun F_ w_ hR hout hD => ?_
   have g10 : F_ 10 = iv ((totTo a 4) + (totTo l 4)) := (hD.get 0 rfl rfl rfl)
   exact (y_add rfl g10 rfl (i64_i rfl (by omega)) ⟨rfl, Kept.refl _ _⟩)
  refine stepsF_cons ?_ ?_
  ·refine StepF.one rfl fun F_ w_ hR hout hD => ?_
   have g11 : F_ 11 = iv (((totTo a 4) + (totTo l 4)) + 4) := (hD.get 0 rfl rfl rfl)
   exact (y_quo rfl g11 rfl (by first | decide | omega) (i64_i rfl (by rw [tdiv8 (by omega)]; omega)) ⟨rfl, Kept.refl _ _⟩)
  refine stepsF_cons ?_ ?_
  ·refine StepF.one rfl fun F_ w_ hR hout hD => ?_
   exact y_alloc_cel (v := iv 0) rfl (by kernel_rfl) rfl ⟨⟨_, rfl, hR.size, heap_alloc_new _ _⟩, (Kept.refl _ _).alloc _⟩
  exact stepsF_nil
 intro v36 F37 w38 k39 G40 hF41
 have B43 := B27.all k39 id
 have B44 := B28.all k39 id
 have B45 := B22.all k39 id
 have K46 := K29.tr k39
 obtain ⟨s47, s48, s49, s50⟩ := t4 hF41 18 s32 2 s33 3 s34 4 s35
 obtain ⟨p53, e52, e54, B55⟩ := G40 7 (by decide)
 replace B55 : Cel w38 p53 3 (iv 0) := B55
 have gr56 : Grew w0 noB (onB p53) := Grew.new K29 (onB_new e54)
 have ap57 : Apart (onB p53) (onB p1) := Apart.new (onB_new e54) (onB_live B27.lt)
 have ap58 : Apart (onB p53) (onB p9) := Apart.new (onB_new e54) (onB_live B28.lt)
 have ap59 : Apart (onB p53) (onB p19) := Apart.new (onB_new e54) (onB_live B22.lt)
 have s51 : F37 5 = pt p53 0 := (hF41 5).trans e52
 have s60 : F37 12 = iv (Int.tdiv (totTo a 4 + totTo l 4 + 4) 8) := (hF41 12).trans (G40 6 (by decide))
 clear G40 hF41
 refine wl_store_cel rfl rfl rfl s51 s60 B55 (by rfl) (by kernel_rfl) fun w61 B62 k63 => ?_
 have B64 := B43.all k63 (ap57.symm p1 rfl)
 have B65 := B44.all k63 (ap58.symm p9 rfl)
 have B66 := B45.all k63 (ap59.symm p19 rfl)
 have K67 := K46.trans k63 (Grew.ok (S := fun _ => False) gr56 noB_le)
 refine wl_nil fun F68 hF69 => ?_
 obtain ⟨s70, s71, s72, s73, s74⟩ := t5 hF69 18 s47 2 s48 3 s49 4 s50 5 s51
 clear hF69
 refine then_normal (wq_seq (wq_region (wl_v (.func (.func 159) #[] #[pt p53 0]) rfl rfl (y_fnc rfl (vsC s74 vsN) rr) (wl_v (.func (.func 160) #[] #[pt p1 0]) rfl rfl (y_fnc rfl (vsC s71 vsN) rr) (wl_v (.func (.func 161) #[] #[pt p9 0]) rfl rfl (y_fnc rfl (vsC s72 vsN) rr) (wl_v (.func (.func 162) #[] #[pt p1 0, pt p9 0]) rfl rfl (y_fnc rfl (vsC s71 (vsC s72 vsN)) rr) (wl_v (.agg #[.func (.func 159) #[] #[pt p53 0], .func (.func 160) #[] #[pt p1 0], .func (.func 161) #[] #[pt p9 0], .func (.func 162) #[] #[pt p1 0, pt p9 0]]) rfl rfl (y_buildL (l' := [(0, .func (.func 159) #[] #[pt p53 0]), (1, .func (.func 160) #[] #[pt p1 0]), (2, .func (.func 161) #[] #[pt p9 0]), (3, .func (.func 162) #[] #[pt p1 0, pt p9 0])]) (cells := #[.func (.func 159) #[] #[pt p53 0], .func (.func 160) #[] #[pt p1 0], .func (.func 161) #[] #[pt p9 0], .func (.func 162) #[] #[pt p1 0, pt p9 0]]) rfl (bpC rfl (bpC rfl (bpC rfl (bpC rfl bpN)))) (by kernel_rfl) rfl rr) (wl_store_stc (us := [.func (.func 159) #[] #[pt p53 0], .func (.func 160) #[] #[pt p1 0], .func (.func 161) #[] #[pt p9 0], .func (.func 162) #[] #[pt p1 0, pt p9 0]]) stcT_fn4 rfl rfl rfl s73 rfl B66 rfl (oneI rfl (oneI rfl (oneI rfl (oneI rfl oneN)))) fun w75 B76 k77 => ?_))))))))
 have B78 := B64.all k77 (ap25.symm p1 rfl)
 have B79 := B65.all k77 (ap26.symm p9 rfl)
 have B80 := B62.all k77 (ap59 p53 rfl)
 have K81 := K67.trans k77 (Grew.ok (S := fun _ => False) gr24 noB_le)
 refine wl_nil fun F82 hF83 => ?_
 obtain ⟨s84, s85⟩ := t2 hF83 18 s70 4 s73
 clear hF83
 refine then_normal (wq_ret ?_)
 exact end_stc (vs := [.func (.func 159) #[] #[pt p53 0], .func (.func 160) #[] #[pt p1 0], .func (.func 161) #[] #[pt p9 0], .func (.func 162) #[] #[pt p1 0, pt p9 0]]) stcT_fn4 s84 rfl rfl s85 B76 ⟨_, rfl, K81, fns_mk ha hl B78 B79 B80⟩
theorem is_filled (fv : Value) (g : Nat → Nat → Int) (w0 : World) (hg : Ask2 w0 4 fv g) :
  Calls Tryz.prog 140 #[fv] w0 fun e w' => e = .returned (blkV (fun n => g (n / 4) (n % 4))) ∧ Kept (fun _ => False) w0 w' := by
 refine calls_wq (args := [fv]) 18 Tryz.func140 rfl rfl (Nat.le_of_ble_eq_true rfl) ?_
 have K0 := Kept.refl (fun _ => False) w0
 refine wq_seq (wq_region (wl_alloc_blk rfl rfl rfl blkT_block.2.2 fun p1 w2 e5 B3 k4 => ?_))
 have g6 := onB_new (Nat.le_of_eq e5.symm)
 have gr7 : Grew w0 noB (onB p1) := Grew.new K0 g6
 clear e5 g6
 have K8 := K0.tr k4
 refine wl_nil fun F9 hF10 => ?_
 have s11 : F9 0 = fv := (hF10 0).trans rfl
 have s12 : F9 18 = undef := (hF10 18).trans rfl
 have s13 : F9 2 = pt p1 0 := (hF10 2).trans rfl
 clear hF10
 refine then_normal (wq_seq (wq_region (wl_alloc_blk rfl rfl rfl blkT_block.2.2 fun p14 w15 e18 B16 k17 => ?_)))
 have g19 := onB_new (Nat.le_of_eq e18.symm)
 have gr20 : Grew w0 noB (onB p14) := Grew.new K8 g19
 have ap21 : Apart (onB p14) (onB p1) := Apart.new g19 (onB_live B3.lt)
 clear e18 g19
 have B22 := B3.all k17 id
 have K23 := K8.tr k17
 refine wl_nil fun F24 hF25 => ?_
 obtain ⟨s26, s27, s28⟩ := t3 hF25 0 s11 18 s12 2 s13
 have s29 : F24 3 = pt p14 0 := (hF25 3).trans rfl
 clear hF25
 refine then_normal (wq_seq (wq_seq (wq_region (wl_v (iv 0) rfl rfl (y_mov rfl rfl rr) (wl_nil fun F30 hF31 => ?_)))))
 obtain ⟨s32, s33, s34, s35⟩ := t4 hF31 0 s26 18 s27 2 s28 3 s29
 have s36 : F30 5 = iv 0 := (hF31 5).trans rfl
 clear hF31
 refine then_normal (wq_block (wq_loop (fun nn FF ww => ∃ (n : Nat), (n ≤ 16) ∧ nn = 16 - n ∧ FF 0 = fv ∧ FF 2 = pt p1 0 ∧ FF 3 = pt p14 0 ∧ FF 18 = undef ∧ FF 5 = iv ((n : Nat) : Int) ∧ Kept (fun _ => False) w0 ww ∧ Blk ww p1 69 (fun _ => 0) ∧ Blk ww p14 69 (upto n (fun _ => 0) (fun n => g (n / 4) (n % 4)))) (16 - 0) ⟨0, by omega, rfl, s32, s34, s35, s33, s36, K23, B22, B16.first⟩ ?_))
 rintro n40 F37 w38 ⟨n, i41, hn40, s42, s43, s44, s45, s46, K39, B47, B48⟩
 refine wq_seq (wq_region (wl_v (.bool (decide (((n : Nat) : Int) < 16))) rfl rfl (y_lss rfl s46 rfl rfl rr) (wl_nil fun F49 hF50 => ?_)))
 obtain ⟨s51, s52, s53, s54, s55⟩ := t5 hF50 0 s42 2 s43 3 s44 18 s45 5 s46
 have s56 : F49 6 = .bool (decide (((n : Nat) : Int) < 16)) := (hF50 6).trans rfl
 clear hF50
 refine then_normal (wq_seq ?_)
 refine wq_cond s56 (fun c57 => ?_) (fun c57 => ?_)
 ·replace c57 := of_decide_eq_true c57
  refine wq_skip (then_normal (wq_seq (wq_block (wq_seq (wq_region (wl_mv rfl rfl rfl s55 (wl_v (iv ((n : Nat) : Int)) rfl rfl (y_asg rfl rfl rr) (wl_nil fun F58 hF59 => ?_))))))))
  obtain ⟨s60, s61, s62, s63, s64⟩ := t5 hF59 0 s51 2 s52 3 s53 18 s54 5 s55
  have s65 : F58 4 = iv ((n : Nat) : Int) := (hF59 4).trans rfl
  clear hF59
  refine then_normal (wq_region (wl_mv rfl rfl rfl s65 (wl_mv rfl rfl rfl s60 (wl_mv rfl rfl rfl s65 (wl_v (iv (((n / 4) : Nat) : Int)) rfl rfl (y_quo rfl rfl rfl (by first | decide | omega) (i64_n (quo_nat n 4) (by omega)) rr) (wl_mv rfl rfl rfl s65 (wl_v (iv (((n % 4) : Nat) : Int)) rfl rfl (y_rem rfl rfl rfl (by first | decide | omega) (rem_nat n 4) rr) (wl_call (R := fun v_ w_ => v_ = iv (g (n / 4) (n % 4)) ∧ Kept (fun _ => False) w38 w_) rfl rfl (y_ask2 rfl rfl rfl rfl rfl rfl (hg.all K39) (by omega) (by omega) (fun e_ w_ h_ => ⟨_, h_.1, rfl, h_.2⟩)) ?_))))))))
  rintro _ w66 ⟨rfl, k67⟩
  have B68 := B47.all k67 id
  have B69 := B48.all k67 id
  have K70 := K39.tr k67
  refine wl_v (.pointer (some ⟨p14, n, none⟩)) rfl rfl (y_atR n (s := 1) rfl s62 rfl (by omega) Tryz.underlying69 (by omega) (by kernel_rfl) (by omega) rr) (wl_set_blk rfl rfl rfl rfl rfl B69 (by omega) (by kernel_rfl) fun w71 B72 k73 => ?_)
  have B74 := B68.all k73 (ap21.symm p1 rfl)
  have K75 := K70.trans k73 (Grew.ok (S := fun _ => False) gr20 noB_le)
  refine wl_nil fun F76 hF77 => ?_
  obtain ⟨s78, s79, s80, s81, s82⟩ := t5 hF77 0 s60 2 s61 3 s62 18 s63 5 s64
  clear hF77
  refine in_normal (then_normal (wq_region (wl_v (iv ((n + 1 : Nat) : Int)) rfl rfl (y_add rfl s82 rfl (i64_n (by omega) (by omega)) rr) (wl_v (iv ((n + 1 : Nat) : Int)) rfl rfl (y_mov rfl rfl rr) (wl_nil fun F83 hF84 => ?_)))))
  obtain ⟨s85, s86, s87, s88⟩ := t4 hF84 0 s78 2 s79 3 s80 18 s81
  have s89 : F83 5 = iv ((n + 1 : Nat) : Int) := (hF84 5).trans rfl
  clear hF84
  exact then_normal ⟨(16 - (n + 1)), by omega, n + 1, by omega, rfl, s85, s86, s87, s88, s89, K75, B74, (B72.next rfl)⟩
 ·replace c57 := of_decide_eq_false c57
  refine wq_exit (then_exit (then_exit ?_))
  have l90 : 16 = n := by omega
  subst l90
  have B91 : Blk w38 p14 69 (fun n => g (n / 4) (n % 4)) := (B48.last)
  refine in_here (then_normal (wq_seq (wq_region (wl_v (blkV (fun n => g (n / 4) (n % 4))) rfl rfl (y_load_blk blkT_block rfl s53 B91 rr) (wl_store_blk blkT_block rfl rfl rfl s52 rfl B47 fun w92 B93 k94 => ?_)))))
  have K96 := K39.trans k94 (Grew.ok (S := fun _ => False) gr7 noB_le)
  refine wl_nil fun F97 hF98 => ?_
  obtain ⟨s99, s100⟩ := t2 hF98 2 s52 18 s54
  clear hF98
  refine then_normal (wq_ret ?_)
  exact end_blk blkT_block s100 rfl rfl s99 B93 ⟨rfl, K96⟩
theorem predG_is {f : FD} {p x y mode : Int} (hm : 0 ≤ mode ∧ mode ≤ 3) : (fun n => predG (fun k => aboveF f p x y ((k : Nat) : Int)) (fun k => leftF f p x y ((k : Nat) : Int)) mode.toNat (n / 4) (n % 4)) = predN f p x y mode := by
  funext n
  rcases (by omega : mode = 0 ∨ mode = 1 ∨ mode = 2 ∨ mode = 3) with rfl | rfl | rfl | rfl
  · show Int.tdiv _ 8 = Int.tdiv _ 8
    congr 1
    simp only [totTo, sumTo]; omega
  · rfl
  · rfl
  · rfl
theorem il_predict (p x y mode : Int) (f : FD) (f0 f1 f2 : Value) (T_f0 : Nat → Prop) (T_f1 : Nat → Prop) (T_f2 : Nat → Prop) (w0 : World) (h_f0 : Byt w0 T_f0 f0 ((f).p0)) (h_f1 : Byt w0 T_f1 f1 ((f).p1)) (h_f2 : Byt w0 T_f2 f2 ((f).p2)) :
  Calls Tryz.prog 112 #[.agg #[.int .i64 ((f).W), .int .i64 ((f).H), f0, f1, f2], .int .i64 (p), .int .i64 (x), .int .i64 (y), .int .i64 (mode)] w0 fun e w' => e = .returned (.tuple #[blkV (predB f p x y mode), .int .i64 (predE f p x y mode)]) ∧ Kept (fun _ => False) w0 w' := by
 refine calls_wq (args := [.agg #[iv (f.W), iv (f.H), f0, f1, f2], iv p, iv x, iv y, iv mode]) 55 Tryz.func112 rfl rfl (Nat.le_of_ble_eq_true rfl) ?_
 have K0 := Kept.refl (fun _ => False) w0
 have hb : Bytes3 f := ⟨h_f0.lt256, h_f1.lt256, h_f2.lt256⟩
 have g_f0 := Grew.refl w0 T_f0
 have g_f1 := Grew.refl w0 T_f1
 have g_f2 := Grew.refl w0 T_f2
 refine wq_seq (wq_region (wl_box_stc (vs := [iv (f.W), iv (f.H), f0, f1, f2]) rfl rfl rfl rfl fun p1 w2 B4 g5 k3 => ?_))
 have B10 := h_f0.all k3 Apart.none
 have B11 := h_f1.all k3 Apart.none
 have B12 := h_f2.all k3 Apart.none
 have K13 := K0.tr k3
 refine wl_alloc_blk rfl rfl rfl blkT_block.2.2 fun p14 w15 e18 B16 k17 => ?_
 have g19 := onB_new (Nat.le_of_eq e18.symm)
 have gr20 : Grew w0 noB (onB p14) := Grew.new K13 g19
 clear e18 g19
 have B25 := B10.all k17 Apart.none
 have B26 := B11.all k17 Apart.none
 have B27 := B12.all k17 Apart.none
 have B28 := B4.all k17 id
 have K29 := K13.tr k17
 refine wl_v (iv 0) rfl rfl (y_asg rfl rfl rr) (wl_nil fun F30 hF31 => ?_)
 have s32 : F30 1 = iv p := (hF31 1).trans rfl
 have s33 : F30 2 = iv x := (hF31 2).trans rfl
 have s34 : F30 3 = iv y := (hF31 3).trans rfl
 have s35 : F30 4 = iv mode := (hF31 4).trans rfl
 have s36 : F30 55 = undef := (hF31 55).trans rfl
 have s37 : F30 5 = pt p1 0 := (hF31 5).trans rfl
 have s38 : F30 10 = pt p14 0 := (hF31 10).trans rfl
 clear hF31
 refine then_normal (wq_seq (wq_seq ?_))
 by_cases d39 : (checkE f) ≠ 0
 ·skip
  refine wq_region (wl_v (.agg #[iv (f.W), iv (f.H), f0, f1, f2]) rfl rfl (y_load_stc stcT_frame rfl s37 B28 rr) (wl_cs rfl rfl rfl rfl rfl (fun _ _ => by kernel_rfl) (vsC rfl vsN) (pl_check f f0 f1 f2 T_f0 T_f1 T_f2 _  B25 B26 B27 ) fun w40 k41 => ?_))
  have B46 := B16.all k41 id
  have K47 := K29.tr k41
  refine wl_v (.bool true) rfl rfl (y_neqI rfl rfl rfl (decide_eq_true d39) rr) (wl_v (.bool true) rfl rfl (y_mov rfl rfl rr) (wl_unless 3 false 15 rfl rfl rfl (Or.inl rfl) rfl (wl_unless 3 false 15 rfl rfl rfl (Or.inl rfl) rfl (wl_v (.bool true) rfl rfl (y_pickT rfl rfl rfl rr) (wl_v (.bool true) rfl rfl (y_mov rfl rfl rr) (wl_unless 7 false 19 rfl rfl rfl (Or.inl rfl) rfl (wl_unless 7 false 19 rfl rfl rfl (Or.inl rfl) rfl (wl_v (.bool true) rfl rfl (y_pickT rfl rfl rfl rr) (wl_v (.bool true) rfl rfl (y_mov rfl rfl rr) (wl_unless 11 false 23 rfl rfl rfl (Or.inl rfl) rfl (wl_unless 11 false 23 rfl rfl rfl (Or.inl rfl) rfl ?_)))))))))))
  refine wl_unless 11 false 23 rfl rfl rfl (Or.inl rfl) rfl (wl_v (.bool true) rfl rfl (y_pickT rfl rfl rfl rr) (wl_v (.bool true) rfl rfl (y_mov rfl rfl rr) (wl_unless 16 false 28 rfl rfl rfl (Or.inl rfl) rfl (wl_unless 16 false 28 rfl rfl rfl (Or.inl rfl) rfl (wl_unless 16 false 28 rfl rfl rfl (Or.inl rfl) rfl (wl_v (.bool true) rfl rfl (y_pickT rfl rfl rfl rr) (wl_nil fun F48 hF49 => ?_)))))))
  obtain ⟨s54, s56⟩ := t2 hF49 55 s36 10 s38
  have s57 : F48 32 = .bool true := (hF49 32).trans rfl
  clear hF49
  refine then_normal ?_
  refine wq_cond (t := true) s57 (fun _ => ?_) (fun e => by cases e)
  refine wq_seq ?_
  have hno : ¬ placeF f p x y := by rintro ⟨h1, h2, h3, h4, h5, h6, h7⟩; first | exact absurd ((checkE_iff f).2 h1) (by assumption) | omega
  refine wq_region (wl_v (blkV (fun _ => 0)) rfl rfl (y_buildR (cells := (arrL 16 (fun _ => 0)).toArray) rfl (by kernel_rfl) rfl rr) (wl_store_blk blkT_block rfl rfl rfl s56 rfl B46 fun w58 B59 k60 => ?_))
  have K65 := K47.trans k60 (Grew.ok (S := fun _ => False) gr20 noB_le)
  refine wl_v (iv 70) rfl rfl (y_asg rfl rfl rr) (wl_nil fun F66 hF67 => ?_)
  obtain ⟨s68, s69⟩ := t2 hF67 55 s54 10 s56
  have s70 : F66 11 = iv 70 := (hF67 11).trans rfl
  clear hF67
  refine then_normal (wq_ret (then_ret ?_))
  exact end_2 s68 rfl (res_blk blkT_block rfl s69 B59) (res_tmp (v := iv 70) rfl s70) ⟨(by first | rw [(pred_no hno).1, (pred_no hno).2] | rw [(pred_none hpl hm).1, (pred_none hpl hm).2] | rw [(pred_yes hpl hm).1, (pred_yes hpl hm).2]), K65⟩
 ·skip
  by_cases d71 : p < 0
  ·skip
   refine wq_region (wl_v (.agg #[iv (f.W), iv (f.H), f0, f1, f2]) rfl rfl (y_load_stc stcT_frame rfl s37 B28 rr) (wl_cs rfl rfl rfl rfl rfl (fun _ _ => by kernel_rfl) (vsC rfl vsN) (pl_check f f0 f1 f2 T_f0 T_f1 T_f2 _  B25 B26 B27 ) fun w72 k73 => ?_))
   have B78 := B16.all k73 id
   have K79 := K29.tr k73
   refine wl_v (.bool false) rfl rfl (y_neqI rfl rfl rfl (decide_eq_false d39) rr) (wl_v (.bool false) rfl rfl (y_mov rfl rfl rr) (wl_vw (iv p) 3 false 15 rfl rfl rfl rfl rfl (y_mov rfl s32 rr) (wl_vw (.bool true) 3 false 15 rfl rfl rfl rfl rfl (y_lss rfl rfl rfl (decide_eq_true d71) rr) (wl_v (.bool true) rfl rfl (y_pickF rfl rfl rfl rr) (wl_v (.bool true) rfl rfl (y_mov rfl rfl rr) (wl_unless 7 false 19 rfl rfl rfl (Or.inl rfl) rfl (wl_unless 7 false 19 rfl rfl rfl (Or.inl rfl) rfl (wl_v (.bool true) rfl rfl (y_pickT rfl rfl rfl rr) (wl_v (.bool true) rfl rfl (y_mov rfl rfl rr) (wl_unless 11 false 23 rfl rfl rfl (Or.inl rfl) rfl (wl_unless 11 false 23 rfl rfl rfl (Or.inl rfl) rfl ?_)))))))))))
   refine wl_unless 11 false 23 rfl rfl rfl (Or.inl rfl) rfl (wl_v (.bool true) rfl rfl (y_pickT rfl rfl rfl rr) (wl_v (.bool true) rfl rfl (y_mov rfl rfl rr) (wl_unless 16 false 28 rfl rfl rfl (Or.inl rfl) rfl (wl_unless 16 false 28 rfl rfl rfl (Or.inl rfl) rfl (wl_unless 16 false 28 rfl rfl rfl (Or.inl rfl) rfl (wl_v (.bool true) rfl rfl (y_pickT rfl rfl rfl rr) (wl_nil fun F80 hF81 => ?_)))))))
   obtain ⟨s86, s88⟩ := t2 hF81 55 s36 10 s38
   have s89 : F80 32 = .bool true := (hF81 32).trans rfl
   clear hF81
   refine then_normal ?_
   refine wq_cond (t := true) s89 (fun _ => ?_) (fun e => by cases e)
   refine wq_seq ?_
   have hno : ¬ placeF f p x y := by rintro ⟨h1, h2, h3, h4, h5, h6, h7⟩; first | exact absurd ((checkE_iff f).2 h1) (by assumption) | omega
   refine wq_region (wl_v (blkV (fun _ => 0)) rfl rfl (y_buildR (cells := (arrL 16 (fun _ => 0)).toArray) rfl (by kernel_rfl) rfl rr) (wl_store_blk blkT_block rfl rfl rfl s88 rfl B78 fun w90 B91 k92 => ?_))
   have K97 := K79.trans k92 (Grew.ok (S := fun _ => False) gr20 noB_le)
   refine wl_v (iv 70) rfl rfl (y_asg rfl rfl rr) (wl_nil fun F98 hF99 => ?_)
   obtain ⟨s100, s101⟩ := t2 hF99 55 s86 10 s88
   have s102 : F98 11 = iv 70 := (hF99 11).trans rfl
   clear hF99
   refine then_normal (wq_ret (then_ret ?_))
   exact end_2 s100 rfl (res_blk blkT_block rfl s101 B91) (res_tmp (v := iv 70) rfl s102) ⟨(by first | rw [(pred_no hno).1, (pred_no hno).2] | rw [(pred_none hpl hm).1, (pred_none hpl hm).2] | rw [(pred_yes hpl hm).1, (pred_yes hpl hm).2]), K97⟩
  ·skip
   by_cases d103 : 3 ≤ p
   ·skip
    refine wq_region (wl_v (.agg #[iv (f.W), iv (f.H), f0, f1, f2]) rfl rfl (y_load_stc stcT_frame rfl s37 B28 rr) (wl_cs rfl rfl rfl rfl rfl (fun _ _ => by kernel_rfl) (vsC rfl vsN) (pl_check f f0 f1 f2 T_f0 T_f1 T_f2 _  B25 B26 B27 ) fun w104 k105 => ?_))
    have B110 := B16.all k105 id
    have K111 := K29.tr k105
    refine wl_v (.bool false) rfl rfl (y_neqI rfl rfl rfl (decide_eq_false d39) rr) (wl_v (.bool false) rfl rfl (y_mov rfl rfl rr) (wl_vw (iv p) 3 false 15 rfl rfl rfl rfl rfl (y_mov rfl s32 rr) (wl_vw (.bool false) 3 false 15 rfl rfl rfl rfl rfl (y_lss rfl rfl rfl (decide_eq_false d71) rr) (wl_v (.bool false) rfl rfl (y_pickF rfl rfl rfl rr) (wl_v (.bool false) rfl rfl (y_mov rfl rfl rr) (wl_vw (iv p) 7 false 19 rfl rfl rfl rfl rfl (y_mov rfl s32 rr) (wl_vw (.bool true) 7 false 19 rfl rfl rfl rfl rfl (y_geq rfl rfl rfl (decide_eq_true d103) rr) (wl_v (.bool true) rfl rfl (y_pickF rfl rfl rfl rr) (wl_v (.bool true) rfl rfl (y_mov rfl rfl rr) (wl_unless 11 false 23 rfl rfl rfl (Or.inl rfl) rfl (wl_unless 11 false 23 rfl rfl rfl (Or.inl rfl) rfl ?_)))))))))))
    refine wl_unless 11 false 23 rfl rfl rfl (Or.inl rfl) rfl (wl_v (.bool true) rfl rfl (y_pickT rfl rfl rfl rr) (wl_v (.bool true) rfl rfl (y_mov rfl rfl rr) (wl_unless 16 false 28 rfl rfl rfl (Or.inl rfl) rfl (wl_unless 16 false 28 rfl rfl rfl (Or.inl rfl) rfl (wl_unless 16 false 28 rfl rfl rfl (Or.inl rfl) rfl (wl_v (.bool true) rfl rfl (y_pickT rfl rfl rfl rr) (wl_nil fun F112 hF113 => ?_)))))))
    obtain ⟨s118, s120⟩ := t2 hF113 55 s36 10 s38
    have s121 : F112 32 = .bool true := (hF113 32).trans rfl
    clear hF113
    refine then_normal ?_
    refine wq_cond (t := true) s121 (fun _ => ?_) (fun e => by cases e)
    refine wq_seq ?_
    have hno : ¬ placeF f p x y := by rintro ⟨h1, h2, h3, h4, h5, h6, h7⟩; first | exact absurd ((checkE_iff f).2 h1) (by assumption) | omega
    refine wq_region (wl_v (blkV (fun _ => 0)) rfl rfl (y_buildR (cells := (arrL 16 (fun _ => 0)).toArray) rfl (by kernel_rfl) rfl rr) (wl_store_blk blkT_block rfl rfl rfl s120 rfl B110 fun w122 B123 k124 => ?_))
    have K129 := K111.trans k124 (Grew.ok (S := fun _ => False) gr20 noB_le)
    refine wl_v (iv 70) rfl rfl (y_asg rfl rfl rr) (wl_nil fun F130 hF131 => ?_)
    obtain ⟨s132, s133⟩ := t2 hF131 55 s118 10 s120
    have s134 : F130 11 = iv 70 := (hF131 11).trans rfl
    clear hF131
    refine then_normal (wq_ret (then_ret ?_))
    exact end_2 s132 rfl (res_blk blkT_block rfl s133 B123) (res_tmp (v := iv 70) rfl s134) ⟨(by first | rw [(pred_no hno).1, (pred_no hno).2] | rw [(pred_none hpl hm).1, (pred_none hpl hm).2] | rw [(pred_yes hpl hm).1, (pred_yes hpl hm).2]), K129⟩
   ·skip
    by_cases d135 : 0 ≤ x ∧ x ≤ 64
    ·skip
     by_cases d136 : 0 ≤ y ∧ y ≤ 64
     ·skip
      refine wq_region (wl_v (.agg #[iv (f.W), iv (f.H), f0, f1, f2]) rfl rfl (y_load_stc stcT_frame rfl s37 B28 rr) (wl_cs rfl rfl rfl rfl rfl (fun _ _ => by kernel_rfl) (vsC rfl vsN) (pl_check f f0 f1 f2 T_f0 T_f1 T_f2 _  B25 B26 B27 ) fun w137 k138 => ?_))
      have B139 := B25.all k138 Apart.none
      have B140 := B26.all k138 Apart.none
      have B141 := B27.all k138 Apart.none
      have B142 := B28.all k138 id
      have B143 := B16.all k138 id
      have K144 := K29.tr k138
      refine wl_v (.bool false) rfl rfl (y_neqI rfl rfl rfl (decide_eq_false d39) rr) (wl_v (.bool false) rfl rfl (y_mov rfl rfl rr) (wl_vw (iv p) 3 false 15 rfl rfl rfl rfl rfl (y_mov rfl s32 rr) (wl_vw (.bool false) 3 false 15 rfl rfl rfl rfl rfl (y_lss rfl rfl rfl (decide_eq_false d71) rr) (wl_v (.bool false) rfl rfl (y_pickF rfl rfl rfl rr) (wl_v (.bool false) rfl rfl (y_mov rfl rfl rr) (wl_vw (iv p) 7 false 19 rfl rfl rfl rfl rfl (y_mov rfl s32 rr) (wl_vw (.bool false) 7 false 19 rfl rfl rfl rfl rfl (y_geq rfl rfl rfl (decide_eq_false d103) rr) (wl_v (.bool false) rfl rfl (y_pickF rfl rfl rfl rr) (wl_v (.bool false) rfl rfl (y_mov rfl rfl rr) (wl_vw (iv x) 11 false 23 rfl rfl rfl rfl rfl (y_mov rfl s33 rr) (wl_callw (R := fun v_ w_ => v_ = .bool true ∧ Kept (fun _ => False) w137 w_) 11 false 23 rfl rfl rfl rfl rfl (y_cs rfl rfl rfl (fun _ _ => by kernel_rfl) (ev_func _) (vsC rfl vsN) (is_place x  _   ) (fun e_ w_ h_ => ⟨_, h_.1, (congrArg Value.bool (decide_eq_true d135)), h_.2⟩)) ?_)))))))))))
      rintro _ w145 ⟨rfl, k146⟩
      have B147 := B139.all k146 Apart.none
      have B148 := B140.all k146 Apart.none
      have B149 := B141.all k146 Apart.none
      have B150 := B142.all k146 id
      have B151 := B143.all k146 id
      have K152 := K144.tr k146
      refine wl_vw (.bool false) 11 false 23 rfl rfl rfl rfl rfl (y_not rfl rfl rfl rr) (wl_v (.bool false) rfl rfl (y_pickF rfl rfl rfl rr) (wl_v (.bool false) rfl rfl (y_mov rfl rfl rr) (wl_vw (iv y) 16 false 28 rfl rfl rfl rfl rfl (y_mov rfl s34 rr) (wl_callw (R := fun v_ w_ => v_ = .bool true ∧ Kept (fun _ => False) w145 w_) 16 false 28 rfl rfl rfl rfl rfl (y_cs rfl rfl rfl (fun _ _ => by kernel_rfl) (ev_func _) (vsC rfl vsN) (is_place y  _   ) (fun e_ w_ h_ => ⟨_, h_.1, (congrArg Value.bool (decide_eq_true d136)), h_.2⟩)) ?_))))
      rintro _ w153 ⟨rfl, k154⟩
      have B155 := B147.all k154 Apart.none
      have B156 := B148.all k154 Apart.none
      have B157 := B149.all k154 Apart.none
      have B158 := B150.all k154 id
      have B159 := B151.all k154 id
      have K160 := K152.tr k154
      refine wl_vw (.bool false) 16 false 28 rfl rfl rfl rfl rfl (y_not rfl rfl rfl rr) (wl_v (.bool false) rfl rfl (y_pickF rfl rfl rfl rr) (wl_nil fun F161 hF162 => ?_))
      obtain ⟨s163, s164, s165, s166, s167, s168, s169⟩ := t7 hF162 1 s32 2 s33 3 s34 4 s35 55 s36 5 s37 10 s38
      have s170 : F161 32 = .bool false := (hF162 32).trans rfl
      clear hF162
      refine then_normal ?_
      refine wq_cond (t := false) s170 (fun e => by cases e) (fun _ => ?_)
      refine wq_skip (then_normal (wq_seq (wq_seq ?_)))
      have hpl : placeF f p x y := ⟨(checkE_iff f).1 (by first | assumption | (apply Decidable.byContradiction; assumption)), by omega, by omega, by omega, by omega, by omega, by omega⟩
      by_cases d171 : mode < 0
      ·skip
       refine wq_region (wl_mv rfl rfl rfl s166 (wl_v (.bool true) rfl rfl (y_lss rfl rfl rfl (decide_eq_true d171) rr) (wl_v (.bool true) rfl rfl (y_mov rfl rfl rr) (wl_unless 2 false 36 rfl rfl rfl (Or.inl rfl) rfl (wl_unless 2 false 36 rfl rfl rfl (Or.inl rfl) rfl (wl_v (.bool true) rfl rfl (y_pickT rfl rfl rfl rr) (wl_nil fun F172 hF173 => ?_)))))))
       obtain ⟨s178, s180⟩ := t2 hF173 55 s167 10 s169
       have s181 : F172 39 = .bool true := (hF173 39).trans rfl
       clear hF173
       refine then_normal ?_
       refine wq_cond (t := true) s181 (fun _ => ?_) (fun e => by cases e)
       refine wq_seq ?_
       have hm : ¬ (0 ≤ mode ∧ mode ≤ 3) := by omega
       refine wq_region (wl_v (blkV (fun _ => 0)) rfl rfl (y_buildR (cells := (arrL 16 (fun _ => 0)).toArray) rfl (by kernel_rfl) rfl rr) (wl_store_blk blkT_block rfl rfl rfl s180 rfl B159 fun w182 B183 k184 => ?_))
       have K189 := K160.trans k184 (Grew.ok (S := fun _ => False) gr20 noB_le)
       refine wl_v (iv 80) rfl rfl (y_asg rfl rfl rr) (wl_nil fun F190 hF191 => ?_)
       obtain ⟨s192, s193⟩ := t2 hF191 55 s178 10 s180
       have s194 : F190 11 = iv 80 := (hF191 11).trans rfl
       clear hF191
       refine then_normal (wq_ret (then_ret ?_))
       exact end_2 s192 rfl (res_blk blkT_block rfl s193 B183) (res_tmp (v := iv 80) rfl s194) ⟨(by first | rw [(pred_no hno).1, (pred_no hno).2] | rw [(pred_none hpl hm).1, (pred_none hpl hm).2] | rw [(pred_yes hpl hm).1, (pred_yes hpl hm).2]), K189⟩
      ·skip
       refine wq_region (wl_mv rfl rfl rfl s166 (wl_v (.bool false) rfl rfl (y_lss rfl rfl rfl (decide_eq_false d171) rr) (wl_v (.bool false) rfl rfl (y_mov rfl rfl rr) (wl_vw (iv mode) 2 false 36 rfl rfl rfl rfl rfl (y_mov rfl s166 rr) (wl_vw (.bool (decide (4 ≤ mode))) 2 false 36 rfl rfl rfl rfl rfl (y_geq rfl rfl rfl rfl rr) (wl_v (.bool (decide (4 ≤ mode))) rfl rfl (y_pickF rfl rfl rfl rr) (wl_nil fun F195 hF196 => ?_)))))))
       obtain ⟨s197, s198, s199, s200, s201, s202, s203⟩ := t7 hF196 1 s163 2 s164 3 s165 4 s166 55 s167 5 s168 10 s169
       have s204 : F195 39 = .bool (decide (4 ≤ mode)) := (hF196 39).trans rfl
       clear hF196
       refine then_normal ?_
       refine wq_cond s204 (fun c205 => ?_) (fun c205 => ?_)
       ·replace c205 := of_decide_eq_true c205
        refine wq_seq ?_
        have hm : ¬ (0 ≤ mode ∧ mode ≤ 3) := by omega
        refine wq_region (wl_v (blkV (fun _ => 0)) rfl rfl (y_buildR (cells := (arrL 16 (fun _ => 0)).toArray) rfl (by kernel_rfl) rfl rr) (wl_store_blk blkT_block rfl rfl rfl s203 rfl B159 fun w206 B207 k208 => ?_))
        have K213 := K160.trans k208 (Grew.ok (S := fun _ => False) gr20 noB_le)
        refine wl_v (iv 80) rfl rfl (y_asg rfl rfl rr) (wl_nil fun F214 hF215 => ?_)
        obtain ⟨s216, s217⟩ := t2 hF215 55 s201 10 s203
        have s218 : F214 11 = iv 80 := (hF215 11).trans rfl
        clear hF215
        refine then_normal (wq_ret (then_ret ?_))
        exact end_2 s216 rfl (res_blk blkT_block rfl s217 B207) (res_tmp (v := iv 80) rfl s218) ⟨(by first | rw [(pred_no hno).1, (pred_no hno).2] | rw [(pred_none hpl hm).1, (pred_none hpl hm).2] | rw [(pred_yes hpl hm).1, (pred_yes hpl hm).2]), K213⟩
       ·replace c205 := of_decide_eq_false c205
        refine wq_skip (then_normal (wq_seq ?_))
        have hm : 0 ≤ mode ∧ mode ≤ 3 := by omega
        refine wq_tail 14 [some 41, some 42, some 43, some 44, some 45, some 46, some 47, some 48, some 49, some 50, some 51, some 52, some 53, some 54] [Pd.eq (.agg #[iv (f.W), iv (f.H), f0, f1, f2]), Pd.eq (iv p), Pd.eq (iv x), Pd.eq (iv y), Pd.eq (.agg (arrL 4 (fun k => aboveF f p x y ((k : Nat) : Int))).toArray), Pd.eq (.agg #[iv (f.W), iv (f.H), f0, f1, f2]), Pd.eq (iv p), Pd.eq (iv x), Pd.eq (iv y), Pd.eq (.agg (arrL 4 (fun k => leftF f p x y ((k : Nat) : Int))).toArray), Pd.fns (predG (fun k => aboveF f p x y ((k : Nat) : Int)) (fun k => leftF f p x y ((k : Nat) : Int))), Pd.eq (iv mode), Pd.ask2 4 (predG (fun k => aboveF f p x y ((k : Nat) : Int)) (fun k => leftF f p x y ((k : Nat) : Int)) mode.toNat), Pd.eq (blkV (predN f p x y mode))] (by kernel_rfl) (by kernel_rfl) (by kernel_rfl) ?_ ?_
        ·refine stepsF_cons ?_ ?_
         ·refine StepF.one rfl fun F_ w_ hR hout hD => ?_
          exact (y_load_stc stcT_frame rfl ((hout 5 rfl (by decide)).trans s202) (B158.all hR id) ⟨rfl, Kept.refl _ _⟩)
         refine stepsF_cons ?_ ?_
         ·refine StepF.one rfl fun F_ w_ hR hout hD => ?_
          exact (y_mov rfl ((hout 1 rfl (by decide)).trans s197) ⟨rfl, Kept.refl _ _⟩)
         refine stepsF_cons ?_ ?_
         ·refine StepF.one rfl fun F_ w_ hR hout hD => ?_
          exact (y_mov rfl ((hout 2 rfl (by decide)).trans s198) ⟨rfl, Kept.refl _ _⟩)
         refine stepsF_cons ?_ ?_
         ·refine StepF.one rfl fun F_ w_ hR hout hD => ?_
          exact (y_mov rfl ((hout 3 rfl (by decide)).trans s199) ⟨rfl, Kept.refl _ _⟩)
         refine stepsF_cons ?_ ?_
         ·refine StepF.one rfl fun F_ w_ hR hout hD => ?_
          have g41 : F_ 41 = .agg #[iv (f.W), iv (f.H), f0, f1, f2] := (hD.get 0 rfl rfl rfl)
          have g42 : F_ 42 = iv p := (hD.get 1 rfl rfl rfl)
          have g43 : F_ 43 = iv x := (hD.get 2 rfl rfl rfl)
          have g44 : F_ 44 = iv y := (hD.get 3 rfl rfl rfl)
          exact (y_cs rfl rfl rfl (fun _ _ => by kernel_rfl) (ev_func _) (vsC g41 (vsC g42 (vsC g43 (vsC g44 vsN)))) (is_above p x y f f0 f1 f2 T_f0 T_f1 T_f2 _ (by omega) (by omega) (B155.all hR Apart.none) (B156.all hR Apart.none) (B157.all hR Apart.none) ) (fun e_ w_ h_ => ⟨_, h_.1, rfl, h_.2⟩))
         refine stepsF_cons ?_ ?_
         ·refine StepF.one rfl fun F_ w_ hR hout hD => ?_
          exact (y_load_stc stcT_frame rfl ((hout 5 rfl (by decide)).trans s202) (B158.all hR id) ⟨rfl, Kept.refl _ _⟩)
         refine stepsF_cons ?_ ?_
         ·refine StepF.one rfl fun F_ w_ hR hout hD => ?_
          exact (y_mov rfl ((hout 1 rfl (by decide)).trans s197) ⟨rfl, Kept.refl _ _⟩)
         refine stepsF_cons ?_ ?_
         ·refine StepF.one rfl fun F_ w_ hR hout hD => ?_
          exact (y_mov rfl ((hout 2 rfl (by decide)).trans s198) ⟨rfl, Kept.refl _ _⟩)
         refine stepsF_cons ?_ ?_
         ·refine StepF.one rfl fun F_ w_ hR hout hD => ?_
          exact (y_mov rfl ((hout 3 rfl (by decide)).trans s199) ⟨rfl, Kept.refl _ _⟩)
         refine stepsF_cons ?_ ?_
         ·refine StepF.one rfl fun F_ w_ hR hout hD => ?_
          have g46 : F_ 46 = .agg #[iv (f.W), iv (f.H), f0, f1, f2] := (hD.get 0 rfl rfl rfl)
          have g47 : F_ 47 = iv p := (hD.get 1 rfl rfl rfl)
          have g48 : F_ 48 = iv x := (hD.get 2 rfl rfl rfl)
          have g49 : F_ 49 = iv y := (hD.get 3 rfl rfl rfl)
          exact (y_cs rfl rfl rfl (fun _ _ => by kernel_rfl) (ev_func _) (vsC g46 (vsC g47 (vsC g48 (vsC g49 vsN)))) (is_left p x y f f0 f1 f2 T_f0 T_f1 T_f2 _ (by omega) (by omega) (B155.all hR Apart.none) (B156.all hR Apart.none) (B157.all hR Apart.none) ) (fun e_ w_ h_ => ⟨_, h_.1, rfl, h_.2⟩))
         refine stepsF_cons ?_ ?_
         ·refine StepF.one rfl fun F_ w_ hR hout hD => ?_
          have g45 : F_ 45 = .agg (arrL 4 (fun k => aboveF f p x y ((k : Nat) : Int))).toArray := (hD.get 0 rfl rfl rfl)
          have g50 : F_ 50 = .agg (arrL 4 (fun k => leftF f p x y ((k : Nat) : Int))).toArray := (hD.get 1 rfl rfl rfl)
          exact (y_cs rfl rfl rfl (fun _ _ => by kernel_rfl) (ev_func _) (vsC g45 (vsC g50 vsN)) (is_predictions (fun k => aboveF f p x y ((k : Nat) : Int)) (fun k => leftF f p x y ((k : Nat) : Int))  _ (fun i => above_le hb p x y _) (fun i => left_le hb p x y _)  ) (fun e_ w_ h_ => by obtain ⟨v_, he_, k_, hb_⟩ := h_; exact ⟨v_, he_, hb_, k_⟩))
         refine stepsF_cons ?_ ?_
         ·refine StepF.one rfl fun F_ w_ hR hout hD => ?_
          exact (y_mov rfl ((hout 4 rfl (by decide)).trans s200) ⟨rfl, Kept.refl _ _⟩)
         refine stepsF_cons ?_ ?_
         ·refine StepF.one rfl fun F_ w_ hR hout hD => ?_
          have g51 : (Pd.fns (predG (fun k => aboveF f p x y ((k : Nat) : Int)) (fun k => leftF f p x y ((k : Nat) : Int)))).says (F_ 51) w_ := hD.get 0 rfl rfl rfl
          have g52 : F_ 52 = iv mode := (hD.get 1 rfl rfl rfl)
          exact y_ixF (mode.toNat) rfl rfl g51 g52 (by omega) (by omega) fun c_ hc_ => ⟨hc_, Kept.refl _ _⟩
         refine stepsF_cons ?_ ?_
         ·refine StepF.one rfl fun F_ w_ hR hout hD => ?_
          have g53 : (Pd.ask2 4 (predG (fun k => aboveF f p x y ((k : Nat) : Int)) (fun k => leftF f p x y ((k : Nat) : Int)) mode.toNat)).says (F_ 53) w_ := hD.get 0 rfl rfl rfl
          exact (y_cs rfl rfl rfl (fun _ _ => by kernel_rfl) (ev_func _) (vsC rfl vsN) (is_filled (F_ 53) (predG (fun k => aboveF f p x y ((k : Nat) : Int)) (fun k => leftF f p x y ((k : Nat) : Int)) mode.toNat)  _ g53  ) (fun e_ w_ h_ => ⟨_, h_.1, congrArg blkV (predG_is hm), h_.2⟩))
         exact stepsF_nil
        intro v219 F220 w221 k222 G223 hF224
        have B230 := B159.all k222 id
        have K231 := K160.tr k222
        obtain ⟨s232, s233⟩ := t2 hF224 55 s201 10 s203
        have s234 : F220 54 = blkV (predN f p x y mode) := (hF224 54).trans (G223 13 (by decide))
        clear G223 hF224
        refine wl_store_blk blkT_block rfl rfl rfl s233 s234 B230 fun w235 B236 k237 => ?_
        have K242 := K231.trans k237 (Grew.ok (S := fun _ => False) gr20 noB_le)
        refine wl_v (iv 0) rfl rfl (y_asg rfl rfl rr) (wl_nil fun F243 hF244 => ?_)
        obtain ⟨s245, s246⟩ := t2 hF244 55 s232 10 s233
        have s247 : F243 11 = iv 0 := (hF244 11).trans rfl
        clear hF244
        refine then_normal (wq_ret ?_)
        exact end_2 s245 rfl (res_blk blkT_block rfl s246 B236) (res_tmp (v := iv 0) rfl s247) ⟨(by first | rw [(pred_no hno).1, (pred_no hno).2] | rw [(pred_none hpl hm).1, (pred_none hpl hm).2] | rw [(pred_yes hpl hm).1, (pred_yes hpl hm).2]), K242⟩
     ·skip
      refine wq_region (wl_v (.agg #[iv (f.W), iv (f.H), f0, f1, f2]) rfl rfl (y_load_stc stcT_frame rfl s37 B28 rr) (wl_cs rfl rfl rfl rfl rfl (fun _ _ => by kernel_rfl) (vsC rfl vsN) (pl_check f f0 f1 f2 T_f0 T_f1 T_f2 _  B25 B26 B27 ) fun w248 k249 => ?_))
      have B254 := B16.all k249 id
      have K255 := K29.tr k249
      refine wl_v (.bool false) rfl rfl (y_neqI rfl rfl rfl (decide_eq_false d39) rr) (wl_v (.bool false) rfl rfl (y_mov rfl rfl rr) (wl_vw (iv p) 3 false 15 rfl rfl rfl rfl rfl (y_mov rfl s32 rr) (wl_vw (.bool false) 3 false 15 rfl rfl rfl rfl rfl (y_lss rfl rfl rfl (decide_eq_false d71) rr) (wl_v (.bool false) rfl rfl (y_pickF rfl rfl rfl rr) (wl_v (.bool false) rfl rfl (y_mov rfl rfl rr) (wl_vw (iv p) 7 false 19 rfl rfl rfl rfl rfl (y_mov rfl s32 rr) (wl_vw (.bool false) 7 false 19 rfl rfl rfl rfl rfl (y_geq rfl rfl rfl (decide_eq_false d103) rr) (wl_v (.bool false) rfl rfl (y_pickF rfl rfl rfl rr) (wl_v (.bool false) rfl rfl (y_mov rfl rfl rr) (wl_vw (iv x) 11 false 23 rfl rfl rfl rfl rfl (y_mov rfl s33 rr) (wl_callw (R := fun v_ w_ => v_ = .bool true ∧ Kept (fun _ => False) w248 w_) 11 false 23 rfl rfl rfl rfl rfl (y_cs rfl rfl rfl (fun _ _ => by kernel_rfl) (ev_func _) (vsC rfl vsN) (is_place x  _   ) (fun e_ w_ h_ => ⟨_, h_.1, (congrArg Value.bool (decide_eq_true d135)), h_.2⟩)) ?_)))))))))))
      rintro _ w256 ⟨rfl, k257⟩
      have B262 := B254.all k257 id
      have K263 := K255.tr k257
      refine wl_vw (.bool false) 11 false 23 rfl rfl rfl rfl rfl (y_not rfl rfl rfl rr) (wl_v (.bool false) rfl rfl (y_pickF rfl rfl rfl rr) (wl_v (.bool false) rfl rfl (y_mov rfl rfl rr) (wl_vw (iv y) 16 false 28 rfl rfl rfl rfl rfl (y_mov rfl s34 rr) (wl_callw (R := fun v_ w_ => v_ = .bool false ∧ Kept (fun _ => False) w256 w_) 16 false 28 rfl rfl rfl rfl rfl (y_cs rfl rfl rfl (fun _ _ => by kernel_rfl) (ev_func _) (vsC rfl vsN) (is_place y  _   ) (fun e_ w_ h_ => ⟨_, h_.1, (congrArg Value.bool (decide_eq_false d136)), h_.2⟩)) ?_))))
      rintro _ w264 ⟨rfl, k265⟩
      have B270 := B262.all k265 id
      have K271 := K263.tr k265
      refine wl_vw (.bool true) 16 false 28 rfl rfl rfl rfl rfl (y_not rfl rfl rfl rr) (wl_v (.bool true) rfl rfl (y_pickF rfl rfl rfl rr) (wl_nil fun F272 hF273 => ?_))
      obtain ⟨s278, s280⟩ := t2 hF273 55 s36 10 s38
      have s281 : F272 32 = .bool true := (hF273 32).trans rfl
      clear hF273
      refine then_normal ?_
      refine wq_cond (t := true) s281 (fun _ => ?_) (fun e => by cases e)
      refine wq_seq ?_
      have hno : ¬ placeF f p x y := by rintro ⟨h1, h2, h3, h4, h5, h6, h7⟩; first | exact absurd ((checkE_iff f).2 h1) (by assumption) | omega
      refine wq_region (wl_v (blkV (fun _ => 0)) rfl rfl (y_buildR (cells := (arrL 16 (fun _ => 0)).toArray) rfl (by kernel_rfl) rfl rr) (wl_store_blk blkT_block rfl rfl rfl s280 rfl B270 fun w282 B283 k284 => ?_))
      have K289 := K271.trans k284 (Grew.ok (S := fun _ => False) gr20 noB_le)
      refine wl_v (iv 70) rfl rfl (y_asg rfl rfl rr) (wl_nil fun F290 hF291 => ?_)
      obtain ⟨s292, s293⟩ := t2 hF291 55 s278 10 s280
      have s294 : F290 11 = iv 70 := (hF291 11).trans rfl
      clear hF291
      refine then_normal (wq_ret (then_ret ?_))
      exact end_2 s292 rfl (res_blk blkT_block rfl s293 B283) (res_tmp (v := iv 70) rfl s294) ⟨(by first | rw [(pred_no hno).1, (pred_no hno).2] | rw [(pred_none hpl hm).1, (pred_none hpl hm).2] | rw [(pred_yes hpl hm).1, (pred_yes hpl hm).2]), K289⟩
    ·skip
     refine wq_region (wl_v (.agg #[iv (f.W), iv (f.H), f0, f1, f2]) rfl rfl (y_load_stc stcT_frame rfl s37 B28 rr) (wl_cs rfl rfl rfl rfl rfl (fun _ _ => by kernel_rfl) (vsC rfl vsN) (pl_check f f0 f1 f2 T_f0 T_f1 T_f2 _  B25 B26 B27 ) fun w295 k296 => ?_))
     have B301 := B16.all k296 id
     have K302 := K29.tr k296
     refine wl_v (.bool false) rfl rfl (y_neqI rfl rfl rfl (decide_eq_false d39) rr) (wl_v (.bool false) rfl rfl (y_mov rfl rfl rr) (wl_vw (iv p) 3 false 15 rfl rfl rfl rfl rfl (y_mov rfl s32 rr) (wl_vw (.bool false) 3 false 15 rfl rfl rfl rfl rfl (y_lss rfl rfl rfl (decide_eq_false d71) rr) (wl_v (.bool false) rfl rfl (y_pickF rfl rfl rfl rr) (wl_v (.bool false) rfl rfl (y_mov rfl rfl rr) (wl_vw (iv p) 7 false 19 rfl rfl rfl rfl rfl (y_mov rfl s32 rr) (wl_vw (.bool false) 7 false 19 rfl rfl rfl rfl rfl (y_geq rfl rfl rfl (decide_eq_false d103) rr) (wl_v (.bool false) rfl rfl (y_pickF rfl rfl rfl rr) (wl_v (.bool false) rfl rfl (y_mov rfl rfl rr) (wl_vw (iv x) 11 false 23 rfl rfl rfl rfl rfl (y_mov rfl s33 rr) (wl_callw (R := fun v_ w_ => v_ = .bool false ∧ Kept (fun _ => False) w295 w_) 11 false 23 rfl rfl rfl rfl rfl (y_cs rfl rfl rfl (fun _ _ => by kernel_rfl) (ev_func _) (vsC rfl vsN) (is_place x  _   ) (fun e_ w_ h_ => ⟨_, h_.1, (congrArg Value.bool (decide_eq_false d135)), h_.2⟩)) ?_)))))))))))
     rintro _ w303 ⟨rfl, k304⟩
     have B309 := B301.all k304 id
     have K310 := K302.tr k304
     refine wl_vw (.bool true) 11 false 23 rfl rfl rfl rfl rfl (y_not rfl rfl rfl rr) (wl_v (.bool true) rfl rfl (y_pickF rfl rfl rfl rr) (wl_v (.bool true) rfl rfl (y_mov rfl rfl rr) (wl_unless 16 false 28 rfl rfl rfl (Or.inl rfl) rfl (wl_unless 16 false 28 rfl rfl rfl (Or.inl rfl) rfl (wl_unless 16 false 28 rfl rfl rfl (Or.inl rfl) rfl (wl_v (.bool true) rfl rfl (y_pickT rfl rfl rfl rr) (wl_nil fun F311 hF312 => ?_)))))))
     obtain ⟨s317, s319⟩ := t2 hF312 55 s36 10 s38
     have s320 : F311 32 = .bool true := (hF312 32).trans rfl
     clear hF312
     refine then_normal ?_
     refine wq_cond (t := true) s320 (fun _ => ?_) (fun e => by cases e)
     refine wq_seq ?_
     have hno : ¬ placeF f p x y := by rintro ⟨h1, h2, h3, h4, h5, h6, h7⟩; first | exact absurd ((checkE_iff f).2 h1) (by assumption) | omega
     refine wq_region (wl_v (blkV (fun _ => 0)) rfl rfl (y_buildR (cells := (arrL 16 (fun _ => 0)).toArray) rfl (by kernel_rfl) rfl rr) (wl_store_blk blkT_block rfl rfl rfl s319 rfl B309 fun w321 B322 k323 => ?_))
     have K328 := K310.trans k323 (Grew.ok (S := fun _ => False) gr20 noB_le)
     refine wl_v (iv 70) rfl rfl (y_asg rfl rfl rr) (wl_nil fun F329 hF330 => ?_)
     obtain ⟨s331, s332⟩ := t2 hF330 55 s317 10 s319
     have s333 : F329 11 = iv 70 := (hF330 11).trans rfl
     clear hF330
     refine then_normal (wq_ret (then_ret ?_))
     exact end_2 s331 rfl (res_blk blkT_block rfl s332 B322) (res_tmp (v := iv 70) rfl s333) ⟨(by first | rw [(pred_no hno).1, (pred_no hno).2] | rw [(pred_none hpl hm).1, (pred_none hpl hm).2] | rw [(pred_yes hpl hm).1, (pred_yes hpl hm).2]), K328⟩
end Go.Proofs.YtknjpdcpmpfklaaGreatDoor
set_option maxRecDepth 100000
namespace Go.Proofs.YtknjpdcpmpfklaaGreatDoor
open Go.RowKit
theorem iref_above (p x y k : Int) (f : FD) (f0 f1 f2 : Value) (T_f0 : Nat → Prop) (T_f1 : Nat → Prop) (T_f2 : Nat → Prop) (w0 : World) (hx : 0 ≤ x ∧ x ≤ 64) (hy : 0 ≤ y ∧ y ≤ 64) (hk : 0 ≤ k ∧ k ≤ 3) (h_f0 : Byt w0 T_f0 f0 ((f).p0)) (h_f1 : Byt w0 T_f1 f1 ((f).p1)) (h_f2 : Byt w0 T_f2 f2 ((f).p2)) :
  Calls Tryz.prog 117 #[.agg #[.int .i64 ((f).W), .int .i64 ((f).H), f0, f1, f2], .int .i64 (p), .int .i64 (x), .int .i64 (y), .int .i64 (k)] w0 fun e w' => e = .returned (.int .i64 (aboveF f p x y k)) ∧ Kept (fun _ => False) w0 w' := by
 refine calls_wq (args := [.agg #[iv (f.W), iv (f.H), f0, f1, f2], iv p, iv x, iv y, iv k]) 21 Tryz.func117 rfl rfl (Nat.le_of_ble_eq_true rfl) ?_
 have K0 := Kept.refl (fun _ => False) w0
 have g_f0 := Grew.refl w0 T_f0
 have g_f1 := Grew.refl w0 T_f1
 have g_f2 := Grew.refl w0 T_f2
 refine wq_seq (wq_region (wl_box_stc (vs := [iv (f.W), iv (f.H), f0, f1, f2]) rfl rfl rfl rfl fun p1 w2 B4 g5 k3 => ?_))
 have B10 := h_f0.all k3 Apart.none
 have B11 := h_f1.all k3 Apart.none
 have B12 := h_f2.all k3 Apart.none
 have K13 := K0.tr k3
 refine wl_v (iv 0) rfl rfl (y_asg rfl rfl rr) (wl_nil fun F14 hF15 => ?_)
 have s16 : F14 1 = iv p := (hF15 1).trans rfl
 have s17 : F14 2 = iv x := (hF15 2).trans rfl
 have s18 : F14 3 = iv y := (hF15 3).trans rfl
 have s19 : F14 4 = iv k := (hF15 4).trans rfl
 have s20 : F14 21 = undef := (hF15 21).trans rfl
 have s21 : F14 5 = pt p1 0 := (hF15 5).trans rfl
 clear hF15
 refine then_normal (wq_seq (wq_seq (wq_region (wl_mv rfl rfl rfl s18 (wl_v (.bool (decide (y ≤ 0))) rfl rfl (y_leq rfl rfl rfl rfl rr) (wl_nil fun F22 hF23 => ?_))))))
 obtain ⟨s24, s25, s26, s27, s28, s29⟩ := t6 hF23 1 s16 2 s17 3 s18 4 s19 21 s20 5 s21
 have s30 : F22 12 = .bool (decide (y ≤ 0)) := (hF23 12).trans rfl
 clear hF23
 refine then_normal ?_
 refine wq_cond s30 (fun c31 => ?_) (fun c31 => ?_)
 ·replace c31 := of_decide_eq_true c31
  refine wq_seq (wq_region (wl_v (iv 128) rfl rfl (y_asg rfl rfl rr) (wl_nil fun F32 hF33 => ?_)))
  have s34 := (hF33 21).trans s28
  have s35 : F32 10 = iv 128 := (hF33 10).trans rfl
  clear hF33
  refine then_normal (wq_ret (then_ret ?_))
  exact end_tmp (v := iv 128) s34 rfl rfl s35 ⟨(by first | rw [above_none (by assumption)] | rw [above_some (by assumption)]), K13⟩
 ·replace c31 := of_decide_eq_false c31
  refine wq_skip (then_normal (wq_seq (wq_region (wl_v (.agg #[iv (f.W), iv (f.H), f0, f1, f2]) rfl rfl (y_load_stc stcT_frame rfl s29 B4 rr) (wl_mv rfl rfl rfl s24 (wl_mv rfl rfl rfl s25 (wl_mv rfl rfl rfl s27 (wl_v (iv (x + k)) rfl rfl (y_add rfl rfl rfl (i64_i rfl (by omega)) rr) (wl_mv rfl rfl rfl s26 (wl_v (iv (y - 1)) rfl rfl (y_sub rfl rfl rfl (i64_i rfl (by omega)) rr) (wl_cs rfl rfl rfl rfl rfl (fun _ _ => by kernel_rfl) (vsC rfl (vsC rfl (vsC rfl (vsC rfl vsN)))) (fref_at p (x + k) (y - 1) f f0 f1 f2 T_f0 T_f1 T_f2 _  B10 B11 B12 ) fun w36 k37 => ?_)))))))))))
  have K42 := K13.tr k37
  refine wl_v (iv (atF f p (x + k) (y - 1))) rfl rfl (y_asg rfl rfl rr) (wl_nil fun F43 hF44 => ?_)
  have s45 := (hF44 21).trans s28
  have s46 : F43 10 = iv (atF f p (x + k) (y - 1)) := (hF44 10).trans rfl
  clear hF44
  refine then_normal (wq_ret ?_)
  exact end_tmp (v := iv (atF f p (x + k) (y - 1))) s45 rfl rfl s46 ⟨(by first | rw [above_none (by assumption)] | rw [above_some (by assumption)]), K42⟩
theorem iref_left (p x y k : Int) (f : FD) (f0 f1 f2 : Value) (T_f0 : Nat → Prop) (T_f1 : Nat → Prop) (T_f2 : Nat → Prop) (w0 : World) (hx : 0 ≤ x ∧ x ≤ 64) (hy : 0 ≤ y ∧ y ≤ 64) (hk : 0 ≤ k ∧ k ≤ 3) (h_f0 : Byt w0 T_f0 f0 ((f).p0)) (h_f1 : Byt w0 T_f1 f1 ((f).p1)) (h_f2 : Byt w0 T_f2 f2 ((f).p2)) :
  Calls Tryz.prog 118 #[.agg #[.int .i64 ((f).W), .int .i64 ((f).H), f0, f1, f2], .int .i64 (p), .int .i64 (x), .int .i64 (y), .int .i64 (k)] w0 fun e w' => e = .returned (.int .i64 (leftF f p x y k)) ∧ Kept (fun _ => False) w0 w' := by
 refine calls_wq (args := [.agg #[iv (f.W), iv (f.H), f0, f1, f2], iv p, iv x, iv y, iv k]) 21 Tryz.func118 rfl rfl (Nat.le_of_ble_eq_true rfl) ?_
 have K0 := Kept.refl (fun _ => False) w0
 have g_f0 := Grew.refl w0 T_f0
 have g_f1 := Grew.refl w0 T_f1
 have g_f2 := Grew.refl w0 T_f2
 refine wq_seq (wq_region (wl_box_stc (vs := [iv (f.W), iv (f.H), f0, f1, f2]) rfl rfl rfl rfl fun p1 w2 B4 g5 k3 => ?_))
 have B10 := h_f0.all k3 Apart.none
 have B11 := h_f1.all k3 Apart.none
 have B12 := h_f2.all k3 Apart.none
 have K13 := K0.tr k3
 refine wl_v (iv 0) rfl rfl (y_asg rfl rfl rr) (wl_nil fun F14 hF15 => ?_)
 have s16 : F14 1 = iv p := (hF15 1).trans rfl
 have s17 : F14 2 = iv x := (hF15 2).trans rfl
 have s18 : F14 3 = iv y := (hF15 3).trans rfl
 have s19 : F14 4 = iv k := (hF15 4).trans rfl
 have s20 : F14 21 = undef := (hF15 21).trans rfl
 have s21 : F14 5 = pt p1 0 := (hF15 5).trans rfl
 clear hF15
 refine then_normal (wq_seq (wq_seq (wq_region (wl_mv rfl rfl rfl s17 (wl_v (.bool (decide (x ≤ 0))) rfl rfl (y_leq rfl rfl rfl rfl rr) (wl_nil fun F22 hF23 => ?_))))))
 obtain ⟨s24, s25, s26, s27, s28, s29⟩ := t6 hF23 1 s16 2 s17 3 s18 4 s19 21 s20 5 s21
 have s30 : F22 12 = .bool (decide (x ≤ 0)) := (hF23 12).trans rfl
 clear hF23
 refine then_normal ?_
 refine wq_cond s30 (fun c31 => ?_) (fun c31 => ?_)
 ·replace c31 := of_decide_eq_true c31
  refine wq_seq (wq_region (wl_v (iv 128) rfl rfl (y_asg rfl rfl rr) (wl_nil fun F32 hF33 => ?_)))
  have s34 := (hF33 21).trans s28
  have s35 : F32 10 = iv 128 := (hF33 10).trans rfl
  clear hF33
  refine then_normal (wq_ret (then_ret ?_))
  exact end_tmp (v := iv 128) s34 rfl rfl s35 ⟨(by first | rw [left_none (by assumption)] | rw [left_some (by assumption)]), K13⟩
 ·replace c31 := of_decide_eq_false c31
  refine wq_skip (then_normal (wq_seq (wq_region (wl_v (.agg #[iv (f.W), iv (f.H), f0, f1, f2]) rfl rfl (y_load_stc stcT_frame rfl s29 B4 rr) (wl_mv rfl rfl rfl s24 (wl_mv rfl rfl rfl s25 (wl_v (iv (x - 1)) rfl rfl (y_sub rfl rfl rfl (i64_i rfl (by omega)) rr) (wl_mv rfl rfl rfl s26 (wl_mv rfl rfl rfl s27 (wl_v (iv (y + k)) rfl rfl (y_add rfl rfl rfl (i64_i rfl (by omega)) rr) (wl_cs rfl rfl rfl rfl rfl (fun _ _ => by kernel_rfl) (vsC rfl (vsC rfl (vsC rfl (vsC rfl vsN)))) (fref_at p (x - 1) (y + k) f f0 f1 f2 T_f0 T_f1 T_f2 _  B10 B11 B12 ) fun w36 k37 => ?_)))))))))))
  have K42 := K13.tr k37
  refine wl_v (iv (atF f p (x - 1) (y + k))) rfl rfl (y_asg rfl rfl rr) (wl_nil fun F43 hF44 => ?_)
  have s45 := (hF44 21).trans s28
  have s46 : F43 10 = iv (atF f p (x - 1) (y + k)) := (hF44 10).trans rfl
  clear hF44
  refine then_normal (wq_ret ?_)
  exact end_tmp (v := iv (atF f p (x - 1) (y + k))) s45 rfl rfl s46 ⟨(by first | rw [left_none (by assumption)] | rw [left_some (by assumption)]), K42⟩
theorem iref_predict (p x y mode : Int) (f : FD) (f0 f1 f2 : Value) (T_f0 : Nat → Prop) (T_f1 : Nat → Prop) (T_f2 : Nat → Prop) (w0 : World) (h_f0 : Byt w0 T_f0 f0 ((f).p0)) (h_f1 : Byt w0 T_f1 f1 ((f).p1)) (h_f2 : Byt w0 T_f2 f2 ((f).p2)) :
  Calls Tryz.prog 80 #[.agg #[.int .i64 ((f).W), .int .i64 ((f).H), f0, f1, f2], .int .i64 (p), .int .i64 (x), .int .i64 (y), .int .i64 (mode)] w0 fun e w' => e = .returned (.tuple #[blkV (predB f p x y mode), .int .i64 (predE f p x y mode)]) ∧ Kept (fun _ => False) w0 w' := by
 refine calls_wq (args := [.agg #[iv (f.W), iv (f.H), f0, f1, f2], iv p, iv x, iv y, iv mode]) 116 Tryz.func80 rfl rfl (Nat.le_of_ble_eq_true rfl) ?_
 have K0 := Kept.refl (fun _ => False) w0
 have hb : Bytes3 f := ⟨h_f0.lt256, h_f1.lt256, h_f2.lt256⟩
 have g_f0 := Grew.refl w0 T_f0
 have g_f1 := Grew.refl w0 T_f1
 have g_f2 := Grew.refl w0 T_f2
 refine wq_seq (wq_region (wl_box_stc (vs := [iv (f.W), iv (f.H), f0, f1, f2]) rfl rfl rfl rfl fun p1 w2 B4 g5 k3 => ?_))
 have B10 := h_f0.all k3 Apart.none
 have B11 := h_f1.all k3 Apart.none
 have B12 := h_f2.all k3 Apart.none
 have K13 := K0.tr k3
 refine wl_alloc_blk rfl rfl rfl blkT_arr.2.2 fun p14 w15 e18 B16 k17 => ?_
 have g19 := onB_new (Nat.le_of_eq e18.symm)
 have gr20 : Grew w0 noB (onB p14) := Grew.new K13 g19
 clear e18 g19
 have B25 := B10.all k17 Apart.none
 have B26 := B11.all k17 Apart.none
 have B27 := B12.all k17 Apart.none
 have B28 := B4.all k17 id
 have K29 := K13.tr k17
 refine wl_v (iv 0) rfl rfl (y_asg rfl rfl rr) (wl_nil fun F30 hF31 => ?_)
 have s32 : F30 1 = iv p := (hF31 1).trans rfl
 have s33 : F30 2 = iv x := (hF31 2).trans rfl
 have s34 : F30 3 = iv y := (hF31 3).trans rfl
 have s35 : F30 4 = iv mode := (hF31 4).trans rfl
 have s36 : F30 116 = undef := (hF31 116).trans rfl
 have s37 : F30 5 = pt p1 0 := (hF31 5).trans rfl
 have s38 : F30 10 = pt p14 0 := (hF31 10).trans rfl
 clear hF31
 refine then_normal (wq_seq (wq_region (wl_v (blkV (fun _ => 0)) rfl rfl (y_buildR (cells := (arrL 16 (fun _ => 0)).toArray) rfl (by kernel_rfl) rfl rr) (wl_alloc_blk rfl rfl rfl blkT_arr.2.2 fun p39 w40 e43 B41 k42 => ?_))))
 have g44 := onB_new (Nat.le_of_eq e43.symm)
 have gr45 : Grew w0 noB (onB p39) := Grew.new K29 g44
 have ap46 : Apart (onB p39) T_f0 := Apart.new g44 B25.live
 have ap47 : Apart (onB p39) T_f1 := Apart.new g44 B26.live
 have ap48 : Apart (onB p39) T_f2 := Apart.new g44 B27.live
 have ap49 : Apart (onB p39) (onB p1) := Apart.new g44 (onB_live B28.lt)
 have ap50 : Apart (onB p39) (onB p14) := Apart.new g44 (onB_live B16.lt)
 clear e43 g44
 have B51 := B25.all k42 Apart.none
 have B52 := B26.all k42 Apart.none
 have B53 := B27.all k42 Apart.none
 have B54 := B28.all k42 id
 have B55 := B16.all k42 id
 have K56 := K29.tr k42
 refine wl_store_blk blkT_arr rfl rfl rfl rfl rfl B41 fun w57 B58 k59 => ?_
 have B60 := B51.all k59 ap46.symm
 have B61 := B52.all k59 ap47.symm
 have B62 := B53.all k59 ap48.symm
 have B63 := B54.all k59 (ap49.symm p1 rfl)
 have B64 := B55.all k59 (ap50.symm p14 rfl)
 have K65 := K56.trans k59 (Grew.ok (S := fun _ => False) gr45 noB_le)
 refine wl_nil fun F66 hF67 => ?_
 obtain ⟨s68, s69, s70, s71, s72, s73, s74⟩ := t7 hF67 1 s32 2 s33 3 s34 4 s35 116 s36 5 s37 10 s38
 have s75 : F66 12 = pt p39 0 := (hF67 12).trans rfl
 clear hF67
 refine then_normal (wq_seq (wq_seq ?_))
 by_cases d76 : (checkE f) ≠ 0
 ·skip
  refine wq_region (wl_v (.agg #[iv (f.W), iv (f.H), f0, f1, f2]) rfl rfl (y_load_stc stcT_frame rfl s73 B63 rr) (wl_cs rfl rfl rfl rfl rfl (fun _ _ => by kernel_rfl) (vsC rfl vsN) (fref_check f f0 f1 f2 T_f0 T_f1 T_f2 _  B60 B61 B62 ) fun w77 k78 => ?_))
  have B83 := B64.all k78 id
  have B84 := B58.all k78 id
  have K85 := K65.tr k78
  refine wl_v (.bool true) rfl rfl (y_neqI rfl rfl rfl (decide_eq_true d76) rr) (wl_v (.bool true) rfl rfl (y_mov rfl rfl rr) (wl_unless 3 false 22 rfl rfl rfl (Or.inl rfl) rfl (wl_unless 3 false 22 rfl rfl rfl (Or.inl rfl) rfl (wl_v (.bool true) rfl rfl (y_pickT rfl rfl rfl rr) (wl_v (.bool true) rfl rfl (y_mov rfl rfl rr) (wl_unless 7 false 26 rfl rfl rfl (Or.inl rfl) rfl (wl_unless 7 false 26 rfl rfl rfl (Or.inl rfl) rfl (wl_v (.bool true) rfl rfl (y_pickT rfl rfl rfl rr) (wl_v (.bool true) rfl rfl (y_mov rfl rfl rr) (wl_unless 11 false 30 rfl rfl rfl (Or.inl rfl) rfl (wl_unless 11 false 30 rfl rfl rfl (Or.inl rfl) rfl ?_)))))))))))
  refine wl_v (.bool true) rfl rfl (y_pickT rfl rfl rfl rr) (wl_v (.bool true) rfl rfl (y_mov rfl rfl rr) (wl_unless 15 false 34 rfl rfl rfl (Or.inl rfl) rfl (wl_unless 15 false 34 rfl rfl rfl (Or.inl rfl) rfl (wl_v (.bool true) rfl rfl (y_pickT rfl rfl rfl rr) (wl_v (.bool true) rfl rfl (y_mov rfl rfl rr) (wl_unless 19 false 38 rfl rfl rfl (Or.inl rfl) rfl (wl_unless 19 false 38 rfl rfl rfl (Or.inl rfl) rfl (wl_v (.bool true) rfl rfl (y_pickT rfl rfl rfl rr) (wl_v (.bool true) rfl rfl (y_mov rfl rfl rr) (wl_unless 23 false 42 rfl rfl rfl (Or.inl rfl) rfl (wl_unless 23 false 42 rfl rfl rfl (Or.inl rfl) rfl ?_)))))))))))
  refine wl_v (.bool true) rfl rfl (y_pickT rfl rfl rfl rr) (wl_nil fun F86 hF87 => ?_)
  obtain ⟨s92, s94, s95⟩ := t3 hF87 116 s72 10 s74 12 s75
  have s96 : F86 45 = .bool true := (hF87 45).trans rfl
  clear hF87
  refine then_normal ?_
  refine wq_cond (t := true) s96 (fun _ => ?_) (fun e => by cases e)
  refine wq_seq ?_
  have hno : ¬ placeF f p x y := by rintro ⟨h1, h2, h3, h4, h5, h6, h7⟩; first | exact absurd ((checkE_iff f).2 h1) (by assumption) | omega
  refine wq_region (wl_v (blkV (fun _ => 0)) rfl rfl (y_load_blk blkT_arr rfl s95 B84 rr) (wl_store_blk blkT_arr rfl rfl rfl s94 rfl B83 fun w97 B98 k99 => ?_))
  have K105 := K85.trans k99 (Grew.ok (S := fun _ => False) gr20 noB_le)
  refine wl_v (iv 70) rfl rfl (y_asg rfl rfl rr) (wl_nil fun F106 hF107 => ?_)
  obtain ⟨s108, s109⟩ := t2 hF107 116 s92 10 s94
  have s110 : F106 11 = iv 70 := (hF107 11).trans rfl
  clear hF107
  refine then_normal (wq_ret (then_ret ?_))
  exact end_2 s108 rfl (res_blk blkT_arr rfl s109 B98) (res_tmp (v := iv 70) rfl s110) ⟨(by first | rw [(pred_no hno).1, (pred_no hno).2] | rw [(pred_none hpl (by omega)).1, (pred_none hpl (by omega)).2] | rw [(pred_yes hpl (by decide)).1, (pred_yes hpl (by decide)).2]), K105⟩
 ·skip
  by_cases d111 : p < 0
  ·skip
   refine wq_region (wl_v (.agg #[iv (f.W), iv (f.H), f0, f1, f2]) rfl rfl (y_load_stc stcT_frame rfl s73 B63 rr) (wl_cs rfl rfl rfl rfl rfl (fun _ _ => by kernel_rfl) (vsC rfl vsN) (fref_check f f0 f1 f2 T_f0 T_f1 T_f2 _  B60 B61 B62 ) fun w112 k113 => ?_))
   have B118 := B64.all k113 id
   have B119 := B58.all k113 id
   have K120 := K65.tr k113
   refine wl_v (.bool false) rfl rfl (y_neqI rfl rfl rfl (decide_eq_false d76) rr) (wl_v (.bool false) rfl rfl (y_mov rfl rfl rr) (wl_vw (iv p) 3 false 22 rfl rfl rfl rfl rfl (y_mov rfl s68 rr) (wl_vw (.bool true) 3 false 22 rfl rfl rfl rfl rfl (y_lss rfl rfl rfl (decide_eq_true d111) rr) (wl_v (.bool true) rfl rfl (y_pickF rfl rfl rfl rr) (wl_v (.bool true) rfl rfl (y_mov rfl rfl rr) (wl_unless 7 false 26 rfl rfl rfl (Or.inl rfl) rfl (wl_unless 7 false 26 rfl rfl rfl (Or.inl rfl) rfl (wl_v (.bool true) rfl rfl (y_pickT rfl rfl rfl rr) (wl_v (.bool true) rfl rfl (y_mov rfl rfl rr) (wl_unless 11 false 30 rfl rfl rfl (Or.inl rfl) rfl (wl_unless 11 false 30 rfl rfl rfl (Or.inl rfl) rfl ?_)))))))))))
   refine wl_v (.bool true) rfl rfl (y_pickT rfl rfl rfl rr) (wl_v (.bool true) rfl rfl (y_mov rfl rfl rr) (wl_unless 15 false 34 rfl rfl rfl (Or.inl rfl) rfl (wl_unless 15 false 34 rfl rfl rfl (Or.inl rfl) rfl (wl_v (.bool true) rfl rfl (y_pickT rfl rfl rfl rr) (wl_v (.bool true) rfl rfl (y_mov rfl rfl rr) (wl_unless 19 false 38 rfl rfl rfl (Or.inl rfl) rfl (wl_unless 19 false 38 rfl rfl rfl (Or.inl rfl) rfl (wl_v (.bool true) rfl rfl (y_pickT rfl rfl rfl rr) (wl_v (.bool true) rfl rfl (y_mov rfl rfl rr) (wl_unless 23 false 42 rfl rfl rfl (Or.inl rfl) rfl (wl_unless 23 false 42 rfl rfl rfl (Or.inl rfl) rfl ?_)))))))))))
   refine wl_v (.bool true) rfl rfl (y_pickT rfl rfl rfl rr) (wl_nil fun F121 hF122 => ?_)
   obtain ⟨s127, s129, s130⟩ := t3 hF122 116 s72 10 s74 12 s75
   have s131 : F121 45 = .bool true := (hF122 45).trans rfl
   clear hF122
   refine then_normal ?_
   refine wq_cond (t := true) s131 (fun _ => ?_) (fun e => by cases e)
   refine wq_seq ?_
   have hno : ¬ placeF f p x y := by rintro ⟨h1, h2, h3, h4, h5, h6, h7⟩; first | exact absurd ((checkE_iff f).2 h1) (by assumption) | omega
   refine wq_region (wl_v (blkV (fun _ => 0)) rfl rfl (y_load_blk blkT_arr rfl s130 B119 rr) (wl_store_blk blkT_arr rfl rfl rfl s129 rfl B118 fun w132 B133 k134 => ?_))
   have K140 := K120.trans k134 (Grew.ok (S := fun _ => False) gr20 noB_le)
   refine wl_v (iv 70) rfl rfl (y_asg rfl rfl rr) (wl_nil fun F141 hF142 => ?_)
   obtain ⟨s143, s144⟩ := t2 hF142 116 s127 10 s129
   have s145 : F141 11 = iv 70 := (hF142 11).trans rfl
   clear hF142
   refine then_normal (wq_ret (then_ret ?_))
   exact end_2 s143 rfl (res_blk blkT_arr rfl s144 B133) (res_tmp (v := iv 70) rfl s145) ⟨(by first | rw [(pred_no hno).1, (pred_no hno).2] | rw [(pred_none hpl (by omega)).1, (pred_none hpl (by omega)).2] | rw [(pred_yes hpl (by decide)).1, (pred_yes hpl (by decide)).2]), K140⟩
  ·skip
   by_cases d146 : 2 < p
   ·skip
    refine wq_region (wl_v (.agg #[iv (f.W), iv (f.H), f0, f1, f2]) rfl rfl (y_load_stc stcT_frame rfl s73 B63 rr) (wl_cs rfl rfl rfl rfl rfl (fun _ _ => by kernel_rfl) (vsC rfl vsN) (fref_check f f0 f1 f2 T_f0 T_f1 T_f2 _  B60 B61 B62 ) fun w147 k148 => ?_))
    have B153 := B64.all k148 id
    have B154 := B58.all k148 id
    have K155 := K65.tr k148
    refine wl_v (.bool false) rfl rfl (y_neqI rfl rfl rfl (decide_eq_false d76) rr) (wl_v (.bool false) rfl rfl (y_mov rfl rfl rr) (wl_vw (iv p) 3 false 22 rfl rfl rfl rfl rfl (y_mov rfl s68 rr) (wl_vw (.bool false) 3 false 22 rfl rfl rfl rfl rfl (y_lss rfl rfl rfl (decide_eq_false d111) rr) (wl_v (.bool false) rfl rfl (y_pickF rfl rfl rfl rr) (wl_v (.bool false) rfl rfl (y_mov rfl rfl rr) (wl_vw (iv p) 7 false 26 rfl rfl rfl rfl rfl (y_mov rfl s68 rr) (wl_vw (.bool true) 7 false 26 rfl rfl rfl rfl rfl (y_gtr rfl rfl rfl (decide_eq_true d146) rr) (wl_v (.bool true) rfl rfl (y_pickF rfl rfl rfl rr) (wl_v (.bool true) rfl rfl (y_mov rfl rfl rr) (wl_unless 11 false 30 rfl rfl rfl (Or.inl rfl) rfl (wl_unless 11 false 30 rfl rfl rfl (Or.inl rfl) rfl ?_)))))))))))
    refine wl_v (.bool true) rfl rfl (y_pickT rfl rfl rfl rr) (wl_v (.bool true) rfl rfl (y_mov rfl rfl rr) (wl_unless 15 false 34 rfl rfl rfl (Or.inl rfl) rfl (wl_unless 15 false 34 rfl rfl rfl (Or.inl rfl) rfl (wl_v (.bool true) rfl rfl (y_pickT rfl rfl rfl rr) (wl_v (.bool true) rfl rfl (y_mov rfl rfl rr) (wl_unless 19 false 38 rfl rfl rfl (Or.inl rfl) rfl (wl_unless 19 false 38 rfl rfl rfl (Or.inl rfl) rfl (wl_v (.bool true) rfl rfl (y_pickT rfl rfl rfl rr) (wl_v (.bool true) rfl rfl (y_mov rfl rfl rr) (wl_unless 23 false 42 rfl rfl rfl (Or.inl rfl) rfl (wl_unless 23 false 42 rfl rfl rfl (Or.inl rfl) rfl ?_)))))))))))
    refine wl_v (.bool true) rfl rfl (y_pickT rfl rfl rfl rr) (wl_nil fun F156 hF157 => ?_)
    obtain ⟨s162, s164, s165⟩ := t3 hF157 116 s72 10 s74 12 s75
    have s166 : F156 45 = .bool true := (hF157 45).trans rfl
    clear hF157
    refine then_normal ?_
    refine wq_cond (t := true) s166 (fun _ => ?_) (fun e => by cases e)
    refine wq_seq ?_
    have hno : ¬ placeF f p x y := by rintro ⟨h1, h2, h3, h4, h5, h6, h7⟩; first | exact absurd ((checkE_iff f).2 h1) (by assumption) | omega
    refine wq_region (wl_v (blkV (fun _ => 0)) rfl rfl (y_load_blk blkT_arr rfl s165 B154 rr) (wl_store_blk blkT_arr rfl rfl rfl s164 rfl B153 fun w167 B168 k169 => ?_))
    have K175 := K155.trans k169 (Grew.ok (S := fun _ => False) gr20 noB_le)
    refine wl_v (iv 70) rfl rfl (y_asg rfl rfl rr) (wl_nil fun F176 hF177 => ?_)
    obtain ⟨s178, s179⟩ := t2 hF177 116 s162 10 s164
    have s180 : F176 11 = iv 70 := (hF177 11).trans rfl
    clear hF177
    refine then_normal (wq_ret (then_ret ?_))
    exact end_2 s178 rfl (res_blk blkT_arr rfl s179 B168) (res_tmp (v := iv 70) rfl s180) ⟨(by first | rw [(pred_no hno).1, (pred_no hno).2] | rw [(pred_none hpl (by omega)).1, (pred_none hpl (by omega)).2] | rw [(pred_yes hpl (by decide)).1, (pred_yes hpl (by decide)).2]), K175⟩
   ·skip
    by_cases d181 : x < 0
    ·skip
     refine wq_region (wl_v (.agg #[iv (f.W), iv (f.H), f0, f1, f2]) rfl rfl (y_load_stc stcT_frame rfl s73 B63 rr) (wl_cs rfl rfl rfl rfl rfl (fun _ _ => by kernel_rfl) (vsC rfl vsN) (fref_check f f0 f1 f2 T_f0 T_f1 T_f2 _  B60 B61 B62 ) fun w182 k183 => ?_))
     have B188 := B64.all k183 id
     have B189 := B58.all k183 id
     have K190 := K65.tr k183
     refine wl_v (.bool false) rfl rfl (y_neqI rfl rfl rfl (decide_eq_false d76) rr) (wl_v (.bool false) rfl rfl (y_mov rfl rfl rr) (wl_vw (iv p) 3 false 22 rfl rfl rfl rfl rfl (y_mov rfl s68 rr) (wl_vw (.bool false) 3 false 22 rfl rfl rfl rfl rfl (y_lss rfl rfl rfl (decide_eq_false d111) rr) (wl_v (.bool false) rfl rfl (y_pickF rfl rfl rfl rr) (wl_v (.bool false) rfl rfl (y_mov rfl rfl rr) (wl_vw (iv p) 7 false 26 rfl rfl rfl rfl rfl (y_mov rfl s68 rr) (wl_vw (.bool false) 7 false 26 rfl rfl rfl rfl rfl (y_gtr rfl rfl rfl (decide_eq_false d146) rr) (wl_v (.bool false) rfl rfl (y_pickF rfl rfl rfl rr) (wl_v (.bool false) rfl rfl (y_mov rfl rfl rr) (wl_vw (iv x) 11 false 30 rfl rfl rfl rfl rfl (y_mov rfl s69 rr) (wl_vw (.bool true) 11 false 30 rfl rfl rfl rfl rfl (y_lss rfl rfl rfl (decide_eq_true d181) rr) ?_)))))))))))
     refine wl_v (.bool true) rfl rfl (y_pickF rfl rfl rfl rr) (wl_v (.bool true) rfl rfl (y_mov rfl rfl rr) (wl_unless 15 false 34 rfl rfl rfl (Or.inl rfl) rfl (wl_unless 15 false 34 rfl rfl rfl (Or.inl rfl) rfl (wl_v (.bool true) rfl rfl (y_pickT rfl rfl rfl rr) (wl_v (.bool true) rfl rfl (y_mov rfl rfl rr) (wl_unless 19 false 38 rfl rfl rfl (Or.inl rfl) rfl (wl_unless 19 false 38 rfl rfl rfl (Or.inl rfl) rfl (wl_v (.bool true) rfl rfl (y_pickT rfl rfl rfl rr) (wl_v (.bool true) rfl rfl (y_mov rfl rfl rr) (wl_unless 23 false 42 rfl rfl rfl (Or.inl rfl) rfl (wl_unless 23 false 42 rfl rfl rfl (Or.inl rfl) rfl ?_)))))))))))
     refine wl_v (.bool true) rfl rfl (y_pickT rfl rfl rfl rr) (wl_nil fun F191 hF192 => ?_)
     obtain ⟨s197, s199, s200⟩ := t3 hF192 116 s72 10 s74 12 s75
     have s201 : F191 45 = .bool true := (hF192 45).trans rfl
     clear hF192
     refine then_normal ?_
     refine wq_cond (t := true) s201 (fun _ => ?_) (fun e => by cases e)
     refine wq_seq ?_
     have hno : ¬ placeF f p x y := by rintro ⟨h1, h2, h3, h4, h5, h6, h7⟩; first | exact absurd ((checkE_iff f).2 h1) (by assumption) | omega
     refine wq_region (wl_v (blkV (fun _ => 0)) rfl rfl (y_load_blk blkT_arr rfl s200 B189 rr) (wl_store_blk blkT_arr rfl rfl rfl s199 rfl B188 fun w202 B203 k204 => ?_))
     have K210 := K190.trans k204 (Grew.ok (S := fun _ => False) gr20 noB_le)
     refine wl_v (iv 70) rfl rfl (y_asg rfl rfl rr) (wl_nil fun F211 hF212 => ?_)
     obtain ⟨s213, s214⟩ := t2 hF212 116 s197 10 s199
     have s215 : F211 11 = iv 70 := (hF212 11).trans rfl
     clear hF212
     refine then_normal (wq_ret (then_ret ?_))
     exact end_2 s213 rfl (res_blk blkT_arr rfl s214 B203) (res_tmp (v := iv 70) rfl s215) ⟨(by first | rw [(pred_no hno).1, (pred_no hno).2] | rw [(pred_none hpl (by omega)).1, (pred_none hpl (by omega)).2] | rw [(pred_yes hpl (by decide)).1, (pred_yes hpl (by decide)).2]), K210⟩
    ·skip
     by_cases d216 : 64 < x
     ·skip
      refine wq_region (wl_v (.agg #[iv (f.W), iv (f.H), f0, f1, f2]) rfl rfl (y_load_stc stcT_frame rfl s73 B63 rr) (wl_cs rfl rfl rfl rfl rfl (fun _ _ => by kernel_rfl) (vsC rfl vsN) (fref_check f f0 f1 f2 T_f0 T_f1 T_f2 _  B60 B61 B62 ) fun w217 k218 => ?_))
      have B223 := B64.all k218 id
      have B224 := B58.all k218 id
      have K225 := K65.tr k218
      refine wl_v (.bool false) rfl rfl (y_neqI rfl rfl rfl (decide_eq_false d76) rr) (wl_v (.bool false) rfl rfl (y_mov rfl rfl rr) (wl_vw (iv p) 3 false 22 rfl rfl rfl rfl rfl (y_mov rfl s68 rr) (wl_vw (.bool false) 3 false 22 rfl rfl rfl rfl rfl (y_lss rfl rfl rfl (decide_eq_false d111) rr) (wl_v (.bool false) rfl rfl (y_pickF rfl rfl rfl rr) (wl_v (.bool false) rfl rfl (y_mov rfl rfl rr) (wl_vw (iv p) 7 false 26 rfl rfl rfl rfl rfl (y_mov rfl s68 rr) (wl_vw (.bool false) 7 false 26 rfl rfl rfl rfl rfl (y_gtr rfl rfl rfl (decide_eq_false d146) rr) (wl_v (.bool false) rfl rfl (y_pickF rfl rfl rfl rr) (wl_v (.bool false) rfl rfl (y_mov rfl rfl rr) (wl_vw (iv x) 11 false 30 rfl rfl rfl rfl rfl (y_mov rfl s69 rr) (wl_vw (.bool false) 11 false 30 rfl rfl rfl rfl rfl (y_lss rfl rfl rfl (decide_eq_false d181) rr) ?_)))))))))))
      refine wl_v (.bool false) rfl rfl (y_pickF rfl rfl rfl rr) (wl_v (.bool false) rfl rfl (y_mov rfl rfl rr) (wl_vw (iv x) 15 false 34 rfl rfl rfl rfl rfl (y_mov rfl s69 rr) (wl_vw (.bool true) 15 false 34 rfl rfl rfl rfl rfl (y_gtr rfl rfl rfl (decide_eq_true d216) rr) (wl_v (.bool true) rfl rfl (y_pickF rfl rfl rfl rr) (wl_v (.bool true) rfl rfl (y_mov rfl rfl rr) (wl_unless 19 false 38 rfl rfl rfl (Or.inl rfl) rfl (wl_unless 19 false 38 rfl rfl rfl (Or.inl rfl) rfl (wl_v (.bool true) rfl rfl (y_pickT rfl rfl rfl rr) (wl_v (.bool true) rfl rfl (y_mov rfl rfl rr) (wl_unless 23 false 42 rfl rfl rfl (Or.inl rfl) rfl (wl_unless 23 false 42 rfl rfl rfl (Or.inl rfl) rfl ?_)))))))))))
      refine wl_v (.bool true) rfl rfl (y_pickT rfl rfl rfl rr) (wl_nil fun F226 hF227 => ?_)
      obtain ⟨s232, s234, s235⟩ := t3 hF227 116 s72 10 s74 12 s75
      have s236 : F226 45 = .bool true := (hF227 45).trans rfl
      clear hF227
      refine then_normal ?_
      refine wq_cond (t := true) s236 (fun _ => ?_) (fun e => by cases e)
      refine wq_seq ?_
      have hno : ¬ placeF f p x y := by rintro ⟨h1, h2, h3, h4, h5, h6, h7⟩; first | exact absurd ((checkE_iff f).2 h1) (by assumption) | omega
      refine wq_region (wl_v (blkV (fun _ => 0)) rfl rfl (y_load_blk blkT_arr rfl s235 B224 rr) (wl_store_blk blkT_arr rfl rfl rfl s234 rfl B223 fun w237 B238 k239 => ?_))
      have K245 := K225.trans k239 (Grew.ok (S := fun _ => False) gr20 noB_le)
      refine wl_v (iv 70) rfl rfl (y_asg rfl rfl rr) (wl_nil fun F246 hF247 => ?_)
      obtain ⟨s248, s249⟩ := t2 hF247 116 s232 10 s234
      have s250 : F246 11 = iv 70 := (hF247 11).trans rfl
      clear hF247
      refine then_normal (wq_ret (then_ret ?_))
      exact end_2 s248 rfl (res_blk blkT_arr rfl s249 B238) (res_tmp (v := iv 70) rfl s250) ⟨(by first | rw [(pred_no hno).1, (pred_no hno).2] | rw [(pred_none hpl (by omega)).1, (pred_none hpl (by omega)).2] | rw [(pred_yes hpl (by decide)).1, (pred_yes hpl (by decide)).2]), K245⟩
     ·skip
      by_cases d251 : y < 0
      ·skip
       refine wq_region (wl_v (.agg #[iv (f.W), iv (f.H), f0, f1, f2]) rfl rfl (y_load_stc stcT_frame rfl s73 B63 rr) (wl_cs rfl rfl rfl rfl rfl (fun _ _ => by kernel_rfl) (vsC rfl vsN) (fref_check f f0 f1 f2 T_f0 T_f1 T_f2 _  B60 B61 B62 ) fun w252 k253 => ?_))
       have B258 := B64.all k253 id
       have B259 := B58.all k253 id
       have K260 := K65.tr k253
       refine wl_v (.bool false) rfl rfl (y_neqI rfl rfl rfl (decide_eq_false d76) rr) (wl_v (.bool false) rfl rfl (y_mov rfl rfl rr) (wl_vw (iv p) 3 false 22 rfl rfl rfl rfl rfl (y_mov rfl s68 rr) (wl_vw (.bool false) 3 false 22 rfl rfl rfl rfl rfl (y_lss rfl rfl rfl (decide_eq_false d111) rr) (wl_v (.bool false) rfl rfl (y_pickF rfl rfl rfl rr) (wl_v (.bool false) rfl rfl (y_mov rfl rfl rr) (wl_vw (iv p) 7 false 26 rfl rfl rfl rfl rfl (y_mov rfl s68 rr) (wl_vw (.bool false) 7 false 26 rfl rfl rfl rfl rfl (y_gtr rfl rfl rfl (decide_eq_false d146) rr) (wl_v (.bool false) rfl rfl (y_pickF rfl rfl rfl rr) (wl_v (.bool false) rfl rfl (y_mov rfl rfl rr) (wl_vw (iv x) 11 false 30 rfl rfl rfl rfl rfl (y_mov rfl s69 rr) (wl_vw (.bool false) 11 false 30 rfl rfl rfl rfl rfl (y_lss rfl rfl rfl (decide_eq_false d181) rr) ?_)))))))))))
       refine wl_v (.bool false) rfl rfl (y_pickF rfl rfl rfl rr) (wl_v (.bool false) rfl rfl (y_mov rfl rfl rr) (wl_vw (iv x) 15 false 34 rfl rfl rfl rfl rfl (y_mov rfl s69 rr) (wl_vw (.bool false) 15 false 34 rfl rfl rfl rfl rfl (y_gtr rfl rfl rfl (decide_eq_false d216) rr) (wl_v (.bool false) rfl rfl (y_pickF rfl rfl rfl rr) (wl_v (.bool false) rfl rfl (y_mov rfl rfl rr) (wl_vw (iv y) 19 false 38 rfl rfl rfl rfl rfl (y_mov rfl s70 rr) (wl_vw (.bool true) 19 false 38 rfl rfl rfl rfl rfl (y_lss rfl rfl rfl (decide_eq_true d251) rr) (wl_v (.bool true) rfl rfl (y_pickF rfl rfl rfl rr) (wl_v (.bool true) rfl rfl (y_mov rfl rfl rr) (wl_unless 23 false 42 rfl rfl rfl (Or.inl rfl) rfl (wl_unless 23 false 42 rfl rfl rfl (Or.inl rfl) rfl ?_)))))))))))
       refine wl_v (.bool true) rfl rfl (y_pickT rfl rfl rfl rr) (wl_nil fun F261 hF262 => ?_)
       obtain ⟨s267, s269, s270⟩ := t3 hF262 116 s72 10 s74 12 s75
       have s271 : F261 45 = .bool true := (hF262 45).trans rfl
       clear hF262
       refine then_normal ?_
       refine wq_cond (t := true) s271 (fun _ => ?_) (fun e => by cases e)
       refine wq_seq ?_
       have hno : ¬ placeF f p x y := by rintro ⟨h1, h2, h3, h4, h5, h6, h7⟩; first | exact absurd ((checkE_iff f).2 h1) (by assumption) | omega
       refine wq_region (wl_v (blkV (fun _ => 0)) rfl rfl (y_load_blk blkT_arr rfl s270 B259 rr) (wl_store_blk blkT_arr rfl rfl rfl s269 rfl B258 fun w272 B273 k274 => ?_))
       have K280 := K260.trans k274 (Grew.ok (S := fun _ => False) gr20 noB_le)
       refine wl_v (iv 70) rfl rfl (y_asg rfl rfl rr) (wl_nil fun F281 hF282 => ?_)
       obtain ⟨s283, s284⟩ := t2 hF282 116 s267 10 s269
       have s285 : F281 11 = iv 70 := (hF282 11).trans rfl
       clear hF282
       refine then_normal (wq_ret (then_ret ?_))
       exact end_2 s283 rfl (res_blk blkT_arr rfl s284 B273) (res_tmp (v := iv 70) rfl s285) ⟨(by first | rw [(pred_no hno).1, (pred_no hno).2] | rw [(pred_none hpl (by omega)).1, (pred_none hpl (by omega)).2] | rw [(pred_yes hpl (by decide)).1, (pred_yes hpl (by decide)).2]), K280⟩
      ·skip
       refine wq_region (wl_v (.agg #[iv (f.W), iv (f.H), f0, f1, f2]) rfl rfl (y_load_stc stcT_frame rfl s73 B63 rr) (wl_cs rfl rfl rfl rfl rfl (fun _ _ => by kernel_rfl) (vsC rfl vsN) (fref_check f f0 f1 f2 T_f0 T_f1 T_f2 _  B60 B61 B62 ) fun w286 k287 => ?_))
       have B288 := B60.all k287 Apart.none
       have B289 := B61.all k287 Apart.none
       have B290 := B62.all k287 Apart.none
       have B291 := B63.all k287 id
       have B292 := B64.all k287 id
       have B293 := B58.all k287 id
       have K294 := K65.tr k287
       refine wl_v (.bool false) rfl rfl (y_neqI rfl rfl rfl (decide_eq_false d76) rr) (wl_v (.bool false) rfl rfl (y_mov rfl rfl rr) (wl_vw (iv p) 3 false 22 rfl rfl rfl rfl rfl (y_mov rfl s68 rr) (wl_vw (.bool false) 3 false 22 rfl rfl rfl rfl rfl (y_lss rfl rfl rfl (decide_eq_false d111) rr) (wl_v (.bool false) rfl rfl (y_pickF rfl rfl rfl rr) (wl_v (.bool false) rfl rfl (y_mov rfl rfl rr) (wl_vw (iv p) 7 false 26 rfl rfl rfl rfl rfl (y_mov rfl s68 rr) (wl_vw (.bool false) 7 false 26 rfl rfl rfl rfl rfl (y_gtr rfl rfl rfl (decide_eq_false d146) rr) (wl_v (.bool false) rfl rfl (y_pickF rfl rfl rfl rr) (wl_v (.bool false) rfl rfl (y_mov rfl rfl rr) (wl_vw (iv x) 11 false 30 rfl rfl rfl rfl rfl (y_mov rfl s69 rr) (wl_vw (.bool false) 11 false 30 rfl rfl rfl rfl rfl (y_lss rfl rfl rfl (decide_eq_false d181) rr) ?_)))))))))))
       refine wl_v (.bool false) rfl rfl (y_pickF rfl rfl rfl rr) (wl_v (.bool false) rfl rfl (y_mov rfl rfl rr) (wl_vw (iv x) 15 false 34 rfl rfl rfl rfl rfl (y_mov rfl s69 rr) (wl_vw (.bool false) 15 false 34 rfl rfl rfl rfl rfl (y_gtr rfl rfl rfl (decide_eq_false d216) rr) (wl_v (.bool false) rfl rfl (y_pickF rfl rfl rfl rr) (wl_v (.bool false) rfl rfl (y_mov rfl rfl rr) (wl_vw (iv y) 19 false 38 rfl rfl rfl rfl rfl (y_mov rfl s70 rr) (wl_vw (.bool false) 19 false 38 rfl rfl rfl rfl rfl (y_lss rfl rfl rfl (decide_eq_false d251) rr) (wl_v (.bool false) rfl rfl (y_pickF rfl rfl rfl rr) (wl_v (.bool false) rfl rfl (y_mov rfl rfl rr) (wl_vw (iv y) 23 false 42 rfl rfl rfl rfl rfl (y_mov rfl s70 rr) (wl_vw (.bool (decide (64 < y))) 23 false 42 rfl rfl rfl rfl rfl (y_gtr rfl rfl rfl rfl rr) ?_)))))))))))
       refine wl_v (.bool (decide (64 < y))) rfl rfl (y_pickF rfl rfl rfl rr) (wl_nil fun F295 hF296 => ?_)
       obtain ⟨s297, s298, s299, s300, s301, s302, s303, s304⟩ := t8 hF296 1 s68 2 s69 3 s70 4 s71 116 s72 5 s73 10 s74 12 s75
       have s305 : F295 45 = .bool (decide (64 < y)) := (hF296 45).trans rfl
       clear hF296
       refine then_normal ?_
       refine wq_cond s305 (fun c306 => ?_) (fun c306 => ?_)
       ·replace c306 := of_decide_eq_true c306
        refine wq_seq ?_
        have hno : ¬ placeF f p x y := by rintro ⟨h1, h2, h3, h4, h5, h6, h7⟩; first | exact absurd ((checkE_iff f).2 h1) (by assumption) | omega
        refine wq_region (wl_v (blkV (fun _ => 0)) rfl rfl (y_load_blk blkT_arr rfl s304 B293 rr) (wl_store_blk blkT_arr rfl rfl rfl s303 rfl B292 fun w307 B308 k309 => ?_))
        have K315 := K294.trans k309 (Grew.ok (S := fun _ => False) gr20 noB_le)
        refine wl_v (iv 70) rfl rfl (y_asg rfl rfl rr) (wl_nil fun F316 hF317 => ?_)
        obtain ⟨s318, s319⟩ := t2 hF317 116 s301 10 s303
        have s320 : F316 11 = iv 70 := (hF317 11).trans rfl
        clear hF317
        refine then_normal (wq_ret (then_ret ?_))
        exact end_2 s318 rfl (res_blk blkT_arr rfl s319 B308) (res_tmp (v := iv 70) rfl s320) ⟨(by first | rw [(pred_no hno).1, (pred_no hno).2] | rw [(pred_none hpl (by omega)).1, (pred_none hpl (by omega)).2] | rw [(pred_yes hpl (by decide)).1, (pred_yes hpl (by decide)).2]), K315⟩
       ·replace c306 := of_decide_eq_false c306
        refine wq_skip (then_normal (wq_seq (wq_seq ?_)))
        have hpl : placeF f p x y := ⟨(checkE_iff f).1 (by first | assumption | (apply Decidable.byContradiction; assumption)), by omega, by omega, by omega, by omega, by omega, by omega⟩
        by_cases d321 : mode < 0
        ·skip
         refine wq_region (wl_mv rfl rfl rfl s300 (wl_v (.bool true) rfl rfl (y_lss rfl rfl rfl (decide_eq_true d321) rr) (wl_v (.bool true) rfl rfl (y_mov rfl rfl rr) (wl_unless 2 false 49 rfl rfl rfl (Or.inl rfl) rfl (wl_unless 2 false 49 rfl rfl rfl (Or.inl rfl) rfl (wl_v (.bool true) rfl rfl (y_pickT rfl rfl rfl rr) (wl_nil fun F322 hF323 => ?_)))))))
         obtain ⟨s328, s330, s331⟩ := t3 hF323 116 s301 10 s303 12 s304
         have s332 : F322 52 = .bool true := (hF323 52).trans rfl
         clear hF323
         refine then_normal ?_
         refine wq_cond (t := true) s332 (fun _ => ?_) (fun e => by cases e)
         refine wq_seq (wq_region (wl_v (blkV (fun _ => 0)) rfl rfl (y_load_blk blkT_arr rfl s331 B293 rr) (wl_store_blk blkT_arr rfl rfl rfl s330 rfl B292 fun w333 B334 k335 => ?_)))
         have K341 := K294.trans k335 (Grew.ok (S := fun _ => False) gr20 noB_le)
         refine wl_v (iv 80) rfl rfl (y_asg rfl rfl rr) (wl_nil fun F342 hF343 => ?_)
         obtain ⟨s344, s345⟩ := t2 hF343 116 s328 10 s330
         have s346 : F342 11 = iv 80 := (hF343 11).trans rfl
         clear hF343
         refine then_normal (wq_ret (then_ret ?_))
         exact end_2 s344 rfl (res_blk blkT_arr rfl s345 B334) (res_tmp (v := iv 80) rfl s346) ⟨(by first | rw [(pred_no hno).1, (pred_no hno).2] | rw [(pred_none hpl (by omega)).1, (pred_none hpl (by omega)).2] | rw [(pred_yes hpl (by decide)).1, (pred_yes hpl (by decide)).2]), K341⟩
        ·skip
         refine wq_region (wl_mv rfl rfl rfl s300 (wl_v (.bool false) rfl rfl (y_lss rfl rfl rfl (decide_eq_false d321) rr) (wl_v (.bool false) rfl rfl (y_mov rfl rfl rr) (wl_vw (iv mode) 2 false 49 rfl rfl rfl rfl rfl (y_mov rfl s300 rr) (wl_vw (.bool (decide (3 < mode))) 2 false 49 rfl rfl rfl rfl rfl (y_gtr rfl rfl rfl rfl rr) (wl_v (.bool (decide (3 < mode))) rfl rfl (y_pickF rfl rfl rfl rr) (wl_nil fun F347 hF348 => ?_)))))))
         obtain ⟨s349, s350, s351, s352, s353, s354, s355, s356⟩ := t8 hF348 1 s297 2 s298 3 s299 4 s300 116 s301 5 s302 10 s303 12 s304
         have s357 : F347 52 = .bool (decide (3 < mode)) := (hF348 52).trans rfl
         clear hF348
         refine then_normal ?_
         refine wq_cond s357 (fun c358 => ?_) (fun c358 => ?_)
         ·replace c358 := of_decide_eq_true c358
          refine wq_seq (wq_region (wl_v (blkV (fun _ => 0)) rfl rfl (y_load_blk blkT_arr rfl s356 B293 rr) (wl_store_blk blkT_arr rfl rfl rfl s355 rfl B292 fun w359 B360 k361 => ?_)))
          have K367 := K294.trans k361 (Grew.ok (S := fun _ => False) gr20 noB_le)
          refine wl_v (iv 80) rfl rfl (y_asg rfl rfl rr) (wl_nil fun F368 hF369 => ?_)
          obtain ⟨s370, s371⟩ := t2 hF369 116 s353 10 s355
          have s372 : F368 11 = iv 80 := (hF369 11).trans rfl
          clear hF369
          refine then_normal (wq_ret (then_ret ?_))
          exact end_2 s370 rfl (res_blk blkT_arr rfl s371 B360) (res_tmp (v := iv 80) rfl s372) ⟨(by first | rw [(pred_no hno).1, (pred_no hno).2] | rw [(pred_none hpl (by omega)).1, (pred_none hpl (by omega)).2] | rw [(pred_yes hpl (by decide)).1, (pred_yes hpl (by decide)).2]), K367⟩
         ·replace c358 := of_decide_eq_false c358
          refine wq_skip (then_normal (wq_seq (wq_region (wl_v (iv 4) rfl rfl (y_asg rfl rfl rr) (wl_nil fun F373 hF374 => ?_)))))
          obtain ⟨s375, s376, s377, s378, s379, s380, s381, s382⟩ := t8 hF374 1 s349 2 s350 3 s351 4 s352 116 s353 5 s354 10 s355 12 s356
          have s383 : F373 13 = iv 4 := (hF374 13).trans rfl
          clear hF374
          refine then_normal (wq_seq (wq_seq (wq_region (wl_v (iv 0) rfl rfl (y_asg rfl rfl rr) (wl_nil fun F384 hF385 => ?_)))))
          obtain ⟨s386, s387, s388, s389, s390, s391, s392, s393, s394⟩ := t9 hF385 1 s375 2 s376 3 s377 4 s378 116 s379 5 s380 10 s381 12 s382 13 s383
          have s395 : F384 14 = iv 0 := (hF385 14).trans rfl
          clear hF385
          refine then_normal (wq_block (wq_loop (fun nn FF ww => ∃ (i : Nat), (i ≤ 4) ∧ nn = 4 - i ∧ FF 1 = iv p ∧ FF 2 = iv x ∧ FF 3 = iv y ∧ FF 4 = iv mode ∧ FF 5 = pt p1 0 ∧ FF 10 = pt p14 0 ∧ FF 12 = pt p39 0 ∧ FF 116 = undef ∧ FF 13 = iv (sumTo f p x y i) ∧ FF 14 = iv ((i : Nat) : Int) ∧ Kept (fun _ => False) w0 ww ∧ Byt ww T_f0 f0 (f.p0) ∧ Byt ww T_f1 f1 (f.p1) ∧ Byt ww T_f2 f2 (f.p2) ∧ Stc ww p1 29 [iv (f.W), iv (f.H), f0, f1, f2] ∧ Blk ww p14 68 (fun _ => 0) ∧ Blk ww p39 68 (fun _ => 0)) (4 - 0) ⟨0, by omega, rfl, s386, s387, s388, s389, s391, s392, s393, s390, s394, s395, K294, B288, B289, B290, B291, B292, B293⟩ ?_))
          rintro n399 F396 w397 ⟨i, i400, hn399, s401, s402, s403, s404, s405, s406, s407, s408, s409, s410, K398, B411, B412, B413, B414, B415, B416⟩
          refine wq_seq (wq_seq (wq_region (wl_mv rfl rfl rfl s410 (wl_v (.bool (decide (((i : Nat) : Int) < 4))) rfl rfl (y_lss rfl rfl rfl rfl rr) (wl_nil fun F417 hF418 => ?_)))))
          obtain ⟨s419, s420, s421, s422, s423, s424, s425, s426, s427, s428⟩ := t10 hF418 1 s401 2 s402 3 s403 4 s404 5 s405 10 s406 12 s407 116 s408 13 s409 14 s410
          have s429 : F417 55 = .bool (decide (((i : Nat) : Int) < 4)) := (hF418 55).trans rfl
          clear hF418
          refine then_normal ?_
          refine wq_cond s429 (fun c430 => ?_) (fun c430 => ?_)
          ·replace c430 := of_decide_eq_true c430
           refine wq_skip (then_normal (wq_seq (wq_block ?_)))
           have hs := sumTo_le hb p x y i
           have ha := above_le hb p x y (i : Nat)
           have hl := left_le hb p x y (i : Nat)
           refine wq_tail 15 [some 58, some 59, some 60, some 61, some 62, some 63, some 64, some 65, some 66, some 67, some 68, some 69, some 70, some 71, some 72] [Pd.eq (iv (sumTo f p x y i)), Pd.eq (.agg #[iv (f.W), iv (f.H), f0, f1, f2]), Pd.eq (iv p), Pd.eq (iv x), Pd.eq (iv y), Pd.eq (iv ((i : Nat) : Int)), Pd.eq (iv (aboveF f p x y ((i : Nat) : Int))), Pd.eq (iv ((sumTo f p x y i) + (aboveF f p x y ((i : Nat) : Int)))), Pd.eq (.agg #[iv (f.W), iv (f.H), f0, f1, f2]), Pd.eq (iv p), Pd.eq (iv x), Pd.eq (iv y), Pd.eq (iv ((i : Nat) : Int)), Pd.eq (iv (leftF f p x y ((i : Nat) : Int))), Pd.eq (iv (((sumTo f p x y i) + (aboveF f p x y ((i : Nat) : Int))) + (leftF f p x y ((i : Nat) : Int))))] (by kernel_rfl) (by kernel_rfl) (by kernel_rfl) ?_ ?_
           ·refine stepsF_cons ?_ ?_
            ·refine StepF.one rfl fun F_ w_ hR hout hD => ?_
             exact (y_mov rfl ((hout 13 rfl (by decide)).trans s427) ⟨rfl, Kept.refl _ _⟩)
            refine stepsF_cons ?_ ?_
            ·refine StepF.one rfl fun F_ w_ hR hout hD => ?_
             exact (y_load_stc stcT_frame rfl ((hout 5 rfl (by decide)).trans s423) (B414.all hR id) ⟨rfl, Kept.refl _ _⟩)
            refine stepsF_cons ?_ ?_
            ·refine StepF.one rfl fun F_ w_ hR hout hD => ?_
             exact (y_mov rfl ((hout 1 rfl (by decide)).trans s419) ⟨rfl, Kept.refl _ _⟩)
            refine stepsF_cons ?_ ?_
            ·refine StepF.one rfl fun F_ w_ hR hout hD => ?_
             exact (y_mov rfl ((hout 2 rfl (by decide)).trans s420) ⟨rfl, Kept.refl _ _⟩)
            refine stepsF_cons ?_ ?_
            ·refine StepF.one rfl fun F_ w_ hR hout hD => ?_
             exact (y_mov rfl ((hout 3 rfl (by decide)).trans s421) ⟨rfl, Kept.refl _ _⟩)
            refine stepsF_cons ?_ ?_
            ·refine StepF.one rfl fun F_ w_ hR hout hD => ?_
             exact (y_mov rfl ((hout 14 rfl (by decide)).trans s428) ⟨rfl, Kept.refl _ _⟩)
            refine stepsF_cons ?_ ?_
            ·refine StepF.one rfl fun F_ w_ hR hout hD => ?_
             have g59 : F_ 59 = .agg #[iv (f.W), iv (f.H), f0, f1, f2] := (hD.get 0 rfl rfl rfl)
             have g60 : F_ 60 = iv p := (hD.get 1 rfl rfl rfl)
             have g61 : F_ 61 = iv x := (hD.get 2 rfl rfl rfl)
             have g62 : F_ 62 = iv y := (hD.get 3 rfl rfl rfl)
             have g63 : F_ 63 = iv ((i : Nat) : Int) := (hD.get 4 rfl rfl rfl)
             exact (y_cs rfl rfl rfl (fun _ _ => by kernel_rfl) (ev_func _) (vsC g59 (vsC g60 (vsC g61 (vsC g62 (vsC g63 vsN))))) (iref_above p x y ((i : Nat) : Int) f f0 f1 f2 T_f0 T_f1 T_f2 _ (by omega) (by omega) (by omega) (B411.all hR Apart.none) (B412.all hR Apart.none) (B413.all hR Apart.none) ) (fun e_ w_ h_ => ⟨_, h_.1, rfl, h_.2⟩))
            refine stepsF_cons ?_ ?_
            ·refine StepF.one rfl fun F_ w_ hR hout hD => ?_
             have g58 : F_ 58 = iv (sumTo f p x y i) := (hD.get 0 rfl rfl rfl)
             have g64 : F_ 64 = iv (aboveF f p x y ((i : Nat) : Int)) := (hD.get 1 rfl rfl rfl)
             exact (y_add rfl g58 g64 (i64_i rfl (by omega)) ⟨rfl, Kept.refl _ _⟩)
            refine stepsF_cons ?_ ?_
            ·refine StepF.one rfl fun F_ w_ hR hout hD => ?_
             exact (y_load_stc stcT_frame rfl ((hout 5 rfl (by decide)).trans s423) (B414.all hR id) ⟨rfl, Kept.refl _ _⟩)
            refine stepsF_cons ?_ ?_
            ·refine StepF.one rfl fun F_ w_ hR hout hD => ?_
             exact (y_mov rfl ((hout 1 rfl (by decide)).trans s419) ⟨rfl, Kept.refl _ _⟩)
            refine stepsF_cons ?_ ?_
            ·refine StepF.one rfl fun F_ w_ hR hout hD => ?_
             exact (y_mov rfl ((hout 2 rfl (by decide)).trans s420) ⟨rfl, Kept.refl _ _⟩)
            refine stepsF_cons ?_ ?_
            ·refine StepF.one rfl fun F_ w_ hR hout hD => ?_
             exact (y_mov rfl ((hout 3 rfl (by decide)).trans s421) ⟨rfl, Kept.refl _ _⟩)
            refine stepsF_cons ?_ ?_
            ·refine StepF.one rfl fun F_ w_ hR hout hD => ?_
             exact (y_mov rfl ((hout 14 rfl (by decide)).trans s428) ⟨rfl, Kept.refl _ _⟩)
            refine stepsF_cons ?_ ?_
            ·refine StepF.one rfl fun F_ w_ hR hout hD => ?_
             have g66 : F_ 66 = .agg #[iv (f.W), iv (f.H), f0, f1, f2] := (hD.get 0 rfl rfl rfl)
             have g67 : F_ 67 = iv p := (hD.get 1 rfl rfl rfl)
             have g68 : F_ 68 = iv x := (hD.get 2 rfl rfl rfl)
             have g69 : F_ 69 = iv y := (hD.get 3 rfl rfl rfl)
             have g70 : F_ 70 = iv ((i : Nat) : Int) := (hD.get 4 rfl rfl rfl)
             exact (y_cs rfl rfl rfl (fun _ _ => by kernel_rfl) (ev_func _) (vsC g66 (vsC g67 (vsC g68 (vsC g69 (vsC g70 vsN))))) (iref_left p x y ((i : Nat) : Int) f f0 f1 f2 T_f0 T_f1 T_f2 _ (by omega) (by omega) (by omega) (B411.all hR Apart.none) (B412.all hR Apart.none) (B413.all hR Apart.none) ) (fun e_ w_ h_ => ⟨_, h_.1, rfl, h_.2⟩))
            refine stepsF_cons ?_ ?_
            ·refine StepF.one rfl fun F_ w_ hR hout hD => ?_
             have g65 : F_ 65 = iv ((sumTo f p x y i) + (aboveF f p x y ((i : Nat) : Int))) := (hD.get 0 rfl rfl rfl)
             have g71 : F_ 71 = iv (leftF f p x y ((i : Nat) : Int)) := (hD.get 1 rfl rfl rfl)
             exact (y_add rfl g65 g71 (i64_i rfl (by omega)) ⟨rfl, Kept.refl _ _⟩)
            exact stepsF_nil
           intro v431 F432 w433 k434 G435 hF436
           have B438 := B411.all k434 Apart.none
           have B439 := B412.all k434 Apart.none
           have B440 := B413.all k434 Apart.none
           have B441 := B414.all k434 id
           have B442 := B415.all k434 id
           have B443 := B416.all k434 id
           have K444 := K398.tr k434
           obtain ⟨s445, s446, s447, s448, s449, s450, s451, s452, s454⟩ := t9 hF436 1 s419 2 s420 3 s421 4 s422 5 s423 10 s424 12 s425 116 s426 14 s428
           have s455 : F432 72 = iv (((sumTo f p x y i) + (aboveF f p x y ((i : Nat) : Int))) + (leftF f p x y ((i : Nat) : Int))) := (hF436 72).trans (G435 14 (by decide))
           clear G435 hF436
           refine wl_as rfl rfl rfl s455 (wl_nil fun F456 hF457 => ?_)
           obtain ⟨s458, s459, s460, s461, s462, s463, s464, s465, s466⟩ := t9 hF457 1 s445 2 s446 3 s447 4 s448 5 s449 10 s450 12 s451 116 s452 14 s454
           have s467 : F456 13 = iv (((sumTo f p x y i) + (aboveF f p x y ((i : Nat) : Int))) + (leftF f p x y ((i : Nat) : Int))) := (hF457 13).trans rfl
           clear hF457
           refine in_normal (then_normal (wq_region (wl_mv rfl rfl rfl s466 (wl_v (iv ((i + 1 : Nat) : Int)) rfl rfl (y_add rfl rfl rfl (i64_n (by omega) (by omega)) rr) (wl_v (iv ((i + 1 : Nat) : Int)) rfl rfl (y_asg rfl rfl rr) (wl_nil fun F468 hF469 => ?_))))))
           obtain ⟨s470, s471, s472, s473, s474, s475, s476, s477, s478⟩ := t9 hF469 1 s458 2 s459 3 s460 4 s461 5 s462 10 s463 12 s464 116 s465 13 s467
           have s479 : F468 14 = iv ((i + 1 : Nat) : Int) := (hF469 14).trans rfl
           clear hF469
           exact then_normal ⟨(4 - (i + 1)), by omega, i + 1, by omega, rfl, s470, s471, s472, s473, s474, s475, s476, s477, s478, s479, K444, B438, B439, B440, B441, B442, B443⟩
          ·replace c430 := of_decide_eq_false c430
           refine wq_exit (then_exit (then_exit ?_))
           have l480 : 4 = i := by omega
           subst l480
           refine in_here (then_normal (wq_seq (wq_seq ?_)))
           rcases (show mode = 0 ∨ mode = 1 ∨ mode = 2 ∨ mode = 3 from (by omega)) with rfl | rfl | rfl | rfl
           ·skip
            refine wq_region (wl_v (iv 0) rfl rfl (y_asg rfl rfl rr) (wl_nil fun F481 hF482 => ?_))
            obtain ⟨s483, s484, s485, s486, s487, s488, s489, s490, s491⟩ := t9 hF482 1 s419 2 s420 3 s421 4 s422 5 s423 10 s424 12 s425 116 s426 13 s427
            have s492 : F481 15 = iv 0 := (hF482 15).trans rfl
            clear hF482
            refine then_normal (wq_block (wq_loop (fun nn FF ww => ∃ (n : Nat), (n ≤ 16) ∧ nn = 16 - n ∧ FF 1 = iv p ∧ FF 2 = iv x ∧ FF 3 = iv y ∧ FF 4 = iv 0 ∧ FF 5 = pt p1 0 ∧ FF 10 = pt p14 0 ∧ FF 12 = pt p39 0 ∧ FF 13 = iv (sumTo f p x y 4) ∧ FF 116 = undef ∧ FF 15 = iv ((n : Nat) : Int) ∧ Kept (fun _ => False) w0 ww ∧ Byt ww T_f0 f0 (f.p0) ∧ Byt ww T_f1 f1 (f.p1) ∧ Byt ww T_f2 f2 (f.p2) ∧ Stc ww p1 29 [iv (f.W), iv (f.H), f0, f1, f2] ∧ Blk ww p14 68 (fun _ => 0) ∧ Blk ww p39 68 (upto n (fun _ => 0) (predN f p x y 0))) (16 - 0) ⟨0, by omega, rfl, s483, s484, s485, s486, s487, s488, s489, s491, s490, s492, K398, B411, B412, B413, B414, B415, B416.first⟩ ?_))
            rintro n496 F493 w494 ⟨n, i497, hn496, s498, s499, s500, s501, s502, s503, s504, s505, s506, s507, K495, B508, B509, B510, B511, B512, B513⟩
            refine wq_seq (wq_seq (wq_region (wl_mv rfl rfl rfl s507 (wl_v (.bool (decide (((n : Nat) : Int) < 16))) rfl rfl (y_lss rfl rfl rfl rfl rr) (wl_nil fun F514 hF515 => ?_)))))
            obtain ⟨s516, s517, s518, s519, s520, s521, s522, s523, s524, s525⟩ := t10 hF515 1 s498 2 s499 3 s500 4 s501 5 s502 10 s503 12 s504 13 s505 116 s506 15 s507
            have s526 : F514 74 = .bool (decide (((n : Nat) : Int) < 16)) := (hF515 74).trans rfl
            clear hF515
            refine then_normal ?_
            refine wq_cond s526 (fun c527 => ?_) (fun c527 => ?_)
            ·replace c527 := of_decide_eq_true c527
             refine wq_skip (then_normal (wq_seq (wq_block (wq_seq ?_))))
             have hs := sumTo_le hb p x y 4
             have ha := above_le hb p x y ((n % 4 : Nat) : Int)
             have hl := left_le hb p x y ((n / 4 : Nat) : Int)
             refine wq_region (wl_v (.agg #[iv (f.W), iv (f.H), f0, f1, f2]) rfl rfl (y_load_stc stcT_frame rfl s520 B511 rr) (wl_mv rfl rfl rfl s516 (wl_mv rfl rfl rfl s517 (wl_mv rfl rfl rfl s518 (wl_mv rfl rfl rfl s525 (wl_v (iv (((n % 4) : Nat) : Int)) rfl rfl (y_rem rfl rfl rfl (by first | decide | omega) (rem_nat n 4) rr) (wl_cs rfl rfl rfl rfl rfl (fun _ _ => by kernel_rfl) (vsC rfl (vsC rfl (vsC rfl (vsC rfl (vsC rfl vsN))))) (iref_above p x y (((n % 4) : Nat) : Int) f f0 f1 f2 T_f0 T_f1 T_f2 _ (by omega) (by omega) (by omega) B508 B509 B510 ) fun w528 k529 => ?_)))))))
             have B530 := B508.all k529 Apart.none
             have B531 := B509.all k529 Apart.none
             have B532 := B510.all k529 Apart.none
             have B533 := B511.all k529 id
             have B534 := B512.all k529 id
             have B535 := B513.all k529 id
             have K536 := K495.tr k529
             refine wl_v (iv (aboveF f p x y (((n % 4) : Nat) : Int))) rfl rfl (y_asg rfl rfl rr) (wl_nil fun F537 hF538 => ?_)
             obtain ⟨s539, s540, s541, s542, s543, s544, s545, s546, s547, s548⟩ := t10 hF538 1 s516 2 s517 3 s518 4 s519 5 s520 10 s521 12 s522 13 s523 116 s524 15 s525
             clear hF538
             refine then_normal (wq_seq (wq_region (wl_v (.agg #[iv (f.W), iv (f.H), f0, f1, f2]) rfl rfl (y_load_stc stcT_frame rfl s543 B533 rr) (wl_mv rfl rfl rfl s539 (wl_mv rfl rfl rfl s540 (wl_mv rfl rfl rfl s541 (wl_mv rfl rfl rfl s548 (wl_v (iv (((n / 4) : Nat) : Int)) rfl rfl (y_quo rfl rfl rfl (by first | decide | omega) (i64_n (quo_nat n 4) (by omega)) rr) (wl_cs rfl rfl rfl rfl rfl (fun _ _ => by kernel_rfl) (vsC rfl (vsC rfl (vsC rfl (vsC rfl (vsC rfl vsN))))) (iref_left p x y (((n / 4) : Nat) : Int) f f0 f1 f2 T_f0 T_f1 T_f2 _ (by omega) (by omega) (by omega) B530 B531 B532 ) fun w550 k551 => ?_)))))))))
             have B552 := B530.all k551 Apart.none
             have B553 := B531.all k551 Apart.none
             have B554 := B532.all k551 Apart.none
             have B555 := B533.all k551 id
             have B556 := B534.all k551 id
             have B557 := B535.all k551 id
             have K558 := K536.tr k551
             refine wl_v (iv (leftF f p x y (((n / 4) : Nat) : Int))) rfl rfl (y_asg rfl rfl rr) (wl_nil fun F559 hF560 => ?_)
             obtain ⟨s561, s562, s563, s564, s565, s566, s567, s568, s569, s570⟩ := t10 hF560 1 s539 2 s540 3 s541 4 s542 5 s543 10 s544 12 s545 13 s546 116 s547 15 s548
             clear hF560
             refine then_normal (wq_seq (wq_region (wl_mv rfl rfl rfl s564 (wl_nil fun F573 hF574 => ?_))))
             obtain ⟨s575, s576, s577, s578, s579, s580, s581, s582, s583, s584⟩ := t10 hF574 1 s561 2 s562 3 s563 4 s564 5 s565 10 s566 12 s567 13 s568 116 s569 15 s570
             have s587 : F573 91 = iv 0 := (hF574 91).trans rfl
             clear hF574
             refine then_normal (wq_block (wq_seq (wq_region (wl_v (.bool true) rfl rfl (y_eqlI rfl s587 rfl rfl rr) (wl_v (.bool true) rfl rfl (y_asg rfl rfl rr) (wl_nil fun F588 hF589 => ?_))))))
             obtain ⟨s590, s591, s592, s593, s594, s595, s596, s597, s598, s599⟩ := t10 hF589 1 s575 2 s576 3 s577 4 s578 5 s579 10 s580 12 s581 13 s582 116 s583 15 s584
             have s603 : F588 99 = .bool true := (hF589 99).trans rfl
             clear hF589
             refine then_normal ?_
             refine wq_cond (t := true) s603 (fun _ => ?_) (fun e => by cases e)
             refine wq_region (wl_mv rfl rfl rfl s599 (wl_mv rfl rfl rfl s597 (wl_v (iv (Int.tdiv (sumTo f p x y 4) 8)) rfl rfl (y_quo rfl rfl rfl (by first | decide | omega) (i64_i rfl (by rw [tdiv8 (by omega)]; omega)) rr) (wl_v (.pointer (some ⟨p39, n, none⟩)) rfl rfl (y_atR n (s := 1) rfl s596 rfl (by omega) Tryz.underlying68 (by omega) (by kernel_rfl) (by omega) rr) (wl_set_blk rfl rfl rfl rfl rfl B557 (by omega) (by kernel_rfl) fun w604 B605 k606 => ?_)))))
             have B607 := B552.all k606 ap46.symm
             have B608 := B553.all k606 ap47.symm
             have B609 := B554.all k606 ap48.symm
             have B610 := B555.all k606 (ap49.symm p1 rfl)
             have B611 := B556.all k606 (ap50.symm p14 rfl)
             have K612 := K558.trans k606 (Grew.ok (S := fun _ => False) gr45 noB_le)
             refine wl_nil fun F613 hF614 => ?_
             obtain ⟨s615, s616, s617, s618, s619, s620, s621, s622, s623, s624⟩ := t10 hF614 1 s590 2 s591 3 s592 4 s593 5 s594 10 s595 12 s596 13 s597 116 s598 15 s599
             clear hF614
             refine in_normal (in_normal (then_normal (wq_region (wl_mv rfl rfl rfl s624 (wl_v (iv ((n + 1 : Nat) : Int)) rfl rfl (y_add rfl rfl rfl (i64_n (by omega) (by omega)) rr) (wl_v (iv ((n + 1 : Nat) : Int)) rfl rfl (y_asg rfl rfl rr) (wl_nil fun F625 hF626 => ?_)))))))
             obtain ⟨s627, s628, s629, s630, s631, s632, s633, s634, s635⟩ := t9 hF626 1 s615 2 s616 3 s617 4 s618 5 s619 10 s620 12 s621 13 s622 116 s623
             have s636 : F625 15 = iv ((n + 1 : Nat) : Int) := (hF626 15).trans rfl
             clear hF626
             exact then_normal ⟨(16 - (n + 1)), by omega, n + 1, by omega, rfl, s627, s628, s629, s630, s631, s632, s633, s634, s635, s636, K612, B607, B608, B609, B610, B611, (B605.next rfl)⟩
            ·replace c527 := of_decide_eq_false c527
             refine wq_exit (then_exit (then_exit ?_))
             have l637 : 16 = n := by omega
             subst l637
             have B638 : Blk w494 p39 68 (predN f p x y 0) := (B513.last)
             refine in_here (then_normal (wq_seq (wq_region (wl_v (blkV (predN f p x y 0)) rfl rfl (y_load_blk blkT_arr rfl s522 B638 rr) (wl_store_blk blkT_arr rfl rfl rfl s521 rfl B512 fun w639 B640 k641 => ?_)))))
             have K647 := K495.trans k641 (Grew.ok (S := fun _ => False) gr20 noB_le)
             refine wl_v (iv 0) rfl rfl (y_asg rfl rfl rr) (wl_nil fun F648 hF649 => ?_)
             obtain ⟨s650, s651⟩ := t2 hF649 10 s521 116 s524
             have s652 : F648 11 = iv 0 := (hF649 11).trans rfl
             clear hF649
             refine then_normal (wq_ret ?_)
             exact end_2 s651 rfl (res_blk blkT_arr rfl s650 B640) (res_tmp (v := iv 0) rfl s652) ⟨(by first | rw [(pred_no hno).1, (pred_no hno).2] | rw [(pred_none hpl (by omega)).1, (pred_none hpl (by omega)).2] | rw [(pred_yes hpl (by decide)).1, (pred_yes hpl (by decide)).2]), K647⟩
           ·skip
            refine wq_region (wl_v (iv 0) rfl rfl (y_asg rfl rfl rr) (wl_nil fun F653 hF654 => ?_))
            obtain ⟨s655, s656, s657, s658, s659, s660, s661, s662, s663⟩ := t9 hF654 1 s419 2 s420 3 s421 4 s422 5 s423 10 s424 12 s425 116 s426 13 s427
            have s664 : F653 15 = iv 0 := (hF654 15).trans rfl
            clear hF654
            refine then_normal (wq_block (wq_loop (fun nn FF ww => ∃ (n : Nat), (n ≤ 16) ∧ nn = 16 - n ∧ FF 1 = iv p ∧ FF 2 = iv x ∧ FF 3 = iv y ∧ FF 4 = iv 1 ∧ FF 5 = pt p1 0 ∧ FF 10 = pt p14 0 ∧ FF 12 = pt p39 0 ∧ FF 13 = iv (sumTo f p x y 4) ∧ FF 116 = undef ∧ FF 15 = iv ((n : Nat) : Int) ∧ Kept (fun _ => False) w0 ww ∧ Byt ww T_f0 f0 (f.p0) ∧ Byt ww T_f1 f1 (f.p1) ∧ Byt ww T_f2 f2 (f.p2) ∧ Stc ww p1 29 [iv (f.W), iv (f.H), f0, f1, f2] ∧ Blk ww p14 68 (fun _ => 0) ∧ Blk ww p39 68 (upto n (fun _ => 0) (predN f p x y 1))) (16 - 0) ⟨0, by omega, rfl, s655, s656, s657, s658, s659, s660, s661, s663, s662, s664, K398, B411, B412, B413, B414, B415, B416.first⟩ ?_))
            rintro n668 F665 w666 ⟨n, i669, hn668, s670, s671, s672, s673, s674, s675, s676, s677, s678, s679, K667, B680, B681, B682, B683, B684, B685⟩
            refine wq_seq (wq_seq (wq_region (wl_mv rfl rfl rfl s679 (wl_v (.bool (decide (((n : Nat) : Int) < 16))) rfl rfl (y_lss rfl rfl rfl rfl rr) (wl_nil fun F686 hF687 => ?_)))))
            obtain ⟨s688, s689, s690, s691, s692, s693, s694, s695, s696, s697⟩ := t10 hF687 1 s670 2 s671 3 s672 4 s673 5 s674 10 s675 12 s676 13 s677 116 s678 15 s679
            have s698 : F686 74 = .bool (decide (((n : Nat) : Int) < 16)) := (hF687 74).trans rfl
            clear hF687
            refine then_normal ?_
            refine wq_cond s698 (fun c699 => ?_) (fun c699 => ?_)
            ·replace c699 := of_decide_eq_true c699
             refine wq_skip (then_normal (wq_seq (wq_block (wq_seq ?_))))
             have hs := sumTo_le hb p x y 4
             have ha := above_le hb p x y ((n % 4 : Nat) : Int)
             have hl := left_le hb p x y ((n / 4 : Nat) : Int)
             refine wq_region (wl_v (.agg #[iv (f.W), iv (f.H), f0, f1, f2]) rfl rfl (y_load_stc stcT_frame rfl s692 B683 rr) (wl_mv rfl rfl rfl s688 (wl_mv rfl rfl rfl s689 (wl_mv rfl rfl rfl s690 (wl_mv rfl rfl rfl s697 (wl_v (iv (((n % 4) : Nat) : Int)) rfl rfl (y_rem rfl rfl rfl (by first | decide | omega) (rem_nat n 4) rr) (wl_cs rfl rfl rfl rfl rfl (fun _ _ => by kernel_rfl) (vsC rfl (vsC rfl (vsC rfl (vsC rfl (vsC rfl vsN))))) (iref_above p x y (((n % 4) : Nat) : Int) f f0 f1 f2 T_f0 T_f1 T_f2 _ (by omega) (by omega) (by omega) B680 B681 B682 ) fun w700 k701 => ?_)))))))
             have B702 := B680.all k701 Apart.none
             have B703 := B681.all k701 Apart.none
             have B704 := B682.all k701 Apart.none
             have B705 := B683.all k701 id
             have B706 := B684.all k701 id
             have B707 := B685.all k701 id
             have K708 := K667.tr k701
             refine wl_v (iv (aboveF f p x y (((n % 4) : Nat) : Int))) rfl rfl (y_asg rfl rfl rr) (wl_nil fun F709 hF710 => ?_)
             obtain ⟨s711, s712, s713, s714, s715, s716, s717, s718, s719, s720⟩ := t10 hF710 1 s688 2 s689 3 s690 4 s691 5 s692 10 s693 12 s694 13 s695 116 s696 15 s697
             have s721 : F709 16 = iv (aboveF f p x y (((n % 4) : Nat) : Int)) := (hF710 16).trans rfl
             clear hF710
             refine then_normal (wq_seq (wq_region (wl_v (.agg #[iv (f.W), iv (f.H), f0, f1, f2]) rfl rfl (y_load_stc stcT_frame rfl s715 B705 rr) (wl_mv rfl rfl rfl s711 (wl_mv rfl rfl rfl s712 (wl_mv rfl rfl rfl s713 (wl_mv rfl rfl rfl s720 (wl_v (iv (((n / 4) : Nat) : Int)) rfl rfl (y_quo rfl rfl rfl (by first | decide | omega) (i64_n (quo_nat n 4) (by omega)) rr) (wl_cs rfl rfl rfl rfl rfl (fun _ _ => by kernel_rfl) (vsC rfl (vsC rfl (vsC rfl (vsC rfl (vsC rfl vsN))))) (iref_left p x y (((n / 4) : Nat) : Int) f f0 f1 f2 T_f0 T_f1 T_f2 _ (by omega) (by omega) (by omega) B702 B703 B704 ) fun w722 k723 => ?_)))))))))
             have B724 := B702.all k723 Apart.none
             have B725 := B703.all k723 Apart.none
             have B726 := B704.all k723 Apart.none
             have B727 := B705.all k723 id
             have B728 := B706.all k723 id
             have B729 := B707.all k723 id
             have K730 := K708.tr k723
             refine wl_v (iv (leftF f p x y (((n / 4) : Nat) : Int))) rfl rfl (y_asg rfl rfl rr) (wl_nil fun F731 hF732 => ?_)
             obtain ⟨s733, s734, s735, s736, s737, s738, s739, s740, s741, s742, s743⟩ := t11 hF732 1 s711 2 s712 3 s713 4 s714 5 s715 10 s716 12 s717 13 s718 116 s719 15 s720 16 s721
             clear hF732
             refine then_normal (wq_seq (wq_region (wl_mv rfl rfl rfl s736 (wl_nil fun F745 hF746 => ?_))))
             obtain ⟨s747, s748, s749, s750, s751, s752, s753, s754, s755, s756, s757⟩ := t11 hF746 1 s733 2 s734 3 s735 4 s736 5 s737 10 s738 12 s739 13 s740 116 s741 15 s742 16 s743
             have s759 : F745 91 = iv 1 := (hF746 91).trans rfl
             clear hF746
             refine then_normal (wq_block (wq_seq (wq_region (wl_v (.bool false) rfl rfl (y_eqlI rfl s759 rfl rfl rr) (wl_v (.bool false) rfl rfl (y_asg rfl rfl rr) (wl_nil fun F760 hF761 => ?_))))))
             obtain ⟨s762, s763, s764, s765, s766, s767, s768, s769, s770, s771, s772, s774⟩ := t12 hF761 1 s747 2 s748 3 s749 4 s750 5 s751 10 s752 12 s753 13 s754 116 s755 15 s756 16 s757 91 s759
             have s775 : F760 99 = .bool false := (hF761 99).trans rfl
             clear hF761
             refine then_normal ?_
             refine wq_cond (t := false) s775 (fun e => by cases e) (fun _ => ?_)
             refine wq_seq (wq_region (wl_v (.bool true) rfl rfl (y_eqlI rfl s774 rfl rfl rr) (wl_v (.bool true) rfl rfl (y_asg rfl rfl rr) (wl_nil fun F776 hF777 => ?_))))
             obtain ⟨s778, s779, s780, s781, s782, s783, s784, s785, s786, s787, s788⟩ := t11 hF777 1 s762 2 s763 3 s764 4 s765 5 s766 10 s767 12 s768 13 s769 116 s770 15 s771 16 s772
             have s791 : F776 105 = .bool true := (hF777 105).trans rfl
             clear hF777
             refine then_normal ?_
             refine wq_cond (t := true) s791 (fun _ => ?_) (fun e => by cases e)
             refine wq_region (wl_mv rfl rfl rfl s787 (wl_mv rfl rfl rfl s788 (wl_v (.pointer (some ⟨p39, n, none⟩)) rfl rfl (y_atR n (s := 1) rfl s784 rfl (by omega) Tryz.underlying68 (by omega) (by kernel_rfl) (by omega) rr) (wl_set_blk rfl rfl rfl rfl rfl B729 (by omega) (by kernel_rfl) fun w792 B793 k794 => ?_))))
             have B795 := B724.all k794 ap46.symm
             have B796 := B725.all k794 ap47.symm
             have B797 := B726.all k794 ap48.symm
             have B798 := B727.all k794 (ap49.symm p1 rfl)
             have B799 := B728.all k794 (ap50.symm p14 rfl)
             have K800 := K730.trans k794 (Grew.ok (S := fun _ => False) gr45 noB_le)
             refine wl_nil fun F801 hF802 => ?_
             obtain ⟨s803, s804, s805, s806, s807, s808, s809, s810, s811, s812⟩ := t10 hF802 1 s778 2 s779 3 s780 4 s781 5 s782 10 s783 12 s784 13 s785 116 s786 15 s787
             clear hF802
             refine in_normal (in_normal (then_normal (wq_region (wl_mv rfl rfl rfl s812 (wl_v (iv ((n + 1 : Nat) : Int)) rfl rfl (y_add rfl rfl rfl (i64_n (by omega) (by omega)) rr) (wl_v (iv ((n + 1 : Nat) : Int)) rfl rfl (y_asg rfl rfl rr) (wl_nil fun F813 hF814 => ?_)))))))
             obtain ⟨s815, s816, s817, s818, s819, s820, s821, s822, s823⟩ := t9 hF814 1 s803 2 s804 3 s805 4 s806 5 s807 10 s808 12 s809 13 s810 116 s811
             have s824 : F813 15 = iv ((n + 1 : Nat) : Int) := (hF814 15).trans rfl
             clear hF814
             exact then_normal ⟨(16 - (n + 1)), by omega, n + 1, by omega, rfl, s815, s816, s817, s818, s819, s820, s821, s822, s823, s824, K800, B795, B796, B797, B798, B799, (B793.next rfl)⟩
            ·replace c699 := of_decide_eq_false c699
             refine wq_exit (then_exit (then_exit ?_))
             have l825 : 16 = n := by omega
             subst l825
             have B826 : Blk w666 p39 68 (predN f p x y 1) := (B685.last)
             refine in_here (then_normal (wq_seq (wq_region (wl_v (blkV (predN f p x y 1)) rfl rfl (y_load_blk blkT_arr rfl s694 B826 rr) (wl_store_blk blkT_arr rfl rfl rfl s693 rfl B684 fun w827 B828 k829 => ?_)))))
             have K835 := K667.trans k829 (Grew.ok (S := fun _ => False) gr20 noB_le)
             refine wl_v (iv 0) rfl rfl (y_asg rfl rfl rr) (wl_nil fun F836 hF837 => ?_)
             obtain ⟨s838, s839⟩ := t2 hF837 10 s693 116 s696
             have s840 : F836 11 = iv 0 := (hF837 11).trans rfl
             clear hF837
             refine then_normal (wq_ret ?_)
             exact end_2 s839 rfl (res_blk blkT_arr rfl s838 B828) (res_tmp (v := iv 0) rfl s840) ⟨(by first | rw [(pred_no hno).1, (pred_no hno).2] | rw [(pred_none hpl (by omega)).1, (pred_none hpl (by omega)).2] | rw [(pred_yes hpl (by decide)).1, (pred_yes hpl (by decide)).2]), K835⟩
           ·skip
            refine wq_region (wl_v (iv 0) rfl rfl (y_asg rfl rfl rr) (wl_nil fun F841 hF842 => ?_))
            obtain ⟨s843, s844, s845, s846, s847, s848, s849, s850, s851⟩ := t9 hF842 1 s419 2 s420 3 s421 4 s422 5 s423 10 s424 12 s425 116 s426 13 s427
            have s852 : F841 15 = iv 0 := (hF842 15).trans rfl
            clear hF842
            refine then_normal (wq_block (wq_loop (fun nn FF ww => ∃ (n : Nat), (n ≤ 16) ∧ nn = 16 - n ∧ FF 1 = iv p ∧ FF 2 = iv x ∧ FF 3 = iv y ∧ FF 4 = iv 2 ∧ FF 5 = pt p1 0 ∧ FF 10 = pt p14 0 ∧ FF 12 = pt p39 0 ∧ FF 13 = iv (sumTo f p x y 4) ∧ FF 116 = undef ∧ FF 15 = iv ((n : Nat) : Int) ∧ Kept (fun _ => False) w0 ww ∧ Byt ww T_f0 f0 (f.p0) ∧ Byt ww T_f1 f1 (f.p1) ∧ Byt ww T_f2 f2 (f.p2) ∧ Stc ww p1 29 [iv (f.W), iv (f.H), f0, f1, f2] ∧ Blk ww p14 68 (fun _ => 0) ∧ Blk ww p39 68 (upto n (fun _ => 0) (predN f p x y 2))) (16 - 0) ⟨0, by omega, rfl, s843, s844, s845, s846, s847, s848, s849, s851, s850, s852, K398, B411, B412, B413, B414, B415, B416.first⟩ ?_))
            rintro n856 F853 w854 ⟨n, i857, hn856, s858, s859, s860, s861, s862, s863, s864, s865, s866, s867, K855, B868, B869, B870, B871, B872, B873⟩
            refine wq_seq (wq_seq (wq_region (wl_mv rfl rfl rfl s867 (wl_v (.bool (decide (((n : Nat) : Int) < 16))) rfl rfl (y_lss rfl rfl rfl rfl rr) (wl_nil fun F874 hF875 => ?_)))))
            obtain ⟨s876, s877, s878, s879, s880, s881, s882, s883, s884, s885⟩ := t10 hF875 1 s858 2 s859 3 s860 4 s861 5 s862 10 s863 12 s864 13 s865 116 s866 15 s867
            have s886 : F874 74 = .bool (decide (((n : Nat) : Int) < 16)) := (hF875 74).trans rfl
            clear hF875
            refine then_normal ?_
            refine wq_cond s886 (fun c887 => ?_) (fun c887 => ?_)
            ·replace c887 := of_decide_eq_true c887
             refine wq_skip (then_normal (wq_seq (wq_block (wq_seq ?_))))
             have hs := sumTo_le hb p x y 4
             have ha := above_le hb p x y ((n % 4 : Nat) : Int)
             have hl := left_le hb p x y ((n / 4 : Nat) : Int)
             refine wq_region (wl_v (.agg #[iv (f.W), iv (f.H), f0, f1, f2]) rfl rfl (y_load_stc stcT_frame rfl s880 B871 rr) (wl_mv rfl rfl rfl s876 (wl_mv rfl rfl rfl s877 (wl_mv rfl rfl rfl s878 (wl_mv rfl rfl rfl s885 (wl_v (iv (((n % 4) : Nat) : Int)) rfl rfl (y_rem rfl rfl rfl (by first | decide | omega) (rem_nat n 4) rr) (wl_cs rfl rfl rfl rfl rfl (fun _ _ => by kernel_rfl) (vsC rfl (vsC rfl (vsC rfl (vsC rfl (vsC rfl vsN))))) (iref_above p x y (((n % 4) : Nat) : Int) f f0 f1 f2 T_f0 T_f1 T_f2 _ (by omega) (by omega) (by omega) B868 B869 B870 ) fun w888 k889 => ?_)))))))
             have B890 := B868.all k889 Apart.none
             have B891 := B869.all k889 Apart.none
             have B892 := B870.all k889 Apart.none
             have B893 := B871.all k889 id
             have B894 := B872.all k889 id
             have B895 := B873.all k889 id
             have K896 := K855.tr k889
             refine wl_v (iv (aboveF f p x y (((n % 4) : Nat) : Int))) rfl rfl (y_asg rfl rfl rr) (wl_nil fun F897 hF898 => ?_)
             obtain ⟨s899, s900, s901, s902, s903, s904, s905, s906, s907, s908⟩ := t10 hF898 1 s876 2 s877 3 s878 4 s879 5 s880 10 s881 12 s882 13 s883 116 s884 15 s885
             clear hF898
             refine then_normal (wq_seq (wq_region (wl_v (.agg #[iv (f.W), iv (f.H), f0, f1, f2]) rfl rfl (y_load_stc stcT_frame rfl s903 B893 rr) (wl_mv rfl rfl rfl s899 (wl_mv rfl rfl rfl s900 (wl_mv rfl rfl rfl s901 (wl_mv rfl rfl rfl s908 (wl_v (iv (((n / 4) : Nat) : Int)) rfl rfl (y_quo rfl rfl rfl (by first | decide | omega) (i64_n (quo_nat n 4) (by omega)) rr) (wl_cs rfl rfl rfl rfl rfl (fun _ _ => by kernel_rfl) (vsC rfl (vsC rfl (vsC rfl (vsC rfl (vsC rfl vsN))))) (iref_left p x y (((n / 4) : Nat) : Int) f f0 f1 f2 T_f0 T_f1 T_f2 _ (by omega) (by omega) (by omega) B890 B891 B892 ) fun w910 k911 => ?_)))))))))
             have B912 := B890.all k911 Apart.none
             have B913 := B891.all k911 Apart.none
             have B914 := B892.all k911 Apart.none
             have B915 := B893.all k911 id
             have B916 := B894.all k911 id
             have B917 := B895.all k911 id
             have K918 := K896.tr k911
             refine wl_v (iv (leftF f p x y (((n / 4) : Nat) : Int))) rfl rfl (y_asg rfl rfl rr) (wl_nil fun F919 hF920 => ?_)
             obtain ⟨s921, s922, s923, s924, s925, s926, s927, s928, s929, s930⟩ := t10 hF920 1 s899 2 s900 3 s901 4 s902 5 s903 10 s904 12 s905 13 s906 116 s907 15 s908
             have s932 : F919 17 = iv (leftF f p x y (((n / 4) : Nat) : Int)) := (hF920 17).trans rfl
             clear hF920
             refine then_normal (wq_seq (wq_region (wl_mv rfl rfl rfl s924 (wl_nil fun F933 hF934 => ?_))))
             obtain ⟨s935, s936, s937, s938, s939, s940, s941, s942, s943, s944, s946⟩ := t11 hF934 1 s921 2 s922 3 s923 4 s924 5 s925 10 s926 12 s927 13 s928 116 s929 15 s930 17 s932
             have s947 : F933 91 = iv 2 := (hF934 91).trans rfl
             clear hF934
             refine then_normal (wq_block (wq_seq (wq_region (wl_v (.bool false) rfl rfl (y_eqlI rfl s947 rfl rfl rr) (wl_v (.bool false) rfl rfl (y_asg rfl rfl rr) (wl_nil fun F948 hF949 => ?_))))))
             obtain ⟨s950, s951, s952, s953, s954, s955, s956, s957, s958, s959, s961, s962⟩ := t12 hF949 1 s935 2 s936 3 s937 4 s938 5 s939 10 s940 12 s941 13 s942 116 s943 15 s944 17 s946 91 s947
             have s963 : F948 99 = .bool false := (hF949 99).trans rfl
             clear hF949
             refine then_normal ?_
             refine wq_cond (t := false) s963 (fun e => by cases e) (fun _ => ?_)
             refine wq_seq (wq_region (wl_v (.bool false) rfl rfl (y_eqlI rfl s962 rfl rfl rr) (wl_v (.bool false) rfl rfl (y_asg rfl rfl rr) (wl_nil fun F964 hF965 => ?_))))
             obtain ⟨s966, s967, s968, s969, s970, s971, s972, s973, s974, s975, s977, s978⟩ := t12 hF965 1 s950 2 s951 3 s952 4 s953 5 s954 10 s955 12 s956 13 s957 116 s958 15 s959 17 s961 91 s962
             have s979 : F964 105 = .bool false := (hF965 105).trans rfl
             clear hF965
             refine then_normal ?_
             refine wq_cond (t := false) s979 (fun e => by cases e) (fun _ => ?_)
             refine wq_seq (wq_region (wl_v (.bool true) rfl rfl (y_eqlI rfl s978 rfl rfl rr) (wl_v (.bool true) rfl rfl (y_asg rfl rfl rr) (wl_nil fun F980 hF981 => ?_))))
             obtain ⟨s982, s983, s984, s985, s986, s987, s988, s989, s990, s991, s993⟩ := t11 hF981 1 s966 2 s967 3 s968 4 s969 5 s970 10 s971 12 s972 13 s973 116 s974 15 s975 17 s977
             have s994 : F980 110 = .bool true := (hF981 110).trans rfl
             clear hF981
             refine then_normal ?_
             refine wq_cond (t := true) s994 (fun _ => ?_) (fun e => by cases e)
             refine wq_region (wl_mv rfl rfl rfl s991 (wl_mv rfl rfl rfl s993 (wl_v (.pointer (some ⟨p39, n, none⟩)) rfl rfl (y_atR n (s := 1) rfl s988 rfl (by omega) Tryz.underlying68 (by omega) (by kernel_rfl) (by omega) rr) (wl_set_blk rfl rfl rfl rfl rfl B917 (by omega) (by kernel_rfl) fun w995 B996 k997 => ?_))))
             have B998 := B912.all k997 ap46.symm
             have B999 := B913.all k997 ap47.symm
             have B1000 := B914.all k997 ap48.symm
             have B1001 := B915.all k997 (ap49.symm p1 rfl)
             have B1002 := B916.all k997 (ap50.symm p14 rfl)
             have K1003 := K918.trans k997 (Grew.ok (S := fun _ => False) gr45 noB_le)
             refine wl_nil fun F1004 hF1005 => ?_
             obtain ⟨s1006, s1007, s1008, s1009, s1010, s1011, s1012, s1013, s1014, s1015⟩ := t10 hF1005 1 s982 2 s983 3 s984 4 s985 5 s986 10 s987 12 s988 13 s989 116 s990 15 s991
             clear hF1005
             refine in_normal (in_normal (then_normal (wq_region (wl_mv rfl rfl rfl s1015 (wl_v (iv ((n + 1 : Nat) : Int)) rfl rfl (y_add rfl rfl rfl (i64_n (by omega) (by omega)) rr) (wl_v (iv ((n + 1 : Nat) : Int)) rfl rfl (y_asg rfl rfl rr) (wl_nil fun F1016 hF1017 => ?_)))))))
             obtain ⟨s1018, s1019, s1020, s1021, s1022, s1023, s1024, s1025, s1026⟩ := t9 hF1017 1 s1006 2 s1007 3 s1008 4 s1009 5 s1010 10 s1011 12 s1012 13 s1013 116 s1014
             have s1027 : F1016 15 = iv ((n + 1 : Nat) : Int) := (hF1017 15).trans rfl
             clear hF1017
             exact then_normal ⟨(16 - (n + 1)), by omega, n + 1, by omega, rfl, s1018, s1019, s1020, s1021, s1022, s1023, s1024, s1025, s1026, s1027, K1003, B998, B999, B1000, B1001, B1002, (B996.next rfl)⟩
            ·replace c887 := of_decide_eq_false c887
             refine wq_exit (then_exit (then_exit ?_))
             have l1028 : 16 = n := by omega
             subst l1028
             have B1029 : Blk w854 p39 68 (predN f p x y 2) := (B873.last)
             refine in_here (then_normal (wq_seq (wq_region (wl_v (blkV (predN f p x y 2)) rfl rfl (y_load_blk blkT_arr rfl s882 B1029 rr) (wl_store_blk blkT_arr rfl rfl rfl s881 rfl B872 fun w1030 B1031 k1032 => ?_)))))
             have K1038 := K855.trans k1032 (Grew.ok (S := fun _ => False) gr20 noB_le)
             refine wl_v (iv 0) rfl rfl (y_asg rfl rfl rr) (wl_nil fun F1039 hF1040 => ?_)
             obtain ⟨s1041, s1042⟩ := t2 hF1040 10 s881 116 s884
             have s1043 : F1039 11 = iv 0 := (hF1040 11).trans rfl
             clear hF1040
             refine then_normal (wq_ret ?_)
             exact end_2 s1042 rfl (res_blk blkT_arr rfl s1041 B1031) (res_tmp (v := iv 0) rfl s1043) ⟨(by first | rw [(pred_no hno).1, (pred_no hno).2] | rw [(pred_none hpl (by omega)).1, (pred_none hpl (by omega)).2] | rw [(pred_yes hpl (by decide)).1, (pred_yes hpl (by decide)).2]), K1038⟩
           ·skip
            refine wq_region (wl_v (iv 0) rfl rfl (y_asg rfl rfl rr) (wl_nil fun F1044 hF1045 => ?_))
            obtain ⟨s1046, s1047, s1048, s1049, s1050, s1051, s1052, s1053, s1054⟩ := t9 hF1045 1 s419 2 s420 3 s421 4 s422 5 s423 10 s424 12 s425 116 s426 13 s427
            have s1055 : F1044 15 = iv 0 := (hF1045 15).trans rfl
            clear hF1045
            refine then_normal (wq_block (wq_loop (fun nn FF ww => ∃ (n : Nat), (n ≤ 16) ∧ nn = 16 - n ∧ FF 1 = iv p ∧ FF 2 = iv x ∧ FF 3 = iv y ∧ FF 4 = iv 3 ∧ FF 5 = pt p1 0 ∧ FF 10 = pt p14 0 ∧ FF 12 = pt p39 0 ∧ FF 13 = iv (sumTo f p x y 4) ∧ FF 116 = undef ∧ FF 15 = iv ((n : Nat) : Int) ∧ Kept (fun _ => False) w0 ww ∧ Byt ww T_f0 f0 (f.p0) ∧ Byt ww T_f1 f1 (f.p1) ∧ Byt ww T_f2 f2 (f.p2) ∧ Stc ww p1 29 [iv (f.W), iv (f.H), f0, f1, f2] ∧ Blk ww p14 68 (fun _ => 0) ∧ Blk ww p39 68 (upto n (fun _ => 0) (predN f p x y 3))) (16 - 0) ⟨0, by omega, rfl, s1046, s1047, s1048, s1049, s1050, s1051, s1052, s1054, s1053, s1055, K398, B411, B412, B413, B414, B415, B416.first⟩ ?_))
            rintro n1059 F1056 w1057 ⟨n, i1060, hn1059, s1061, s1062, s1063, s1064, s1065, s1066, s1067, s1068, s1069, s1070, K1058, B1071, B1072, B1073, B1074, B1075, B1076⟩
            refine wq_seq (wq_seq (wq_region (wl_mv rfl rfl rfl s1070 (wl_v (.bool (decide (((n : Nat) : Int) < 16))) rfl rfl (y_lss rfl rfl rfl rfl rr) (wl_nil fun F1077 hF1078 => ?_)))))
            obtain ⟨s1079, s1080, s1081, s1082, s1083, s1084, s1085, s1086, s1087, s1088⟩ := t10 hF1078 1 s1061 2 s1062 3 s1063 4 s1064 5 s1065 10 s1066 12 s1067 13 s1068 116 s1069 15 s1070
            have s1089 : F1077 74 = .bool (decide (((n : Nat) : Int) < 16)) := (hF1078 74).trans rfl
            clear hF1078
            refine then_normal ?_
            refine wq_cond s1089 (fun c1090 => ?_) (fun c1090 => ?_)
            ·replace c1090 := of_decide_eq_true c1090
             refine wq_skip (then_normal (wq_seq (wq_block (wq_seq ?_))))
             have hs := sumTo_le hb p x y 4
             have ha := above_le hb p x y ((n % 4 : Nat) : Int)
             have hl := left_le hb p x y ((n / 4 : Nat) : Int)
             refine wq_region (wl_v (.agg #[iv (f.W), iv (f.H), f0, f1, f2]) rfl rfl (y_load_stc stcT_frame rfl s1083 B1074 rr) (wl_mv rfl rfl rfl s1079 (wl_mv rfl rfl rfl s1080 (wl_mv rfl rfl rfl s1081 (wl_mv rfl rfl rfl s1088 (wl_v (iv (((n % 4) : Nat) : Int)) rfl rfl (y_rem rfl rfl rfl (by first | decide | omega) (rem_nat n 4) rr) (wl_cs rfl rfl rfl rfl rfl (fun _ _ => by kernel_rfl) (vsC rfl (vsC rfl (vsC rfl (vsC rfl (vsC rfl vsN))))) (iref_above p x y (((n % 4) : Nat) : Int) f f0 f1 f2 T_f0 T_f1 T_f2 _ (by omega) (by omega) (by omega) B1071 B1072 B1073 ) fun w1091 k1092 => ?_)))))))
             have B1093 := B1071.all k1092 Apart.none
             have B1094 := B1072.all k1092 Apart.none
             have B1095 := B1073.all k1092 Apart.none
             have B1096 := B1074.all k1092 id
             have B1097 := B1075.all k1092 id
             have B1098 := B1076.all k1092 id
             have K1099 := K1058.tr k1092
             refine wl_v (iv (aboveF f p x y (((n % 4) : Nat) : Int))) rfl rfl (y_asg rfl rfl rr) (wl_nil fun F1100 hF1101 => ?_)
             obtain ⟨s1102, s1103, s1104, s1105, s1106, s1107, s1108, s1109, s1110, s1111⟩ := t10 hF1101 1 s1079 2 s1080 3 s1081 4 s1082 5 s1083 10 s1084 12 s1085 13 s1086 116 s1087 15 s1088
             have s1112 : F1100 16 = iv (aboveF f p x y (((n % 4) : Nat) : Int)) := (hF1101 16).trans rfl
             clear hF1101
             refine then_normal (wq_seq (wq_region (wl_v (.agg #[iv (f.W), iv (f.H), f0, f1, f2]) rfl rfl (y_load_stc stcT_frame rfl s1106 B1096 rr) (wl_mv rfl rfl rfl s1102 (wl_mv rfl rfl rfl s1103 (wl_mv rfl rfl rfl s1104 (wl_mv rfl rfl rfl s1111 (wl_v (iv (((n / 4) : Nat) : Int)) rfl rfl (y_quo rfl rfl rfl (by first | decide | omega) (i64_n (quo_nat n 4) (by omega)) rr) (wl_cs rfl rfl rfl rfl rfl (fun _ _ => by kernel_rfl) (vsC rfl (vsC rfl (vsC rfl (vsC rfl (vsC rfl vsN))))) (iref_left p x y (((n / 4) : Nat) : Int) f f0 f1 f2 T_f0 T_f1 T_f2 _ (by omega) (by omega) (by omega) B1093 B1094 B1095 ) fun w1113 k1114 => ?_)))))))))
             have B1115 := B1093.all k1114 Apart.none
             have B1116 := B1094.all k1114 Apart.none
             have B1117 := B1095.all k1114 Apart.none
             have B1118 := B1096.all k1114 id
             have B1119 := B1097.all k1114 id
             have B1120 := B1098.all k1114 id
             have K1121 := K1099.tr k1114
             refine wl_v (iv (leftF f p x y (((n / 4) : Nat) : Int))) rfl rfl (y_asg rfl rfl rr) (wl_nil fun F1122 hF1123 => ?_)
             obtain ⟨s1124, s1125, s1126, s1127, s1128, s1129, s1130, s1131, s1132, s1133, s1134⟩ := t11 hF1123 1 s1102 2 s1103 3 s1104 4 s1105 5 s1106 10 s1107 12 s1108 13 s1109 116 s1110 15 s1111 16 s1112
             have s1135 : F1122 17 = iv (leftF f p x y (((n / 4) : Nat) : Int)) := (hF1123 17).trans rfl
             clear hF1123
             refine then_normal (wq_seq (wq_region (wl_mv rfl rfl rfl s1127 (wl_nil fun F1136 hF1137 => ?_))))
             obtain ⟨s1138, s1139, s1140, s1141, s1142, s1143, s1144, s1145, s1146, s1147, s1148, s1149⟩ := t12 hF1137 1 s1124 2 s1125 3 s1126 4 s1127 5 s1128 10 s1129 12 s1130 13 s1131 116 s1132 15 s1133 16 s1134 17 s1135
             have s1150 : F1136 91 = iv 3 := (hF1137 91).trans rfl
             clear hF1137
             refine then_normal (wq_block (wq_seq (wq_region (wl_v (.bool false) rfl rfl (y_eqlI rfl s1150 rfl rfl rr) (wl_v (.bool false) rfl rfl (y_asg rfl rfl rr) (wl_nil fun F1151 hF1152 => ?_))))))
             obtain ⟨s1153, s1154, s1155, s1156, s1157, s1158, s1159, s1160, s1161, s1162, s1163, s1164, s1165⟩ := t13 hF1152 1 s1138 2 s1139 3 s1140 4 s1141 5 s1142 10 s1143 12 s1144 13 s1145 116 s1146 15 s1147 16 s1148 17 s1149 91 s1150
             have s1166 : F1151 99 = .bool false := (hF1152 99).trans rfl
             clear hF1152
             refine then_normal ?_
             refine wq_cond (t := false) s1166 (fun e => by cases e) (fun _ => ?_)
             refine wq_seq (wq_region (wl_v (.bool false) rfl rfl (y_eqlI rfl s1165 rfl rfl rr) (wl_v (.bool false) rfl rfl (y_asg rfl rfl rr) (wl_nil fun F1167 hF1168 => ?_))))
             obtain ⟨s1169, s1170, s1171, s1172, s1173, s1174, s1175, s1176, s1177, s1178, s1179, s1180, s1181⟩ := t13 hF1168 1 s1153 2 s1154 3 s1155 4 s1156 5 s1157 10 s1158 12 s1159 13 s1160 116 s1161 15 s1162 16 s1163 17 s1164 91 s1165
             have s1182 : F1167 105 = .bool false := (hF1168 105).trans rfl
             clear hF1168
             refine then_normal ?_
             refine wq_cond (t := false) s1182 (fun e => by cases e) (fun _ => ?_)
             refine wq_seq (wq_region (wl_v (.bool false) rfl rfl (y_eqlI rfl s1181 rfl rfl rr) (wl_v (.bool false) rfl rfl (y_asg rfl rfl rr) (wl_nil fun F1183 hF1184 => ?_))))
             obtain ⟨s1185, s1186, s1187, s1188, s1189, s1190, s1191, s1192, s1193, s1194, s1195, s1196⟩ := t12 hF1184 1 s1169 2 s1170 3 s1171 4 s1172 5 s1173 10 s1174 12 s1175 13 s1176 116 s1177 15 s1178 16 s1179 17 s1180
             have s1197 : F1183 110 = .bool false := (hF1184 110).trans rfl
             clear hF1184
             refine then_normal ?_
             refine wq_cond (t := false) s1197 (fun e => by cases e) (fun _ => ?_)
             refine wq_region (wl_mv rfl rfl rfl s1194 (wl_mv rfl rfl rfl s1195 (wl_mv rfl rfl rfl s1196 (wl_v (iv ((aboveF f p x y (((n % 4) : Nat) : Int)) + (leftF f p x y (((n / 4) : Nat) : Int)))) rfl rfl (y_add rfl rfl rfl (i64_i rfl (by omega)) rr) (wl_v (iv (((aboveF f p x y (((n % 4) : Nat) : Int)) + (leftF f p x y (((n / 4) : Nat) : Int))) + 1)) rfl rfl (y_add rfl rfl rfl (i64_i rfl (by omega)) rr) (wl_v (iv (Int.tdiv (aboveF f p x y ((n % 4 : Nat) : Int) + leftF f p x y ((n / 4 : Nat) : Int) + 1) 2)) rfl rfl (y_quo rfl rfl rfl (by first | decide | omega) (i64_i rfl (by rw [tdiv2 (by omega)]; omega)) rr) (wl_v (.pointer (some ⟨p39, n, none⟩)) rfl rfl (y_atR n (s := 1) rfl s1191 rfl (by omega) Tryz.underlying68 (by omega) (by kernel_rfl) (by omega) rr) (wl_set_blk rfl rfl rfl rfl rfl B1120 (by omega) (by kernel_rfl) fun w1198 B1199 k1200 => ?_))))))))
             have B1201 := B1115.all k1200 ap46.symm
             have B1202 := B1116.all k1200 ap47.symm
             have B1203 := B1117.all k1200 ap48.symm
             have B1204 := B1118.all k1200 (ap49.symm p1 rfl)
             have B1205 := B1119.all k1200 (ap50.symm p14 rfl)
             have K1206 := K1121.trans k1200 (Grew.ok (S := fun _ => False) gr45 noB_le)
             refine wl_nil fun F1207 hF1208 => ?_
             obtain ⟨s1209, s1210, s1211, s1212, s1213, s1214, s1215, s1216, s1217, s1218⟩ := t10 hF1208 1 s1185 2 s1186 3 s1187 4 s1188 5 s1189 10 s1190 12 s1191 13 s1192 116 s1193 15 s1194
             clear hF1208
             refine in_normal (in_normal (then_normal (wq_region (wl_mv rfl rfl rfl s1218 (wl_v (iv ((n + 1 : Nat) : Int)) rfl rfl (y_add rfl rfl rfl (i64_n (by omega) (by omega)) rr) (wl_v (iv ((n + 1 : Nat) : Int)) rfl rfl (y_asg rfl rfl rr) (wl_nil fun F1219 hF1220 => ?_)))))))
             obtain ⟨s1221, s1222, s1223, s1224, s1225, s1226, s1227, s1228, s1229⟩ := t9 hF1220 1 s1209 2 s1210 3 s1211 4 s1212 5 s1213 10 s1214 12 s1215 13 s1216 116 s1217
             have s1230 : F1219 15 = iv ((n + 1 : Nat) : Int) := (hF1220 15).trans rfl
             clear hF1220
             exact then_normal ⟨(16 - (n + 1)), by omega, n + 1, by omega, rfl, s1221, s1222, s1223, s1224, s1225, s1226, s1227, s1228, s1229, s1230, K1206, B1201, B1202, B1203, B1204, B1205, (B1199.next rfl)⟩
            ·replace c1090 := of_decide_eq_false c1090
             refine wq_exit (then_exit (then_exit ?_))
             have l1231 : 16 = n := by omega
             subst l1231
             have B1232 : Blk w1057 p39 68 (predN f p x y 3) := (B1076.last)
             refine in_here (then_normal (wq_seq (wq_region (wl_v (blkV (predN f p x y 3)) rfl rfl (y_load_blk blkT_arr rfl s1085 B1232 rr) (wl_store_blk blkT_arr rfl rfl rfl s1084 rfl B1075 fun w1233 B1234 k1235 => ?_)))))
             have K1241 := K1058.trans k1235 (Grew.ok (S := fun _ => False) gr20 noB_le)
             refine wl_v (iv 0) rfl rfl (y_asg rfl rfl rr) (wl_nil fun F1242 hF1243 => ?_)
             obtain ⟨s1244, s1245⟩ := t2 hF1243 10 s1084 116 s1087
             have s1246 : F1242 11 = iv 0 := (hF1243 11).trans rfl
             clear hF1243
             refine then_normal (wq_ret ?_)
             exact end_2 s1245 rfl (res_blk blkT_arr rfl s1244 B1234) (res_tmp (v := iv 0) rfl s1246) ⟨(by first | rw [(pred_no hno).1, (pred_no hno).2] | rw [(pred_none hpl (by omega)).1, (pred_none hpl (by omega)).2] | rw [(pred_yes hpl (by decide)).1, (pred_yes hpl (by decide)).2]), K1241⟩
end Go.Proofs.YtknjpdcpmpfklaaGreatDoor
