/- What OrderBack reaches of my texts, part 3. -/
import Derived.Test.YthoafgfcoclkbaaOrderBackB
set_option maxRecDepth 100000
set_option maxHeartbeats 4000000
set_option maxRecDepth 100000
namespace Go.Proofs.Ythoafgfcoclkbaa
open Go.RowKit
theorem cut_at {N : Nat} {F : Nat → Value} {t : Nat} {v : Value} (h : Nat.blt t N = true) (hv : F t = v) : ev (cutF N F) (.tmp t) = v := by
  show cutF N F t = v
  unfold cutF; rw [h]; exact hv
theorem put_same {F : Nat → Value} {d : Option Tmp} {t : Nat} {v : Value} (h : d = some t) : putF F d v t = v := by rw [h]; show up F t v t = v; simp [up, Nat.beq_refl]
theorem put_other {F : Nat → Value} {d : Option Tmp} {t s : Nat} {v : Value} (h : d = some t) (hne : s ≠ t) : putF F d v s = F s := by
  rw [h]; show up F t v s = F s
  unfold up
  have : Nat.beq s t = false := by
    cases hb : Nat.beq s t
    · rfl
    · exact absurd (Nat.eq_of_beq_eq_true hb) hne
  rw [this]; rfl
theorem kept_but {T : Nat → Prop} {Y : Nat} {w W : World} {t : TypeId} {v : Value} (k : Kept (fun i => T i ∨ i = Y) w W) (h1 : Cel w Y t v) (h2 : Cel W Y t v) : Kept T w W := ⟨k.os, k.tape, k.output, k.size, fun i hi hn => by
  by_cases e : i = Y
  · subst e; exact (show W.heap[i]? = _ from h2).trans (show w.heap[i]? = _ from h1).symm
  · exact k.block i hi (fun h => h.elim hn e)⟩
def WithC {α : Type} (Y : Nat) (t : TypeId) (v : Value) (o : List α) (J : List α → (Nat → Prop) → World → Prop) (pre : List α) (T : Nat → Prop) (W : World) : Prop := ∃ Ti : Nat → Prop, (∀ i, T i ↔ (Ti i ∨ i = Y)) ∧ ¬ Ti Y ∧ Cel W Y t v ∧ J (o ++ pre) Ti W
theorem WithC.stj {α : Type} {Y : Nat} {t : TypeId} {v : Value} {o : List α} {J : List α → (Nat → Prop) → World → Prop} (h : StJ J) : StJ (WithC Y t v o J) := by
  refine ⟨?_, ?_⟩
  · rintro pre T S w w' ⟨Ti, hT, h0, hc, hj⟩ k ha
    exact ⟨Ti, hT, h0, hc.all k (ha Y ((hT Y).2 (.inr rfl))), h.st _ _ _ _ _ hj k (fun i hi => ha i ((hT i).2 (.inl hi)))⟩
  · rintro pre T w ⟨Ti, hT, _, hc, hj⟩ i hi
    rcases (hT i).1 hi with h1 | rfl
    · exact h.li _ _ _ hj i h1
    · exact hc.lt
theorem wq_fwd {α : Type} {P : Program} {N : Nat} {Q : Exit → (Nat → Value) → World → Prop} {F : Nat → Value} {w : World} {gs q z y t1 t2 t3 t4 : Tmp} {ra rb id n : Nat} {o1 o2 o3 o4 o5 o6 : Oper} {TY tf tb : TypeId} {d : TypeDesc} {c : Call} {us : α → List Value} {zs : List Value} {v : Value} {xs o all : List α} {Tg TJ : Nat → Prop} {J Jx : List α → (Nat → Prop) → World → Prop} {l Y : Nat}
    (hT : ∀ x, StcT P TY (us x).length) (hus : ∀ x, OneAll (us x)) (hz0 : (P.info? TY).map (fun i => (i.zero, i.size)) = some (some (.agg zs.toArray), n)) (hzl : ∀ x, zs.length = (us x).length)
    (h1 : o1.op = .alloc TY ∧ o1.dst = some z ∧ o1.guard = none) (h2 : o2.op = .store TY (.tmp z) (.tmp q) ∧ o2.dst = none ∧ o2.guard = none)
    (h3 : o3.op = .load tf (.tmp y) ∧ o3.dst = some t1 ∧ o3.guard = none) (h4 : o4.op = .load TY (.tmp z) ∧ o4.dst = some t2 ∧ o4.guard = none)
    (h5 : o5.op = .call c ∧ o5.dst = some t3 ∧ o5.guard = none) (hc : c.callee = .value (.tmp t1) ∧ c.args = #[.tmp t2]) (h6 : o6.op = .unOp .not tb (.tmp t3) ∧ o6.dst = some t4 ∧ o6.guard = none)
    (hb : [q, z, y, t1, t2, t3, t4].all (fun t => Nat.blt t N) = true) (hd : [q, z, y, t1, t2, t3, t4].Nodup)
    (hu : P.underlying tf = some d) (hpd : plainD d = true)
    (hv : ev (cutF N F) (.tmp gs) = v) (hs : Sqt P (fun x => .agg (us x).toArray) w Tg v xs) (hy : F y = .pointer (some ⟨Y, 0, none⟩)) (hcY : Cel w Y tf (.func (.yield l) #[] #[]))
    (hJ : Jth w TJ J o) (sX : StJ Jx) (apg : Apart TJ Tg) (apy : Apart TJ (onB Y)) (apyg : Apart (onB Y) Tg) (hall : (o ++ xs) <+: all)
    (hYd : ∀ (pre : List α) (x : α) (T : Nat → Prop) (W : World), J pre T W → (pre ++ [x]) <+: all → YieldAt Fence.wide 0 P l #[.agg (us x).toArray] W (Hands J Jx (pre ++ [x]) T W))
    (hdone : ∀ (D : Nat) (T' : Nat → Prop) (W : World), w.heap.size ≤ D → Kept TJ w W → Grew w TJ T' → Jth W T' J (o ++ xs) → Mrk W D → ¬ T' D → Q .normal (up F N (markV (D :: marksOf (F N)))) W)
    (hstop : ∀ (D : Nat) (T' : Nat → Prop) (pre : List α) (W : World), w.heap.size ≤ D → Kept TJ w W → Grew w TJ T' → Jth W T' Jx pre → Mrk W D → ¬ T' D → Q .ret (up F N (markV (D :: marksOf (F N)))) W) :
    wq none P N (.rangeFunc (.tmp gs) #[q] (.region ra #[o1, o2] false) (.block id (.seq (.region rb #[o3, o4, o5, o6] false) (.cond (.tmp t4) .ret .skip)))) Q F w := by
  obtain ⟨p1, d1, g1⟩ := h1
  obtain ⟨p2, d2, g2⟩ := h2
  obtain ⟨p3, d3, g3⟩ := h3
  obtain ⟨p4, d4, g4⟩ := h4
  obtain ⟨p5, d5, g5⟩ := h5
  obtain ⟨p6, d6, g6⟩ := h6
  simp only [List.all_cons, List.all_nil, Bool.and_eq_true, Bool.and_true] at hb
  obtain ⟨bq, bz, by_, b1, b2, b3, b4⟩ := hb
  simp only [List.nodup_cons, List.mem_cons, List.not_mem_nil, or_false, not_or, not_false_eq_true, and_true, List.nodup_nil] at hd
  obtain ⟨⟨nqz, nqy, nq1, nq2, nq3, nq4⟩, ⟨nzy, nz1, nz2, nz3, nz4⟩, ⟨ny1, ny2, ny3, ny4⟩, ⟨n12, n13, n14⟩, ⟨n23, n24⟩, n34⟩ := hd
  have hYJ : ¬ TJ Y := fun h => apy Y h rfl
  have hyN : y ≠ N := fun e => by rw [e] at by_; simp [Nat.blt_eq] at by_
  refine wq_rangeT hT hus hz0 hzl p1 d1 g1 p2 d2 g2 bq bz nqz hv hs (WithC Y tf (.func (.yield l) #[] #[]) o J) (WithC Y tf (.func (.yield l) #[] #[]) o Jx) (WithC.stj hJ.2) (WithC.stj sX) (T0 := fun i => TJ i ∨ i = Y) ⟨TJ, fun _ => Iff.rfl, hYJ, hcY, by rw [List.append_nil]; exact hJ.1⟩ (fun i hi => hi.elim (apg i) (fun e => apyg i e)) ?_ ?_ ?_
  · rintro lr pre x T zp F1 W ⟨Ti, hTi, hi0, hcW, hjW⟩ hpx hst hapz hz1 hoth hN
    have hpx2 : ((o ++ pre) ++ [x]) <+: all := by
      rw [List.append_assoc]
      exact ((List.prefix_append_right_inj o).2 hpx).trans hall
    refine wq_block (wq_seq (wq_region (os := [o3, o4, o5, o6]) (wl_v (.func (.yield l) #[] #[]) g3 (by rw [d3]; exact b1) (y_load_cel p3 (cut_at by_ ((hoth y (Ne.symm nzy) (Ne.symm nqy) hyN).trans hy)) hu hcW hpd rr) (wl_v (.agg (us x).toArray) g4 (by rw [d4]; exact b2) (y_load_stc (hT x) p4 (cut_at bz ((put_other d3 nz1).trans hz1)) hst rr) ?_))))
    refine wl_yieldS (l := l) (cx := .tmp t1) (xs := [.tmp t2]) (vs := [.agg (us x).toArray]) g5 (by rw [d5]; exact b3) p5 hc.1 (cut_at b1 ((put_other d4 n12).trans (put_same d3))) hc.2 (by simp only [List.map_cons, List.map_nil]; rw [cut_at b2 (put_same d4)]) (hYd (o ++ pre) x Ti W hjW hpx2) ?_
    rintro _ W3 ⟨T3, k3, gr3, (⟨rfl, hj3⟩ | ⟨rfl, hj3⟩)⟩
    · refine ⟨_, rfl, wl_v (.bool false) g6 (by rw [d6]; exact b4) (y_not p6 (cut_at b3 (put_same d5)) rfl rr) (wl_nil fun F5 hF5 => ?_)⟩
      refine then_normal (wq_cond (t := false) (cut_at b4 ((hF5 t4).trans (put_same d6))) (fun e => by cases e) (fun _ => wq_skip (in_normal ?_)))
      refine ⟨fun i => T3 i ∨ i = Y, k3.mono (fun i _ h => .inl ((hTi i).2 (.inl h))), fun i hi => ?_, T3, fun _ => Iff.rfl, fun h => (gr3 Y h).elim hi0 (fun e => by have := hcW.lt; omega), hcW.all k3 hi0, by rw [← List.append_assoc]; exact hj3⟩
      rcases hi with h | h
      · exact (gr3 i h).imp (fun h => (hTi i).2 (.inl h)) (fun h => h)
      · exact .inl ((hTi i).2 (.inr h))
    · refine ⟨_, rfl, wl_v (.bool true) g6 (by rw [d6]; exact b4) (y_not p6 (cut_at b3 (put_same d5)) rfl rr) (wl_nil fun F5 hF5 => ?_)⟩
      refine then_normal (wq_cond (t := true) (cut_at b4 ((hF5 t4).trans (put_same d6))) (fun _ => wq_ret (in_ret ?_)) (fun e => by cases e))
      refine ⟨fun i => T3 i ∨ i = Y, k3.mono (fun i _ h => .inl ((hTi i).2 (.inl h))), fun i hi => ?_, T3, fun _ => Iff.rfl, fun h => (gr3 Y h).elim hi0 (fun e => by have := hcW.lt; omega), hcW.all k3 hi0, by rw [← List.append_assoc]; exact hj3⟩
      rcases hi with h | h
      · exact (gr3 i h).imp (fun h => (hTi i).2 (.inl h)) (fun h => h)
      · exact .inl ((hTi i).2 (.inr h))
  · rintro D T' W hD k g ⟨Ti, hTi, hi0, hcW, hj⟩ hm hn
    refine hdone D Ti W hD (kept_but k hcY hcW) (fun i hi => ?_) ⟨hj, hJ.2⟩ hm (fun h => hn ((hTi D).2 (.inl h)))
    rcases g i ((hTi i).2 (.inl hi)) with h | h
    · exact h.elim .inl (fun e => absurd (e ▸ hi) hi0)
    · exact .inr h
  · rintro D T' pre W hD k g ⟨Ti, hTi, hi0, hcW, hj⟩ hm hn
    refine hstop D Ti _ W hD (kept_but k hcY hcW) (fun i hi => ?_) ⟨hj, sX⟩ hm (fun h => hn ((hTi D).2 (.inl h)))
    rcases g i ((hTi i).2 (.inl hi)) with h | h
    · exact h.elim .inl (fun e => absurd (e ▸ hi) hi0)
    · exact .inr h
def ColI {α : Type} (r : RowT α) (Y : Nat) (o xs : List α) (pre : List α) (T : Nat → Prop) (W : World) : Prop := ∃ (v : Value) (Tb : Nat → Prop), (∀ i, T i ↔ (onB Y i ∨ Tb i)) ∧ Apart (onB Y) Tb ∧ Cel W Y r.t v ∧ RoO r W Tb v (o ++ pre) ∧ pre <+: xs
theorem ColI.stj {α : Type} {r : RowT α} {Y : Nat} {o xs : List α} : StJ (ColI r Y o xs) := by
  refine ⟨?_, ?_⟩
  · rintro pre T S w w' ⟨v, Tb, hT, hap, hc, hr, hp⟩ k ha
    exact ⟨v, Tb, hT, hap, hc.all k (ha Y ((hT Y).2 (.inl rfl))), hr.all k (fun i hi => ha i ((hT i).2 (.inr hi))), hp⟩
  · rintro pre T w ⟨v, Tb, hT, _, hc, hr, _⟩ i hi
    exact ((hT i).1 hi).elim (fun e => by cases e; exact hc.lt) (fun e => hr.live i e)
theorem noJ {α : Type} : StJ (fun (_ : List α) (_ : Nat → Prop) (_ : World) => False) := ⟨fun _ _ _ _ _ h _ _ => h, fun _ _ _ h => h.elim⟩
theorem wq_coll {α : Type} {r : RowT α} [hk : r.Ok] {N : Nat} {Q : Exit → (Nat → Value) → World → Prop} {F : Nat → Value} {w : World} {gs q z y t1 t2 t3 t4 : Tmp} {ra rb id n : Nat} {o1 o2 o3 o4 o5 o6 o7 : Oper} {zs : List Value} {v v0 : Value} {xs o : List α} {Tg Tb : Nat → Prop} {Y : Nat}
    (hT : ∀ x, StcT Try.prog r.e (r.enc x).length) (hus : ∀ x, OneAll (r.enc x)) (hz0 : (Try.prog.info? r.e).map (fun i => (i.zero, i.size)) = some (some (.agg zs.toArray), n)) (hzl : ∀ x, zs.length = (r.enc x).length)
    (h1 : o1.op = .alloc r.e ∧ o1.dst = some z ∧ o1.guard = none) (h2 : o2.op = .store r.e (.tmp z) (.tmp q) ∧ o2.dst = none ∧ o2.guard = none)
    (h3 : o3.op = .load r.t (.tmp y) ∧ o3.dst = some t1 ∧ o3.guard = none) (h4 : o4.op = .load r.e (.tmp z) ∧ o4.dst = some t2 ∧ o4.guard = none)
    (h5 : o5.op = .buildSlice r.t 1 #[(0, .tmp t2)] ∧ o5.dst = some t3 ∧ o5.guard = none) (h6 : o6.op = .call { callee := .builtin .append, args := #[.tmp t1, .tmp t3], argTypes := #[r.t, r.t] } ∧ o6.dst = some t4 ∧ o6.guard = none)
    (h7 : o7.op = .store r.t (.tmp y) (.tmp t4) ∧ o7.dst = none ∧ o7.guard = none) (hsz : (Try.prog.info? r.t).map (·.size) = some 1) (hsm : r.k ≤ 64)
    (hb : [q, z, y, t1, t2, t3, t4].all (fun t => Nat.blt t N) = true) (hd : [q, z, y, t1, t2, t3, t4].Nodup)
    (hv : ev (cutF N F) (.tmp gs) = v) (hs : Sqt Try.prog (fun x => .agg (r.enc x).toArray) w Tg v xs) (hy : F y = .pointer (some ⟨Y, 0, none⟩)) (hcY : Cel w Y r.t v0) (hr : RoO r w Tb v0 o)
    (apY : Apart (onB Y) Tb) (apg : Apart Tb Tg) (apyg : Apart (onB Y) Tg) (hlen : o.length + xs.length < 1000)
    (hdone : ∀ (D : Nat) (v' : Value) (T' : Nat → Prop) (W : World), w.heap.size ≤ D → Kept (fun i => (onB Y) i ∨ (Tb i)) w W → Grew w Tb T' → Cel W Y r.t v' → RoO r W T' v' (o ++ xs) → Apart (onB Y) T' → Mrk W D → ¬ T' D → Q .normal (up F N (markV (D :: marksOf (F N)))) W) :
    wq none Try.prog N (.rangeFunc (.tmp gs) #[q] (.region ra #[o1, o2] false) (.block id (.region rb #[o3, o4, o5, o6, o7] false))) Q F w := by
  obtain ⟨p1, d1, g1⟩ := h1
  obtain ⟨p2, d2, g2⟩ := h2
  obtain ⟨p3, d3, g3⟩ := h3
  obtain ⟨p4, d4, g4⟩ := h4
  obtain ⟨p5, d5, g5⟩ := h5
  obtain ⟨p6, d6, g6⟩ := h6
  obtain ⟨p7, d7, g7⟩ := h7
  simp only [List.all_cons, List.all_nil, Bool.and_eq_true, Bool.and_true] at hb
  obtain ⟨bq, bz, by_, b1, b2, b3, b4⟩ := hb
  simp only [List.nodup_cons, List.mem_cons, List.not_mem_nil, or_false, not_or, not_false_eq_true, and_true, List.nodup_nil] at hd
  obtain ⟨⟨nqz, nqy, nq1, nq2, nq3, nq4⟩, ⟨nzy, nz1, nz2, nz3, nz4⟩, ⟨ny1, ny2, ny3, ny4⟩, ⟨n12, n13, n14⟩, ⟨n23, n24⟩, n34⟩ := hd
  have hyN : y ≠ N := fun e => by rw [e] at by_; simp [Nat.blt_eq] at by_
  have hk0 := hk
  refine wq_rangeT hT hus hz0 hzl p1 d1 g1 p2 d2 g2 bq bz nqz hv hs (ColI r Y o xs) (fun _ _ _ => False) ColI.stj noJ (T0 := fun i => (onB Y) i ∨ (Tb i)) ⟨v0, Tb, fun _ => Iff.rfl, apY, hcY, by rw [List.append_nil]; exact hr, List.nil_prefix⟩ (fun i hi => hi.elim (apyg i) (apg i)) ?_ ?_ ?_
  · rintro lr pre x T zp F1 W ⟨v1, T1, hT1, hap1, hc1, hr1, hp1⟩ hpx hst hapz hz1 hoth hN
    have hFy : F1 y = .pointer (some ⟨Y, 0, none⟩) := (hoth y (Ne.symm nzy) (Ne.symm nqy) hyN).trans hy
    have hpl := hpx.length_le
    rw [List.length_append, List.length_singleton] at hpl
    refine wq_block (wq_region (os := [o3, o4, o5, o6, o7]) (wl_v v1 g3 (by rw [d3]; exact b1) (y_load_cel p3 (cut_at by_ hFy) hk.slice hc1 rfl rr) (wl_v (.agg (r.enc x).toArray) g4 (by rw [d4]; exact b2) (y_load_stc (hT x) p4 (cut_at bz ((put_other d3 nz1).trans hz1)) hst rr) ?_)))
    refine wl_builtRo (r := r) (xs := [.tmp t2]) (vs := [.agg (r.enc x).toArray]) (l := [x]) g5 (by rw [d5]; exact b3) p5 rfl rfl (by simp only [List.map_cons, List.map_nil]; rw [cut_at b2 (put_same d4)]) (by simp [Value.cells]) (Nat.le_of_ble_eq_true rfl) (by simp; omega) fun u3 W3 T3 hB3 hg3 k3 => ?_
    have hc3 := hc1.all k3 (fun h => h)
    have hr3 := hr1.all k3 Apart.none
    refine wl_appendRo (r := r) g6 (by rw [d6]; exact b4) p6 rfl (cut_at b1 ((put_other d5 n13).trans ((put_other d4 n12).trans (put_same d3)))) (cut_at b3 (put_same d5)) hr3 hB3.roa (by rw [List.length_append]; simp; omega) fun u4 W4 T4 hB4 hg4 k4 => ?_
    have hc4 := hc3.all k4 (hap1 Y rfl)
    have hFy4 : putF (putF (putF (putF F1 o3.dst v1) o4.dst (.agg (r.enc x).toArray)) o5.dst u3) o6.dst u4 y = .pointer (some ⟨Y, 0, none⟩) := (put_other d6 ny4).trans ((put_other d5 ny3).trans ((put_other d4 ny2).trans ((put_other d3 ny1).trans hFy)))
    refine wl_store_cel g7 d7 p7 (cut_at by_ hFy4) (cut_at b4 (put_same d6)) hc4 hB4.oneC hsz fun W5 hc5 k5 => ?_
    have hap4 : Apart (onB Y) T4 := (Apart.grew hap1.symm hg4 (onB_live hc3.lt)).symm
    have hB5 := hB4.all k5 hap4.symm
    refine wl_nil fun F5 hF5 => in_normal ⟨fun i => (onB Y) i ∨ T4 i, ?_, fun i hi => ?_, u4, T4, fun _ => Iff.rfl, hap4, hc5, by rw [← List.append_assoc]; exact hB5, hpx⟩
    · have ka : Kept (fun i => T i ∨ i = zp) W W3 := k3.mono (fun _ _ h => h.elim)
      have kb := ka.trans k4 (fun i _ h => .inl ((hT1 i).2 (.inr h)))
      exact kb.trans k5 (fun i _ h => .inl ((hT1 i).2 (.inl h)))
    · rcases hi with h | h
      · exact .inl ((hT1 i).2 (.inl h))
      · rcases hg4 i h with h | h
        · exact .inl ((hT1 i).2 (.inr h))
        · exact .inr (Nat.le_trans k3.size h)
  · rintro D T' W hD k g ⟨v', T2, hT2, hap2, hc2, hr2, _⟩ hm hn
    refine hdone D v' T2 W hD k (fun i hi => ?_) hc2 hr2 hap2 hm (fun h => hn ((hT2 D).2 (.inr h)))
    rcases g i ((hT2 i).2 (.inr hi)) with h | h
    · exact h.elim (fun e => absurd hi (hap2 i e)) .inl
    · exact .inr h
  · rintro D T' pre W hD k g h
    exact h.elim
end Go.Proofs.Ythoafgfcoclkbaa
set_option maxRecDepth 100000
namespace Go.Proofs.Ythoafgfcoclkbaa
open Go.RowKit
def slV (x : Sl) : List Value := [.int .i64 x.d, .int .i64 x.k, .int .i64 x.p, .int .i64 x.n]
theorem slV_one (x : Sl) : OneAll (slV x) := oneI rfl (oneI rfl (oneI rfl (oneI rfl oneN)))
def SqS (w : World) (T : Nat → Prop) (v : Value) (xs : List Sl) : Prop := Sqt Try.prog (fun x : Sl => .agg (slV x).toArray) w T v xs
theorem SqS.live {w : World} {T : Nat → Prop} {v : Value} {xs : List Sl} (h : SqS w T v xs) : Live w T := Sqt.live h
theorem SqS.all {S : Nat → Prop} {w w' : World} {T : Nat → Prop} {v : Value} {xs : List Sl} (h : SqS w T v xs) (k : Kept S w w') (ha : Apart T S) : SqS w' T v xs := Sqt.all h k ha
def stL (a x : Nat) : List Sl := [⟨(x : Int), 1, (a : Int), -1⟩] ++ bsTo a x (x - (a + 1))
theorem bsTo_pre (a x : Nat) {i : Nat} : ∀ n, bsTo a x i <+: bsTo a x (i + n)
  | 0 => List.prefix_refl _
  | n + 1 => (bsTo_pre a x n).trans (List.prefix_append _ _)
theorem stL_pre {a x i : Nat} (h : i < x - (a + 1)) : ([(⟨(x : Int), 1, (a : Int), -1⟩ : Sl)] ++ bsTo a x i) ++ [⟨((a + 1 + i : Nat) : Int), 2, (a : Int), (x : Int)⟩] <+: stL a x := by
  unfold stL
  rw [List.append_assoc]
  refine (List.prefix_append_right_inj _).2 ?_
  have h1 := bsTo_pre a x (i := i + 1) (x - (a + 1) - (i + 1))
  rw [show i + 1 + (x - (a + 1) - (i + 1)) = x - (a + 1) by omega] at h1
  exact h1
theorem st_go (a x : Nat) (qx qa : Nat) (w0 : World) (hax : a < x) (hx : x ≤ 300) (h_qx : Cel w0 qx 3 (.int .i64 (((x : Nat) : Int)))) (h_qa : Cel w0 qa 3 (.int .i64 (((a : Nat) : Int)))) : SeqT Try.prog 29 #[.pointer (some ⟨qx, 0, none⟩), .pointer (some ⟨qa, 0, none⟩)] (fun x : Sl => .agg (slV x).toArray) (stL a x) w0 (fun i => (onB qx) i ∨ ((onB qa) i)) := by
 intro l J Jx T_j sJ sX h0 hap hY
 have h_j : Jth w0 T_j J [] := ⟨h0, sJ⟩
 have ap_qx : Apart T_j (onB qx) := fun i h e => hap i h (Or.inl e)
 have ap_qa : Apart T_j (onB qa) := fun i h e => hap i h (Or.inr e)
 refine calls_wq (args := [.func (.yield l) #[] #[], pt qx 0, pt qa 0]) 25 Try.func29 rfl rfl (Nat.le_of_ble_eq_true rfl) ?_
 have K0 := Kept.refl T_j w0
 refine wq_seq (wq_seq (wq_region_y (wl_v (.func (.yield l) #[] #[]) rfl rfl (y_mov rfl rfl rr) (wl_v (iv ((x : Nat) : Int)) rfl rfl (y_load_cel rfl rfl Try.underlying3 h_qx rfl rr) (wl_v (iv ((a : Nat) : Int)) rfl rfl (y_load_cel rfl rfl Try.underlying3 h_qa rfl rr) (wl_v (.agg #[iv ((x : Nat) : Int), iv 1, iv ((a : Nat) : Int), iv (-1)]) rfl rfl (y_buildL (l' := [(0, iv ((x : Nat) : Int)), (1, iv 1), (2, iv ((a : Nat) : Int)), (3, iv (-1))]) (cells := #[iv ((x : Nat) : Int), iv 1, iv ((a : Nat) : Int), iv (-1)]) rfl (bpC rfl (bpC rfl (bpC rfl (bpC rfl bpN)))) (by kernel_rfl) rfl rr) (wl_yieldS rfl rfl rfl rfl rfl rfl (vsC rfl vsN) (hY ([]) (⟨(x : Int), 1, (a : Int), -1⟩) _ _ h_j.1 (⟨bsTo a x (x - (a + 1)), rfl⟩)) ?_)))))))
 rintro _ w1 ⟨T2, k3, g4, (⟨rfl, j5⟩ | ⟨rfl, j5⟩)⟩
 ·refine ⟨_, rfl, ?_⟩
  have B6 : Jth w1 T2 J (([]) ++ [⟨(x : Int), 1, (a : Int), -1⟩]) := ⟨j5, sJ⟩
  have ap7 : Apart T2 (onB qx) := ap_qx.grew g4 (onB_live h_qx.lt)
  have ap8 : Apart T2 (onB qa) := ap_qa.grew g4 (onB_live h_qa.lt)
  have B9 := h_qx.all k3 (ap_qx.symm qx rfl)
  have B10 := h_qa.all k3 (ap_qa.symm qa rfl)
  have K11 := K0.trans k3 (Grew.ok (S := T_j) (Grew.refl w0 T_j) (fun _ x => x))
  have gr12 := Grew.trans (Grew.refl w0 T_j) K0 g4
  refine wl_v (.bool false) rfl rfl (y_not rfl rfl rfl rr) (wl_nil fun F13 hF14 => ?_)
  have s15 : F13 0 = .func (.yield l) #[] #[] := (hF14 0).trans rfl
  have s16 : F13 1 = pt qx 0 := (hF14 1).trans rfl
  have s17 : F13 2 = pt qa 0 := (hF14 2).trans rfl
  have s18 : F13 25 = undef := (hF14 25).trans rfl
  have s19 : F13 10 = .bool false := (hF14 10).trans rfl
  clear hF14
  refine then_normal ?_
  refine wq_cond (t := false) s19 (fun e => by cases e) (fun _ => ?_)
  refine wq_skip (then_normal (wq_seq (wq_region (wl_v (iv ((a : Nat) : Int)) rfl rfl (y_load_cel rfl s17 Try.underlying3 B10 rfl rr) (wl_v (iv ((a + 1 : Nat) : Int)) rfl rfl (y_add rfl rfl rfl (i64_n (by omega) (by omega)) rr) (wl_v (iv ((a + 1 : Nat) : Int)) rfl rfl (y_asg rfl rfl rr) (wl_nil fun F20 hF21 => ?_)))))))
  obtain ⟨s22, s23, s24, s25⟩ := t4 hF21 0 s15 1 s16 2 s17 25 s18
  have s26 : F20 4 = iv ((a + 1 : Nat) : Int) := (hF21 4).trans rfl
  clear hF21
  refine then_normal (wq_block (wq_loop (fun nn FF ww => ∃ (i : Nat), ∃ (T27 : Nat → Prop), (i ≤ x - (a + 1)) ∧ nn = x - (a + 1) - i ∧ FF 0 = .func (.yield l) #[] #[] ∧ FF 1 = pt qx 0 ∧ FF 2 = pt qa 0 ∧ FF 25 = undef ∧ FF 4 = iv ((a + 1 + i : Nat) : Int) ∧ Kept T_j w0 ww ∧ Jth ww T27 J ([⟨(x : Int), 1, (a : Int), -1⟩] ++ bsTo a x i) ∧ Cel ww qx 3 (iv ((x : Nat) : Int)) ∧ Cel ww qa 3 (iv ((a : Nat) : Int)) ∧ Grew w0 T_j T27 ∧ Apart T27 (onB qx) ∧ Apart T27 (onB qa)) (x - (a + 1) - 0) ⟨0, T2, by omega, rfl, s22, s23, s24, s25, s26, K11, B6, B9, B10, gr12, ap7, ap8⟩ ?_))
  rintro n31 F28 w29 ⟨i, T27, i32, hn31, s33, s34, s35, s36, s37, K30, B38, B39, B40, gr41, ap42, ap43⟩
  refine wq_seq (wq_seq (wq_region (wl_mv rfl rfl rfl s37 (wl_v (iv ((x : Nat) : Int)) rfl rfl (y_load_cel rfl s34 Try.underlying3 B39 rfl rr) (wl_v (.bool (decide (((a + 1 + i : Nat) : Int) < ((x : Nat) : Int)))) rfl rfl (y_lss rfl rfl rfl rfl rr) (wl_nil fun F44 hF45 => ?_))))))
  obtain ⟨s46, s47, s48, s49, s50⟩ := t5 hF45 0 s33 1 s34 2 s35 25 s36 4 s37
  have s51 : F44 15 = .bool (decide (((a + 1 + i : Nat) : Int) < ((x : Nat) : Int))) := (hF45 15).trans rfl
  clear hF45
  refine then_normal ?_
  refine wq_cond s51 (fun c52 => ?_) (fun c52 => ?_)
  ·replace c52 := of_decide_eq_true c52
   refine wq_skip (then_normal (wq_seq (wq_block (wq_seq (wq_region_y (wl_mv rfl rfl rfl s46 (wl_mv rfl rfl rfl s50 (wl_v (iv ((a : Nat) : Int)) rfl rfl (y_load_cel rfl s48 Try.underlying3 B40 rfl rr) (wl_v (iv ((x : Nat) : Int)) rfl rfl (y_load_cel rfl s47 Try.underlying3 B39 rfl rr) (wl_v (.agg #[iv ((a + 1 + i : Nat) : Int), iv 2, iv ((a : Nat) : Int), iv ((x : Nat) : Int)]) rfl rfl (y_buildL (l' := [(0, iv ((a + 1 + i : Nat) : Int)), (1, iv 2), (2, iv ((a : Nat) : Int)), (3, iv ((x : Nat) : Int))]) (cells := #[iv ((a + 1 + i : Nat) : Int), iv 2, iv ((a : Nat) : Int), iv ((x : Nat) : Int)]) rfl (bpC rfl (bpC rfl (bpC rfl (bpC rfl bpN)))) (by kernel_rfl) rfl rr) (wl_yieldS rfl rfl rfl rfl rfl rfl (vsC rfl vsN) (hY ([⟨(x : Int), 1, (a : Int), -1⟩] ++ bsTo a x i) (⟨((a + 1 + i : Nat) : Int), 2, (a : Int), (x : Int)⟩) _ _ B38.1 (stL_pre (by omega))) ?_)))))))))))
   rintro _ w53 ⟨T54, k55, g56, (⟨rfl, j57⟩ | ⟨rfl, j57⟩)⟩
   ·refine ⟨_, rfl, ?_⟩
    have B58 : Jth w53 T54 J (([⟨(x : Int), 1, (a : Int), -1⟩] ++ bsTo a x i) ++ [⟨((a + 1 + i : Nat) : Int), 2, (a : Int), (x : Int)⟩]) := ⟨j57, sJ⟩
    have ap59 : Apart T54 (onB qx) := ap42.grew g56 (onB_live B39.lt)
    have ap60 : Apart T54 (onB qa) := ap43.grew g56 (onB_live B40.lt)
    have B61 := B39.all k55 (ap42.symm qx rfl)
    have B62 := B40.all k55 (ap43.symm qa rfl)
    have K63 := K30.trans k55 (Grew.ok (S := T_j) gr41 (fun _ x => x))
    have gr64 := Grew.trans gr41 K30 g56
    refine wl_v (.bool false) rfl rfl (y_not rfl rfl rfl rr) (wl_nil fun F65 hF66 => ?_)
    obtain ⟨s67, s68, s69, s70, s71⟩ := t5 hF66 0 s46 1 s47 2 s48 25 s49 4 s50
    have s72 : F65 24 = .bool false := (hF66 24).trans rfl
    clear hF66
    refine then_normal ?_
    refine wq_cond (t := false) s72 (fun e => by cases e) (fun _ => ?_)
    refine wq_skip (in_normal (then_normal (wq_region (wl_mv rfl rfl rfl s71 (wl_v (iv (((a + 1 + i) + 1 : Nat) : Int)) rfl rfl (y_add rfl rfl rfl (i64_n (by omega) (by omega)) rr) (wl_v (iv (((a + 1 + i) + 1 : Nat) : Int)) rfl rfl (y_asg rfl rfl rr) (wl_nil fun F73 hF74 => ?_)))))))
    obtain ⟨s75, s76, s77, s78⟩ := t4 hF74 0 s67 1 s68 2 s69 25 s70
    have s79 : F73 4 = iv (((a + 1 + i) + 1 : Nat) : Int) := (hF74 4).trans rfl
    clear hF74
    exact then_normal ⟨(x - (a + 1) - (i + 1)), by omega, i + 1, T54, by omega, rfl, s75, s76, s77, s78, s79, K63, (by rw [List.append_assoc] at B58; exact B58), B61, B62, gr64, ap59, ap60⟩
   ·refine ⟨_, rfl, ?_⟩
    have B80 : Jth w53 T54 Jx (([⟨(x : Int), 1, (a : Int), -1⟩] ++ bsTo a x i) ++ [⟨((a + 1 + i : Nat) : Int), 2, (a : Int), (x : Int)⟩]) := ⟨j57, sX⟩
    have K85 := K30.trans k55 (Grew.ok (S := T_j) gr41 (fun _ x => x))
    have gr86 := Grew.trans gr41 K30 g56
    refine wl_v (.bool true) rfl rfl (y_not rfl rfl rfl rr) (wl_nil fun F87 hF88 => ?_)
    have s92 := (hF88 25).trans s49
    have s94 : F87 24 = .bool true := (hF88 24).trans rfl
    clear hF88
    refine then_normal ?_
    refine wq_cond (t := true) s94 (fun _ => ?_) (fun e => by cases e)
    refine wq_ret (in_ret (then_ret (then_ret (in_ret ?_))))
    exact end_none_ret s92 rfl ⟨⟨_, rfl⟩, T54, K85, gr86, Or.inr ⟨_, B80.1⟩⟩
  ·replace c52 := of_decide_eq_false c52
   refine wq_exit (then_exit (then_exit (in_here ?_)))
   exact end_none s49 rfl ⟨⟨_, rfl⟩, T27, K30, gr41, Or.inl (by rw [show stL a x = [⟨(x : Int), 1, (a : Int), -1⟩] ++ bsTo a x i by unfold stL; rw [show x - (a + 1) = i by omega]]; exact B38.1)⟩
 ·refine ⟨_, rfl, ?_⟩
  have B95 : Jth w1 T2 Jx (([]) ++ [⟨(x : Int), 1, (a : Int), -1⟩]) := ⟨j5, sX⟩
  have K100 := K0.trans k3 (Grew.ok (S := T_j) (Grew.refl w0 T_j) (fun _ x => x))
  have gr101 := Grew.trans (Grew.refl w0 T_j) K0 g4
  refine wl_v (.bool true) rfl rfl (y_not rfl rfl rfl rr) (wl_nil fun F102 hF103 => ?_)
  have s107 : F102 25 = undef := (hF103 25).trans rfl
  have s108 : F102 10 = .bool true := (hF103 10).trans rfl
  clear hF103
  refine then_normal ?_
  refine wq_cond (t := true) s108 (fun _ => ?_) (fun e => by cases e)
  refine wq_ret (then_ret ?_)
  exact end_none_ret s107 rfl ⟨⟨_, rfl⟩, T2, K100, gr101, Or.inr ⟨_, B95.1⟩⟩
theorem sqt_step {w : World} {a x qx qa : Nat} (hax : a < x) (hx : x ≤ 300) (h1 : Cel w qx 3 (.int .i64 (x : Int))) (h2 : Cel w qa 3 (.int .i64 (a : Int))) : SqS w (fun i => (onB qx) i ∨ (onB qa) i) (.func (.func 29) #[] #[.pointer (some ⟨qx, 0, none⟩), .pointer (some ⟨qa, 0, none⟩)]) (stL a x) :=
  ⟨_, _, rfl, fun _ _ => by kernel_rfl, fun i hi => hi.elim (onB_live h1.lt i) (onB_live h2.lt i), fun S W k ha => st_go a x qx qa W hax hx (h1.all k (ha qx (.inl rfl))) (h2.all k (ha qa (.inr rfl)))⟩
theorem od_step (a x : Nat) (w0 : World) (hax : a < x) (hx : x ≤ 300) :
  Calls Try.prog 28 #[.int .i64 (((a : Nat) : Int)), .int .i64 (((x : Nat) : Int))] w0 fun e w' => ∃ (v1 : Value) (T1 : Nat → Prop), e = .returned (v1) ∧ Kept (fun _ => False) w0 w' ∧ (SqS w' T1 v1 ((stL a x)) ∧ Grew w0 noB T1) := by
 refine calls_wq (args := [iv ((a : Nat) : Int), iv ((x : Nat) : Int)]) 6 Try.func28 rfl rfl (Nat.le_of_ble_eq_true rfl) ?_
 have K0 := Kept.refl (fun _ => False) w0
 refine wq_seq (wq_region (wl_box_cel rfl rfl rfl rfl (by rfl) fun p1 w2 B5 g7 k3 => ?_))
 have gr8 : Grew w0 noB (onB p1) := Grew.new K0 g7
 have K9 := K0.tr k3
 refine wl_box_cel rfl rfl rfl rfl (by rfl) fun p10 w11 B14 g16 k12 => ?_
 have gr17 : Grew w0 noB (onB p10) := Grew.new K9 g16
 have B19 := B5.all k12 id
 have K20 := K9.tr k12
 refine wl_v (Value.nilFunc) rfl rfl (y_asg rfl rfl rr) (wl_nil fun F21 hF22 => ?_)
 have s23 : F21 6 = undef := (hF22 6).trans rfl
 have s24 : F21 2 = pt p1 0 := (hF22 2).trans rfl
 have s25 : F21 3 = pt p10 0 := (hF22 3).trans rfl
 clear hF22
 refine then_normal (wq_seq (wq_region (wl_v (.func (.func 29) #[] #[pt p10 0, pt p1 0]) rfl rfl (y_fnc rfl (vsC s25 (vsC s24 vsN)) rr) (wl_v (.func (.func 29) #[] #[pt p10 0, pt p1 0]) rfl rfl (y_asg rfl rfl rr) (wl_nil fun F26 hF27 => ?_)))))
 have s28 := (hF27 6).trans s23
 have s29 : F26 4 = .func (.func 29) #[] #[pt p10 0, pt p1 0] := (hF27 4).trans rfl
 clear hF27
 refine then_normal (wq_ret ?_)
 exact end_tmp (v := .func (.func 29) #[] #[pt p10 0, pt p1 0]) s28 rfl rfl s29 ⟨(.func (.func 29) #[] #[pt p10 0, pt p1 0]), (fun i => (onB p10) i ∨ ((onB p1) i)), rfl, K20, ⟨sqt_step hax hx B14 B19, fun i h => h.elim (fun y => gr17 i y) (fun y => gr8 i y)⟩⟩
end Go.Proofs.Ythoafgfcoclkbaa
set_option maxRecDepth 100000
namespace Go.Proofs.Ythoafgfcoclkbaa
open Go.RowKit
def grL (f last b : Nat) : List Sl := [⟨(f : Int), 0, -1, -1⟩] ++ midL b last f
theorem midL_st {b last a : Nat} (h : a < last) : midL b last a = stL a (nxt b last a) ++ midL b last (nxt b last a) := by
  rw [midL_yes h]; unfold stL; simp
theorem outL_gr {n g b f : Nat} (h : f < n) (hg : 0 < g) : outL n g b f = grL f (min (f + g) n - 1) b ++ outL n g b (f + g) := by
  rw [outL_yes h hg]; unfold grL; simp
theorem pre_mid {b last a f : Nat} {o : List Sl} (h : a < last) (hm : o ++ midL b last a = grL f last b) : o ++ stL a (nxt b last a) <+: grL f last b := ⟨midL b last (nxt b last a), by rw [List.append_assoc, ← midL_st h]; exact hm⟩
theorem nxt_mid {b last a f : Nat} {o : List Sl} (h : a < last) (hm : o ++ midL b last a = grL f last b) : (o ++ stL a (nxt b last a)) ++ midL b last (nxt b last a) = grL f last b := by rw [List.append_assoc, ← midL_st h]; exact hm
theorem pre_out {n g b f : Nat} {o : List Sl} (h : f < n) (hg : 0 < g) (ho : o ++ outL n g b f = outL n g b 0) : o ++ grL f (min (f + g) n - 1) b <+: outL n g b 0 := ⟨outL n g b (f + g), by rw [List.append_assoc, ← outL_gr h hg]; exact ho⟩
theorem nxt_out {n g b f : Nat} {o : List Sl} (h : f < n) (hg : 0 < g) (ho : o ++ outL n g b f = outL n g b 0) : (o ++ grL f (min (f + g) n - 1) b) ++ outL n g b (f + g) = outL n g b 0 := by rw [List.append_assoc, ← outL_gr h hg]; exact ho
theorem gr_go (f last b : Nat) (qf ql qb : Nat) (w0 : World) (hl : last ≤ 300) (hb : b ≤ 3) (hf : f ≤ 300) (h_qf : Cel w0 qf 3 (.int .i64 (((f : Nat) : Int)))) (h_ql : Cel w0 ql 3 (.int .i64 (((last : Nat) : Int)))) (h_qb : Cel w0 qb 3 (.int .i64 (((b : Nat) : Int)))) : SeqT Try.prog 27 #[.pointer (some ⟨qf, 0, none⟩), .pointer (some ⟨ql, 0, none⟩), .pointer (some ⟨qb, 0, none⟩)] (fun x : Sl => .agg (slV x).toArray) (grL f last b) w0 (fun i => (onB qf) i ∨ ((onB ql) i ∨ ((onB qb) i))) := by
 intro l J Jx T_j sJ sX h0 hap hY
 have h_j : Jth w0 T_j J [] := ⟨h0, sJ⟩
 have ap_qf : Apart T_j (onB qf) := fun i h e => hap i h (Or.inl e)
 have ap_ql : Apart T_j (onB ql) := fun i h e => hap i h (Or.inr (Or.inl e))
 have ap_qb : Apart T_j (onB qb) := fun i h e => hap i h (Or.inr (Or.inr e))
 refine calls_wm (args := [.func (.yield l) #[] #[], pt qf 0, pt ql 0, pt qb 0]) 32 Try.func27 rfl rfl (Nat.le_of_ble_eq_true rfl) ?_
 have K0 := Kept.refl T_j w0
 have h_ms := Mks.nil w0
 refine wq_seq (wq_region (wl_box_fn rfl rfl rfl rfl fun p1 w2 B5 g7 k3 => ?_))
 have ap9 : Apart (onB p1) T_j := Apart.new g7 h_j.live
 have ap13 : Apart (onB p1) noB := Apart.new g7 h_ms.live
 have B14 := h_j.all k3 Apart.none
 have B15 := h_qf.all k3 id
 have B16 := h_ql.all k3 id
 have B17 := h_qb.all k3 id
 have B18 := h_ms.all k3 Apart.none
 have K19 := K0.tr k3
 refine wl_nil fun F20 hF21 => ?_
 have s22 : F20 0 = .func (.yield l) #[] #[] := (hF21 0).trans rfl
 have s23 : F20 1 = pt qf 0 := (hF21 1).trans rfl
 have s24 : F20 2 = pt ql 0 := (hF21 2).trans rfl
 have s25 : F20 3 = pt qb 0 := (hF21 3).trans rfl
 have s26 : F20 32 = markV [] := (hF21 32).trans rfl
 have s27 : F20 4 = pt p1 0 := (hF21 4).trans rfl
 clear hF21
 refine then_normal (wq_seq (wq_seq (wq_region_y (wl_v (.func (.yield l) #[] #[]) rfl rfl (y_load_cel rfl s27 Try.underlying54 B5 rfl rr) (wl_v (iv ((f : Nat) : Int)) rfl rfl (y_load_cel rfl s23 Try.underlying3 B15 rfl rr) (wl_v (.agg #[iv ((f : Nat) : Int), iv 0, iv (-1), iv (-1)]) rfl rfl (y_buildL (l' := [(0, iv ((f : Nat) : Int)), (1, iv 0), (2, iv (-1)), (3, iv (-1))]) (cells := #[iv ((f : Nat) : Int), iv 0, iv (-1), iv (-1)]) rfl (bpC rfl (bpC rfl (bpC rfl (bpC rfl bpN)))) (by kernel_rfl) rfl rr) (wl_yieldS rfl rfl rfl rfl rfl rfl (vsC rfl vsN) (hY ([]) (⟨(f : Int), 0, -1, -1⟩) _ _ B14.1 (⟨midL b last f, rfl⟩)) ?_)))))))
 rintro _ w28 ⟨T29, k30, g31, (⟨rfl, j32⟩ | ⟨rfl, j32⟩)⟩
 ·refine ⟨_, rfl, ?_⟩
  have B33 : Jth w28 T29 J (([]) ++ [⟨(f : Int), 0, -1, -1⟩]) := ⟨j32, sJ⟩
  have ap34 : Apart T29 (onB qf) := ap_qf.grew g31 (onB_live B15.lt)
  have ap35 : Apart T29 (onB ql) := ap_ql.grew g31 (onB_live B16.lt)
  have ap36 : Apart T29 (onB qb) := ap_qb.grew g31 (onB_live B17.lt)
  have ap37 : Apart T29 noB := ((show Apart noB T_j from fun _ h _ => h.elim).symm).grew g31 B18.live
  have ap38 : Apart T29 (onB p1) := (ap9.symm).grew g31 (onB_live B5.lt)
  have B39 := B15.all k30 (ap_qf.symm qf rfl)
  have B40 := B16.all k30 (ap_ql.symm ql rfl)
  have B41 := B17.all k30 (ap_qb.symm qb rfl)
  have B42 := B18.all k30 (fun i h x => ((show Apart noB T_j from fun _ h _ => h.elim) i h x))
  have B43 := B5.all k30 (ap9 p1 rfl)
  have K44 := K19.trans k30 (Grew.ok (S := T_j) (Grew.refl w0 T_j) (fun _ x => x))
  have gr45 := Grew.trans (Grew.refl w0 T_j) K19 g31
  refine wl_v (.bool false) rfl rfl (y_not rfl rfl rfl rr) (wl_nil fun F46 hF47 => ?_)
  obtain ⟨s48, s49, s50, s51, s52, s53⟩ := t6 hF47 0 s22 1 s23 2 s24 3 s25 32 s26 4 s27
  have s54 : F46 12 = .bool false := (hF47 12).trans rfl
  clear hF47
  refine then_normal ?_
  refine wq_cond (t := false) s54 (fun e => by cases e) (fun _ => ?_)
  refine wq_skip (then_normal (wq_seq (wq_region (wl_v (iv ((f : Nat) : Int)) rfl rfl (y_load_cel rfl s49 Try.underlying3 B39 rfl rr) (wl_v (iv ((f : Nat) : Int)) rfl rfl (y_asg rfl rfl rr) (wl_nil fun F55 hF56 => ?_))))))
  obtain ⟨s57, s58, s59, s60, s61, s62, s63⟩ := t7 hF56 0 s48 1 s49 2 s50 3 s51 32 s52 4 s53 12 s54
  have s64 : F55 5 = iv ((f : Nat) : Int) := (hF56 5).trans rfl
  clear hF56
  refine then_normal (wq_block (wq_loop (fun nn FF ww => ∃ (a : Nat), ∃ (o : List Sl), ∃ (ms65 : List Nat), ∃ (T66 : Nat → Prop), ∃ (T67 : Nat → Prop), (o ++ midL b last a = grL f last b) ∧ (a ≤ 300) ∧ nn = last - a ∧ FF 0 = .func (.yield l) #[] #[] ∧ FF 1 = pt qf 0 ∧ FF 2 = pt ql 0 ∧ FF 3 = pt qb 0 ∧ FF 4 = pt p1 0 ∧ FF 12 = .bool false ∧ FF 32 = markV ms65 ∧ FF 5 = iv ((a : Nat) : Int) ∧ Kept T_j w0 ww ∧ Jth ww T66 J o ∧ Cel ww qf 3 (iv ((f : Nat) : Int)) ∧ Cel ww ql 3 (iv ((last : Nat) : Int)) ∧ Cel ww qb 3 (iv ((b : Nat) : Int)) ∧ Mks ww T67 ms65 ∧ Cel ww p1 54 (.func (.yield l) #[] #[]) ∧ Grew w0 T_j T66 ∧ Grew w0 noB T67 ∧ Apart T66 (onB qf) ∧ Apart T66 (onB ql) ∧ Apart T66 (onB qb) ∧ Apart T66 T67 ∧ Apart T66 (onB p1) ∧ Apart T67 (onB qf) ∧ Apart T67 (onB ql) ∧ Apart T67 (onB qb) ∧ Apart T67 (onB p1)) (last - f) ⟨f, [⟨(f : Int), 0, -1, -1⟩], [], T29, noB, rfl, by omega, rfl, s57, s58, s59, s60, s62, s63, s61, s64, K44, B33, B39, B40, B41, B42, B43, gr45, (Grew.refl w0 noB), ap34, ap35, ap36, ap37, ap38, (show Apart noB (onB qf) from fun _ h _ => h.elim), (show Apart noB (onB ql) from fun _ h _ => h.elim), (show Apart noB (onB qb) from fun _ h _ => h.elim), ap13.symm⟩ ?_))
  rintro n71 F68 w69 ⟨a, o, ms65, T66, T67, hm, i72, hn71, s73, s74, s75, s76, s77, s78, s79, s80, K70, B81, B82, B83, B84, B85, B86, gr87, gr88, ap89, ap90, ap91, ap92, ap93, ap94, ap95, ap96, ap97⟩
  refine wq_seq (wq_seq (wq_region (wl_mv rfl rfl rfl s80 (wl_v (iv ((last : Nat) : Int)) rfl rfl (y_load_cel rfl s75 Try.underlying3 B83 rfl rr) (wl_v (.bool (decide (((a : Nat) : Int) < ((last : Nat) : Int)))) rfl rfl (y_lss rfl rfl rfl rfl rr) (wl_nil fun F98 hF99 => ?_))))))
  obtain ⟨s100, s101, s102, s103, s104, s105, s106, s107⟩ := t8 hF99 0 s73 1 s74 2 s75 3 s76 4 s77 12 s78 32 s79 5 s80
  have s108 : F98 16 = .bool (decide (((a : Nat) : Int) < ((last : Nat) : Int))) := (hF99 16).trans rfl
  clear hF99
  refine then_normal ?_
  refine wq_cond s108 (fun c109 => ?_) (fun c109 => ?_)
  ·replace c109 := of_decide_eq_true c109
   refine wq_skip (then_normal (wq_block (wq_seq (wq_region (wl_mv rfl rfl rfl s107 (wl_v (iv ((b : Nat) : Int)) rfl rfl (y_load_cel rfl s103 Try.underlying3 B84 rfl rr) (wl_v (iv ((a + b : Nat) : Int)) rfl rfl (y_add rfl rfl rfl (i64_n (by omega) (by omega)) rr) (wl_v (iv (((a + b) + 1 : Nat) : Int)) rfl rfl (y_add rfl rfl rfl (i64_n (by omega) (by omega)) rr) (wl_v (iv ((last : Nat) : Int)) rfl rfl (y_load_cel rfl s102 Try.underlying3 B83 rfl rr) (wl_v (iv ((nxt b last a : Nat) : Int)) rfl rfl (y_minR rfl rfl rfl (by unfold nxt; omega) rr) (wl_v (iv ((nxt b last a : Nat) : Int)) rfl rfl (y_asg rfl rfl rr) ?_)))))))))))
   refine wl_nil fun F110 hF111 => ?_
   obtain ⟨s112, s113, s114, s115, s116, s117, s118, s119⟩ := t8 hF111 0 s100 1 s101 2 s102 3 s103 4 s104 12 s105 32 s106 5 s107
   have s121 : F110 6 = iv ((nxt b last a : Nat) : Int) := (hF111 6).trans rfl
   clear hF111
   refine then_normal (wq_seq (wq_seq ?_))
   have hnx := nxt_lt (b := b) (show a < last by omega)
   refine wq_region (wl_mv rfl rfl rfl s119 (wl_mv rfl rfl rfl s121 (wl_call (R := fun v_ w_ => ∃ (v122 : Value) (T125 : Nat → Prop), v122 = v_ ∧ Kept (fun _ => False) w69 w_ ∧ (SqS w_ T125 v122 (stL a (nxt b last a)) ∧ Grew w69 noB T125)) rfl rfl (y_cs rfl rfl rfl (fun _ _ => by kernel_rfl) (ev_func _) (vsC rfl (vsC rfl vsN)) (od_step a (nxt b last a)  _ (by omega) (by omega)  ) (fun e_ w_ h_ => by obtain ⟨v122_, T125_, he_, hr_⟩ := h_; exact ⟨_, he_, v122_, T125_, rfl, hr_⟩)) ?_)))
   rintro _ w123 ⟨v122, T125, rfl, k124, ⟨B126, g127⟩⟩
   have B128 := B81.all k124 Apart.none
   have B129 := B82.all k124 id
   have B130 := B83.all k124 id
   have B131 := B84.all k124 id
   have B132 := B85.all k124 Apart.none
   have B133 := B86.all k124 id
   have K134 := K70.tr k124
   have ap136 : Apart T125 T66 := Apart.new g127 B81.live
   have ap141 : Apart T125 (onB p1) := Apart.new g127 (onB_live B86.lt)
   refine wl_nil fun F142 hF143 => ?_
   obtain ⟨s144, s145, s146, s147, s148, s149, s150, s153⟩ := t8 hF143 0 s112 1 s113 2 s114 3 s115 4 s116 12 s117 32 s118 6 s121
   have s154 : F142 25 = v122 := (hF143 25).trans rfl
   clear hF143
   refine then_normal (wq_block ?_)
   refine wq_fwd (us := slV) (zs := [iv 0, iv 0, iv 0, iv 0]) (n := 4) (o := o) (xs := stL a (nxt b last a)) (all := grL f last b) (J := J) (Jx := Jx) (fun _ => stcT_slot) slV_one (by kernel_rfl) (fun _ => rfl) ⟨rfl, rfl, rfl⟩ ⟨rfl, rfl, rfl⟩ ⟨rfl, rfl, rfl⟩ ⟨rfl, rfl, rfl⟩ ⟨rfl, rfl, rfl⟩ ⟨rfl, rfl⟩ ⟨rfl, rfl, rfl⟩ (by decide) (by decide) Try.underlying54 rfl s154 B126 s148 B133 B128 sX ap136.symm ap93 ap141.symm (pre_mid (by omega) hm) hY ?_ ?_
   ·intro D155 T156 w157 d158 k159 g160 B161 m162 n163
    have ap165 : Apart T156 (onB qf) := ap89.grew g160 (onB_live B129.lt)
    have ap166 : Apart T156 (onB ql) := ap90.grew g160 (onB_live B130.lt)
    have ap167 : Apart T156 (onB qb) := ap91.grew g160 (onB_live B131.lt)
    have ap168 : Apart T156 T67 := ap92.grew g160 B132.live
    have ap169 : Apart T156 (onB p1) := ap93.grew g160 (onB_live B133.lt)
    have B171 := B129.all k159 (ap89.symm qf rfl)
    have B172 := B130.all k159 (ap90.symm ql rfl)
    have B173 := B131.all k159 (ap91.symm qb rfl)
    have B175 := B133.all k159 (ap93.symm p1 rfl)
    have K177 := K134.trans k159 (Grew.ok (S := T_j) gr87 (fun _ x => x))
    have gr178 := Grew.trans gr87 K134 g160
    have B179 : Mks w157 (fun i => i = D155 ∨ T67 i) (D155 :: ms65) := B132.more k159 (ap92.symm) d158 m162
    have gr180 : Grew w0 noB (fun i => i = D155 ∨ T67 i) := fun i h => h.elim (fun e => .inr (by rw [e]; exact Nat.le_trans K134.size d158)) (fun h => gr88 i h)
    have ap181 : Apart (fun i => i = D155 ∨ T67 i) T156 := fun i h hq => h.elim (fun e => n163 (e ▸ hq)) (fun h => (ap168.symm) i h hq)
    have ap182 : Apart (fun i => i = D155 ∨ T67 i) (onB qf) := fun i h hq => h.elim (fun e => absurd ((onB_live B129.lt) i hq) (by rw [e]; exact Nat.not_lt.2 d158)) (fun h => ap94 i h hq)
    have ap183 : Apart (fun i => i = D155 ∨ T67 i) (onB ql) := fun i h hq => h.elim (fun e => absurd ((onB_live B130.lt) i hq) (by rw [e]; exact Nat.not_lt.2 d158)) (fun h => ap95 i h hq)
    have ap184 : Apart (fun i => i = D155 ∨ T67 i) (onB qb) := fun i h hq => h.elim (fun e => absurd ((onB_live B131.lt) i hq) (by rw [e]; exact Nat.not_lt.2 d158)) (fun h => ap96 i h hq)
    have ap185 : Apart (fun i => i = D155 ∨ T67 i) (onB p1) := fun i h hq => h.elim (fun e => absurd ((onB_live B133.lt) i hq) (by rw [e]; exact Nat.not_lt.2 d158)) (fun h => ap97 i h hq)
    have s187 : markV (D155 :: marksOf (F142 32)) = markV (D155 :: ms65) := by rw [show F142 32 = markV ms65 from s150, marksOf_markV]
    refine in_normal (then_normal (wq_region (wl_mv rfl rfl rfl s153 (wl_v (iv ((nxt b last a : Nat) : Int)) rfl rfl (y_asg rfl rfl rr) (wl_nil fun F188 hF189 => ?_)))))
    obtain ⟨s190, s191, s192, s193, s194, s195, s196⟩ := t7 hF189 0 s144 1 s145 2 s146 3 s147 4 s148 12 s149 32 s187
    have s197 : F188 5 = iv ((nxt b last a : Nat) : Int) := (hF189 5).trans rfl
    clear hF189
    refine in_normal ?_
    exact then_normal ⟨(last - (nxt b last a)), by omega, nxt b last a, o ++ stL a (nxt b last a), D155 :: ms65, T156, fun i => i = D155 ∨ T67 i, (nxt_mid (by omega) hm), (by omega), rfl, s190, s191, s192, s193, s194, s195, s196, s197, K177, B161, B171, B172, B173, B179, B175, gr178, gr180, ap165, ap166, ap167, ap181.symm, ap169, ap182, ap183, ap184, ap185⟩
   ·intro D198 T199 pre207 w200 d201 k202 g203 B204 m205 n206
    have ap211 : Apart T199 T67 := ap92.grew g203 B132.live
    have K220 := K134.trans k202 (Grew.ok (S := T_j) gr87 (fun _ x => x))
    have gr221 := Grew.trans gr87 K134 g203
    have B222 : Mks w200 (fun i => i = D198 ∨ T67 i) (D198 :: ms65) := B132.more k202 (ap92.symm) d201 m205
    have gr223 : Grew w0 noB (fun i => i = D198 ∨ T67 i) := fun i h => h.elim (fun e => .inr (by rw [e]; exact Nat.le_trans K134.size d201)) (fun h => gr88 i h)
    have ap224 : Apart (fun i => i = D198 ∨ T67 i) T199 := fun i h hq => h.elim (fun e => n206 (e ▸ hq)) (fun h => (ap211.symm) i h hq)
    have s230 : markV (D198 :: marksOf (F142 32)) = markV (D198 :: ms65) := by rw [show F142 32 = markV ms65 from s150, marksOf_markV]
    refine in_ret (then_ret (in_ret (then_ret (in_ret ?_))))
    obtain ⟨ho_, ks_⟩ := B222.shut
    have B231 := B204.all ks_ ap224.symm
    have B231_ := K220.trans ks_ (Grew.ok (S := T_j) gr223 noB_le)
    exact endm_none_ret (ms := D198 :: ms65) s230 ho_ rfl ⟨⟨_, rfl⟩, T199, B231_, gr221, Or.inr ⟨_, B231.1⟩⟩
  ·replace c109 := of_decide_eq_false c109
   refine wq_exit (then_exit (then_exit (in_here ?_)))
   obtain ⟨ho_, ks_⟩ := B85.shut
   have B232 := B81.all ks_ ap92
   have B232_ := K70.trans ks_ (Grew.ok (S := T_j) gr88 noB_le)
   exact endm_none (ms := ms65) s106 ho_ rfl ⟨⟨_, rfl⟩, T66, B232_, gr87, Or.inl (by rw [midL_no (by omega), List.append_nil] at hm; rw [← hm]; exact B232.1)⟩
 ·refine ⟨_, rfl, ?_⟩
  have B233 : Jth w28 T29 Jx (([]) ++ [⟨(f : Int), 0, -1, -1⟩]) := ⟨j32, sX⟩
  have ap237 : Apart T29 noB := ((show Apart noB T_j from fun _ h _ => h.elim).symm).grew g31 B18.live
  have B242 := B18.all k30 (fun i h x => ((show Apart noB T_j from fun _ h _ => h.elim) i h x))
  have K244 := K19.trans k30 (Grew.ok (S := T_j) (Grew.refl w0 T_j) (fun _ x => x))
  have gr245 := Grew.trans (Grew.refl w0 T_j) K19 g31
  refine wl_v (.bool true) rfl rfl (y_not rfl rfl rfl rr) (wl_nil fun F246 hF247 => ?_)
  have s252 := (hF247 32).trans s26
  have s254 : F246 12 = .bool true := (hF247 12).trans rfl
  clear hF247
  refine then_normal ?_
  refine wq_cond (t := true) s254 (fun _ => ?_) (fun e => by cases e)
  refine wq_ret (then_ret ?_)
  obtain ⟨ho_, ks_⟩ := B242.shut
  have B255 := B233.all ks_ ap237
  have B255_ := K244.trans ks_ (Grew.ok (S := T_j) (Grew.refl w0 noB) noB_le)
  exact endm_none_ret (ms := []) s252 ho_ rfl ⟨⟨_, rfl⟩, T29, B255_, gr245, Or.inr ⟨_, B255.1⟩⟩
theorem sqt_group {w : World} {f last b qf ql qb : Nat} (hl : last ≤ 300) (hb : b ≤ 3) (hf : f ≤ 300) (h1 : Cel w qf 3 (.int .i64 (f : Int))) (h2 : Cel w ql 3 (.int .i64 (last : Int))) (h3 : Cel w qb 3 (.int .i64 (b : Int))) : SqS w (fun i => (onB qf) i ∨ ((onB ql) i ∨ ((onB qb) i))) (.func (.func 27) #[] #[.pointer (some ⟨qf, 0, none⟩), .pointer (some ⟨ql, 0, none⟩), .pointer (some ⟨qb, 0, none⟩)]) (grL f last b) :=
  ⟨_, _, rfl, fun _ _ => by kernel_rfl, fun i hi => hi.elim (onB_live h1.lt i) (fun hi => hi.elim (onB_live h2.lt i) (onB_live h3.lt i)), fun S W k ha => gr_go f last b qf ql qb W hl hb hf (h1.all k (ha qf (.inl rfl))) (h2.all k (ha ql (.inr (.inl rfl)))) (h3.all k (ha qb (.inr (.inr rfl))))⟩
theorem od_group (f last b : Nat) (w0 : World) (hl : last ≤ 300) (hb : b ≤ 3) (hf : f ≤ 300) :
  Calls Try.prog 24 #[.int .i64 (((f : Nat) : Int)), .int .i64 (((last : Nat) : Int)), .int .i64 (((b : Nat) : Int))] w0 fun e w' => ∃ (v1 : Value) (T1 : Nat → Prop), e = .returned (v1) ∧ Kept (fun _ => False) w0 w' ∧ (SqS w' T1 v1 ((grL f last b)) ∧ Grew w0 noB T1) := by
 refine calls_wq (args := [iv ((f : Nat) : Int), iv ((last : Nat) : Int), iv ((b : Nat) : Int)]) 8 Try.func24 rfl rfl (Nat.le_of_ble_eq_true rfl) ?_
 have K0 := Kept.refl (fun _ => False) w0
 refine wq_seq (wq_region (wl_box_cel rfl rfl rfl rfl (by rfl) fun p1 w2 B5 g7 k3 => ?_))
 have gr8 : Grew w0 noB (onB p1) := Grew.new K0 g7
 have K9 := K0.tr k3
 refine wl_box_cel rfl rfl rfl rfl (by rfl) fun p10 w11 B14 g16 k12 => ?_
 have gr17 : Grew w0 noB (onB p10) := Grew.new K9 g16
 have B19 := B5.all k12 id
 have K20 := K9.tr k12
 refine wl_box_cel rfl rfl rfl rfl (by rfl) fun p21 w22 B25 g27 k23 => ?_
 have gr28 : Grew w0 noB (onB p21) := Grew.new K20 g27
 have B31 := B19.all k23 id
 have B32 := B14.all k23 id
 have K33 := K20.tr k23
 refine wl_v (Value.nilFunc) rfl rfl (y_asg rfl rfl rr) (wl_nil fun F34 hF35 => ?_)
 have s36 : F34 8 = undef := (hF35 8).trans rfl
 have s37 : F34 3 = pt p1 0 := (hF35 3).trans rfl
 have s38 : F34 4 = pt p10 0 := (hF35 4).trans rfl
 have s39 : F34 5 = pt p21 0 := (hF35 5).trans rfl
 clear hF35
 refine then_normal (wq_seq (wq_region (wl_v (.func (.func 27) #[] #[pt p1 0, pt p10 0, pt p21 0]) rfl rfl (y_fnc rfl (vsC s37 (vsC s38 (vsC s39 vsN))) rr) (wl_v (.func (.func 27) #[] #[pt p1 0, pt p10 0, pt p21 0]) rfl rfl (y_asg rfl rfl rr) (wl_nil fun F40 hF41 => ?_)))))
 have s42 := (hF41 8).trans s36
 have s43 : F40 6 = .func (.func 27) #[] #[pt p1 0, pt p10 0, pt p21 0] := (hF41 6).trans rfl
 clear hF41
 refine then_normal (wq_ret ?_)
 exact end_tmp (v := .func (.func 27) #[] #[pt p1 0, pt p10 0, pt p21 0]) s42 rfl rfl s43 ⟨(.func (.func 27) #[] #[pt p1 0, pt p10 0, pt p21 0]), (fun i => (onB p1) i ∨ ((onB p10) i ∨ ((onB p21) i))), rfl, K33, ⟨sqt_group hl hb hf B31 B32 B25, fun i h => h.elim (fun y => gr8 i y) (fun y => y.elim (fun y => gr17 i y) (fun y => gr28 i y))⟩⟩
theorem fi_go (n g b : Nat) (Q : Int) (qn qp : Nat) (w0 : World) (hn : n ≤ 200) (hg : 0 < g) (hg2 : g ≤ 16) (hb : b ≤ 3) (h_qn : Cel w0 qn 3 (.int .i64 (((n : Nat) : Int)))) (h_qp : Stc w0 qp 23 [.int .i64 (((g : Nat) : Int)), .int .i64 (((b : Nat) : Int)), .int .i64 (Q)]) : SeqT Try.prog 23 #[.pointer (some ⟨qn, 0, none⟩), .pointer (some ⟨qp, 0, none⟩)] (fun x : Sl => .agg (slV x).toArray) (outL n g b 0) w0 (fun i => (onB qn) i ∨ ((onB qp) i)) := by
 intro l J Jx T_j sJ sX h0 hap hY
 have h_j : Jth w0 T_j J [] := ⟨h0, sJ⟩
 have ap_qn : Apart T_j (onB qn) := fun i h e => hap i h (Or.inl e)
 have ap_qp : Apart T_j (onB qp) := fun i h e => hap i h (Or.inr e)
 refine calls_wm (args := [.func (.yield l) #[] #[], pt qn 0, pt qp 0]) 31 Try.func23 rfl rfl (Nat.le_of_ble_eq_true rfl) ?_
 have K0 := Kept.refl T_j w0
 have h_ms := Mks.nil w0
 refine wq_seq (wq_region (wl_box_fn rfl rfl rfl rfl fun p1 w2 B5 g7 k3 => ?_))
 have ap9 : Apart (onB p1) T_j := Apart.new g7 h_j.live
 have ap12 : Apart (onB p1) noB := Apart.new g7 h_ms.live
 have B13 := h_j.all k3 Apart.none
 have B14 := h_qn.all k3 id
 have B15 := h_qp.all k3 id
 have B16 := h_ms.all k3 Apart.none
 have K17 := K0.tr k3
 refine wl_nil fun F18 hF19 => ?_
 have s20 : F18 0 = .func (.yield l) #[] #[] := (hF19 0).trans rfl
 have s21 : F18 1 = pt qn 0 := (hF19 1).trans rfl
 have s22 : F18 2 = pt qp 0 := (hF19 2).trans rfl
 have s23 : F18 31 = markV [] := (hF19 31).trans rfl
 have s24 : F18 3 = pt p1 0 := (hF19 3).trans rfl
 clear hF19
 refine then_normal (wq_seq (wq_region (wl_v (iv 0) rfl rfl (y_asg rfl rfl rr) (wl_nil fun F25 hF26 => ?_))))
 obtain ⟨s27, s28, s29, s30, s31⟩ := t5 hF26 0 s20 1 s21 2 s22 31 s23 3 s24
 have s32 : F25 4 = iv 0 := (hF26 4).trans rfl
 clear hF26
 refine then_normal (wq_block (wq_loop (fun nn FF ww => ∃ (f : Nat), ∃ (o : List Sl), ∃ (ms33 : List Nat), ∃ (T34 : Nat → Prop), ∃ (T35 : Nat → Prop), (o ++ outL n g b f = outL n g b 0) ∧ (f ≤ 300) ∧ nn = n - f ∧ FF 0 = .func (.yield l) #[] #[] ∧ FF 1 = pt qn 0 ∧ FF 2 = pt qp 0 ∧ FF 3 = pt p1 0 ∧ FF 31 = markV ms33 ∧ FF 4 = iv ((f : Nat) : Int) ∧ Kept T_j w0 ww ∧ Jth ww T34 J o ∧ Cel ww qn 3 (iv ((n : Nat) : Int)) ∧ Stc ww qp 23 [iv ((g : Nat) : Int), iv ((b : Nat) : Int), iv Q] ∧ Mks ww T35 ms33 ∧ Cel ww p1 54 (.func (.yield l) #[] #[]) ∧ Grew w0 T_j T34 ∧ Grew w0 noB T35 ∧ Apart T34 (onB qn) ∧ Apart T34 (onB qp) ∧ Apart T34 T35 ∧ Apart T34 (onB p1) ∧ Apart T35 (onB qn) ∧ Apart T35 (onB qp) ∧ Apart T35 (onB p1)) (n - 0) ⟨0, [], [], T_j, noB, rfl, by omega, rfl, s27, s28, s29, s31, s30, s32, K17, B13, B14, B15, B16, B5, (Grew.refl w0 T_j), (Grew.refl w0 noB), ap_qn, ap_qp, (show Apart noB T_j from fun _ h _ => h.elim).symm, ap9.symm, (show Apart noB (onB qn) from fun _ h _ => h.elim), (show Apart noB (onB qp) from fun _ h _ => h.elim), ap12.symm⟩ ?_))
 rintro n39 F36 w37 ⟨f, o, ms33, T34, T35, ho, i40, hn39, s41, s42, s43, s44, s45, s46, K38, B47, B48, B49, B50, B51, gr52, gr53, ap54, ap55, ap56, ap57, ap58, ap59, ap60⟩
 refine wq_seq (wq_seq (wq_region (wl_mv rfl rfl rfl s46 (wl_v (iv ((n : Nat) : Int)) rfl rfl (y_load_cel rfl s42 Try.underlying3 B48 rfl rr) (wl_v (.bool (decide (((f : Nat) : Int) < ((n : Nat) : Int)))) rfl rfl (y_lss rfl rfl rfl rfl rr) (wl_nil fun F61 hF62 => ?_))))))
 obtain ⟨s63, s64, s65, s66, s67, s68⟩ := t6 hF62 0 s41 1 s42 2 s43 3 s44 31 s45 4 s46
 have s69 : F61 9 = .bool (decide (((f : Nat) : Int) < ((n : Nat) : Int))) := (hF62 9).trans rfl
 clear hF62
 refine then_normal ?_
 refine wq_cond s69 (fun c70 => ?_) (fun c70 => ?_)
 ·replace c70 := of_decide_eq_true c70
  refine wq_skip (then_normal (wq_seq (wq_block (wq_seq (wq_region (wl_mv rfl rfl rfl s68 (wl_v (pt qp 0) rfl rfl (y_fieldR (n := 1) rfl s65 Try.underlying23 rfl (by kernel_rfl) (by decide) rfl rr) (wl_v (iv ((g : Nat) : Int)) rfl rfl (y_ld_stc rfl rfl Try.underlying3 B49 rfl rfl rr) (wl_v (iv ((f + g : Nat) : Int)) rfl rfl (y_add rfl rfl rfl (i64_n (by omega) (by omega)) rr) (wl_v (iv ((n : Nat) : Int)) rfl rfl (y_load_cel rfl s64 Try.underlying3 B48 rfl rr) (wl_v (iv (min ((f + g : Nat) : Int) ((n : Nat) : Int))) rfl rfl (y_minR rfl rfl rfl rfl rr) ?_)))))))))))
  refine wl_v (iv ((min (f + g) n - 1 : Nat) : Int)) rfl rfl (y_sub rfl rfl rfl (i64_n (by omega) (by omega)) rr) (wl_v (iv ((min (f + g) n - 1 : Nat) : Int)) rfl rfl (y_asg rfl rfl rr) (wl_nil fun F71 hF72 => ?_))
  obtain ⟨s73, s74, s75, s76, s77, s78⟩ := t6 hF72 0 s63 1 s64 2 s65 3 s66 31 s67 4 s68
  have s80 : F71 5 = iv ((min (f + g) n - 1 : Nat) : Int) := (hF72 5).trans rfl
  clear hF72
  refine then_normal (wq_seq (wq_region (wl_mv rfl rfl rfl s78 (wl_mv rfl rfl rfl s80 (wl_v (pt qp 1) rfl rfl (y_fieldR (n := 1) rfl s75 Try.underlying23 rfl (by kernel_rfl) (by decide) rfl rr) (wl_v (iv ((b : Nat) : Int)) rfl rfl (y_ld_stc rfl rfl Try.underlying3 B49 rfl rfl rr) (wl_call (R := fun v_ w_ => ∃ (v81 : Value) (T84 : Nat → Prop), v81 = v_ ∧ Kept (fun _ => False) w37 w_ ∧ (SqS w_ T84 v81 (grL f (min (f + g) n - 1) b) ∧ Grew w37 noB T84)) rfl rfl (y_cs rfl rfl rfl (fun _ _ => by kernel_rfl) (ev_func _) (vsC rfl (vsC rfl (vsC rfl vsN))) (od_group f (min (f + g) n - 1) b  _ (by omega) (by omega) (by omega)  ) (fun e_ w_ h_ => by obtain ⟨v81_, T84_, he_, hr_⟩ := h_; exact ⟨_, he_, v81_, T84_, rfl, hr_⟩)) ?_)))))))
  rintro _ w82 ⟨v81, T84, rfl, k83, ⟨B85, g86⟩⟩
  have B87 := B47.all k83 Apart.none
  have B88 := B48.all k83 id
  have B89 := B49.all k83 id
  have B90 := B50.all k83 Apart.none
  have B91 := B51.all k83 id
  have K92 := K38.tr k83
  have ap94 : Apart T84 T34 := Apart.new g86 B47.live
  have ap98 : Apart T84 (onB p1) := Apart.new g86 (onB_live B51.lt)
  refine wl_nil fun F99 hF100 => ?_
  obtain ⟨s101, s102, s103, s104, s105, s106⟩ := t6 hF100 0 s73 1 s74 2 s75 3 s76 31 s77 4 s78
  have s109 : F99 25 = v81 := (hF100 25).trans rfl
  clear hF100
  refine then_normal (wq_block ?_)
  refine wq_fwd (us := slV) (zs := [iv 0, iv 0, iv 0, iv 0]) (n := 4) (o := o) (xs := grL f (min (f + g) n - 1) b) (all := outL n g b 0) (J := J) (Jx := Jx) (fun _ => stcT_slot) slV_one (by kernel_rfl) (fun _ => rfl) ⟨rfl, rfl, rfl⟩ ⟨rfl, rfl, rfl⟩ ⟨rfl, rfl, rfl⟩ ⟨rfl, rfl, rfl⟩ ⟨rfl, rfl, rfl⟩ ⟨rfl, rfl⟩ ⟨rfl, rfl, rfl⟩ (by decide) (by decide) Try.underlying54 rfl s109 B85 s104 B91 B87 sX ap94.symm ap57 ap98.symm (pre_out (by omega) hg ho) hY ?_ ?_
  ·intro D110 T111 w112 d113 k114 g115 B116 m117 n118
   have ap120 : Apart T111 (onB qn) := ap54.grew g115 (onB_live B88.lt)
   have ap121 : Apart T111 (onB qp) := ap55.grew g115 (onB_live B89.lt)
   have ap122 : Apart T111 T35 := ap56.grew g115 B90.live
   have ap123 : Apart T111 (onB p1) := ap57.grew g115 (onB_live B91.lt)
   have B125 := B88.all k114 (ap54.symm qn rfl)
   have B126 := B89.all k114 (ap55.symm qp rfl)
   have B128 := B91.all k114 (ap57.symm p1 rfl)
   have K130 := K92.trans k114 (Grew.ok (S := T_j) gr52 (fun _ x => x))
   have gr131 := Grew.trans gr52 K92 g115
   have B132 : Mks w112 (fun i => i = D110 ∨ T35 i) (D110 :: ms33) := B90.more k114 (ap56.symm) d113 m117
   have gr133 : Grew w0 noB (fun i => i = D110 ∨ T35 i) := fun i h => h.elim (fun e => .inr (by rw [e]; exact Nat.le_trans K92.size d113)) (fun h => gr53 i h)
   have ap134 : Apart (fun i => i = D110 ∨ T35 i) T111 := fun i h hq => h.elim (fun e => n118 (e ▸ hq)) (fun h => (ap122.symm) i h hq)
   have ap135 : Apart (fun i => i = D110 ∨ T35 i) (onB qn) := fun i h hq => h.elim (fun e => absurd ((onB_live B88.lt) i hq) (by rw [e]; exact Nat.not_lt.2 d113)) (fun h => ap58 i h hq)
   have ap136 : Apart (fun i => i = D110 ∨ T35 i) (onB qp) := fun i h hq => h.elim (fun e => absurd ((onB_live B89.lt) i hq) (by rw [e]; exact Nat.not_lt.2 d113)) (fun h => ap59 i h hq)
   have ap137 : Apart (fun i => i = D110 ∨ T35 i) (onB p1) := fun i h hq => h.elim (fun e => absurd ((onB_live B91.lt) i hq) (by rw [e]; exact Nat.not_lt.2 d113)) (fun h => ap60 i h hq)
   have s139 : markV (D110 :: marksOf (F99 31)) = markV (D110 :: ms33) := by rw [show F99 31 = markV ms33 from s105, marksOf_markV]
   refine in_normal (in_normal (then_normal (wq_region (wl_mv rfl rfl rfl s106 (wl_v (pt qp 0) rfl rfl (y_fieldR (n := 1) rfl s103 Try.underlying23 rfl (by kernel_rfl) (by decide) rfl rr) (wl_v (iv ((g : Nat) : Int)) rfl rfl (y_ld_stc rfl rfl Try.underlying3 B126 rfl rfl rr) (wl_v (iv ((f + g : Nat) : Int)) rfl rfl (y_add rfl rfl rfl (i64_n (by omega) (by omega)) rr) (wl_v (iv ((f + g : Nat) : Int)) rfl rfl (y_asg rfl rfl rr) (wl_nil fun F140 hF141 => ?_)))))))))
   obtain ⟨s142, s143, s144, s145, s146⟩ := t5 hF141 0 s101 1 s102 2 s103 3 s104 31 s139
   have s147 : F140 4 = iv ((f + g : Nat) : Int) := (hF141 4).trans rfl
   clear hF141
   exact then_normal ⟨(n - (f + g)), by omega, f + g, o ++ grL f (min (f + g) n - 1) b, D110 :: ms33, T111, fun i => i = D110 ∨ T35 i, (nxt_out (by omega) hg ho), by omega, rfl, s142, s143, s144, s145, s146, s147, K130, B116, B125, B126, B132, B128, gr131, gr133, ap120, ap121, ap134.symm, ap123, ap135, ap136, ap137⟩
  ·intro D148 T149 pre157 w150 d151 k152 g153 B154 m155 n156
   have ap160 : Apart T149 T35 := ap56.grew g153 B90.live
   have K168 := K92.trans k152 (Grew.ok (S := T_j) gr52 (fun _ x => x))
   have gr169 := Grew.trans gr52 K92 g153
   have B170 : Mks w150 (fun i => i = D148 ∨ T35 i) (D148 :: ms33) := B90.more k152 (ap56.symm) d151 m155
   have gr171 : Grew w0 noB (fun i => i = D148 ∨ T35 i) := fun i h => h.elim (fun e => .inr (by rw [e]; exact Nat.le_trans K92.size d151)) (fun h => gr53 i h)
   have ap172 : Apart (fun i => i = D148 ∨ T35 i) T149 := fun i h hq => h.elim (fun e => n156 (e ▸ hq)) (fun h => (ap160.symm) i h hq)
   have s177 : markV (D148 :: marksOf (F99 31)) = markV (D148 :: ms33) := by rw [show F99 31 = markV ms33 from s105, marksOf_markV]
   refine in_ret (in_ret (then_ret (then_ret (in_ret ?_))))
   obtain ⟨ho_, ks_⟩ := B170.shut
   have B178 := B154.all ks_ ap172.symm
   have B178_ := K168.trans ks_ (Grew.ok (S := T_j) gr171 noB_le)
   exact endm_none_ret (ms := D148 :: ms33) s177 ho_ rfl ⟨⟨_, rfl⟩, T149, B178_, gr169, Or.inr ⟨_, B178.1⟩⟩
 ·replace c70 := of_decide_eq_false c70
  refine wq_exit (then_exit (then_exit (in_here ?_)))
  obtain ⟨ho_, ks_⟩ := B50.shut
  have B179 := B47.all ks_ ap56
  have B179_ := K38.trans ks_ (Grew.ok (S := T_j) gr53 noB_le)
  exact endm_none (ms := ms33) s67 ho_ rfl ⟨⟨_, rfl⟩, T34, B179_, gr52, Or.inl (by rw [outL_no (by omega), List.append_nil] at ho; rw [← ho]; exact B179.1)⟩
theorem sqt_film {w : World} {n g b qn qp : Nat} {Q : Int} (hn : n ≤ 200) (hg : 0 < g) (hg2 : g ≤ 16) (hb : b ≤ 3) (h1 : Cel w qn 3 (.int .i64 (n : Int))) (h2 : Stc w qp 23 [.int .i64 (g : Int), .int .i64 (b : Int), .int .i64 Q]) : SqS w (fun i => (onB qn) i ∨ (onB qp) i) (.func (.func 23) #[] #[.pointer (some ⟨qn, 0, none⟩), .pointer (some ⟨qp, 0, none⟩)]) (outL n g b 0) :=
  ⟨_, _, rfl, fun _ _ => by kernel_rfl, fun i hi => hi.elim (onB_live h1.lt i) (onB_live h2.lt i), fun S W k ha => fi_go n g b Q qn qp W hn hg hg2 hb (h1.all k (ha qn (.inl rfl))) (h2.all k (ha qp (.inr rfl)))⟩
theorem sqt_filmI {w : World} {n G B Q : Int} {qn qp : Nat} (hn : 1 ≤ n ∧ n ≤ 200) (hg : 1 ≤ G ∧ G ≤ 16) (hb : 0 ≤ B ∧ B ≤ 3) (h1 : Cel w qn 3 (.int .i64 n)) (h2 : Stc w qp 23 [.int .i64 G, .int .i64 B, .int .i64 Q]) : SqS w (fun i => (onB qn) i ∨ (onB qp) i) (.func (.func 23) #[] #[.pointer (some ⟨qn, 0, none⟩), .pointer (some ⟨qp, 0, none⟩)]) (outL n.toNat G.toNat B.toNat 0) := by
  obtain ⟨n, rfl⟩ : ∃ k : Nat, n = (k : Int) := ⟨n.toNat, by omega⟩
  obtain ⟨g, rfl⟩ : ∃ k : Nat, G = (k : Int) := ⟨G.toNat, by omega⟩
  obtain ⟨b, rfl⟩ : ∃ k : Nat, B = (k : Int) := ⟨B.toNat, by omega⟩
  rw [Int.toNat_natCast, Int.toNat_natCast, Int.toNat_natCast]
  exact sqt_film (by omega) (by omega) (by omega) (by omega) h1 h2
theorem od_film (n G B Q : Int) (w0 : World) (hn : 1 ≤ n ∧ n ≤ 200) (hg : 1 ≤ G ∧ G ≤ 16) (hb : 0 ≤ B ∧ B ≤ 3) :
  Calls Try.prog 18 #[.int .i64 (n), .agg #[.int .i64 (G), .int .i64 (B), .int .i64 (Q)]] w0 fun e w' => ∃ (v1 : Value) (T1 : Nat → Prop), e = .returned (v1) ∧ Kept (fun _ => False) w0 w' ∧ (SqS w' T1 v1 ((outL n.toNat G.toNat B.toNat 0)) ∧ Grew w0 noB T1) := by
 refine calls_wq (args := [iv n, .agg #[iv G, iv B, iv Q]]) 6 Try.func18 rfl rfl (Nat.le_of_ble_eq_true rfl) ?_
 have K0 := Kept.refl (fun _ => False) w0
 refine wq_seq (wq_region (wl_box_cel rfl rfl rfl rfl (by rfl) fun p1 w2 B5 g7 k3 => ?_))
 have gr8 : Grew w0 noB (onB p1) := Grew.new K0 g7
 have K9 := K0.tr k3
 refine wl_box_stc (vs := [iv G, iv B, iv Q]) rfl rfl rfl rfl fun p10 w11 B13 g14 k12 => ?_
 have gr15 : Grew w0 noB (onB p10) := Grew.new K9 g14
 have B17 := B5.all k12 id
 have K18 := K9.tr k12
 refine wl_v (Value.nilFunc) rfl rfl (y_asg rfl rfl rr) (wl_nil fun F19 hF20 => ?_)
 have s21 : F19 6 = undef := (hF20 6).trans rfl
 have s22 : F19 2 = pt p1 0 := (hF20 2).trans rfl
 have s23 : F19 3 = pt p10 0 := (hF20 3).trans rfl
 clear hF20
 refine then_normal (wq_seq (wq_region (wl_v (.func (.func 23) #[] #[pt p1 0, pt p10 0]) rfl rfl (y_fnc rfl (vsC s22 (vsC s23 vsN)) rr) (wl_v (.func (.func 23) #[] #[pt p1 0, pt p10 0]) rfl rfl (y_asg rfl rfl rr) (wl_nil fun F24 hF25 => ?_)))))
 have s26 := (hF25 6).trans s21
 have s27 : F24 4 = .func (.func 23) #[] #[pt p1 0, pt p10 0] := (hF25 4).trans rfl
 clear hF25
 refine then_normal (wq_ret ?_)
 exact end_tmp (v := .func (.func 23) #[] #[pt p1 0, pt p10 0]) s26 rfl rfl s27 ⟨(.func (.func 23) #[] #[pt p1 0, pt p10 0]), (fun i => (onB p1) i ∨ ((onB p10) i)), rfl, K18, ⟨sqt_filmI hn hg hb B17 B13, fun i h => h.elim (fun y => gr8 i y) (fun y => gr15 i y)⟩⟩
end Go.Proofs.Ythoafgfcoclkbaa
set_option maxRecDepth 100000
namespace Go.Proofs.Ythoafgfcoclkbaa
open Go.RowKit
theorem rSl_all (x : Sl) : OneAll (rSl.enc x) := slV_one x
theorem od_slots (N G B Q : Int) (w0 : World) :
  Calls Try.prog 9 #[.int .i64 (N), .agg #[.int .i64 (G), .int .i64 (B), .int .i64 (Q)]] w0 fun e w' => ∃ (v1 : Value) (T1 : Nat → Prop), e = .returned (.tuple #[v1, .int .i64 (slE N G B Q)]) ∧ Kept (fun _ => False) w0 w' ∧ (RoO rSl w' T1 v1 ((slL N G B Q)) ∧ Grew w0 noB T1) := by
 refine calls_wm (args := [iv N, .agg #[iv G, iv B, iv Q]]) 28 Try.func9 rfl rfl (Nat.le_of_ble_eq_true rfl) ?_
 have K0 := Kept.refl (fun _ => False) w0
 refine wq_seq (wq_region (wl_box_stc (vs := [iv G, iv B, iv Q]) rfl rfl rfl rfl fun p1 w2 B4 g5 k3 => ?_))
 have K7 := K0.tr k3
 refine wl_v (.slice none 0 0) rfl rfl (y_asg rfl rfl rr) (wl_v (iv 0) rfl rfl (y_asg rfl rfl rr) (wl_nil fun F8 hF9 => ?_))
 have s10 : F8 0 = iv N := (hF9 0).trans rfl
 have s12 : F8 28 = undef := (hF9 28).trans rfl
 have s13 : F8 3 = pt p1 0 := (hF9 3).trans rfl
 clear hF9
 refine then_normal (wq_seq (wq_seq (wq_region (wl_v (.agg #[iv G, iv B, iv Q]) rfl rfl (y_load_stc stcT_plan rfl s13 B4 rr) (wl_cs rfl rfl rfl rfl rfl (fun _ _ => by kernel_rfl) (vsC rfl vsN) (od_check G B Q  _   ) fun w16 k17 => ?_)))))
 have B18 := B4.all k17 id
 have K19 := K7.tr k17
 refine wl_v (iv (planE G B Q)) rfl rfl (y_asg rfl rfl rr) (wl_nil fun F20 hF21 => ?_)
 obtain ⟨s22, s24, s25⟩ := t3 hF21 0 s10 28 s12 3 s13
 have s28 : F20 6 = iv (planE G B Q) := (hF21 6).trans rfl
 clear hF21
 refine then_normal (wq_seq (wq_region (wl_mv rfl rfl rfl s28 (wl_v (.bool (decide ((planE G B Q) ≠ 0))) rfl rfl (y_neqI rfl rfl rfl rfl rr) (wl_nil fun F29 hF30 => ?_)))))
 obtain ⟨s31, s33, s34, s37⟩ := t4 hF30 0 s22 28 s24 3 s25 6 s28
 have s38 : F29 12 = .bool (decide ((planE G B Q) ≠ 0)) := (hF30 12).trans rfl
 clear hF30
 refine then_normal ?_
 refine wq_cond s38 (fun c39 => ?_) (fun c39 => ?_)
 ·replace c39 := of_decide_eq_true c39
  refine wq_seq ?_
  have hno : ¬ slOk N G B Q := fun z => by have z1 := planE_iff.2 z.1; omega
  have hR := And.intro (slL_no hno) (slE_no hno)
  have he : planE G B Q = 150 := by by_cases z : planOk G B Q; (exact absurd (planE_iff.2 z) (by assumption)); exact if_neg z
  refine wq_region (wl_mv rfl rfl rfl s37 (wl_v (.slice none 0 0) rfl rfl (y_asg rfl rfl rr) (wl_v (iv (planE G B Q)) rfl rfl (y_asg rfl rfl rr) (wl_nil fun F40 hF41 => ?_))))
  have s42 := (hF41 28).trans s33
  have s43 : F40 4 = .slice none 0 0 := (hF41 4).trans rfl
  have s44 : F40 5 = iv (planE G B Q) := (hF41 5).trans rfl
  clear hF41
  refine then_normal (wq_ret (then_ret ?_))
  exact endm_2 (ms := []) (Eq.trans s42 (rfl : undef = markV [])) trivial rfl (res_tmp (v := .slice none 0 0) rfl s43) (res_tmp (v := iv (planE G B Q)) rfl s44) ⟨(.slice none 0 0), noB, (by first | rw [hR.2, he] | rw [hR.2]), K19, ⟨(by rw [hR.1]; exact (RoO.nil rSl _)), (Grew.refl _ _)⟩⟩
 ·replace c39 := of_decide_eq_false c39
  refine wq_skip (then_normal (wq_seq (wq_seq ?_)))
  have hpl := planE_iff.1 (by first | assumption | (apply Decidable.byContradiction; assumption))
  have hpk := hpl
  unfold planOk at hpk
  by_cases d45 : 1 ≤ N ∧ N ≤ 200
  ·skip
   refine wq_region (wl_mv rfl rfl rfl s31 (wl_call (R := fun v_ w_ => v_ = .bool true ∧ Kept (fun _ => False) w16 w_) rfl rfl (y_cs rfl rfl rfl (fun _ _ => by kernel_rfl) (ev_func _) (vsC rfl (vsC rfl (vsC rfl vsN))) (od_within N 1 200  _   ) (fun e_ w_ h_ => ⟨_, h_.1, (congrArg Value.bool (decide_eq_true d45)), h_.2⟩)) ?_))
   rintro _ w46 ⟨rfl, k47⟩
   have B48 := B18.all k47 id
   have K49 := K19.tr k47
   refine wl_v (.bool false) rfl rfl (y_not rfl rfl rfl rr) (wl_nil fun F50 hF51 => ?_)
   obtain ⟨s52, s54, s55⟩ := t3 hF51 0 s31 28 s33 3 s34
   have s60 : F50 16 = .bool false := (hF51 16).trans rfl
   clear hF51
   refine then_normal ?_
   refine wq_cond (t := false) s60 (fun e => by cases e) (fun _ => ?_)
   refine wq_skip (then_normal (wq_seq ?_))
   have hok : slOk N G B Q := ⟨hpl, by omega⟩
   have hnk := hok.2
   have hR := And.intro (slL_yes hok) (slE_yes hok)
   have hln := outL_len N.toNat G.toNat B.toNat (by omega) _ 0 rfl
   refine wq_region (wl_mv rfl rfl rfl s52 ?_)
   refine wl_op rfl rfl (y_makeRo0 (r := rSl) (c := N.toNat) rfl rfl rfl (by omega) (by omega) (by omega) fun v61 w62 T66 B64 g65 k63 => ?_)
   have gr67 : Grew w0 noB T66 := Grew.new K49 g65
   have B69 := B48.all k63 id
   have K70 := K49.tr k63
   refine wl_alloc_cel (v := .slice none 0 0) rfl rfl rfl (by kernel_rfl) rfl fun p71 w72 B75 g77 k73 => ?_
   have gr78 : Grew w0 noB (onB p71) := Grew.new K70 g77
   have ap79 : Apart (onB p71) (onB p1) := Apart.new g77 (onB_live B69.lt)
   have ap80 : Apart (onB p71) T66 := Apart.new g77 B64.live
   have B81 := B69.all k73 id
   have B82 := B64.all k73 Apart.none
   have K83 := K70.tr k73
   refine wl_store_cel rfl rfl rfl rfl rfl B75 B82.oneC (by kernel_rfl) fun w84 B85 k86 => ?_
   have B87 := B81.all k86 (ap79.symm p1 rfl)
   have B88 := B82.all k86 ap80.symm
   have K89 := K83.trans k86 (Grew.ok (S := fun _ => False) gr78 noB_le)
   refine wl_nil fun F90 hF91 => ?_
   obtain ⟨s92, s94, s95⟩ := t3 hF91 0 s52 28 s54 3 s55
   have s101 : F90 7 = pt p71 0 := (hF91 7).trans rfl
   clear hF91
   refine then_normal (wq_seq (wq_seq (wq_region (wl_mv rfl rfl rfl s92 (wl_v (.agg #[iv G, iv B, iv Q]) rfl rfl (y_load_stc stcT_plan rfl s95 B87 rr) (wl_call (R := fun v_ w_ => ∃ (v102 : Value) (T105 : Nat → Prop), v102 = v_ ∧ Kept (fun _ => False) w84 w_ ∧ (SqS w_ T105 v102 (outL N.toNat G.toNat B.toNat 0) ∧ Grew w84 noB T105)) rfl rfl (y_cs rfl rfl rfl (fun _ _ => by kernel_rfl) (ev_func _) (vsC rfl (vsC rfl vsN)) (od_film N G B Q  _ (by omega) (by omega) (by omega)  ) (fun e_ w_ h_ => by obtain ⟨v102_, T105_, he_, hr_⟩ := h_; exact ⟨_, he_, v102_, T105_, rfl, hr_⟩)) ?_))))))
   rintro _ w103 ⟨v102, T105, rfl, k104, ⟨B106, g107⟩⟩
   have B109 := B88.all k104 Apart.none
   have B110 := B85.all k104 id
   have K111 := K89.tr k104
   have ap114 : Apart T105 T66 := Apart.new g107 B88.live
   have ap115 : Apart T105 (onB p71) := Apart.new g107 (onB_live B85.lt)
   refine wl_nil fun F116 hF117 => ?_
   obtain ⟨s120, s127⟩ := t2 hF117 28 s94 7 s101
   have s128 : F116 21 = v102 := (hF117 21).trans rfl
   clear hF117
   refine then_normal (wq_block (wq_coll (r := rSl) (zs := [iv 0, iv 0, iv 0, iv 0]) (n := 4) (o := []) (xs := outL N.toNat G.toNat B.toNat 0) (fun _ => stcT_slot) (fun x => rSl_all x) (by kernel_rfl) (fun _ => rfl) ⟨rfl, rfl, rfl⟩ ⟨rfl, rfl, rfl⟩ ⟨rfl, rfl, rfl⟩ ⟨rfl, rfl, rfl⟩ ⟨rfl, rfl, rfl⟩ ⟨rfl, rfl, rfl⟩ ⟨rfl, rfl, rfl⟩ (by kernel_rfl) (by decide) (by decide) (by decide) s128 B106 s127 B110 B109 ap80 ap114.symm ap115.symm (by rw [hln]; simp; omega) ?_))
   intro D129 v130 T131 w132 d133 k134 g135 B136 B137 ap138 m139 n140
   have K145 := K111.trans k134 (fun i hi x => (x.elim (fun y => ((Grew.ok (S := fun _ => False) gr78 noB_le) i hi y)) (fun y => ((Grew.ok (S := fun _ => False) gr67 noB_le) i hi y))))
   have gr146 := Grew.trans gr67 K111 g135
   have gr147 : Grew w0 noB (onB D129) := onB_new (Nat.le_trans K111.size d133)
   have ap151 : Apart (onB D129) T131 := fun i e h => n140 (e ▸ h)
   have s152 : markV (D129 :: marksOf (F116 28)) = markV [D129] := congrArg (fun z => markV (D129 :: marksOf z)) s120
   refine in_normal (then_normal (wq_seq (wq_region (wl_v v130 rfl rfl (y_load_cel rfl s127 Try.underlying26 B136 rfl rr) (wl_v v130 rfl rfl (y_asg rfl rfl rr) (wl_v (iv 0) rfl rfl (y_asg rfl rfl rr) (wl_nil fun F153 hF154 => ?_)))))))
   have s155 := (hF154 28).trans s152
   have s156 : F153 4 = v130 := (hF154 4).trans rfl
   have s157 : F153 5 = iv 0 := (hF154 5).trans rfl
   clear hF154
   refine then_normal (wq_ret ?_)
   have k158 := kept_shut w132 D129
   have B163 := B137.all k158 ap151.symm
   have K159 := K145.trans k158 (Grew.ok (S := fun _ => False) gr147 noB_le)
   exact endm_2 (ms := [D129]) s155 m139.opens rfl (res_tmp (v := v130) rfl s156) (res_tmp (v := iv 0) rfl s157) ⟨v130, T131, (by first | rw [hR.2, he] | rw [hR.2]), K159, ⟨(by rw [hR.1]; exact B163), gr146⟩⟩
  ·skip
   refine wq_region (wl_mv rfl rfl rfl s31 (wl_call (R := fun v_ w_ => v_ = .bool false ∧ Kept (fun _ => False) w16 w_) rfl rfl (y_cs rfl rfl rfl (fun _ _ => by kernel_rfl) (ev_func _) (vsC rfl (vsC rfl (vsC rfl vsN))) (od_within N 1 200  _   ) (fun e_ w_ h_ => ⟨_, h_.1, (congrArg Value.bool (decide_eq_false d45)), h_.2⟩)) ?_))
   rintro _ w164 ⟨rfl, k165⟩
   have K167 := K19.tr k165
   refine wl_v (.bool true) rfl rfl (y_not rfl rfl rfl rr) (wl_nil fun F168 hF169 => ?_)
   have s172 := (hF169 28).trans s33
   have s178 : F168 16 = .bool true := (hF169 16).trans rfl
   clear hF169
   refine then_normal ?_
   refine wq_cond (t := true) s178 (fun _ => ?_) (fun e => by cases e)
   refine wq_seq ?_
   have hno : ¬ slOk N G B Q := fun z => by have z2 := z.2; omega
   have hR := And.intro (slL_no hno) (slE_no hno)
   refine wq_region (wl_v (.slice none 0 0) rfl rfl (y_asg rfl rfl rr) (wl_v (iv 150) rfl rfl (y_asg rfl rfl rr) (wl_nil fun F179 hF180 => ?_)))
   have s181 := (hF180 28).trans s172
   have s182 : F179 4 = .slice none 0 0 := (hF180 4).trans rfl
   have s183 : F179 5 = iv 150 := (hF180 5).trans rfl
   clear hF180
   refine then_normal (wq_ret (then_ret ?_))
   exact endm_2 (ms := []) (Eq.trans s181 (rfl : undef = markV [])) trivial rfl (res_tmp (v := .slice none 0 0) rfl s182) (res_tmp (v := iv 150) rfl s183) ⟨(.slice none 0 0), noB, (by first | rw [hR.2, he] | rw [hR.2]), K167, ⟨(by rw [hR.1]; exact (RoO.nil rSl _)), (Grew.refl _ _)⟩⟩
end Go.Proofs.Ythoafgfcoclkbaa
set_option maxRecDepth 100000
namespace Go.Proofs.Ythoafgfcoclkbaa
open Go.RowKit
theorem odawake_any (w0 : World) :
  Calls Try.prog 8 #[] w0 fun e w' => e = .returned (.bool true) ∧ Kept (fun _ => False) w0 w' := by
 refine calls_wq (args := []) 101 Try.func8 rfl rfl (Nat.le_of_ble_eq_true rfl) ?_
 have K0 := Kept.refl (fun _ => False) w0
 have hE := ex_slE
 have hN := show shN [0, 2, 1, 4, 3] = 2 from ex_N
 have hF := show shE [0, 2, 1, 4, 3] = 0 from ex_E
 have hG := show shE [0, 0] = 150 from shE_no ex_bad
 have hP := show planE 0 0 0 = 150 from rfl
 have hl1 : ([⟨0, 0, -1, -1⟩, ⟨2, 1, 0, -1⟩, ⟨1, 2, 0, 2⟩, ⟨4, 1, 2, -1⟩, ⟨3, 2, 2, 4⟩] : List Sl).length = 5 := rfl
 have hl2 : ([0, 2, 1, 4, 3] : List Int).length = 5 := rfl
 refine wq_seq (wq_region (wl_v (.bool false) rfl rfl (y_asg rfl rfl rr) (wl_nil fun F1 hF2 => ?_)))
 have s3 : F1 101 = undef := (hF2 101).trans rfl
 clear hF2
 refine then_normal (wq_seq (wq_region (wl_v (.agg #[iv 5, iv 1, iv 0]) rfl rfl (y_buildL (l' := [(0, iv 5), (1, iv 1)]) (cells := #[iv 5, iv 1, iv 0]) rfl (bpC rfl (bpC rfl bpN)) (by kernel_rfl) rfl rr) (wl_call (R := fun v_ w_ => ∃ (v4 : Value) (T7 : Nat → Prop), .tuple #[v4, iv (slE 5 5 1 0)] = v_ ∧ Kept (fun _ => False) w0 w_ ∧ (RoO rSl w_ T7 v4 (slL 5 5 1 0) ∧ Grew w0 noB T7)) rfl rfl (y_cs rfl rfl rfl (fun _ _ => by kernel_rfl) (ev_func _) (vsC rfl (vsC rfl vsN)) (od_slots 5 5 1 0  _   ) (fun e_ w_ h_ => by obtain ⟨v4_, T7_, he_, hr_⟩ := h_; exact ⟨_, he_, v4_, T7_, rfl, hr_⟩)) ?_))))
 rintro _ w5 ⟨v4, T7, rfl, k6, ⟨B8, g9⟩⟩
 have K10 := K0.tr k6
 refine wl_v (.tuple #[v4, iv (slE 5 5 1 0)]) rfl rfl (y_mov rfl rfl rr) (wl_v v4 rfl rfl (y_ext rfl rfl rfl rr) (wl_v (iv (slE 5 5 1 0)) rfl rfl (y_ext rfl rfl rfl rr) (wl_v v4 rfl rfl (y_asg rfl rfl rr) (wl_v (iv (slE 5 5 1 0)) rfl rfl (y_asg rfl rfl rr) (wl_nil fun F12 hF13 => ?_)))))
 have s14 := (hF13 101).trans s3
 have s15 : F12 1 = v4 := (hF13 1).trans rfl
 have s16 : F12 2 = iv (slE 5 5 1 0) := (hF13 2).trans rfl
 clear hF13
 refine then_normal (wq_seq (wq_region (wl_builtRo (r := rInt) (xs := [.const (iv 0), .const (iv 2), .const (iv 1), .const (iv 4), .const (iv 3)]) (vs := [iv 0, iv 2, iv 1, iv 4, iv 3]) (l := [0, 2, 1, 4, 3]) rfl rfl rfl rfl rfl (vsC rfl (vsC rfl (vsC rfl (vsC rfl (vsC rfl vsN))))) rfl (by first | decide | exact Nat.le_of_ble_eq_true rfl) (by first | decide | exact Nat.le_of_ble_eq_true rfl) fun v17 w18 T22 B20 g21 k19 => ?_)))
 have B25 := B8.all k19 Apart.none
 have K26 := K10.tr k19
 refine wl_call (R := fun v_ w_ => ∃ (v27 : Value) (T30 : Nat → Prop), .tuple #[v27, iv (shN ([0, 2, 1, 4, 3])), iv (shE ([0, 2, 1, 4, 3]))] = v_ ∧ Kept (fun _ => False) w18 w_ ∧ (RoO rInt w_ T30 v27 (shL ([0, 2, 1, 4, 3])) ∧ Grew w18 noB T30)) rfl rfl (y_cs rfl rfl rfl (fun _ _ => by kernel_rfl) (ev_func _) (vsC rfl vsN) (od_show v17 ([0, 2, 1, 4, 3]) T22 _  B20.roa ) (fun e_ w_ h_ => by obtain ⟨v27_, T30_, he_, hr_⟩ := h_; exact ⟨_, he_, v27_, T30_, rfl, hr_⟩)) ?_
 rintro _ w28 ⟨v27, T30, rfl, k29, ⟨B31, g32⟩⟩
 have B33 := B25.all k29 Apart.none
 have K35 := K26.tr k29
 refine wl_v (.tuple #[v27, iv (shN ([0, 2, 1, 4, 3])), iv (shE ([0, 2, 1, 4, 3]))]) rfl rfl (y_mov rfl rfl rr) (wl_v v27 rfl rfl (y_ext rfl rfl rfl rr) (wl_v (iv (shN ([0, 2, 1, 4, 3]))) rfl rfl (y_ext rfl rfl rfl rr) (wl_v (iv (shE ([0, 2, 1, 4, 3]))) rfl rfl (y_ext rfl rfl rfl rr) (wl_v v27 rfl rfl (y_asg rfl rfl rr) (wl_v (iv (shN ([0, 2, 1, 4, 3]))) rfl rfl (y_asg rfl rfl rr) (wl_v (iv (shE ([0, 2, 1, 4, 3]))) rfl rfl (y_asg rfl rfl rr) (wl_nil fun F39 hF40 => ?_)))))))
 obtain ⟨s41, s42, s43⟩ := t3 hF40 101 s14 1 s15 2 s16
 have s44 : F39 3 = v27 := (hF40 3).trans rfl
 have s45 : F39 4 = iv (shN ([0, 2, 1, 4, 3])) := (hF40 4).trans rfl
 have s46 : F39 5 = iv (shE ([0, 2, 1, 4, 3])) := (hF40 5).trans rfl
 clear hF40
 refine then_normal (wq_seq (wq_region (wl_builtRo (r := rInt) (xs := [.const (iv 0), .const (iv 0)]) (vs := [iv 0, iv 0]) (l := [0, 0]) rfl rfl rfl rfl rfl (vsC rfl (vsC rfl vsN)) rfl (by first | decide | exact Nat.le_of_ble_eq_true rfl) (by first | decide | exact Nat.le_of_ble_eq_true rfl) fun v47 w48 T52 B50 g51 k49 => ?_)))
 have B57 := B33.all k49 Apart.none
 have B59 := B31.all k49 Apart.none
 have K60 := K35.tr k49
 refine wl_call (R := fun v_ w_ => ∃ (v61 : Value) (T64 : Nat → Prop), .tuple #[v61, iv (shN ([0, 0])), iv (shE ([0, 0]))] = v_ ∧ Kept (fun _ => False) w48 w_ ∧ (RoO rInt w_ T64 v61 (shL ([0, 0])) ∧ Grew w48 noB T64)) rfl rfl (y_cs rfl rfl rfl (fun _ _ => by kernel_rfl) (ev_func _) (vsC rfl vsN) (od_show v47 ([0, 0]) T52 _  B50.roa ) (fun e_ w_ h_ => by obtain ⟨v61_, T64_, he_, hr_⟩ := h_; exact ⟨_, he_, v61_, T64_, rfl, hr_⟩)) ?_
 rintro _ w62 ⟨v61, T64, rfl, k63, ⟨B65, g66⟩⟩
 have B67 := B57.all k63 Apart.none
 have B69 := B59.all k63 Apart.none
 have K71 := K60.tr k63
 refine wl_v (.tuple #[v61, iv (shN ([0, 0])), iv (shE ([0, 0]))]) rfl rfl (y_mov rfl rfl rr) (wl_v v61 rfl rfl (y_ext rfl rfl rfl rr) (wl_v (iv (shN ([0, 0]))) rfl rfl (y_ext rfl rfl rfl rr) (wl_v (iv (shE ([0, 0]))) rfl rfl (y_ext rfl rfl rfl rr) (wl_v v61 rfl rfl (y_asg rfl rfl rr) (wl_v (iv (shN ([0, 0]))) rfl rfl (y_asg rfl rfl rr) (wl_v (iv (shE ([0, 0]))) rfl rfl (y_asg rfl rfl rr) (wl_nil fun F77 hF78 => ?_)))))))
 obtain ⟨s79, s80, s81, s82, s83, s84⟩ := t6 hF78 101 s41 1 s42 2 s43 3 s44 4 s45 5 s46
 have s85 : F77 8 = iv (shE ([0, 0])) := (hF78 8).trans rfl
 clear hF78
 refine then_normal (wq_seq (wq_seq ?_))
 have B86 : RoO rSl w62 T7 v4 ([⟨0, 0, -1, -1⟩, ⟨2, 1, 0, -1⟩, ⟨1, 2, 0, 2⟩, ⟨4, 1, 2, -1⟩, ⟨3, 2, 2, 4⟩] : List Sl) := (by rw [← ex_sl]; exact B67)
 have B87 : RoO rInt w62 T30 v27 ([0, 2, 1, 4, 3] : List Int) := (by have z_ := B69; rw [show shL [0, 2, 1, 4, 3] = _ from ex_L] at z_; exact z_)
 refine wq_region (wl_mv rfl rfl rfl s80 (wl_v (iv ((([⟨0, 0, -1, -1⟩, ⟨2, 1, 0, -1⟩, ⟨1, 2, 0, 2⟩, ⟨4, 1, 2, -1⟩, ⟨3, 2, 2, 4⟩] : List Sl).length : Nat) : Int)) rfl rfl (y_lenRo (r := rSl) rfl rfl rfl B86.roa rr) (wl_v (.bool false) rfl rfl (y_neqI rfl rfl rfl rfl rr) (wl_v (.bool false) rfl rfl (y_mov rfl rfl rr) (wl_vw v27 3 false 29 rfl rfl rfl rfl rfl (y_mov rfl s82 rr) (wl_vw (iv ((([0, 2, 1, 4, 3] : List Int).length : Nat) : Int)) 3 false 29 rfl rfl rfl rfl rfl (y_lenRo (r := rInt) rfl rfl rfl B87.roa rr) (wl_vw (.bool false) 3 false 29 rfl rfl rfl rfl rfl (y_neqI rfl rfl rfl rfl rr) (wl_v (.bool false) rfl rfl (y_pickF rfl rfl rfl rr) (wl_nil fun F88 hF89 => ?_)))))))))
 obtain ⟨s90, s91, s92, s93, s94, s95, s96⟩ := t7 hF89 101 s79 1 s80 2 s81 3 s82 4 s83 5 s84 8 s85
 have s97 : F88 33 = .bool false := (hF89 33).trans rfl
 clear hF89
 refine then_normal ?_
 refine wq_cond (t := false) s97 (fun e => by cases e) (fun _ => ?_)
 refine wq_skip (then_normal (wq_seq (wq_region (wl_mv rfl rfl rfl s92 (wl_v (.bool true) rfl rfl (y_eqlI rfl rfl rfl (decide_eq_true hE) rr) (wl_v (.bool true) rfl rfl (y_mov rfl rfl rr) (wl_vw v4 2 true 36 rfl rfl rfl rfl rfl (y_mov rfl s91 rr) (wl_vw (bytAddr v4 (0 * 4)) 2 true 36 rfl rfl rfl rfl rfl (y_atRo (r := rSl) 0 rfl rfl rfl (by omega) B86.roa (by omega) rr) (wl_vw (.agg #[iv ((([⟨0, 0, -1, -1⟩, ⟨2, 1, 0, -1⟩, ⟨1, 2, 0, 2⟩, ⟨4, 1, 2, -1⟩, ⟨3, 2, 2, 4⟩] : List Sl).getD 0 ⟨0, 0, 0, 0⟩).d), iv ((([⟨0, 0, -1, -1⟩, ⟨2, 1, 0, -1⟩, ⟨1, 2, 0, 2⟩, ⟨4, 1, 2, -1⟩, ⟨3, 2, 2, 4⟩] : List Sl).getD 0 ⟨0, 0, 0, 0⟩).k), iv ((([⟨0, 0, -1, -1⟩, ⟨2, 1, 0, -1⟩, ⟨1, 2, 0, 2⟩, ⟨4, 1, 2, -1⟩, ⟨3, 2, 2, 4⟩] : List Sl).getD 0 ⟨0, 0, 0, 0⟩).p), iv ((([⟨0, 0, -1, -1⟩, ⟨2, 1, 0, -1⟩, ⟨1, 2, 0, 2⟩, ⟨4, 1, 2, -1⟩, ⟨3, 2, 2, 4⟩] : List Sl).getD 0 ⟨0, 0, 0, 0⟩).n)]) 2 true 36 rfl rfl rfl rfl rfl (y_ldRoP (r := rSl) (n := 4) 0 0 stcT_slot rfl rfl B86.roa (by omega) (by decide) rfl rr) (wl_vw (.agg #[iv 0, iv 0, iv (-1), iv (-1)]) 2 true 36 rfl rfl rfl rfl rfl (y_buildL (l' := [(2, iv (-1)), (3, iv (-1))]) (cells := #[iv 0, iv 0, iv (-1), iv (-1)]) rfl (bpC rfl (bpC rfl bpN)) (by kernel_rfl) rfl rr) (wl_vw (.bool true) 2 true 36 rfl rfl rfl rfl rfl (y_eqlSI (xs := [(([⟨0, 0, -1, -1⟩, ⟨2, 1, 0, -1⟩, ⟨1, 2, 0, 2⟩, ⟨4, 1, 2, -1⟩, ⟨3, 2, 2, 4⟩] : List Sl).getD 0 ⟨0, 0, 0, 0⟩).d, (([⟨0, 0, -1, -1⟩, ⟨2, 1, 0, -1⟩, ⟨1, 2, 0, 2⟩, ⟨4, 1, 2, -1⟩, ⟨3, 2, 2, 4⟩] : List Sl).getD 0 ⟨0, 0, 0, 0⟩).k, (([⟨0, 0, -1, -1⟩, ⟨2, 1, 0, -1⟩, ⟨1, 2, 0, 2⟩, ⟨4, 1, 2, -1⟩, ⟨3, 2, 2, 4⟩] : List Sl).getD 0 ⟨0, 0, 0, 0⟩).p, (([⟨0, 0, -1, -1⟩, ⟨2, 1, 0, -1⟩, ⟨1, 2, 0, 2⟩, ⟨4, 1, 2, -1⟩, ⟨3, 2, 2, 4⟩] : List Sl).getD 0 ⟨0, 0, 0, 0⟩).n]) (ys := [0, 0, -1, -1]) structI_slot rfl rfl rfl rfl rfl rfl rr) ?_)))))))))))
 refine wl_v (.bool true) rfl rfl (y_pickT rfl rfl rfl rr) (wl_v (.bool true) rfl rfl (y_mov rfl rfl rr) (wl_vw v4 9 true 43 rfl rfl rfl rfl rfl (y_mov rfl s91 rr) (wl_vw (bytAddr v4 (1 * 4)) 9 true 43 rfl rfl rfl rfl rfl (y_atRo (r := rSl) 1 rfl rfl rfl (by omega) B86.roa (by omega) rr) (wl_vw (.agg #[iv ((([⟨0, 0, -1, -1⟩, ⟨2, 1, 0, -1⟩, ⟨1, 2, 0, 2⟩, ⟨4, 1, 2, -1⟩, ⟨3, 2, 2, 4⟩] : List Sl).getD 1 ⟨0, 0, 0, 0⟩).d), iv ((([⟨0, 0, -1, -1⟩, ⟨2, 1, 0, -1⟩, ⟨1, 2, 0, 2⟩, ⟨4, 1, 2, -1⟩, ⟨3, 2, 2, 4⟩] : List Sl).getD 1 ⟨0, 0, 0, 0⟩).k), iv ((([⟨0, 0, -1, -1⟩, ⟨2, 1, 0, -1⟩, ⟨1, 2, 0, 2⟩, ⟨4, 1, 2, -1⟩, ⟨3, 2, 2, 4⟩] : List Sl).getD 1 ⟨0, 0, 0, 0⟩).p), iv ((([⟨0, 0, -1, -1⟩, ⟨2, 1, 0, -1⟩, ⟨1, 2, 0, 2⟩, ⟨4, 1, 2, -1⟩, ⟨3, 2, 2, 4⟩] : List Sl).getD 1 ⟨0, 0, 0, 0⟩).n)]) 9 true 43 rfl rfl rfl rfl rfl (y_ldRoP (r := rSl) (n := 4) 1 0 stcT_slot rfl rfl B86.roa (by omega) (by decide) rfl rr) (wl_vw (.agg #[iv 2, iv 1, iv 0, iv (-1)]) 9 true 43 rfl rfl rfl rfl rfl (y_buildL (l' := [(0, iv 2), (1, iv 1), (2, iv 0), (3, iv (-1))]) (cells := #[iv 2, iv 1, iv 0, iv (-1)]) rfl (bpC rfl (bpC rfl (bpC rfl (bpC rfl bpN)))) (by kernel_rfl) rfl rr) (wl_vw (.bool true) 9 true 43 rfl rfl rfl rfl rfl (y_eqlSI (xs := [(([⟨0, 0, -1, -1⟩, ⟨2, 1, 0, -1⟩, ⟨1, 2, 0, 2⟩, ⟨4, 1, 2, -1⟩, ⟨3, 2, 2, 4⟩] : List Sl).getD 1 ⟨0, 0, 0, 0⟩).d, (([⟨0, 0, -1, -1⟩, ⟨2, 1, 0, -1⟩, ⟨1, 2, 0, 2⟩, ⟨4, 1, 2, -1⟩, ⟨3, 2, 2, 4⟩] : List Sl).getD 1 ⟨0, 0, 0, 0⟩).k, (([⟨0, 0, -1, -1⟩, ⟨2, 1, 0, -1⟩, ⟨1, 2, 0, 2⟩, ⟨4, 1, 2, -1⟩, ⟨3, 2, 2, 4⟩] : List Sl).getD 1 ⟨0, 0, 0, 0⟩).p, (([⟨0, 0, -1, -1⟩, ⟨2, 1, 0, -1⟩, ⟨1, 2, 0, 2⟩, ⟨4, 1, 2, -1⟩, ⟨3, 2, 2, 4⟩] : List Sl).getD 1 ⟨0, 0, 0, 0⟩).n]) (ys := [2, 1, 0, -1]) structI_slot rfl rfl rfl rfl rfl rfl rr) (wl_v (.bool true) rfl rfl (y_pickT rfl rfl rfl rr) (wl_v (.bool true) rfl rfl (y_mov rfl rfl rr) (wl_vw v4 16 true 50 rfl rfl rfl rfl rfl (y_mov rfl s91 rr) (wl_vw (bytAddr v4 (2 * 4)) 16 true 50 rfl rfl rfl rfl rfl (y_atRo (r := rSl) 2 rfl rfl rfl (by omega) B86.roa (by omega) rr) (wl_vw (.agg #[iv ((([⟨0, 0, -1, -1⟩, ⟨2, 1, 0, -1⟩, ⟨1, 2, 0, 2⟩, ⟨4, 1, 2, -1⟩, ⟨3, 2, 2, 4⟩] : List Sl).getD 2 ⟨0, 0, 0, 0⟩).d), iv ((([⟨0, 0, -1, -1⟩, ⟨2, 1, 0, -1⟩, ⟨1, 2, 0, 2⟩, ⟨4, 1, 2, -1⟩, ⟨3, 2, 2, 4⟩] : List Sl).getD 2 ⟨0, 0, 0, 0⟩).k), iv ((([⟨0, 0, -1, -1⟩, ⟨2, 1, 0, -1⟩, ⟨1, 2, 0, 2⟩, ⟨4, 1, 2, -1⟩, ⟨3, 2, 2, 4⟩] : List Sl).getD 2 ⟨0, 0, 0, 0⟩).p), iv ((([⟨0, 0, -1, -1⟩, ⟨2, 1, 0, -1⟩, ⟨1, 2, 0, 2⟩, ⟨4, 1, 2, -1⟩, ⟨3, 2, 2, 4⟩] : List Sl).getD 2 ⟨0, 0, 0, 0⟩).n)]) 16 true 50 rfl rfl rfl rfl rfl (y_ldRoP (r := rSl) (n := 4) 2 0 stcT_slot rfl rfl B86.roa (by omega) (by decide) rfl rr) ?_)))))))))))
 refine wl_vw (.agg #[iv 1, iv 2, iv 0, iv 2]) 16 true 50 rfl rfl rfl rfl rfl (y_buildL (l' := [(0, iv 1), (1, iv 2), (2, iv 0), (3, iv 2)]) (cells := #[iv 1, iv 2, iv 0, iv 2]) rfl (bpC rfl (bpC rfl (bpC rfl (bpC rfl bpN)))) (by kernel_rfl) rfl rr) (wl_vw (.bool true) 16 true 50 rfl rfl rfl rfl rfl (y_eqlSI (xs := [(([⟨0, 0, -1, -1⟩, ⟨2, 1, 0, -1⟩, ⟨1, 2, 0, 2⟩, ⟨4, 1, 2, -1⟩, ⟨3, 2, 2, 4⟩] : List Sl).getD 2 ⟨0, 0, 0, 0⟩).d, (([⟨0, 0, -1, -1⟩, ⟨2, 1, 0, -1⟩, ⟨1, 2, 0, 2⟩, ⟨4, 1, 2, -1⟩, ⟨3, 2, 2, 4⟩] : List Sl).getD 2 ⟨0, 0, 0, 0⟩).k, (([⟨0, 0, -1, -1⟩, ⟨2, 1, 0, -1⟩, ⟨1, 2, 0, 2⟩, ⟨4, 1, 2, -1⟩, ⟨3, 2, 2, 4⟩] : List Sl).getD 2 ⟨0, 0, 0, 0⟩).p, (([⟨0, 0, -1, -1⟩, ⟨2, 1, 0, -1⟩, ⟨1, 2, 0, 2⟩, ⟨4, 1, 2, -1⟩, ⟨3, 2, 2, 4⟩] : List Sl).getD 2 ⟨0, 0, 0, 0⟩).n]) (ys := [1, 2, 0, 2]) structI_slot rfl rfl rfl rfl rfl rfl rr) (wl_v (.bool true) rfl rfl (y_pickT rfl rfl rfl rr) (wl_v (.bool true) rfl rfl (y_mov rfl rfl rr) (wl_vw v4 23 true 57 rfl rfl rfl rfl rfl (y_mov rfl s91 rr) (wl_vw (bytAddr v4 (4 * 4)) 23 true 57 rfl rfl rfl rfl rfl (y_atRo (r := rSl) 4 rfl rfl rfl (by omega) B86.roa (by omega) rr) (wl_vw (bytAddr v4 (4 * 4)) 23 true 57 rfl rfl rfl rfl rfl (y_fieldRo (j := 4) (n := 1) rfl rfl B86.roa (by omega) Try.underlying38 rfl (by kernel_rfl) (by decide) rfl rr) (wl_vw (iv ((([⟨0, 0, -1, -1⟩, ⟨2, 1, 0, -1⟩, ⟨1, 2, 0, 2⟩, ⟨4, 1, 2, -1⟩, ⟨3, 2, 2, 4⟩] : List Sl).getD 4 ⟨0, 0, 0, 0⟩).d)) 23 true 57 rfl rfl rfl rfl rfl (y_ldRo (r := rSl) 4 0 rfl rfl B86.roa (by omega) (by decide) rfl Try.underlying3 rfl rr) (wl_vw (.bool true) 23 true 57 rfl rfl rfl rfl rfl (y_eqlI rfl rfl rfl rfl rr) (wl_v (.bool true) rfl rfl (y_pickT rfl rfl rfl rr) (wl_v (.bool true) rfl rfl (y_mov rfl rfl rr) (wl_vw v27 30 true 64 rfl rfl rfl rfl rfl (y_mov rfl s93 rr) ?_)))))))))))
 refine wl_vw (bytAddr v27 (1 * 1)) 30 true 64 rfl rfl rfl rfl rfl (y_atRo (r := rInt) 1 rfl rfl rfl (by omega) B87.roa (by omega) rr) (wl_vw (iv (([0, 2, 1, 4, 3] : List Int).getD 1 0)) 30 true 64 rfl rfl rfl rfl rfl (y_ldRo (r := rInt) 1 0 rfl rfl B87.roa (by omega) (by decide) rfl Try.underlying3 rfl rr) (wl_vw (.bool true) 30 true 64 rfl rfl rfl rfl rfl (y_eqlI rfl rfl rfl rfl rr) (wl_v (.bool true) rfl rfl (y_pickT rfl rfl rfl rr) (wl_v (.bool true) rfl rfl (y_mov rfl rfl rr) (wl_vw v27 36 true 70 rfl rfl rfl rfl rfl (y_mov rfl s93 rr) (wl_vw (bytAddr v27 (4 * 1)) 36 true 70 rfl rfl rfl rfl rfl (y_atRo (r := rInt) 4 rfl rfl rfl (by omega) B87.roa (by omega) rr) (wl_vw (iv (([0, 2, 1, 4, 3] : List Int).getD 4 0)) 36 true 70 rfl rfl rfl rfl rfl (y_ldRo (r := rInt) 4 0 rfl rfl B87.roa (by omega) (by decide) rfl Try.underlying3 rfl rr) (wl_vw (.bool true) 36 true 70 rfl rfl rfl rfl rfl (y_eqlI rfl rfl rfl rfl rr) (wl_v (.bool true) rfl rfl (y_pickT rfl rfl rfl rr) (wl_v (.bool true) rfl rfl (y_mov rfl rfl rr) (wl_vw (iv (shN ([0, 2, 1, 4, 3]))) 42 true 76 rfl rfl rfl rfl rfl (y_mov rfl s94 rr) ?_)))))))))))
 refine wl_vw (.bool true) 42 true 76 rfl rfl rfl rfl rfl (y_eqlI rfl rfl rfl (decide_eq_true hN) rr) (wl_v (.bool true) rfl rfl (y_pickT rfl rfl rfl rr) (wl_v (.bool true) rfl rfl (y_mov rfl rfl rr) (wl_vw (iv (shE ([0, 2, 1, 4, 3]))) 46 true 80 rfl rfl rfl rfl rfl (y_mov rfl s95 rr) (wl_vw (.bool true) 46 true 80 rfl rfl rfl rfl rfl (y_eqlI rfl rfl rfl (decide_eq_true hF) rr) (wl_v (.bool true) rfl rfl (y_pickT rfl rfl rfl rr) (wl_v (.bool true) rfl rfl (y_mov rfl rfl rr) (wl_vw (iv (shE ([0, 0]))) 50 true 84 rfl rfl rfl rfl rfl (y_mov rfl s96 rr) (wl_vw (.bool true) 50 true 84 rfl rfl rfl rfl rfl (y_eqlI rfl rfl rfl (decide_eq_true hG) rr) (wl_v (.bool true) rfl rfl (y_pickT rfl rfl rfl rr) (wl_v (.bool true) rfl rfl (y_mov rfl rfl rr) (wl_vw (.agg #[iv 0, iv 0, iv 0]) 54 true 88 rfl rfl rfl rfl rfl (y_buildL (l' := []) (cells := #[iv 0, iv 0, iv 0]) rfl bpN (by kernel_rfl) rfl rr) ?_)))))))))))
 refine wl_callw (R := fun v_ w_ => v_ = iv (planE 0 0 0) ∧ Kept (fun _ => False) w62 w_) 54 true 88 rfl rfl rfl rfl rfl (y_cs rfl rfl rfl (fun _ _ => by kernel_rfl) (ev_func _) (vsC rfl vsN) (od_check 0 0 0  _   ) (fun e_ w_ h_ => ⟨_, h_.1, rfl, h_.2⟩)) ?_
 rintro _ w98 ⟨rfl, k99⟩
 have K105 := K71.tr k99
 refine wl_vw (.bool true) 54 true 88 rfl rfl rfl rfl rfl (y_eqlI rfl rfl rfl (decide_eq_true hP) rr) (wl_v (.bool true) rfl rfl (y_pickT rfl rfl rfl rr) (wl_v (.bool true) rfl rfl (y_mov rfl rfl rr) (wl_v (.bool true) rfl rfl (y_pickT rfl rfl rfl rr) (wl_v (.bool true) rfl rfl (y_mov rfl rfl rr) (wl_v (.bool true) rfl rfl (y_pickT rfl rfl rfl rr) (wl_v (.bool true) rfl rfl (y_mov rfl rfl rr) (wl_v (.bool true) rfl rfl (y_pickT rfl rfl rfl rr) (wl_v (.bool true) rfl rfl (y_mov rfl rfl rr) (wl_v (.bool true) rfl rfl (y_pickT rfl rfl rfl rr) (wl_v (.bool true) rfl rfl (y_asg rfl rfl rr) (wl_nil fun F106 hF107 => ?_)))))))))))
 have s108 := (hF107 101).trans s90
 have s109 : F106 0 = .bool true := (hF107 0).trans rfl
 clear hF107
 refine then_normal (wq_ret ?_)
 exact end_tmp (v := .bool true) s108 rfl rfl s109 ⟨rfl, K105⟩
end Go.Proofs.Ythoafgfcoclkbaa
set_option maxRecDepth 100000
namespace Go.Proofs.Ythoafgfcoclkbaa
open Go.RowKit
def Runs (C : List Sl → Sl → Prop) : List Sl → List Sl → Prop
  | _, [] => True
  | o, s :: r => C o s ∧ Runs C (o ++ [s]) r
theorem Runs.at {C : List Sl → Sl → Prop} : ∀ {L o : List Sl}, Runs C o L → ∀ i, i < L.length → C (o ++ L.take i) (L.getD i ⟨0, 0, 0, 0⟩)
  | [], _, _, i, hi => absurd hi (Nat.not_lt_zero i)
  | s :: L, o, h, 0, _ => by rw [List.take_zero, List.append_nil]; exact h.1
  | s :: L, o, h, i + 1, hi => by
    have := Runs.at h.2 i (by simpa using hi)
    rw [List.append_assoc] at this
    exact this
theorem md {g q d : Nat} (h1 : q * g ≤ d) (h2 : d < q * g + g) : ((d : Nat) : Int) % (g : Int) = ((d - q * g : Nat) : Int) := by
  have h3 : d % g = d - q * g := by
    have h4 : d / g = q := Nat.div_eq_of_lt_le h1 (by rw [Nat.succ_mul]; exact h2)
    have h5 := Nat.div_add_mod d g
    rw [h4, Nat.mul_comm] at h5
    omega
  rw [← h3]; exact (Int.natCast_emod d g).symm
theorem sh_of_inj {P : List Int} (h1 : 1 ≤ P.length ∧ P.length ≤ 200) (h2 : ∀ i, i < P.length → 0 ≤ P.getD i 0 ∧ P.getD i 0 < (P.length : Int)) (h3 : ∀ i j, i < P.length → j < P.length → P.getD i 0 = P.getD j 0 → i = j) : shOk P := by
  have key : ∀ m, m ≤ P.length → ∀ i, i < m → shG P i := by
    intro m
    induction m with
    | zero => intro _ i hi; exact absurd hi (Nat.not_lt_zero i)
    | succ m ih =>
      intro hm i hi
      have ihm := ih (by omega)
      by_cases e : i = m
      · subst e
        have hb := h2 i (by omega)
        refine ⟨hb.1, hb.2, ?_⟩
        rcases Int.lt_or_le ((shA P i).getD (P.getD i 0).toNat 0) 0 with h | h
        · exact h
        · obtain ⟨j, hj, ej⟩ := shA_in ihm _ (by omega) h
          have := h3 j i (by omega) (by omega) (by omega)
          omega
      · exact ihm i (by omega)
  exact ⟨h1.1, h1.2, key _ (Nat.le_refl _)⟩
theorem sh_back {l : List Int} (h : shOk l) {i : Nat} (hi : i < l.length) : ∃ j : Nat, j < l.length ∧ (shA l l.length).getD i 0 = (j : Int) ∧ l.getD j 0 = (i : Int) := by
  have hf := shA_full h.2.2
  have hl := shA_len l l.length
  have h0 : 0 ≤ (shA l l.length).getD i 0 := by
    rw [List.getD_eq_getElem?_getD, List.getElem?_eq_getElem (by rw [hl]; exact hi)]
    exact hf _ (List.getElem_mem _)
  obtain ⟨j, hj, e⟩ := shA_in h.2.2 i hi h0
  have := shA_got h.2.2 j hj
  rw [e, Int.toNat_natCast] at this
  exact ⟨j, hj, this, e⟩
theorem sh_inv {l : List Int} (h : shOk l) : shOk (shA l l.length) ∧ shA (shA l l.length) (shA l l.length).length = l := by
  have hl := shA_len l l.length
  have ho : shOk (shA l l.length) := by
    refine sh_of_inj (by rw [hl]; exact ⟨h.1, h.2.1⟩) (fun i hi => ?_) (fun i j hi hj e => ?_)
    · rw [hl] at hi ⊢
      obtain ⟨j, hj, e, _⟩ := sh_back h hi
      rw [e]; omega
    · rw [hl] at hi hj
      obtain ⟨a, ha, e1, e2⟩ := sh_back h hi
      obtain ⟨c, hc, e3, e4⟩ := sh_back h hj
      have : a = c := by omega
      subst this
      omega
  refine ⟨ho, eq_of_getD 0 (by rw [shA_len, hl]) fun v hv => ?_⟩
  rw [shA_len, hl] at hv
  have hb := h.2.2 v hv
  have hg := shA_got h.2.2 v hv
  have hlt : (l.getD v 0).toNat < (shA l l.length).length := by rw [hl]; have := hb.1; have := hb.2.1; omega
  have h2 := shA_got ho.2.2 _ hlt
  rw [hg, Int.toNat_natCast] at h2
  rw [h2]; have := hb.1; omega
theorem sh_pos {l : List Int} : ∀ {m : Nat}, 1 ≤ m → 1 ≤ shM l m
  | 0, h => absurd h (by decide)
  | 1, _ => by show (1 : Int) ≤ max 0 ((0 : Nat) + 1 - ((0 : Nat) : Int)); omega
  | m + 2, _ => by
    have := sh_pos (l := l) (m := m + 1) (by omega)
    rw [shM]; omega
end Go.Proofs.Ythoafgfcoclkbaa
set_option maxRecDepth 100000
namespace Go.Proofs.Ythoafgfcoclkbaa
open Go.RowKit
theorem odback_walk (v : Value) (l : List Int) (T_l : Nat → Prop) (w0 : World) (h_l : RoA rInt w0 T_l v (l)) :
  Calls Try.prog 7 #[v] w0 fun e w' => e = .returned (.bool true) ∧ Kept (fun _ => False) w0 w' := by
 refine calls_wq (args := [v]) 57 Try.func7 rfl rfl (Nat.le_of_ble_eq_true rfl) ?_
 have K0 := Kept.refl (fun _ => False) w0
 have g_l := Grew.refl w0 T_l
 refine wq_seq (wq_region (wl_v (.bool false) rfl rfl (y_asg rfl rfl rr) (wl_nil fun F1 hF2 => ?_)))
 have s3 : F1 0 = v := (hF2 0).trans rfl
 have s4 : F1 57 = undef := (hF2 57).trans rfl
 clear hF2
 refine then_normal (wq_seq (wq_region (wl_cs rfl rfl rfl rfl rfl (fun _ _ => by kernel_rfl) vsN (odawake_any   _   ) fun w5 k6 => ?_)))
 have B7 := h_l.all k6 Apart.none
 have K8 := K0.tr k6
 refine wl_v (.bool true) rfl rfl (y_asg rfl rfl rr) (wl_nil fun F9 hF10 => ?_)
 obtain ⟨s11, s12⟩ := t2 hF10 0 s3 57 s4
 have s13 : F9 3 = .bool true := (hF10 3).trans rfl
 clear hF10
 refine then_normal (wq_seq (wq_region (wl_mv rfl rfl rfl s11 (wl_call (R := fun v_ w_ => ∃ (v14 : Value) (T17 : Nat → Prop), .tuple #[v14, iv (shN l), iv (shE l)] = v_ ∧ Kept (fun _ => False) w5 w_ ∧ (RoO rInt w_ T17 v14 (shL l) ∧ Grew w5 noB T17)) rfl rfl (y_cs rfl rfl rfl (fun _ _ => by kernel_rfl) (ev_func _) (vsC rfl vsN) (od_show v l T_l _  B7 ) (fun e_ w_ h_ => by obtain ⟨v14_, T17_, he_, hr_⟩ := h_; exact ⟨_, he_, v14_, T17_, rfl, hr_⟩)) ?_))))
 rintro _ w15 ⟨v14, T17, rfl, k16, ⟨B18, g19⟩⟩
 have B20 := B7.all k16 Apart.none
 have K21 := K8.tr k16
 refine wl_v (.tuple #[v14, iv (shN l), iv (shE l)]) rfl rfl (y_mov rfl rfl rr) (wl_v v14 rfl rfl (y_ext rfl rfl rfl rr) (wl_v (iv (shN l)) rfl rfl (y_ext rfl rfl rfl rr) (wl_v (iv (shE l)) rfl rfl (y_ext rfl rfl rfl rr) (wl_v v14 rfl rfl (y_asg rfl rfl rr) (wl_v (iv (shN l)) rfl rfl (y_asg rfl rfl rr) (wl_v (iv (shE l)) rfl rfl (y_asg rfl rfl rr) (wl_nil fun F24 hF25 => ?_)))))))
 obtain ⟨s26, s27, s28⟩ := t3 hF25 0 s11 57 s12 3 s13
 have s29 : F24 4 = v14 := (hF25 4).trans rfl
 have s30 : F24 5 = iv (shN l) := (hF25 5).trans rfl
 have s31 : F24 6 = iv (shE l) := (hF25 6).trans rfl
 clear hF25
 refine then_normal (wq_seq (wq_seq (wq_region (wl_mv rfl rfl rfl s31 (wl_v (.bool (decide ((shE l) ≠ 0))) rfl rfl (y_neqI rfl rfl rfl rfl rr) (wl_nil fun F32 hF33 => ?_))))))
 obtain ⟨s34, s35, s36, s37, s38⟩ := t5 hF33 0 s26 57 s27 3 s28 4 s29 5 s30
 have s39 : F32 19 = .bool (decide ((shE l) ≠ 0)) := (hF33 19).trans rfl
 clear hF33
 refine then_normal ?_
 refine wq_cond s39 (fun c40 => ?_) (fun c40 => ?_)
 ·replace c40 := of_decide_eq_true c40
  refine wq_seq ?_
  have hno : ¬ shOk l := fun z => by have z1 := shE_yes z; omega
  have hln : (shL l).length = 0 := by rw [shL_no hno]; rfl
  have hN0 := shN_no hno
  refine wq_region (wl_mv rfl rfl rfl s36 (wl_v (.bool true) rfl rfl (y_mov rfl rfl rr) (wl_vw v14 1 true 21 rfl rfl rfl rfl rfl (y_mov rfl s37 rr) (wl_vw (iv (((shL l).length : Nat) : Int)) 1 true 21 rfl rfl rfl rfl rfl (y_lenRo (r := rInt) rfl rfl rfl B18.roa rr) (wl_vw (.bool true) 1 true 21 rfl rfl rfl rfl rfl (y_eqlI rfl rfl rfl (decide_eq_true (by omega)) rr) (wl_v (.bool true) rfl rfl (y_pickT rfl rfl rfl rr) (wl_v (.bool true) rfl rfl (y_mov rfl rfl rr) (wl_vw (iv (shN l)) 6 true 26 rfl rfl rfl rfl rfl (y_mov rfl s38 rr) (wl_vw (.bool true) 6 true 26 rfl rfl rfl rfl rfl (y_eqlI rfl rfl rfl (decide_eq_true hN0) rr) (wl_v (.bool true) rfl rfl (y_pickT rfl rfl rfl rr) (wl_v (.bool true) rfl rfl (y_asg rfl rfl rr) ?_)))))))))))
  refine wl_nil fun F41 hF42 => ?_
  have s43 := (hF42 57).trans s35
  have s44 : F41 2 = .bool true := (hF42 2).trans rfl
  clear hF42
  refine then_normal (wq_ret (then_ret ?_))
  exact end_tmp (v := .bool true) s43 rfl rfl s44 ⟨rfl, K21⟩
 ·replace c40 := of_decide_eq_false c40
  refine wq_skip (then_normal (wq_seq ?_))
  have hok : shOk l := by by_cases z : shOk l; (exact z); (have z1 := shE_no z; omega)
  have hin := sh_inv hok
  have hL := shL_yes hok
  have hok2 : shOk (shL l) := by rw [hL]; exact hin.1
  have hLL : shL (shL l) = l := by rw [shL_yes hok2, hL]; exact hin.2
  have hE2 := shE_yes hok2
  have hN1 : 1 ≤ shN l ∧ shN l ≤ (l.length : Int) := by rw [shN_yes hok]; exact ⟨sh_pos hok.1, (shM_in l l.length (Nat.le_refl _)).2⟩
  refine wq_region (wl_mv rfl rfl rfl s37 (wl_call (R := fun v_ w_ => ∃ (v45 : Value) (T48 : Nat → Prop), .tuple #[v45, iv (shN (shL l)), iv (shE (shL l))] = v_ ∧ Kept (fun _ => False) w15 w_ ∧ (RoO rInt w_ T48 v45 (shL (shL l)) ∧ Grew w15 noB T48)) rfl rfl (y_cs rfl rfl rfl (fun _ _ => by kernel_rfl) (ev_func _) (vsC rfl vsN) (od_show v14 (shL l) T17 _  B18.roa ) (fun e_ w_ h_ => by obtain ⟨v45_, T48_, he_, hr_⟩ := h_; exact ⟨_, he_, v45_, T48_, rfl, hr_⟩)) ?_))
  rintro _ w46 ⟨v45, T48, rfl, k47, ⟨B49, g50⟩⟩
  have B51 := B20.all k47 Apart.none
  have K53 := K21.tr k47
  refine wl_v (.tuple #[v45, iv (shN (shL l)), iv (shE (shL l))]) rfl rfl (y_mov rfl rfl rr) (wl_v v45 rfl rfl (y_ext rfl rfl rfl rr) (wl_v (iv (shN (shL l))) rfl rfl (y_ext rfl rfl rfl rr) (wl_v (iv (shE (shL l))) rfl rfl (y_ext rfl rfl rfl rr) (wl_v v45 rfl rfl (y_asg rfl rfl rr) (wl_v (iv (shN (shL l))) rfl rfl (y_asg rfl rfl rr) (wl_v (iv (shE (shL l))) rfl rfl (y_asg rfl rfl rr) (wl_nil fun F57 hF58 => ?_)))))))
  obtain ⟨s59, s60, s61, s62⟩ := t4 hF58 0 s34 57 s35 3 s36 5 s38
  have s63 : F57 7 = v45 := (hF58 7).trans rfl
  have s64 : F57 9 = iv (shE (shL l)) := (hF58 9).trans rfl
  clear hF58
  refine then_normal (wq_seq (wq_region (wl_mv rfl rfl rfl s63 (wl_mv rfl rfl rfl s59 (wl_call (R := fun v_ w_ => v_ = .bool true ∧ Kept (fun _ => False) w46 w_) rfl rfl (y_cs rfl rfl rfl (fun _ _ => by kernel_rfl) (ev_func _) (vsC rfl (vsC rfl vsN)) (oref_numbers v45 (shL (shL l)) v l T48 T_l _  B49.roa B51 ) (fun e_ w_ h_ => ⟨_, h_.1, congrArg Value.bool (by rw [hLL]; exact numS_self _), h_.2⟩)) ?_)))))
  rintro _ w65 ⟨rfl, k66⟩
  have B67 := B51.all k66 Apart.none
  have K70 := K53.tr k66
  refine wl_v (.bool true) rfl rfl (y_asg rfl rfl rr) (wl_nil fun F71 hF72 => ?_)
  obtain ⟨s73, s74, s75, s76, s77⟩ := t5 hF72 0 s59 57 s60 3 s61 5 s62 9 s64
  have s78 : F71 10 = .bool true := (hF72 10).trans rfl
  clear hF72
  refine then_normal (wq_seq (wq_region (wl_mv rfl rfl rfl s75 (wl_v (.bool true) rfl rfl (y_mov rfl rfl rr) (wl_vw (iv (shE (shL l))) 1 true 40 rfl rfl rfl rfl rfl (y_mov rfl s77 rr) (wl_vw (.bool true) 1 true 40 rfl rfl rfl rfl rfl (y_eqlI rfl rfl rfl (decide_eq_true hE2) rr) (wl_v (.bool true) rfl rfl (y_pickT rfl rfl rfl rr) (wl_v (.bool true) rfl rfl (y_mov rfl rfl rr) (wl_vw (.bool true) 5 true 44 rfl rfl rfl rfl rfl (y_mov rfl s78 rr) (wl_v (.bool true) rfl rfl (y_pickT rfl rfl rfl rr) (wl_v (.bool true) rfl rfl (y_mov rfl rfl rr) ?_)))))))))))
  refine wl_vw (iv (shN l)) 8 true 47 rfl rfl rfl rfl rfl (y_mov rfl s76 rr) (wl_vw (.bool true) 8 true 47 rfl rfl rfl rfl rfl (y_geq rfl rfl rfl (decide_eq_true (by omega)) rr) (wl_v (.bool true) rfl rfl (y_pickT rfl rfl rfl rr) (wl_v (.bool true) rfl rfl (y_mov rfl rfl rr) (wl_vw (iv (shN l)) 12 true 51 rfl rfl rfl rfl rfl (y_mov rfl s76 rr) (wl_vw v 12 true 51 rfl rfl rfl rfl rfl (y_mov rfl s73 rr) (wl_vw (iv ((l.length : Nat) : Int)) 12 true 51 rfl rfl rfl rfl rfl (y_lenRo (r := rInt) rfl rfl rfl B67 rr) (wl_vw (.bool true) 12 true 51 rfl rfl rfl rfl rfl (y_leq rfl rfl rfl (decide_eq_true (by omega)) rr) (wl_v (.bool true) rfl rfl (y_pickT rfl rfl rfl rr) (wl_v (.bool true) rfl rfl (y_asg rfl rfl rr) (wl_nil fun F79 hF80 => ?_))))))))))
  have s81 := (hF80 57).trans s74
  have s82 : F79 2 = .bool true := (hF80 2).trans rfl
  clear hF80
  refine then_normal (wq_ret ?_)
  exact end_tmp (v := .bool true) s81 rfl rfl s82 ⟨rfl, K70⟩
end Go.Proofs.Ythoafgfcoclkbaa
set_option maxRecDepth 100000
namespace Go.Proofs.Ythoafgfcoclkbaa
open Go.ChangeShapes Go.WideShapes Go.ChangeAt Go.RowKit Go.Deep
section
variable {H : Type} {enc : TypeId × Value → H} {w : World} {base : Nat} {spare : Nat → Bool} {held : Bool}
theorem rows_open {α : Type} (r : RowT α) [hk : r.Ok] (P : α → Prop) (hce : Try.prog.cellsOf r.e = r.k)
    (hel : ∀ fuel cs y, DataW.trod enc Try.prog w base spare held fuel r.e cs = some y → ∃ u, cs = r.enc u ∧ P u)
    {fuel : Nat} {v : Value} {x : DataW H × List MemPlace} (h : DataW.trod enc Try.prog w base spare held fuel r.t [v] = some x) :
    ∃ (T : Nat → Prop) (l : List α), RoA r w T v l ∧ ∀ i, i < l.length → P (l.getD i r.d) := by
  rcases open_slice hk.slice h with ⟨hcs, _⟩ | ⟨a, len, cap, m, n, D, Pl, hcs, hb, hl, hm, hmm, hx, hi⟩
  · simp at hcs
    subst hcs
    exact ⟨noB, [], RoA.nil r w, fun i h => absurd h (by simp)⟩
  · simp at hcs
    subst hcs
    rw [hce] at hi
    have hle : len ≤ m := by rw [hmm]; split <;> omega
    have hq : ∀ i, i < len → ∃ u : α, P u ∧ ∀ j, j < r.k → w.cell? ((a.add (i * r.k)).add j) = (r.enc u)[j]? := by
      intro i hil
      obtain ⟨cs', hc, ht⟩ := hi i (by omega)
      obtain ⟨_, hlen, hat⟩ := World.cells?_some hc
      obtain ⟨u, rfl, hp⟩ := hel _ _ _ ht
      exact ⟨u, hp, fun j hj => hat j hj⟩
    have hc : ∃ f : Nat → α, ∀ i, i < len → P (f i) ∧ ∀ j, j < r.k → w.cell? ((a.add (i * r.k)).add j) = (r.enc (f i))[j]? :=
      ⟨fun i => if h : i < len then Classical.choose (hq i h) else r.d, fun i h => by simp only [dif_pos h]; exact Classical.choose_spec (hq i h)⟩
    obtain ⟨f, hf⟩ := hc
    have hgd : ∀ i, i < len → ((List.range len).map f).getD i r.d = f i := fun i hil => by simp [List.getD, hil]
    by_cases hpos : 0 < len
    · obtain ⟨b, off, spot⟩ := a
      have h0 : w.cell? (((⟨b, off, spot⟩ : Addr).add (0 * r.k)).add 0) = some ((r.enc (f 0))[0]'(by rw [hk.len]; exact hk.pos)) := by
        rw [(hf 0 hpos).2 0 hk.pos]; exact List.getElem?_eq_getElem _
      have hs := World.cell?_spot h0
      have hspot : spot = none := by simpa [Addr.add] using hs
      subst hspot
      have hlt : b < w.heap.size := by
        rw [Addr.add_lit, Addr.add_lit] at h0
        exact World.block_lt_of_cell? w _ h0
      refine ⟨onB b, (List.range len).map f, ⟨some ⟨b, off, none⟩, cap, by simp, by simpa using hl, hm, (fun e => by cases e), onB_live hlt, fun _ => ⟨b, off, rfl, rfl, fun j u hj => ?_⟩⟩, fun i hi2 => ?_⟩
      · have hjl : j < ((List.range len).map f).length * r.k := by
          rw [← flat_len (r := r)]
          exact (List.getElem?_eq_some_iff.1 hj).1
        have hjl' : j < len * r.k := by simpa using hjl
        have hi2 : j / r.k < len := Nat.div_lt_of_lt_mul (by rw [Nat.mul_comm]; exact hjl')
        have hm2 : j % r.k < r.k := Nat.mod_lt _ hk.pos
        have e := flat_at (r := r) ((List.range len).map f) (j / r.k) (j % r.k) (by simpa using hi2) hm2
        have hd : j / r.k * r.k + j % r.k = j := by rw [Nat.mul_comm]; exact Nat.div_add_mod j r.k
        rw [hd, hj, hgd _ hi2] at e
        have hcell := (hf _ hi2).2 _ hm2
        rw [Addr.add_lit, Addr.add_lit, show off + j / r.k * r.k + j % r.k = off + j by omega] at hcell
        rw [hcell, ← e]
      · have hil : i < len := by simpa using hi2
        rw [hgd i hil]; exact (hf i hil).1
    · have h0 : len = 0 := by omega
      subst h0
      exact ⟨noB, [], ⟨some a, cap, rfl, Nat.zero_le _, hm, (fun e => by cases e), (fun _ h => h.elim), fun h => absurd h (by simp)⟩, fun i h => absurd h (by simp)⟩
end
end Go.Proofs.Ythoafgfcoclkbaa
set_option maxRecDepth 100000
namespace Go.Proofs.Ythoafgfcoclkbaa
open Go.ChangeShapes Go.WideShapes Go.ChangeAt Go.RowKit Go.Deep Go.Joins
section
variable {H : Type} {enc : TypeId × Value → H} {w : World} {base : Nat} {spare : Nat → Bool} {held : Bool}
theorem Try.cellsIntN : Try.prog.cellsOf 3 = 1 := by kernel_rfl
theorem nums_open {fuel : Nat} {v : Value} {x : DataW H × List MemPlace} (h : DataW.trod enc Try.prog w base spare held fuel 24 [v] = some x) :
    ∃ (T : Nat → Prop) (l : List Int), RoA rInt w T v l := by
  obtain ⟨T, l, hl, _⟩ := rows_open rInt (fun _ => True) Try.cellsIntN (fun fuel cs y hy => by
    obtain ⟨X, hX, _, _⟩ := DataW.trod_int Try.underlying3 hy
    exact ⟨X, hX, trivial⟩) h
  exact ⟨T, l, hl⟩
end
end Go.Proofs.Ythoafgfcoclkbaa
