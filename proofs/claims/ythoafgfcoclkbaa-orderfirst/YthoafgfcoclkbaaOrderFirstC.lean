/- What OrderFirst reaches of my texts, part 3. -/
import Derived.Test.YthoafgfcoclkbaaOrderFirstB
set_option maxRecDepth 100000
set_option maxHeartbeats 4000000
set_option maxRecDepth 100000
namespace Go.Proofs.Ythoafgfcoclkbaa
open Go.RowKit
theorem cut_at {N : Nat} {F : Nat → Value} {t : Nat} {v : Value} (h : Nat.blt t N = true) (hv : F t = v) : ev (cutF N F) (.tmp t) = v := by
  show cutF N F t = v
  unfold cutF; rw [h]; exact hv
theorem put_same {F : Nat → Value} {d : Option Tmp} {t : Nat} {v : Value} (h : d = some t) : putF F d v t = v := by rw [h]; show up F t v t = v; simp [up, Nat.beq_refl]
theorem put_other {F : Nat → Value} {d : Option Tmp} {t s : Nat} {v : Value} (h : d = some t) (hne : s ≠ t) : putF F d v s = F s := by
  rw [h]; show up F t v s = F s
  unfold up
  have : Nat.beq s t = false := by
    cases hb : Nat.beq s t
    · rfl
    · exact absurd (Nat.eq_of_beq_eq_true hb) hne
  rw [this]; rfl
theorem kept_but {T : Nat → Prop} {Y : Nat} {w W : World} {t : TypeId} {v : Value} (k : Kept (fun i => T i ∨ i = Y) w W) (h1 : Cel w Y t v) (h2 : Cel W Y t v) : Kept T w W := ⟨k.os, k.tape, k.output, k.size, fun i hi hn => by
  by_cases e : i = Y
  · subst e; exact (show W.heap[i]? = _ from h2).trans (show w.heap[i]? = _ from h1).symm
  · exact k.block i hi (fun h => h.elim hn e)⟩
def WithC {α : Type} (Y : Nat) (t : TypeId) (v : Value) (o : List α) (J : List α → (Nat → Prop) → World → Prop) (pre : List α) (T : Nat → Prop) (W : World) : Prop := ∃ Ti : Nat → Prop, (∀ i, T i ↔ (Ti i ∨ i = Y)) ∧ ¬ Ti Y ∧ Cel W Y t v ∧ J (o ++ pre) Ti W
theorem WithC.stj {α : Type} {Y : Nat} {t : TypeId} {v : Value} {o : List α} {J : List α → (Nat → Prop) → World → Prop} (h : StJ J) : StJ (WithC Y t v o J) := by
  refine ⟨?_, ?_⟩
  · rintro pre T S w w' ⟨Ti, hT, h0, hc, hj⟩ k ha
    exact ⟨Ti, hT, h0, hc.all k (ha Y ((hT Y).2 (.inr rfl))), h.st _ _ _ _ _ hj k (fun i hi => ha i ((hT i).2 (.inl hi)))⟩
  · rintro pre T w ⟨Ti, hT, _, hc, hj⟩ i hi
    rcases (hT i).1 hi with h1 | rfl
    · exact h.li _ _ _ hj i h1
    · exact hc.lt
theorem wq_fwd {α : Type} {P : Program} {N : Nat} {Q : Exit → (Nat → Value) → World → Prop} {F : Nat → Value} {w : World} {gs q z y t1 t2 t3 t4 : Tmp} {ra rb id n : Nat} {o1 o2 o3 o4 o5 o6 : Oper} {TY tf tb : TypeId} {d : TypeDesc} {c : Call} {us : α → List Value} {zs : List Value} {v : Value} {xs o all : List α} {Tg TJ : Nat → Prop} {J Jx : List α → (Nat → Prop) → World → Prop} {l Y : Nat}
    (hT : ∀ x, StcT P TY (us x).length) (hus : ∀ x, OneAll (us x)) (hz0 : (P.info? TY).map (fun i => (i.zero, i.size)) = some (some (.agg zs.toArray), n)) (hzl : ∀ x, zs.length = (us x).length)
    (h1 : o1.op = .alloc TY ∧ o1.dst = some z ∧ o1.guard = none) (h2 : o2.op = .store TY (.tmp z) (.tmp q) ∧ o2.dst = none ∧ o2.guard = none)
    (h3 : o3.op = .load tf (.tmp y) ∧ o3.dst = some t1 ∧ o3.guard = none) (h4 : o4.op = .load TY (.tmp z) ∧ o4.dst = some t2 ∧ o4.guard = none)
    (h5 : o5.op = .call c ∧ o5.dst = some t3 ∧ o5.guard = none) (hc : c.callee = .value (.tmp t1) ∧ c.args = #[.tmp t2]) (h6 : o6.op = .unOp .not tb (.tmp t3) ∧ o6.dst = some t4 ∧ o6.guard = none)
    (hb : [q, z, y, t1, t2, t3, t4].all (fun t => Nat.blt t N) = true) (hd : [q, z, y, t1, t2, t3, t4].Nodup)
    (hu : P.underlying tf = some d) (hpd : plainD d = true)
    (hv : ev (cutF N F) (.tmp gs) = v) (hs : Sqt P (fun x => .agg (us x).toArray) w Tg v xs) (hy : F y = .pointer (some ⟨Y, 0, none⟩)) (hcY : Cel w Y tf (.func (.yield l) #[] #[]))
    (hJ : Jth w TJ J o) (sX : StJ Jx) (apg : Apart TJ Tg) (apy : Apart TJ (onB Y)) (apyg : Apart (onB Y) Tg) (hall : (o ++ xs) <+: all)
    (hYd : ∀ (pre : List α) (x : α) (T : Nat → Prop) (W : World), J pre T W → (pre ++ [x]) <+: all → YieldAt Fence.wide 0 P l #[.agg (us x).toArray] W (Hands J Jx (pre ++ [x]) T W))
    (hdone : ∀ (D : Nat) (T' : Nat → Prop) (W : World), w.heap.size ≤ D → Kept TJ w W → Grew w TJ T' → Jth W T' J (o ++ xs) → Mrk W D → ¬ T' D → Q .normal (up F N (markV (D :: marksOf (F N)))) W)
    (hstop : ∀ (D : Nat) (T' : Nat → Prop) (pre : List α) (W : World), w.heap.size ≤ D → Kept TJ w W → Grew w TJ T' → Jth W T' Jx pre → Mrk W D → ¬ T' D → Q .ret (up F N (markV (D :: marksOf (F N)))) W) :
    wq none P N (.rangeFunc (.tmp gs) #[q] (.region ra #[o1, o2] false) (.block id (.seq (.region rb #[o3, o4, o5, o6] false) (.cond (.tmp t4) .ret .skip)))) Q F w := by
  obtain ⟨p1, d1, g1⟩ := h1
  obtain ⟨p2, d2, g2⟩ := h2
  obtain ⟨p3, d3, g3⟩ := h3
  obtain ⟨p4, d4, g4⟩ := h4
  obtain ⟨p5, d5, g5⟩ := h5
  obtain ⟨p6, d6, g6⟩ := h6
  simp only [List.all_cons, List.all_nil, Bool.and_eq_true, Bool.and_true] at hb
  obtain ⟨bq, bz, by_, b1, b2, b3, b4⟩ := hb
  simp only [List.nodup_cons, List.mem_cons, List.not_mem_nil, or_false, not_or, not_false_eq_true, and_true, List.nodup_nil] at hd
  obtain ⟨⟨nqz, nqy, nq1, nq2, nq3, nq4⟩, ⟨nzy, nz1, nz2, nz3, nz4⟩, ⟨ny1, ny2, ny3, ny4⟩, ⟨n12, n13, n14⟩, ⟨n23, n24⟩, n34⟩ := hd
  have hYJ : ¬ TJ Y := fun h => apy Y h rfl
  have hyN : y ≠ N := fun e => by rw [e] at by_; simp [Nat.blt_eq] at by_
  refine wq_rangeT hT hus hz0 hzl p1 d1 g1 p2 d2 g2 bq bz nqz hv hs (WithC Y tf (.func (.yield l) #[] #[]) o J) (WithC Y tf (.func (.yield l) #[] #[]) o Jx) (WithC.stj hJ.2) (WithC.stj sX) (T0 := fun i => TJ i ∨ i = Y) ⟨TJ, fun _ => Iff.rfl, hYJ, hcY, by rw [List.append_nil]; exact hJ.1⟩ (fun i hi => hi.elim (apg i) (fun e => apyg i e)) ?_ ?_ ?_
  · rintro lr pre x T zp F1 W ⟨Ti, hTi, hi0, hcW, hjW⟩ hpx hst hapz hz1 hoth hN
    have hpx2 : ((o ++ pre) ++ [x]) <+: all := by
      rw [List.append_assoc]
      exact ((List.prefix_append_right_inj o).2 hpx).trans hall
    refine wq_block (wq_seq (wq_region (os := [o3, o4, o5, o6]) (wl_v (.func (.yield l) #[] #[]) g3 (by rw [d3]; exact b1) (y_load_cel p3 (cut_at by_ ((hoth y (Ne.symm nzy) (Ne.symm nqy) hyN).trans hy)) hu hcW hpd rr) (wl_v (.agg (us x).toArray) g4 (by rw [d4]; exact b2) (y_load_stc (hT x) p4 (cut_at bz ((put_other d3 nz1).trans hz1)) hst rr) ?_))))
    refine wl_yieldS (l := l) (cx := .tmp t1) (xs := [.tmp t2]) (vs := [.agg (us x).toArray]) g5 (by rw [d5]; exact b3) p5 hc.1 (cut_at b1 ((put_other d4 n12).trans (put_same d3))) hc.2 (by simp only [List.map_cons, List.map_nil]; rw [cut_at b2 (put_same d4)]) (hYd (o ++ pre) x Ti W hjW hpx2) ?_
    rintro _ W3 ⟨T3, k3, gr3, (⟨rfl, hj3⟩ | ⟨rfl, hj3⟩)⟩
    · refine ⟨_, rfl, wl_v (.bool false) g6 (by rw [d6]; exact b4) (y_not p6 (cut_at b3 (put_same d5)) rfl rr) (wl_nil fun F5 hF5 => ?_)⟩
      refine then_normal (wq_cond (t := false) (cut_at b4 ((hF5 t4).trans (put_same d6))) (fun e => by cases e) (fun _ => wq_skip (in_normal ?_)))
      refine ⟨fun i => T3 i ∨ i = Y, k3.mono (fun i _ h => .inl ((hTi i).2 (.inl h))), fun i hi => ?_, T3, fun _ => Iff.rfl, fun h => (gr3 Y h).elim hi0 (fun e => by have := hcW.lt; omega), hcW.all k3 hi0, by rw [← List.append_assoc]; exact hj3⟩
      rcases hi with h | h
      · exact (gr3 i h).imp (fun h => (hTi i).2 (.inl h)) (fun h => h)
      · exact .inl ((hTi i).2 (.inr h))
    · refine ⟨_, rfl, wl_v (.bool true) g6 (by rw [d6]; exact b4) (y_not p6 (cut_at b3 (put_same d5)) rfl rr) (wl_nil fun F5 hF5 => ?_)⟩
      refine then_normal (wq_cond (t := true) (cut_at b4 ((hF5 t4).trans (put_same d6))) (fun _ => wq_ret (in_ret ?_)) (fun e => by cases e))
      refine ⟨fun i => T3 i ∨ i = Y, k3.mono (fun i _ h => .inl ((hTi i).2 (.inl h))), fun i hi => ?_, T3, fun _ => Iff.rfl, fun h => (gr3 Y h).elim hi0 (fun e => by have := hcW.lt; omega), hcW.all k3 hi0, by rw [← List.append_assoc]; exact hj3⟩
      rcases hi with h | h
      · exact (gr3 i h).imp (fun h => (hTi i).2 (.inl h)) (fun h => h)
      · exact .inl ((hTi i).2 (.inr h))
  · rintro D T' W hD k g ⟨Ti, hTi, hi0, hcW, hj⟩ hm hn
    refine hdone D Ti W hD (kept_but k hcY hcW) (fun i hi => ?_) ⟨hj, hJ.2⟩ hm (fun h => hn ((hTi D).2 (.inl h)))
    rcases g i ((hTi i).2 (.inl hi)) with h | h
    · exact h.elim .inl (fun e => absurd (e ▸ hi) hi0)
    · exact .inr h
  · rintro D T' pre W hD k g ⟨Ti, hTi, hi0, hcW, hj⟩ hm hn
    refine hstop D Ti _ W hD (kept_but k hcY hcW) (fun i hi => ?_) ⟨hj, sX⟩ hm (fun h => hn ((hTi D).2 (.inl h)))
    rcases g i ((hTi i).2 (.inl hi)) with h | h
    · exact h.elim .inl (fun e => absurd (e ▸ hi) hi0)
    · exact .inr h
def ColI {α : Type} (r : RowT α) (Y : Nat) (o xs : List α) (pre : List α) (T : Nat → Prop) (W : World) : Prop := ∃ (v : Value) (Tb : Nat → Prop), (∀ i, T i ↔ (onB Y i ∨ Tb i)) ∧ Apart (onB Y) Tb ∧ Cel W Y r.t v ∧ RoO r W Tb v (o ++ pre) ∧ pre <+: xs
theorem ColI.stj {α : Type} {r : RowT α} {Y : Nat} {o xs : List α} : StJ (ColI r Y o xs) := by
  refine ⟨?_, ?_⟩
  · rintro pre T S w w' ⟨v, Tb, hT, hap, hc, hr, hp⟩ k ha
    exact ⟨v, Tb, hT, hap, hc.all k (ha Y ((hT Y).2 (.inl rfl))), hr.all k (fun i hi => ha i ((hT i).2 (.inr hi))), hp⟩
  · rintro pre T w ⟨v, Tb, hT, _, hc, hr, _⟩ i hi
    exact ((hT i).1 hi).elim (fun e => by cases e; exact hc.lt) (fun e => hr.live i e)
theorem noJ {α : Type} : StJ (fun (_ : List α) (_ : Nat → Prop) (_ : World) => False) := ⟨fun _ _ _ _ _ h _ _ => h, fun _ _ _ h => h.elim⟩
theorem wq_coll {α : Type} {r : RowT α} [hk : r.Ok] {N : Nat} {Q : Exit → (Nat → Value) → World → Prop} {F : Nat → Value} {w : World} {gs q z y t1 t2 t3 t4 : Tmp} {ra rb id n : Nat} {o1 o2 o3 o4 o5 o6 o7 : Oper} {zs : List Value} {v v0 : Value} {xs o : List α} {Tg Tb : Nat → Prop} {Y : Nat}
    (hT : ∀ x, StcT Try.prog r.e (r.enc x).length) (hus : ∀ x, OneAll (r.enc x)) (hz0 : (Try.prog.info? r.e).map (fun i => (i.zero, i.size)) = some (some (.agg zs.toArray), n)) (hzl : ∀ x, zs.length = (r.enc x).length)
    (h1 : o1.op = .alloc r.e ∧ o1.dst = some z ∧ o1.guard = none) (h2 : o2.op = .store r.e (.tmp z) (.tmp q) ∧ o2.dst = none ∧ o2.guard = none)
    (h3 : o3.op = .load r.t (.tmp y) ∧ o3.dst = some t1 ∧ o3.guard = none) (h4 : o4.op = .load r.e (.tmp z) ∧ o4.dst = some t2 ∧ o4.guard = none)
    (h5 : o5.op = .buildSlice r.t 1 #[(0, .tmp t2)] ∧ o5.dst = some t3 ∧ o5.guard = none) (h6 : o6.op = .call { callee := .builtin .append, args := #[.tmp t1, .tmp t3], argTypes := #[r.t, r.t] } ∧ o6.dst = some t4 ∧ o6.guard = none)
    (h7 : o7.op = .store r.t (.tmp y) (.tmp t4) ∧ o7.dst = none ∧ o7.guard = none) (hsz : (Try.prog.info? r.t).map (·.size) = some 1) (hsm : r.k ≤ 64)
    (hb : [q, z, y, t1, t2, t3, t4].all (fun t => Nat.blt t N) = true) (hd : [q, z, y, t1, t2, t3, t4].Nodup)
    (hv : ev (cutF N F) (.tmp gs) = v) (hs : Sqt Try.prog (fun x => .agg (r.enc x).toArray) w Tg v xs) (hy : F y = .pointer (some ⟨Y, 0, none⟩)) (hcY : Cel w Y r.t v0) (hr : RoO r w Tb v0 o)
    (apY : Apart (onB Y) Tb) (apg : Apart Tb Tg) (apyg : Apart (onB Y) Tg) (hlen : o.length + xs.length < 1000)
    (hdone : ∀ (D : Nat) (v' : Value) (T' : Nat → Prop) (W : World), w.heap.size ≤ D → Kept (fun i => (onB Y) i ∨ (Tb i)) w W → Grew w Tb T' → Cel W Y r.t v' → RoO r W T' v' (o ++ xs) → Apart (onB Y) T' → Mrk W D → ¬ T' D → Q .normal (up F N (markV (D :: marksOf (F N)))) W) :
    wq none Try.prog N (.rangeFunc (.tmp gs) #[q] (.region ra #[o1, o2] false) (.block id (.region rb #[o3, o4, o5, o6, o7] false))) Q F w := by
  obtain ⟨p1, d1, g1⟩ := h1
  obtain ⟨p2, d2, g2⟩ := h2
  obtain ⟨p3, d3, g3⟩ := h3
  obtain ⟨p4, d4, g4⟩ := h4
  obtain ⟨p5, d5, g5⟩ := h5
  obtain ⟨p6, d6, g6⟩ := h6
  obtain ⟨p7, d7, g7⟩ := h7
  simp only [List.all_cons, List.all_nil, Bool.and_eq_true, Bool.and_true] at hb
  obtain ⟨bq, bz, by_, b1, b2, b3, b4⟩ := hb
  simp only [List.nodup_cons, List.mem_cons, List.not_mem_nil, or_false, not_or, not_false_eq_true, and_true, List.nodup_nil] at hd
  obtain ⟨⟨nqz, nqy, nq1, nq2, nq3, nq4⟩, ⟨nzy, nz1, nz2, nz3, nz4⟩, ⟨ny1, ny2, ny3, ny4⟩, ⟨n12, n13, n14⟩, ⟨n23, n24⟩, n34⟩ := hd
  have hyN : y ≠ N := fun e => by rw [e] at by_; simp [Nat.blt_eq] at by_
  have hk0 := hk
  refine wq_rangeT hT hus hz0 hzl p1 d1 g1 p2 d2 g2 bq bz nqz hv hs (ColI r Y o xs) (fun _ _ _ => False) ColI.stj noJ (T0 := fun i => (onB Y) i ∨ (Tb i)) ⟨v0, Tb, fun _ => Iff.rfl, apY, hcY, by rw [List.append_nil]; exact hr, List.nil_prefix⟩ (fun i hi => hi.elim (apyg i) (apg i)) ?_ ?_ ?_
  · rintro lr pre x T zp F1 W ⟨v1, T1, hT1, hap1, hc1, hr1, hp1⟩ hpx hst hapz hz1 hoth hN
    have hFy : F1 y = .pointer (some ⟨Y, 0, none⟩) := (hoth y (Ne.symm nzy) (Ne.symm nqy) hyN).trans hy
    have hpl := hpx.length_le
    rw [List.length_append, List.length_singleton] at hpl
    refine wq_block (wq_region (os := [o3, o4, o5, o6, o7]) (wl_v v1 g3 (by rw [d3]; exact b1) (y_load_cel p3 (cut_at by_ hFy) hk.slice hc1 rfl rr) (wl_v (.agg (r.enc x).toArray) g4 (by rw [d4]; exact b2) (y_load_stc (hT x) p4 (cut_at bz ((put_other d3 nz1).trans hz1)) hst rr) ?_)))
    refine wl_builtRo (r := r) (xs := [.tmp t2]) (vs := [.agg (r.enc x).toArray]) (l := [x]) g5 (by rw [d5]; exact b3) p5 rfl rfl (by simp only [List.map_cons, List.map_nil]; rw [cut_at b2 (put_same d4)]) (by simp [Value.cells]) (Nat.le_of_ble_eq_true rfl) (by simp; omega) fun u3 W3 T3 hB3 hg3 k3 => ?_
    have hc3 := hc1.all k3 (fun h => h)
    have hr3 := hr1.all k3 Apart.none
    refine wl_appendRo (r := r) g6 (by rw [d6]; exact b4) p6 rfl (cut_at b1 ((put_other d5 n13).trans ((put_other d4 n12).trans (put_same d3)))) (cut_at b3 (put_same d5)) hr3 hB3.roa (by rw [List.length_append]; simp; omega) fun u4 W4 T4 hB4 hg4 k4 => ?_
    have hc4 := hc3.all k4 (hap1 Y rfl)
    have hFy4 : putF (putF (putF (putF F1 o3.dst v1) o4.dst (.agg (r.enc x).toArray)) o5.dst u3) o6.dst u4 y = .pointer (some ⟨Y, 0, none⟩) := (put_other d6 ny4).trans ((put_other d5 ny3).trans ((put_other d4 ny2).trans ((put_other d3 ny1).trans hFy)))
    refine wl_store_cel g7 d7 p7 (cut_at by_ hFy4) (cut_at b4 (put_same d6)) hc4 hB4.oneC hsz fun W5 hc5 k5 => ?_
    have hap4 : Apart (onB Y) T4 := (Apart.grew hap1.symm hg4 (onB_live hc3.lt)).symm
    have hB5 := hB4.all k5 hap4.symm
    refine wl_nil fun F5 hF5 => in_normal ⟨fun i => (onB Y) i ∨ T4 i, ?_, fun i hi => ?_, u4, T4, fun _ => Iff.rfl, hap4, hc5, by rw [← List.append_assoc]; exact hB5, hpx⟩
    · have ka : Kept (fun i => T i ∨ i = zp) W W3 := k3.mono (fun _ _ h => h.elim)
      have kb := ka.trans k4 (fun i _ h => .inl ((hT1 i).2 (.inr h)))
      exact kb.trans k5 (fun i _ h => .inl ((hT1 i).2 (.inl h)))
    · rcases hi with h | h
      · exact .inl ((hT1 i).2 (.inl h))
      · rcases hg4 i h with h | h
        · exact .inl ((hT1 i).2 (.inr h))
        · exact .inr (Nat.le_trans k3.size h)
  · rintro D T' W hD k g ⟨v', T2, hT2, hap2, hc2, hr2, _⟩ hm hn
    refine hdone D v' T2 W hD k (fun i hi => ?_) hc2 hr2 hap2 hm (fun h => hn ((hT2 D).2 (.inr h)))
    rcases g i ((hT2 i).2 (.inr hi)) with h | h
    · exact h.elim (fun e => absurd hi (hap2 i e)) .inl
    · exact .inr h
  · rintro D T' pre W hD k g h
    exact h.elim
end Go.Proofs.Ythoafgfcoclkbaa
set_option maxRecDepth 100000
namespace Go.Proofs.Ythoafgfcoclkbaa
open Go.RowKit
def slV (x : Sl) : List Value := [.int .i64 x.d, .int .i64 x.k, .int .i64 x.p, .int .i64 x.n]
theorem slV_one (x : Sl) : OneAll (slV x) := oneI rfl (oneI rfl (oneI rfl (oneI rfl oneN)))
def SqS (w : World) (T : Nat → Prop) (v : Value) (xs : List Sl) : Prop := Sqt Try.prog (fun x : Sl => .agg (slV x).toArray) w T v xs
theorem SqS.live {w : World} {T : Nat → Prop} {v : Value} {xs : List Sl} (h : SqS w T v xs) : Live w T := Sqt.live h
theorem SqS.all {S : Nat → Prop} {w w' : World} {T : Nat → Prop} {v : Value} {xs : List Sl} (h : SqS w T v xs) (k : Kept S w w') (ha : Apart T S) : SqS w' T v xs := Sqt.all h k ha
def stL (a x : Nat) : List Sl := [⟨(x : Int), 1, (a : Int), -1⟩] ++ bsTo a x (x - (a + 1))
theorem bsTo_pre (a x : Nat) {i : Nat} : ∀ n, bsTo a x i <+: bsTo a x (i + n)
  | 0 => List.prefix_refl _
  | n + 1 => (bsTo_pre a x n).trans (List.prefix_append _ _)
theorem stL_pre {a x i : Nat} (h : i < x - (a + 1)) : ([(⟨(x : Int), 1, (a : Int), -1⟩ : Sl)] ++ bsTo a x i) ++ [⟨((a + 1 + i : Nat) : Int), 2, (a : Int), (x : Int)⟩] <+: stL a x := by
  unfold stL
  rw [List.append_assoc]
  refine (List.prefix_append_right_inj _).2 ?_
  have h1 := bsTo_pre a x (i := i + 1) (x - (a + 1) - (i + 1))
  rw [show i + 1 + (x - (a + 1) - (i + 1)) = x - (a + 1) by omega] at h1
  exact h1
theorem st_go (a x : Nat) (qx qa : Nat) (w0 : World) (hax : a < x) (hx : x ≤ 300) (h_qx : Cel w0 qx 3 (.int .i64 (((x : Nat) : Int)))) (h_qa : Cel w0 qa 3 (.int .i64 (((a : Nat) : Int)))) : SeqT Try.prog 29 #[.pointer (some ⟨qx, 0, none⟩), .pointer (some ⟨qa, 0, none⟩)] (fun x : Sl => .agg (slV x).toArray) (stL a x) w0 (fun i => (onB qx) i ∨ ((onB qa) i)) := by
 intro l J Jx T_j sJ sX h0 hap hY
 have h_j : Jth w0 T_j J [] := ⟨h0, sJ⟩
 have ap_qx : Apart T_j (onB qx) := fun i h e => hap i h (Or.inl e)
 have ap_qa : Apart T_j (onB qa) := fun i h e => hap i h (Or.inr e)
 refine calls_wq (args := [.func (.yield l) #[] #[], pt qx 0, pt qa 0]) 25 Try.func29 rfl rfl (Nat.le_of_ble_eq_true rfl) ?_
 have K0 := Kept.refl T_j w0
 refine wq_seq (wq_seq (wq_region_y (wl_v (.func (.yield l) #[] #[]) rfl rfl (y_mov rfl rfl rr) (wl_v (iv ((x : Nat) : Int)) rfl rfl (y_load_cel rfl rfl Try.underlying3 h_qx rfl rr) (wl_v (iv ((a : Nat) : Int)) rfl rfl (y_load_cel rfl rfl Try.underlying3 h_qa rfl rr) (wl_v (.agg #[iv ((x : Nat) : Int), iv 1, iv ((a : Nat) : Int), iv (-1)]) rfl rfl (y_buildL (l' := [(0, iv ((x : Nat) : Int)), (1, iv 1), (2, iv ((a : Nat) : Int)), (3, iv (-1))]) (cells := #[iv ((x : Nat) : Int), iv 1, iv ((a : Nat) : Int), iv (-1)]) rfl (bpC rfl (bpC rfl (bpC rfl (bpC rfl bpN)))) (by kernel_rfl) rfl rr) (wl_yieldS rfl rfl rfl rfl rfl rfl (vsC rfl vsN) (hY ([]) (⟨(x : Int), 1, (a : Int), -1⟩) _ _ h_j.1 (⟨bsTo a x (x - (a + 1)), rfl⟩)) ?_)))))))
 rintro _ w1 ⟨T2, k3, g4, (⟨rfl, j5⟩ | ⟨rfl, j5⟩)⟩
 ·refine ⟨_, rfl, ?_⟩
  have B6 : Jth w1 T2 J (([]) ++ [⟨(x : Int), 1, (a : Int), -1⟩]) := ⟨j5, sJ⟩
  have ap7 : Apart T2 (onB qx) := ap_qx.grew g4 (onB_live h_qx.lt)
  have ap8 : Apart T2 (onB qa) := ap_qa.grew g4 (onB_live h_qa.lt)
  have B9 := h_qx.all k3 (ap_qx.symm qx rfl)
  have B10 := h_qa.all k3 (ap_qa.symm qa rfl)
  have K11 := K0.trans k3 (Grew.ok (S := T_j) (Grew.refl w0 T_j) (fun _ x => x))
  have gr12 := Grew.trans (Grew.refl w0 T_j) K0 g4
  refine wl_v (.bool false) rfl rfl (y_not rfl rfl rfl rr) (wl_nil fun F13 hF14 => ?_)
  have s15 : F13 0 = .func (.yield l) #[] #[] := (hF14 0).trans rfl
  have s16 : F13 1 = pt qx 0 := (hF14 1).trans rfl
  have s17 : F13 2 = pt qa 0 := (hF14 2).trans rfl
  have s18 : F13 25 = undef := (hF14 25).trans rfl
  have s19 : F13 10 = .bool false := (hF14 10).trans rfl
  clear hF14
  refine then_normal ?_
  refine wq_cond (t := false) s19 (fun e => by cases e) (fun _ => ?_)
  refine wq_skip (then_normal (wq_seq (wq_region (wl_v (iv ((a : Nat) : Int)) rfl rfl (y_load_cel rfl s17 Try.underlying3 B10 rfl rr) (wl_v (iv ((a + 1 : Nat) : Int)) rfl rfl (y_add rfl rfl rfl (i64_n (by omega) (by omega)) rr) (wl_v (iv ((a + 1 : Nat) : Int)) rfl rfl (y_asg rfl rfl rr) (wl_nil fun F20 hF21 => ?_)))))))
  obtain ⟨s22, s23, s24, s25⟩ := t4 hF21 0 s15 1 s16 2 s17 25 s18
  have s26 : F20 4 = iv ((a + 1 : Nat) : Int) := (hF21 4).trans rfl
  clear hF21
  refine then_normal (wq_block (wq_loop (fun nn FF ww => ∃ (i : Nat), ∃ (T27 : Nat → Prop), (i ≤ x - (a + 1)) ∧ nn = x - (a + 1) - i ∧ FF 0 = .func (.yield l) #[] #[] ∧ FF 1 = pt qx 0 ∧ FF 2 = pt qa 0 ∧ FF 25 = undef ∧ FF 4 = iv ((a + 1 + i : Nat) : Int) ∧ Kept T_j w0 ww ∧ Jth ww T27 J ([⟨(x : Int), 1, (a : Int), -1⟩] ++ bsTo a x i) ∧ Cel ww qx 3 (iv ((x : Nat) : Int)) ∧ Cel ww qa 3 (iv ((a : Nat) : Int)) ∧ Grew w0 T_j T27 ∧ Apart T27 (onB qx) ∧ Apart T27 (onB qa)) (x - (a + 1) - 0) ⟨0, T2, by omega, rfl, s22, s23, s24, s25, s26, K11, B6, B9, B10, gr12, ap7, ap8⟩ ?_))
  rintro n31 F28 w29 ⟨i, T27, i32, hn31, s33, s34, s35, s36, s37, K30, B38, B39, B40, gr41, ap42, ap43⟩
  refine wq_seq (wq_seq (wq_region (wl_mv rfl rfl rfl s37 (wl_v (iv ((x : Nat) : Int)) rfl rfl (y_load_cel rfl s34 Try.underlying3 B39 rfl rr) (wl_v (.bool (decide (((a + 1 + i : Nat) : Int) < ((x : Nat) : Int)))) rfl rfl (y_lss rfl rfl rfl rfl rr) (wl_nil fun F44 hF45 => ?_))))))
  obtain ⟨s46, s47, s48, s49, s50⟩ := t5 hF45 0 s33 1 s34 2 s35 25 s36 4 s37
  have s51 : F44 15 = .bool (decide (((a + 1 + i : Nat) : Int) < ((x : Nat) : Int))) := (hF45 15).trans rfl
  clear hF45
  refine then_normal ?_
  refine wq_cond s51 (fun c52 => ?_) (fun c52 => ?_)
  ·replace c52 := of_decide_eq_true c52
   refine wq_skip (then_normal (wq_seq (wq_block (wq_seq (wq_region_y (wl_mv rfl rfl rfl s46 (wl_mv rfl rfl rfl s50 (wl_v (iv ((a : Nat) : Int)) rfl rfl (y_load_cel rfl s48 Try.underlying3 B40 rfl rr) (wl_v (iv ((x : Nat) : Int)) rfl rfl (y_load_cel rfl s47 Try.underlying3 B39 rfl rr) (wl_v (.agg #[iv ((a + 1 + i : Nat) : Int), iv 2, iv ((a : Nat) : Int), iv ((x : Nat) : Int)]) rfl rfl (y_buildL (l' := [(0, iv ((a + 1 + i : Nat) : Int)), (1, iv 2), (2, iv ((a : Nat) : Int)), (3, iv ((x : Nat) : Int))]) (cells := #[iv ((a + 1 + i : Nat) : Int), iv 2, iv ((a : Nat) : Int), iv ((x : Nat) : Int)]) rfl (bpC rfl (bpC rfl (bpC rfl (bpC rfl bpN)))) (by kernel_rfl) rfl rr) (wl_yieldS rfl rfl rfl rfl rfl rfl (vsC rfl vsN) (hY ([⟨(x : Int), 1, (a : Int), -1⟩] ++ bsTo a x i) (⟨((a + 1 + i : Nat) : Int), 2, (a : Int), (x : Int)⟩) _ _ B38.1 (stL_pre (by omega))) ?_)))))))))))
   rintro _ w53 ⟨T54, k55, g56, (⟨rfl, j57⟩ | ⟨rfl, j57⟩)⟩
   ·refine ⟨_, rfl, ?_⟩
    have B58 : Jth w53 T54 J (([⟨(x : Int), 1, (a : Int), -1⟩] ++ bsTo a x i) ++ [⟨((a + 1 + i : Nat) : Int), 2, (a : Int), (x : Int)⟩]) := ⟨j57, sJ⟩
    have ap59 : Apart T54 (onB qx) := ap42.grew g56 (onB_live B39.lt)
    have ap60 : Apart T54 (onB qa) := ap43.grew g56 (onB_live B40.lt)
    have B61 := B39.all k55 (ap42.symm qx rfl)
    have B62 := B40.all k55 (ap43.symm qa rfl)
    have K63 := K30.trans k55 (Grew.ok (S := T_j) gr41 (fun _ x => x))
    have gr64 := Grew.trans gr41 K30 g56
    refine wl_v (.bool false) rfl rfl (y_not rfl rfl rfl rr) (wl_nil fun F65 hF66 => ?_)
    obtain ⟨s67, s68, s69, s70, s71⟩ := t5 hF66 0 s46 1 s47 2 s48 25 s49 4 s50
    have s72 : F65 24 = .bool false := (hF66 24).trans rfl
    clear hF66
    refine then_normal ?_
    refine wq_cond (t := false) s72 (fun e => by cases e) (fun _ => ?_)
    refine wq_skip (in_normal (then_normal (wq_region (wl_mv rfl rfl rfl s71 (wl_v (iv (((a + 1 + i) + 1 : Nat) : Int)) rfl rfl (y_add rfl rfl rfl (i64_n (by omega) (by omega)) rr) (wl_v (iv (((a + 1 + i) + 1 : Nat) : Int)) rfl rfl (y_asg rfl rfl rr) (wl_nil fun F73 hF74 => ?_)))))))
    obtain ⟨s75, s76, s77, s78⟩ := t4 hF74 0 s67 1 s68 2 s69 25 s70
    have s79 : F73 4 = iv (((a + 1 + i) + 1 : Nat) : Int) := (hF74 4).trans rfl
    clear hF74
    exact then_normal ⟨(x - (a + 1) - (i + 1)), by omega, i + 1, T54, by omega, rfl, s75, s76, s77, s78, s79, K63, (by rw [List.append_assoc] at B58; exact B58), B61, B62, gr64, ap59, ap60⟩
   ·refine ⟨_, rfl, ?_⟩
    have B80 : Jth w53 T54 Jx (([⟨(x : Int), 1, (a : Int), -1⟩] ++ bsTo a x i) ++ [⟨((a + 1 + i : Nat) : Int), 2, (a : Int), (x : Int)⟩]) := ⟨j57, sX⟩
    have K85 := K30.trans k55 (Grew.ok (S := T_j) gr41 (fun _ x => x))
    have gr86 := Grew.trans gr41 K30 g56
    refine wl_v (.bool true) rfl rfl (y_not rfl rfl rfl rr) (wl_nil fun F87 hF88 => ?_)
    have s92 := (hF88 25).trans s49
    have s94 : F87 24 = .bool true := (hF88 24).trans rfl
    clear hF88
    refine then_normal ?_
    refine wq_cond (t := true) s94 (fun _ => ?_) (fun e => by cases e)
    refine wq_ret (in_ret (then_ret (then_ret (in_ret ?_))))
    exact end_none_ret s92 rfl ⟨⟨_, rfl⟩, T54, K85, gr86, Or.inr ⟨_, B80.1⟩⟩
  ·replace c52 := of_decide_eq_false c52
   refine wq_exit (then_exit (then_exit (in_here ?_)))
   exact end_none s49 rfl ⟨⟨_, rfl⟩, T27, K30, gr41, Or.inl (by rw [show stL a x = [⟨(x : Int), 1, (a : Int), -1⟩] ++ bsTo a x i by unfold stL; rw [show x - (a + 1) = i by omega]]; exact B38.1)⟩
 ·refine ⟨_, rfl, ?_⟩
  have B95 : Jth w1 T2 Jx (([]) ++ [⟨(x : Int), 1, (a : Int), -1⟩]) := ⟨j5, sX⟩
  have K100 := K0.trans k3 (Grew.ok (S := T_j) (Grew.refl w0 T_j) (fun _ x => x))
  have gr101 := Grew.trans (Grew.refl w0 T_j) K0 g4
  refine wl_v (.bool true) rfl rfl (y_not rfl rfl rfl rr) (wl_nil fun F102 hF103 => ?_)
  have s107 : F102 25 = undef := (hF103 25).trans rfl
  have s108 : F102 10 = .bool true := (hF103 10).trans rfl
  clear hF103
  refine then_normal ?_
  refine wq_cond (t := true) s108 (fun _ => ?_) (fun e => by cases e)
  refine wq_ret (then_ret ?_)
  exact end_none_ret s107 rfl ⟨⟨_, rfl⟩, T2, K100, gr101, Or.inr ⟨_, B95.1⟩⟩
theorem sqt_step {w : World} {a x qx qa : Nat} (hax : a < x) (hx : x ≤ 300) (h1 : Cel w qx 3 (.int .i64 (x : Int))) (h2 : Cel w qa 3 (.int .i64 (a : Int))) : SqS w (fun i => (onB qx) i ∨ (onB qa) i) (.func (.func 29) #[] #[.pointer (some ⟨qx, 0, none⟩), .pointer (some ⟨qa, 0, none⟩)]) (stL a x) :=
  ⟨_, _, rfl, fun _ _ => by kernel_rfl, fun i hi => hi.elim (onB_live h1.lt i) (onB_live h2.lt i), fun S W k ha => st_go a x qx qa W hax hx (h1.all k (ha qx (.inl rfl))) (h2.all k (ha qa (.inr rfl)))⟩
theorem od_step (a x : Nat) (w0 : World) (hax : a < x) (hx : x ≤ 300) :
  Calls Try.prog 28 #[.int .i64 (((a : Nat) : Int)), .int .i64 (((x : Nat) : Int))] w0 fun e w' => ∃ (v1 : Value) (T1 : Nat → Prop), e = .returned (v1) ∧ Kept (fun _ => False) w0 w' ∧ (SqS w' T1 v1 ((stL a x)) ∧ Grew w0 noB T1) := by
 refine calls_wq (args := [iv ((a : Nat) : Int), iv ((x : Nat) : Int)]) 6 Try.func28 rfl rfl (Nat.le_of_ble_eq_true rfl) ?_
 have K0 := Kept.refl (fun _ => False) w0
 refine wq_seq (wq_region (wl_box_cel rfl rfl rfl rfl (by rfl) fun p1 w2 B5 g7 k3 => ?_))
 have gr8 : Grew w0 noB (onB p1) := Grew.new K0 g7
 have K9 := K0.tr k3
 refine wl_box_cel rfl rfl rfl rfl (by rfl) fun p10 w11 B14 g16 k12 => ?_
 have gr17 : Grew w0 noB (onB p10) := Grew.new K9 g16
 have B19 := B5.all k12 id
 have K20 := K9.tr k12
 refine wl_v (Value.nilFunc) rfl rfl (y_asg rfl rfl rr) (wl_nil fun F21 hF22 => ?_)
 have s23 : F21 6 = undef := (hF22 6).trans rfl
 have s24 : F21 2 = pt p1 0 := (hF22 2).trans rfl
 have s25 : F21 3 = pt p10 0 := (hF22 3).trans rfl
 clear hF22
 refine then_normal (wq_seq (wq_region (wl_v (.func (.func 29) #[] #[pt p10 0, pt p1 0]) rfl rfl (y_fnc rfl (vsC s25 (vsC s24 vsN)) rr) (wl_v (.func (.func 29) #[] #[pt p10 0, pt p1 0]) rfl rfl (y_asg rfl rfl rr) (wl_nil fun F26 hF27 => ?_)))))
 have s28 := (hF27 6).trans s23
 have s29 : F26 4 = .func (.func 29) #[] #[pt p10 0, pt p1 0] := (hF27 4).trans rfl
 clear hF27
 refine then_normal (wq_ret ?_)
 exact end_tmp (v := .func (.func 29) #[] #[pt p10 0, pt p1 0]) s28 rfl rfl s29 ⟨(.func (.func 29) #[] #[pt p10 0, pt p1 0]), (fun i => (onB p10) i ∨ ((onB p1) i)), rfl, K20, ⟨sqt_step hax hx B14 B19, fun i h => h.elim (fun y => gr17 i y) (fun y => gr8 i y)⟩⟩
end Go.Proofs.Ythoafgfcoclkbaa
set_option maxRecDepth 100000
namespace Go.Proofs.Ythoafgfcoclkbaa
open Go.RowKit
def grL (f last b : Nat) : List Sl := [⟨(f : Int), 0, -1, -1⟩] ++ midL b last f
theorem midL_st {b last a : Nat} (h : a < last) : midL b last a = stL a (nxt b last a) ++ midL b last (nxt b last a) := by
  rw [midL_yes h]; unfold stL; simp
theorem outL_gr {n g b f : Nat} (h : f < n) (hg : 0 < g) : outL n g b f = grL f (min (f + g) n - 1) b ++ outL n g b (f + g) := by
  rw [outL_yes h hg]; unfold grL; simp
theorem pre_mid {b last a f : Nat} {o : List Sl} (h : a < last) (hm : o ++ midL b last a = grL f last b) : o ++ stL a (nxt b last a) <+: grL f last b := ⟨midL b last (nxt b last a), by rw [List.append_assoc, ← midL_st h]; exact hm⟩
theorem nxt_mid {b last a f : Nat} {o : List Sl} (h : a < last) (hm : o ++ midL b last a = grL f last b) : (o ++ stL a (nxt b last a)) ++ midL b last (nxt b last a) = grL f last b := by rw [List.append_assoc, ← midL_st h]; exact hm
theorem pre_out {n g b f : Nat} {o : List Sl} (h : f < n) (hg : 0 < g) (ho : o ++ outL n g b f = outL n g b 0) : o ++ grL f (min (f + g) n - 1) b <+: outL n g b 0 := ⟨outL n g b (f + g), by rw [List.append_assoc, ← outL_gr h hg]; exact ho⟩
theorem nxt_out {n g b f : Nat} {o : List Sl} (h : f < n) (hg : 0 < g) (ho : o ++ outL n g b f = outL n g b 0) : (o ++ grL f (min (f + g) n - 1) b) ++ outL n g b (f + g) = outL n g b 0 := by rw [List.append_assoc, ← outL_gr h hg]; exact ho
theorem gr_go (f last b : Nat) (qf ql qb : Nat) (w0 : World) (hl : last ≤ 300) (hb : b ≤ 3) (hf : f ≤ 300) (h_qf : Cel w0 qf 3 (.int .i64 (((f : Nat) : Int)))) (h_ql : Cel w0 ql 3 (.int .i64 (((last : Nat) : Int)))) (h_qb : Cel w0 qb 3 (.int .i64 (((b : Nat) : Int)))) : SeqT Try.prog 27 #[.pointer (some ⟨qf, 0, none⟩), .pointer (some ⟨ql, 0, none⟩), .pointer (some ⟨qb, 0, none⟩)] (fun x : Sl => .agg (slV x).toArray) (grL f last b) w0 (fun i => (onB qf) i ∨ ((onB ql) i ∨ ((onB qb) i))) := by
 intro l J Jx T_j sJ sX h0 hap hY
 have h_j : Jth w0 T_j J [] := ⟨h0, sJ⟩
 have ap_qf : Apart T_j (onB qf) := fun i h e => hap i h (Or.inl e)
 have ap_ql : Apart T_j (onB ql) := fun i h e => hap i h (Or.inr (Or.inl e))
 have ap_qb : Apart T_j (onB qb) := fun i h e => hap i h (Or.inr (Or.inr e))
 refine calls_wm (args := [.func (.yield l) #[] #[], pt qf 0, pt ql 0, pt qb 0]) 32 Try.func27 rfl rfl (Nat.le_of_ble_eq_true rfl) ?_
 have K0 := Kept.refl T_j w0
 have h_ms := Mks.nil w0
 refine wq_seq (wq_region (wl_box_fn rfl rfl rfl rfl fun p1 w2 B5 g7 k3 => ?_))
 have ap9 : Apart (onB p1) T_j := Apart.new g7 h_j.live
 have ap13 : Apart (onB p1) noB := Apart.new g7 h_ms.live
 have B14 := h_j.all k3 Apart.none
 have B15 := h_qf.all k3 id
 have B16 := h_ql.all k3 id
 have B17 := h_qb.all k3 id
 have B18 := h_ms.all k3 Apart.none
 have K19 := K0.tr k3
 refine wl_nil fun F20 hF21 => ?_
 have s22 : F20 0 = .func (.yield l) #[] #[] := (hF21 0).trans rfl
 have s23 : F20 1 = pt qf 0 := (hF21 1).trans rfl
 have s24 : F20 2 = pt ql 0 := (hF21 2).trans rfl
 have s25 : F20 3 = pt qb 0 := (hF21 3).trans rfl
 have s26 : F20 32 = markV [] := (hF21 32).trans rfl
 have s27 : F20 4 = pt p1 0 := (hF21 4).trans rfl
 clear hF21
 refine then_normal (wq_seq (wq_seq (wq_region_y (wl_v (.func (.yield l) #[] #[]) rfl rfl (y_load_cel rfl s27 Try.underlying54 B5 rfl rr) (wl_v (iv ((f : Nat) : Int)) rfl rfl (y_load_cel rfl s23 Try.underlying3 B15 rfl rr) (wl_v (.agg #[iv ((f : Nat) : Int), iv 0, iv (-1), iv (-1)]) rfl rfl (y_buildL (l' := [(0, iv ((f : Nat) : Int)), (1, iv 0), (2, iv (-1)), (3, iv (-1))]) (cells := #[iv ((f : Nat) : Int), iv 0, iv (-1), iv (-1)]) rfl (bpC rfl (bpC rfl (bpC rfl (bpC rfl bpN)))) (by kernel_rfl) rfl rr) (wl_yieldS rfl rfl rfl rfl rfl rfl (vsC rfl vsN) (hY ([]) (⟨(f : Int), 0, -1, -1⟩) _ _ B14.1 (⟨midL b last f, rfl⟩)) ?_)))))))
 rintro _ w28 ⟨T29, k30, g31, (⟨rfl, j32⟩ | ⟨rfl, j32⟩)⟩
 ·refine ⟨_, rfl, ?_⟩
  have B33 : Jth w28 T29 J (([]) ++ [⟨(f : Int), 0, -1, -1⟩]) := ⟨j32, sJ⟩
  have ap34 : Apart T29 (onB qf) := ap_qf.grew g31 (onB_live B15.lt)
  have ap35 : Apart T29 (onB ql) := ap_ql.grew g31 (onB_live B16.lt)
  have ap36 : Apart T29 (onB qb) := ap_qb.grew g31 (onB_live B17.lt)
  have ap37 : Apart T29 noB := ((show Apart noB T_j from fun _ h _ => h.elim).symm).grew g31 B18.live
  have ap38 : Apart T29 (onB p1) := (ap9.symm).grew g31 (onB_live B5.lt)
  have B39 := B15.all k30 (ap_qf.symm qf rfl)
  have B40 := B16.all k30 (ap_ql.symm ql rfl)
  have B41 := B17.all k30 (ap_qb.symm qb rfl)
  have B42 := B18.all k30 (fun i h x => ((show Apart noB T_j from fun _ h _ => h.elim) i h x))
  have B43 := B5.all k30 (ap9 p1 rfl)
  have K44 := K19.trans k30 (Grew.ok (S := T_j) (Grew.refl w0 T_j) (fun _ x => x))
  have gr45 := Grew.trans (Grew.refl w0 T_j) K19 g31
  refine wl_v (.bool false) rfl rfl (y_not rfl rfl rfl rr) (wl_nil fun F46 hF47 => ?_)
  obtain ⟨s48, s49, s50, s51, s52, s53⟩ := t6 hF47 0 s22 1 s23 2 s24 3 s25 32 s26 4 s27
  have s54 : F46 12 = .bool false := (hF47 12).trans rfl
  clear hF47
  refine then_normal ?_
  refine wq_cond (t := false) s54 (fun e => by cases e) (fun _ => ?_)
  refine wq_skip (then_normal (wq_seq (wq_region (wl_v (iv ((f : Nat) : Int)) rfl rfl (y_load_cel rfl s49 Try.underlying3 B39 rfl rr) (wl_v (iv ((f : Nat) : Int)) rfl rfl (y_asg rfl rfl rr) (wl_nil fun F55 hF56 => ?_))))))
  obtain ⟨s57, s58, s59, s60, s61, s62, s63⟩ := t7 hF56 0 s48 1 s49 2 s50 3 s51 32 s52 4 s53 12 s54
  have s64 : F55 5 = iv ((f : Nat) : Int) := (hF56 5).trans rfl
  clear hF56
  refine then_normal (wq_block (wq_loop (fun nn FF ww => ∃ (a : Nat), ∃ (o : List Sl), ∃ (ms65 : List Nat), ∃ (T66 : Nat → Prop), ∃ (T67 : Nat → Prop), (o ++ midL b last a = grL f last b) ∧ (a ≤ 300) ∧ nn = last - a ∧ FF 0 = .func (.yield l) #[] #[] ∧ FF 1 = pt qf 0 ∧ FF 2 = pt ql 0 ∧ FF 3 = pt qb 0 ∧ FF 4 = pt p1 0 ∧ FF 12 = .bool false ∧ FF 32 = markV ms65 ∧ FF 5 = iv ((a : Nat) : Int) ∧ Kept T_j w0 ww ∧ Jth ww T66 J o ∧ Cel ww qf 3 (iv ((f : Nat) : Int)) ∧ Cel ww ql 3 (iv ((last : Nat) : Int)) ∧ Cel ww qb 3 (iv ((b : Nat) : Int)) ∧ Mks ww T67 ms65 ∧ Cel ww p1 54 (.func (.yield l) #[] #[]) ∧ Grew w0 T_j T66 ∧ Grew w0 noB T67 ∧ Apart T66 (onB qf) ∧ Apart T66 (onB ql) ∧ Apart T66 (onB qb) ∧ Apart T66 T67 ∧ Apart T66 (onB p1) ∧ Apart T67 (onB qf) ∧ Apart T67 (onB ql) ∧ Apart T67 (onB qb) ∧ Apart T67 (onB p1)) (last - f) ⟨f, [⟨(f : Int), 0, -1, -1⟩], [], T29, noB, rfl, by omega, rfl, s57, s58, s59, s60, s62, s63, s61, s64, K44, B33, B39, B40, B41, B42, B43, gr45, (Grew.refl w0 noB), ap34, ap35, ap36, ap37, ap38, (show Apart noB (onB qf) from fun _ h _ => h.elim), (show Apart noB (onB ql) from fun _ h _ => h.elim), (show Apart noB (onB qb) from fun _ h _ => h.elim), ap13.symm⟩ ?_))
  rintro n71 F68 w69 ⟨a, o, ms65, T66, T67, hm, i72, hn71, s73, s74, s75, s76, s77, s78, s79, s80, K70, B81, B82, B83, B84, B85, B86, gr87, gr88, ap89, ap90, ap91, ap92, ap93, ap94, ap95, ap96, ap97⟩
  refine wq_seq (wq_seq (wq_region (wl_mv rfl rfl rfl s80 (wl_v (iv ((last : Nat) : Int)) rfl rfl (y_load_cel rfl s75 Try.underlying3 B83 rfl rr) (wl_v (.bool (decide (((a : Nat) : Int) < ((last : Nat) : Int)))) rfl rfl (y_lss rfl rfl rfl rfl rr) (wl_nil fun F98 hF99 => ?_))))))
  obtain ⟨s100, s101, s102, s103, s104, s105, s106, s107⟩ := t8 hF99 0 s73 1 s74 2 s75 3 s76 4 s77 12 s78 32 s79 5 s80
  have s108 : F98 16 = .bool (decide (((a : Nat) : Int) < ((last : Nat) : Int))) := (hF99 16).trans rfl
  clear hF99
  refine then_normal ?_
  refine wq_cond s108 (fun c109 => ?_) (fun c109 => ?_)
  ·replace c109 := of_decide_eq_true c109
   refine wq_skip (then_normal (wq_block (wq_seq (wq_region (wl_mv rfl rfl rfl s107 (wl_v (iv ((b : Nat) : Int)) rfl rfl (y_load_cel rfl s103 Try.underlying3 B84 rfl rr) (wl_v (iv ((a + b : Nat) : Int)) rfl rfl (y_add rfl rfl rfl (i64_n (by omega) (by omega)) rr) (wl_v (iv (((a + b) + 1 : Nat) : Int)) rfl rfl (y_add rfl rfl rfl (i64_n (by omega) (by omega)) rr) (wl_v (iv ((last : Nat) : Int)) rfl rfl (y_load_cel rfl s102 Try.underlying3 B83 rfl rr) (wl_v (iv ((nxt b last a : Nat) : Int)) rfl rfl (y_minR rfl rfl rfl (by unfold nxt; omega) rr) (wl_v (iv ((nxt b last a : Nat) : Int)) rfl rfl (y_asg rfl rfl rr) ?_)))))))))))
   refine wl_nil fun F110 hF111 => ?_
   obtain ⟨s112, s113, s114, s115, s116, s117, s118, s119⟩ := t8 hF111 0 s100 1 s101 2 s102 3 s103 4 s104 12 s105 32 s106 5 s107
   have s121 : F110 6 = iv ((nxt b last a : Nat) : Int) := (hF111 6).trans rfl
   clear hF111
   refine then_normal (wq_seq (wq_seq ?_))
   have hnx := nxt_lt (b := b) (show a < last by omega)
   refine wq_region (wl_mv rfl rfl rfl s119 (wl_mv rfl rfl rfl s121 (wl_call (R := fun v_ w_ => ∃ (v122 : Value) (T125 : Nat → Prop), v122 = v_ ∧ Kept (fun _ => False) w69 w_ ∧ (SqS w_ T125 v122 (stL a (nxt b last a)) ∧ Grew w69 noB T125)) rfl rfl (y_cs rfl rfl rfl (fun _ _ => by kernel_rfl) (ev_func _) (vsC rfl (vsC rfl vsN)) (od_step a (nxt b last a)  _ (by omega) (by omega)  ) (fun e_ w_ h_ => by obtain ⟨v122_, T125_, he_, hr_⟩ := h_; exact ⟨_, he_, v122_, T125_, rfl, hr_⟩)) ?_)))
   rintro _ w123 ⟨v122, T125, rfl, k124, ⟨B126, g127⟩⟩
   have B128 := B81.all k124 Apart.none
   have B129 := B82.all k124 id
   have B130 := B83.all k124 id
   have B131 := B84.all k124 id
   have B132 := B85.all k124 Apart.none
   have B133 := B86.all k124 id
   have K134 := K70.tr k124
   have ap136 : Apart T125 T66 := Apart.new g127 B81.live
   have ap141 : Apart T125 (onB p1) := Apart.new g127 (onB_live B86.lt)
   refine wl_nil fun F142 hF143 => ?_
   obtain ⟨s144, s145, s146, s147, s148, s149, s150, s153⟩ := t8 hF143 0 s112 1 s113 2 s114 3 s115 4 s116 12 s117 32 s118 6 s121
   have s154 : F142 25 = v122 := (hF143 25).trans rfl
   clear hF143
   refine then_normal (wq_block ?_)
   refine wq_fwd (us := slV) (zs := [iv 0, iv 0, iv 0, iv 0]) (n := 4) (o := o) (xs := stL a (nxt b last a)) (all := grL f last b) (J := J) (Jx := Jx) (fun _ => stcT_slot) slV_one (by kernel_rfl) (fun _ => rfl) ⟨rfl, rfl, rfl⟩ ⟨rfl, rfl, rfl⟩ ⟨rfl, rfl, rfl⟩ ⟨rfl, rfl, rfl⟩ ⟨rfl, rfl, rfl⟩ ⟨rfl, rfl⟩ ⟨rfl, rfl, rfl⟩ (by decide) (by decide) Try.underlying54 rfl s154 B126 s148 B133 B128 sX ap136.symm ap93 ap141.symm (pre_mid (by omega) hm) hY ?_ ?_
   ·intro D155 T156 w157 d158 k159 g160 B161 m162 n163
    have ap165 : Apart T156 (onB qf) := ap89.grew g160 (onB_live B129.lt)
    have ap166 : Apart T156 (onB ql) := ap90.grew g160 (onB_live B130.lt)
    have ap167 : Apart T156 (onB qb) := ap91.grew g160 (onB_live B131.lt)
    have ap168 : Apart T156 T67 := ap92.grew g160 B132.live
    have ap169 : Apart T156 (onB p1) := ap93.grew g160 (onB_live B133.lt)
    have B171 := B129.all k159 (ap89.symm qf rfl)
    have B172 := B130.all k159 (ap90.symm ql rfl)
    have B173 := B131.all k159 (ap91.symm qb rfl)
    have B175 := B133.all k159 (ap93.symm p1 rfl)
    have K177 := K134.trans k159 (Grew.ok (S := T_j) gr87 (fun _ x => x))
    have gr178 := Grew.trans gr87 K134 g160
    have B179 : Mks w157 (fun i => i = D155 ∨ T67 i) (D155 :: ms65) := B132.more k159 (ap92.symm) d158 m162
    have gr180 : Grew w0 noB (fun i => i = D155 ∨ T67 i) := fun i h => h.elim (fun e => .inr (by rw [e]; exact Nat.le_trans K134.size d158)) (fun h => gr88 i h)
    have ap181 : Apart (fun i => i = D155 ∨ T67 i) T156 := fun i h hq => h.elim (fun e => n163 (e ▸ hq)) (fun h => (ap168.symm) i h hq)
    have ap182 : Apart (fun i => i = D155 ∨ T67 i) (onB qf) := fun i h hq => h.elim (fun e => absurd ((onB_live B129.lt) i hq) (by rw [e]; exact Nat.not_lt.2 d158)) (fun h => ap94 i h hq)
    have ap183 : Apart (fun i => i = D155 ∨ T67 i) (onB ql) := fun i h hq => h.elim (fun e => absurd ((onB_live B130.lt) i hq) (by rw [e]; exact Nat.not_lt.2 d158)) (fun h => ap95 i h hq)
    have ap184 : Apart (fun i => i = D155 ∨ T67 i) (onB qb) := fun i h hq => h.elim (fun e => absurd ((onB_live B131.lt) i hq) (by rw [e]; exact Nat.not_lt.2 d158)) (fun h => ap96 i h hq)
    have ap185 : Apart (fun i => i = D155 ∨ T67 i) (onB p1) := fun i h hq => h.elim (fun e => absurd ((onB_live B133.lt) i hq) (by rw [e]; exact Nat.not_lt.2 d158)) (fun h => ap97 i h hq)
    have s187 : markV (D155 :: marksOf (F142 32)) = markV (D155 :: ms65) := by rw [show F142 32 = markV ms65 from s150, marksOf_markV]
    refine in_normal (then_normal (wq_region (wl_mv rfl rfl rfl s153 (wl_v (iv ((nxt b last a : Nat) : Int)) rfl rfl (y_asg rfl rfl rr) (wl_nil fun F188 hF189 => ?_)))))
    obtain ⟨s190, s191, s192, s193, s194, s195, s196⟩ := t7 hF189 0 s144 1 s145 2 s146 3 s147 4 s148 12 s149 32 s187
    have s197 : F188 5 = iv ((nxt b last a : Nat) : Int) := (hF189 5).trans rfl
    clear hF189
    refine in_normal ?_
    exact then_normal ⟨(last - (nxt b last a)), by omega, nxt b last a, o ++ stL a (nxt b last a), D155 :: ms65, T156, fun i => i = D155 ∨ T67 i, (nxt_mid (by omega) hm), (by omega), rfl, s190, s191, s192, s193, s194, s195, s196, s197, K177, B161, B171, B172, B173, B179, B175, gr178, gr180, ap165, ap166, ap167, ap181.symm, ap169, ap182, ap183, ap184, ap185⟩
   ·intro D198 T199 pre207 w200 d201 k202 g203 B204 m205 n206
    have ap211 : Apart T199 T67 := ap92.grew g203 B132.live
    have K220 := K134.trans k202 (Grew.ok (S := T_j) gr87 (fun _ x => x))
    have gr221 := Grew.trans gr87 K134 g203
    have B222 : Mks w200 (fun i => i = D198 ∨ T67 i) (D198 :: ms65) := B132.more k202 (ap92.symm) d201 m205
    have gr223 : Grew w0 noB (fun i => i = D198 ∨ T67 i) := fun i h => h.elim (fun e => .inr (by rw [e]; exact Nat.le_trans K134.size d201)) (fun h => gr88 i h)
    have ap224 : Apart (fun i => i = D198 ∨ T67 i) T199 := fun i h hq => h.elim (fun e => n206 (e ▸ hq)) (fun h => (ap211.symm) i h hq)
    have s230 : markV (D198 :: marksOf (F142 32)) = markV (D198 :: ms65) := by rw [show F142 32 = markV ms65 from s150, marksOf_markV]
    refine in_ret (then_ret (in_ret (then_ret (in_ret ?_))))
    obtain ⟨ho_, ks_⟩ := B222.shut
    have B231 := B204.all ks_ ap224.symm
    have B231_ := K220.trans ks_ (Grew.ok (S := T_j) gr223 noB_le)
    exact endm_none_ret (ms := D198 :: ms65) s230 ho_ rfl ⟨⟨_, rfl⟩, T199, B231_, gr221, Or.inr ⟨_, B231.1⟩⟩
  ·replace c109 := of_decide_eq_false c109
   refine wq_exit (then_exit (then_exit (in_here ?_)))
   obtain ⟨ho_, ks_⟩ := B85.shut
   have B232 := B81.all ks_ ap92
   have B232_ := K70.trans ks_ (Grew.ok (S := T_j) gr88 noB_le)
   exact endm_none (ms := ms65) s106 ho_ rfl ⟨⟨_, rfl⟩, T66, B232_, gr87, Or.inl (by rw [midL_no (by omega), List.append_nil] at hm; rw [← hm]; exact B232.1)⟩
 ·refine ⟨_, rfl, ?_⟩
  have B233 : Jth w28 T29 Jx (([]) ++ [⟨(f : Int), 0, -1, -1⟩]) := ⟨j32, sX⟩
  have ap237 : Apart T29 noB := ((show Apart noB T_j from fun _ h _ => h.elim).symm).grew g31 B18.live
  have B242 := B18.all k30 (fun i h x => ((show Apart noB T_j from fun _ h _ => h.elim) i h x))
  have K244 := K19.trans k30 (Grew.ok (S := T_j) (Grew.refl w0 T_j) (fun _ x => x))
  have gr245 := Grew.trans (Grew.refl w0 T_j) K19 g31
  refine wl_v (.bool true) rfl rfl (y_not rfl rfl rfl rr) (wl_nil fun F246 hF247 => ?_)
  have s252 := (hF247 32).trans s26
  have s254 : F246 12 = .bool true := (hF247 12).trans rfl
  clear hF247
  refine then_normal ?_
  refine wq_cond (t := true) s254 (fun _ => ?_) (fun e => by cases e)
  refine wq_ret (then_ret ?_)
  obtain ⟨ho_, ks_⟩ := B242.shut
  have B255 := B233.all ks_ ap237
  have B255_ := K244.trans ks_ (Grew.ok (S := T_j) (Grew.refl w0 noB) noB_le)
  exact endm_none_ret (ms := []) s252 ho_ rfl ⟨⟨_, rfl⟩, T29, B255_, gr245, Or.inr ⟨_, B255.1⟩⟩
theorem sqt_group {w : World} {f last b qf ql qb : Nat} (hl : last ≤ 300) (hb : b ≤ 3) (hf : f ≤ 300) (h1 : Cel w qf 3 (.int .i64 (f : Int))) (h2 : Cel w ql 3 (.int .i64 (last : Int))) (h3 : Cel w qb 3 (.int .i64 (b : Int))) : SqS w (fun i => (onB qf) i ∨ ((onB ql) i ∨ ((onB qb) i))) (.func (.func 27) #[] #[.pointer (some ⟨qf, 0, none⟩), .pointer (some ⟨ql, 0, none⟩), .pointer (some ⟨qb, 0, none⟩)]) (grL f last b) :=
  ⟨_, _, rfl, fun _ _ => by kernel_rfl, fun i hi => hi.elim (onB_live h1.lt i) (fun hi => hi.elim (onB_live h2.lt i) (onB_live h3.lt i)), fun S W k ha => gr_go f last b qf ql qb W hl hb hf (h1.all k (ha qf (.inl rfl))) (h2.all k (ha ql (.inr (.inl rfl)))) (h3.all k (ha qb (.inr (.inr rfl))))⟩
theorem od_group (f last b : Nat) (w0 : World) (hl : last ≤ 300) (hb : b ≤ 3) (hf : f ≤ 300) :
  Calls Try.prog 24 #[.int .i64 (((f : Nat) : Int)), .int .i64 (((last : Nat) : Int)), .int .i64 (((b : Nat) : Int))] w0 fun e w' => ∃ (v1 : Value) (T1 : Nat → Prop), e = .returned (v1) ∧ Kept (fun _ => False) w0 w' ∧ (SqS w' T1 v1 ((grL f last b)) ∧ Grew w0 noB T1) := by
 refine calls_wq (args := [iv ((f : Nat) : Int), iv ((last : Nat) : Int), iv ((b : Nat) : Int)]) 8 Try.func24 rfl rfl (Nat.le_of_ble_eq_true rfl) ?_
 have K0 := Kept.refl (fun _ => False) w0
 refine wq_seq (wq_region (wl_box_cel rfl rfl rfl rfl (by rfl) fun p1 w2 B5 g7 k3 => ?_))
 have gr8 : Grew w0 noB (onB p1) := Grew.new K0 g7
 have K9 := K0.tr k3
 refine wl_box_cel rfl rfl rfl rfl (by rfl) fun p10 w11 B14 g16 k12 => ?_
 have gr17 : Grew w0 noB (onB p10) := Grew.new K9 g16
 have B19 := B5.all k12 id
 have K20 := K9.tr k12
 refine wl_box_cel rfl rfl rfl rfl (by rfl) fun p21 w22 B25 g27 k23 => ?_
 have gr28 : Grew w0 noB (onB p21) := Grew.new K20 g27
 have B31 := B19.all k23 id
 have B32 := B14.all k23 id
 have K33 := K20.tr k23
 refine wl_v (Value.nilFunc) rfl rfl (y_asg rfl rfl rr) (wl_nil fun F34 hF35 => ?_)
 have s36 : F34 8 = undef := (hF35 8).trans rfl
 have s37 : F34 3 = pt p1 0 := (hF35 3).trans rfl
 have s38 : F34 4 = pt p10 0 := (hF35 4).trans rfl
 have s39 : F34 5 = pt p21 0 := (hF35 5).trans rfl
 clear hF35
 refine then_normal (wq_seq (wq_region (wl_v (.func (.func 27) #[] #[pt p1 0, pt p10 0, pt p21 0]) rfl rfl (y_fnc rfl (vsC s37 (vsC s38 (vsC s39 vsN))) rr) (wl_v (.func (.func 27) #[] #[pt p1 0, pt p10 0, pt p21 0]) rfl rfl (y_asg rfl rfl rr) (wl_nil fun F40 hF41 => ?_)))))
 have s42 := (hF41 8).trans s36
 have s43 : F40 6 = .func (.func 27) #[] #[pt p1 0, pt p10 0, pt p21 0] := (hF41 6).trans rfl
 clear hF41
 refine then_normal (wq_ret ?_)
 exact end_tmp (v := .func (.func 27) #[] #[pt p1 0, pt p10 0, pt p21 0]) s42 rfl rfl s43 ⟨(.func (.func 27) #[] #[pt p1 0, pt p10 0, pt p21 0]), (fun i => (onB p1) i ∨ ((onB p10) i ∨ ((onB p21) i))), rfl, K33, ⟨sqt_group hl hb hf B31 B32 B25, fun i h => h.elim (fun y => gr8 i y) (fun y => y.elim (fun y => gr17 i y) (fun y => gr28 i y))⟩⟩
theorem fi_go (n g b : Nat) (Q : Int) (qn qp : Nat) (w0 : World) (hn : n ≤ 200) (hg : 0 < g) (hg2 : g ≤ 16) (hb : b ≤ 3) (h_qn : Cel w0 qn 3 (.int .i64 (((n : Nat) : Int)))) (h_qp : Stc w0 qp 23 [.int .i64 (((g : Nat) : Int)), .int .i64 (((b : Nat) : Int)), .int .i64 (Q)]) : SeqT Try.prog 23 #[.pointer (some ⟨qn, 0, none⟩), .pointer (some ⟨qp, 0, none⟩)] (fun x : Sl => .agg (slV x).toArray) (outL n g b 0) w0 (fun i => (onB qn) i ∨ ((onB qp) i)) := by
 intro l J Jx T_j sJ sX h0 hap hY
 have h_j : Jth w0 T_j J [] := ⟨h0, sJ⟩
 have ap_qn : Apart T_j (onB qn) := fun i h e => hap i h (Or.inl e)
 have ap_qp : Apart T_j (onB qp) := fun i h e => hap i h (Or.inr e)
 refine calls_wm (args := [.func (.yield l) #[] #[], pt qn 0, pt qp 0]) 31 Try.func23 rfl rfl (Nat.le_of_ble_eq_true rfl) ?_
 have K0 := Kept.refl T_j w0
 have h_ms := Mks.nil w0
 refine wq_seq (wq_region (wl_box_fn rfl rfl rfl rfl fun p1 w2 B5 g7 k3 => ?_))
 have ap9 : Apart (onB p1) T_j := Apart.new g7 h_j.live
 have ap12 : Apart (onB p1) noB := Apart.new g7 h_ms.live
 have B13 := h_j.all k3 Apart.none
 have B14 := h_qn.all k3 id
 have B15 := h_qp.all k3 id
 have B16 := h_ms.all k3 Apart.none
 have K17 := K0.tr k3
 refine wl_nil fun F18 hF19 => ?_
 have s20 : F18 0 = .func (.yield l) #[] #[] := (hF19 0).trans rfl
 have s21 : F18 1 = pt qn 0 := (hF19 1).trans rfl
 have s22 : F18 2 = pt qp 0 := (hF19 2).trans rfl
 have s23 : F18 31 = markV [] := (hF19 31).trans rfl
 have s24 : F18 3 = pt p1 0 := (hF19 3).trans rfl
 clear hF19
 refine then_normal (wq_seq (wq_region (wl_v (iv 0) rfl rfl (y_asg rfl rfl rr) (wl_nil fun F25 hF26 => ?_))))
 obtain ⟨s27, s28, s29, s30, s31⟩ := t5 hF26 0 s20 1 s21 2 s22 31 s23 3 s24
 have s32 : F25 4 = iv 0 := (hF26 4).trans rfl
 clear hF26
 refine then_normal (wq_block (wq_loop (fun nn FF ww => ∃ (f : Nat), ∃ (o : List Sl), ∃ (ms33 : List Nat), ∃ (T34 : Nat → Prop), ∃ (T35 : Nat → Prop), (o ++ outL n g b f = outL n g b 0) ∧ (f ≤ 300) ∧ nn = n - f ∧ FF 0 = .func (.yield l) #[] #[] ∧ FF 1 = pt qn 0 ∧ FF 2 = pt qp 0 ∧ FF 3 = pt p1 0 ∧ FF 31 = markV ms33 ∧ FF 4 = iv ((f : Nat) : Int) ∧ Kept T_j w0 ww ∧ Jth ww T34 J o ∧ Cel ww qn 3 (iv ((n : Nat) : Int)) ∧ Stc ww qp 23 [iv ((g : Nat) : Int), iv ((b : Nat) : Int), iv Q] ∧ Mks ww T35 ms33 ∧ Cel ww p1 54 (.func (.yield l) #[] #[]) ∧ Grew w0 T_j T34 ∧ Grew w0 noB T35 ∧ Apart T34 (onB qn) ∧ Apart T34 (onB qp) ∧ Apart T34 T35 ∧ Apart T34 (onB p1) ∧ Apart T35 (onB qn) ∧ Apart T35 (onB qp) ∧ Apart T35 (onB p1)) (n - 0) ⟨0, [], [], T_j, noB, rfl, by omega, rfl, s27, s28, s29, s31, s30, s32, K17, B13, B14, B15, B16, B5, (Grew.refl w0 T_j), (Grew.refl w0 noB), ap_qn, ap_qp, (show Apart noB T_j from fun _ h _ => h.elim).symm, ap9.symm, (show Apart noB (onB qn) from fun _ h _ => h.elim), (show Apart noB (onB qp) from fun _ h _ => h.elim), ap12.symm⟩ ?_))
 rintro n39 F36 w37 ⟨f, o, ms33, T34, T35, ho, i40, hn39, s41, s42, s43, s44, s45, s46, K38, B47, B48, B49, B50, B51, gr52, gr53, ap54, ap55, ap56, ap57, ap58, ap59, ap60⟩
 refine wq_seq (wq_seq (wq_region (wl_mv rfl rfl rfl s46 (wl_v (iv ((n : Nat) : Int)) rfl rfl (y_load_cel rfl s42 Try.underlying3 B48 rfl rr) (wl_v (.bool (decide (((f : Nat) : Int) < ((n : Nat) : Int)))) rfl rfl (y_lss rfl rfl rfl rfl rr) (wl_nil fun F61 hF62 => ?_))))))
 obtain ⟨s63, s64, s65, s66, s67, s68⟩ := t6 hF62 0 s41 1 s42 2 s43 3 s44 31 s45 4 s46
 have s69 : F61 9 = .bool (decide (((f : Nat) : Int) < ((n : Nat) : Int))) := (hF62 9).trans rfl
 clear hF62
 refine then_normal ?_
 refine wq_cond s69 (fun c70 => ?_) (fun c70 => ?_)
 ·replace c70 := of_decide_eq_true c70
  refine wq_skip (then_normal (wq_seq (wq_block (wq_seq (wq_region (wl_mv rfl rfl rfl s68 (wl_v (pt qp 0) rfl rfl (y_fieldR (n := 1) rfl s65 Try.underlying23 rfl (by kernel_rfl) (by decide) rfl rr) (wl_v (iv ((g : Nat) : Int)) rfl rfl (y_ld_stc rfl rfl Try.underlying3 B49 rfl rfl rr) (wl_v (iv ((f + g : Nat) : Int)) rfl rfl (y_add rfl rfl rfl (i64_n (by omega) (by omega)) rr) (wl_v (iv ((n : Nat) : Int)) rfl rfl (y_load_cel rfl s64 Try.underlying3 B48 rfl rr) (wl_v (iv (min ((f + g : Nat) : Int) ((n : Nat) : Int))) rfl rfl (y_minR rfl rfl rfl rfl rr) ?_)))))))))))
  refine wl_v (iv ((min (f + g) n - 1 : Nat) : Int)) rfl rfl (y_sub rfl rfl rfl (i64_n (by omega) (by omega)) rr) (wl_v (iv ((min (f + g) n - 1 : Nat) : Int)) rfl rfl (y_asg rfl rfl rr) (wl_nil fun F71 hF72 => ?_))
  obtain ⟨s73, s74, s75, s76, s77, s78⟩ := t6 hF72 0 s63 1 s64 2 s65 3 s66 31 s67 4 s68
  have s80 : F71 5 = iv ((min (f + g) n - 1 : Nat) : Int) := (hF72 5).trans rfl
  clear hF72
  refine then_normal (wq_seq (wq_region (wl_mv rfl rfl rfl s78 (wl_mv rfl rfl rfl s80 (wl_v (pt qp 1) rfl rfl (y_fieldR (n := 1) rfl s75 Try.underlying23 rfl (by kernel_rfl) (by decide) rfl rr) (wl_v (iv ((b : Nat) : Int)) rfl rfl (y_ld_stc rfl rfl Try.underlying3 B49 rfl rfl rr) (wl_call (R := fun v_ w_ => ∃ (v81 : Value) (T84 : Nat → Prop), v81 = v_ ∧ Kept (fun _ => False) w37 w_ ∧ (SqS w_ T84 v81 (grL f (min (f + g) n - 1) b) ∧ Grew w37 noB T84)) rfl rfl (y_cs rfl rfl rfl (fun _ _ => by kernel_rfl) (ev_func _) (vsC rfl (vsC rfl (vsC rfl vsN))) (od_group f (min (f + g) n - 1) b  _ (by omega) (by omega) (by omega)  ) (fun e_ w_ h_ => by obtain ⟨v81_, T84_, he_, hr_⟩ := h_; exact ⟨_, he_, v81_, T84_, rfl, hr_⟩)) ?_)))))))
  rintro _ w82 ⟨v81, T84, rfl, k83, ⟨B85, g86⟩⟩
  have B87 := B47.all k83 Apart.none
  have B88 := B48.all k83 id
  have B89 := B49.all k83 id
  have B90 := B50.all k83 Apart.none
  have B91 := B51.all k83 id
  have K92 := K38.tr k83
  have ap94 : Apart T84 T34 := Apart.new g86 B47.live
  have ap98 : Apart T84 (onB p1) := Apart.new g86 (onB_live B51.lt)
  refine wl_nil fun F99 hF100 => ?_
  obtain ⟨s101, s102, s103, s104, s105, s106⟩ := t6 hF100 0 s73 1 s74 2 s75 3 s76 31 s77 4 s78
  have s109 : F99 25 = v81 := (hF100 25).trans rfl
  clear hF100
  refine then_normal (wq_block ?_)
  refine wq_fwd (us := slV) (zs := [iv 0, iv 0, iv 0, iv 0]) (n := 4) (o := o) (xs := grL f (min (f + g) n - 1) b) (all := outL n g b 0) (J := J) (Jx := Jx) (fun _ => stcT_slot) slV_one (by kernel_rfl) (fun _ => rfl) ⟨rfl, rfl, rfl⟩ ⟨rfl, rfl, rfl⟩ ⟨rfl, rfl, rfl⟩ ⟨rfl, rfl, rfl⟩ ⟨rfl, rfl, rfl⟩ ⟨rfl, rfl⟩ ⟨rfl, rfl, rfl⟩ (by decide) (by decide) Try.underlying54 rfl s109 B85 s104 B91 B87 sX ap94.symm ap57 ap98.symm (pre_out (by omega) hg ho) hY ?_ ?_
  ·intro D110 T111 w112 d113 k114 g115 B116 m117 n118
   have ap120 : Apart T111 (onB qn) := ap54.grew g115 (onB_live B88.lt)
   have ap121 : Apart T111 (onB qp) := ap55.grew g115 (onB_live B89.lt)
   have ap122 : Apart T111 T35 := ap56.grew g115 B90.live
   have ap123 : Apart T111 (onB p1) := ap57.grew g115 (onB_live B91.lt)
   have B125 := B88.all k114 (ap54.symm qn rfl)
   have B126 := B89.all k114 (ap55.symm qp rfl)
   have B128 := B91.all k114 (ap57.symm p1 rfl)
   have K130 := K92.trans k114 (Grew.ok (S := T_j) gr52 (fun _ x => x))
   have gr131 := Grew.trans gr52 K92 g115
   have B132 : Mks w112 (fun i => i = D110 ∨ T35 i) (D110 :: ms33) := B90.more k114 (ap56.symm) d113 m117
   have gr133 : Grew w0 noB (fun i => i = D110 ∨ T35 i) := fun i h => h.elim (fun e => .inr (by rw [e]; exact Nat.le_trans K92.size d113)) (fun h => gr53 i h)
   have ap134 : Apart (fun i => i = D110 ∨ T35 i) T111 := fun i h hq => h.elim (fun e => n118 (e ▸ hq)) (fun h => (ap122.symm) i h hq)
   have ap135 : Apart (fun i => i = D110 ∨ T35 i) (onB qn) := fun i h hq => h.elim (fun e => absurd ((onB_live B88.lt) i hq) (by rw [e]; exact Nat.not_lt.2 d113)) (fun h => ap58 i h hq)
   have ap136 : Apart (fun i => i = D110 ∨ T35 i) (onB qp) := fun i h hq => h.elim (fun e => absurd ((onB_live B89.lt) i hq) (by rw [e]; exact Nat.not_lt.2 d113)) (fun h => ap59 i h hq)
   have ap137 : Apart (fun i => i = D110 ∨ T35 i) (onB p1) := fun i h hq => h.elim (fun e => absurd ((onB_live B91.lt) i hq) (by rw [e]; exact Nat.not_lt.2 d113)) (fun h => ap60 i h hq)
   have s139 : markV (D110 :: marksOf (F99 31)) = markV (D110 :: ms33) := by rw [show F99 31 = markV ms33 from s105, marksOf_markV]
   refine in_normal (in_normal (then_normal (wq_region (wl_mv rfl rfl rfl s106 (wl_v (pt qp 0) rfl rfl (y_fieldR (n := 1) rfl s103 Try.underlying23 rfl (by kernel_rfl) (by decide) rfl rr) (wl_v (iv ((g : Nat) : Int)) rfl rfl (y_ld_stc rfl rfl Try.underlying3 B126 rfl rfl rr) (wl_v (iv ((f + g : Nat) : Int)) rfl rfl (y_add rfl rfl rfl (i64_n (by omega) (by omega)) rr) (wl_v (iv ((f + g : Nat) : Int)) rfl rfl (y_asg rfl rfl rr) (wl_nil fun F140 hF141 => ?_)))))))))
   obtain ⟨s142, s143, s144, s145, s146⟩ := t5 hF141 0 s101 1 s102 2 s103 3 s104 31 s139
   have s147 : F140 4 = iv ((f + g : Nat) : Int) := (hF141 4).trans rfl
   clear hF141
   exact then_normal ⟨(n - (f + g)), by omega, f + g, o ++ grL f (min (f + g) n - 1) b, D110 :: ms33, T111, fun i => i = D110 ∨ T35 i, (nxt_out (by omega) hg ho), by omega, rfl, s142, s143, s144, s145, s146, s147, K130, B116, B125, B126, B132, B128, gr131, gr133, ap120, ap121, ap134.symm, ap123, ap135, ap136, ap137⟩
  ·intro D148 T149 pre157 w150 d151 k152 g153 B154 m155 n156
   have ap160 : Apart T149 T35 := ap56.grew g153 B90.live
   have K168 := K92.trans k152 (Grew.ok (S := T_j) gr52 (fun _ x => x))
   have gr169 := Grew.trans gr52 K92 g153
   have B170 : Mks w150 (fun i => i = D148 ∨ T35 i) (D148 :: ms33) := B90.more k152 (ap56.symm) d151 m155
   have gr171 : Grew w0 noB (fun i => i = D148 ∨ T35 i) := fun i h => h.elim (fun e => .inr (by rw [e]; exact Nat.le_trans K92.size d151)) (fun h => gr53 i h)
   have ap172 : Apart (fun i => i = D148 ∨ T35 i) T149 := fun i h hq => h.elim (fun e => n156 (e ▸ hq)) (fun h => (ap160.symm) i h hq)
   have s177 : markV (D148 :: marksOf (F99 31)) = markV (D148 :: ms33) := by rw [show F99 31 = markV ms33 from s105, marksOf_markV]
   refine in_ret (in_ret (then_ret (then_ret (in_ret ?_))))
   obtain ⟨ho_, ks_⟩ := B170.shut
   have B178 := B154.all ks_ ap172.symm
   have B178_ := K168.trans ks_ (Grew.ok (S := T_j) gr171 noB_le)
   exact endm_none_ret (ms := D148 :: ms33) s177 ho_ rfl ⟨⟨_, rfl⟩, T149, B178_, gr169, Or.inr ⟨_, B178.1⟩⟩
 ·replace c70 := of_decide_eq_false c70
  refine wq_exit (then_exit (then_exit (in_here ?_)))
  obtain ⟨ho_, ks_⟩ := B50.shut
  have B179 := B47.all ks_ ap56
  have B179_ := K38.trans ks_ (Grew.ok (S := T_j) gr53 noB_le)
  exact endm_none (ms := ms33) s67 ho_ rfl ⟨⟨_, rfl⟩, T34, B179_, gr52, Or.inl (by rw [outL_no (by omega), List.append_nil] at ho; rw [← ho]; exact B179.1)⟩
theorem sqt_film {w : World} {n g b qn qp : Nat} {Q : Int} (hn : n ≤ 200) (hg : 0 < g) (hg2 : g ≤ 16) (hb : b ≤ 3) (h1 : Cel w qn 3 (.int .i64 (n : Int))) (h2 : Stc w qp 23 [.int .i64 (g : Int), .int .i64 (b : Int), .int .i64 Q]) : SqS w (fun i => (onB qn) i ∨ (onB qp) i) (.func (.func 23) #[] #[.pointer (some ⟨qn, 0, none⟩), .pointer (some ⟨qp, 0, none⟩)]) (outL n g b 0) :=
  ⟨_, _, rfl, fun _ _ => by kernel_rfl, fun i hi => hi.elim (onB_live h1.lt i) (onB_live h2.lt i), fun S W k ha => fi_go n g b Q qn qp W hn hg hg2 hb (h1.all k (ha qn (.inl rfl))) (h2.all k (ha qp (.inr rfl)))⟩
theorem sqt_filmI {w : World} {n G B Q : Int} {qn qp : Nat} (hn : 1 ≤ n ∧ n ≤ 200) (hg : 1 ≤ G ∧ G ≤ 16) (hb : 0 ≤ B ∧ B ≤ 3) (h1 : Cel w qn 3 (.int .i64 n)) (h2 : Stc w qp 23 [.int .i64 G, .int .i64 B, .int .i64 Q]) : SqS w (fun i => (onB qn) i ∨ (onB qp) i) (.func (.func 23) #[] #[.pointer (some ⟨qn, 0, none⟩), .pointer (some ⟨qp, 0, none⟩)]) (outL n.toNat G.toNat B.toNat 0) := by
  obtain ⟨n, rfl⟩ : ∃ k : Nat, n = (k : Int) := ⟨n.toNat, by omega⟩
  obtain ⟨g, rfl⟩ : ∃ k : Nat, G = (k : Int) := ⟨G.toNat, by omega⟩
  obtain ⟨b, rfl⟩ : ∃ k : Nat, B = (k : Int) := ⟨B.toNat, by omega⟩
  rw [Int.toNat_natCast, Int.toNat_natCast, Int.toNat_natCast]
  exact sqt_film (by omega) (by omega) (by omega) (by omega) h1 h2
theorem od_film (n G B Q : Int) (w0 : World) (hn : 1 ≤ n ∧ n ≤ 200) (hg : 1 ≤ G ∧ G ≤ 16) (hb : 0 ≤ B ∧ B ≤ 3) :
  Calls Try.prog 18 #[.int .i64 (n), .agg #[.int .i64 (G), .int .i64 (B), .int .i64 (Q)]] w0 fun e w' => ∃ (v1 : Value) (T1 : Nat → Prop), e = .returned (v1) ∧ Kept (fun _ => False) w0 w' ∧ (SqS w' T1 v1 ((outL n.toNat G.toNat B.toNat 0)) ∧ Grew w0 noB T1) := by
 refine calls_wq (args := [iv n, .agg #[iv G, iv B, iv Q]]) 6 Try.func18 rfl rfl (Nat.le_of_ble_eq_true rfl) ?_
 have K0 := Kept.refl (fun _ => False) w0
 refine wq_seq (wq_region (wl_box_cel rfl rfl rfl rfl (by rfl) fun p1 w2 B5 g7 k3 => ?_))
 have gr8 : Grew w0 noB (onB p1) := Grew.new K0 g7
 have K9 := K0.tr k3
 refine wl_box_stc (vs := [iv G, iv B, iv Q]) rfl rfl rfl rfl fun p10 w11 B13 g14 k12 => ?_
 have gr15 : Grew w0 noB (onB p10) := Grew.new K9 g14
 have B17 := B5.all k12 id
 have K18 := K9.tr k12
 refine wl_v (Value.nilFunc) rfl rfl (y_asg rfl rfl rr) (wl_nil fun F19 hF20 => ?_)
 have s21 : F19 6 = undef := (hF20 6).trans rfl
 have s22 : F19 2 = pt p1 0 := (hF20 2).trans rfl
 have s23 : F19 3 = pt p10 0 := (hF20 3).trans rfl
 clear hF20
 refine then_normal (wq_seq (wq_region (wl_v (.func (.func 23) #[] #[pt p1 0, pt p10 0]) rfl rfl (y_fnc rfl (vsC s22 (vsC s23 vsN)) rr) (wl_v (.func (.func 23) #[] #[pt p1 0, pt p10 0]) rfl rfl (y_asg rfl rfl rr) (wl_nil fun F24 hF25 => ?_)))))
 have s26 := (hF25 6).trans s21
 have s27 : F24 4 = .func (.func 23) #[] #[pt p1 0, pt p10 0] := (hF25 4).trans rfl
 clear hF25
 refine then_normal (wq_ret ?_)
 exact end_tmp (v := .func (.func 23) #[] #[pt p1 0, pt p10 0]) s26 rfl rfl s27 ⟨(.func (.func 23) #[] #[pt p1 0, pt p10 0]), (fun i => (onB p1) i ∨ ((onB p10) i)), rfl, K18, ⟨sqt_filmI hn hg hb B17 B13, fun i h => h.elim (fun y => gr8 i y) (fun y => gr15 i y)⟩⟩
end Go.Proofs.Ythoafgfcoclkbaa
set_option maxRecDepth 100000
namespace Go.Proofs.Ythoafgfcoclkbaa
open Go.RowKit
theorem rSl_all (x : Sl) : OneAll (rSl.enc x) := slV_one x
theorem od_slots (N G B Q : Int) (w0 : World) :
  Calls Try.prog 9 #[.int .i64 (N), .agg #[.int .i64 (G), .int .i64 (B), .int .i64 (Q)]] w0 fun e w' => ∃ (v1 : Value) (T1 : Nat → Prop), e = .returned (.tuple #[v1, .int .i64 (slE N G B Q)]) ∧ Kept (fun _ => False) w0 w' ∧ (RoO rSl w' T1 v1 ((slL N G B Q)) ∧ Grew w0 noB T1) := by
 refine calls_wm (args := [iv N, .agg #[iv G, iv B, iv Q]]) 28 Try.func9 rfl rfl (Nat.le_of_ble_eq_true rfl) ?_
 have K0 := Kept.refl (fun _ => False) w0
 refine wq_seq (wq_region (wl_box_stc (vs := [iv G, iv B, iv Q]) rfl rfl rfl rfl fun p1 w2 B4 g5 k3 => ?_))
 have K7 := K0.tr k3
 refine wl_v (.slice none 0 0) rfl rfl (y_asg rfl rfl rr) (wl_v (iv 0) rfl rfl (y_asg rfl rfl rr) (wl_nil fun F8 hF9 => ?_))
 have s10 : F8 0 = iv N := (hF9 0).trans rfl
 have s12 : F8 28 = undef := (hF9 28).trans rfl
 have s13 : F8 3 = pt p1 0 := (hF9 3).trans rfl
 clear hF9
 refine then_normal (wq_seq (wq_seq (wq_region (wl_v (.agg #[iv G, iv B, iv Q]) rfl rfl (y_load_stc stcT_plan rfl s13 B4 rr) (wl_cs rfl rfl rfl rfl rfl (fun _ _ => by kernel_rfl) (vsC rfl vsN) (od_check G B Q  _   ) fun w16 k17 => ?_)))))
 have B18 := B4.all k17 id
 have K19 := K7.tr k17
 refine wl_v (iv (planE G B Q)) rfl rfl (y_asg rfl rfl rr) (wl_nil fun F20 hF21 => ?_)
 obtain ⟨s22, s24, s25⟩ := t3 hF21 0 s10 28 s12 3 s13
 have s28 : F20 6 = iv (planE G B Q) := (hF21 6).trans rfl
 clear hF21
 refine then_normal (wq_seq (wq_region (wl_mv rfl rfl rfl s28 (wl_v (.bool (decide ((planE G B Q) ≠ 0))) rfl rfl (y_neqI rfl rfl rfl rfl rr) (wl_nil fun F29 hF30 => ?_)))))
 obtain ⟨s31, s33, s34, s37⟩ := t4 hF30 0 s22 28 s24 3 s25 6 s28
 have s38 : F29 12 = .bool (decide ((planE G B Q) ≠ 0)) := (hF30 12).trans rfl
 clear hF30
 refine then_normal ?_
 refine wq_cond s38 (fun c39 => ?_) (fun c39 => ?_)
 ·replace c39 := of_decide_eq_true c39
  refine wq_seq ?_
  have hno : ¬ slOk N G B Q := fun z => by have z1 := planE_iff.2 z.1; omega
  have hR := And.intro (slL_no hno) (slE_no hno)
  have he : planE G B Q = 150 := by by_cases z : planOk G B Q; (exact absurd (planE_iff.2 z) (by assumption)); exact if_neg z
  refine wq_region (wl_mv rfl rfl rfl s37 (wl_v (.slice none 0 0) rfl rfl (y_asg rfl rfl rr) (wl_v (iv (planE G B Q)) rfl rfl (y_asg rfl rfl rr) (wl_nil fun F40 hF41 => ?_))))
  have s42 := (hF41 28).trans s33
  have s43 : F40 4 = .slice none 0 0 := (hF41 4).trans rfl
  have s44 : F40 5 = iv (planE G B Q) := (hF41 5).trans rfl
  clear hF41
  refine then_normal (wq_ret (then_ret ?_))
  exact endm_2 (ms := []) (Eq.trans s42 (rfl : undef = markV [])) trivial rfl (res_tmp (v := .slice none 0 0) rfl s43) (res_tmp (v := iv (planE G B Q)) rfl s44) ⟨(.slice none 0 0), noB, (by first | rw [hR.2, he] | rw [hR.2]), K19, ⟨(by rw [hR.1]; exact (RoO.nil rSl _)), (Grew.refl _ _)⟩⟩
 ·replace c39 := of_decide_eq_false c39
  refine wq_skip (then_normal (wq_seq (wq_seq ?_)))
  have hpl := planE_iff.1 (by first | assumption | (apply Decidable.byContradiction; assumption))
  have hpk := hpl
  unfold planOk at hpk
  by_cases d45 : 1 ≤ N ∧ N ≤ 200
  ·skip
   refine wq_region (wl_mv rfl rfl rfl s31 (wl_call (R := fun v_ w_ => v_ = .bool true ∧ Kept (fun _ => False) w16 w_) rfl rfl (y_cs rfl rfl rfl (fun _ _ => by kernel_rfl) (ev_func _) (vsC rfl (vsC rfl (vsC rfl vsN))) (od_within N 1 200  _   ) (fun e_ w_ h_ => ⟨_, h_.1, (congrArg Value.bool (decide_eq_true d45)), h_.2⟩)) ?_))
   rintro _ w46 ⟨rfl, k47⟩
   have B48 := B18.all k47 id
   have K49 := K19.tr k47
   refine wl_v (.bool false) rfl rfl (y_not rfl rfl rfl rr) (wl_nil fun F50 hF51 => ?_)
   obtain ⟨s52, s54, s55⟩ := t3 hF51 0 s31 28 s33 3 s34
   have s60 : F50 16 = .bool false := (hF51 16).trans rfl
   clear hF51
   refine then_normal ?_
   refine wq_cond (t := false) s60 (fun e => by cases e) (fun _ => ?_)
   refine wq_skip (then_normal (wq_seq ?_))
   have hok : slOk N G B Q := ⟨hpl, by omega⟩
   have hnk := hok.2
   have hR := And.intro (slL_yes hok) (slE_yes hok)
   have hln := outL_len N.toNat G.toNat B.toNat (by omega) _ 0 rfl
   refine wq_region (wl_mv rfl rfl rfl s52 ?_)
   refine wl_op rfl rfl (y_makeRo0 (r := rSl) (c := N.toNat) rfl rfl rfl (by omega) (by omega) (by omega) fun v61 w62 T66 B64 g65 k63 => ?_)
   have gr67 : Grew w0 noB T66 := Grew.new K49 g65
   have B69 := B48.all k63 id
   have K70 := K49.tr k63
   refine wl_alloc_cel (v := .slice none 0 0) rfl rfl rfl (by kernel_rfl) rfl fun p71 w72 B75 g77 k73 => ?_
   have gr78 : Grew w0 noB (onB p71) := Grew.new K70 g77
   have ap79 : Apart (onB p71) (onB p1) := Apart.new g77 (onB_live B69.lt)
   have ap80 : Apart (onB p71) T66 := Apart.new g77 B64.live
   have B81 := B69.all k73 id
   have B82 := B64.all k73 Apart.none
   have K83 := K70.tr k73
   refine wl_store_cel rfl rfl rfl rfl rfl B75 B82.oneC (by kernel_rfl) fun w84 B85 k86 => ?_
   have B87 := B81.all k86 (ap79.symm p1 rfl)
   have B88 := B82.all k86 ap80.symm
   have K89 := K83.trans k86 (Grew.ok (S := fun _ => False) gr78 noB_le)
   refine wl_nil fun F90 hF91 => ?_
   obtain ⟨s92, s94, s95⟩ := t3 hF91 0 s52 28 s54 3 s55
   have s101 : F90 7 = pt p71 0 := (hF91 7).trans rfl
   clear hF91
   refine then_normal (wq_seq (wq_seq (wq_region (wl_mv rfl rfl rfl s92 (wl_v (.agg #[iv G, iv B, iv Q]) rfl rfl (y_load_stc stcT_plan rfl s95 B87 rr) (wl_call (R := fun v_ w_ => ∃ (v102 : Value) (T105 : Nat → Prop), v102 = v_ ∧ Kept (fun _ => False) w84 w_ ∧ (SqS w_ T105 v102 (outL N.toNat G.toNat B.toNat 0) ∧ Grew w84 noB T105)) rfl rfl (y_cs rfl rfl rfl (fun _ _ => by kernel_rfl) (ev_func _) (vsC rfl (vsC rfl vsN)) (od_film N G B Q  _ (by omega) (by omega) (by omega)  ) (fun e_ w_ h_ => by obtain ⟨v102_, T105_, he_, hr_⟩ := h_; exact ⟨_, he_, v102_, T105_, rfl, hr_⟩)) ?_))))))
   rintro _ w103 ⟨v102, T105, rfl, k104, ⟨B106, g107⟩⟩
   have B109 := B88.all k104 Apart.none
   have B110 := B85.all k104 id
   have K111 := K89.tr k104
   have ap114 : Apart T105 T66 := Apart.new g107 B88.live
   have ap115 : Apart T105 (onB p71) := Apart.new g107 (onB_live B85.lt)
   refine wl_nil fun F116 hF117 => ?_
   obtain ⟨s120, s127⟩ := t2 hF117 28 s94 7 s101
   have s128 : F116 21 = v102 := (hF117 21).trans rfl
   clear hF117
   refine then_normal (wq_block (wq_coll (r := rSl) (zs := [iv 0, iv 0, iv 0, iv 0]) (n := 4) (o := []) (xs := outL N.toNat G.toNat B.toNat 0) (fun _ => stcT_slot) (fun x => rSl_all x) (by kernel_rfl) (fun _ => rfl) ⟨rfl, rfl, rfl⟩ ⟨rfl, rfl, rfl⟩ ⟨rfl, rfl, rfl⟩ ⟨rfl, rfl, rfl⟩ ⟨rfl, rfl, rfl⟩ ⟨rfl, rfl, rfl⟩ ⟨rfl, rfl, rfl⟩ (by kernel_rfl) (by decide) (by decide) (by decide) s128 B106 s127 B110 B109 ap80 ap114.symm ap115.symm (by rw [hln]; simp; omega) ?_))
   intro D129 v130 T131 w132 d133 k134 g135 B136 B137 ap138 m139 n140
   have K145 := K111.trans k134 (fun i hi x => (x.elim (fun y => ((Grew.ok (S := fun _ => False) gr78 noB_le) i hi y)) (fun y => ((Grew.ok (S := fun _ => False) gr67 noB_le) i hi y))))
   have gr146 := Grew.trans gr67 K111 g135
   have gr147 : Grew w0 noB (onB D129) := onB_new (Nat.le_trans K111.size d133)
   have ap151 : Apart (onB D129) T131 := fun i e h => n140 (e ▸ h)
   have s152 : markV (D129 :: marksOf (F116 28)) = markV [D129] := congrArg (fun z => markV (D129 :: marksOf z)) s120
   refine in_normal (then_normal (wq_seq (wq_region (wl_v v130 rfl rfl (y_load_cel rfl s127 Try.underlying26 B136 rfl rr) (wl_v v130 rfl rfl (y_asg rfl rfl rr) (wl_v (iv 0) rfl rfl (y_asg rfl rfl rr) (wl_nil fun F153 hF154 => ?_)))))))
   have s155 := (hF154 28).trans s152
   have s156 : F153 4 = v130 := (hF154 4).trans rfl
   have s157 : F153 5 = iv 0 := (hF154 5).trans rfl
   clear hF154
   refine then_normal (wq_ret ?_)
   have k158 := kept_shut w132 D129
   have B163 := B137.all k158 ap151.symm
   have K159 := K145.trans k158 (Grew.ok (S := fun _ => False) gr147 noB_le)
   exact endm_2 (ms := [D129]) s155 m139.opens rfl (res_tmp (v := v130) rfl s156) (res_tmp (v := iv 0) rfl s157) ⟨v130, T131, (by first | rw [hR.2, he] | rw [hR.2]), K159, ⟨(by rw [hR.1]; exact B163), gr146⟩⟩
  ·skip
   refine wq_region (wl_mv rfl rfl rfl s31 (wl_call (R := fun v_ w_ => v_ = .bool false ∧ Kept (fun _ => False) w16 w_) rfl rfl (y_cs rfl rfl rfl (fun _ _ => by kernel_rfl) (ev_func _) (vsC rfl (vsC rfl (vsC rfl vsN))) (od_within N 1 200  _   ) (fun e_ w_ h_ => ⟨_, h_.1, (congrArg Value.bool (decide_eq_false d45)), h_.2⟩)) ?_))
   rintro _ w164 ⟨rfl, k165⟩
   have K167 := K19.tr k165
   refine wl_v (.bool true) rfl rfl (y_not rfl rfl rfl rr) (wl_nil fun F168 hF169 => ?_)
   have s172 := (hF169 28).trans s33
   have s178 : F168 16 = .bool true := (hF169 16).trans rfl
   clear hF169
   refine then_normal ?_
   refine wq_cond (t := true) s178 (fun _ => ?_) (fun e => by cases e)
   refine wq_seq ?_
   have hno : ¬ slOk N G B Q := fun z => by have z2 := z.2; omega
   have hR := And.intro (slL_no hno) (slE_no hno)
   refine wq_region (wl_v (.slice none 0 0) rfl rfl (y_asg rfl rfl rr) (wl_v (iv 150) rfl rfl (y_asg rfl rfl rr) (wl_nil fun F179 hF180 => ?_)))
   have s181 := (hF180 28).trans s172
   have s182 : F179 4 = .slice none 0 0 := (hF180 4).trans rfl
   have s183 : F179 5 = iv 150 := (hF180 5).trans rfl
   clear hF180
   refine then_normal (wq_ret (then_ret ?_))
   exact endm_2 (ms := []) (Eq.trans s181 (rfl : undef = markV [])) trivial rfl (res_tmp (v := .slice none 0 0) rfl s182) (res_tmp (v := iv 150) rfl s183) ⟨(.slice none 0 0), noB, (by first | rw [hR.2, he] | rw [hR.2]), K167, ⟨(by rw [hR.1]; exact (RoO.nil rSl _)), (Grew.refl _ _)⟩⟩
end Go.Proofs.Ythoafgfcoclkbaa
set_option maxRecDepth 100000
namespace Go.Proofs.Ythoafgfcoclkbaa
open Go.RowKit
theorem odawake_any (w0 : World) :
  Calls Try.prog 8 #[] w0 fun e w' => e = .returned (.bool true) ∧ Kept (fun _ => False) w0 w' := by
 refine calls_wq (args := []) 101 Try.func8 rfl rfl (Nat.le_of_ble_eq_true rfl) ?_
 have K0 := Kept.refl (fun _ => False) w0
 have hE := ex_slE
 have hN := show shN [0, 2, 1, 4, 3] = 2 from ex_N
 have hF := show shE [0, 2, 1, 4, 3] = 0 from ex_E
 have hG := show shE [0, 0] = 150 from shE_no ex_bad
 have hP := show planE 0 0 0 = 150 from rfl
 have hl1 : ([⟨0, 0, -1, -1⟩, ⟨2, 1, 0, -1⟩, ⟨1, 2, 0, 2⟩, ⟨4, 1, 2, -1⟩, ⟨3, 2, 2, 4⟩] : List Sl).length = 5 := rfl
 have hl2 : ([0, 2, 1, 4, 3] : List Int).length = 5 := rfl
 refine wq_seq (wq_region (wl_v (.bool false) rfl rfl (y_asg rfl rfl rr) (wl_nil fun F1 hF2 => ?_)))
 have s3 : F1 101 = undef := (hF2 101).trans rfl
 clear hF2
 refine then_normal (wq_seq (wq_region (wl_v (.agg #[iv 5, iv 1, iv 0]) rfl rfl (y_buildL (l' := [(0, iv 5), (1, iv 1)]) (cells := #[iv 5, iv 1, iv 0]) rfl (bpC rfl (bpC rfl bpN)) (by kernel_rfl) rfl rr) (wl_call (R := fun v_ w_ => ∃ (v4 : Value) (T7 : Nat → Prop), .tuple #[v4, iv (slE 5 5 1 0)] = v_ ∧ Kept (fun _ => False) w0 w_ ∧ (RoO rSl w_ T7 v4 (slL 5 5 1 0) ∧ Grew w0 noB T7)) rfl rfl (y_cs rfl rfl rfl (fun _ _ => by kernel_rfl) (ev_func _) (vsC rfl (vsC rfl vsN)) (od_slots 5 5 1 0  _   ) (fun e_ w_ h_ => by obtain ⟨v4_, T7_, he_, hr_⟩ := h_; exact ⟨_, he_, v4_, T7_, rfl, hr_⟩)) ?_))))
 rintro _ w5 ⟨v4, T7, rfl, k6, ⟨B8, g9⟩⟩
 have K10 := K0.tr k6
 refine wl_v (.tuple #[v4, iv (slE 5 5 1 0)]) rfl rfl (y_mov rfl rfl rr) (wl_v v4 rfl rfl (y_ext rfl rfl rfl rr) (wl_v (iv (slE 5 5 1 0)) rfl rfl (y_ext rfl rfl rfl rr) (wl_v v4 rfl rfl (y_asg rfl rfl rr) (wl_v (iv (slE 5 5 1 0)) rfl rfl (y_asg rfl rfl rr) (wl_nil fun F12 hF13 => ?_)))))
 have s14 := (hF13 101).trans s3
 have s15 : F12 1 = v4 := (hF13 1).trans rfl
 have s16 : F12 2 = iv (slE 5 5 1 0) := (hF13 2).trans rfl
 clear hF13
 refine then_normal (wq_seq (wq_region (wl_builtRo (r := rInt) (xs := [.const (iv 0), .const (iv 2), .const (iv 1), .const (iv 4), .const (iv 3)]) (vs := [iv 0, iv 2, iv 1, iv 4, iv 3]) (l := [0, 2, 1, 4, 3]) rfl rfl rfl rfl rfl (vsC rfl (vsC rfl (vsC rfl (vsC rfl (vsC rfl vsN))))) rfl (by first | decide | exact Nat.le_of_ble_eq_true rfl) (by first | decide | exact Nat.le_of_ble_eq_true rfl) fun v17 w18 T22 B20 g21 k19 => ?_)))
 have B25 := B8.all k19 Apart.none
 have K26 := K10.tr k19
 refine wl_call (R := fun v_ w_ => ∃ (v27 : Value) (T30 : Nat → Prop), .tuple #[v27, iv (shN ([0, 2, 1, 4, 3])), iv (shE ([0, 2, 1, 4, 3]))] = v_ ∧ Kept (fun _ => False) w18 w_ ∧ (RoO rInt w_ T30 v27 (shL ([0, 2, 1, 4, 3])) ∧ Grew w18 noB T30)) rfl rfl (y_cs rfl rfl rfl (fun _ _ => by kernel_rfl) (ev_func _) (vsC rfl vsN) (od_show v17 ([0, 2, 1, 4, 3]) T22 _  B20.roa ) (fun e_ w_ h_ => by obtain ⟨v27_, T30_, he_, hr_⟩ := h_; exact ⟨_, he_, v27_, T30_, rfl, hr_⟩)) ?_
 rintro _ w28 ⟨v27, T30, rfl, k29, ⟨B31, g32⟩⟩
 have B33 := B25.all k29 Apart.none
 have K35 := K26.tr k29
 refine wl_v (.tuple #[v27, iv (shN ([0, 2, 1, 4, 3])), iv (shE ([0, 2, 1, 4, 3]))]) rfl rfl (y_mov rfl rfl rr) (wl_v v27 rfl rfl (y_ext rfl rfl rfl rr) (wl_v (iv (shN ([0, 2, 1, 4, 3]))) rfl rfl (y_ext rfl rfl rfl rr) (wl_v (iv (shE ([0, 2, 1, 4, 3]))) rfl rfl (y_ext rfl rfl rfl rr) (wl_v v27 rfl rfl (y_asg rfl rfl rr) (wl_v (iv (shN ([0, 2, 1, 4, 3]))) rfl rfl (y_asg rfl rfl rr) (wl_v (iv (shE ([0, 2, 1, 4, 3]))) rfl rfl (y_asg rfl rfl rr) (wl_nil fun F39 hF40 => ?_)))))))
 obtain ⟨s41, s42, s43⟩ := t3 hF40 101 s14 1 s15 2 s16
 have s44 : F39 3 = v27 := (hF40 3).trans rfl
 have s45 : F39 4 = iv (shN ([0, 2, 1, 4, 3])) := (hF40 4).trans rfl
 have s46 : F39 5 = iv (shE ([0, 2, 1, 4, 3])) := (hF40 5).trans rfl
 clear hF40
 refine then_normal (wq_seq (wq_region (wl_builtRo (r := rInt) (xs := [.const (iv 0), .const (iv 0)]) (vs := [iv 0, iv 0]) (l := [0, 0]) rfl rfl rfl rfl rfl (vsC rfl (vsC rfl vsN)) rfl (by first | decide | exact Nat.le_of_ble_eq_true rfl) (by first | decide | exact Nat.le_of_ble_eq_true rfl) fun v47 w48 T52 B50 g51 k49 => ?_)))
 have B57 := B33.all k49 Apart.none
 have B59 := B31.all k49 Apart.none
 have K60 := K35.tr k49
 refine wl_call (R := fun v_ w_ => ∃ (v61 : Value) (T64 : Nat → Prop), .tuple #[v61, iv (shN ([0, 0])), iv (shE ([0, 0]))] = v_ ∧ Kept (fun _ => False) w48 w_ ∧ (RoO rInt w_ T64 v61 (shL ([0, 0])) ∧ Grew w48 noB T64)) rfl rfl (y_cs rfl rfl rfl (fun _ _ => by kernel_rfl) (ev_func _) (vsC rfl vsN) (od_show v47 ([0, 0]) T52 _  B50.roa ) (fun e_ w_ h_ => by obtain ⟨v61_, T64_, he_, hr_⟩ := h_; exact ⟨_, he_, v61_, T64_, rfl, hr_⟩)) ?_
 rintro _ w62 ⟨v61, T64, rfl, k63, ⟨B65, g66⟩⟩
 have B67 := B57.all k63 Apart.none
 have B69 := B59.all k63 Apart.none
 have K71 := K60.tr k63
 refine wl_v (.tuple #[v61, iv (shN ([0, 0])), iv (shE ([0, 0]))]) rfl rfl (y_mov rfl rfl rr) (wl_v v61 rfl rfl (y_ext rfl rfl rfl rr) (wl_v (iv (shN ([0, 0]))) rfl rfl (y_ext rfl rfl rfl rr) (wl_v (iv (shE ([0, 0]))) rfl rfl (y_ext rfl rfl rfl rr) (wl_v v61 rfl rfl (y_asg rfl rfl rr) (wl_v (iv (shN ([0, 0]))) rfl rfl (y_asg rfl rfl rr) (wl_v (iv (shE ([0, 0]))) rfl rfl (y_asg rfl rfl rr) (wl_nil fun F77 hF78 => ?_)))))))
 obtain ⟨s79, s80, s81, s82, s83, s84⟩ := t6 hF78 101 s41 1 s42 2 s43 3 s44 4 s45 5 s46
 have s85 : F77 8 = iv (shE ([0, 0])) := (hF78 8).trans rfl
 clear hF78
 refine then_normal (wq_seq (wq_seq ?_))
 have B86 : RoO rSl w62 T7 v4 ([⟨0, 0, -1, -1⟩, ⟨2, 1, 0, -1⟩, ⟨1, 2, 0, 2⟩, ⟨4, 1, 2, -1⟩, ⟨3, 2, 2, 4⟩] : List Sl) := (by rw [← ex_sl]; exact B67)
 have B87 : RoO rInt w62 T30 v27 ([0, 2, 1, 4, 3] : List Int) := (by have z_ := B69; rw [show shL [0, 2, 1, 4, 3] = _ from ex_L] at z_; exact z_)
 refine wq_region (wl_mv rfl rfl rfl s80 (wl_v (iv ((([⟨0, 0, -1, -1⟩, ⟨2, 1, 0, -1⟩, ⟨1, 2, 0, 2⟩, ⟨4, 1, 2, -1⟩, ⟨3, 2, 2, 4⟩] : List Sl).length : Nat) : Int)) rfl rfl (y_lenRo (r := rSl) rfl rfl rfl B86.roa rr) (wl_v (.bool false) rfl rfl (y_neqI rfl rfl rfl rfl rr) (wl_v (.bool false) rfl rfl (y_mov rfl rfl rr) (wl_vw v27 3 false 29 rfl rfl rfl rfl rfl (y_mov rfl s82 rr) (wl_vw (iv ((([0, 2, 1, 4, 3] : List Int).length : Nat) : Int)) 3 false 29 rfl rfl rfl rfl rfl (y_lenRo (r := rInt) rfl rfl rfl B87.roa rr) (wl_vw (.bool false) 3 false 29 rfl rfl rfl rfl rfl (y_neqI rfl rfl rfl rfl rr) (wl_v (.bool false) rfl rfl (y_pickF rfl rfl rfl rr) (wl_nil fun F88 hF89 => ?_)))))))))
 obtain ⟨s90, s91, s92, s93, s94, s95, s96⟩ := t7 hF89 101 s79 1 s80 2 s81 3 s82 4 s83 5 s84 8 s85
 have s97 : F88 33 = .bool false := (hF89 33).trans rfl
 clear hF89
 refine then_normal ?_
 refine wq_cond (t := false) s97 (fun e => by cases e) (fun _ => ?_)
 refine wq_skip (then_normal (wq_seq (wq_region (wl_mv rfl rfl rfl s92 (wl_v (.bool true) rfl rfl (y_eqlI rfl rfl rfl (decide_eq_true hE) rr) (wl_v (.bool true) rfl rfl (y_mov rfl rfl rr) (wl_vw v4 2 true 36 rfl rfl rfl rfl rfl (y_mov rfl s91 rr) (wl_vw (bytAddr v4 (0 * 4)) 2 true 36 rfl rfl rfl rfl rfl (y_atRo (r := rSl) 0 rfl rfl rfl (by omega) B86.roa (by omega) rr) (wl_vw (.agg #[iv ((([⟨0, 0, -1, -1⟩, ⟨2, 1, 0, -1⟩, ⟨1, 2, 0, 2⟩, ⟨4, 1, 2, -1⟩, ⟨3, 2, 2, 4⟩] : List Sl).getD 0 ⟨0, 0, 0, 0⟩).d), iv ((([⟨0, 0, -1, -1⟩, ⟨2, 1, 0, -1⟩, ⟨1, 2, 0, 2⟩, ⟨4, 1, 2, -1⟩, ⟨3, 2, 2, 4⟩] : List Sl).getD 0 ⟨0, 0, 0, 0⟩).k), iv ((([⟨0, 0, -1, -1⟩, ⟨2, 1, 0, -1⟩, ⟨1, 2, 0, 2⟩, ⟨4, 1, 2, -1⟩, ⟨3, 2, 2, 4⟩] : List Sl).getD 0 ⟨0, 0, 0, 0⟩).p), iv ((([⟨0, 0, -1, -1⟩, ⟨2, 1, 0, -1⟩, ⟨1, 2, 0, 2⟩, ⟨4, 1, 2, -1⟩, ⟨3, 2, 2, 4⟩] : List Sl).getD 0 ⟨0, 0, 0, 0⟩).n)]) 2 true 36 rfl rfl rfl rfl rfl (y_ldRoP (r := rSl) (n := 4) 0 0 stcT_slot rfl rfl B86.roa (by omega) (by decide) rfl rr) (wl_vw (.agg #[iv 0, iv 0, iv (-1), iv (-1)]) 2 true 36 rfl rfl rfl rfl rfl (y_buildL (l' := [(2, iv (-1)), (3, iv (-1))]) (cells := #[iv 0, iv 0, iv (-1), iv (-1)]) rfl (bpC rfl (bpC rfl bpN)) (by kernel_rfl) rfl rr) (wl_vw (.bool true) 2 true 36 rfl rfl rfl rfl rfl (y_eqlSI (xs := [(([⟨0, 0, -1, -1⟩, ⟨2, 1, 0, -1⟩, ⟨1, 2, 0, 2⟩, ⟨4, 1, 2, -1⟩, ⟨3, 2, 2, 4⟩] : List Sl).getD 0 ⟨0, 0, 0, 0⟩).d, (([⟨0, 0, -1, -1⟩, ⟨2, 1, 0, -1⟩, ⟨1, 2, 0, 2⟩, ⟨4, 1, 2, -1⟩, ⟨3, 2, 2, 4⟩] : List Sl).getD 0 ⟨0, 0, 0, 0⟩).k, (([⟨0, 0, -1, -1⟩, ⟨2, 1, 0, -1⟩, ⟨1, 2, 0, 2⟩, ⟨4, 1, 2, -1⟩, ⟨3, 2, 2, 4⟩] : List Sl).getD 0 ⟨0, 0, 0, 0⟩).p, (([⟨0, 0, -1, -1⟩, ⟨2, 1, 0, -1⟩, ⟨1, 2, 0, 2⟩, ⟨4, 1, 2, -1⟩, ⟨3, 2, 2, 4⟩] : List Sl).getD 0 ⟨0, 0, 0, 0⟩).n]) (ys := [0, 0, -1, -1]) structI_slot rfl rfl rfl rfl rfl rfl rr) ?_)))))))))))
 refine wl_v (.bool true) rfl rfl (y_pickT rfl rfl rfl rr) (wl_v (.bool true) rfl rfl (y_mov rfl rfl rr) (wl_vw v4 9 true 43 rfl rfl rfl rfl rfl (y_mov rfl s91 rr) (wl_vw (bytAddr v4 (1 * 4)) 9 true 43 rfl rfl rfl rfl rfl (y_atRo (r := rSl) 1 rfl rfl rfl (by omega) B86.roa (by omega) rr) (wl_vw (.agg #[iv ((([⟨0, 0, -1, -1⟩, ⟨2, 1, 0, -1⟩, ⟨1, 2, 0, 2⟩, ⟨4, 1, 2, -1⟩, ⟨3, 2, 2, 4⟩] : List Sl).getD 1 ⟨0, 0, 0, 0⟩).d), iv ((([⟨0, 0, -1, -1⟩, ⟨2, 1, 0, -1⟩, ⟨1, 2, 0, 2⟩, ⟨4, 1, 2, -1⟩, ⟨3, 2, 2, 4⟩] : List Sl).getD 1 ⟨0, 0, 0, 0⟩).k), iv ((([⟨0, 0, -1, -1⟩, ⟨2, 1, 0, -1⟩, ⟨1, 2, 0, 2⟩, ⟨4, 1, 2, -1⟩, ⟨3, 2, 2, 4⟩] : List Sl).getD 1 ⟨0, 0, 0, 0⟩).p), iv ((([⟨0, 0, -1, -1⟩, ⟨2, 1, 0, -1⟩, ⟨1, 2, 0, 2⟩, ⟨4, 1, 2, -1⟩, ⟨3, 2, 2, 4⟩] : List Sl).getD 1 ⟨0, 0, 0, 0⟩).n)]) 9 true 43 rfl rfl rfl rfl rfl (y_ldRoP (r := rSl) (n := 4) 1 0 stcT_slot rfl rfl B86.roa (by omega) (by decide) rfl rr) (wl_vw (.agg #[iv 2, iv 1, iv 0, iv (-1)]) 9 true 43 rfl rfl rfl rfl rfl (y_buildL (l' := [(0, iv 2), (1, iv 1), (2, iv 0), (3, iv (-1))]) (cells := #[iv 2, iv 1, iv 0, iv (-1)]) rfl (bpC rfl (bpC rfl (bpC rfl (bpC rfl bpN)))) (by kernel_rfl) rfl rr) (wl_vw (.bool true) 9 true 43 rfl rfl rfl rfl rfl (y_eqlSI (xs := [(([⟨0, 0, -1, -1⟩, ⟨2, 1, 0, -1⟩, ⟨1, 2, 0, 2⟩, ⟨4, 1, 2, -1⟩, ⟨3, 2, 2, 4⟩] : List Sl).getD 1 ⟨0, 0, 0, 0⟩).d, (([⟨0, 0, -1, -1⟩, ⟨2, 1, 0, -1⟩, ⟨1, 2, 0, 2⟩, ⟨4, 1, 2, -1⟩, ⟨3, 2, 2, 4⟩] : List Sl).getD 1 ⟨0, 0, 0, 0⟩).k, (([⟨0, 0, -1, -1⟩, ⟨2, 1, 0, -1⟩, ⟨1, 2, 0, 2⟩, ⟨4, 1, 2, -1⟩, ⟨3, 2, 2, 4⟩] : List Sl).getD 1 ⟨0, 0, 0, 0⟩).p, (([⟨0, 0, -1, -1⟩, ⟨2, 1, 0, -1⟩, ⟨1, 2, 0, 2⟩, ⟨4, 1, 2, -1⟩, ⟨3, 2, 2, 4⟩] : List Sl).getD 1 ⟨0, 0, 0, 0⟩).n]) (ys := [2, 1, 0, -1]) structI_slot rfl rfl rfl rfl rfl rfl rr) (wl_v (.bool true) rfl rfl (y_pickT rfl rfl rfl rr) (wl_v (.bool true) rfl rfl (y_mov rfl rfl rr) (wl_vw v4 16 true 50 rfl rfl rfl rfl rfl (y_mov rfl s91 rr) (wl_vw (bytAddr v4 (2 * 4)) 16 true 50 rfl rfl rfl rfl rfl (y_atRo (r := rSl) 2 rfl rfl rfl (by omega) B86.roa (by omega) rr) (wl_vw (.agg #[iv ((([⟨0, 0, -1, -1⟩, ⟨2, 1, 0, -1⟩, ⟨1, 2, 0, 2⟩, ⟨4, 1, 2, -1⟩, ⟨3, 2, 2, 4⟩] : List Sl).getD 2 ⟨0, 0, 0, 0⟩).d), iv ((([⟨0, 0, -1, -1⟩, ⟨2, 1, 0, -1⟩, ⟨1, 2, 0, 2⟩, ⟨4, 1, 2, -1⟩, ⟨3, 2, 2, 4⟩] : List Sl).getD 2 ⟨0, 0, 0, 0⟩).k), iv ((([⟨0, 0, -1, -1⟩, ⟨2, 1, 0, -1⟩, ⟨1, 2, 0, 2⟩, ⟨4, 1, 2, -1⟩, ⟨3, 2, 2, 4⟩] : List Sl).getD 2 ⟨0, 0, 0, 0⟩).p), iv ((([⟨0, 0, -1, -1⟩, ⟨2, 1, 0, -1⟩, ⟨1, 2, 0, 2⟩, ⟨4, 1, 2, -1⟩, ⟨3, 2, 2, 4⟩] : List Sl).getD 2 ⟨0, 0, 0, 0⟩).n)]) 16 true 50 rfl rfl rfl rfl rfl (y_ldRoP (r := rSl) (n := 4) 2 0 stcT_slot rfl rfl B86.roa (by omega) (by decide) rfl rr) ?_)))))))))))
 refine wl_vw (.agg #[iv 1, iv 2, iv 0, iv 2]) 16 true 50 rfl rfl rfl rfl rfl (y_buildL (l' := [(0, iv 1), (1, iv 2), (2, iv 0), (3, iv 2)]) (cells := #[iv 1, iv 2, iv 0, iv 2]) rfl (bpC rfl (bpC rfl (bpC rfl (bpC rfl bpN)))) (by kernel_rfl) rfl rr) (wl_vw (.bool true) 16 true 50 rfl rfl rfl rfl rfl (y_eqlSI (xs := [(([⟨0, 0, -1, -1⟩, ⟨2, 1, 0, -1⟩, ⟨1, 2, 0, 2⟩, ⟨4, 1, 2, -1⟩, ⟨3, 2, 2, 4⟩] : List Sl).getD 2 ⟨0, 0, 0, 0⟩).d, (([⟨0, 0, -1, -1⟩, ⟨2, 1, 0, -1⟩, ⟨1, 2, 0, 2⟩, ⟨4, 1, 2, -1⟩, ⟨3, 2, 2, 4⟩] : List Sl).getD 2 ⟨0, 0, 0, 0⟩).k, (([⟨0, 0, -1, -1⟩, ⟨2, 1, 0, -1⟩, ⟨1, 2, 0, 2⟩, ⟨4, 1, 2, -1⟩, ⟨3, 2, 2, 4⟩] : List Sl).getD 2 ⟨0, 0, 0, 0⟩).p, (([⟨0, 0, -1, -1⟩, ⟨2, 1, 0, -1⟩, ⟨1, 2, 0, 2⟩, ⟨4, 1, 2, -1⟩, ⟨3, 2, 2, 4⟩] : List Sl).getD 2 ⟨0, 0, 0, 0⟩).n]) (ys := [1, 2, 0, 2]) structI_slot rfl rfl rfl rfl rfl rfl rr) (wl_v (.bool true) rfl rfl (y_pickT rfl rfl rfl rr) (wl_v (.bool true) rfl rfl (y_mov rfl rfl rr) (wl_vw v4 23 true 57 rfl rfl rfl rfl rfl (y_mov rfl s91 rr) (wl_vw (bytAddr v4 (4 * 4)) 23 true 57 rfl rfl rfl rfl rfl (y_atRo (r := rSl) 4 rfl rfl rfl (by omega) B86.roa (by omega) rr) (wl_vw (bytAddr v4 (4 * 4)) 23 true 57 rfl rfl rfl rfl rfl (y_fieldRo (j := 4) (n := 1) rfl rfl B86.roa (by omega) Try.underlying38 rfl (by kernel_rfl) (by decide) rfl rr) (wl_vw (iv ((([⟨0, 0, -1, -1⟩, ⟨2, 1, 0, -1⟩, ⟨1, 2, 0, 2⟩, ⟨4, 1, 2, -1⟩, ⟨3, 2, 2, 4⟩] : List Sl).getD 4 ⟨0, 0, 0, 0⟩).d)) 23 true 57 rfl rfl rfl rfl rfl (y_ldRo (r := rSl) 4 0 rfl rfl B86.roa (by omega) (by decide) rfl Try.underlying3 rfl rr) (wl_vw (.bool true) 23 true 57 rfl rfl rfl rfl rfl (y_eqlI rfl rfl rfl rfl rr) (wl_v (.bool true) rfl rfl (y_pickT rfl rfl rfl rr) (wl_v (.bool true) rfl rfl (y_mov rfl rfl rr) (wl_vw v27 30 true 64 rfl rfl rfl rfl rfl (y_mov rfl s93 rr) ?_)))))))))))
 refine wl_vw (bytAddr v27 (1 * 1)) 30 true 64 rfl rfl rfl rfl rfl (y_atRo (r := rInt) 1 rfl rfl rfl (by omega) B87.roa (by omega) rr) (wl_vw (iv (([0, 2, 1, 4, 3] : List Int).getD 1 0)) 30 true 64 rfl rfl rfl rfl rfl (y_ldRo (r := rInt) 1 0 rfl rfl B87.roa (by omega) (by decide) rfl Try.underlying3 rfl rr) (wl_vw (.bool true) 30 true 64 rfl rfl rfl rfl rfl (y_eqlI rfl rfl rfl rfl rr) (wl_v (.bool true) rfl rfl (y_pickT rfl rfl rfl rr) (wl_v (.bool true) rfl rfl (y_mov rfl rfl rr) (wl_vw v27 36 true 70 rfl rfl rfl rfl rfl (y_mov rfl s93 rr) (wl_vw (bytAddr v27 (4 * 1)) 36 true 70 rfl rfl rfl rfl rfl (y_atRo (r := rInt) 4 rfl rfl rfl (by omega) B87.roa (by omega) rr) (wl_vw (iv (([0, 2, 1, 4, 3] : List Int).getD 4 0)) 36 true 70 rfl rfl rfl rfl rfl (y_ldRo (r := rInt) 4 0 rfl rfl B87.roa (by omega) (by decide) rfl Try.underlying3 rfl rr) (wl_vw (.bool true) 36 true 70 rfl rfl rfl rfl rfl (y_eqlI rfl rfl rfl rfl rr) (wl_v (.bool true) rfl rfl (y_pickT rfl rfl rfl rr) (wl_v (.bool true) rfl rfl (y_mov rfl rfl rr) (wl_vw (iv (shN ([0, 2, 1, 4, 3]))) 42 true 76 rfl rfl rfl rfl rfl (y_mov rfl s94 rr) ?_)))))))))))
 refine wl_vw (.bool true) 42 true 76 rfl rfl rfl rfl rfl (y_eqlI rfl rfl rfl (decide_eq_true hN) rr) (wl_v (.bool true) rfl rfl (y_pickT rfl rfl rfl rr) (wl_v (.bool true) rfl rfl (y_mov rfl rfl rr) (wl_vw (iv (shE ([0, 2, 1, 4, 3]))) 46 true 80 rfl rfl rfl rfl rfl (y_mov rfl s95 rr) (wl_vw (.bool true) 46 true 80 rfl rfl rfl rfl rfl (y_eqlI rfl rfl rfl (decide_eq_true hF) rr) (wl_v (.bool true) rfl rfl (y_pickT rfl rfl rfl rr) (wl_v (.bool true) rfl rfl (y_mov rfl rfl rr) (wl_vw (iv (shE ([0, 0]))) 50 true 84 rfl rfl rfl rfl rfl (y_mov rfl s96 rr) (wl_vw (.bool true) 50 true 84 rfl rfl rfl rfl rfl (y_eqlI rfl rfl rfl (decide_eq_true hG) rr) (wl_v (.bool true) rfl rfl (y_pickT rfl rfl rfl rr) (wl_v (.bool true) rfl rfl (y_mov rfl rfl rr) (wl_vw (.agg #[iv 0, iv 0, iv 0]) 54 true 88 rfl rfl rfl rfl rfl (y_buildL (l' := []) (cells := #[iv 0, iv 0, iv 0]) rfl bpN (by kernel_rfl) rfl rr) ?_)))))))))))
 refine wl_callw (R := fun v_ w_ => v_ = iv (planE 0 0 0) ∧ Kept (fun _ => False) w62 w_) 54 true 88 rfl rfl rfl rfl rfl (y_cs rfl rfl rfl (fun _ _ => by kernel_rfl) (ev_func _) (vsC rfl vsN) (od_check 0 0 0  _   ) (fun e_ w_ h_ => ⟨_, h_.1, rfl, h_.2⟩)) ?_
 rintro _ w98 ⟨rfl, k99⟩
 have K105 := K71.tr k99
 refine wl_vw (.bool true) 54 true 88 rfl rfl rfl rfl rfl (y_eqlI rfl rfl rfl (decide_eq_true hP) rr) (wl_v (.bool true) rfl rfl (y_pickT rfl rfl rfl rr) (wl_v (.bool true) rfl rfl (y_mov rfl rfl rr) (wl_v (.bool true) rfl rfl (y_pickT rfl rfl rfl rr) (wl_v (.bool true) rfl rfl (y_mov rfl rfl rr) (wl_v (.bool true) rfl rfl (y_pickT rfl rfl rfl rr) (wl_v (.bool true) rfl rfl (y_mov rfl rfl rr) (wl_v (.bool true) rfl rfl (y_pickT rfl rfl rfl rr) (wl_v (.bool true) rfl rfl (y_mov rfl rfl rr) (wl_v (.bool true) rfl rfl (y_pickT rfl rfl rfl rr) (wl_v (.bool true) rfl rfl (y_asg rfl rfl rr) (wl_nil fun F106 hF107 => ?_)))))))))))
 have s108 := (hF107 101).trans s90
 have s109 : F106 0 = .bool true := (hF107 0).trans rfl
 clear hF107
 refine then_normal (wq_ret ?_)
 exact end_tmp (v := .bool true) s108 rfl rfl s109 ⟨rfl, K105⟩
end Go.Proofs.Ythoafgfcoclkbaa
set_option maxRecDepth 100000
namespace Go.Proofs.Ythoafgfcoclkbaa
open Go.RowKit
def Dsp (o : List Sl) (v : Int) : Prop := ∃ s ∈ o, s.d = v
theorem dsp_app {o r : List Sl} {v : Int} : Dsp (o ++ r) v ↔ (Dsp o v ∨ Dsp r v) := by
  unfold Dsp; constructor
  · rintro ⟨s, hs, e⟩
    rcases List.mem_append.1 hs with h | h
    · exact .inl ⟨s, h, e⟩
    · exact .inr ⟨s, h, e⟩
  · rintro (⟨s, hs, e⟩ | ⟨s, hs, e⟩)
    · exact ⟨s, List.mem_append_left _ hs, e⟩
    · exact ⟨s, List.mem_append_right _ hs, e⟩
theorem dsp_one {s : Sl} {v : Int} : Dsp [s] v ↔ s.d = v := ⟨fun ⟨t, ht, e⟩ => by rw [List.mem_singleton] at ht; rw [← ht]; exact e, fun e => ⟨s, List.mem_singleton.2 rfl, e⟩⟩
def Shp (b : Nat) (o : List Sl) : Prop := ∃ t : Nat, (∀ v : Nat, v < t → Dsp o v) ∧ ¬ Dsp o t ∧ t ≤ o.length ∧ o.length ≤ t + 1 ∧ (b = 0 → o.length = t)
def OkS (n g b : Nat) (o : List Sl) (s : Sl) : Prop := (0 ≤ s.d ∧ s.d < n ∧ ¬ Dsp o s.d ∧ (b = 0 → s.d = o.length)) ∧ Shp b o ∧
  ((s.k = 0 ∧ s.d % (g : Int) = 0) ∨ (s.d % (g : Int) ≠ 0 ∧ 0 ≤ s.p ∧ s.p < s.d ∧ Dsp o s.p ∧ s.p / (g : Int) = s.d / (g : Int) ∧ (s.k = 1 ∨ (s.k = 2 ∧ s.d < s.n ∧ s.n < n ∧ Dsp o s.n ∧ s.n / (g : Int) = s.d / (g : Int)))))
def Runs (C : List Sl → Sl → Prop) : List Sl → List Sl → Prop
  | _, [] => True
  | o, s :: r => C o s ∧ Runs C (o ++ [s]) r
theorem Runs.app {C : List Sl → Sl → Prop} {B : List Sl} : ∀ {A o : List Sl}, Runs C o A → Runs C (o ++ A) B → Runs C o (A ++ B)
  | [], o, _, h => by rw [List.append_nil] at h; exact h
  | s :: A, o, h1, h2 => ⟨h1.1, Runs.app h1.2 (by rw [List.append_assoc]; exact h2)⟩
theorem Runs.at {C : List Sl → Sl → Prop} : ∀ {L o : List Sl}, Runs C o L → ∀ i, i < L.length → C (o ++ L.take i) (L.getD i ⟨0, 0, 0, 0⟩)
  | [], _, _, i, hi => absurd hi (Nat.not_lt_zero i)
  | s :: L, o, h, 0, _ => by rw [List.take_zero, List.append_nil]; exact h.1
  | s :: L, o, h, i + 1, hi => by
    have := Runs.at h.2 i (by simpa using hi)
    rw [List.append_assoc] at this
    exact this
def Full (k : Nat) (o : List Sl) : Prop := (∀ v : Int, Dsp o v ↔ 0 ≤ v ∧ v < (k : Int)) ∧ o.length = k
theorem Full.shp {b k : Nat} {o : List Sl} (h : Full k o) : Shp b o := ⟨k, fun v hv => (h.1 v).2 ⟨by omega, by omega⟩, fun hd => by have := (h.1 k).1 hd; omega, by rw [h.2]; exact Nat.le_refl _, by rw [h.2]; omega, fun _ => h.2⟩
theorem dv {g q d : Nat} (h1 : q * g ≤ d) (h2 : d < q * g + g) : ((d : Nat) : Int) / (g : Int) = (q : Int) := by
  have : d / g = q := Nat.div_eq_of_lt_le h1 (by rw [Nat.succ_mul]; exact h2)
  rw [← this]; exact (Int.natCast_ediv d g).symm
theorem md {g q d : Nat} (h1 : q * g ≤ d) (h2 : d < q * g + g) : ((d : Nat) : Int) % (g : Int) = ((d - q * g : Nat) : Int) := by
  have h3 : d % g = d - q * g := by
    have h4 : d / g = q := Nat.div_eq_of_lt_le h1 (by rw [Nat.succ_mul]; exact h2)
    have h5 := Nat.div_add_mod d g
    rw [h4, Nat.mul_comm] at h5
    omega
  rw [← h3]; exact (Int.natCast_emod d g).symm
theorem bs_runs {n g b q a x : Nat} {o : List Sl} (ho : Full (a + 1) o) (hax : a < x) (hxn : x < n) (hb : b = 0 → x = a + 1) (h1 : q * g ≤ a) (h2 : x < q * g + g) : ∀ i, i ≤ x - (a + 1) →
    Runs (OkS n g b) (o ++ [⟨(x : Int), 1, (a : Int), -1⟩]) (bsTo a x i) ∧ (∀ v : Int, Dsp (o ++ [⟨(x : Int), 1, (a : Int), -1⟩] ++ bsTo a x i) v ↔ ((0 ≤ v ∧ v < (a : Int) + 1 + i) ∨ v = x)) ∧ (o ++ [(⟨(x : Int), 1, (a : Int), -1⟩ : Sl)] ++ bsTo a x i).length = a + 2 + i
  | 0, _ => by
    refine ⟨trivial, fun v => ?_, ?_⟩
    · rw [show bsTo a x 0 = [] from rfl, List.append_nil, dsp_app, dsp_one, ho.1 v]
      simp only
      omega
    · rw [show bsTo a x 0 = [] from rfl, List.append_nil, List.length_append, ho.2]; rfl
  | i + 1, hi => by
    obtain ⟨hr, hD, hl⟩ := bs_runs ho hax hxn hb h1 h2 i (by omega)
    have e : bsTo a x (i + 1) = bsTo a x i ++ [⟨((a + 1 + i : Nat) : Int), 2, (a : Int), (x : Int)⟩] := rfl
    refine ⟨?_, fun v => ?_, ?_⟩
    · rw [e]
      refine Runs.app hr ⟨⟨⟨?_, ?_, ?_, ?_⟩, ?_, ?_⟩, trivial⟩
      · simp only; omega
      · simp only; omega
      · rw [hD]; simp only; omega
      · intro hb0; have := hb hb0; omega
      · refine ⟨a + 1 + i, fun v hv => (hD v).2 (.inl (by omega)), fun h => ?_, by rw [hl]; omega, by rw [hl]; omega, fun hb0 => by have := hb hb0; omega⟩
        have := (hD _).1 h; omega
      · refine .inr ⟨?_, ?_, ?_, ?_, ?_, .inr ⟨rfl, ?_, ?_, ?_, ?_⟩⟩
        · simp only; rw [md (q := q) (by omega) (by omega)]; omega
        · simp only; omega
        · simp only; omega
        · exact (hD _).2 (.inl (by simp only; omega))
        · simp only; rw [dv (q := q) h1 (by omega), dv (q := q) (by omega) (by omega)]
        · simp only; omega
        · simp only; omega
        · exact (hD _).2 (.inr rfl)
        · simp only; rw [dv (q := q) (by omega) h2, dv (q := q) (by omega) (by omega)]
    · rw [e, ← List.append_assoc, dsp_app, dsp_one, hD v]
      simp only
      omega
    · rw [e, ← List.append_assoc, List.length_append, hl]; simp; omega
theorem st_runs {n g b q a x : Nat} {o : List Sl} (ho : Full (a + 1) o) (hax : a < x) (hxn : x < n) (hb : b = 0 → x = a + 1) (h1 : q * g ≤ a) (h2 : x < q * g + g) : Runs (OkS n g b) o (stL a x) ∧ Full (x + 1) (o ++ stL a x) := by
  obtain ⟨hr, hD, hl⟩ := bs_runs ho hax hxn hb h1 h2 (x - (a + 1)) (Nat.le_refl _)
  refine ⟨?_, fun v => ?_, ?_⟩
  · refine Runs.app (A := [_]) ⟨⟨⟨?_, ?_, ?_, ?_⟩, ho.shp, .inr ⟨?_, ?_, ?_, ?_, ?_, .inl rfl⟩⟩, trivial⟩ hr
    · simp only; omega
    · simp only; omega
    · rw [ho.1]; simp only; omega
    · intro hb0; rw [ho.2, hb hb0]
    · simp only; rw [md (q := q) (by omega) h2]; omega
    · simp only; omega
    · simp only; omega
    · rw [ho.1]; simp only; omega
    · simp only; rw [dv (q := q) h1 (by omega), dv (q := q) (by omega) h2]
  · unfold stL; rw [← List.append_assoc, hD v]; omega
  · unfold stL; rw [← List.append_assoc, hl]; omega
theorem mid_runs {n g b q last : Nat} (hln : last < n) (h2 : last < q * g + g) : ∀ (m a : Nat) (o : List Sl), last - a = m → a ≤ last → q * g ≤ a → Full (a + 1) o → Runs (OkS n g b) o (midL b last a) ∧ Full (last + 1) (o ++ midL b last a) := by
  intro m
  induction m using Nat.strongRecOn with
  | ind m ih =>
    intro a o e hal h1 ho
    by_cases h : a < last
    · have hx := nxt_lt (b := b) h
      have hb : b = 0 → nxt b last a = a + 1 := fun e => by unfold nxt; omega
      obtain ⟨r1, f1⟩ := st_runs (n := n) (g := g) (b := b) (q := q) ho hx.1 (by omega) hb h1 (by omega)
      obtain ⟨r2, f2⟩ := ih (last - nxt b last a) (by omega) (nxt b last a) _ rfl hx.2 (by omega) f1
      rw [midL_st h]
      exact ⟨Runs.app r1 r2, by rw [← List.append_assoc]; exact f2⟩
    · rw [midL_no h, List.append_nil]
      have : a = last := by omega
      subst this
      exact ⟨trivial, ho⟩
theorem gr_runs {n g b q last : Nat} {o : List Sl} (hg : 0 < g) (hln : last < n) (hf : q * g ≤ last) (h2 : last < q * g + g) (ho : Full (q * g) o) : Runs (OkS n g b) o (grL (q * g) last b) ∧ Full (last + 1) (o ++ grL (q * g) last b) := by
  have h0 : Full (q * g + 1) (o ++ [⟨((q * g : Nat) : Int), 0, -1, -1⟩]) := by
    refine ⟨fun v => ?_, by rw [List.length_append, ho.2]; rfl⟩
    rw [dsp_app, dsp_one, ho.1 v]; simp only; omega
  obtain ⟨r1, f1⟩ := mid_runs (b := b) hln h2 _ (q * g) _ rfl hf (Nat.le_refl _) h0
  refine ⟨Runs.app (A := [_]) ⟨⟨⟨?_, ?_, ?_, ?_⟩, ho.shp, .inl ⟨rfl, ?_⟩⟩, trivial⟩ r1, ?_⟩
  · simp only; omega
  · simp only; omega
  · rw [ho.1]; simp only; omega
  · intro _; rw [ho.2]
  · simp only; rw [md (q := q) (Nat.le_refl _) (by omega)]; omega
  · unfold grL; rw [← List.append_assoc]; exact f1
theorem out_runs {n g b : Nat} (hg : 0 < g) : ∀ (m q : Nat) (o : List Sl), n - q * g = m → Full (min (q * g) n) o → Runs (OkS n g b) o (outL n g b (q * g)) ∧ Full n (o ++ outL n g b (q * g)) := by
  intro m
  induction m using Nat.strongRecOn with
  | ind m ih =>
    intro q o e ho
    by_cases h : q * g < n
    · rw [Nat.min_eq_left (by omega)] at ho
      obtain ⟨r1, f1⟩ := gr_runs (n := n) (b := b) (last := min (q * g + g) n - 1) hg (by omega) (by omega) (by omega) ho
      rw [outL_gr h hg]
      have e2 : q * g + g = (q + 1) * g := by rw [Nat.succ_mul]
      rw [show min (q * g + g) n - 1 + 1 = min ((q + 1) * g) n by rw [← e2]; omega] at f1
      obtain ⟨r2, f2⟩ := ih (n - (q + 1) * g) (by omega) (q + 1) _ rfl f1
      rw [show outL n g b (q * g + g) = outL n g b ((q + 1) * g) by rw [e2]]
      exact ⟨Runs.app r1 r2, by rw [← List.append_assoc]; exact f2⟩
    · rw [outL_no h, List.append_nil]
      rw [Nat.min_eq_right (by omega)] at ho
      exact ⟨trivial, ho⟩
theorem out_all {n g b : Nat} (hg : 0 < g) : Runs (OkS n g b) [] (outL n g b 0) ∧ Full n (outL n g b 0) := by
  have h := out_runs (n := n) (b := b) hg _ 0 [] rfl ⟨fun v => ⟨fun ⟨s, hs, _⟩ => (by cases hs), fun h => by rw [Nat.zero_mul, Nat.zero_min] at h; omega⟩, by rw [Nat.zero_mul, Nat.zero_min]; rfl⟩
  rw [Nat.zero_mul] at h
  exact h
theorem out_at {n g b i : Nat} (hg : 0 < g) (hi : i < n) : OkS n g b ((outL n g b 0).take i) ((outL n g b 0).getD i ⟨0, 0, 0, 0⟩) := by
  have h := (out_all (n := n) (b := b) hg).1.at i (by rw [outL_len n g b hg _ 0 rfl]; omega)
  rwa [List.nil_append] at h
def sdL (L : List Sl) (n i : Nat) : List Bool := (List.range n).map fun (v : Nat) => (L.take i).any fun s => decide (s.d = (v : Int))
theorem sdL_len (L : List Sl) (n i : Nat) : (sdL L n i).length = n := by unfold sdL; rw [List.length_map, List.length_range]
theorem sdL_at {L : List Sl} {n i v : Nat} (h : v < n) : (sdL L n i).getD v false = true ↔ Dsp (L.take i) v := by
  unfold sdL
  rw [List.getD_eq_getElem?_getD, List.getElem?_map, List.getElem?_range h]
  simp only [Option.map_some, Option.getD_some, List.any_eq_true, decide_eq_true_eq]
  exact Iff.rfl
theorem sdL_get {L : List Sl} {n i v : Nat} (h : v < (sdL L n i).length) : (sdL L n i)[v] = (L.take i).any fun s => decide (s.d = (v : Int)) := by simp [sdL]
theorem sdL_zero (L : List Sl) (n : Nat) : sdL L n 0 = List.replicate n false := by
  unfold sdL
  apply List.ext_getElem (by simp)
  intro i h1 h2
  simp
theorem sdL_next {L : List Sl} {n i : Nat} (hi : i < L.length) (h0 : 0 ≤ (L.getD i ⟨0, 0, 0, 0⟩).d) : (sdL L n i).set (L.getD i ⟨0, 0, 0, 0⟩).d.toNat true = sdL L n (i + 1) := by
  have hg : L.getD i ⟨0, 0, 0, 0⟩ = L[i] := by rw [List.getD_eq_getElem?_getD, List.getElem?_eq_getElem hi]; rfl
  rw [hg] at h0 ⊢
  apply List.ext_getElem (by rw [List.length_set, sdL_len, sdL_len])
  intro v h1 h2
  rw [List.getElem_set, sdL_get, sdL_get, List.take_succ_eq_append_getElem hi, List.any_append]
  by_cases e : L[i].d.toNat = v
  · rw [if_pos e]
    have : L[i].d = (v : Int) := by omega
    simp [this]
  · rw [if_neg e]
    have : ¬ L[i].d = (v : Int) := by omega
    simp [this]
end Go.Proofs.Ythoafgfcoclkbaa
set_option maxRecDepth 100000
namespace Go.Proofs.Ythoafgfcoclkbaa
open Go.RowKit
section
variable {P : Program} {ρ : Operand → Value} {o : Oper} {w : World} {R : Value → World → Prop}
theorem y_neqB {t t' : TypeId} {x y : Operand} {a b c : Bool} (ho : o.op = .binOp .neq t x y t') (hx : ρ x = .bool a) (hy : ρ y = .bool b) (hu : P.underlying t = some .bool) (hr : (a != b) = c) (h : R (.bool c) w) : Yields P ρ o w R :=
  y_of (v := .bool (a != b)) (w' := w) (by simp [execOp, ho, hx, hy, go_sem, hu]; cases a <;> cases b <;> rfl) (by rw [hr]; exact h)
end
end Go.Proofs.Ythoafgfcoclkbaa
set_option maxRecDepth 100000
namespace Go.Proofs.Ythoafgfcoclkbaa
open Go.RowKit
theorem sdL_yes {L : List Sl} {n i : Nat} {v : Int} (h0 : 0 ≤ v) (hv : v < (n : Int)) (h : Dsp (L.take i) v) : (sdL L n i).getD v.toNat false = true := (sdL_at (by omega)).2 (by rw [show ((v.toNat : Nat) : Int) = v by omega]; exact h)
theorem sdL_no {L : List Sl} {n i : Nat} {v : Int} (h0 : 0 ≤ v) (hv : v < (n : Int)) (h : ¬ Dsp (L.take i) v) : (sdL L n i).getD v.toNat false = false := Bool.eq_false_iff.2 fun e => h (by have := (sdL_at (by omega)).1 e; rwa [show ((v.toNat : Nat) : Int) = v by omega] at this)
theorem dsp_more {L : List Sl} {i : Nat} {v : Int} (h : Dsp (L.take i) v) : Dsp (L.take (i + 1)) v := by
  obtain ⟨s, hs, e⟩ := h
  exact ⟨s, (List.take_sublist_take_left (Nat.le_succ i)).mem hs, e⟩
theorem bne_of {p q : Prop} [Decidable p] [Decidable q] (h : p ↔ q) : (decide p != decide q) = false := by rw [decide_eq_decide.2 h]; cases decide q <;> rfl
theorem quoI {p g : Int} (h0 : 0 ≤ p) (h1 : p ≤ 300) (_ : 0 < g) : IntKind.i64.wrap (p.tdiv g) = p / g := by
  have h2 := Int.ediv_le_self g h0
  have h3 : 0 ≤ p / g := Int.ediv_nonneg h0 (by omega)
  exact i64_i (Int.tdiv_eq_ediv_of_nonneg h0) (by omega)
structure OkI (n g : Nat) (o : List Sl) (s : Sl) : Prop where
  d0 : 0 ≤ s.d
  d1 : s.d < n
  dn : ¬ Dsp o s.d
  kd : s.k = 0 ↔ s.d % (g : Int) = 0
  past : s.k ≠ 0 → 0 ≤ s.p ∧ s.p < s.d ∧ Dsp o s.p ∧ s.p / (g : Int) = s.d / (g : Int)
  next : s.k = 2 → s.d < s.n ∧ s.n < n ∧ Dsp o s.n ∧ s.n / (g : Int) = s.d / (g : Int)
theorem okI {n g b i : Nat} (hg : 0 < g) (hi : i < n) : OkI n g ((outL n g b 0).take i) ((outL n g b 0).getD i ⟨0, 0, 0, 0⟩) := by
  obtain ⟨⟨c1, c2, c3, _⟩, _, c6⟩ := out_at (b := b) hg hi
  refine ⟨c1, c2, c3, ?_, ?_, ?_⟩
  · rcases c6 with ⟨e1, e2⟩ | ⟨e1, _, _, _, _, e2⟩
    · exact iff_of_true e1 e2
    · exact iff_of_false (by rcases e2 with e2 | e2 <;> omega) e1
  · intro hk
    rcases c6 with ⟨e1, _⟩ | ⟨_, e1, e2, e3, e4, _⟩
    · exact absurd e1 hk
    · exact ⟨e1, e2, e3, e4⟩
  · intro hk
    rcases c6 with ⟨e1, _⟩ | ⟨_, _, _, _, _, e5⟩
    · omega
    · rcases e5 with e5 | ⟨_, e5⟩
      · omega
      · exact e5
theorem odfirst_walk (a g0 b0 : Nat) (w0 : World) (ha : a < 256) (hg0 : g0 < 256) (hb0 : b0 < 256) :
  Calls Try.prog 4 #[.int .u8 (((a : Nat) : Int)), .int .u8 (((g0 : Nat) : Int)), .int .u8 (((b0 : Nat) : Int))] w0 fun e w' => e = .returned (.bool true) ∧ Kept (fun _ => False) w0 w' := by
 refine calls_wq (args := [.int .u8 ((a : Nat) : Int), .int .u8 ((g0 : Nat) : Int), .int .u8 ((b0 : Nat) : Int)]) 159 Try.func4 rfl rfl (Nat.le_of_ble_eq_true rfl) ?_
 have K0 := Kept.refl (fun _ => False) w0
 obtain ⟨M, hM⟩ : ∃ M : Nat, M = a % 200 + 1 := ⟨_, rfl⟩
 obtain ⟨g, hg1⟩ : ∃ g : Nat, g = g0 % 16 + 1 := ⟨_, rfl⟩
 obtain ⟨b, hb1⟩ : ∃ b : Nat, b = b0 % 4 := ⟨_, rfl⟩
 have hg : 0 < g := by omega
 have hM2 : 1 ≤ M ∧ M ≤ 200 := by omega
 have hsl : slOk (M : Int) (g : Int) (b : Int) 0 := ⟨⟨by omega, by omega, by omega, by omega, by omega, by omega⟩, by omega, by omega⟩
 have hL : slL (M : Int) (g : Int) (b : Int) 0 = outL M g b 0 := slL_yes hsl
 have hE : slE (M : Int) (g : Int) (b : Int) 0 = 0 := slE_yes hsl
 have hlen : (outL M g b 0).length = M := by rw [outL_len M g b hg _ 0 rfl]; omega
 refine wq_seq (wq_region (wl_v (.bool false) rfl rfl (y_asg rfl rfl rr) (wl_nil fun F1 hF2 => ?_)))
 have s3 : F1 0 = .int .u8 ((a : Nat) : Int) := (hF2 0).trans rfl
 have s4 : F1 1 = .int .u8 ((g0 : Nat) : Int) := (hF2 1).trans rfl
 have s5 : F1 2 = .int .u8 ((b0 : Nat) : Int) := (hF2 2).trans rfl
 have s6 : F1 159 = undef := (hF2 159).trans rfl
 clear hF2
 refine then_normal (wq_seq (wq_region (wl_cs rfl rfl rfl rfl rfl (fun _ _ => by kernel_rfl) vsN (odawake_any   _   ) fun w7 k8 => ?_)))
 have K9 := K0.tr k8
 refine wl_v (.bool true) rfl rfl (y_asg rfl rfl rr) (wl_nil fun F10 hF11 => ?_)
 obtain ⟨s12, s13, s14, s15⟩ := t4 hF11 0 s3 1 s4 2 s5 159 s6
 have s16 : F10 7 = .bool true := (hF11 7).trans rfl
 clear hF11
 refine then_normal (wq_seq (wq_region (wl_mv rfl rfl rfl s12 (wl_v (iv ((a : Nat) : Int)) rfl rfl (y_convR rfl rfl Try.underlying5 Try.underlying3 (i64_i rfl (by omega)) rr) (wl_v (iv ((a % 200 : Nat) : Int)) rfl rfl (y_rem rfl rfl rfl (by first | decide | omega) (rem_nat a 200) rr) (wl_v (iv ((M : Nat) : Int)) rfl rfl (y_add rfl rfl rfl (i64_n (by omega) (by omega)) rr) (wl_v (iv ((M : Nat) : Int)) rfl rfl (y_asg rfl rfl rr) (wl_nil fun F17 hF18 => ?_))))))))
 obtain ⟨s19, s20, s21, s22⟩ := t4 hF18 1 s13 2 s14 159 s15 7 s16
 have s23 : F17 8 = iv ((M : Nat) : Int) := (hF18 8).trans rfl
 clear hF18
 refine then_normal (wq_seq (wq_region (wl_mv rfl rfl rfl s19 (wl_v (iv ((g0 : Nat) : Int)) rfl rfl (y_convR rfl rfl Try.underlying5 Try.underlying3 (i64_i rfl (by omega)) rr) (wl_v (iv ((g0 % 16 : Nat) : Int)) rfl rfl (y_rem rfl rfl rfl (by first | decide | omega) (rem_nat g0 16) rr) (wl_v (iv ((g : Nat) : Int)) rfl rfl (y_add rfl rfl rfl (i64_n (by omega) (by omega)) rr) (wl_mv rfl rfl rfl s20 (wl_v (iv ((b0 : Nat) : Int)) rfl rfl (y_convR rfl rfl Try.underlying5 Try.underlying3 (i64_i rfl (by omega)) rr) (wl_v (iv ((b : Nat) : Int)) rfl rfl (y_rem rfl rfl rfl (by first | decide | omega) (by rw [hb1]; exact rem_nat b0 4) rr) (wl_v (.agg #[iv ((g : Nat) : Int), iv ((b : Nat) : Int), iv 0]) rfl rfl (y_buildL (l' := [(0, iv ((g : Nat) : Int)), (1, iv ((b : Nat) : Int))]) (cells := #[iv ((g : Nat) : Int), iv ((b : Nat) : Int), iv 0]) rfl (bpC rfl (bpC rfl bpN)) (by kernel_rfl) rfl rr) (wl_alloc_stc (n := 3) (vs := [iv 0, iv 0, iv 0]) rfl rfl rfl (by kernel_rfl) fun p24 w25 B27 g28 k26 => ?_)))))))))))
 have gr29 : Grew w0 noB (onB p24) := Grew.new K9 g28
 have K30 := K9.tr k26
 refine wl_store_stc (us := [iv ((g : Nat) : Int), iv ((b : Nat) : Int), iv 0]) stcT_plan rfl rfl rfl rfl rfl B27 rfl (oneI rfl (oneI rfl (oneI rfl oneN))) fun w31 B32 k33 => ?_
 have K34 := K30.trans k33 (Grew.ok (S := fun _ => False) gr29 noB_le)
 refine wl_nil fun F35 hF36 => ?_
 obtain ⟨s37, s38, s39⟩ := t3 hF36 159 s21 7 s22 8 s23
 have s40 : F35 9 = pt p24 0 := (hF36 9).trans rfl
 clear hF36
 refine then_normal (wq_seq (wq_region (wl_mv rfl rfl rfl s39 (wl_v (.agg #[iv ((g : Nat) : Int), iv ((b : Nat) : Int), iv 0]) rfl rfl (y_load_stc stcT_plan rfl s40 B32 rr) (wl_call (R := fun v_ w_ => ∃ (v41 : Value) (T44 : Nat → Prop), .tuple #[v41, iv (slE ((M : Nat) : Int) ((g : Nat) : Int) ((b : Nat) : Int) 0)] = v_ ∧ Kept (fun _ => False) w31 w_ ∧ (RoO rSl w_ T44 v41 (slL ((M : Nat) : Int) ((g : Nat) : Int) ((b : Nat) : Int) 0) ∧ Grew w31 noB T44)) rfl rfl (y_cs rfl rfl rfl (fun _ _ => by kernel_rfl) (ev_func _) (vsC rfl (vsC rfl vsN)) (od_slots ((M : Nat) : Int) ((g : Nat) : Int) ((b : Nat) : Int) 0  _   ) (fun e_ w_ h_ => by obtain ⟨v41_, T44_, he_, hr_⟩ := h_; exact ⟨_, he_, v41_, T44_, rfl, hr_⟩)) ?_)))))
 rintro _ w42 ⟨v41, T44, rfl, k43, ⟨B45, g46⟩⟩
 have B47 := B32.all k43 id
 have K48 := K34.tr k43
 refine wl_v (.tuple #[v41, iv (slE ((M : Nat) : Int) ((g : Nat) : Int) ((b : Nat) : Int) 0)]) rfl rfl (y_mov rfl rfl rr) (wl_v v41 rfl rfl (y_ext rfl rfl rfl rr) (wl_v (iv (slE ((M : Nat) : Int) ((g : Nat) : Int) ((b : Nat) : Int) 0)) rfl rfl (y_ext rfl rfl rfl rr) (wl_v v41 rfl rfl (y_asg rfl rfl rr) (wl_v (iv (slE ((M : Nat) : Int) ((g : Nat) : Int) ((b : Nat) : Int) 0)) rfl rfl (y_asg rfl rfl rr) (wl_nil fun F51 hF52 => ?_)))))
 obtain ⟨s53, s54, s55, s56⟩ := t4 hF52 159 s37 7 s38 8 s39 9 s40
 have s57 : F51 10 = v41 := (hF52 10).trans rfl
 have s58 : F51 11 = iv (slE ((M : Nat) : Int) ((g : Nat) : Int) ((b : Nat) : Int) 0) := (hF52 11).trans rfl
 clear hF52
 refine then_normal (wq_seq (wq_seq ?_))
 have B59 : RoO rSl w42 T44 v41 (outL M g b 0) := (by rw [← hL]; exact B45)
 refine wq_region (wl_mv rfl rfl rfl s58 (wl_v (.bool false) rfl rfl (y_neqI rfl rfl rfl (decide_eq_false (fun h => h hE)) rr) (wl_v (.bool false) rfl rfl (y_mov rfl rfl rr) (wl_vw v41 2 false 36 rfl rfl rfl rfl rfl (y_mov rfl s57 rr) (wl_vw (iv (((outL M g b 0).length : Nat) : Int)) 2 false 36 rfl rfl rfl rfl rfl (y_lenRo (r := rSl) rfl rfl rfl B59.roa rr) (wl_vw (iv ((M : Nat) : Int)) 2 false 36 rfl rfl rfl rfl rfl (y_mov rfl s55 rr) (wl_vw (.bool false) 2 false 36 rfl rfl rfl rfl rfl (y_neqI rfl rfl rfl (decide_eq_false (by omega)) rr) (wl_v (.bool false) rfl rfl (y_pickF rfl rfl rfl rr) (wl_nil fun F60 hF61 => ?_)))))))))
 obtain ⟨s62, s63, s64, s65, s66⟩ := t5 hF61 159 s53 7 s54 8 s55 9 s56 10 s57
 have s67 : F60 41 = .bool false := (hF61 41).trans rfl
 clear hF61
 refine then_normal ?_
 refine wq_cond (t := false) s67 (fun e => by cases e) (fun _ => ?_)
 refine wq_skip (then_normal (wq_seq (wq_region (wl_mv rfl rfl rfl s64 (wl_makeRo (r := rBool) (n := M) rfl rfl rfl rfl rfl (by omega) (by omega) (by omega) fun v68 w69 T73 B71 g72 k70 => ?_)))))
 have gr74 : Grew w0 noB T73 := Grew.new K48 g72
 have ap75 : Apart T73 (onB p24) := Apart.new g72 (onB_live B47.lt)
 have ap76 : Apart T73 T44 := Apart.new g72 B59.live
 have B77 := B47.all k70 id
 have B78 := B59.all k70 Apart.none
 have K79 := K48.tr k70
 refine wl_v v68 rfl rfl (y_asg rfl rfl rr) (wl_nil fun F80 hF81 => ?_)
 obtain ⟨s82, s83, s84, s85, s86⟩ := t5 hF81 159 s62 7 s63 8 s64 9 s65 10 s66
 have s87 : F80 12 = v68 := (hF81 12).trans rfl
 clear hF81
 refine then_normal (wq_seq (wq_seq ?_))
 have B88 : RoO rBool w69 T73 v68 (sdL (outL M g b 0) M 0) := (by rw [sdL_zero]; exact B71)
 refine wq_region (wl_v (iv 0) rfl rfl (y_asg rfl rfl rr) (wl_nil fun F89 hF90 => ?_))
 obtain ⟨s91, s92, s93, s94, s95, s96⟩ := t6 hF90 159 s82 7 s83 8 s84 9 s85 10 s86 12 s87
 have s97 : F89 13 = iv 0 := (hF90 13).trans rfl
 clear hF90
 refine then_normal (wq_block (wq_loop (fun nn FF ww => ∃ (i : Nat), ∃ (T98 : Nat → Prop), (i ≤ M) ∧ nn = M - i ∧ FF 7 = .bool true ∧ FF 8 = iv ((M : Nat) : Int) ∧ FF 9 = pt p24 0 ∧ FF 10 = v41 ∧ FF 12 = v68 ∧ FF 159 = undef ∧ FF 13 = iv ((i : Nat) : Int) ∧ Kept (fun _ => False) w0 ww ∧ Stc ww p24 23 [iv ((g : Nat) : Int), iv ((b : Nat) : Int), iv 0] ∧ RoO rSl ww T44 v41 (outL M g b 0) ∧ RoO rBool ww T98 v68 (sdL (outL M g b 0) M i) ∧ Grew w0 noB T98 ∧ Apart T98 (onB p24) ∧ Apart T98 T44) (M - 0) ⟨0, T73, by omega, rfl, s92, s93, s94, s95, s96, s91, s97, K79, B77, B78, B88, gr74, ap75, ap76⟩ ?_))
 rintro n102 F99 w100 ⟨i, T98, i103, hn102, s104, s105, s106, s107, s108, s109, s110, K101, B111, B112, B113, gr114, ap115, ap116⟩
 refine wq_seq (wq_seq (wq_region (wl_mv rfl rfl rfl s110 (wl_mv rfl rfl rfl s105 (wl_v (.bool (decide (((i : Nat) : Int) < ((M : Nat) : Int)))) rfl rfl (y_lss rfl rfl rfl rfl rr) (wl_nil fun F117 hF118 => ?_))))))
 obtain ⟨s119, s120, s121, s122, s123, s124, s125⟩ := t7 hF118 7 s104 8 s105 9 s106 10 s107 12 s108 159 s109 13 s110
 have s126 : F117 46 = .bool (decide (((i : Nat) : Int) < ((M : Nat) : Int))) := (hF118 46).trans rfl
 clear hF118
 refine then_normal ?_
 refine wq_cond s126 (fun c127 => ?_) (fun c127 => ?_)
 ·replace c127 := of_decide_eq_true c127
  refine wq_skip (then_normal (wq_seq (wq_block (wq_seq ?_))))
  have hC := okI (b := b) (i := i) hg (show i < M by omega)
  have hd0 := hC.d0
  have hd1 := hC.d1
  have hs1 := sdL_len (outL M g b 0) M i
  refine wq_region (wl_mv rfl rfl rfl s122 (wl_mv rfl rfl rfl s125 (wl_v (bytAddr v41 (i * 4)) rfl rfl (y_atRo (r := rSl) i rfl rfl rfl (by omega) B112.roa (by omega) rr) (wl_v (.agg #[iv (((outL M g b 0).getD i ⟨0, 0, 0, 0⟩).d), iv (((outL M g b 0).getD i ⟨0, 0, 0, 0⟩).k), iv (((outL M g b 0).getD i ⟨0, 0, 0, 0⟩).p), iv (((outL M g b 0).getD i ⟨0, 0, 0, 0⟩).n)]) rfl rfl (y_ldRoP (r := rSl) (n := 4) i 0 stcT_slot rfl rfl B112.roa (by omega) (by decide) rfl rr) (wl_alloc_stc (n := 4) (vs := [iv 0, iv 0, iv 0, iv 0]) rfl rfl rfl (by kernel_rfl) fun p128 w129 B131 g132 k130 => ?_)))))
  have gr133 : Grew w0 noB (onB p128) := Grew.new K101 g132
  have ap134 : Apart (onB p128) (onB p24) := Apart.new g132 (onB_live B111.lt)
  have ap135 : Apart (onB p128) T44 := Apart.new g132 B112.live
  have ap136 : Apart (onB p128) T98 := Apart.new g132 B113.live
  have B137 := B111.all k130 id
  have B138 := B112.all k130 Apart.none
  have B139 := B113.all k130 Apart.none
  have K140 := K101.tr k130
  refine wl_store_stc (us := [iv (((outL M g b 0).getD i ⟨0, 0, 0, 0⟩).d), iv (((outL M g b 0).getD i ⟨0, 0, 0, 0⟩).k), iv (((outL M g b 0).getD i ⟨0, 0, 0, 0⟩).p), iv (((outL M g b 0).getD i ⟨0, 0, 0, 0⟩).n)]) stcT_slot rfl rfl rfl rfl rfl B131 rfl (oneI rfl (oneI rfl (oneI rfl (oneI rfl oneN)))) fun w141 B142 k143 => ?_
  have B144 := B137.all k143 (ap134.symm p24 rfl)
  have B145 := B138.all k143 ap135.symm
  have B146 := B139.all k143 ap136.symm
  have K147 := K140.trans k143 (Grew.ok (S := fun _ => False) gr133 noB_le)
  refine wl_nil fun F148 hF149 => ?_
  obtain ⟨s150, s151, s152, s153, s154, s155, s156⟩ := t7 hF149 7 s119 8 s120 9 s121 10 s122 12 s123 159 s124 13 s125
  have s157 : F148 14 = pt p128 0 := (hF149 14).trans rfl
  clear hF149
  refine then_normal (wq_seq (wq_seq ?_))
  refine wq_said [some 53, some 54, some 55, some 56, some 57, some 58, some 59, some 60, some 61, some 62, some 63, some 64, some 65, some 66, some 67, some 68, some 69, some 70, some 71, some 72, some 73, some 74, some 75, some 76, some 77, some 78, some 79, some 80] [Pd.eq (pt p128 0), Pd.eq (iv (((outL M g b 0).getD i ⟨0, 0, 0, 0⟩).d)), Pd.eq (.bool false), Pd.eq (.bool false), Pd.eq (pt p128 0), Pd.eq (iv (((outL M g b 0).getD i ⟨0, 0, 0, 0⟩).d)), Pd.eq (iv ((M : Nat) : Int)), Pd.eq (.bool false), Pd.eq (.bool false), Pd.eq (.bool false), Pd.eq v68, Pd.eq (pt p128 0), Pd.eq (iv (((outL M g b 0).getD i ⟨0, 0, 0, 0⟩).d)), Pd.eq (bytAddr v68 (((((outL M g b 0).getD i ⟨0, 0, 0, 0⟩).d).toNat) * 1)), Pd.eq (.bool false), Pd.eq (.bool false), Pd.eq (.bool false), Pd.eq (pt p128 1), Pd.eq (iv (((outL M g b 0).getD i ⟨0, 0, 0, 0⟩).k)), Pd.eq (.bool (decide ((((outL M g b 0).getD i ⟨0, 0, 0, 0⟩).k) = 0))), Pd.eq (pt p128 0), Pd.eq (iv (((outL M g b 0).getD i ⟨0, 0, 0, 0⟩).d)), Pd.eq (pt p24 0), Pd.eq (iv ((g : Nat) : Int)), Pd.eq (iv (((outL M g b 0).getD i ⟨0, 0, 0, 0⟩).d % (g : Int))), Pd.eq (.bool (decide ((((outL M g b 0).getD i ⟨0, 0, 0, 0⟩).d % (g : Int)) = 0))), Pd.eq (.bool false), Pd.eq (.bool false)] (by kernel_rfl) (by kernel_rfl) ?_ ?_
  ·refine stepsF_cons ?_ ?_
   ·refine StepF.one rfl fun F_ w_ hR hout hD => ?_
    exact (y_fieldR (n := 1) rfl ((hout 14 rfl (by decide)).trans s157) Try.underlying38 rfl (by kernel_rfl) (by decide) rfl ⟨rfl, Kept.refl _ _⟩)
   refine stepsF_cons ?_ ?_
   ·refine StepF.one rfl fun F_ w_ hR hout hD => ?_
    have g53 : F_ 53 = pt p128 0 := (hD.get 0 rfl rfl rfl)
    exact (y_ld_stc rfl g53 Try.underlying3 (B142.all hR id) rfl rfl ⟨rfl, Kept.refl _ _⟩)
   refine stepsF_cons ?_ ?_
   ·refine StepF.one rfl fun F_ w_ hR hout hD => ?_
    have g54 : F_ 54 = iv (((outL M g b 0).getD i ⟨0, 0, 0, 0⟩).d) := (hD.get 0 rfl rfl rfl)
    exact (y_lss rfl g54 rfl (decide_eq_false (by omega)) ⟨rfl, Kept.refl _ _⟩)
   refine stepsF_cons ?_ ?_
   ·refine StepF.one rfl fun F_ w_ hR hout hD => ?_
    have g55 : F_ 55 = .bool false := (hD.get 0 rfl rfl rfl)
    exact (y_mov rfl g55 ⟨rfl, Kept.refl _ _⟩)
   refine stepsF_cons ?_ ?_
   ·refine StepF.when 3 false 56 rfl rfl fun F_ w_ hR hout hD => ?_
    have g56 : F_ 56 = .bool false := (hD.get 0 rfl rfl rfl)
    exact ⟨g56, (y_fieldR (n := 1) rfl ((hout 14 rfl (by decide)).trans s157) Try.underlying38 rfl (by kernel_rfl) (by decide) rfl ⟨rfl, Kept.refl _ _⟩)⟩
   refine stepsF_cons ?_ ?_
   ·refine StepF.when 3 false 56 rfl rfl fun F_ w_ hR hout hD => ?_
    have g56 : F_ 56 = .bool false := (hD.get 1 rfl rfl rfl)
    have g57 : F_ 57 = pt p128 0 := (hD.get 0 rfl rfl rfl)
    exact ⟨g56, (y_ld_stc rfl g57 Try.underlying3 (B142.all hR id) rfl rfl ⟨rfl, Kept.refl _ _⟩)⟩
   refine stepsF_cons ?_ ?_
   ·refine StepF.when 3 false 56 rfl rfl fun F_ w_ hR hout hD => ?_
    have g56 : F_ 56 = .bool false := (hD.get 0 rfl rfl rfl)
    exact ⟨g56, (y_mov rfl ((hout 8 rfl (by decide)).trans s151) ⟨rfl, Kept.refl _ _⟩)⟩
   refine stepsF_cons ?_ ?_
   ·refine StepF.when 3 false 56 rfl rfl fun F_ w_ hR hout hD => ?_
    have g56 : F_ 56 = .bool false := (hD.get 2 rfl rfl rfl)
    have g58 : F_ 58 = iv (((outL M g b 0).getD i ⟨0, 0, 0, 0⟩).d) := (hD.get 0 rfl rfl rfl)
    have g59 : F_ 59 = iv ((M : Nat) : Int) := (hD.get 1 rfl rfl rfl)
    exact ⟨g56, (y_geq rfl g58 g59 (decide_eq_false (by omega)) ⟨rfl, Kept.refl _ _⟩)⟩
   refine stepsF_cons ?_ ?_
   ·refine StepF.one rfl fun F_ w_ hR hout hD => ?_
    have g56 : F_ 56 = .bool false := (hD.get 0 rfl rfl rfl)
    have g60 : F_ 60 = .bool false := (hD.get 1 rfl rfl rfl)
    exact (y_pickF rfl g56 g60 ⟨rfl, Kept.refl _ _⟩)
   refine stepsF_cons ?_ ?_
   ·refine StepF.one rfl fun F_ w_ hR hout hD => ?_
    have g61 : F_ 61 = .bool false := (hD.get 0 rfl rfl rfl)
    exact (y_mov rfl g61 ⟨rfl, Kept.refl _ _⟩)
   refine stepsF_cons ?_ ?_
   ·refine StepF.when 9 false 62 rfl rfl fun F_ w_ hR hout hD => ?_
    have g62 : F_ 62 = .bool false := (hD.get 0 rfl rfl rfl)
    exact ⟨g62, (y_mov rfl ((hout 12 rfl (by decide)).trans s154) ⟨rfl, Kept.refl _ _⟩)⟩
   refine stepsF_cons ?_ ?_
   ·refine StepF.when 9 false 62 rfl rfl fun F_ w_ hR hout hD => ?_
    have g62 : F_ 62 = .bool false := (hD.get 0 rfl rfl rfl)
    exact ⟨g62, (y_fieldR (n := 1) rfl ((hout 14 rfl (by decide)).trans s157) Try.underlying38 rfl (by kernel_rfl) (by decide) rfl ⟨rfl, Kept.refl _ _⟩)⟩
   refine stepsF_cons ?_ ?_
   ·refine StepF.when 9 false 62 rfl rfl fun F_ w_ hR hout hD => ?_
    have g62 : F_ 62 = .bool false := (hD.get 1 rfl rfl rfl)
    have g64 : F_ 64 = pt p128 0 := (hD.get 0 rfl rfl rfl)
    exact ⟨g62, (y_ld_stc rfl g64 Try.underlying3 (B142.all hR id) rfl rfl ⟨rfl, Kept.refl _ _⟩)⟩
   refine stepsF_cons ?_ ?_
   ·refine StepF.when 9 false 62 rfl rfl fun F_ w_ hR hout hD => ?_
    have g62 : F_ 62 = .bool false := (hD.get 2 rfl rfl rfl)
    have g63 : F_ 63 = v68 := (hD.get 0 rfl rfl rfl)
    have g65 : F_ 65 = iv (((outL M g b 0).getD i ⟨0, 0, 0, 0⟩).d) := (hD.get 1 rfl rfl rfl)
    exact ⟨g62, (y_atRo (r := rBool) ((((outL M g b 0).getD i ⟨0, 0, 0, 0⟩).d).toNat) rfl g63 g65 (by omega) (B146.all hR Apart.none).roa (by omega) ⟨rfl, Kept.refl _ _⟩)⟩
   refine stepsF_cons ?_ ?_
   ·refine StepF.when 9 false 62 rfl rfl fun F_ w_ hR hout hD => ?_
    have g62 : F_ 62 = .bool false := (hD.get 1 rfl rfl rfl)
    have g66 : F_ 66 = bytAddr v68 (((((outL M g b 0).getD i ⟨0, 0, 0, 0⟩).d).toNat) * 1) := (hD.get 0 rfl rfl rfl)
    exact ⟨g62, (y_ldRo (r := rBool) ((((outL M g b 0).getD i ⟨0, 0, 0, 0⟩).d).toNat) 0 rfl g66 (B146.all hR Apart.none).roa (by omega) (by decide) (congrArg (fun z => some (Value.bool z)) (sdL_no hd0 hd1 hC.dn)) Try.underlying4 rfl ⟨rfl, Kept.refl _ _⟩)⟩
   refine stepsF_cons ?_ ?_
   ·refine StepF.one rfl fun F_ w_ hR hout hD => ?_
    have g62 : F_ 62 = .bool false := (hD.get 0 rfl rfl rfl)
    have g67 : F_ 67 = .bool false := (hD.get 1 rfl rfl rfl)
    exact (y_pickF rfl g62 g67 ⟨rfl, Kept.refl _ _⟩)
   refine stepsF_cons ?_ ?_
   ·refine StepF.one rfl fun F_ w_ hR hout hD => ?_
    have g68 : F_ 68 = .bool false := (hD.get 0 rfl rfl rfl)
    exact (y_mov rfl g68 ⟨rfl, Kept.refl _ _⟩)
   refine stepsF_cons ?_ ?_
   ·refine StepF.when 16 false 69 rfl rfl fun F_ w_ hR hout hD => ?_
    have g69 : F_ 69 = .bool false := (hD.get 0 rfl rfl rfl)
    exact ⟨g69, (y_fieldR (n := 1) rfl ((hout 14 rfl (by decide)).trans s157) Try.underlying38 rfl (by kernel_rfl) (by decide) rfl ⟨rfl, Kept.refl _ _⟩)⟩
   refine stepsF_cons ?_ ?_
   ·refine StepF.when 16 false 69 rfl rfl fun F_ w_ hR hout hD => ?_
    have g69 : F_ 69 = .bool false := (hD.get 1 rfl rfl rfl)
    have g70 : F_ 70 = pt p128 1 := (hD.get 0 rfl rfl rfl)
    exact ⟨g69, (y_ld_stc rfl g70 Try.underlying3 (B142.all hR id) rfl rfl ⟨rfl, Kept.refl _ _⟩)⟩
   refine stepsF_cons ?_ ?_
   ·refine StepF.when 16 false 69 rfl rfl fun F_ w_ hR hout hD => ?_
    have g69 : F_ 69 = .bool false := (hD.get 1 rfl rfl rfl)
    have g71 : F_ 71 = iv (((outL M g b 0).getD i ⟨0, 0, 0, 0⟩).k) := (hD.get 0 rfl rfl rfl)
    exact ⟨g69, (y_eqlI rfl g71 rfl rfl ⟨rfl, Kept.refl _ _⟩)⟩
   refine stepsF_cons ?_ ?_
   ·refine StepF.when 16 false 69 rfl rfl fun F_ w_ hR hout hD => ?_
    have g69 : F_ 69 = .bool false := (hD.get 0 rfl rfl rfl)
    exact ⟨g69, (y_fieldR (n := 1) rfl ((hout 14 rfl (by decide)).trans s157) Try.underlying38 rfl (by kernel_rfl) (by decide) rfl ⟨rfl, Kept.refl _ _⟩)⟩
   refine stepsF_cons ?_ ?_
   ·refine StepF.when 16 false 69 rfl rfl fun F_ w_ hR hout hD => ?_
    have g69 : F_ 69 = .bool false := (hD.get 1 rfl rfl rfl)
    have g73 : F_ 73 = pt p128 0 := (hD.get 0 rfl rfl rfl)
    exact ⟨g69, (y_ld_stc rfl g73 Try.underlying3 (B142.all hR id) rfl rfl ⟨rfl, Kept.refl _ _⟩)⟩
   refine stepsF_cons ?_ ?_
   ·refine StepF.when 16 false 69 rfl rfl fun F_ w_ hR hout hD => ?_
    have g69 : F_ 69 = .bool false := (hD.get 0 rfl rfl rfl)
    exact ⟨g69, (y_fieldR (n := 1) rfl ((hout 9 rfl (by decide)).trans s152) Try.underlying23 rfl (by kernel_rfl) (by decide) rfl ⟨rfl, Kept.refl _ _⟩)⟩
   refine stepsF_cons ?_ ?_
   ·refine StepF.when 16 false 69 rfl rfl fun F_ w_ hR hout hD => ?_
    have g69 : F_ 69 = .bool false := (hD.get 1 rfl rfl rfl)
    have g75 : F_ 75 = pt p24 0 := (hD.get 0 rfl rfl rfl)
    exact ⟨g69, (y_ld_stc rfl g75 Try.underlying3 (B144.all hR id) rfl rfl ⟨rfl, Kept.refl _ _⟩)⟩
   refine stepsF_cons ?_ ?_
   ·refine StepF.when 16 false 69 rfl rfl fun F_ w_ hR hout hD => ?_
    have g69 : F_ 69 = .bool false := (hD.get 2 rfl rfl rfl)
    have g74 : F_ 74 = iv (((outL M g b 0).getD i ⟨0, 0, 0, 0⟩).d) := (hD.get 0 rfl rfl rfl)
    have g76 : F_ 76 = iv ((g : Nat) : Int) := (hD.get 1 rfl rfl rfl)
    exact ⟨g69, (y_rem rfl g74 g76 (by first | decide | omega) (Int.tmod_eq_emod_of_nonneg hd0) ⟨rfl, Kept.refl _ _⟩)⟩
   refine stepsF_cons ?_ ?_
   ·refine StepF.when 16 false 69 rfl rfl fun F_ w_ hR hout hD => ?_
    have g69 : F_ 69 = .bool false := (hD.get 1 rfl rfl rfl)
    have g77 : F_ 77 = iv (((outL M g b 0).getD i ⟨0, 0, 0, 0⟩).d % (g : Int)) := (hD.get 0 rfl rfl rfl)
    exact ⟨g69, (y_eqlI rfl g77 rfl rfl ⟨rfl, Kept.refl _ _⟩)⟩
   refine stepsF_cons ?_ ?_
   ·refine StepF.when 16 false 69 rfl rfl fun F_ w_ hR hout hD => ?_
    have g69 : F_ 69 = .bool false := (hD.get 2 rfl rfl rfl)
    have g72 : F_ 72 = .bool (decide ((((outL M g b 0).getD i ⟨0, 0, 0, 0⟩).k) = 0)) := (hD.get 0 rfl rfl rfl)
    have g78 : F_ 78 = .bool (decide ((((outL M g b 0).getD i ⟨0, 0, 0, 0⟩).d % (g : Int)) = 0)) := (hD.get 1 rfl rfl rfl)
    exact ⟨g69, (y_neqB rfl g72 g78 Try.underlying4 (bne_of hC.kd) ⟨rfl, Kept.refl _ _⟩)⟩
   refine stepsF_cons ?_ ?_
   ·refine StepF.one rfl fun F_ w_ hR hout hD => ?_
    have g69 : F_ 69 = .bool false := (hD.get 0 rfl rfl rfl)
    have g79 : F_ 79 = .bool false := (hD.get 1 rfl rfl rfl)
    exact (y_pickF rfl g69 g79 ⟨rfl, Kept.refl _ _⟩)
   exact stepsF_nil
  intro v158 F159 w160 k161 G162 hF163
  have B165 := B144.all k161 id
  have B166 := B145.all k161 Apart.none
  have B167 := B146.all k161 Apart.none
  have B168 := B142.all k161 id
  have K169 := K147.tr k161
  obtain ⟨s170, s171, s172, s173, s174, s175, s176, s177⟩ := t8 hF163 7 s150 8 s151 9 s152 10 s153 12 s154 159 s155 13 s156 14 s157
  have s178 : F159 80 = .bool false := (hF163 80).trans (G162 27 (by decide))
  clear G162 hF163
  refine then_normal ?_
  refine wq_cond (t := false) s178 (fun e => by cases e) (fun _ => ?_)
  refine wq_skip (then_normal (wq_seq (wq_region (wl_mv rfl rfl rfl s174 (wl_v (pt p128 0) rfl rfl (y_fieldR (n := 1) rfl s177 Try.underlying38 rfl (by kernel_rfl) (by decide) rfl rr) (wl_v (iv (((outL M g b 0).getD i ⟨0, 0, 0, 0⟩).d)) rfl rfl (y_ld_stc rfl rfl Try.underlying3 B168 rfl rfl rr) (wl_v (bytAddr v68 (((((outL M g b 0).getD i ⟨0, 0, 0, 0⟩).d).toNat) * 1)) rfl rfl (y_atRo (r := rBool) ((((outL M g b 0).getD i ⟨0, 0, 0, 0⟩).d).toNat) rfl rfl rfl (by omega) B167.roa (by omega) rr) (wl_setRo (r := rBool) (u := true) ((((outL M g b 0).getD i ⟨0, 0, 0, 0⟩).d).toNat) rfl rfl rfl rfl rfl rfl B167 (by omega) fun w179 B180 k181 => ?_))))))))
  have B182 := B165.all k181 (ap115.symm p24 rfl)
  have B183 := B166.all k181 ap116.symm
  have B184 := B168.all k181 (ap136 p128 rfl)
  have K185 := K169.trans k181 (Grew.ok (S := fun _ => False) gr114 noB_le)
  refine wl_nil fun F186 hF187 => ?_
  obtain ⟨s188, s189, s190, s191, s192, s193, s194, s195⟩ := t8 hF187 7 s170 8 s171 9 s172 10 s173 12 s174 159 s175 13 s176 14 s177
  clear hF187
  refine then_normal (wq_seq (wq_seq ?_))
  have hp1 : ((outL M g b 0).getD i ⟨0, 0, 0, 0⟩).k = 0 ∨ (0 ≤ ((outL M g b 0).getD i ⟨0, 0, 0, 0⟩).p ∧ ((outL M g b 0).getD i ⟨0, 0, 0, 0⟩).p < ((outL M g b 0).getD i ⟨0, 0, 0, 0⟩).d) := by by_cases z : ((outL M g b 0).getD i ⟨0, 0, 0, 0⟩).k = 0; (exact .inl z); exact .inr ⟨(hC.past z).1, (hC.past z).2.1⟩
  have hs2 := sdL_len (outL M g b 0) M (i + 1)
  have B196 : RoO rBool w179 T98 v68 (sdL (outL M g b 0) M (i + 1)) := (by rw [← sdL_next (by omega) hd0]; exact B180)
  by_cases d197 : (((outL M g b 0).getD i ⟨0, 0, 0, 0⟩).k) ≠ 0
  ·skip
   refine wq_said [some 85, some 86, some 87, some 88, some 89, some 90, some 91, some 92, some 93, some 94, some 95, some 96, some 97, some 98, some 99, some 100, some 101, some 102, some 103, some 104, some 105, some 106, some 107, some 108, some 109, some 110, some 111, some 112, some 113, some 114, some 115, some 116, some 117, some 118, some 119, some 120] [Pd.eq (pt p128 1), Pd.eq (iv (((outL M g b 0).getD i ⟨0, 0, 0, 0⟩).k)), Pd.eq (.bool true), Pd.eq (.bool true), Pd.eq (pt p128 2), Pd.eq (iv (((outL M g b 0).getD i ⟨0, 0, 0, 0⟩).p)), Pd.eq (.bool false), Pd.eq (.bool false), Pd.eq (pt p128 2), Pd.eq (iv (((outL M g b 0).getD i ⟨0, 0, 0, 0⟩).p)), Pd.eq (pt p128 0), Pd.eq (iv (((outL M g b 0).getD i ⟨0, 0, 0, 0⟩).d)), Pd.eq (.bool false), Pd.eq (.bool false), Pd.eq (.bool false), Pd.eq v68, Pd.eq (pt p128 2), Pd.eq (iv (((outL M g b 0).getD i ⟨0, 0, 0, 0⟩).p)), Pd.eq (bytAddr v68 (((((outL M g b 0).getD i ⟨0, 0, 0, 0⟩).p).toNat) * 1)), Pd.eq (.bool true), Pd.eq (.bool false), Pd.eq (.bool false), Pd.eq (.bool false), Pd.eq (pt p128 2), Pd.eq (iv (((outL M g b 0).getD i ⟨0, 0, 0, 0⟩).p)), Pd.eq (pt p24 0), Pd.eq (iv ((g : Nat) : Int)), Pd.eq (iv (((outL M g b 0).getD i ⟨0, 0, 0, 0⟩).p / (g : Int))), Pd.eq (pt p128 0), Pd.eq (iv (((outL M g b 0).getD i ⟨0, 0, 0, 0⟩).d)), Pd.eq (pt p24 0), Pd.eq (iv ((g : Nat) : Int)), Pd.eq (iv (((outL M g b 0).getD i ⟨0, 0, 0, 0⟩).d / (g : Int))), Pd.eq (.bool false), Pd.eq (.bool false), Pd.eq (.bool false)] (by kernel_rfl) (by kernel_rfl) ?_ ?_
   ·refine stepsF_cons ?_ ?_
    ·refine StepF.one rfl fun F_ w_ hR hout hD => ?_
     exact (y_fieldR (n := 1) rfl ((hout 14 rfl (by decide)).trans s195) Try.underlying38 rfl (by kernel_rfl) (by decide) rfl ⟨rfl, Kept.refl _ _⟩)
    refine stepsF_cons ?_ ?_
    ·refine StepF.one rfl fun F_ w_ hR hout hD => ?_
     have g85 : F_ 85 = pt p128 1 := (hD.get 0 rfl rfl rfl)
     exact (y_ld_stc rfl g85 Try.underlying3 (B184.all hR id) rfl rfl ⟨rfl, Kept.refl _ _⟩)
    refine stepsF_cons ?_ ?_
    ·refine StepF.one rfl fun F_ w_ hR hout hD => ?_
     have g86 : F_ 86 = iv (((outL M g b 0).getD i ⟨0, 0, 0, 0⟩).k) := (hD.get 0 rfl rfl rfl)
     exact (y_neqI rfl g86 rfl (decide_eq_true d197) ⟨rfl, Kept.refl _ _⟩)
    refine stepsF_cons ?_ ?_
    ·refine StepF.one rfl fun F_ w_ hR hout hD => ?_
     have g87 : F_ 87 = .bool true := (hD.get 0 rfl rfl rfl)
     exact (y_mov rfl g87 ⟨rfl, Kept.refl _ _⟩)
    refine stepsF_cons ?_ ?_
    ·refine StepF.when 3 true 88 rfl rfl fun F_ w_ hR hout hD => ?_
     have g88 : F_ 88 = .bool true := (hD.get 0 rfl rfl rfl)
     exact ⟨g88, (y_fieldR (n := 1) rfl ((hout 14 rfl (by decide)).trans s195) Try.underlying38 rfl (by kernel_rfl) (by decide) rfl ⟨rfl, Kept.refl _ _⟩)⟩
    refine stepsF_cons ?_ ?_
    ·refine StepF.when 3 true 88 rfl rfl fun F_ w_ hR hout hD => ?_
     have g88 : F_ 88 = .bool true := (hD.get 1 rfl rfl rfl)
     have g89 : F_ 89 = pt p128 2 := (hD.get 0 rfl rfl rfl)
     exact ⟨g88, (y_ld_stc rfl g89 Try.underlying3 (B184.all hR id) rfl rfl ⟨rfl, Kept.refl _ _⟩)⟩
    refine stepsF_cons ?_ ?_
    ·refine StepF.when 3 true 88 rfl rfl fun F_ w_ hR hout hD => ?_
     have g88 : F_ 88 = .bool true := (hD.get 1 rfl rfl rfl)
     have g90 : F_ 90 = iv (((outL M g b 0).getD i ⟨0, 0, 0, 0⟩).p) := (hD.get 0 rfl rfl rfl)
     exact ⟨g88, (y_lss rfl g90 rfl (decide_eq_false (by have h_ := hC.past (by assumption); omega)) ⟨rfl, Kept.refl _ _⟩)⟩
    refine stepsF_cons ?_ ?_
    ·refine StepF.when 3 true 88 rfl rfl fun F_ w_ hR hout hD => ?_
     have g88 : F_ 88 = .bool true := (hD.get 1 rfl rfl rfl)
     have g91 : F_ 91 = .bool false := (hD.get 0 rfl rfl rfl)
     exact ⟨g88, (y_mov rfl g91 ⟨rfl, Kept.refl _ _⟩)⟩
    refine stepsF_cons ?_ ?_
    ·refine StepF.when 7 false 92 rfl rfl fun F_ w_ hR hout hD => ?_
     have g92 : F_ 92 = .bool false := (hD.get 0 rfl rfl rfl)
     exact ⟨g92, (y_fieldR (n := 1) rfl ((hout 14 rfl (by decide)).trans s195) Try.underlying38 rfl (by kernel_rfl) (by decide) rfl ⟨rfl, Kept.refl _ _⟩)⟩
    refine stepsF_cons ?_ ?_
    ·refine StepF.when 7 false 92 rfl rfl fun F_ w_ hR hout hD => ?_
     have g92 : F_ 92 = .bool false := (hD.get 1 rfl rfl rfl)
     have g93 : F_ 93 = pt p128 2 := (hD.get 0 rfl rfl rfl)
     exact ⟨g92, (y_ld_stc rfl g93 Try.underlying3 (B184.all hR id) rfl rfl ⟨rfl, Kept.refl _ _⟩)⟩
    refine stepsF_cons ?_ ?_
    ·refine StepF.when 7 false 92 rfl rfl fun F_ w_ hR hout hD => ?_
     have g92 : F_ 92 = .bool false := (hD.get 0 rfl rfl rfl)
     exact ⟨g92, (y_fieldR (n := 1) rfl ((hout 14 rfl (by decide)).trans s195) Try.underlying38 rfl (by kernel_rfl) (by decide) rfl ⟨rfl, Kept.refl _ _⟩)⟩
    refine stepsF_cons ?_ ?_
    ·refine StepF.when 7 false 92 rfl rfl fun F_ w_ hR hout hD => ?_
     have g92 : F_ 92 = .bool false := (hD.get 1 rfl rfl rfl)
     have g95 : F_ 95 = pt p128 0 := (hD.get 0 rfl rfl rfl)
     exact ⟨g92, (y_ld_stc rfl g95 Try.underlying3 (B184.all hR id) rfl rfl ⟨rfl, Kept.refl _ _⟩)⟩
    refine stepsF_cons ?_ ?_
    ·refine StepF.when 7 false 92 rfl rfl fun F_ w_ hR hout hD => ?_
     have g92 : F_ 92 = .bool false := (hD.get 2 rfl rfl rfl)
     have g94 : F_ 94 = iv (((outL M g b 0).getD i ⟨0, 0, 0, 0⟩).p) := (hD.get 0 rfl rfl rfl)
     have g96 : F_ 96 = iv (((outL M g b 0).getD i ⟨0, 0, 0, 0⟩).d) := (hD.get 1 rfl rfl rfl)
     exact ⟨g92, (y_geq rfl g94 g96 (decide_eq_false (by have h_ := hC.past (by assumption); omega)) ⟨rfl, Kept.refl _ _⟩)⟩
    refine stepsF_cons ?_ ?_
    ·refine StepF.when 3 true 88 rfl rfl fun F_ w_ hR hout hD => ?_
     have g88 : F_ 88 = .bool true := (hD.get 2 rfl rfl rfl)
     have g92 : F_ 92 = .bool false := (hD.get 0 rfl rfl rfl)
     have g97 : F_ 97 = .bool false := (hD.get 1 rfl rfl rfl)
     exact ⟨g88, (y_pickF rfl g92 g97 ⟨rfl, Kept.refl _ _⟩)⟩
    refine stepsF_cons ?_ ?_
    ·refine StepF.when 3 true 88 rfl rfl fun F_ w_ hR hout hD => ?_
     have g88 : F_ 88 = .bool true := (hD.get 2 rfl rfl rfl)
     have g98 : F_ 98 = .bool false := (hD.get 0 rfl rfl rfl)
     exact ⟨g88, (y_mov rfl g98 ⟨rfl, Kept.refl _ _⟩)⟩
    refine stepsF_cons ?_ ?_
    ·refine StepF.when 14 false 99 rfl rfl fun F_ w_ hR hout hD => ?_
     have g99 : F_ 99 = .bool false := (hD.get 0 rfl rfl rfl)
     exact ⟨g99, (y_mov rfl ((hout 12 rfl (by decide)).trans s192) ⟨rfl, Kept.refl _ _⟩)⟩
    refine stepsF_cons ?_ ?_
    ·refine StepF.when 14 false 99 rfl rfl fun F_ w_ hR hout hD => ?_
     have g99 : F_ 99 = .bool false := (hD.get 0 rfl rfl rfl)
     exact ⟨g99, (y_fieldR (n := 1) rfl ((hout 14 rfl (by decide)).trans s195) Try.underlying38 rfl (by kernel_rfl) (by decide) rfl ⟨rfl, Kept.refl _ _⟩)⟩
    refine stepsF_cons ?_ ?_
    ·refine StepF.when 14 false 99 rfl rfl fun F_ w_ hR hout hD => ?_
     have g99 : F_ 99 = .bool false := (hD.get 1 rfl rfl rfl)
     have g101 : F_ 101 = pt p128 2 := (hD.get 0 rfl rfl rfl)
     exact ⟨g99, (y_ld_stc rfl g101 Try.underlying3 (B184.all hR id) rfl rfl ⟨rfl, Kept.refl _ _⟩)⟩
    refine stepsF_cons ?_ ?_
    ·refine StepF.when 14 false 99 rfl rfl fun F_ w_ hR hout hD => ?_
     have g99 : F_ 99 = .bool false := (hD.get 2 rfl rfl rfl)
     have g100 : F_ 100 = v68 := (hD.get 0 rfl rfl rfl)
     have g102 : F_ 102 = iv (((outL M g b 0).getD i ⟨0, 0, 0, 0⟩).p) := (hD.get 1 rfl rfl rfl)
     exact ⟨g99, (y_atRo (r := rBool) ((((outL M g b 0).getD i ⟨0, 0, 0, 0⟩).p).toNat) rfl g100 g102 (by omega) (B196.all hR Apart.none).roa (by have h_ := hC.past (by assumption); omega) ⟨rfl, Kept.refl _ _⟩)⟩
    refine stepsF_cons ?_ ?_
    ·refine StepF.when 14 false 99 rfl rfl fun F_ w_ hR hout hD => ?_
     have g99 : F_ 99 = .bool false := (hD.get 1 rfl rfl rfl)
     have g103 : F_ 103 = bytAddr v68 (((((outL M g b 0).getD i ⟨0, 0, 0, 0⟩).p).toNat) * 1) := (hD.get 0 rfl rfl rfl)
     exact ⟨g99, (y_ldRo (r := rBool) ((((outL M g b 0).getD i ⟨0, 0, 0, 0⟩).p).toNat) 0 rfl g103 (B196.all hR Apart.none).roa (by have h_ := hC.past (by assumption); omega) (by decide) (congrArg (fun z => some (Value.bool z)) (sdL_yes (hC.past (by assumption)).1 (by have h_ := hC.past (by assumption); omega) (dsp_more (hC.past (by assumption)).2.2.1))) Try.underlying4 rfl ⟨rfl, Kept.refl _ _⟩)⟩
    refine stepsF_cons ?_ ?_
    ·refine StepF.when 14 false 99 rfl rfl fun F_ w_ hR hout hD => ?_
     have g99 : F_ 99 = .bool false := (hD.get 1 rfl rfl rfl)
     have g104 : F_ 104 = .bool true := (hD.get 0 rfl rfl rfl)
     exact ⟨g99, (y_not rfl g104 rfl ⟨rfl, Kept.refl _ _⟩)⟩
    refine stepsF_cons ?_ ?_
    ·refine StepF.when 3 true 88 rfl rfl fun F_ w_ hR hout hD => ?_
     have g88 : F_ 88 = .bool true := (hD.get 2 rfl rfl rfl)
     have g99 : F_ 99 = .bool false := (hD.get 0 rfl rfl rfl)
     have g105 : F_ 105 = .bool false := (hD.get 1 rfl rfl rfl)
     exact ⟨g88, (y_pickF rfl g99 g105 ⟨rfl, Kept.refl _ _⟩)⟩
    refine stepsF_cons ?_ ?_
    ·refine StepF.when 3 true 88 rfl rfl fun F_ w_ hR hout hD => ?_
     have g88 : F_ 88 = .bool true := (hD.get 2 rfl rfl rfl)
     have g106 : F_ 106 = .bool false := (hD.get 0 rfl rfl rfl)
     exact ⟨g88, (y_mov rfl g106 ⟨rfl, Kept.refl _ _⟩)⟩
    refine stepsF_cons ?_ ?_
    ·refine StepF.when 22 false 107 rfl rfl fun F_ w_ hR hout hD => ?_
     have g107 : F_ 107 = .bool false := (hD.get 0 rfl rfl rfl)
     exact ⟨g107, (y_fieldR (n := 1) rfl ((hout 14 rfl (by decide)).trans s195) Try.underlying38 rfl (by kernel_rfl) (by decide) rfl ⟨rfl, Kept.refl _ _⟩)⟩
    refine stepsF_cons ?_ ?_
    ·refine StepF.when 22 false 107 rfl rfl fun F_ w_ hR hout hD => ?_
     have g107 : F_ 107 = .bool false := (hD.get 1 rfl rfl rfl)
     have g108 : F_ 108 = pt p128 2 := (hD.get 0 rfl rfl rfl)
     exact ⟨g107, (y_ld_stc rfl g108 Try.underlying3 (B184.all hR id) rfl rfl ⟨rfl, Kept.refl _ _⟩)⟩
    refine stepsF_cons ?_ ?_
    ·refine StepF.when 22 false 107 rfl rfl fun F_ w_ hR hout hD => ?_
     have g107 : F_ 107 = .bool false := (hD.get 0 rfl rfl rfl)
     exact ⟨g107, (y_fieldR (n := 1) rfl ((hout 9 rfl (by decide)).trans s190) Try.underlying23 rfl (by kernel_rfl) (by decide) rfl ⟨rfl, Kept.refl _ _⟩)⟩
    refine stepsF_cons ?_ ?_
    ·refine StepF.when 22 false 107 rfl rfl fun F_ w_ hR hout hD => ?_
     have g107 : F_ 107 = .bool false := (hD.get 1 rfl rfl rfl)
     have g110 : F_ 110 = pt p24 0 := (hD.get 0 rfl rfl rfl)
     exact ⟨g107, (y_ld_stc rfl g110 Try.underlying3 (B182.all hR id) rfl rfl ⟨rfl, Kept.refl _ _⟩)⟩
    refine stepsF_cons ?_ ?_
    ·refine StepF.when 22 false 107 rfl rfl fun F_ w_ hR hout hD => ?_
     have g107 : F_ 107 = .bool false := (hD.get 2 rfl rfl rfl)
     have g109 : F_ 109 = iv (((outL M g b 0).getD i ⟨0, 0, 0, 0⟩).p) := (hD.get 0 rfl rfl rfl)
     have g111 : F_ 111 = iv ((g : Nat) : Int) := (hD.get 1 rfl rfl rfl)
     exact ⟨g107, (y_quo rfl g109 g111 (by first | decide | omega) (quoI (hC.past (by assumption)).1 (by have h_ := hC.past (by assumption); omega) (by omega)) ⟨rfl, Kept.refl _ _⟩)⟩
    refine stepsF_cons ?_ ?_
    ·refine StepF.when 22 false 107 rfl rfl fun F_ w_ hR hout hD => ?_
     have g107 : F_ 107 = .bool false := (hD.get 0 rfl rfl rfl)
     exact ⟨g107, (y_fieldR (n := 1) rfl ((hout 14 rfl (by decide)).trans s195) Try.underlying38 rfl (by kernel_rfl) (by decide) rfl ⟨rfl, Kept.refl _ _⟩)⟩
    refine stepsF_cons ?_ ?_
    ·refine StepF.when 22 false 107 rfl rfl fun F_ w_ hR hout hD => ?_
     have g107 : F_ 107 = .bool false := (hD.get 1 rfl rfl rfl)
     have g113 : F_ 113 = pt p128 0 := (hD.get 0 rfl rfl rfl)
     exact ⟨g107, (y_ld_stc rfl g113 Try.underlying3 (B184.all hR id) rfl rfl ⟨rfl, Kept.refl _ _⟩)⟩
    refine stepsF_cons ?_ ?_
    ·refine StepF.when 22 false 107 rfl rfl fun F_ w_ hR hout hD => ?_
     have g107 : F_ 107 = .bool false := (hD.get 0 rfl rfl rfl)
     exact ⟨g107, (y_fieldR (n := 1) rfl ((hout 9 rfl (by decide)).trans s190) Try.underlying23 rfl (by kernel_rfl) (by decide) rfl ⟨rfl, Kept.refl _ _⟩)⟩
    refine stepsF_cons ?_ ?_
    ·refine StepF.when 22 false 107 rfl rfl fun F_ w_ hR hout hD => ?_
     have g107 : F_ 107 = .bool false := (hD.get 1 rfl rfl rfl)
     have g115 : F_ 115 = pt p24 0 := (hD.get 0 rfl rfl rfl)
     exact ⟨g107, (y_ld_stc rfl g115 Try.underlying3 (B182.all hR id) rfl rfl ⟨rfl, Kept.refl _ _⟩)⟩
    refine stepsF_cons ?_ ?_
    ·refine StepF.when 22 false 107 rfl rfl fun F_ w_ hR hout hD => ?_
     have g107 : F_ 107 = .bool false := (hD.get 2 rfl rfl rfl)
     have g114 : F_ 114 = iv (((outL M g b 0).getD i ⟨0, 0, 0, 0⟩).d) := (hD.get 0 rfl rfl rfl)
     have g116 : F_ 116 = iv ((g : Nat) : Int) := (hD.get 1 rfl rfl rfl)
     exact ⟨g107, (y_quo rfl g114 g116 (by first | decide | omega) (quoI hd0 (by omega) (by omega)) ⟨rfl, Kept.refl _ _⟩)⟩
    refine stepsF_cons ?_ ?_
    ·refine StepF.when 22 false 107 rfl rfl fun F_ w_ hR hout hD => ?_
     have g107 : F_ 107 = .bool false := (hD.get 2 rfl rfl rfl)
     have g112 : F_ 112 = iv (((outL M g b 0).getD i ⟨0, 0, 0, 0⟩).p / (g : Int)) := (hD.get 0 rfl rfl rfl)
     have g117 : F_ 117 = iv (((outL M g b 0).getD i ⟨0, 0, 0, 0⟩).d / (g : Int)) := (hD.get 1 rfl rfl rfl)
     exact ⟨g107, (y_neqI rfl g112 g117 (decide_eq_false (fun h => h (hC.past (by assumption)).2.2.2)) ⟨rfl, Kept.refl _ _⟩)⟩
    refine stepsF_cons ?_ ?_
    ·refine StepF.when 3 true 88 rfl rfl fun F_ w_ hR hout hD => ?_
     have g88 : F_ 88 = .bool true := (hD.get 2 rfl rfl rfl)
     have g107 : F_ 107 = .bool false := (hD.get 0 rfl rfl rfl)
     have g118 : F_ 118 = .bool false := (hD.get 1 rfl rfl rfl)
     exact ⟨g88, (y_pickF rfl g107 g118 ⟨rfl, Kept.refl _ _⟩)⟩
    refine stepsF_cons ?_ ?_
    ·refine StepF.one rfl fun F_ w_ hR hout hD => ?_
     have g88 : F_ 88 = .bool true := (hD.get 0 rfl rfl rfl)
     have g119 : F_ 119 = .bool false := (hD.get 1 rfl rfl rfl)
     exact (y_pickT rfl g88 g119 ⟨rfl, Kept.refl _ _⟩)
    exact stepsF_nil
   intro v198 F199 w200 k201 G202 hF203
   have B205 := B182.all k201 id
   have B206 := B183.all k201 Apart.none
   have B207 := B196.all k201 Apart.none
   have B208 := B184.all k201 id
   have K209 := K185.tr k201
   obtain ⟨s210, s211, s212, s213, s214, s215, s216, s217⟩ := t8 hF203 7 s188 8 s189 9 s190 10 s191 12 s192 159 s193 13 s194 14 s195
   have s218 : F199 120 = .bool false := (hF203 120).trans (G202 35 (by decide))
   clear G202 hF203
   refine then_normal ?_
   refine wq_cond (t := false) s218 (fun e => by cases e) (fun _ => ?_)
   refine wq_skip (then_normal (wq_seq ?_))
   have hp2 : ((outL M g b 0).getD i ⟨0, 0, 0, 0⟩).k ≠ 2 ∨ (((outL M g b 0).getD i ⟨0, 0, 0, 0⟩).d < ((outL M g b 0).getD i ⟨0, 0, 0, 0⟩).n ∧ ((outL M g b 0).getD i ⟨0, 0, 0, 0⟩).n < M) := by by_cases z : ((outL M g b 0).getD i ⟨0, 0, 0, 0⟩).k = 2; (exact .inr ⟨(hC.next z).1, (hC.next z).2.1⟩); exact .inl z
   by_cases d219 : (((outL M g b 0).getD i ⟨0, 0, 0, 0⟩).k) = 2
   ·skip
    refine wq_said [some 121, some 122, some 123, some 124, some 125, some 126, some 127, some 128, some 129, some 130, some 131, some 132, some 133, some 134, some 135, some 136, some 137, some 138, some 139, some 140, some 141, some 142, some 143, some 144, some 145, some 146, some 147, some 148, some 149, some 150, some 151, some 152, some 153, some 154, some 155, some 156, some 157] [Pd.eq (pt p128 1), Pd.eq (iv (((outL M g b 0).getD i ⟨0, 0, 0, 0⟩).k)), Pd.eq (.bool true), Pd.eq (.bool true), Pd.eq (pt p128 3), Pd.eq (iv (((outL M g b 0).getD i ⟨0, 0, 0, 0⟩).n)), Pd.eq (pt p128 0), Pd.eq (iv (((outL M g b 0).getD i ⟨0, 0, 0, 0⟩).d)), Pd.eq (.bool false), Pd.eq (.bool false), Pd.eq (pt p128 3), Pd.eq (iv (((outL M g b 0).getD i ⟨0, 0, 0, 0⟩).n)), Pd.eq (iv ((M : Nat) : Int)), Pd.eq (.bool false), Pd.eq (.bool false), Pd.eq (.bool false), Pd.eq v68, Pd.eq (pt p128 3), Pd.eq (iv (((outL M g b 0).getD i ⟨0, 0, 0, 0⟩).n)), Pd.eq (bytAddr v68 (((((outL M g b 0).getD i ⟨0, 0, 0, 0⟩).n).toNat) * 1)), Pd.eq (.bool true), Pd.eq (.bool false), Pd.eq (.bool false), Pd.eq (.bool false), Pd.eq (pt p128 3), Pd.eq (iv (((outL M g b 0).getD i ⟨0, 0, 0, 0⟩).n)), Pd.eq (pt p24 0), Pd.eq (iv ((g : Nat) : Int)), Pd.eq (iv (((outL M g b 0).getD i ⟨0, 0, 0, 0⟩).n / (g : Int))), Pd.eq (pt p128 0), Pd.eq (iv (((outL M g b 0).getD i ⟨0, 0, 0, 0⟩).d)), Pd.eq (pt p24 0), Pd.eq (iv ((g : Nat) : Int)), Pd.eq (iv (((outL M g b 0).getD i ⟨0, 0, 0, 0⟩).d / (g : Int))), Pd.eq (.bool false), Pd.eq (.bool false), Pd.eq (.bool false)] (by kernel_rfl) (by kernel_rfl) ?_ ?_
    ·refine stepsF_cons ?_ ?_
     ·refine StepF.one rfl fun F_ w_ hR hout hD => ?_
      exact (y_fieldR (n := 1) rfl ((hout 14 rfl (by decide)).trans s217) Try.underlying38 rfl (by kernel_rfl) (by decide) rfl ⟨rfl, Kept.refl _ _⟩)
     refine stepsF_cons ?_ ?_
     ·refine StepF.one rfl fun F_ w_ hR hout hD => ?_
      have g121 : F_ 121 = pt p128 1 := (hD.get 0 rfl rfl rfl)
      exact (y_ld_stc rfl g121 Try.underlying3 (B208.all hR id) rfl rfl ⟨rfl, Kept.refl _ _⟩)
     refine stepsF_cons ?_ ?_
     ·refine StepF.one rfl fun F_ w_ hR hout hD => ?_
      have g122 : F_ 122 = iv (((outL M g b 0).getD i ⟨0, 0, 0, 0⟩).k) := (hD.get 0 rfl rfl rfl)
      exact (y_eqlI rfl g122 rfl (decide_eq_true d219) ⟨rfl, Kept.refl _ _⟩)
     refine stepsF_cons ?_ ?_
     ·refine StepF.one rfl fun F_ w_ hR hout hD => ?_
      have g123 : F_ 123 = .bool true := (hD.get 0 rfl rfl rfl)
      exact (y_mov rfl g123 ⟨rfl, Kept.refl _ _⟩)
     refine stepsF_cons ?_ ?_
     ·refine StepF.when 3 true 124 rfl rfl fun F_ w_ hR hout hD => ?_
      have g124 : F_ 124 = .bool true := (hD.get 0 rfl rfl rfl)
      exact ⟨g124, (y_fieldR (n := 1) rfl ((hout 14 rfl (by decide)).trans s217) Try.underlying38 rfl (by kernel_rfl) (by decide) rfl ⟨rfl, Kept.refl _ _⟩)⟩
     refine stepsF_cons ?_ ?_
     ·refine StepF.when 3 true 124 rfl rfl fun F_ w_ hR hout hD => ?_
      have g124 : F_ 124 = .bool true := (hD.get 1 rfl rfl rfl)
      have g125 : F_ 125 = pt p128 3 := (hD.get 0 rfl rfl rfl)
      exact ⟨g124, (y_ld_stc rfl g125 Try.underlying3 (B208.all hR id) rfl rfl ⟨rfl, Kept.refl _ _⟩)⟩
     refine stepsF_cons ?_ ?_
     ·refine StepF.when 3 true 124 rfl rfl fun F_ w_ hR hout hD => ?_
      have g124 : F_ 124 = .bool true := (hD.get 0 rfl rfl rfl)
      exact ⟨g124, (y_fieldR (n := 1) rfl ((hout 14 rfl (by decide)).trans s217) Try.underlying38 rfl (by kernel_rfl) (by decide) rfl ⟨rfl, Kept.refl _ _⟩)⟩
     refine stepsF_cons ?_ ?_
     ·refine StepF.when 3 true 124 rfl rfl fun F_ w_ hR hout hD => ?_
      have g124 : F_ 124 = .bool true := (hD.get 1 rfl rfl rfl)
      have g127 : F_ 127 = pt p128 0 := (hD.get 0 rfl rfl rfl)
      exact ⟨g124, (y_ld_stc rfl g127 Try.underlying3 (B208.all hR id) rfl rfl ⟨rfl, Kept.refl _ _⟩)⟩
     refine stepsF_cons ?_ ?_
     ·refine StepF.when 3 true 124 rfl rfl fun F_ w_ hR hout hD => ?_
      have g124 : F_ 124 = .bool true := (hD.get 2 rfl rfl rfl)
      have g126 : F_ 126 = iv (((outL M g b 0).getD i ⟨0, 0, 0, 0⟩).n) := (hD.get 0 rfl rfl rfl)
      have g128 : F_ 128 = iv (((outL M g b 0).getD i ⟨0, 0, 0, 0⟩).d) := (hD.get 1 rfl rfl rfl)
      exact ⟨g124, (y_leq rfl g126 g128 (decide_eq_false (by have h_ := hC.next (by assumption); omega)) ⟨rfl, Kept.refl _ _⟩)⟩
     refine stepsF_cons ?_ ?_
     ·refine StepF.when 3 true 124 rfl rfl fun F_ w_ hR hout hD => ?_
      have g124 : F_ 124 = .bool true := (hD.get 1 rfl rfl rfl)
      have g129 : F_ 129 = .bool false := (hD.get 0 rfl rfl rfl)
      exact ⟨g124, (y_mov rfl g129 ⟨rfl, Kept.refl _ _⟩)⟩
     refine stepsF_cons ?_ ?_
     ·refine StepF.when 9 false 130 rfl rfl fun F_ w_ hR hout hD => ?_
      have g130 : F_ 130 = .bool false := (hD.get 0 rfl rfl rfl)
      exact ⟨g130, (y_fieldR (n := 1) rfl ((hout 14 rfl (by decide)).trans s217) Try.underlying38 rfl (by kernel_rfl) (by decide) rfl ⟨rfl, Kept.refl _ _⟩)⟩
     refine stepsF_cons ?_ ?_
     ·refine StepF.when 9 false 130 rfl rfl fun F_ w_ hR hout hD => ?_
      have g130 : F_ 130 = .bool false := (hD.get 1 rfl rfl rfl)
      have g131 : F_ 131 = pt p128 3 := (hD.get 0 rfl rfl rfl)
      exact ⟨g130, (y_ld_stc rfl g131 Try.underlying3 (B208.all hR id) rfl rfl ⟨rfl, Kept.refl _ _⟩)⟩
     refine stepsF_cons ?_ ?_
     ·refine StepF.when 9 false 130 rfl rfl fun F_ w_ hR hout hD => ?_
      have g130 : F_ 130 = .bool false := (hD.get 0 rfl rfl rfl)
      exact ⟨g130, (y_mov rfl ((hout 8 rfl (by decide)).trans s211) ⟨rfl, Kept.refl _ _⟩)⟩
     refine stepsF_cons ?_ ?_
     ·refine StepF.when 9 false 130 rfl rfl fun F_ w_ hR hout hD => ?_
      have g130 : F_ 130 = .bool false := (hD.get 2 rfl rfl rfl)
      have g132 : F_ 132 = iv (((outL M g b 0).getD i ⟨0, 0, 0, 0⟩).n) := (hD.get 0 rfl rfl rfl)
      have g133 : F_ 133 = iv ((M : Nat) : Int) := (hD.get 1 rfl rfl rfl)
      exact ⟨g130, (y_geq rfl g132 g133 (decide_eq_false (by have h_ := hC.next (by assumption); omega)) ⟨rfl, Kept.refl _ _⟩)⟩
     refine stepsF_cons ?_ ?_
     ·refine StepF.when 3 true 124 rfl rfl fun F_ w_ hR hout hD => ?_
      have g124 : F_ 124 = .bool true := (hD.get 2 rfl rfl rfl)
      have g130 : F_ 130 = .bool false := (hD.get 0 rfl rfl rfl)
      have g134 : F_ 134 = .bool false := (hD.get 1 rfl rfl rfl)
      exact ⟨g124, (y_pickF rfl g130 g134 ⟨rfl, Kept.refl _ _⟩)⟩
     refine stepsF_cons ?_ ?_
     ·refine StepF.when 3 true 124 rfl rfl fun F_ w_ hR hout hD => ?_
      have g124 : F_ 124 = .bool true := (hD.get 2 rfl rfl rfl)
      have g135 : F_ 135 = .bool false := (hD.get 0 rfl rfl rfl)
      exact ⟨g124, (y_mov rfl g135 ⟨rfl, Kept.refl _ _⟩)⟩
     refine stepsF_cons ?_ ?_
     ·refine StepF.when 15 false 136 rfl rfl fun F_ w_ hR hout hD => ?_
      have g136 : F_ 136 = .bool false := (hD.get 0 rfl rfl rfl)
      exact ⟨g136, (y_mov rfl ((hout 12 rfl (by decide)).trans s214) ⟨rfl, Kept.refl _ _⟩)⟩
     refine stepsF_cons ?_ ?_
     ·refine StepF.when 15 false 136 rfl rfl fun F_ w_ hR hout hD => ?_
      have g136 : F_ 136 = .bool false := (hD.get 0 rfl rfl rfl)
      exact ⟨g136, (y_fieldR (n := 1) rfl ((hout 14 rfl (by decide)).trans s217) Try.underlying38 rfl (by kernel_rfl) (by decide) rfl ⟨rfl, Kept.refl _ _⟩)⟩
     refine stepsF_cons ?_ ?_
     ·refine StepF.when 15 false 136 rfl rfl fun F_ w_ hR hout hD => ?_
      have g136 : F_ 136 = .bool false := (hD.get 1 rfl rfl rfl)
      have g138 : F_ 138 = pt p128 3 := (hD.get 0 rfl rfl rfl)
      exact ⟨g136, (y_ld_stc rfl g138 Try.underlying3 (B208.all hR id) rfl rfl ⟨rfl, Kept.refl _ _⟩)⟩
     refine stepsF_cons ?_ ?_
     ·refine StepF.when 15 false 136 rfl rfl fun F_ w_ hR hout hD => ?_
      have g136 : F_ 136 = .bool false := (hD.get 2 rfl rfl rfl)
      have g137 : F_ 137 = v68 := (hD.get 0 rfl rfl rfl)
      have g139 : F_ 139 = iv (((outL M g b 0).getD i ⟨0, 0, 0, 0⟩).n) := (hD.get 1 rfl rfl rfl)
      exact ⟨g136, (y_atRo (r := rBool) ((((outL M g b 0).getD i ⟨0, 0, 0, 0⟩).n).toNat) rfl g137 g139 (by omega) (B207.all hR Apart.none).roa (by have h_ := hC.next (by assumption); omega) ⟨rfl, Kept.refl _ _⟩)⟩
     refine stepsF_cons ?_ ?_
     ·refine StepF.when 15 false 136 rfl rfl fun F_ w_ hR hout hD => ?_
      have g136 : F_ 136 = .bool false := (hD.get 1 rfl rfl rfl)
      have g140 : F_ 140 = bytAddr v68 (((((outL M g b 0).getD i ⟨0, 0, 0, 0⟩).n).toNat) * 1) := (hD.get 0 rfl rfl rfl)
      exact ⟨g136, (y_ldRo (r := rBool) ((((outL M g b 0).getD i ⟨0, 0, 0, 0⟩).n).toNat) 0 rfl g140 (B207.all hR Apart.none).roa (by have h_ := hC.next (by assumption); omega) (by decide) (congrArg (fun z => some (Value.bool z)) (sdL_yes (by have h_ := hC.next (by assumption); omega) (hC.next (by assumption)).2.1 (dsp_more (hC.next (by assumption)).2.2.1))) Try.underlying4 rfl ⟨rfl, Kept.refl _ _⟩)⟩
     refine stepsF_cons ?_ ?_
     ·refine StepF.when 15 false 136 rfl rfl fun F_ w_ hR hout hD => ?_
      have g136 : F_ 136 = .bool false := (hD.get 1 rfl rfl rfl)
      have g141 : F_ 141 = .bool true := (hD.get 0 rfl rfl rfl)
      exact ⟨g136, (y_not rfl g141 rfl ⟨rfl, Kept.refl _ _⟩)⟩
     refine stepsF_cons ?_ ?_
     ·refine StepF.when 3 true 124 rfl rfl fun F_ w_ hR hout hD => ?_
      have g124 : F_ 124 = .bool true := (hD.get 2 rfl rfl rfl)
      have g136 : F_ 136 = .bool false := (hD.get 0 rfl rfl rfl)
      have g142 : F_ 142 = .bool false := (hD.get 1 rfl rfl rfl)
      exact ⟨g124, (y_pickF rfl g136 g142 ⟨rfl, Kept.refl _ _⟩)⟩
     refine stepsF_cons ?_ ?_
     ·refine StepF.when 3 true 124 rfl rfl fun F_ w_ hR hout hD => ?_
      have g124 : F_ 124 = .bool true := (hD.get 2 rfl rfl rfl)
      have g143 : F_ 143 = .bool false := (hD.get 0 rfl rfl rfl)
      exact ⟨g124, (y_mov rfl g143 ⟨rfl, Kept.refl _ _⟩)⟩
     refine stepsF_cons ?_ ?_
     ·refine StepF.when 23 false 144 rfl rfl fun F_ w_ hR hout hD => ?_
      have g144 : F_ 144 = .bool false := (hD.get 0 rfl rfl rfl)
      exact ⟨g144, (y_fieldR (n := 1) rfl ((hout 14 rfl (by decide)).trans s217) Try.underlying38 rfl (by kernel_rfl) (by decide) rfl ⟨rfl, Kept.refl _ _⟩)⟩
     refine stepsF_cons ?_ ?_
     ·refine StepF.when 23 false 144 rfl rfl fun F_ w_ hR hout hD => ?_
      have g144 : F_ 144 = .bool false := (hD.get 1 rfl rfl rfl)
      have g145 : F_ 145 = pt p128 3 := (hD.get 0 rfl rfl rfl)
      exact ⟨g144, (y_ld_stc rfl g145 Try.underlying3 (B208.all hR id) rfl rfl ⟨rfl, Kept.refl _ _⟩)⟩
     refine stepsF_cons ?_ ?_
     ·refine StepF.when 23 false 144 rfl rfl fun F_ w_ hR hout hD => ?_
      have g144 : F_ 144 = .bool false := (hD.get 0 rfl rfl rfl)
      exact ⟨g144, (y_fieldR (n := 1) rfl ((hout 9 rfl (by decide)).trans s212) Try.underlying23 rfl (by kernel_rfl) (by decide) rfl ⟨rfl, Kept.refl _ _⟩)⟩
     refine stepsF_cons ?_ ?_
     ·refine StepF.when 23 false 144 rfl rfl fun F_ w_ hR hout hD => ?_
      have g144 : F_ 144 = .bool false := (hD.get 1 rfl rfl rfl)
      have g147 : F_ 147 = pt p24 0 := (hD.get 0 rfl rfl rfl)
      exact ⟨g144, (y_ld_stc rfl g147 Try.underlying3 (B205.all hR id) rfl rfl ⟨rfl, Kept.refl _ _⟩)⟩
     refine stepsF_cons ?_ ?_
     ·refine StepF.when 23 false 144 rfl rfl fun F_ w_ hR hout hD => ?_
      have g144 : F_ 144 = .bool false := (hD.get 2 rfl rfl rfl)
      have g146 : F_ 146 = iv (((outL M g b 0).getD i ⟨0, 0, 0, 0⟩).n) := (hD.get 0 rfl rfl rfl)
      have g148 : F_ 148 = iv ((g : Nat) : Int) := (hD.get 1 rfl rfl rfl)
      exact ⟨g144, (y_quo rfl g146 g148 (by first | decide | omega) (quoI (by have h_ := hC.next (by assumption); omega) (by have h_ := hC.next (by assumption); omega) (by omega)) ⟨rfl, Kept.refl _ _⟩)⟩
     refine stepsF_cons ?_ ?_
     ·refine StepF.when 23 false 144 rfl rfl fun F_ w_ hR hout hD => ?_
      have g144 : F_ 144 = .bool false := (hD.get 0 rfl rfl rfl)
      exact ⟨g144, (y_fieldR (n := 1) rfl ((hout 14 rfl (by decide)).trans s217) Try.underlying38 rfl (by kernel_rfl) (by decide) rfl ⟨rfl, Kept.refl _ _⟩)⟩
     refine stepsF_cons ?_ ?_
     ·refine StepF.when 23 false 144 rfl rfl fun F_ w_ hR hout hD => ?_
      have g144 : F_ 144 = .bool false := (hD.get 1 rfl rfl rfl)
      have g150 : F_ 150 = pt p128 0 := (hD.get 0 rfl rfl rfl)
      exact ⟨g144, (y_ld_stc rfl g150 Try.underlying3 (B208.all hR id) rfl rfl ⟨rfl, Kept.refl _ _⟩)⟩
     refine stepsF_cons ?_ ?_
     ·refine StepF.when 23 false 144 rfl rfl fun F_ w_ hR hout hD => ?_
      have g144 : F_ 144 = .bool false := (hD.get 0 rfl rfl rfl)
      exact ⟨g144, (y_fieldR (n := 1) rfl ((hout 9 rfl (by decide)).trans s212) Try.underlying23 rfl (by kernel_rfl) (by decide) rfl ⟨rfl, Kept.refl _ _⟩)⟩
     refine stepsF_cons ?_ ?_
     ·refine StepF.when 23 false 144 rfl rfl fun F_ w_ hR hout hD => ?_
      have g144 : F_ 144 = .bool false := (hD.get 1 rfl rfl rfl)
      have g152 : F_ 152 = pt p24 0 := (hD.get 0 rfl rfl rfl)
      exact ⟨g144, (y_ld_stc rfl g152 Try.underlying3 (B205.all hR id) rfl rfl ⟨rfl, Kept.refl _ _⟩)⟩
     refine stepsF_cons ?_ ?_
     ·refine StepF.when 23 false 144 rfl rfl fun F_ w_ hR hout hD => ?_
      have g144 : F_ 144 = .bool false := (hD.get 2 rfl rfl rfl)
      have g151 : F_ 151 = iv (((outL M g b 0).getD i ⟨0, 0, 0, 0⟩).d) := (hD.get 0 rfl rfl rfl)
      have g153 : F_ 153 = iv ((g : Nat) : Int) := (hD.get 1 rfl rfl rfl)
      exact ⟨g144, (y_quo rfl g151 g153 (by first | decide | omega) (quoI hd0 (by omega) (by omega)) ⟨rfl, Kept.refl _ _⟩)⟩
     refine stepsF_cons ?_ ?_
     ·refine StepF.when 23 false 144 rfl rfl fun F_ w_ hR hout hD => ?_
      have g144 : F_ 144 = .bool false := (hD.get 2 rfl rfl rfl)
      have g149 : F_ 149 = iv (((outL M g b 0).getD i ⟨0, 0, 0, 0⟩).n / (g : Int)) := (hD.get 0 rfl rfl rfl)
      have g154 : F_ 154 = iv (((outL M g b 0).getD i ⟨0, 0, 0, 0⟩).d / (g : Int)) := (hD.get 1 rfl rfl rfl)
      exact ⟨g144, (y_neqI rfl g149 g154 (decide_eq_false (fun h => h (hC.next (by assumption)).2.2.2)) ⟨rfl, Kept.refl _ _⟩)⟩
     refine stepsF_cons ?_ ?_
     ·refine StepF.when 3 true 124 rfl rfl fun F_ w_ hR hout hD => ?_
      have g124 : F_ 124 = .bool true := (hD.get 2 rfl rfl rfl)
      have g144 : F_ 144 = .bool false := (hD.get 0 rfl rfl rfl)
      have g155 : F_ 155 = .bool false := (hD.get 1 rfl rfl rfl)
      exact ⟨g124, (y_pickF rfl g144 g155 ⟨rfl, Kept.refl _ _⟩)⟩
     refine stepsF_cons ?_ ?_
     ·refine StepF.one rfl fun F_ w_ hR hout hD => ?_
      have g124 : F_ 124 = .bool true := (hD.get 0 rfl rfl rfl)
      have g156 : F_ 156 = .bool false := (hD.get 1 rfl rfl rfl)
      exact (y_pickT rfl g124 g156 ⟨rfl, Kept.refl _ _⟩)
     exact stepsF_nil
    intro v220 F221 w222 k223 G224 hF225
    have B227 := B205.all k223 id
    have B228 := B206.all k223 Apart.none
    have B229 := B207.all k223 Apart.none
    have K231 := K209.tr k223
    obtain ⟨s232, s233, s234, s235, s236, s237, s238⟩ := t7 hF225 7 s210 8 s211 9 s212 10 s213 12 s214 159 s215 13 s216
    have s239 : F221 157 = .bool false := (hF225 157).trans (G224 36 (by decide))
    clear G224 hF225
    refine then_normal ?_
    refine wq_cond (t := false) s239 (fun e => by cases e) (fun _ => ?_)
    refine wq_skip (in_normal (then_normal (wq_region (wl_mv rfl rfl rfl s238 (wl_v (iv ((i + 1 : Nat) : Int)) rfl rfl (y_add rfl rfl rfl (i64_n (by omega) (by omega)) rr) (wl_v (iv ((i + 1 : Nat) : Int)) rfl rfl (y_asg rfl rfl rr) (wl_nil fun F240 hF241 => ?_)))))))
    obtain ⟨s242, s243, s244, s245, s246, s247⟩ := t6 hF241 7 s232 8 s233 9 s234 10 s235 12 s236 159 s237
    have s248 : F240 13 = iv ((i + 1 : Nat) : Int) := (hF241 13).trans rfl
    clear hF241
    exact then_normal ⟨(M - (i + 1)), by omega, i + 1, T98, by omega, rfl, s242, s243, s244, s245, s246, s247, s248, K231, B227, B228, B229, gr114, ap115, ap116⟩
   ·skip
    refine wq_said [some 121, some 122, some 123, some 124, some 125, some 126, some 127, some 128, some 129, some 130, some 131, some 132, some 133, some 134, some 135, some 136, some 137, some 138, some 139, some 140, some 141, some 142, some 143, some 144, some 145, some 146, some 147, some 148, some 149, some 150, some 151, some 152, some 153, some 154, some 155, some 156, some 157] [Pd.eq (pt p128 1), Pd.eq (iv (((outL M g b 0).getD i ⟨0, 0, 0, 0⟩).k)), Pd.eq (.bool false), Pd.eq (.bool false), Pd.eq undef, Pd.eq undef, Pd.eq undef, Pd.eq undef, Pd.eq undef, Pd.eq undef, Pd.eq undef, Pd.eq undef, Pd.eq undef, Pd.eq undef, Pd.eq undef, Pd.eq undef, Pd.eq undef, Pd.eq undef, Pd.eq undef, Pd.eq undef, Pd.eq undef, Pd.eq undef, Pd.eq undef, Pd.eq undef, Pd.eq undef, Pd.eq undef, Pd.eq undef, Pd.eq undef, Pd.eq undef, Pd.eq undef, Pd.eq undef, Pd.eq undef, Pd.eq undef, Pd.eq undef, Pd.eq undef, Pd.eq undef, Pd.eq (.bool false)] (by kernel_rfl) (by kernel_rfl) ?_ ?_
    ·refine stepsF_cons ?_ ?_
     ·refine StepF.one rfl fun F_ w_ hR hout hD => ?_
      exact (y_fieldR (n := 1) rfl ((hout 14 rfl (by decide)).trans s217) Try.underlying38 rfl (by kernel_rfl) (by decide) rfl ⟨rfl, Kept.refl _ _⟩)
     refine stepsF_cons ?_ ?_
     ·refine StepF.one rfl fun F_ w_ hR hout hD => ?_
      have g121 : F_ 121 = pt p128 1 := (hD.get 0 rfl rfl rfl)
      exact (y_ld_stc rfl g121 Try.underlying3 (B208.all hR id) rfl rfl ⟨rfl, Kept.refl _ _⟩)
     refine stepsF_cons ?_ ?_
     ·refine StepF.one rfl fun F_ w_ hR hout hD => ?_
      have g122 : F_ 122 = iv (((outL M g b 0).getD i ⟨0, 0, 0, 0⟩).k) := (hD.get 0 rfl rfl rfl)
      exact (y_eqlI rfl g122 rfl (decide_eq_false d219) ⟨rfl, Kept.refl _ _⟩)
     refine stepsF_cons ?_ ?_
     ·refine StepF.one rfl fun F_ w_ hR hout hD => ?_
      have g123 : F_ 123 = .bool false := (hD.get 0 rfl rfl rfl)
      exact (y_mov rfl g123 ⟨rfl, Kept.refl _ _⟩)
     refine stepsF_cons ?_ ?_
     ·refine StepF.unless 3 true 124 rfl rfl fun F_ w_ hR hout hD => ?_
      have g124 : F_ 124 = .bool false := (hD.get 0 rfl rfl rfl)
      exact ⟨Or.inl g124, rfl⟩
     refine stepsF_cons ?_ ?_
     ·refine StepF.unless 3 true 124 rfl rfl fun F_ w_ hR hout hD => ?_
      have g124 : F_ 124 = .bool false := (hD.get 1 rfl rfl rfl)
      exact ⟨Or.inl g124, rfl⟩
     refine stepsF_cons ?_ ?_
     ·refine StepF.unless 3 true 124 rfl rfl fun F_ w_ hR hout hD => ?_
      have g124 : F_ 124 = .bool false := (hD.get 0 rfl rfl rfl)
      exact ⟨Or.inl g124, rfl⟩
     refine stepsF_cons ?_ ?_
     ·refine StepF.unless 3 true 124 rfl rfl fun F_ w_ hR hout hD => ?_
      have g124 : F_ 124 = .bool false := (hD.get 1 rfl rfl rfl)
      exact ⟨Or.inl g124, rfl⟩
     refine stepsF_cons ?_ ?_
     ·refine StepF.unless 3 true 124 rfl rfl fun F_ w_ hR hout hD => ?_
      have g124 : F_ 124 = .bool false := (hD.get 2 rfl rfl rfl)
      exact ⟨Or.inl g124, rfl⟩
     refine stepsF_cons ?_ ?_
     ·refine StepF.unless 3 true 124 rfl rfl fun F_ w_ hR hout hD => ?_
      have g124 : F_ 124 = .bool false := (hD.get 1 rfl rfl rfl)
      exact ⟨Or.inl g124, rfl⟩
     refine stepsF_cons ?_ ?_
     ·refine StepF.unless 9 false 130 rfl rfl fun F_ w_ hR hout hD => ?_
      have g130 : F_ 130 = undef := (hD.get 0 rfl rfl rfl)
      exact ⟨Or.inr g130, rfl⟩
     refine stepsF_cons ?_ ?_
     ·refine StepF.unless 9 false 130 rfl rfl fun F_ w_ hR hout hD => ?_
      have g130 : F_ 130 = undef := (hD.get 1 rfl rfl rfl)
      exact ⟨Or.inr g130, rfl⟩
     refine stepsF_cons ?_ ?_
     ·refine StepF.unless 9 false 130 rfl rfl fun F_ w_ hR hout hD => ?_
      have g130 : F_ 130 = undef := (hD.get 0 rfl rfl rfl)
      exact ⟨Or.inr g130, rfl⟩
     refine stepsF_cons ?_ ?_
     ·refine StepF.unless 9 false 130 rfl rfl fun F_ w_ hR hout hD => ?_
      have g130 : F_ 130 = undef := (hD.get 2 rfl rfl rfl)
      exact ⟨Or.inr g130, rfl⟩
     refine stepsF_cons ?_ ?_
     ·refine StepF.unless 3 true 124 rfl rfl fun F_ w_ hR hout hD => ?_
      have g124 : F_ 124 = .bool false := (hD.get 2 rfl rfl rfl)
      exact ⟨Or.inl g124, rfl⟩
     refine stepsF_cons ?_ ?_
     ·refine StepF.unless 3 true 124 rfl rfl fun F_ w_ hR hout hD => ?_
      have g124 : F_ 124 = .bool false := (hD.get 2 rfl rfl rfl)
      exact ⟨Or.inl g124, rfl⟩
     refine stepsF_cons ?_ ?_
     ·refine StepF.unless 15 false 136 rfl rfl fun F_ w_ hR hout hD => ?_
      have g136 : F_ 136 = undef := (hD.get 0 rfl rfl rfl)
      exact ⟨Or.inr g136, rfl⟩
     refine stepsF_cons ?_ ?_
     ·refine StepF.unless 15 false 136 rfl rfl fun F_ w_ hR hout hD => ?_
      have g136 : F_ 136 = undef := (hD.get 0 rfl rfl rfl)
      exact ⟨Or.inr g136, rfl⟩
     refine stepsF_cons ?_ ?_
     ·refine StepF.unless 15 false 136 rfl rfl fun F_ w_ hR hout hD => ?_
      have g136 : F_ 136 = undef := (hD.get 1 rfl rfl rfl)
      exact ⟨Or.inr g136, rfl⟩
     refine stepsF_cons ?_ ?_
     ·refine StepF.unless 15 false 136 rfl rfl fun F_ w_ hR hout hD => ?_
      have g136 : F_ 136 = undef := (hD.get 2 rfl rfl rfl)
      exact ⟨Or.inr g136, rfl⟩
     refine stepsF_cons ?_ ?_
     ·refine StepF.unless 15 false 136 rfl rfl fun F_ w_ hR hout hD => ?_
      have g136 : F_ 136 = undef := (hD.get 1 rfl rfl rfl)
      exact ⟨Or.inr g136, rfl⟩
     refine stepsF_cons ?_ ?_
     ·refine StepF.unless 15 false 136 rfl rfl fun F_ w_ hR hout hD => ?_
      have g136 : F_ 136 = undef := (hD.get 1 rfl rfl rfl)
      exact ⟨Or.inr g136, rfl⟩
     refine stepsF_cons ?_ ?_
     ·refine StepF.unless 3 true 124 rfl rfl fun F_ w_ hR hout hD => ?_
      have g124 : F_ 124 = .bool false := (hD.get 2 rfl rfl rfl)
      exact ⟨Or.inl g124, rfl⟩
     refine stepsF_cons ?_ ?_
     ·refine StepF.unless 3 true 124 rfl rfl fun F_ w_ hR hout hD => ?_
      have g124 : F_ 124 = .bool false := (hD.get 2 rfl rfl rfl)
      exact ⟨Or.inl g124, rfl⟩
     refine stepsF_cons ?_ ?_
     ·refine StepF.unless 23 false 144 rfl rfl fun F_ w_ hR hout hD => ?_
      have g144 : F_ 144 = undef := (hD.get 0 rfl rfl rfl)
      exact ⟨Or.inr g144, rfl⟩
     refine stepsF_cons ?_ ?_
     ·refine StepF.unless 23 false 144 rfl rfl fun F_ w_ hR hout hD => ?_
      have g144 : F_ 144 = undef := (hD.get 1 rfl rfl rfl)
      exact ⟨Or.inr g144, rfl⟩
     refine stepsF_cons ?_ ?_
     ·refine StepF.unless 23 false 144 rfl rfl fun F_ w_ hR hout hD => ?_
      have g144 : F_ 144 = undef := (hD.get 0 rfl rfl rfl)
      exact ⟨Or.inr g144, rfl⟩
     refine stepsF_cons ?_ ?_
     ·refine StepF.unless 23 false 144 rfl rfl fun F_ w_ hR hout hD => ?_
      have g144 : F_ 144 = undef := (hD.get 1 rfl rfl rfl)
      exact ⟨Or.inr g144, rfl⟩
     refine stepsF_cons ?_ ?_
     ·refine StepF.unless 23 false 144 rfl rfl fun F_ w_ hR hout hD => ?_
      have g144 : F_ 144 = undef := (hD.get 2 rfl rfl rfl)
      exact ⟨Or.inr g144, rfl⟩
     refine stepsF_cons ?_ ?_
     ·refine StepF.unless 23 false 144 rfl rfl fun F_ w_ hR hout hD => ?_
      have g144 : F_ 144 = undef := (hD.get 0 rfl rfl rfl)
      exact ⟨Or.inr g144, rfl⟩
     refine stepsF_cons ?_ ?_
     ·refine StepF.unless 23 false 144 rfl rfl fun F_ w_ hR hout hD => ?_
      have g144 : F_ 144 = undef := (hD.get 1 rfl rfl rfl)
      exact ⟨Or.inr g144, rfl⟩
     refine stepsF_cons ?_ ?_
     ·refine StepF.unless 23 false 144 rfl rfl fun F_ w_ hR hout hD => ?_
      have g144 : F_ 144 = undef := (hD.get 0 rfl rfl rfl)
      exact ⟨Or.inr g144, rfl⟩
     refine stepsF_cons ?_ ?_
     ·refine StepF.unless 23 false 144 rfl rfl fun F_ w_ hR hout hD => ?_
      have g144 : F_ 144 = undef := (hD.get 1 rfl rfl rfl)
      exact ⟨Or.inr g144, rfl⟩
     refine stepsF_cons ?_ ?_
     ·refine StepF.unless 23 false 144 rfl rfl fun F_ w_ hR hout hD => ?_
      have g144 : F_ 144 = undef := (hD.get 2 rfl rfl rfl)
      exact ⟨Or.inr g144, rfl⟩
     refine stepsF_cons ?_ ?_
     ·refine StepF.unless 23 false 144 rfl rfl fun F_ w_ hR hout hD => ?_
      have g144 : F_ 144 = undef := (hD.get 2 rfl rfl rfl)
      exact ⟨Or.inr g144, rfl⟩
     refine stepsF_cons ?_ ?_
     ·refine StepF.unless 3 true 124 rfl rfl fun F_ w_ hR hout hD => ?_
      have g124 : F_ 124 = .bool false := (hD.get 2 rfl rfl rfl)
      exact ⟨Or.inl g124, rfl⟩
     refine stepsF_cons ?_ ?_
     ·refine StepF.one rfl fun F_ w_ hR hout hD => ?_
      have g124 : F_ 124 = .bool false := (hD.get 0 rfl rfl rfl)
      exact (y_pickF rfl g124 rfl ⟨rfl, Kept.refl _ _⟩)
     exact stepsF_nil
    intro v249 F250 w251 k252 G253 hF254
    have B256 := B205.all k252 id
    have B257 := B206.all k252 Apart.none
    have B258 := B207.all k252 Apart.none
    have K260 := K209.tr k252
    obtain ⟨s261, s262, s263, s264, s265, s266, s267⟩ := t7 hF254 7 s210 8 s211 9 s212 10 s213 12 s214 159 s215 13 s216
    have s268 : F250 157 = .bool false := (hF254 157).trans (G253 36 (by decide))
    clear G253 hF254
    refine then_normal ?_
    refine wq_cond (t := false) s268 (fun e => by cases e) (fun _ => ?_)
    refine wq_skip (in_normal (then_normal (wq_region (wl_mv rfl rfl rfl s267 (wl_v (iv ((i + 1 : Nat) : Int)) rfl rfl (y_add rfl rfl rfl (i64_n (by omega) (by omega)) rr) (wl_v (iv ((i + 1 : Nat) : Int)) rfl rfl (y_asg rfl rfl rr) (wl_nil fun F269 hF270 => ?_)))))))
    obtain ⟨s271, s272, s273, s274, s275, s276⟩ := t6 hF270 7 s261 8 s262 9 s263 10 s264 12 s265 159 s266
    have s277 : F269 13 = iv ((i + 1 : Nat) : Int) := (hF270 13).trans rfl
    clear hF270
    exact then_normal ⟨(M - (i + 1)), by omega, i + 1, T98, by omega, rfl, s271, s272, s273, s274, s275, s276, s277, K260, B256, B257, B258, gr114, ap115, ap116⟩
  ·skip
   refine wq_said [some 85, some 86, some 87, some 88, some 89, some 90, some 91, some 92, some 93, some 94, some 95, some 96, some 97, some 98, some 99, some 100, some 101, some 102, some 103, some 104, some 105, some 106, some 107, some 108, some 109, some 110, some 111, some 112, some 113, some 114, some 115, some 116, some 117, some 118, some 119, some 120] [Pd.eq (pt p128 1), Pd.eq (iv (((outL M g b 0).getD i ⟨0, 0, 0, 0⟩).k)), Pd.eq (.bool false), Pd.eq (.bool false), Pd.eq undef, Pd.eq undef, Pd.eq undef, Pd.eq undef, Pd.eq undef, Pd.eq undef, Pd.eq undef, Pd.eq undef, Pd.eq undef, Pd.eq undef, Pd.eq undef, Pd.eq undef, Pd.eq undef, Pd.eq undef, Pd.eq undef, Pd.eq undef, Pd.eq undef, Pd.eq undef, Pd.eq undef, Pd.eq undef, Pd.eq undef, Pd.eq undef, Pd.eq undef, Pd.eq undef, Pd.eq undef, Pd.eq undef, Pd.eq undef, Pd.eq undef, Pd.eq undef, Pd.eq undef, Pd.eq undef, Pd.eq (.bool false)] (by kernel_rfl) (by kernel_rfl) ?_ ?_
   ·refine stepsF_cons ?_ ?_
    ·refine StepF.one rfl fun F_ w_ hR hout hD => ?_
     exact (y_fieldR (n := 1) rfl ((hout 14 rfl (by decide)).trans s195) Try.underlying38 rfl (by kernel_rfl) (by decide) rfl ⟨rfl, Kept.refl _ _⟩)
    refine stepsF_cons ?_ ?_
    ·refine StepF.one rfl fun F_ w_ hR hout hD => ?_
     have g85 : F_ 85 = pt p128 1 := (hD.get 0 rfl rfl rfl)
     exact (y_ld_stc rfl g85 Try.underlying3 (B184.all hR id) rfl rfl ⟨rfl, Kept.refl _ _⟩)
    refine stepsF_cons ?_ ?_
    ·refine StepF.one rfl fun F_ w_ hR hout hD => ?_
     have g86 : F_ 86 = iv (((outL M g b 0).getD i ⟨0, 0, 0, 0⟩).k) := (hD.get 0 rfl rfl rfl)
     exact (y_neqI rfl g86 rfl (decide_eq_false d197) ⟨rfl, Kept.refl _ _⟩)
    refine stepsF_cons ?_ ?_
    ·refine StepF.one rfl fun F_ w_ hR hout hD => ?_
     have g87 : F_ 87 = .bool false := (hD.get 0 rfl rfl rfl)
     exact (y_mov rfl g87 ⟨rfl, Kept.refl _ _⟩)
    refine stepsF_cons ?_ ?_
    ·refine StepF.unless 3 true 88 rfl rfl fun F_ w_ hR hout hD => ?_
     have g88 : F_ 88 = .bool false := (hD.get 0 rfl rfl rfl)
     exact ⟨Or.inl g88, rfl⟩
    refine stepsF_cons ?_ ?_
    ·refine StepF.unless 3 true 88 rfl rfl fun F_ w_ hR hout hD => ?_
     have g88 : F_ 88 = .bool false := (hD.get 1 rfl rfl rfl)
     exact ⟨Or.inl g88, rfl⟩
    refine stepsF_cons ?_ ?_
    ·refine StepF.unless 3 true 88 rfl rfl fun F_ w_ hR hout hD => ?_
     have g88 : F_ 88 = .bool false := (hD.get 1 rfl rfl rfl)
     exact ⟨Or.inl g88, rfl⟩
    refine stepsF_cons ?_ ?_
    ·refine StepF.unless 3 true 88 rfl rfl fun F_ w_ hR hout hD => ?_
     have g88 : F_ 88 = .bool false := (hD.get 1 rfl rfl rfl)
     exact ⟨Or.inl g88, rfl⟩
    refine stepsF_cons ?_ ?_
    ·refine StepF.unless 7 false 92 rfl rfl fun F_ w_ hR hout hD => ?_
     have g92 : F_ 92 = undef := (hD.get 0 rfl rfl rfl)
     exact ⟨Or.inr g92, rfl⟩
    refine stepsF_cons ?_ ?_
    ·refine StepF.unless 7 false 92 rfl rfl fun F_ w_ hR hout hD => ?_
     have g92 : F_ 92 = undef := (hD.get 1 rfl rfl rfl)
     exact ⟨Or.inr g92, rfl⟩
    refine stepsF_cons ?_ ?_
    ·refine StepF.unless 7 false 92 rfl rfl fun F_ w_ hR hout hD => ?_
     have g92 : F_ 92 = undef := (hD.get 0 rfl rfl rfl)
     exact ⟨Or.inr g92, rfl⟩
    refine stepsF_cons ?_ ?_
    ·refine StepF.unless 7 false 92 rfl rfl fun F_ w_ hR hout hD => ?_
     have g92 : F_ 92 = undef := (hD.get 1 rfl rfl rfl)
     exact ⟨Or.inr g92, rfl⟩
    refine stepsF_cons ?_ ?_
    ·refine StepF.unless 7 false 92 rfl rfl fun F_ w_ hR hout hD => ?_
     have g92 : F_ 92 = undef := (hD.get 2 rfl rfl rfl)
     exact ⟨Or.inr g92, rfl⟩
    refine stepsF_cons ?_ ?_
    ·refine StepF.unless 3 true 88 rfl rfl fun F_ w_ hR hout hD => ?_
     have g88 : F_ 88 = .bool false := (hD.get 2 rfl rfl rfl)
     exact ⟨Or.inl g88, rfl⟩
    refine stepsF_cons ?_ ?_
    ·refine StepF.unless 3 true 88 rfl rfl fun F_ w_ hR hout hD => ?_
     have g88 : F_ 88 = .bool false := (hD.get 2 rfl rfl rfl)
     exact ⟨Or.inl g88, rfl⟩
    refine stepsF_cons ?_ ?_
    ·refine StepF.unless 14 false 99 rfl rfl fun F_ w_ hR hout hD => ?_
     have g99 : F_ 99 = undef := (hD.get 0 rfl rfl rfl)
     exact ⟨Or.inr g99, rfl⟩
    refine stepsF_cons ?_ ?_
    ·refine StepF.unless 14 false 99 rfl rfl fun F_ w_ hR hout hD => ?_
     have g99 : F_ 99 = undef := (hD.get 0 rfl rfl rfl)
     exact ⟨Or.inr g99, rfl⟩
    refine stepsF_cons ?_ ?_
    ·refine StepF.unless 14 false 99 rfl rfl fun F_ w_ hR hout hD => ?_
     have g99 : F_ 99 = undef := (hD.get 1 rfl rfl rfl)
     exact ⟨Or.inr g99, rfl⟩
    refine stepsF_cons ?_ ?_
    ·refine StepF.unless 14 false 99 rfl rfl fun F_ w_ hR hout hD => ?_
     have g99 : F_ 99 = undef := (hD.get 2 rfl rfl rfl)
     exact ⟨Or.inr g99, rfl⟩
    refine stepsF_cons ?_ ?_
    ·refine StepF.unless 14 false 99 rfl rfl fun F_ w_ hR hout hD => ?_
     have g99 : F_ 99 = undef := (hD.get 1 rfl rfl rfl)
     exact ⟨Or.inr g99, rfl⟩
    refine stepsF_cons ?_ ?_
    ·refine StepF.unless 14 false 99 rfl rfl fun F_ w_ hR hout hD => ?_
     have g99 : F_ 99 = undef := (hD.get 1 rfl rfl rfl)
     exact ⟨Or.inr g99, rfl⟩
    refine stepsF_cons ?_ ?_
    ·refine StepF.unless 3 true 88 rfl rfl fun F_ w_ hR hout hD => ?_
     have g88 : F_ 88 = .bool false := (hD.get 2 rfl rfl rfl)
     exact ⟨Or.inl g88, rfl⟩
    refine stepsF_cons ?_ ?_
    ·refine StepF.unless 3 true 88 rfl rfl fun F_ w_ hR hout hD => ?_
     have g88 : F_ 88 = .bool false := (hD.get 2 rfl rfl rfl)
     exact ⟨Or.inl g88, rfl⟩
    refine stepsF_cons ?_ ?_
    ·refine StepF.unless 22 false 107 rfl rfl fun F_ w_ hR hout hD => ?_
     have g107 : F_ 107 = undef := (hD.get 0 rfl rfl rfl)
     exact ⟨Or.inr g107, rfl⟩
    refine stepsF_cons ?_ ?_
    ·refine StepF.unless 22 false 107 rfl rfl fun F_ w_ hR hout hD => ?_
     have g107 : F_ 107 = undef := (hD.get 1 rfl rfl rfl)
     exact ⟨Or.inr g107, rfl⟩
    refine stepsF_cons ?_ ?_
    ·refine StepF.unless 22 false 107 rfl rfl fun F_ w_ hR hout hD => ?_
     have g107 : F_ 107 = undef := (hD.get 0 rfl rfl rfl)
     exact ⟨Or.inr g107, rfl⟩
    refine stepsF_cons ?_ ?_
    ·refine StepF.unless 22 false 107 rfl rfl fun F_ w_ hR hout hD => ?_
     have g107 : F_ 107 = undef := (hD.get 1 rfl rfl rfl)
     exact ⟨Or.inr g107, rfl⟩
    refine stepsF_cons ?_ ?_
    ·refine StepF.unless 22 false 107 rfl rfl fun F_ w_ hR hout hD => ?_
     have g107 : F_ 107 = undef := (hD.get 2 rfl rfl rfl)
     exact ⟨Or.inr g107, rfl⟩
    refine stepsF_cons ?_ ?_
    ·refine StepF.unless 22 false 107 rfl rfl fun F_ w_ hR hout hD => ?_
     have g107 : F_ 107 = undef := (hD.get 0 rfl rfl rfl)
     exact ⟨Or.inr g107, rfl⟩
    refine stepsF_cons ?_ ?_
    ·refine StepF.unless 22 false 107 rfl rfl fun F_ w_ hR hout hD => ?_
     have g107 : F_ 107 = undef := (hD.get 1 rfl rfl rfl)
     exact ⟨Or.inr g107, rfl⟩
    refine stepsF_cons ?_ ?_
    ·refine StepF.unless 22 false 107 rfl rfl fun F_ w_ hR hout hD => ?_
     have g107 : F_ 107 = undef := (hD.get 0 rfl rfl rfl)
     exact ⟨Or.inr g107, rfl⟩
    refine stepsF_cons ?_ ?_
    ·refine StepF.unless 22 false 107 rfl rfl fun F_ w_ hR hout hD => ?_
     have g107 : F_ 107 = undef := (hD.get 1 rfl rfl rfl)
     exact ⟨Or.inr g107, rfl⟩
    refine stepsF_cons ?_ ?_
    ·refine StepF.unless 22 false 107 rfl rfl fun F_ w_ hR hout hD => ?_
     have g107 : F_ 107 = undef := (hD.get 2 rfl rfl rfl)
     exact ⟨Or.inr g107, rfl⟩
    refine stepsF_cons ?_ ?_
    ·refine StepF.unless 22 false 107 rfl rfl fun F_ w_ hR hout hD => ?_
     have g107 : F_ 107 = undef := (hD.get 2 rfl rfl rfl)
     exact ⟨Or.inr g107, rfl⟩
    refine stepsF_cons ?_ ?_
    ·refine StepF.unless 3 true 88 rfl rfl fun F_ w_ hR hout hD => ?_
     have g88 : F_ 88 = .bool false := (hD.get 2 rfl rfl rfl)
     exact ⟨Or.inl g88, rfl⟩
    refine stepsF_cons ?_ ?_
    ·refine StepF.one rfl fun F_ w_ hR hout hD => ?_
     have g88 : F_ 88 = .bool false := (hD.get 0 rfl rfl rfl)
     exact (y_pickF rfl g88 rfl ⟨rfl, Kept.refl _ _⟩)
    exact stepsF_nil
   intro v278 F279 w280 k281 G282 hF283
   have B285 := B182.all k281 id
   have B286 := B183.all k281 Apart.none
   have B287 := B196.all k281 Apart.none
   have B288 := B184.all k281 id
   have K289 := K185.tr k281
   obtain ⟨s290, s291, s292, s293, s294, s295, s296, s297⟩ := t8 hF283 7 s188 8 s189 9 s190 10 s191 12 s192 159 s193 13 s194 14 s195
   have s298 : F279 120 = .bool false := (hF283 120).trans (G282 35 (by decide))
   clear G282 hF283
   refine then_normal ?_
   refine wq_cond (t := false) s298 (fun e => by cases e) (fun _ => ?_)
   refine wq_skip (then_normal (wq_seq ?_))
   have hp2 : ((outL M g b 0).getD i ⟨0, 0, 0, 0⟩).k ≠ 2 ∨ (((outL M g b 0).getD i ⟨0, 0, 0, 0⟩).d < ((outL M g b 0).getD i ⟨0, 0, 0, 0⟩).n ∧ ((outL M g b 0).getD i ⟨0, 0, 0, 0⟩).n < M) := by by_cases z : ((outL M g b 0).getD i ⟨0, 0, 0, 0⟩).k = 2; (exact .inr ⟨(hC.next z).1, (hC.next z).2.1⟩); exact .inl z
   by_cases d299 : (((outL M g b 0).getD i ⟨0, 0, 0, 0⟩).k) = 2
   ·skip
    refine wq_said [some 121, some 122, some 123, some 124, some 125, some 126, some 127, some 128, some 129, some 130, some 131, some 132, some 133, some 134, some 135, some 136, some 137, some 138, some 139, some 140, some 141, some 142, some 143, some 144, some 145, some 146, some 147, some 148, some 149, some 150, some 151, some 152, some 153, some 154, some 155, some 156, some 157] [Pd.eq (pt p128 1), Pd.eq (iv (((outL M g b 0).getD i ⟨0, 0, 0, 0⟩).k)), Pd.eq (.bool true), Pd.eq (.bool true), Pd.eq (pt p128 3), Pd.eq (iv (((outL M g b 0).getD i ⟨0, 0, 0, 0⟩).n)), Pd.eq (pt p128 0), Pd.eq (iv (((outL M g b 0).getD i ⟨0, 0, 0, 0⟩).d)), Pd.eq (.bool false), Pd.eq (.bool false), Pd.eq (pt p128 3), Pd.eq (iv (((outL M g b 0).getD i ⟨0, 0, 0, 0⟩).n)), Pd.eq (iv ((M : Nat) : Int)), Pd.eq (.bool false), Pd.eq (.bool false), Pd.eq (.bool false), Pd.eq v68, Pd.eq (pt p128 3), Pd.eq (iv (((outL M g b 0).getD i ⟨0, 0, 0, 0⟩).n)), Pd.eq (bytAddr v68 (((((outL M g b 0).getD i ⟨0, 0, 0, 0⟩).n).toNat) * 1)), Pd.eq (.bool true), Pd.eq (.bool false), Pd.eq (.bool false), Pd.eq (.bool false), Pd.eq (pt p128 3), Pd.eq (iv (((outL M g b 0).getD i ⟨0, 0, 0, 0⟩).n)), Pd.eq (pt p24 0), Pd.eq (iv ((g : Nat) : Int)), Pd.eq (iv (((outL M g b 0).getD i ⟨0, 0, 0, 0⟩).n / (g : Int))), Pd.eq (pt p128 0), Pd.eq (iv (((outL M g b 0).getD i ⟨0, 0, 0, 0⟩).d)), Pd.eq (pt p24 0), Pd.eq (iv ((g : Nat) : Int)), Pd.eq (iv (((outL M g b 0).getD i ⟨0, 0, 0, 0⟩).d / (g : Int))), Pd.eq (.bool false), Pd.eq (.bool false), Pd.eq (.bool false)] (by kernel_rfl) (by kernel_rfl) ?_ ?_
    ·refine stepsF_cons ?_ ?_
     ·refine StepF.one rfl fun F_ w_ hR hout hD => ?_
      exact (y_fieldR (n := 1) rfl ((hout 14 rfl (by decide)).trans s297) Try.underlying38 rfl (by kernel_rfl) (by decide) rfl ⟨rfl, Kept.refl _ _⟩)
     refine stepsF_cons ?_ ?_
     ·refine StepF.one rfl fun F_ w_ hR hout hD => ?_
      have g121 : F_ 121 = pt p128 1 := (hD.get 0 rfl rfl rfl)
      exact (y_ld_stc rfl g121 Try.underlying3 (B288.all hR id) rfl rfl ⟨rfl, Kept.refl _ _⟩)
     refine stepsF_cons ?_ ?_
     ·refine StepF.one rfl fun F_ w_ hR hout hD => ?_
      have g122 : F_ 122 = iv (((outL M g b 0).getD i ⟨0, 0, 0, 0⟩).k) := (hD.get 0 rfl rfl rfl)
      exact (y_eqlI rfl g122 rfl (decide_eq_true d299) ⟨rfl, Kept.refl _ _⟩)
     refine stepsF_cons ?_ ?_
     ·refine StepF.one rfl fun F_ w_ hR hout hD => ?_
      have g123 : F_ 123 = .bool true := (hD.get 0 rfl rfl rfl)
      exact (y_mov rfl g123 ⟨rfl, Kept.refl _ _⟩)
     refine stepsF_cons ?_ ?_
     ·refine StepF.when 3 true 124 rfl rfl fun F_ w_ hR hout hD => ?_
      have g124 : F_ 124 = .bool true := (hD.get 0 rfl rfl rfl)
      exact ⟨g124, (y_fieldR (n := 1) rfl ((hout 14 rfl (by decide)).trans s297) Try.underlying38 rfl (by kernel_rfl) (by decide) rfl ⟨rfl, Kept.refl _ _⟩)⟩
     refine stepsF_cons ?_ ?_
     ·refine StepF.when 3 true 124 rfl rfl fun F_ w_ hR hout hD => ?_
      have g124 : F_ 124 = .bool true := (hD.get 1 rfl rfl rfl)
      have g125 : F_ 125 = pt p128 3 := (hD.get 0 rfl rfl rfl)
      exact ⟨g124, (y_ld_stc rfl g125 Try.underlying3 (B288.all hR id) rfl rfl ⟨rfl, Kept.refl _ _⟩)⟩
     refine stepsF_cons ?_ ?_
     ·refine StepF.when 3 true 124 rfl rfl fun F_ w_ hR hout hD => ?_
      have g124 : F_ 124 = .bool true := (hD.get 0 rfl rfl rfl)
      exact ⟨g124, (y_fieldR (n := 1) rfl ((hout 14 rfl (by decide)).trans s297) Try.underlying38 rfl (by kernel_rfl) (by decide) rfl ⟨rfl, Kept.refl _ _⟩)⟩
     refine stepsF_cons ?_ ?_
     ·refine StepF.when 3 true 124 rfl rfl fun F_ w_ hR hout hD => ?_
      have g124 : F_ 124 = .bool true := (hD.get 1 rfl rfl rfl)
      have g127 : F_ 127 = pt p128 0 := (hD.get 0 rfl rfl rfl)
      exact ⟨g124, (y_ld_stc rfl g127 Try.underlying3 (B288.all hR id) rfl rfl ⟨rfl, Kept.refl _ _⟩)⟩
     refine stepsF_cons ?_ ?_
     ·refine StepF.when 3 true 124 rfl rfl fun F_ w_ hR hout hD => ?_
      have g124 : F_ 124 = .bool true := (hD.get 2 rfl rfl rfl)
      have g126 : F_ 126 = iv (((outL M g b 0).getD i ⟨0, 0, 0, 0⟩).n) := (hD.get 0 rfl rfl rfl)
      have g128 : F_ 128 = iv (((outL M g b 0).getD i ⟨0, 0, 0, 0⟩).d) := (hD.get 1 rfl rfl rfl)
      exact ⟨g124, (y_leq rfl g126 g128 (decide_eq_false (by have h_ := hC.next (by assumption); omega)) ⟨rfl, Kept.refl _ _⟩)⟩
     refine stepsF_cons ?_ ?_
     ·refine StepF.when 3 true 124 rfl rfl fun F_ w_ hR hout hD => ?_
      have g124 : F_ 124 = .bool true := (hD.get 1 rfl rfl rfl)
      have g129 : F_ 129 = .bool false := (hD.get 0 rfl rfl rfl)
      exact ⟨g124, (y_mov rfl g129 ⟨rfl, Kept.refl _ _⟩)⟩
     refine stepsF_cons ?_ ?_
     ·refine StepF.when 9 false 130 rfl rfl fun F_ w_ hR hout hD => ?_
      have g130 : F_ 130 = .bool false := (hD.get 0 rfl rfl rfl)
      exact ⟨g130, (y_fieldR (n := 1) rfl ((hout 14 rfl (by decide)).trans s297) Try.underlying38 rfl (by kernel_rfl) (by decide) rfl ⟨rfl, Kept.refl _ _⟩)⟩
     refine stepsF_cons ?_ ?_
     ·refine StepF.when 9 false 130 rfl rfl fun F_ w_ hR hout hD => ?_
      have g130 : F_ 130 = .bool false := (hD.get 1 rfl rfl rfl)
      have g131 : F_ 131 = pt p128 3 := (hD.get 0 rfl rfl rfl)
      exact ⟨g130, (y_ld_stc rfl g131 Try.underlying3 (B288.all hR id) rfl rfl ⟨rfl, Kept.refl _ _⟩)⟩
     refine stepsF_cons ?_ ?_
     ·refine StepF.when 9 false 130 rfl rfl fun F_ w_ hR hout hD => ?_
      have g130 : F_ 130 = .bool false := (hD.get 0 rfl rfl rfl)
      exact ⟨g130, (y_mov rfl ((hout 8 rfl (by decide)).trans s291) ⟨rfl, Kept.refl _ _⟩)⟩
     refine stepsF_cons ?_ ?_
     ·refine StepF.when 9 false 130 rfl rfl fun F_ w_ hR hout hD => ?_
      have g130 : F_ 130 = .bool false := (hD.get 2 rfl rfl rfl)
      have g132 : F_ 132 = iv (((outL M g b 0).getD i ⟨0, 0, 0, 0⟩).n) := (hD.get 0 rfl rfl rfl)
      have g133 : F_ 133 = iv ((M : Nat) : Int) := (hD.get 1 rfl rfl rfl)
      exact ⟨g130, (y_geq rfl g132 g133 (decide_eq_false (by have h_ := hC.next (by assumption); omega)) ⟨rfl, Kept.refl _ _⟩)⟩
     refine stepsF_cons ?_ ?_
     ·refine StepF.when 3 true 124 rfl rfl fun F_ w_ hR hout hD => ?_
      have g124 : F_ 124 = .bool true := (hD.get 2 rfl rfl rfl)
      have g130 : F_ 130 = .bool false := (hD.get 0 rfl rfl rfl)
      have g134 : F_ 134 = .bool false := (hD.get 1 rfl rfl rfl)
      exact ⟨g124, (y_pickF rfl g130 g134 ⟨rfl, Kept.refl _ _⟩)⟩
     refine stepsF_cons ?_ ?_
     ·refine StepF.when 3 true 124 rfl rfl fun F_ w_ hR hout hD => ?_
      have g124 : F_ 124 = .bool true := (hD.get 2 rfl rfl rfl)
      have g135 : F_ 135 = .bool false := (hD.get 0 rfl rfl rfl)
      exact ⟨g124, (y_mov rfl g135 ⟨rfl, Kept.refl _ _⟩)⟩
     refine stepsF_cons ?_ ?_
     ·refine StepF.when 15 false 136 rfl rfl fun F_ w_ hR hout hD => ?_
      have g136 : F_ 136 = .bool false := (hD.get 0 rfl rfl rfl)
      exact ⟨g136, (y_mov rfl ((hout 12 rfl (by decide)).trans s294) ⟨rfl, Kept.refl _ _⟩)⟩
     refine stepsF_cons ?_ ?_
     ·refine StepF.when 15 false 136 rfl rfl fun F_ w_ hR hout hD => ?_
      have g136 : F_ 136 = .bool false := (hD.get 0 rfl rfl rfl)
      exact ⟨g136, (y_fieldR (n := 1) rfl ((hout 14 rfl (by decide)).trans s297) Try.underlying38 rfl (by kernel_rfl) (by decide) rfl ⟨rfl, Kept.refl _ _⟩)⟩
     refine stepsF_cons ?_ ?_
     ·refine StepF.when 15 false 136 rfl rfl fun F_ w_ hR hout hD => ?_
      have g136 : F_ 136 = .bool false := (hD.get 1 rfl rfl rfl)
      have g138 : F_ 138 = pt p128 3 := (hD.get 0 rfl rfl rfl)
      exact ⟨g136, (y_ld_stc rfl g138 Try.underlying3 (B288.all hR id) rfl rfl ⟨rfl, Kept.refl _ _⟩)⟩
     refine stepsF_cons ?_ ?_
     ·refine StepF.when 15 false 136 rfl rfl fun F_ w_ hR hout hD => ?_
      have g136 : F_ 136 = .bool false := (hD.get 2 rfl rfl rfl)
      have g137 : F_ 137 = v68 := (hD.get 0 rfl rfl rfl)
      have g139 : F_ 139 = iv (((outL M g b 0).getD i ⟨0, 0, 0, 0⟩).n) := (hD.get 1 rfl rfl rfl)
      exact ⟨g136, (y_atRo (r := rBool) ((((outL M g b 0).getD i ⟨0, 0, 0, 0⟩).n).toNat) rfl g137 g139 (by omega) (B287.all hR Apart.none).roa (by have h_ := hC.next (by assumption); omega) ⟨rfl, Kept.refl _ _⟩)⟩
     refine stepsF_cons ?_ ?_
     ·refine StepF.when 15 false 136 rfl rfl fun F_ w_ hR hout hD => ?_
      have g136 : F_ 136 = .bool false := (hD.get 1 rfl rfl rfl)
      have g140 : F_ 140 = bytAddr v68 (((((outL M g b 0).getD i ⟨0, 0, 0, 0⟩).n).toNat) * 1) := (hD.get 0 rfl rfl rfl)
      exact ⟨g136, (y_ldRo (r := rBool) ((((outL M g b 0).getD i ⟨0, 0, 0, 0⟩).n).toNat) 0 rfl g140 (B287.all hR Apart.none).roa (by have h_ := hC.next (by assumption); omega) (by decide) (congrArg (fun z => some (Value.bool z)) (sdL_yes (by have h_ := hC.next (by assumption); omega) (hC.next (by assumption)).2.1 (dsp_more (hC.next (by assumption)).2.2.1))) Try.underlying4 rfl ⟨rfl, Kept.refl _ _⟩)⟩
     refine stepsF_cons ?_ ?_
     ·refine StepF.when 15 false 136 rfl rfl fun F_ w_ hR hout hD => ?_
      have g136 : F_ 136 = .bool false := (hD.get 1 rfl rfl rfl)
      have g141 : F_ 141 = .bool true := (hD.get 0 rfl rfl rfl)
      exact ⟨g136, (y_not rfl g141 rfl ⟨rfl, Kept.refl _ _⟩)⟩
     refine stepsF_cons ?_ ?_
     ·refine StepF.when 3 true 124 rfl rfl fun F_ w_ hR hout hD => ?_
      have g124 : F_ 124 = .bool true := (hD.get 2 rfl rfl rfl)
      have g136 : F_ 136 = .bool false := (hD.get 0 rfl rfl rfl)
      have g142 : F_ 142 = .bool false := (hD.get 1 rfl rfl rfl)
      exact ⟨g124, (y_pickF rfl g136 g142 ⟨rfl, Kept.refl _ _⟩)⟩
     refine stepsF_cons ?_ ?_
     ·refine StepF.when 3 true 124 rfl rfl fun F_ w_ hR hout hD => ?_
      have g124 : F_ 124 = .bool true := (hD.get 2 rfl rfl rfl)
      have g143 : F_ 143 = .bool false := (hD.get 0 rfl rfl rfl)
      exact ⟨g124, (y_mov rfl g143 ⟨rfl, Kept.refl _ _⟩)⟩
     refine stepsF_cons ?_ ?_
     ·refine StepF.when 23 false 144 rfl rfl fun F_ w_ hR hout hD => ?_
      have g144 : F_ 144 = .bool false := (hD.get 0 rfl rfl rfl)
      exact ⟨g144, (y_fieldR (n := 1) rfl ((hout 14 rfl (by decide)).trans s297) Try.underlying38 rfl (by kernel_rfl) (by decide) rfl ⟨rfl, Kept.refl _ _⟩)⟩
     refine stepsF_cons ?_ ?_
     ·refine StepF.when 23 false 144 rfl rfl fun F_ w_ hR hout hD => ?_
      have g144 : F_ 144 = .bool false := (hD.get 1 rfl rfl rfl)
      have g145 : F_ 145 = pt p128 3 := (hD.get 0 rfl rfl rfl)
      exact ⟨g144, (y_ld_stc rfl g145 Try.underlying3 (B288.all hR id) rfl rfl ⟨rfl, Kept.refl _ _⟩)⟩
     refine stepsF_cons ?_ ?_
     ·refine StepF.when 23 false 144 rfl rfl fun F_ w_ hR hout hD => ?_
      have g144 : F_ 144 = .bool false := (hD.get 0 rfl rfl rfl)
      exact ⟨g144, (y_fieldR (n := 1) rfl ((hout 9 rfl (by decide)).trans s292) Try.underlying23 rfl (by kernel_rfl) (by decide) rfl ⟨rfl, Kept.refl _ _⟩)⟩
     refine stepsF_cons ?_ ?_
     ·refine StepF.when 23 false 144 rfl rfl fun F_ w_ hR hout hD => ?_
      have g144 : F_ 144 = .bool false := (hD.get 1 rfl rfl rfl)
      have g147 : F_ 147 = pt p24 0 := (hD.get 0 rfl rfl rfl)
      exact ⟨g144, (y_ld_stc rfl g147 Try.underlying3 (B285.all hR id) rfl rfl ⟨rfl, Kept.refl _ _⟩)⟩
     refine stepsF_cons ?_ ?_
     ·refine StepF.when 23 false 144 rfl rfl fun F_ w_ hR hout hD => ?_
      have g144 : F_ 144 = .bool false := (hD.get 2 rfl rfl rfl)
      have g146 : F_ 146 = iv (((outL M g b 0).getD i ⟨0, 0, 0, 0⟩).n) := (hD.get 0 rfl rfl rfl)
      have g148 : F_ 148 = iv ((g : Nat) : Int) := (hD.get 1 rfl rfl rfl)
      exact ⟨g144, (y_quo rfl g146 g148 (by first | decide | omega) (quoI (by have h_ := hC.next (by assumption); omega) (by have h_ := hC.next (by assumption); omega) (by omega)) ⟨rfl, Kept.refl _ _⟩)⟩
     refine stepsF_cons ?_ ?_
     ·refine StepF.when 23 false 144 rfl rfl fun F_ w_ hR hout hD => ?_
      have g144 : F_ 144 = .bool false := (hD.get 0 rfl rfl rfl)
      exact ⟨g144, (y_fieldR (n := 1) rfl ((hout 14 rfl (by decide)).trans s297) Try.underlying38 rfl (by kernel_rfl) (by decide) rfl ⟨rfl, Kept.refl _ _⟩)⟩
     refine stepsF_cons ?_ ?_
     ·refine StepF.when 23 false 144 rfl rfl fun F_ w_ hR hout hD => ?_
      have g144 : F_ 144 = .bool false := (hD.get 1 rfl rfl rfl)
      have g150 : F_ 150 = pt p128 0 := (hD.get 0 rfl rfl rfl)
      exact ⟨g144, (y_ld_stc rfl g150 Try.underlying3 (B288.all hR id) rfl rfl ⟨rfl, Kept.refl _ _⟩)⟩
     refine stepsF_cons ?_ ?_
     ·refine StepF.when 23 false 144 rfl rfl fun F_ w_ hR hout hD => ?_
      have g144 : F_ 144 = .bool false := (hD.get 0 rfl rfl rfl)
      exact ⟨g144, (y_fieldR (n := 1) rfl ((hout 9 rfl (by decide)).trans s292) Try.underlying23 rfl (by kernel_rfl) (by decide) rfl ⟨rfl, Kept.refl _ _⟩)⟩
     refine stepsF_cons ?_ ?_
     ·refine StepF.when 23 false 144 rfl rfl fun F_ w_ hR hout hD => ?_
      have g144 : F_ 144 = .bool false := (hD.get 1 rfl rfl rfl)
      have g152 : F_ 152 = pt p24 0 := (hD.get 0 rfl rfl rfl)
      exact ⟨g144, (y_ld_stc rfl g152 Try.underlying3 (B285.all hR id) rfl rfl ⟨rfl, Kept.refl _ _⟩)⟩
     refine stepsF_cons ?_ ?_
     ·refine StepF.when 23 false 144 rfl rfl fun F_ w_ hR hout hD => ?_
      have g144 : F_ 144 = .bool false := (hD.get 2 rfl rfl rfl)
      have g151 : F_ 151 = iv (((outL M g b 0).getD i ⟨0, 0, 0, 0⟩).d) := (hD.get 0 rfl rfl rfl)
      have g153 : F_ 153 = iv ((g : Nat) : Int) := (hD.get 1 rfl rfl rfl)
      exact ⟨g144, (y_quo rfl g151 g153 (by first | decide | omega) (quoI hd0 (by omega) (by omega)) ⟨rfl, Kept.refl _ _⟩)⟩
     refine stepsF_cons ?_ ?_
     ·refine StepF.when 23 false 144 rfl rfl fun F_ w_ hR hout hD => ?_
      have g144 : F_ 144 = .bool false := (hD.get 2 rfl rfl rfl)
      have g149 : F_ 149 = iv (((outL M g b 0).getD i ⟨0, 0, 0, 0⟩).n / (g : Int)) := (hD.get 0 rfl rfl rfl)
      have g154 : F_ 154 = iv (((outL M g b 0).getD i ⟨0, 0, 0, 0⟩).d / (g : Int)) := (hD.get 1 rfl rfl rfl)
      exact ⟨g144, (y_neqI rfl g149 g154 (decide_eq_false (fun h => h (hC.next (by assumption)).2.2.2)) ⟨rfl, Kept.refl _ _⟩)⟩
     refine stepsF_cons ?_ ?_
     ·refine StepF.when 3 true 124 rfl rfl fun F_ w_ hR hout hD => ?_
      have g124 : F_ 124 = .bool true := (hD.get 2 rfl rfl rfl)
      have g144 : F_ 144 = .bool false := (hD.get 0 rfl rfl rfl)
      have g155 : F_ 155 = .bool false := (hD.get 1 rfl rfl rfl)
      exact ⟨g124, (y_pickF rfl g144 g155 ⟨rfl, Kept.refl _ _⟩)⟩
     refine stepsF_cons ?_ ?_
     ·refine StepF.one rfl fun F_ w_ hR hout hD => ?_
      have g124 : F_ 124 = .bool true := (hD.get 0 rfl rfl rfl)
      have g156 : F_ 156 = .bool false := (hD.get 1 rfl rfl rfl)
      exact (y_pickT rfl g124 g156 ⟨rfl, Kept.refl _ _⟩)
     exact stepsF_nil
    intro v300 F301 w302 k303 G304 hF305
    have B307 := B285.all k303 id
    have B308 := B286.all k303 Apart.none
    have B309 := B287.all k303 Apart.none
    have K311 := K289.tr k303
    obtain ⟨s312, s313, s314, s315, s316, s317, s318⟩ := t7 hF305 7 s290 8 s291 9 s292 10 s293 12 s294 159 s295 13 s296
    have s319 : F301 157 = .bool false := (hF305 157).trans (G304 36 (by decide))
    clear G304 hF305
    refine then_normal ?_
    refine wq_cond (t := false) s319 (fun e => by cases e) (fun _ => ?_)
    refine wq_skip (in_normal (then_normal (wq_region (wl_mv rfl rfl rfl s318 (wl_v (iv ((i + 1 : Nat) : Int)) rfl rfl (y_add rfl rfl rfl (i64_n (by omega) (by omega)) rr) (wl_v (iv ((i + 1 : Nat) : Int)) rfl rfl (y_asg rfl rfl rr) (wl_nil fun F320 hF321 => ?_)))))))
    obtain ⟨s322, s323, s324, s325, s326, s327⟩ := t6 hF321 7 s312 8 s313 9 s314 10 s315 12 s316 159 s317
    have s328 : F320 13 = iv ((i + 1 : Nat) : Int) := (hF321 13).trans rfl
    clear hF321
    exact then_normal ⟨(M - (i + 1)), by omega, i + 1, T98, by omega, rfl, s322, s323, s324, s325, s326, s327, s328, K311, B307, B308, B309, gr114, ap115, ap116⟩
   ·skip
    refine wq_said [some 121, some 122, some 123, some 124, some 125, some 126, some 127, some 128, some 129, some 130, some 131, some 132, some 133, some 134, some 135, some 136, some 137, some 138, some 139, some 140, some 141, some 142, some 143, some 144, some 145, some 146, some 147, some 148, some 149, some 150, some 151, some 152, some 153, some 154, some 155, some 156, some 157] [Pd.eq (pt p128 1), Pd.eq (iv (((outL M g b 0).getD i ⟨0, 0, 0, 0⟩).k)), Pd.eq (.bool false), Pd.eq (.bool false), Pd.eq undef, Pd.eq undef, Pd.eq undef, Pd.eq undef, Pd.eq undef, Pd.eq undef, Pd.eq undef, Pd.eq undef, Pd.eq undef, Pd.eq undef, Pd.eq undef, Pd.eq undef, Pd.eq undef, Pd.eq undef, Pd.eq undef, Pd.eq undef, Pd.eq undef, Pd.eq undef, Pd.eq undef, Pd.eq undef, Pd.eq undef, Pd.eq undef, Pd.eq undef, Pd.eq undef, Pd.eq undef, Pd.eq undef, Pd.eq undef, Pd.eq undef, Pd.eq undef, Pd.eq undef, Pd.eq undef, Pd.eq undef, Pd.eq (.bool false)] (by kernel_rfl) (by kernel_rfl) ?_ ?_
    ·refine stepsF_cons ?_ ?_
     ·refine StepF.one rfl fun F_ w_ hR hout hD => ?_
      exact (y_fieldR (n := 1) rfl ((hout 14 rfl (by decide)).trans s297) Try.underlying38 rfl (by kernel_rfl) (by decide) rfl ⟨rfl, Kept.refl _ _⟩)
     refine stepsF_cons ?_ ?_
     ·refine StepF.one rfl fun F_ w_ hR hout hD => ?_
      have g121 : F_ 121 = pt p128 1 := (hD.get 0 rfl rfl rfl)
      exact (y_ld_stc rfl g121 Try.underlying3 (B288.all hR id) rfl rfl ⟨rfl, Kept.refl _ _⟩)
     refine stepsF_cons ?_ ?_
     ·refine StepF.one rfl fun F_ w_ hR hout hD => ?_
      have g122 : F_ 122 = iv (((outL M g b 0).getD i ⟨0, 0, 0, 0⟩).k) := (hD.get 0 rfl rfl rfl)
      exact (y_eqlI rfl g122 rfl (decide_eq_false d299) ⟨rfl, Kept.refl _ _⟩)
     refine stepsF_cons ?_ ?_
     ·refine StepF.one rfl fun F_ w_ hR hout hD => ?_
      have g123 : F_ 123 = .bool false := (hD.get 0 rfl rfl rfl)
      exact (y_mov rfl g123 ⟨rfl, Kept.refl _ _⟩)
     refine stepsF_cons ?_ ?_
     ·refine StepF.unless 3 true 124 rfl rfl fun F_ w_ hR hout hD => ?_
      have g124 : F_ 124 = .bool false := (hD.get 0 rfl rfl rfl)
      exact ⟨Or.inl g124, rfl⟩
     refine stepsF_cons ?_ ?_
     ·refine StepF.unless 3 true 124 rfl rfl fun F_ w_ hR hout hD => ?_
      have g124 : F_ 124 = .bool false := (hD.get 1 rfl rfl rfl)
      exact ⟨Or.inl g124, rfl⟩
     refine stepsF_cons ?_ ?_
     ·refine StepF.unless 3 true 124 rfl rfl fun F_ w_ hR hout hD => ?_
      have g124 : F_ 124 = .bool false := (hD.get 0 rfl rfl rfl)
      exact ⟨Or.inl g124, rfl⟩
     refine stepsF_cons ?_ ?_
     ·refine StepF.unless 3 true 124 rfl rfl fun F_ w_ hR hout hD => ?_
      have g124 : F_ 124 = .bool false := (hD.get 1 rfl rfl rfl)
      exact ⟨Or.inl g124, rfl⟩
     refine stepsF_cons ?_ ?_
     ·refine StepF.unless 3 true 124 rfl rfl fun F_ w_ hR hout hD => ?_
      have g124 : F_ 124 = .bool false := (hD.get 2 rfl rfl rfl)
      exact ⟨Or.inl g124, rfl⟩
     refine stepsF_cons ?_ ?_
     ·refine StepF.unless 3 true 124 rfl rfl fun F_ w_ hR hout hD => ?_
      have g124 : F_ 124 = .bool false := (hD.get 1 rfl rfl rfl)
      exact ⟨Or.inl g124, rfl⟩
     refine stepsF_cons ?_ ?_
     ·refine StepF.unless 9 false 130 rfl rfl fun F_ w_ hR hout hD => ?_
      have g130 : F_ 130 = undef := (hD.get 0 rfl rfl rfl)
      exact ⟨Or.inr g130, rfl⟩
     refine stepsF_cons ?_ ?_
     ·refine StepF.unless 9 false 130 rfl rfl fun F_ w_ hR hout hD => ?_
      have g130 : F_ 130 = undef := (hD.get 1 rfl rfl rfl)
      exact ⟨Or.inr g130, rfl⟩
     refine stepsF_cons ?_ ?_
     ·refine StepF.unless 9 false 130 rfl rfl fun F_ w_ hR hout hD => ?_
      have g130 : F_ 130 = undef := (hD.get 0 rfl rfl rfl)
      exact ⟨Or.inr g130, rfl⟩
     refine stepsF_cons ?_ ?_
     ·refine StepF.unless 9 false 130 rfl rfl fun F_ w_ hR hout hD => ?_
      have g130 : F_ 130 = undef := (hD.get 2 rfl rfl rfl)
      exact ⟨Or.inr g130, rfl⟩
     refine stepsF_cons ?_ ?_
     ·refine StepF.unless 3 true 124 rfl rfl fun F_ w_ hR hout hD => ?_
      have g124 : F_ 124 = .bool false := (hD.get 2 rfl rfl rfl)
      exact ⟨Or.inl g124, rfl⟩
     refine stepsF_cons ?_ ?_
     ·refine StepF.unless 3 true 124 rfl rfl fun F_ w_ hR hout hD => ?_
      have g124 : F_ 124 = .bool false := (hD.get 2 rfl rfl rfl)
      exact ⟨Or.inl g124, rfl⟩
     refine stepsF_cons ?_ ?_
     ·refine StepF.unless 15 false 136 rfl rfl fun F_ w_ hR hout hD => ?_
      have g136 : F_ 136 = undef := (hD.get 0 rfl rfl rfl)
      exact ⟨Or.inr g136, rfl⟩
     refine stepsF_cons ?_ ?_
     ·refine StepF.unless 15 false 136 rfl rfl fun F_ w_ hR hout hD => ?_
      have g136 : F_ 136 = undef := (hD.get 0 rfl rfl rfl)
      exact ⟨Or.inr g136, rfl⟩
     refine stepsF_cons ?_ ?_
     ·refine StepF.unless 15 false 136 rfl rfl fun F_ w_ hR hout hD => ?_
      have g136 : F_ 136 = undef := (hD.get 1 rfl rfl rfl)
      exact ⟨Or.inr g136, rfl⟩
     refine stepsF_cons ?_ ?_
     ·refine StepF.unless 15 false 136 rfl rfl fun F_ w_ hR hout hD => ?_
      have g136 : F_ 136 = undef := (hD.get 2 rfl rfl rfl)
      exact ⟨Or.inr g136, rfl⟩
     refine stepsF_cons ?_ ?_
     ·refine StepF.unless 15 false 136 rfl rfl fun F_ w_ hR hout hD => ?_
      have g136 : F_ 136 = undef := (hD.get 1 rfl rfl rfl)
      exact ⟨Or.inr g136, rfl⟩
     refine stepsF_cons ?_ ?_
     ·refine StepF.unless 15 false 136 rfl rfl fun F_ w_ hR hout hD => ?_
      have g136 : F_ 136 = undef := (hD.get 1 rfl rfl rfl)
      exact ⟨Or.inr g136, rfl⟩
     refine stepsF_cons ?_ ?_
     ·refine StepF.unless 3 true 124 rfl rfl fun F_ w_ hR hout hD => ?_
      have g124 : F_ 124 = .bool false := (hD.get 2 rfl rfl rfl)
      exact ⟨Or.inl g124, rfl⟩
     refine stepsF_cons ?_ ?_
     ·refine StepF.unless 3 true 124 rfl rfl fun F_ w_ hR hout hD => ?_
      have g124 : F_ 124 = .bool false := (hD.get 2 rfl rfl rfl)
      exact ⟨Or.inl g124, rfl⟩
     refine stepsF_cons ?_ ?_
     ·refine StepF.unless 23 false 144 rfl rfl fun F_ w_ hR hout hD => ?_
      have g144 : F_ 144 = undef := (hD.get 0 rfl rfl rfl)
      exact ⟨Or.inr g144, rfl⟩
     refine stepsF_cons ?_ ?_
     ·refine StepF.unless 23 false 144 rfl rfl fun F_ w_ hR hout hD => ?_
      have g144 : F_ 144 = undef := (hD.get 1 rfl rfl rfl)
      exact ⟨Or.inr g144, rfl⟩
     refine stepsF_cons ?_ ?_
     ·refine StepF.unless 23 false 144 rfl rfl fun F_ w_ hR hout hD => ?_
      have g144 : F_ 144 = undef := (hD.get 0 rfl rfl rfl)
      exact ⟨Or.inr g144, rfl⟩
     refine stepsF_cons ?_ ?_
     ·refine StepF.unless 23 false 144 rfl rfl fun F_ w_ hR hout hD => ?_
      have g144 : F_ 144 = undef := (hD.get 1 rfl rfl rfl)
      exact ⟨Or.inr g144, rfl⟩
     refine stepsF_cons ?_ ?_
     ·refine StepF.unless 23 false 144 rfl rfl fun F_ w_ hR hout hD => ?_
      have g144 : F_ 144 = undef := (hD.get 2 rfl rfl rfl)
      exact ⟨Or.inr g144, rfl⟩
     refine stepsF_cons ?_ ?_
     ·refine StepF.unless 23 false 144 rfl rfl fun F_ w_ hR hout hD => ?_
      have g144 : F_ 144 = undef := (hD.get 0 rfl rfl rfl)
      exact ⟨Or.inr g144, rfl⟩
     refine stepsF_cons ?_ ?_
     ·refine StepF.unless 23 false 144 rfl rfl fun F_ w_ hR hout hD => ?_
      have g144 : F_ 144 = undef := (hD.get 1 rfl rfl rfl)
      exact ⟨Or.inr g144, rfl⟩
     refine stepsF_cons ?_ ?_
     ·refine StepF.unless 23 false 144 rfl rfl fun F_ w_ hR hout hD => ?_
      have g144 : F_ 144 = undef := (hD.get 0 rfl rfl rfl)
      exact ⟨Or.inr g144, rfl⟩
     refine stepsF_cons ?_ ?_
     ·refine StepF.unless 23 false 144 rfl rfl fun F_ w_ hR hout hD => ?_
      have g144 : F_ 144 = undef := (hD.get 1 rfl rfl rfl)
      exact ⟨Or.inr g144, rfl⟩
     refine stepsF_cons ?_ ?_
     ·refine StepF.unless 23 false 144 rfl rfl fun F_ w_ hR hout hD => ?_
      have g144 : F_ 144 = undef := (hD.get 2 rfl rfl rfl)
      exact ⟨Or.inr g144, rfl⟩
     refine stepsF_cons ?_ ?_
     ·refine StepF.unless 23 false 144 rfl rfl fun F_ w_ hR hout hD => ?_
      have g144 : F_ 144 = undef := (hD.get 2 rfl rfl rfl)
      exact ⟨Or.inr g144, rfl⟩
     refine stepsF_cons ?_ ?_
     ·refine StepF.unless 3 true 124 rfl rfl fun F_ w_ hR hout hD => ?_
      have g124 : F_ 124 = .bool false := (hD.get 2 rfl rfl rfl)
      exact ⟨Or.inl g124, rfl⟩
     refine stepsF_cons ?_ ?_
     ·refine StepF.one rfl fun F_ w_ hR hout hD => ?_
      have g124 : F_ 124 = .bool false := (hD.get 0 rfl rfl rfl)
      exact (y_pickF rfl g124 rfl ⟨rfl, Kept.refl _ _⟩)
     exact stepsF_nil
    intro v329 F330 w331 k332 G333 hF334
    have B336 := B285.all k332 id
    have B337 := B286.all k332 Apart.none
    have B338 := B287.all k332 Apart.none
    have K340 := K289.tr k332
    obtain ⟨s341, s342, s343, s344, s345, s346, s347⟩ := t7 hF334 7 s290 8 s291 9 s292 10 s293 12 s294 159 s295 13 s296
    have s348 : F330 157 = .bool false := (hF334 157).trans (G333 36 (by decide))
    clear G333 hF334
    refine then_normal ?_
    refine wq_cond (t := false) s348 (fun e => by cases e) (fun _ => ?_)
    refine wq_skip (in_normal (then_normal (wq_region (wl_mv rfl rfl rfl s347 (wl_v (iv ((i + 1 : Nat) : Int)) rfl rfl (y_add rfl rfl rfl (i64_n (by omega) (by omega)) rr) (wl_v (iv ((i + 1 : Nat) : Int)) rfl rfl (y_asg rfl rfl rr) (wl_nil fun F349 hF350 => ?_)))))))
    obtain ⟨s351, s352, s353, s354, s355, s356⟩ := t6 hF350 7 s341 8 s342 9 s343 10 s344 12 s345 159 s346
    have s357 : F349 13 = iv ((i + 1 : Nat) : Int) := (hF350 13).trans rfl
    clear hF350
    exact then_normal ⟨(M - (i + 1)), by omega, i + 1, T98, by omega, rfl, s351, s352, s353, s354, s355, s356, s357, K340, B336, B337, B338, gr114, ap115, ap116⟩
 ·replace c127 := of_decide_eq_false c127
  refine wq_exit (then_exit (then_exit ?_))
  have l358 : M = i := by omega
  subst l358
  refine in_here (then_normal (wq_seq (wq_region (wl_mv rfl rfl rfl s119 (wl_v (.bool true) rfl rfl (y_asg rfl rfl rr) (wl_nil fun F359 hF360 => ?_))))))
  have s361 := (hF360 159).trans s124
  have s362 : F359 6 = .bool true := (hF360 6).trans rfl
  clear hF360
  refine then_normal (wq_ret ?_)
  exact end_tmp (v := .bool true) s361 rfl rfl s362 ⟨rfl, K101⟩
end Go.Proofs.Ythoafgfcoclkbaa
set_option maxRecDepth 100000
namespace Go.Proofs.Ythoafgfcoclkbaa
open Go.RowKit
theorem nat_u8 {n : Int} (h : (Lit.int .u8 n).wf = true) : ∃ m : Nat, n = (m : Int) ∧ m < 256 := by
  have := bounds_u8 h
  exact ⟨n.toNat, by omega, by omega⟩
end Go.Proofs.Ythoafgfcoclkbaa
