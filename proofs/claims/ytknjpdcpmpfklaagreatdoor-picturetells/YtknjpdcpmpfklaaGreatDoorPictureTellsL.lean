/- What PictureTells reaches of my texts, part 12. -/
import Derived.Test.YtknjpdcpmpfklaaGreatDoorPictureTellsK
set_option maxRecDepth 100000
set_option maxHeartbeats 4000000
set_option maxRecDepth 100000
namespace Go.Proofs.YtknjpdcpmpfklaaGreatDoor
open Go.RowKit
structure QSt where
  f : Nat → VF × VF
  s : Option Nat
  o : List Ch
  e : Int
def QSt.at (q : QSt) (p : Nat) : PSt := ⟨(q.f p).1, (q.f p).2, q.s⟩
def stepQ {W H : Int} (l : List Nat) (k : Int) (q : QSt) (x : Spt W H) : QSt :=
  if q.e = 0 then
    (if (chAt l k (plN W x.p) x.i (q.at x.p)).2.1 = 0 then
      ⟨fun p => if p = x.p then ((stP l k (plN W x.p) x.i (q.at x.p)).a, (stP l k (plN W x.p) x.i (q.at x.p)).b) else q.f p, (stP l k (plN W x.p) x.i (q.at x.p)).s, q.o ++ [rcP l k (plN W x.p) x.i (q.at x.p)], 0⟩
     else ⟨q.f, q.s, q.o, (chAt l k (plN W x.p) x.i (q.at x.p)).2.1⟩)
  else q
def newQ (W H : Int) : QSt := ⟨fun p => (newV ((plN W p : Nat) : Int) ((plN H p : Nat) : Int), newV ((plN W p : Nat) : Int) ((plN H p : Nat) : Int)), some 0, [], 0⟩
def foldQ (l : List Nat) (k W H : Int) (pre : List (Spt W H)) : QSt := pre.foldl (stepQ l k) (newQ W H)
theorem fq_snoc {l : List Nat} {k W H : Int} (pre : List (Spt W H)) (x : Spt W H) : foldQ l k W H (pre ++ [x]) = stepQ l k (foldQ l k W H pre) x := by
  unfold foldQ; rw [List.foldl_append]; rfl
theorem fq_ok {l : List Nat} {k W H : Int} {pre : List (Spt W H)} {x : Spt W H} {v : Nat} (hv : x.p = v) (hq : (foldQ l k W H pre).e = 0)
    (hc : (chAt l k (plN W v) x.i ((foldQ l k W H pre).at v)).2.1 = 0) :
    (foldQ l k W H (pre ++ [x])).s = (stP l k (plN W v) x.i ((foldQ l k W H pre).at v)).s ∧ (foldQ l k W H (pre ++ [x])).o = (foldQ l k W H pre).o ++ [rcP l k (plN W v) x.i ((foldQ l k W H pre).at v)] ∧
    (foldQ l k W H (pre ++ [x])).f v = ((stP l k (plN W v) x.i ((foldQ l k W H pre).at v)).a, (stP l k (plN W v) x.i ((foldQ l k W H pre).at v)).b) ∧
    (∀ p, p ≠ v → (foldQ l k W H (pre ++ [x])).f p = (foldQ l k W H pre).f p) ∧ (foldQ l k W H (pre ++ [x])).e = 0 := by
  subst hv
  rw [fq_snoc]
  have e : stepQ l k (foldQ l k W H pre) x = _ := (if_pos hq).trans (if_pos hc)
  rw [e]
  exact ⟨rfl, rfl, if_pos rfl, fun p hp => if_neg hp, rfl⟩
theorem fq_bad {l : List Nat} {k W H : Int} {pre : List (Spt W H)} {x : Spt W H} {v : Nat} (hv : x.p = v) (hq : (foldQ l k W H pre).e = 0)
    (hc : (chAt l k (plN W v) x.i ((foldQ l k W H pre).at v)).2.1 ≠ 0) : (foldQ l k W H (pre ++ [x])).e = (chAt l k (plN W v) x.i ((foldQ l k W H pre).at v)).2.1 := by
  subst hv
  rw [fq_snoc]
  have e : stepQ l k (foldQ l k W H pre) x = _ := (if_pos hq).trans (if_neg hc)
  rw [e]
theorem fq_len {l : List Nat} {k W H : Int} (pre : List (Spt W H)) : (foldQ l k W H pre).o.length ≤ pre.length := by
  have key : ∀ (pre : List (Spt W H)) (q : QSt), (pre.foldl (stepQ l k) q).o.length ≤ q.o.length + pre.length := by
    intro pre
    induction pre with
    | nil => intro q; exact Nat.le_refl _
    | cons x r ih =>
      intro q
      rw [List.foldl_cons]
      refine Nat.le_trans (ih _) ?_
      have : (stepQ l k q x).o.length ≤ q.o.length + 1 := by
        unfold stepQ
        split
        · split
          · simp
          · exact Nat.le_succ _
        · exact Nat.le_succ _
      rw [List.length_cons]; omega
  have := key pre (newQ W H)
  rw [show (newQ W H).o.length = 0 from rfl, Nat.zero_add] at this
  exact this
theorem step_stuck {W H : Int} {l : List Nat} {k : Int} : ∀ (xs : List (Spt W H)) (q : QSt), q.e ≠ 0 → xs.foldl (stepQ l k) q = q := by
  intro xs
  induction xs with
  | nil => intro q _; rfl
  | cons x r ih =>
    intro q h
    rw [List.foldl_cons, show stepQ l k q x = q from if_neg h]
    exact ih q h
theorem run_fold {W H : Int} {l : List Nat} {k : Int} {p : Nat} (hp : p < 3) (q : QSt) (hq : q.e = 0) : ∀ n, n ≤ plN W p * plN H p →
    ((((spP W H p n).foldl (stepQ l k) q).e = 0 → runP l k (plN W p) (plN W p * plN H p - n) n (((spP W H p n).foldl (stepQ l k) q).at p) ((spP W H p n).foldl (stepQ l k) q).o = runP l k (plN W p) (plN W p * plN H p) 0 (q.at p) q.o) ∧
    (((spP W H p n).foldl (stepQ l k) q).e ≠ 0 → (runP l k (plN W p) (plN W p * plN H p) 0 (q.at p) q.o).2.1 = ((spP W H p n).foldl (stepQ l k) q).e) ∧
    ∀ p', p' ≠ p → ((spP W H p n).foldl (stepQ l k) q).f p' = q.f p') := by
  intro n
  induction n with
  | zero => intro _; exact ⟨fun _ => rfl, fun h => absurd hq h, fun _ _ => rfl⟩
  | succ n ih =>
    intro hn
    obtain ⟨h1, h2, h3⟩ := ih (by omega)
    rw [spP_next hp (by omega), List.foldl_append, List.foldl_cons, List.foldl_nil]
    generalize ((spP W H p n).foldl (stepQ l k) q) = q' at h1 h2 h3 ⊢
    by_cases he : q'.e = 0
    · by_cases hc : (chAt l k (plN W p) n (q'.at p)).2.1 = 0
      · have e : stepQ l k q' (⟨p, n, hp, by omega⟩ : Spt W H) = _ := (if_pos he).trans (if_pos hc)
        rw [e]
        refine ⟨fun _ => ?_, fun h => absurd rfl h, fun p' hp' => (if_neg hp').trans (h3 p' hp')⟩
        have h1' := h1 he
        rw [show plN W p * plN H p - n = (plN W p * plN H p - (n + 1)) + 1 by omega, runP_yes hc] at h1'
        have ea : QSt.at ⟨fun p' => if p' = p then ((stP l k (plN W p) n (q'.at p)).a, (stP l k (plN W p) n (q'.at p)).b) else q'.f p', (stP l k (plN W p) n (q'.at p)).s, q'.o ++ [rcP l k (plN W p) n (q'.at p)], 0⟩ p = stAt l k (plN W p) n (q'.at p) := by
          unfold QSt.at
          simp only [if_true]
          exact (rcP_yes hc).2
        refine Eq.trans ?_ h1'
        show runP l k (plN W p) _ (n + 1) (QSt.at ⟨fun p' => if p' = p then ((stP l k (plN W p) n (q'.at p)).a, (stP l k (plN W p) n (q'.at p)).b) else q'.f p', (stP l k (plN W p) n (q'.at p)).s, q'.o ++ [rcP l k (plN W p) n (q'.at p)], 0⟩ p) (q'.o ++ [rcP l k (plN W p) n (q'.at p)]) = _
        rw [ea, (rcP_yes hc).1]
      · have e : stepQ l k q' (⟨p, n, hp, by omega⟩ : Spt W H) = _ := (if_pos he).trans (if_neg hc)
        rw [e]
        refine ⟨fun h => absurd h hc, fun _ => ?_, fun p' hp' => h3 p' hp'⟩
        have h1' := h1 he
        rw [show plN W p * plN H p - n = (plN W p * plN H p - (n + 1)) + 1 by omega, runP_no hc] at h1'
        rw [← h1']
    · rw [show stepQ l k q' (⟨p, n, hp, by omega⟩ : Spt W H) = q' from if_neg he]
      exact ⟨fun h => absurd h he, h2, h3⟩
theorem to_fold {W H : Int} {l : List Nat} {k : Int} : ∀ p, p ≤ 3 →
    ((foldQ l k W H (spTo W H p)).e = 0 → plTo l k W H p = ((foldQ l k W H (spTo W H p)).o, 0, (foldQ l k W H (spTo W H p)).s)) ∧
    ((foldQ l k W H (spTo W H p)).e ≠ 0 → (plTo l k W H p).2.1 = (foldQ l k W H (spTo W H p)).e) ∧
    ((foldQ l k W H (spTo W H p)).e = 0 → ∀ p', p ≤ p' → (foldQ l k W H (spTo W H p)).f p' = (newQ W H).f p') := by
  intro p
  induction p with
  | zero => intro _; exact ⟨fun _ => rfl, fun h => absurd rfl h, fun _ _ _ => rfl⟩
  | succ p ih =>
    intro hp
    obtain ⟨h1, h2, h3⟩ := ih (by omega)
    have ef : foldQ l k W H (spTo W H (p + 1)) = (spP W H p (plN W p * plN H p)).foldl (stepQ l k) (foldQ l k W H (spTo W H p)) := by
      unfold foldQ; rw [spTo, List.foldl_append]
    rw [ef]
    generalize foldQ l k W H (spTo W H p) = q at h1 h2 h3 ⊢
    by_cases he : q.e = 0
    · obtain ⟨r1, r2, r3⟩ := run_fold (W := W) (H := H) (l := l) (k := k) (by omega) q he (plN W p * plN H p) (Nat.le_refl _)
      have hpl := h1 he
      have hz : (plTo l k W H p).2.1 = 0 := by rw [hpl]
      have hrun : plTo l k W H (p + 1) = runP l k (plN W p) (plN W p * plN H p) 0 (q.at p) q.o := by
        rw [plTo_yes hz, hpl]
        unfold planeP QSt.at
        rw [show (newV ((plN W p : Nat) : Int) ((plN H p : Nat) : Int)) = (q.f p).1 from by rw [h3 he p (Nat.le_refl _)]; rfl]
        rw [show (q.f p).2 = (q.f p).1 from by rw [h3 he p (Nat.le_refl _)]; rfl]
      refine ⟨fun hz' => ?_, fun hz' => ?_, fun _ p' hp' => ?_⟩
      · rw [hrun, ← r1 hz', Nat.sub_self]; rfl
      · rw [hrun]; exact r2 hz'
      · rw [r3 p' (by omega)]; exact h3 he p' (by omega)
    · rw [step_stuck _ _ he]
      refine ⟨fun h => absurd h he, fun _ => ?_, fun h => absurd h he⟩
      rw [plTo_no (by rw [h2 he]; exact he)]; exact h2 he
theorem fq_pfx {W H : Int} {l : List Nat} {k : Int} {pre : List (Spt W H)} (h : pre <+: spTo W H 3) (he : (foldQ l k W H pre).e ≠ 0) : (foldQ l k W H (spTo W H 3)).e = (foldQ l k W H pre).e := by
  obtain ⟨r, h⟩ := h
  rw [← h]
  unfold foldQ at he ⊢
  rw [List.foldl_append, step_stuck _ _ he]
theorem chs_stop {W H R B K Q D F : Int} {l : List Nat} {pre : List (Spt W H)} (hm : mayP W H R B K Q D F) (h : pre <+: spTo W H 3) (he : (foldQ l K W H pre).e ≠ 0) : chsE l W H R B K Q D F = ([], (foldQ l K W H pre).e) := by
  have e := fq_pfx h he
  have h2 := (to_fold (W := W) (H := H) (l := l) (k := K) 3 (Nat.le_refl _)).2.1 (by rw [e]; exact he)
  rw [e] at h2
  rw [chsE_yes hm, chsP_bad (Nat.le_refl 3) (by rw [h2]; exact he), h2]
theorem chs_done {W H R B K Q D F : Int} {l : List Nat} (hm : mayP W H R B K Q D F) (he : (foldQ l K W H (spTo W H 3)).e = 0) :
    (doneOf l (foldQ l K W H (spTo W H 3)).s ≠ 0 → chsE l W H R B K Q D F = ([], 130)) ∧ (doneOf l (foldQ l K W H (spTo W H 3)).s = 0 → chsE l W H R B K Q D F = ((foldQ l K W H (spTo W H 3)).o, 0)) := by
  have h2 := (to_fold (W := W) (H := H) (l := l) (k := K) 3 (Nat.le_refl _)).1 he
  have hz : (plTo l K W H 3).2.1 = 0 := by rw [h2]
  refine ⟨fun hd => ?_, fun hd => ?_⟩
  · rw [chsE_yes hm, chsP_open hz (by rw [h2]; exact hd)]
  · rw [chsE_yes hm, chsP_ok hz (by rw [h2]; exact hd), h2]
end Go.Proofs.YtknjpdcpmpfklaaGreatDoor
set_option maxRecDepth 100000
namespace Go.Proofs.YtknjpdcpmpfklaaGreatDoor
open Go.RowKit
theorem wq_rangeS {α : Type} {P : Program} {N : Nat} {Q : Exit → (Nat → Value) → World → Prop} {F : Nat → Value} {w : World} {g : Operand} {ps : Array Tmp} {assign body : Code} {gf : Nat} {lb : Array Value}
    {encs : α → List Value} {U : Nat → Prop} {S Sp : List α → Prop} {M : Nat}
    (hg : ev (cutF N F) g = .func (.func gf) #[] lb) (eg : ∀ args w, (callFunc gf args).run P w = .ok (.enter gf args) w)
    (hseq : SeqStopsK Fence.wide 1 P gf lb (fun x => (encs x).toArray) (Kept U) S Sp M w) (hU : ∀ i, w.heap.size ≤ i → U i)
    (pl : List Tmp) (hpl : ps = pl.toArray) (hps : ∀ x, (encs x).length = pl.length) (hpN : (pl.all fun p => Nat.blt p N) = true)
    (I Ix : List α → World → Prop) (hI : OwnFrom w.heap.size I) (hIx : OwnFrom w.heap.size Ix) (h0 : I [] w) (Ax : α → (Nat → Value) → World → Prop) (hAx : ∀ x FF, OwnFrom w.heap.size (fun (_ : Unit) W => Ax x FF W))
    (hassign : ∀ l pre x W, I pre W → wq (some (l + 1)) P N assign (asP w.heap.size (Kept U) (I pre) (Ax x) W) (loopF N F (pl.zip (encs x))) W)
    (hbody : ∀ (l : Nat) (pre : List α) (x : α) (F' : Nat → Value) (W : World), I pre W → Ax x F' W → pre.length < M → wq (some (l + 1)) P N body (roundR w.heap.size (Kept U) (I (pre ++ [x])) (Ix (pre ++ [x])) W) F' W)
    (hdone : ∀ (D : Nat) (xs : List α) (W : World), w.heap.size ≤ D → S xs → I xs W → W.heap[D]? = some (.deferred (some [])) → Q .normal (up F N (markV (D :: marksOf (F N)))) W)
    (hstop : ∀ (D : Nat) (pre : List α) (W : World), w.heap.size ≤ D → Sp pre → Ix pre W → W.heap[D]? = some (.deferred (some [])) → Q .ret (up F N (markV (D :: marksOf (F N)))) W) :
    wq none P N (.rangeFunc g ps assign body) Q F w := by
  subst hpl
  intro a ha
  refine wpIn_wide.2 ((wpIn_wide (n := 2)).1 ?_)
  refine wpIn_rangeFunc_ownH rfl (by decide) (gf := gf) (lb := lb) (by rw [ha.eval]; exact hg) trivial eg hseq
    (fun h k => h.trans k (fun _ _ x => x)) (fun W l o o' hl ho hc hw => ?_) (Below.refl _ _) (fun x => by simp [hps]) I (atRet Ix) hI (atRet_own hIx) h0
    (fun x a' W => ∃ F', Fr N F' a' ∧ Ax x F' W) (fun x a' s W W' row h hg hr => ?_) ?_ ?_ ?_ ?_
  · exact (Kept.refl U W).grown (grownBy_putObj' W l o') (fun k e hk => by cases e; exact hU _ hl)
  · obtain ⟨F', hF, hx⟩ := h
    exact ⟨F', hF, hAx x F' s W W' row hx hg hr⟩
  · intro l pre x W K hi hK
    have hz : ((pl.toArray.zip (encs x).toArray).foldl (fun t (p, v) => t.setIfInBounds p v) a.tmps) = (pl.zip (encs x)).foldl (fun t p => t.setIfInBounds p.1 p.2) a.tmps := by simp
    rw [hz]
    have hf : Fr N (loopF N F (pl.zip (encs x))) { tmps := (pl.zip (encs x)).foldl (fun t p => t.setIfInBounds p.1 p.2) a.tmps, defers := [] } :=
      Fr.rounds _ _ _ (ha.last undef [] rfl) (all_zip pl _ hpN)
    refine wpIn_mono (hassign l pre x W hi _ hf) ?_
    rintro e a' w' ⟨F', hF, hq⟩
    cases e <;> first
      | (obtain ⟨h1, h2, h3, h4⟩ := hq; exact hK a' _ h1 h2 h3 ⟨F', hF, h4⟩)
      | exact hq.elim
  · rintro l pre x a' W _ _ hi ⟨F', hF, hx⟩ hlt
    refine wpIn_mono (hbody l pre x F' W hi hx hlt a' hF) ?_
    rintro e a'' w' ⟨F'', _, hq⟩
    cases e <;> first | exact hq | exact hq.elim
  · intro D xs W hD hS hi hd
    exact ⟨_, ha.mark D, hdone D xs W hD hS hi hd⟩
  · intro D c pre W hD hSp h hd
    cases c <;> first
      | exact wpIn_ret ⟨_, ha.mark D, hstop D pre W hD hSp h hd⟩
      | exact h.elim
end Go.Proofs.YtknjpdcpmpfklaaGreatDoor
set_option maxRecDepth 100000
namespace Go.Proofs.YtknjpdcpmpfklaaGreatDoor
open Go.RowKit
theorem pc_choices (W H R B K Q D F : Int) (v : Value) (l : List Nat) (T_b : Nat → Prop) (w0 : World) (hA : ActsIn w0) (hO : ScanIn w0) (hl : l.length ≤ 1001) (h_b : Byt w0 T_b v (l)) :
  Calls Tryz.prog 10 #[.agg #[.int .i64 (W), .int .i64 (H), .int .i64 (R), .int .i64 (B)], .agg #[.int .i64 (K), .int .i64 (Q), .int .i64 (D), .int .i64 (F)], v] w0 fun e w' => ∃ (v1 : Value) (T1 : Nat → Prop), e = .returned (.tuple #[v1, .int .i64 ((chsE l W H R B K Q D F).2)]) ∧ Kept (fun _ => False) w0 w' ∧ (RoO rCh w' T1 v1 ((chsE l W H R B K Q D F).1) ∧ Grew w0 noB T1) := by
 refine calls_wm (args := [.agg #[iv W, iv H, iv R, iv B], .agg #[iv K, iv Q, iv D, iv F], v]) 53 Tryz.func10 rfl rfl (Nat.le_of_ble_eq_true rfl) ?_
 have K0 := Kept.refl (fun _ => False) w0
 have g_b := Grew.refl w0 T_b
 refine wq_seq (wq_region (wl_box_stc (vs := [iv W, iv H, iv R, iv B]) rfl rfl rfl rfl fun p1 w2 B4 g5 k3 => ?_))
 have B8 := h_b.all k3 Apart.none
 have K9 := K0.tr k3
 refine wl_box_stc (vs := [iv K, iv Q, iv D, iv F]) rfl rfl rfl rfl fun p10 w11 B13 g14 k12 => ?_
 have B18 := B8.all k12 Apart.none
 have B19 := B4.all k12 id
 have K20 := K9.tr k12
 refine wl_alloc_cel (v := .slice none 0 0) rfl rfl rfl (by kernel_rfl) rfl fun p21 w22 B25 g27 k23 => ?_
 have gr28 : Grew w0 noB (onB p21) := Grew.new K20 g27
 have ap29 : Apart (onB p21) T_b := Apart.new g27 B18.live
 have ap30 : Apart (onB p21) (onB p1) := Apart.new g27 (onB_live B19.lt)
 have ap31 : Apart (onB p21) (onB p10) := Apart.new g27 (onB_live B13.lt)
 have B32 := B18.all k23 Apart.none
 have B33 := B19.all k23 id
 have B34 := B13.all k23 id
 have K35 := K20.tr k23
 refine wl_alloc_cel (v := iv 0) rfl rfl rfl (by kernel_rfl) rfl fun p36 w37 B40 g42 k38 => ?_
 have gr43 : Grew w0 noB (onB p36) := Grew.new K35 g42
 have ap44 : Apart (onB p36) T_b := Apart.new g42 B32.live
 have ap45 : Apart (onB p36) (onB p1) := Apart.new g42 (onB_live B33.lt)
 have ap46 : Apart (onB p36) (onB p10) := Apart.new g42 (onB_live B34.lt)
 have ap47 : Apart (onB p36) (onB p21) := Apart.new g42 (onB_live B25.lt)
 have B48 := B32.all k38 Apart.none
 have B49 := B33.all k38 id
 have B50 := B34.all k38 id
 have B51 := B25.all k38 id
 have K52 := K35.tr k38
 refine wl_nil fun F53 hF54 => ?_
 have s55 : F53 0 = .agg #[iv W, iv H, iv R, iv B] := (hF54 0).trans rfl
 have s56 : F53 1 = .agg #[iv K, iv Q, iv D, iv F] := (hF54 1).trans rfl
 have s57 : F53 2 = v := (hF54 2).trans rfl
 have s58 : F53 53 = undef := (hF54 53).trans rfl
 have s59 : F53 3 = pt p1 0 := (hF54 3).trans rfl
 have s60 : F53 4 = pt p10 0 := (hF54 4).trans rfl
 have s61 : F53 6 = pt p21 0 := (hF54 6).trans rfl
 have s62 : F53 7 = pt p36 0 := (hF54 7).trans rfl
 clear hF54
 refine then_normal (wq_seq (wq_seq (wq_region (wl_v (.agg #[iv W, iv H, iv R, iv B]) rfl rfl (y_load_stc stcT_seq rfl s59 B49 rr) (wl_v (.agg #[iv K, iv Q, iv D, iv F]) rfl rfl (y_load_stc stcT_head rfl s60 B50 rr) (wl_cs rfl rfl rfl rfl rfl (fun _ _ => by kernel_rfl) (vsC rfl (vsC rfl vsN)) (pc_check W H R B K Q D F  _   ) fun w63 k64 => ?_))))))
 have B65 := B48.all k64 Apart.none
 have B66 := B49.all k64 id
 have B67 := B50.all k64 id
 have B68 := B51.all k64 id
 have B69 := B40.all k64 id
 have K70 := K52.tr k64
 refine wl_v (iv (chkE W H R B K Q D F)) rfl rfl (y_asg rfl rfl rr) (wl_nil fun F71 hF72 => ?_)
 obtain ⟨s73, s74, s75, s76, s77, s78, s79, s80⟩ := t8 hF72 0 s55 1 s56 2 s57 53 s58 3 s59 4 s60 6 s61 7 s62
 have s81 : F71 8 = iv (chkE W H R B K Q D F) := (hF72 8).trans rfl
 clear hF72
 refine then_normal (wq_seq (wq_region (wl_mv rfl rfl rfl s81 (wl_v (.bool (decide ((chkE W H R B K Q D F) ≠ 0))) rfl rfl (y_neqI rfl rfl rfl rfl rr) (wl_nil fun F82 hF83 => ?_)))))
 obtain ⟨s84, s85, s86, s87, s88, s89, s90, s91, s92⟩ := t9 hF83 0 s73 1 s74 2 s75 53 s76 3 s77 4 s78 6 s79 7 s80 8 s81
 have s93 : F82 20 = .bool (decide ((chkE W H R B K Q D F) ≠ 0)) := (hF83 20).trans rfl
 clear hF83
 refine then_normal ?_
 refine wq_cond s93 (fun c94 => ?_) (fun c94 => ?_)
 ·replace c94 := of_decide_eq_true c94
  refine wq_seq ?_
  have hmn := chk_bad (W := W) (H := H) (R := R) (B := B) (K := K) (Q := Q) (D := D) (F := F) (by assumption)
  have hR := chsE_no (l := l) hmn
  refine wq_region (wl_mv rfl rfl rfl s92 (wl_store_cel rfl rfl rfl s90 rfl B68 (by rfl) (by kernel_rfl) fun w95 B96 k97 => ?_))
  have B101 := B69.all k97 (ap47 p36 rfl)
  have K102 := K70.trans k97 (Grew.ok (S := fun _ => False) gr28 noB_le)
  refine wl_store_cel rfl rfl rfl s91 rfl B101 (by rfl) (by kernel_rfl) fun w103 B104 k105 => ?_
  have B109 := B96.all k105 (ap47.symm p21 rfl)
  have K110 := K102.trans k105 (Grew.ok (S := fun _ => False) gr43 noB_le)
  refine wl_nil fun F111 hF112 => ?_
  obtain ⟨s113, s114, s115⟩ := t3 hF112 53 s87 6 s90 7 s91
  clear hF112
  refine then_normal (wq_ret (then_ret ?_))
  exact endm_2 (ms := []) (Eq.trans s113 (rfl : undef = markV [])) trivial rfl (res_cel Tryz.underlying32 rfl rfl s114 B109) (res_cel Tryz.underlying33 rfl rfl s115 B104) ⟨(.slice none 0 0), noB, (by first | (rw [hR, chk_no hmn]; rfl) | (rw [hR]; rfl) | (rw [chs_stop hm hpf hne]; rfl) | rw [hR, chk_no hmn] | rw [hR] | rw [chs_stop hm hpf hne]), K110, ⟨(by first | (rw [hR]; exact (RoO.nil rCh _)) | (rw [chs_stop hm hpf hne]; exact (RoO.nil rCh _))), (Grew.refl _ _)⟩⟩
 ·replace c94 := of_decide_eq_false c94
  refine wq_skip (then_normal (wq_seq ?_))
  have hm : mayP W H R B K Q D F := chk_may (by first | assumption | (apply Decidable.byContradiction; assumption))
  have hsq := hm.1
  have hsd := seq_side hm.1
  refine wq_region (wl_alloc_cel (v := .slice none 0 0) rfl rfl rfl (by kernel_rfl) rfl fun p116 w117 B120 g122 k118 => ?_)
  have gr123 : Grew w0 noB (onB p116) := Grew.new K70 g122
  have ap124 : Apart (onB p116) T_b := Apart.new g122 B65.live
  have ap125 : Apart (onB p116) (onB p1) := Apart.new g122 (onB_live B66.lt)
  have ap126 : Apart (onB p116) (onB p10) := Apart.new g122 (onB_live B67.lt)
  have ap127 : Apart (onB p116) (onB p21) := Apart.new g122 (onB_live B68.lt)
  have ap128 : Apart (onB p116) (onB p36) := Apart.new g122 (onB_live B69.lt)
  have B129 := B65.all k118 Apart.none
  have B130 := B66.all k118 id
  have B131 := B67.all k118 id
  have B132 := B68.all k118 id
  have B133 := B69.all k118 id
  have K134 := K70.tr k118
  refine wl_nil fun F135 hF136 => ?_
  obtain ⟨s137, s138, s139, s140, s141, s142, s143, s144, s145, s146⟩ := t10 hF136 0 s84 1 s85 2 s86 53 s87 3 s88 4 s89 6 s90 7 s91 8 s92 20 s93
  have s147 : F135 9 = pt p116 0 := (hF136 9).trans rfl
  clear hF136
  refine then_normal (wq_seq (wq_region (wl_mv rfl rfl rfl s139 (wl_call (R := fun v_ w_ => ∃ (v148 : Nat) (T151 : Nat → Prop), pt v148 0 = v_ ∧ Kept (fun _ => False) w117 w_ ∧ (Rdi w_ T151 v148 l (some 0) ∧ Grew w117 noB T151)) rfl rfl (y_cs rfl rfl rfl (fun _ _ => by kernel_rfl) (ev_func _) (vsC rfl vsN) (t_new v l T_b _ (by omega) B129 ) (fun e_ w_ h_ => by obtain ⟨v148_, T151_, he_, hr_⟩ := h_; exact ⟨_, he_, v148_, T151_, rfl, hr_⟩)) ?_))))
  rintro _ w149 ⟨v148, T151, rfl, k150, ⟨B152, g153⟩⟩
  have B154 := B129.all k150 Apart.none
  have B155 := B130.all k150 id
  have B156 := B131.all k150 id
  have B157 := B132.all k150 id
  have B158 := B133.all k150 id
  have B159 := B120.all k150 id
  have K160 := K134.tr k150
  have gr161 : Grew w0 noB T151 := Grew.new K134 g153
  have ap162 : Apart T151 T_b := Apart.new g153 B129.live
  have ap163 : Apart T151 (onB p1) := Apart.new g153 (onB_live B130.lt)
  have ap164 : Apart T151 (onB p10) := Apart.new g153 (onB_live B131.lt)
  have ap165 : Apart T151 (onB p21) := Apart.new g153 (onB_live B132.lt)
  have ap166 : Apart T151 (onB p36) := Apart.new g153 (onB_live B133.lt)
  have ap167 : Apart T151 (onB p116) := Apart.new g153 (onB_live B120.lt)
  refine wl_alloc_cel (v := .pointer none) rfl rfl rfl (by kernel_rfl) rfl fun p168 w169 B172 g174 k170 => ?_
  have gr175 : Grew w0 noB (onB p168) := Grew.new K160 g174
  have ap176 : Apart (onB p168) T_b := Apart.new g174 B154.live
  have ap177 : Apart (onB p168) (onB p1) := Apart.new g174 (onB_live B155.lt)
  have ap178 : Apart (onB p168) (onB p10) := Apart.new g174 (onB_live B156.lt)
  have ap179 : Apart (onB p168) (onB p21) := Apart.new g174 (onB_live B157.lt)
  have ap180 : Apart (onB p168) (onB p36) := Apart.new g174 (onB_live B158.lt)
  have ap181 : Apart (onB p168) (onB p116) := Apart.new g174 (onB_live B159.lt)
  have ap182 : Apart (onB p168) T151 := Apart.new g174 B152.live
  have B183 := B154.all k170 Apart.none
  have B184 := B155.all k170 id
  have B185 := B156.all k170 id
  have B186 := B157.all k170 id
  have B187 := B158.all k170 id
  have B188 := B159.all k170 id
  have B189 := B152.all k170 Apart.none
  have K190 := K160.tr k170
  refine wl_store_cel rfl rfl rfl rfl rfl B172 (by rfl) (by kernel_rfl) fun w191 B192 k193 => ?_
  have B194 := B183.all k193 ap176.symm
  have B195 := B184.all k193 (ap177.symm p1 rfl)
  have B196 := B185.all k193 (ap178.symm p10 rfl)
  have B197 := B186.all k193 (ap179.symm p21 rfl)
  have B198 := B187.all k193 (ap180.symm p36 rfl)
  have B199 := B188.all k193 (ap181.symm p116 rfl)
  have B200 := B189.all k193 ap182.symm
  have K201 := K190.trans k193 (Grew.ok (S := fun _ => False) gr175 noB_le)
  refine wl_nil fun F202 hF203 => ?_
  obtain ⟨s204, s205, s206, s207, s208, s209, s210, s211, s212, s213, s214⟩ := t11 hF203 0 s137 1 s138 2 s139 53 s140 3 s141 4 s142 6 s143 7 s144 8 s145 20 s146 9 s147
  have s215 : F202 10 = pt p168 0 := (hF203 10).trans rfl
  clear hF203
  refine then_normal (wq_seq (wq_region (wl_v (.agg #[iv W, iv H, iv R, iv B]) rfl rfl (y_load_stc stcT_seq rfl s208 B195 rr) (wl_call (R := fun v_ w_ => ∃ (v216 : Value) (T224 : Nat → Prop) (v217 : Value) (T225 : Nat → Prop) (v218 : Value) (T226 : Nat → Prop) (v219 : Value) (T227 : Nat → Prop) (v220 : Value) (T228 : Nat → Prop) (v221 : Value) (T229 : Nat → Prop), .agg #[v216, v217, v218, v219, v220, v221] = v_ ∧ Kept (fun _ => False) w191 w_ ∧ (Vpo w_ T224 v216 (some (newV ((plN W 0 : Nat) : Int) ((plN H 0 : Nat) : Int))) ∧ Grew w191 noB T224) ∧ (Vpo w_ T225 v217 (some (newV ((plN W 0 : Nat) : Int) ((plN H 0 : Nat) : Int))) ∧ Grew w191 noB T225) ∧ (Vpo w_ T226 v218 (some (newV ((plN W 1 : Nat) : Int) ((plN H 1 : Nat) : Int))) ∧ Grew w191 noB T226) ∧ (Vpo w_ T227 v219 (some (newV ((plN W 1 : Nat) : Int) ((plN H 1 : Nat) : Int))) ∧ Grew w191 noB T227) ∧ (Vpo w_ T228 v220 (some (newV ((plN W 2 : Nat) : Int) ((plN H 2 : Nat) : Int))) ∧ Grew w191 noB T228) ∧ (Vpo w_ T229 v221 (some (newV ((plN W 2 : Nat) : Int) ((plN H 2 : Nat) : Int))) ∧ Grew w191 noB T229) ∧ Apart T224 T225 ∧ Apart T224 T226 ∧ Apart T224 T227 ∧ Apart T224 T228 ∧ Apart T224 T229 ∧ Apart T225 T226 ∧ Apart T225 T227 ∧ Apart T225 T228 ∧ Apart T225 T229 ∧ Apart T226 T227 ∧ Apart T226 T228 ∧ Apart T226 T229 ∧ Apart T227 T228 ∧ Apart T227 T229 ∧ Apart T228 T229) rfl rfl (y_cs rfl rfl rfl (fun _ _ => by kernel_rfl) (ev_func _) (vsC rfl vsN) (pc_blank W H R B  _ (by assumption)  ) (fun e_ w_ h_ => by obtain ⟨v216_, T224_, v217_, T225_, v218_, T226_, v219_, T227_, v220_, T228_, v221_, T229_, he_, hr_⟩ := h_; exact ⟨_, he_, v216_, T224_, v217_, T225_, v218_, T226_, v219_, T227_, v220_, T228_, v221_, T229_, rfl, hr_⟩)) ?_))))
  rintro _ w222 ⟨v216, T224, v217, T225, v218, T226, v219, T227, v220, T228, v221, T229, rfl, k223, ⟨B230, g236⟩, ⟨B231, g237⟩, ⟨B232, g238⟩, ⟨B233, g239⟩, ⟨B234, g240⟩, ⟨B235, g241⟩, ap242, ap243, ap244, ap245, ap246, ap247, ap248, ap249, ap250, ap251, ap252, ap253, ap254, ap255, ap256⟩
  have B257 := B194.all k223 Apart.none
  have B258 := B195.all k223 id
  have B259 := B196.all k223 id
  have B260 := B197.all k223 id
  have B261 := B198.all k223 id
  have B262 := B199.all k223 id
  have B263 := B200.all k223 Apart.none
  have B264 := B192.all k223 id
  have K265 := K201.tr k223
  have gr266 : Grew w0 noB T224 := Grew.new K201 g236
  have ap267 : Apart T224 T_b := Apart.new g236 B194.live
  have ap268 : Apart T224 (onB p1) := Apart.new g236 (onB_live B195.lt)
  have ap269 : Apart T224 (onB p10) := Apart.new g236 (onB_live B196.lt)
  have ap270 : Apart T224 (onB p21) := Apart.new g236 (onB_live B197.lt)
  have ap271 : Apart T224 (onB p36) := Apart.new g236 (onB_live B198.lt)
  have ap272 : Apart T224 (onB p116) := Apart.new g236 (onB_live B199.lt)
  have ap273 : Apart T224 T151 := Apart.new g236 B200.live
  have ap274 : Apart T224 (onB p168) := Apart.new g236 (onB_live B192.lt)
  have gr275 : Grew w0 noB T225 := Grew.new K201 g237
  have ap276 : Apart T225 T_b := Apart.new g237 B194.live
  have ap277 : Apart T225 (onB p1) := Apart.new g237 (onB_live B195.lt)
  have ap278 : Apart T225 (onB p10) := Apart.new g237 (onB_live B196.lt)
  have ap279 : Apart T225 (onB p21) := Apart.new g237 (onB_live B197.lt)
  have ap280 : Apart T225 (onB p36) := Apart.new g237 (onB_live B198.lt)
  have ap281 : Apart T225 (onB p116) := Apart.new g237 (onB_live B199.lt)
  have ap282 : Apart T225 T151 := Apart.new g237 B200.live
  have ap283 : Apart T225 (onB p168) := Apart.new g237 (onB_live B192.lt)
  have gr284 : Grew w0 noB T226 := Grew.new K201 g238
  have ap285 : Apart T226 T_b := Apart.new g238 B194.live
  have ap286 : Apart T226 (onB p1) := Apart.new g238 (onB_live B195.lt)
  have ap287 : Apart T226 (onB p10) := Apart.new g238 (onB_live B196.lt)
  have ap288 : Apart T226 (onB p21) := Apart.new g238 (onB_live B197.lt)
  have ap289 : Apart T226 (onB p36) := Apart.new g238 (onB_live B198.lt)
  have ap290 : Apart T226 (onB p116) := Apart.new g238 (onB_live B199.lt)
  have ap291 : Apart T226 T151 := Apart.new g238 B200.live
  have ap292 : Apart T226 (onB p168) := Apart.new g238 (onB_live B192.lt)
  have gr293 : Grew w0 noB T227 := Grew.new K201 g239
  have ap294 : Apart T227 T_b := Apart.new g239 B194.live
  have ap295 : Apart T227 (onB p1) := Apart.new g239 (onB_live B195.lt)
  have ap296 : Apart T227 (onB p10) := Apart.new g239 (onB_live B196.lt)
  have ap297 : Apart T227 (onB p21) := Apart.new g239 (onB_live B197.lt)
  have ap298 : Apart T227 (onB p36) := Apart.new g239 (onB_live B198.lt)
  have ap299 : Apart T227 (onB p116) := Apart.new g239 (onB_live B199.lt)
  have ap300 : Apart T227 T151 := Apart.new g239 B200.live
  have ap301 : Apart T227 (onB p168) := Apart.new g239 (onB_live B192.lt)
  have gr302 : Grew w0 noB T228 := Grew.new K201 g240
  have ap303 : Apart T228 T_b := Apart.new g240 B194.live
  have ap304 : Apart T228 (onB p1) := Apart.new g240 (onB_live B195.lt)
  have ap305 : Apart T228 (onB p10) := Apart.new g240 (onB_live B196.lt)
  have ap306 : Apart T228 (onB p21) := Apart.new g240 (onB_live B197.lt)
  have ap307 : Apart T228 (onB p36) := Apart.new g240 (onB_live B198.lt)
  have ap308 : Apart T228 (onB p116) := Apart.new g240 (onB_live B199.lt)
  have ap309 : Apart T228 T151 := Apart.new g240 B200.live
  have ap310 : Apart T228 (onB p168) := Apart.new g240 (onB_live B192.lt)
  have gr311 : Grew w0 noB T229 := Grew.new K201 g241
  have ap312 : Apart T229 T_b := Apart.new g241 B194.live
  have ap313 : Apart T229 (onB p1) := Apart.new g241 (onB_live B195.lt)
  have ap314 : Apart T229 (onB p10) := Apart.new g241 (onB_live B196.lt)
  have ap315 : Apart T229 (onB p21) := Apart.new g241 (onB_live B197.lt)
  have ap316 : Apart T229 (onB p36) := Apart.new g241 (onB_live B198.lt)
  have ap317 : Apart T229 (onB p116) := Apart.new g241 (onB_live B199.lt)
  have ap318 : Apart T229 T151 := Apart.new g241 B200.live
  have ap319 : Apart T229 (onB p168) := Apart.new g241 (onB_live B192.lt)
  refine wl_alloc_stc (n := 6) (vs := [.pointer none, .pointer none, .pointer none, .pointer none, .pointer none, .pointer none]) rfl rfl rfl (by kernel_rfl) fun p320 w321 B323 g324 k322 => ?_
  have gr325 : Grew w0 noB (onB p320) := Grew.new K265 g324
  have ap326 : Apart (onB p320) T_b := Apart.new g324 B257.live
  have ap327 : Apart (onB p320) (onB p1) := Apart.new g324 (onB_live B258.lt)
  have ap328 : Apart (onB p320) (onB p10) := Apart.new g324 (onB_live B259.lt)
  have ap329 : Apart (onB p320) (onB p21) := Apart.new g324 (onB_live B260.lt)
  have ap330 : Apart (onB p320) (onB p36) := Apart.new g324 (onB_live B261.lt)
  have ap331 : Apart (onB p320) (onB p116) := Apart.new g324 (onB_live B262.lt)
  have ap332 : Apart (onB p320) T151 := Apart.new g324 B263.live
  have ap333 : Apart (onB p320) (onB p168) := Apart.new g324 (onB_live B264.lt)
  have ap334 : Apart (onB p320) T224 := Apart.new g324 B230.live
  have ap335 : Apart (onB p320) T225 := Apart.new g324 B231.live
  have ap336 : Apart (onB p320) T226 := Apart.new g324 B232.live
  have ap337 : Apart (onB p320) T227 := Apart.new g324 B233.live
  have ap338 : Apart (onB p320) T228 := Apart.new g324 B234.live
  have ap339 : Apart (onB p320) T229 := Apart.new g324 B235.live
  have B340 := B257.all k322 Apart.none
  have B341 := B258.all k322 id
  have B342 := B259.all k322 id
  have B343 := B260.all k322 id
  have B344 := B261.all k322 id
  have B345 := B262.all k322 id
  have B346 := B263.all k322 Apart.none
  have B347 := B264.all k322 id
  have B348 := B230.all k322 Apart.none
  have B349 := B231.all k322 Apart.none
  have B350 := B232.all k322 Apart.none
  have B351 := B233.all k322 Apart.none
  have B352 := B234.all k322 Apart.none
  have B353 := B235.all k322 Apart.none
  have K354 := K265.tr k322
  refine wl_store_stc (us := [v216, v217, v218, v219, v220, v221]) stcT_all rfl rfl rfl rfl rfl B323 rfl (oneI B348.one (oneI B349.one (oneI B350.one (oneI B351.one (oneI B352.one (oneI B353.one oneN)))))) fun w355 B356 k357 => ?_
  have B358 := B340.all k357 ap326.symm
  have B359 := B341.all k357 (ap327.symm p1 rfl)
  have B360 := B342.all k357 (ap328.symm p10 rfl)
  have B361 := B343.all k357 (ap329.symm p21 rfl)
  have B362 := B344.all k357 (ap330.symm p36 rfl)
  have B363 := B345.all k357 (ap331.symm p116 rfl)
  have B364 := B346.all k357 ap332.symm
  have B365 := B347.all k357 (ap333.symm p168 rfl)
  have B366 := B348.all k357 ap334.symm
  have B367 := B349.all k357 ap335.symm
  have B368 := B350.all k357 ap336.symm
  have B369 := B351.all k357 ap337.symm
  have B370 := B352.all k357 ap338.symm
  have B371 := B353.all k357 ap339.symm
  have K372 := K354.trans k357 (Grew.ok (S := fun _ => False) gr325 noB_le)
  refine wl_nil fun F373 hF374 => ?_
  obtain ⟨s375, s376, s377, s378, s379, s380, s381, s382, s383, s384, s385, s386⟩ := t12 hF374 0 s204 1 s205 2 s206 53 s207 3 s208 4 s209 6 s210 7 s211 8 s212 20 s213 9 s214 10 s215
  have s387 : F373 11 = pt p320 0 := (hF374 11).trans rfl
  clear hF374
  refine then_normal (wq_seq (wq_seq ?_))
  obtain ⟨c388, B389⟩ := vpm_of B366
  obtain ⟨c390, B391⟩ := vpm_of B367
  obtain ⟨c392, B393⟩ := vpm_of B368
  obtain ⟨c394, B395⟩ := vpm_of B369
  obtain ⟨c396, B397⟩ := vpm_of B370
  obtain ⟨c398, B399⟩ := vpm_of B371
  refine wq_region (wl_v (.agg #[iv W, iv H, iv R, iv B]) rfl rfl (y_load_stc stcT_seq rfl s379 B359 rr) (wl_call (R := fun v_ w_ => ∃ (v400 : Nat) (T403 : Nat → Prop), .func (.func 60) #[] #[pt v400 0] = v_ ∧ Kept (fun _ => False) w355 w_ ∧ (Sqs w_ T403 v400 W H R B ∧ Grew w355 noB T403)) rfl rfl (y_cs rfl rfl rfl (fun _ _ => by kernel_rfl) (ev_func _) (vsC rfl vsN) (pc_blocks W H R B  _   ) (fun e_ w_ h_ => by obtain ⟨v400_, T403_, he_, hr_⟩ := h_; exact ⟨_, he_, v400_, T403_, rfl, hr_⟩)) ?_))
  rintro _ w401 ⟨v400, T403, rfl, k402, ⟨B404, g405⟩⟩
  have B406 := B358.all k402 Apart.none
  have B407 := B359.all k402 id
  have B408 := B360.all k402 id
  have B409 := B361.all k402 id
  have B410 := B362.all k402 id
  have B411 := B363.all k402 id
  have B412 := B364.all k402 Apart.none
  have B413 := B365.all k402 id
  have B414 := B389.all k402 Apart.none
  have B415 := B391.all k402 Apart.none
  have B416 := B393.all k402 Apart.none
  have B417 := B395.all k402 Apart.none
  have B418 := B397.all k402 Apart.none
  have B419 := B399.all k402 Apart.none
  have B420 := B356.all k402 id
  have K421 := K372.tr k402
  have ap426 : Apart T403 (onB p21) := Apart.new g405 (onB_live B361.lt)
  have ap427 : Apart T403 (onB p36) := Apart.new g405 (onB_live B362.lt)
  have ap428 : Apart T403 (onB p116) := Apart.new g405 (onB_live B363.lt)
  have ap429 : Apart T403 T151 := Apart.new g405 B364.live
  have ap431 : Apart T403 T224 := Apart.new g405 B389.live
  have ap432 : Apart T403 T225 := Apart.new g405 B391.live
  have ap433 : Apart T403 T226 := Apart.new g405 B393.live
  have ap434 : Apart T403 T227 := Apart.new g405 B395.live
  have ap435 : Apart T403 T228 := Apart.new g405 B397.live
  have ap436 : Apart T403 T229 := Apart.new g405 B399.live
  refine wl_nil fun F438 hF439 => ?_
  obtain ⟨s440, s441, s442, s443, s444, s445, s446, s447, s448, s449, s450, s451, s452⟩ := t13 hF439 0 s375 1 s376 2 s377 53 s378 3 s379 4 s380 6 s381 7 s382 8 s383 20 s384 9 s385 10 s386 11 s387
  have s453 : F438 27 = .func (.func 60) #[] #[pt v400 0] := (hF439 27).trans rfl
  clear hF439
  refine then_normal (wq_block ?_)
  refine wq_rangeS (α := Spt W H) (encs := fun el => [iv ((el.m : Nat) : Int), .agg #[iv ((el.p : Nat) : Int), iv (pX (plN W el.p) el.i), iv (pY (plN W el.p) el.i)]]) (U := fun i => i ≠ v400) (S := fun xs => xs = spTo W H 3) (Sp := fun xs => xs <+: spTo W H 3) (M := 1000) s453 (fun _ _ => by kernel_rfl) (blk_seq W H R B v400 _ hm.1 B404.2) (fun i hi => Nat.ne_of_gt (Nat.lt_of_lt_of_le B404.2.lt hi)) [28, 29] rfl (fun _ => rfl) rfl (fun pre ww => ∃ (V : Value), ∃ (T454 : Nat → Prop), ∃ (T455 : Nat → Prop), ∃ (T456 : Nat → Prop), ∃ (T457 : Nat → Prop), ∃ (T458 : Nat → Prop), ∃ (T459 : Nat → Prop), ∃ (T460 : Nat → Prop), ∃ (T461 : Nat → Prop), ((foldQ l K W H pre).e = 0) ∧ Kept (fun _ => False) w0 ww ∧ Byt ww T_b v l ∧ Stc ww p1 23 [iv W, iv H, iv R, iv B] ∧ Stc ww p10 25 [iv K, iv Q, iv D, iv F] ∧ Cel ww p21 32 (.slice none 0 0) ∧ Cel ww p36 33 (iv 0) ∧ Cel ww p116 32 V ∧ Rdi ww T454 v148 l ((foldQ l K W H pre).s) ∧ Cel ww p168 54 (pt v148 0) ∧ Vpm ww T455 v216 c388 (((foldQ l K W H pre).f 0).1) ∧ Vpm ww T456 v217 c390 (((foldQ l K W H pre).f 0).2) ∧ Vpm ww T457 v218 c392 (((foldQ l K W H pre).f 1).1) ∧ Vpm ww T458 v219 c394 (((foldQ l K W H pre).f 1).2) ∧ Vpm ww T459 v220 c396 (((foldQ l K W H pre).f 2).1) ∧ Vpm ww T460 v221 c398 (((foldQ l K W H pre).f 2).2) ∧ Stc ww p320 59 [v216, v217, v218, v219, v220, v221] ∧ Sqs ww T403 v400 W H R B ∧ RoO rCh ww T461 V ((foldQ l K W H pre).o) ∧ Grew w0 noB T454 ∧ Grew w0 noB T455 ∧ Grew w0 noB T456 ∧ Grew w0 noB T457 ∧ Grew w0 noB T458 ∧ Grew w0 noB T459 ∧ Grew w0 noB T460 ∧ Grew w0 noB T461 ∧ Apart T454 T_b ∧ Apart T454 (onB p1) ∧ Apart T454 (onB p10) ∧ Apart T454 (onB p21) ∧ Apart T454 (onB p36) ∧ Apart T454 (onB p116) ∧ Apart T454 (onB p168) ∧ Apart T454 T455 ∧ Apart T454 T456 ∧ Apart T454 T457 ∧ Apart T454 T458 ∧ Apart T454 T459 ∧ Apart T454 T460 ∧ Apart T454 (onB p320) ∧ Apart T454 T403 ∧ Apart T454 T461 ∧ Apart T455 T_b ∧ Apart T455 (onB p1) ∧ Apart T455 (onB p10) ∧ Apart T455 (onB p21) ∧ Apart T455 (onB p36) ∧ Apart T455 (onB p116) ∧ Apart T455 (onB p168) ∧ Apart T455 T456 ∧ Apart T455 T457 ∧ Apart T455 T458 ∧ Apart T455 T459 ∧ Apart T455 T460 ∧ Apart T455 (onB p320) ∧ Apart T455 T403 ∧ Apart T455 T461 ∧ Apart T456 T_b ∧ Apart T456 (onB p1) ∧ Apart T456 (onB p10) ∧ Apart T456 (onB p21) ∧ Apart T456 (onB p36) ∧ Apart T456 (onB p116) ∧ Apart T456 (onB p168) ∧ Apart T456 T457 ∧ Apart T456 T458 ∧ Apart T456 T459 ∧ Apart T456 T460 ∧ Apart T456 (onB p320) ∧ Apart T456 T403 ∧ Apart T456 T461 ∧ Apart T457 T_b ∧ Apart T457 (onB p1) ∧ Apart T457 (onB p10) ∧ Apart T457 (onB p21) ∧ Apart T457 (onB p36) ∧ Apart T457 (onB p116) ∧ Apart T457 (onB p168) ∧ Apart T457 T458 ∧ Apart T457 T459 ∧ Apart T457 T460 ∧ Apart T457 (onB p320) ∧ Apart T457 T403 ∧ Apart T457 T461 ∧ Apart T458 T_b ∧ Apart T458 (onB p1) ∧ Apart T458 (onB p10) ∧ Apart T458 (onB p21) ∧ Apart T458 (onB p36) ∧ Apart T458 (onB p116) ∧ Apart T458 (onB p168) ∧ Apart T458 T459 ∧ Apart T458 T460 ∧ Apart T458 (onB p320) ∧ Apart T458 T403 ∧ Apart T458 T461 ∧ Apart T459 T_b ∧ Apart T459 (onB p1) ∧ Apart T459 (onB p10) ∧ Apart T459 (onB p21) ∧ Apart T459 (onB p36) ∧ Apart T459 (onB p116) ∧ Apart T459 (onB p168) ∧ Apart T459 T460 ∧ Apart T459 (onB p320) ∧ Apart T459 T403 ∧ Apart T459 T461 ∧ Apart T460 T_b ∧ Apart T460 (onB p1) ∧ Apart T460 (onB p10) ∧ Apart T460 (onB p21) ∧ Apart T460 (onB p36) ∧ Apart T460 (onB p116) ∧ Apart T460 (onB p168) ∧ Apart T460 (onB p320) ∧ Apart T460 T403 ∧ Apart T460 T461 ∧ Apart T461 T_b ∧ Apart T461 (onB p1) ∧ Apart T461 (onB p10) ∧ Apart T461 (onB p21) ∧ Apart T461 (onB p36) ∧ Apart T461 (onB p116) ∧ Apart T461 (onB p168) ∧ Apart T461 (onB p320) ∧ Apart T461 T403) (fun pre ww => Kept (fun _ => False) w0 ww ∧ Byt ww T_b v l ∧ Stc ww p1 23 [iv W, iv H, iv R, iv B] ∧ Stc ww p10 25 [iv K, iv Q, iv D, iv F] ∧ Cel ww p21 32 (.slice none 0 0) ∧ Cel ww p36 33 (iv ((foldQ l K W H pre).e)) ∧ Cel ww p168 54 (pt v148 0) ∧ Stc ww p320 59 [v216, v217, v218, v219, v220, v221] ∧ Sqs ww T403 v400 W H R B ∧ ((foldQ l K W H pre).e ≠ 0)) ?_ ?_ ⟨(.slice none 0 0), T151, T224, T225, T226, T227, T228, T229, noB, rfl, K421, B406, B407, B408, B409, B410, B411, B412, B413, B414, B415, B416, B417, B418, B419, B420, B404, (RoO.nil rCh _), gr161, gr266, gr275, gr284, gr293, gr302, gr311, (Grew.refl _ _), ap162, ap163, ap164, ap165, ap166, ap167, ap182.symm, ap273.symm, ap282.symm, ap291.symm, ap300.symm, ap309.symm, ap318.symm, ap332.symm, ap429.symm, Apart.none, ap267, ap268, ap269, ap270, ap271, ap272, ap274, ap242, ap243, ap244, ap245, ap246, ap334.symm, ap431.symm, Apart.none, ap276, ap277, ap278, ap279, ap280, ap281, ap283, ap247, ap248, ap249, ap250, ap335.symm, ap432.symm, Apart.none, ap285, ap286, ap287, ap288, ap289, ap290, ap292, ap251, ap252, ap253, ap336.symm, ap433.symm, Apart.none, ap294, ap295, ap296, ap297, ap298, ap299, ap301, ap254, ap255, ap337.symm, ap434.symm, Apart.none, ap303, ap304, ap305, ap306, ap307, ap308, ap310, ap256, ap338.symm, ap435.symm, Apart.none, ap312, ap313, ap314, ap315, ap316, ap317, ap319, ap339.symm, ap436.symm, Apart.none, Apart.none.symm, Apart.none.symm, Apart.none.symm, Apart.none.symm, Apart.none.symm, Apart.none.symm, Apart.none.symm, Apart.none.symm, Apart.none.symm⟩ (fun el FF WW => ∃ (pa0_ : Nat), FF 0 = .agg #[iv W, iv H, iv R, iv B] ∧ FF 1 = .agg #[iv K, iv Q, iv D, iv F] ∧ FF 2 = v ∧ FF 3 = pt p1 0 ∧ FF 4 = pt p10 0 ∧ FF 6 = pt p21 0 ∧ FF 7 = pt p36 0 ∧ FF 8 = iv (chkE W H R B K Q D F) ∧ FF 9 = pt p116 0 ∧ FF 10 = pt p168 0 ∧ FF 11 = pt p320 0 ∧ FF 13 = pt pa0_ 0 ∧ FF 20 = .bool (decide ((chkE W H R B K Q D F) ≠ 0)) ∧ FF 27 = .func (.func 60) #[] #[pt v400 0] ∧ FF 29 = .agg #[iv ((el.p : Nat) : Int), iv (pX (plN W el.p) el.i), iv (pY (plN W el.p) el.i)] ∧ FF 53 = undef ∧ Stc WW pa0_ 65 [iv ((el.p : Nat) : Int), iv (pX (plN W el.p) el.i), iv (pY (plN W el.p) el.i)] ∧ Apart (onB pa0_) T_b ∧ Apart (onB pa0_) (onB p1) ∧ Apart (onB pa0_) (onB p10) ∧ Apart (onB pa0_) (onB p21) ∧ Apart (onB pa0_) (onB p36) ∧ Apart (onB pa0_) (onB p116) ∧ Apart (onB pa0_) (onB p168) ∧ Apart (onB pa0_) (onB p320) ∧ Apart (onB pa0_) T403) ?_ ?_ ?_ ?_ ?_
  ·rintro pre A_ B_ row_ ⟨V, T454, T455, T456, T457, T458, T459, T460, T461, i0_, K_, B0_, B1_, B2_, B3_, B4_, B5_, B6_, B7_, B8_, B9_, B10_, B11_, B12_, B13_, B14_, B15_, B16_, g0_, g1_, g2_, g3_, g4_, g5_, g6_, g7_, a0_, a1_, a2_, a3_, a4_, a5_, a6_, a7_, a8_, a9_, a10_, a11_, a12_, a13_, a14_, a15_, a16_, a17_, a18_, a19_, a20_, a21_, a22_, a23_, a24_, a25_, a26_, a27_, a28_, a29_, a30_, a31_, a32_, a33_, a34_, a35_, a36_, a37_, a38_, a39_, a40_, a41_, a42_, a43_, a44_, a45_, a46_, a47_, a48_, a49_, a50_, a51_, a52_, a53_, a54_, a55_, a56_, a57_, a58_, a59_, a60_, a61_, a62_, a63_, a64_, a65_, a66_, a67_, a68_, a69_, a70_, a71_, a72_, a73_, a74_, a75_, a76_, a77_, a78_, a79_, a80_, a81_, a82_, a83_, a84_, a85_, a86_, a87_, a88_, a89_, a90_, a91_, a92_, a93_, a94_, a95_, a96_, a97_, a98_, a99_⟩ hg_ hr_
   exact ⟨V, T454, T455, T456, T457, T458, T459, T460, T461, i0_, K_.row hg_ hr_ K421.size, B0_.row hg_ hr_, B1_.row hg_ hr_, B2_.row hg_ hr_, B3_.row hg_ hr_, B4_.row hg_ hr_, B5_.row hg_ hr_, B6_.row hg_ hr_, B7_.row hg_ hr_, B8_.row hg_ hr_ B414.lt, B9_.row hg_ hr_ B415.lt, B10_.row hg_ hr_ B416.lt, B11_.row hg_ hr_ B417.lt, B12_.row hg_ hr_ B418.lt, B13_.row hg_ hr_ B419.lt, B14_.row hg_ hr_, B15_.row hg_ hr_, B16_.row hg_ hr_, g0_, g1_, g2_, g3_, g4_, g5_, g6_, g7_, a0_, a1_, a2_, a3_, a4_, a5_, a6_, a7_, a8_, a9_, a10_, a11_, a12_, a13_, a14_, a15_, a16_, a17_, a18_, a19_, a20_, a21_, a22_, a23_, a24_, a25_, a26_, a27_, a28_, a29_, a30_, a31_, a32_, a33_, a34_, a35_, a36_, a37_, a38_, a39_, a40_, a41_, a42_, a43_, a44_, a45_, a46_, a47_, a48_, a49_, a50_, a51_, a52_, a53_, a54_, a55_, a56_, a57_, a58_, a59_, a60_, a61_, a62_, a63_, a64_, a65_, a66_, a67_, a68_, a69_, a70_, a71_, a72_, a73_, a74_, a75_, a76_, a77_, a78_, a79_, a80_, a81_, a82_, a83_, a84_, a85_, a86_, a87_, a88_, a89_, a90_, a91_, a92_, a93_, a94_, a95_, a96_, a97_, a98_, a99_⟩
  ·rintro pre A_ B_ row_ ⟨K_, B0_, B1_, B2_, B3_, B4_, B5_, B6_, B7_, i0_⟩ hg_ hr_
   exact ⟨K_.row hg_ hr_ K421.size, B0_.row hg_ hr_, B1_.row hg_ hr_, B2_.row hg_ hr_, B3_.row hg_ hr_, B4_.row hg_ hr_, B5_.row hg_ hr_, B6_.row hg_ hr_, B7_.row hg_ hr_, i0_⟩
  ·rintro el FF _ A_ B_ row_ ⟨p0_, s0_, s1_, s2_, s3_, s4_, s5_, s6_, s7_, s8_, s9_, s10_, s11_, s12_, s13_, s14_, s15_, B0_, a0_, a1_, a2_, a3_, a4_, a5_, a6_, a7_, a8_⟩ hg_ hr_
   exact ⟨p0_, s0_, s1_, s2_, s3_, s4_, s5_, s6_, s7_, s8_, s9_, s10_, s11_, s12_, s13_, s14_, s15_, B0_.row hg_ hr_, a0_, a1_, a2_, a3_, a4_, a5_, a6_, a7_, a8_⟩
  ·rintro l_ pre el W_ ⟨V, T454, T455, T456, T457, T458, T459, T460, T461, hN, K462, B463, B464, B465, B466, B467, B468, B469, B470, B471, B472, B473, B474, B475, B476, B477, B478, B479, gr480, gr481, gr482, gr483, gr484, gr485, gr486, gr487, ap488, ap489, ap490, ap491, ap492, ap493, ap494, ap495, ap496, ap497, ap498, ap499, ap500, ap501, ap502, ap503, ap504, ap505, ap506, ap507, ap508, ap509, ap510, ap511, ap512, ap513, ap514, ap515, ap516, ap517, ap518, ap519, ap520, ap521, ap522, ap523, ap524, ap525, ap526, ap527, ap528, ap529, ap530, ap531, ap532, ap533, ap534, ap535, ap536, ap537, ap538, ap539, ap540, ap541, ap542, ap543, ap544, ap545, ap546, ap547, ap548, ap549, ap550, ap551, ap552, ap553, ap554, ap555, ap556, ap557, ap558, ap559, ap560, ap561, ap562, ap563, ap564, ap565, ap566, ap567, ap568, ap569, ap570, ap571, ap572, ap573, ap574, ap575, ap576, ap577, ap578, ap579, ap580, ap581, ap582, ap583, ap584, ap585, ap586, ap587⟩
   refine wq_region (wl_alloc_stc (n := 3) (vs := [iv 0, iv 0, iv 0]) rfl rfl rfl (by kernel_rfl) fun p588 w589 B591 g592 k590 => ?_)
   have gr593 : Grew W_ noB (onB p588) := Grew.new (Kept.refl (fun _ => False) W_) g592
   have ap594 : Apart (onB p588) T_b := Apart.new g592 B463.live
   have ap595 : Apart (onB p588) (onB p1) := Apart.new g592 (onB_live B464.lt)
   have ap596 : Apart (onB p588) (onB p10) := Apart.new g592 (onB_live B465.lt)
   have ap597 : Apart (onB p588) (onB p21) := Apart.new g592 (onB_live B466.lt)
   have ap598 : Apart (onB p588) (onB p36) := Apart.new g592 (onB_live B467.lt)
   have ap599 : Apart (onB p588) (onB p116) := Apart.new g592 (onB_live B468.lt)
   have ap600 : Apart (onB p588) T454 := Apart.new g592 B469.live
   have ap601 : Apart (onB p588) (onB p168) := Apart.new g592 (onB_live B470.lt)
   have ap602 : Apart (onB p588) T455 := Apart.new g592 B471.live
   have ap603 : Apart (onB p588) T456 := Apart.new g592 B472.live
   have ap604 : Apart (onB p588) T457 := Apart.new g592 B473.live
   have ap605 : Apart (onB p588) T458 := Apart.new g592 B474.live
   have ap606 : Apart (onB p588) T459 := Apart.new g592 B475.live
   have ap607 : Apart (onB p588) T460 := Apart.new g592 B476.live
   have ap608 : Apart (onB p588) (onB p320) := Apart.new g592 (onB_live B477.lt)
   have ap609 : Apart (onB p588) T403 := Apart.new g592 B478.live
   have ap610 : Apart (onB p588) T461 := Apart.new g592 B479.live
   have B611 := B463.all k590 Apart.none
   have B612 := B464.all k590 id
   have B613 := B465.all k590 id
   have B614 := B466.all k590 id
   have B615 := B467.all k590 id
   have B616 := B468.all k590 id
   have B617 := B469.all k590 Apart.none
   have B618 := B470.all k590 id
   have B619 := B471.all k590 Apart.none
   have B620 := B472.all k590 Apart.none
   have B621 := B473.all k590 Apart.none
   have B622 := B474.all k590 Apart.none
   have B623 := B475.all k590 Apart.none
   have B624 := B476.all k590 Apart.none
   have B625 := B477.all k590 id
   have B626 := B478.all k590 Apart.none
   have B627 := B479.all k590 Apart.none
   have K628 := (Kept.refl (fun _ => False) W_).trans k590 (fun _ _ x => x.elim)
   refine wl_store_stc (us := [iv ((el.p : Nat) : Int), iv (pX (plN W el.p) el.i), iv (pY (plN W el.p) el.i)]) stcT_spot rfl rfl rfl rfl rfl B591 rfl (oneI rfl (oneI rfl (oneI rfl oneN))) fun w629 B630 k631 => ?_
   have B632 := B611.all k631 ap594.symm
   have B633 := B612.all k631 (ap595.symm p1 rfl)
   have B634 := B613.all k631 (ap596.symm p10 rfl)
   have B635 := B614.all k631 (ap597.symm p21 rfl)
   have B636 := B615.all k631 (ap598.symm p36 rfl)
   have B637 := B616.all k631 (ap599.symm p116 rfl)
   have B638 := B617.all k631 ap600.symm
   have B639 := B618.all k631 (ap601.symm p168 rfl)
   have B640 := B619.all k631 ap602.symm
   have B641 := B620.all k631 ap603.symm
   have B642 := B621.all k631 ap604.symm
   have B643 := B622.all k631 ap605.symm
   have B644 := B623.all k631 ap606.symm
   have B645 := B624.all k631 ap607.symm
   have B646 := B625.all k631 (ap608.symm p320 rfl)
   have B647 := B626.all k631 ap609.symm
   have B648 := B627.all k631 ap610.symm
   have K649 := K628.trans k631 (Grew.ok (S := fun _ => False) gr593 noB_le)
   refine wl_nil fun F650 hF651 => ?_
   obtain ⟨s652, s653, s654⟩ := t3 hF651 0 s440 1 s441 2 s442
   have s655 : F650 53 = undef := (hF651 53).trans rfl
   obtain ⟨s656, s657, s658, s659, s660, s661, s662, s663, s664, s665⟩ := t10 hF651 3 s444 4 s445 6 s446 7 s447 8 s448 20 s449 9 s450 10 s451 11 s452 27 s453
   have s666 : F650 29 = .agg #[iv ((el.p : Nat) : Int), iv (pX (plN W el.p) el.i), iv (pY (plN W el.p) el.i)] := (hF651 29).trans rfl
   have s667 : F650 13 = pt p588 0 := (hF651 13).trans rfl
   clear hF651
   exact ⟨Cells.keeps Cells.no K649 _, K649.mono (fun _ _ x => x.elim), ⟨V, T454, T455, T456, T457, T458, T459, T460, T461, hN, K462.trans K649 (fun _ _ x => x.elim), B632, B633, B634, B635, B636, B637, B638, B639, B640, B641, B642, B643, B644, B645, B646, B647, B648, gr480, gr481, gr482, gr483, gr484, gr485, gr486, gr487, ap488, ap489, ap490, ap491, ap492, ap493, ap494, ap495, ap496, ap497, ap498, ap499, ap500, ap501, ap502, ap503, ap504, ap505, ap506, ap507, ap508, ap509, ap510, ap511, ap512, ap513, ap514, ap515, ap516, ap517, ap518, ap519, ap520, ap521, ap522, ap523, ap524, ap525, ap526, ap527, ap528, ap529, ap530, ap531, ap532, ap533, ap534, ap535, ap536, ap537, ap538, ap539, ap540, ap541, ap542, ap543, ap544, ap545, ap546, ap547, ap548, ap549, ap550, ap551, ap552, ap553, ap554, ap555, ap556, ap557, ap558, ap559, ap560, ap561, ap562, ap563, ap564, ap565, ap566, ap567, ap568, ap569, ap570, ap571, ap572, ap573, ap574, ap575, ap576, ap577, ap578, ap579, ap580, ap581, ap582, ap583, ap584, ap585, ap586, ap587⟩, ⟨p588, s652, s653, s654, s656, s657, s658, s659, s660, s662, s663, s664, s667, s661, s665, s666, s655, B630, ap594, ap595, ap596, ap597, ap598, ap599, ap601, ap608, ap609⟩⟩
  ·rintro l_ pre el F795 w794 ⟨V, T454, T455, T456, T457, T458, T459, T460, T461, hN, K668, B669, B670, B671, B672, B673, B674, B675, B676, B677, B678, B679, B680, B681, B682, B683, B684, B685, gr686, gr687, gr688, gr689, gr690, gr691, gr692, gr693, ap694, ap695, ap696, ap697, ap698, ap699, ap700, ap701, ap702, ap703, ap704, ap705, ap706, ap707, ap708, ap709, ap710, ap711, ap712, ap713, ap714, ap715, ap716, ap717, ap718, ap719, ap720, ap721, ap722, ap723, ap724, ap725, ap726, ap727, ap728, ap729, ap730, ap731, ap732, ap733, ap734, ap735, ap736, ap737, ap738, ap739, ap740, ap741, ap742, ap743, ap744, ap745, ap746, ap747, ap748, ap749, ap750, ap751, ap752, ap753, ap754, ap755, ap756, ap757, ap758, ap759, ap760, ap761, ap762, ap763, ap764, ap765, ap766, ap767, ap768, ap769, ap770, ap771, ap772, ap773, ap774, ap775, ap776, ap777, ap778, ap779, ap780, ap781, ap782, ap783, ap784, ap785, ap786, ap787, ap788, ap789, ap790, ap791, ap792, ap793⟩ ⟨p796, s797, s798, s799, s800, s801, s802, s803, s804, s805, s806, s807, s808, s809, s810, s811, s812, B813, ap814, ap815, ap816, ap817, ap818, ap819, ap820, ap821, ap822⟩ hlen_
   have K823 := Kept.refl (fun i => (onB p21) i ∨ ((onB p36) i ∨ ((onB p116) i ∨ (T454 i ∨ (T455 i ∨ (T456 i ∨ (T457 i ∨ (T458 i ∨ (T459 i ∨ (T460 i ∨ (T461 i))))))))))) w794
   have ap824 : Apart (onB p796) T454 := (far_rdi B813 B675 (by decide))
   have ap825 : Apart (onB p796) T455 := (far_vpm B813 B677 (by decide))
   have ap826 : Apart (onB p796) T456 := (far_vpm B813 B678 (by decide))
   have ap827 : Apart (onB p796) T457 := (far_vpm B813 B679 (by decide))
   have ap828 : Apart (onB p796) T458 := (far_vpm B813 B680 (by decide))
   have ap829 : Apart (onB p796) T459 := (far_vpm B813 B681 (by decide))
   have ap830 : Apart (onB p796) T460 := (far_vpm B813 B682 (by decide))
   have hA2 := hA.all K668
   have hO2 := hO.all K668
   have hab0 := aboveN gr686 hA
   have hab1 := aboveN gr687 hA
   have hab2 := aboveN gr688 hA
   have hab3 := aboveN gr689 hA
   have hab4 := aboveN gr690 hA
   have hab5 := aboveN gr691 hA
   have hab6 := aboveN gr692 hA
   have hab7 := aboveN gr693 hA
   have hei := el.hi
   refine wq_block (wq_seq ?_)
   rcases (show el.p = 0 ∨ el.p = 1 ∨ el.p = 2 from (by have := el.hp; omega)) with hpv | hpv | hpv
   ·skip
    have B832 : Stc w794 p796 65 [iv ((0 : Nat) : Int), iv (pX (plN W 0) el.i), iv (pY (plN W 0) el.i)] := by have h_ := B813; rw [hpv] at h_; exact h_
    have hwp := plN_pos' (W := W) (p := 0) hsd.1
    have hwl := plN_le (W := W) (p := 0) hsd.2.1
    have hwh := plN_le (W := H) (p := 0) hsd.2.2.2.2.1
    have hwn : plN W 0 * plN H 0 ≤ 16 * 16 := Nat.mul_le_mul hwl hwh
    rw [hpv] at hei
    refine wq_cas (γ := (Nat → Prop) × (Nat → Prop) × (Nat → Prop)) [(9, 8), (10, 8), (11, 8), (13, 8), (14, 8), (13, 12), (14, 12)] [some 31, some 32, some 33, some 34, some 35, some 36, some 37, some 38, some 39, some 30, some 40, some 41, some 14, none, some 15] ⟨fun w_ => Rdi w_ T454 v148 l ((foldQ l K W H pre).s) ∧ Vpm w_ T455 v216 c388 (((foldQ l K W H pre).f 0).1) ∧ Vpm w_ T456 v217 c390 (((foldQ l K W H pre).f 0).2), fun i => T454 i ∨ (T455 i ∨ (T456 i)), fun g_ w_ => (Rdi w_ (g_.1) v148 l ((stP l K (plN W 0) (el.i) ⟨(((foldQ l K W H pre).f 0).1), (((foldQ l K W H pre).f 0).2), ((foldQ l K W H pre).s)⟩).s) ∧ Grew w794 T454 (g_.1)) ∧ (Vpm w_ (g_.2.1) v216 c388 ((stP l K (plN W 0) (el.i) ⟨(((foldQ l K W H pre).f 0).1), (((foldQ l K W H pre).f 0).2), ((foldQ l K W H pre).s)⟩).a) ∧ Grew w794 T455 (g_.2.1)) ∧ (Vpm w_ (g_.2.2) v217 c390 ((stP l K (plN W 0) (el.i) ⟨(((foldQ l K W H pre).f 0).1), (((foldQ l K W H pre).f 0).2), ((foldQ l K W H pre).s)⟩).b) ∧ Grew w794 T456 (g_.2.2)) ∧ Apart (g_.1) (g_.2.1) ∧ Apart (g_.1) (g_.2.2) ∧ Apart (g_.2.1) (g_.2.2), fun g_ => fun i => (g_.1) i ∨ ((g_.2.1) i ∨ ((g_.2.2) i)), fun p_ w_ => Stc w_ p_ 71 (chL 0 0 0 0 0 (fun _ => (0 : Int))), fun g_ p_ w_ => Stc w_ p_ 71 (chW (rcP l K (plN W 0) (el.i) ⟨(((foldQ l K W H pre).f 0).1), (((foldQ l K W H pre).f 0).2), ((foldQ l K W H pre).s)⟩))⟩ (fun i => T454 i ∨ (T455 i ∨ (T456 i))) (fun p_ => w794.heap.size ≤ p_) [fun g_ => pt v148 0, fun g_ => pt p10 0, fun g_ => iv K, fun g_ => pt p796 0, fun g_ => iv ((0 : Nat) : Int), fun g_ => pt p320 0, fun g_ => .agg #[v216, v217], fun g_ => .agg #[iv ((0 : Nat) : Int), iv (pX (plN W 0) el.i), iv (pY (plN W 0) el.i)], fun g_ => .tuple #[.agg (chW (rcP l K (plN W 0) (el.i) ⟨(((foldQ l K W H pre).f 0).1), (((foldQ l K W H pre).f 0).2), ((foldQ l K W H pre).s)⟩)).toArray, iv ((chAt l K (plN W 0) (el.i) ⟨(((foldQ l K W H pre).f 0).1), (((foldQ l K W H pre).f 0).2), ((foldQ l K W H pre).s)⟩).2.1)], fun g_ => .tuple #[.agg (chW (rcP l K (plN W 0) (el.i) ⟨(((foldQ l K W H pre).f 0).1), (((foldQ l K W H pre).f 0).2), ((foldQ l K W H pre).s)⟩)).toArray, iv ((chAt l K (plN W 0) (el.i) ⟨(((foldQ l K W H pre).f 0).1), (((foldQ l K W H pre).f 0).2), ((foldQ l K W H pre).s)⟩).2.1)], fun g_ => .agg (chW (rcP l K (plN W 0) (el.i) ⟨(((foldQ l K W H pre).f 0).1), (((foldQ l K W H pre).f 0).2), ((foldQ l K W H pre).s)⟩)).toArray, fun g_ => iv ((chAt l K (plN W 0) (el.i) ⟨(((foldQ l K W H pre).f 0).1), (((foldQ l K W H pre).f 0).2), ((foldQ l K W H pre).s)⟩).2.1), fun _ => undef, fun _ => undef, fun g_ => iv ((chAt l K (plN W 0) (el.i) ⟨(((foldQ l K W H pre).f 0).1), (((foldQ l K W H pre).f 0).2), ((foldQ l K W H pre).s)⟩).2.1)] 8 13 (some 12) (noB, noB, noB) 0 (by kernel_rfl) (by kernel_rfl) (by kernel_rfl) (by kernel_rfl) ⟨.inr (.inr fun _ _ => rfl), ⟨.inr (.inr fun _ _ => rfl), ⟨.inr (.inr fun _ _ => rfl), ⟨.inr (.inr fun _ _ => rfl), ⟨.inr (.inr fun _ _ => rfl), ⟨.inr (.inr fun _ _ => rfl), ⟨.inr (.inr fun _ _ => rfl), ⟨.inr (.inr fun _ _ => rfl), ⟨.inr (.inl rfl), ⟨.inl rfl, ⟨.inl rfl, ⟨.inl rfl, ⟨.inr (.inr fun _ _ => rfl), ⟨.inl rfl, ⟨.inl rfl, trivial⟩⟩⟩⟩⟩⟩⟩⟩⟩⟩⟩⟩⟩⟩⟩ ⟨⟨B675, B677, B678⟩, fun w w1 S1 h k a => by obtain ⟨h0_, h1_, h2_⟩ := h; exact ⟨h0_.all k (fun i z => a i (Or.inl z)), h1_.all k (fun i z => a i (Or.inr (Or.inl z))), h2_.all k (fun i z => a i (Or.inr (Or.inr z)))⟩, fun w h i z => by obtain ⟨h0_, h1_, h2_⟩ := h; rcases z with z | z | z <;> first | exact h0_.live i z | exact h1_.live i z | exact h2_.live i z, fun g w w1 S1 h k a => by obtain ⟨⟨b0_, g0_⟩, ⟨b1_, g1_⟩, ⟨b2_, g2_⟩, a0_1_, a0_2_, a1_2_⟩ := h; exact ⟨⟨b0_.all k (fun i z => a i (Or.inl z)), g0_⟩, ⟨b1_.all k (fun i z => a i (Or.inr (Or.inl z))), g1_⟩, ⟨b2_.all k (fun i z => a i (Or.inr (Or.inr z))), g2_⟩, a0_1_, a0_2_, a1_2_⟩, fun g w h i z => by obtain ⟨⟨b0_, g0_⟩, ⟨b1_, g1_⟩, ⟨b2_, g2_⟩, a0_1_, a0_2_, a1_2_⟩ := h; rcases z with z | z | z <;> first | exact b0_.live i z | exact b1_.live i z | exact b2_.live i z, fun _ _ _ _ h k z => h.all k z, fun _ _ h => h.lt, fun _ _ _ _ _ h k z => h.all k z, fun _ z => z, fun _ h => .inr h, fun p h z => by rcases z with z | z | z <;> first | exact absurd h (Nat.not_le.2 (B675.live p z)) | exact absurd h (Nat.not_le.2 (B677.live p z)) | exact absurd h (Nat.not_le.2 (B678.live p z))⟩ (fun _ _ _ h => h) (fun e => by cases e) ?_ ?_
    ·refine stepsFX_cons ?_ ?_
     ·refine StepFX.one rfl rfl rfl rfl fun g_ p_ F_ w_ hR hout hD => ?_
      exact (y_load_cel rfl ((hout 10 rfl (by decide)).trans s806) Tryz.underlying54 (B676.all hR (fun x => (x.elim (fun y => ((ap700.symm) p168 rfl y)) (fun y => (y.elim (fun y => ((ap716.symm) p168 rfl y)) (fun y => ((ap731.symm) p168 rfl y))))))) rfl ⟨rfl, Kept.refl _ _⟩)
     refine stepsFX_cons ?_ ?_
     ·refine StepFX.one rfl rfl rfl rfl fun g_ p_ F_ w_ hR hout hD => ?_
      exact (y_fieldR (n := 1) rfl ((hout 4 rfl (by decide)).trans s801) Tryz.underlying25 rfl (by kernel_rfl) (by decide) rfl ⟨rfl, Kept.refl _ _⟩)
     refine stepsFX_cons ?_ ?_
     ·refine StepFX.one rfl rfl rfl rfl fun g_ p_ F_ w_ hR hout hD => ?_
      have g32 : F_ 32 = pt p10 0 := (hD.get 0 rfl rfl rfl).2 (by decide)
      exact (y_ld_stc rfl g32 Tryz.underlying3 (B671.all hR (fun x => (x.elim (fun y => ((ap696.symm) p10 rfl y)) (fun y => (y.elim (fun y => ((ap712.symm) p10 rfl y)) (fun y => ((ap727.symm) p10 rfl y))))))) rfl rfl ⟨rfl, Kept.refl _ _⟩)
     refine stepsFX_cons ?_ ?_
     ·refine StepFX.one rfl rfl rfl rfl fun g_ p_ F_ w_ hR hout hD => ?_
      exact (y_fieldR (n := 1) rfl ((hout 13 rfl (by decide)).trans s808) Tryz.underlying65 rfl (by kernel_rfl) (by decide) rfl ⟨rfl, Kept.refl _ _⟩)
     refine stepsFX_cons ?_ ?_
     ·refine StepFX.one rfl rfl rfl rfl fun g_ p_ F_ w_ hR hout hD => ?_
      have g34 : F_ 34 = pt p796 0 := (hD.get 0 rfl rfl rfl).2 (by decide)
      exact (y_ld_stc rfl g34 Tryz.underlying3 (B832.all hR (fun x => (x.elim (fun y => (ap824 p796 rfl y)) (fun y => (y.elim (fun y => (ap825 p796 rfl y)) (fun y => (ap826 p796 rfl y))))))) rfl rfl ⟨rfl, Kept.refl _ _⟩)
     refine stepsFX_cons ?_ ?_
     ·refine StepFX.one rfl rfl rfl rfl fun g_ p_ F_ w_ hR hout hD => ?_
      have g35 : F_ 35 = iv ((0 : Nat) : Int) := (hD.get 0 rfl rfl rfl).2 (by decide)
      exact (y_atR 0 (s := 2) rfl ((hout 11 rfl (by decide)).trans s807) g35 (by omega) Tryz.underlying59 (by omega) (by kernel_rfl) (by omega) ⟨rfl, Kept.refl _ _⟩)
     refine stepsFX_cons ?_ ?_
     ·refine StepFX.one rfl rfl rfl rfl fun g_ p_ F_ w_ hR hout hD => ?_
      have g36 : F_ 36 = pt p320 0 := (hD.get 0 rfl rfl rfl).2 (by decide)
      exact (y_ldPart (n := 2) stcT_pfs rfl g36 (B683.all hR (fun x => (x.elim (fun y => ((ap707.symm) p320 rfl y)) (fun y => (y.elim (fun y => ((ap722.symm) p320 rfl y)) (fun y => ((ap736.symm) p320 rfl y))))))) (Nat.le_of_ble_eq_true rfl) rfl ⟨rfl, Kept.refl _ _⟩)
     refine stepsFX_cons ?_ ?_
     ·refine StepFX.one rfl rfl rfl rfl fun g_ p_ F_ w_ hR hout hD => ?_
      exact (y_load_stc stcT_spot rfl ((hout 13 rfl (by decide)).trans s808) (B832.all hR (fun x => (x.elim (fun y => (ap824 p796 rfl y)) (fun y => (y.elim (fun y => (ap825 p796 rfl y)) (fun y => (ap826 p796 rfl y))))))) ⟨rfl, Kept.refl _ _⟩)
     refine stepsFX_cons ?_ ?_
     ·refine StepFX.call rfl rfl rfl rfl fun g_ p_ F_ w_ hR hout hD hP_ => ?_
      have g31 : F_ 31 = pt v148 0 := (hD.get 0 rfl rfl rfl).2 (by decide)
      have g33 : F_ 33 = iv K := (hD.get 1 rfl rfl rfl).2 (by decide)
      have g37 : F_ 37 = .agg #[v216, v217] := (hD.get 2 rfl rfl rfl).2 (by decide)
      have g38 : F_ 38 = .agg #[iv ((0 : Nat) : Int), iv (pX (plN W 0) el.i), iv (pY (plN W 0) el.i)] := (hD.get 3 rfl rfl rfl).2 (by decide)
      exact (y_cs rfl rfl rfl (fun _ _ => by kernel_rfl) (ev_func _) (vsC g31 (vsC g33 (vsC g37 (vsC g38 vsN)))) (pc_read v148 l ((foldQ l K W H pre).s) K ((0 : Nat) : Int) (plN W 0) (el.i) v216 v217 c388 c390 (((foldQ l K W H pre).f 0).1) (((foldQ l K W H pre).f 0).2) T454 T455 T456 _ (hA2.but hR (by rintro i (h | h | h) <;> first | exact hab0 _ h | exact hab1 _ h | exact hab2 _ h | exact hab3 _ h | exact hab4 _ h | exact hab5 _ h | exact hab6 _ h | exact hab7 _ h)) (hO2.but hR (ovO (by rintro i (h | h | h) <;> first | exact hab0 _ h | exact hab1 _ h | exact hab2 _ h | exact hab3 _ h | exact hab4 _ h | exact hab5 _ h | exact hab6 _ h | exact hab7 _ h))) (by first | exact hab0 | exact hab1 | exact hab2 | exact hab3 | exact hab4 | exact hab5 | exact hab6 | exact hab7) (by first | exact hab0 | exact hab1 | exact hab2 | exact hab3 | exact hab4 | exact hab5 | exact hab6 | exact hab7) (by first | exact hab0 | exact hab1 | exact hab2 | exact hab3 | exact hab4 | exact hab5 | exact hab6 | exact hab7) hwp hwl (by omega) hP_.1 hP_.2.1 hP_.2.2 ap701 ap702 ap717) (fun e_ w_ h_ => by obtain ⟨x0_, x1_, x2_, he_, hk_, ⟨b0_, g0_⟩, ⟨b1_, g1_⟩, ⟨b2_, g2_⟩, a0_1_, a0_2_, a1_2_⟩ := h_; exact ⟨_, he_, ⟨x0_, x1_, x2_⟩, rfl, hk_, ⟨⟨b0_, (Grew.refl w794 _).trans hR g0_⟩, ⟨b1_, (Grew.refl w794 _).trans hR g1_⟩, ⟨b2_, (Grew.refl w794 _).trans hR g2_⟩, a0_1_, a0_2_, a1_2_⟩, fun b hb => by rcases hb with hb | hb | hb <;> first | exact (g0_ b hb).elim (fun z => .inl (Or.inl z)) .inr | exact (g1_ b hb).elim (fun z => .inl (Or.inr (Or.inl z))) .inr | exact (g2_ b hb).elim (fun z => .inl (Or.inr (Or.inr z))) .inr⟩))
     refine stepsFX_cons ?_ ?_
     ·refine StepFX.one rfl rfl rfl rfl fun g_ p_ F_ w_ hR hout hD => ?_
      have g39 : F_ 39 = .tuple #[.agg (chW (rcP l K (plN W 0) (el.i) ⟨(((foldQ l K W H pre).f 0).1), (((foldQ l K W H pre).f 0).2), ((foldQ l K W H pre).s)⟩)).toArray, iv ((chAt l K (plN W 0) (el.i) ⟨(((foldQ l K W H pre).f 0).1), (((foldQ l K W H pre).f 0).2), ((foldQ l K W H pre).s)⟩).2.1)] := (hD.get 0 rfl rfl rfl).2 (by decide)
      exact (y_mov rfl g39 ⟨rfl, Kept.refl _ _⟩)
     refine stepsFX_cons ?_ ?_
     ·refine StepFX.one rfl rfl rfl rfl fun g_ p_ F_ w_ hR hout hD => ?_
      have g30 : F_ 30 = .tuple #[.agg (chW (rcP l K (plN W 0) (el.i) ⟨(((foldQ l K W H pre).f 0).1), (((foldQ l K W H pre).f 0).2), ((foldQ l K W H pre).s)⟩)).toArray, iv ((chAt l K (plN W 0) (el.i) ⟨(((foldQ l K W H pre).f 0).1), (((foldQ l K W H pre).f 0).2), ((foldQ l K W H pre).s)⟩).2.1)] := (hD.get 0 rfl rfl rfl).2 (by decide)
      exact (y_ext rfl g30 rfl ⟨rfl, Kept.refl _ _⟩)
     refine stepsFX_cons ?_ ?_
     ·refine StepFX.one rfl rfl rfl rfl fun g_ p_ F_ w_ hR hout hD => ?_
      have g30 : F_ 30 = .tuple #[.agg (chW (rcP l K (plN W 0) (el.i) ⟨(((foldQ l K W H pre).f 0).1), (((foldQ l K W H pre).f 0).2), ((foldQ l K W H pre).s)⟩)).toArray, iv ((chAt l K (plN W 0) (el.i) ⟨(((foldQ l K W H pre).f 0).1), (((foldQ l K W H pre).f 0).2), ((foldQ l K W H pre).s)⟩).2.1)] := (hD.get 0 rfl rfl rfl).2 (by decide)
      exact (y_ext rfl g30 rfl ⟨rfl, Kept.refl _ _⟩)
     refine stepsFX_cons ?_ ?_
     ·refine StepFX.alloc rfl rfl rfl rfl fun F_ w_ hR => ?_
      exact y_alloc_stc (n := 21) (vs := (chL 0 0 0 0 0 (fun _ => (0 : Int)))) rfl (by kernel_rfl) ⟨_, rfl, Nat.le_refl _, heap_alloc_new _ _, (Kept.refl _ _).alloc _⟩
     refine stepsFX_cons ?_ ?_
     ·refine StepFX.store rfl rfl rfl rfl fun g_ p_ F_ w_ hR hout hD hO_ hZ_ hQ_ => ?_
      have g14 : F_ 14 = pt p_ 0 := (hD.get 0 rfl rfl rfl).1 rfl
      have g40 : F_ 40 = .agg (chW (rcP l K (plN W 0) (el.i) ⟨(((foldQ l K W H pre).f 0).1), (((foldQ l K W H pre).f 0).2), ((foldQ l K W H pre).s)⟩)).toArray := (hD.get 1 rfl rfl rfl).2 (by decide)
      exact y_storeStc (us := (chW (rcP l K (plN W 0) (el.i) ⟨(((foldQ l K W H pre).f 0).1), (((foldQ l K W H pre).f 0).2), ((foldQ l K W H pre).s)⟩))) stcT_choice rfl g14 g40 hZ_ rfl (oneI rfl (oneI rfl (oneI rfl (oneI rfl (oneI rfl (oneI rfl (oneI rfl (oneI rfl (oneI rfl (oneI rfl (oneI rfl (oneI rfl (oneI rfl (oneI rfl (oneI rfl (oneI rfl (oneI rfl (oneI rfl (oneI rfl (oneI rfl (oneI rfl oneN))))))))))))))))))))) fun w2_ b_ k_ => ⟨rfl, k_, b_⟩
     refine stepsFX_cons ?_ ?_
     ·refine StepFX.one rfl rfl rfl rfl fun g_ p_ F_ w_ hR hout hD => ?_
      have g41 : F_ 41 = iv ((chAt l K (plN W 0) (el.i) ⟨(((foldQ l K W H pre).f 0).1), (((foldQ l K W H pre).f 0).2), ((foldQ l K W H pre).s)⟩).2.1) := (hD.get 0 rfl rfl rfl).2 (by decide)
      exact (y_asg rfl g41 ⟨rfl, Kept.refl _ _⟩)
     exact stepsFX_nil
    intro gg834 p835 v836 F837 w838 k839 hp840 hQ841 hG842 hY843 hN844 hA845 hV846 hF847
    obtain ⟨T849, T850, T851⟩ := gg834
    have B852 := B669.all k839 (fun i h x => (x.elim (fun y => ((ap694.symm) i h y)) (fun y => (y.elim (fun y => ((ap710.symm) i h y)) (fun y => ((ap725.symm) i h y))))))
    have B853 := B670.all k839 (fun x => (x.elim (fun y => ((ap695.symm) p1 rfl y)) (fun y => (y.elim (fun y => ((ap711.symm) p1 rfl y)) (fun y => ((ap726.symm) p1 rfl y))))))
    have B854 := B671.all k839 (fun x => (x.elim (fun y => ((ap696.symm) p10 rfl y)) (fun y => (y.elim (fun y => ((ap712.symm) p10 rfl y)) (fun y => ((ap727.symm) p10 rfl y))))))
    have B855 := B672.all k839 (fun x => (x.elim (fun y => ((ap697.symm) p21 rfl y)) (fun y => (y.elim (fun y => ((ap713.symm) p21 rfl y)) (fun y => ((ap728.symm) p21 rfl y))))))
    have B856 := B673.all k839 (fun x => (x.elim (fun y => ((ap698.symm) p36 rfl y)) (fun y => (y.elim (fun y => ((ap714.symm) p36 rfl y)) (fun y => ((ap729.symm) p36 rfl y))))))
    have B857 := B674.all k839 (fun x => (x.elim (fun y => ((ap699.symm) p116 rfl y)) (fun y => (y.elim (fun y => ((ap715.symm) p116 rfl y)) (fun y => ((ap730.symm) p116 rfl y))))))
    have B858 := B676.all k839 (fun x => (x.elim (fun y => ((ap700.symm) p168 rfl y)) (fun y => (y.elim (fun y => ((ap716.symm) p168 rfl y)) (fun y => ((ap731.symm) p168 rfl y))))))
    have B859 := B679.all k839 (fun i h x => (x.elim (fun y => ((ap703.symm) i h y)) (fun y => (y.elim (fun y => ((ap718.symm) i h y)) (fun y => ((ap732.symm) i h y))))))
    have B860 := B680.all k839 (fun i h x => (x.elim (fun y => ((ap704.symm) i h y)) (fun y => (y.elim (fun y => ((ap719.symm) i h y)) (fun y => ((ap733.symm) i h y))))))
    have B861 := B681.all k839 (fun i h x => (x.elim (fun y => ((ap705.symm) i h y)) (fun y => (y.elim (fun y => ((ap720.symm) i h y)) (fun y => ((ap734.symm) i h y))))))
    have B862 := B682.all k839 (fun i h x => (x.elim (fun y => ((ap706.symm) i h y)) (fun y => (y.elim (fun y => ((ap721.symm) i h y)) (fun y => ((ap735.symm) i h y))))))
    have B863 := B683.all k839 (fun x => (x.elim (fun y => ((ap707.symm) p320 rfl y)) (fun y => (y.elim (fun y => ((ap722.symm) p320 rfl y)) (fun y => ((ap736.symm) p320 rfl y))))))
    have B864 := B684.all k839 (fun i h x => (x.elim (fun y => ((ap708.symm) i h y)) (fun y => (y.elim (fun y => ((ap723.symm) i h y)) (fun y => ((ap737.symm) i h y))))))
    have B865 := B685.all k839 (fun i h x => (x.elim (fun y => ((ap709.symm) i h y)) (fun y => (y.elim (fun y => ((ap724.symm) i h y)) (fun y => ((ap738.symm) i h y))))))
    have K867 := K823.trans k839 (fun i hi x => (x.elim (fun y => ((Grew.ok (S := fun i => (onB p21) i ∨ ((onB p36) i ∨ ((onB p116) i ∨ (T454 i ∨ (T455 i ∨ (T456 i ∨ (T457 i ∨ (T458 i ∨ (T459 i ∨ (T460 i ∨ (T461 i))))))))))) (Grew.refl w794 T454) (fun _ x => Or.inr (Or.inr (Or.inr (Or.inl x))))) i hi y)) (fun y => (y.elim (fun y => ((Grew.ok (S := fun i => (onB p21) i ∨ ((onB p36) i ∨ ((onB p116) i ∨ (T454 i ∨ (T455 i ∨ (T456 i ∨ (T457 i ∨ (T458 i ∨ (T459 i ∨ (T460 i ∨ (T461 i))))))))))) (Grew.refl w794 T455) (fun _ x => Or.inr (Or.inr (Or.inr (Or.inr (Or.inl x)))))) i hi y)) (fun y => ((Grew.ok (S := fun i => (onB p21) i ∨ ((onB p36) i ∨ ((onB p116) i ∨ (T454 i ∨ (T455 i ∨ (T456 i ∨ (T457 i ∨ (T458 i ∨ (T459 i ∨ (T460 i ∨ (T461 i))))))))))) (Grew.refl w794 T456) (fun _ x => Or.inr (Or.inr (Or.inr (Or.inr (Or.inr (Or.inl x))))))) i hi y))))))
    obtain ⟨⟨B868, g871⟩, ⟨B869, g872⟩, ⟨B870, g873⟩, ap874, ap875, ap876⟩ := hQ841
    replace B868 : Rdi w838 T849 v148 l ((stP l K (plN W 0) (el.i) ⟨(((foldQ l K W H pre).f 0).1), (((foldQ l K W H pre).f 0).2), ((foldQ l K W H pre).s)⟩).s) := B868
    replace B869 : Vpm w838 T850 v216 c388 ((stP l K (plN W 0) (el.i) ⟨(((foldQ l K W H pre).f 0).1), (((foldQ l K W H pre).f 0).2), ((foldQ l K W H pre).s)⟩).a) := B869
    replace B870 : Vpm w838 T851 v217 c390 ((stP l K (plN W 0) (el.i) ⟨(((foldQ l K W H pre).f 0).1), (((foldQ l K W H pre).f 0).2), ((foldQ l K W H pre).s)⟩).b) := B870
    replace g871 : Grew w794 T454 T849 := g871
    replace g872 : Grew w794 T455 T850 := g872
    replace g873 : Grew w794 T456 T851 := g873
    replace ap874 : Apart T849 T850 := ap874
    replace ap875 : Apart T849 T851 := ap875
    replace ap876 : Apart T850 T851 := ap876
    have gr877 := (Grew.refl w794 T454).trans K823 g871
    have ap878 : Apart T849 T_b := ap694.grew g871 B669.live
    have ap879 : Apart T849 (onB p1) := ap695.grew g871 (onB_live B670.lt)
    have ap880 : Apart T849 (onB p10) := ap696.grew g871 (onB_live B671.lt)
    have ap881 : Apart T849 (onB p21) := ap697.grew g871 (onB_live B672.lt)
    have ap882 : Apart T849 (onB p36) := ap698.grew g871 (onB_live B673.lt)
    have ap883 : Apart T849 (onB p116) := ap699.grew g871 (onB_live B674.lt)
    have ap884 : Apart T849 (onB p168) := ap700.grew g871 (onB_live B676.lt)
    have ap885 : Apart T849 T457 := ap703.grew g871 B679.live
    have ap886 : Apart T849 T458 := ap704.grew g871 B680.live
    have ap887 : Apart T849 T459 := ap705.grew g871 B681.live
    have ap888 : Apart T849 T460 := ap706.grew g871 B682.live
    have ap889 : Apart T849 (onB p320) := ap707.grew g871 (onB_live B683.lt)
    have ap890 : Apart T849 T403 := ap708.grew g871 B684.live
    have ap891 : Apart T849 T461 := ap709.grew g871 B685.live
    have gr893 := (Grew.refl w794 T455).trans K823 g872
    have ap894 : Apart T850 T_b := ap710.grew g872 B669.live
    have ap895 : Apart T850 (onB p1) := ap711.grew g872 (onB_live B670.lt)
    have ap896 : Apart T850 (onB p10) := ap712.grew g872 (onB_live B671.lt)
    have ap897 : Apart T850 (onB p21) := ap713.grew g872 (onB_live B672.lt)
    have ap898 : Apart T850 (onB p36) := ap714.grew g872 (onB_live B673.lt)
    have ap899 : Apart T850 (onB p116) := ap715.grew g872 (onB_live B674.lt)
    have ap900 : Apart T850 (onB p168) := ap716.grew g872 (onB_live B676.lt)
    have ap901 : Apart T850 T457 := ap718.grew g872 B679.live
    have ap902 : Apart T850 T458 := ap719.grew g872 B680.live
    have ap903 : Apart T850 T459 := ap720.grew g872 B681.live
    have ap904 : Apart T850 T460 := ap721.grew g872 B682.live
    have ap905 : Apart T850 (onB p320) := ap722.grew g872 (onB_live B683.lt)
    have ap906 : Apart T850 T403 := ap723.grew g872 B684.live
    have ap907 : Apart T850 T461 := ap724.grew g872 B685.live
    have gr909 := (Grew.refl w794 T456).trans K823 g873
    have ap910 : Apart T851 T_b := ap725.grew g873 B669.live
    have ap911 : Apart T851 (onB p1) := ap726.grew g873 (onB_live B670.lt)
    have ap912 : Apart T851 (onB p10) := ap727.grew g873 (onB_live B671.lt)
    have ap913 : Apart T851 (onB p21) := ap728.grew g873 (onB_live B672.lt)
    have ap914 : Apart T851 (onB p36) := ap729.grew g873 (onB_live B673.lt)
    have ap915 : Apart T851 (onB p116) := ap730.grew g873 (onB_live B674.lt)
    have ap916 : Apart T851 (onB p168) := ap731.grew g873 (onB_live B676.lt)
    have ap917 : Apart T851 T457 := ap732.grew g873 B679.live
    have ap918 : Apart T851 T458 := ap733.grew g873 B680.live
    have ap919 : Apart T851 T459 := ap734.grew g873 B681.live
    have ap920 : Apart T851 T460 := ap735.grew g873 B682.live
    have ap921 : Apart T851 (onB p320) := ap736.grew g873 (onB_live B683.lt)
    have ap922 : Apart T851 T403 := ap737.grew g873 B684.live
    have ap923 : Apart T851 T461 := ap738.grew g873 B685.live
    replace hY843 : Stc w838 p835 71 (chW (rcP l K (plN W 0) (el.i) ⟨(((foldQ l K W H pre).f 0).1), (((foldQ l K W H pre).f 0).2), ((foldQ l K W H pre).s)⟩)) := hY843
    obtain ⟨s949, s950, s952⟩ := t3 hF847 6 s802 7 s803 9 s805
    have s960 : F837 14 = pt p835 0 := (hF847 14).trans (hA845 12 rfl)
    have s961 : F837 15 = iv ((chAt l K (plN W 0) (el.i) ⟨(((foldQ l K W H pre).f 0).1), (((foldQ l K W H pre).f 0).2), ((foldQ l K W H pre).s)⟩).2.1) := (hF847 15).trans (hV846 14 (by decide) (by decide))
    clear hF847 hV846 hA845 hN844 hG842
    refine then_normal (wq_seq (wq_seq (wq_region (wl_mv rfl rfl rfl s961 (wl_v (.bool (decide (((chAt l K (plN W 0) (el.i) ⟨(((foldQ l K W H pre).f 0).1), (((foldQ l K W H pre).f 0).2), ((foldQ l K W H pre).s)⟩).2.1) ≠ 0))) rfl rfl (y_neqI rfl rfl rfl rfl rr) (wl_nil fun F962 hF963 => ?_))))))
    obtain ⟨s969, s970, s972, s980, s981⟩ := t5 hF963 6 s949 7 s950 9 s952 14 s960 15 s961
    have s982 : F962 43 = .bool (decide (((chAt l K (plN W 0) (el.i) ⟨(((foldQ l K W H pre).f 0).1), (((foldQ l K W H pre).f 0).2), ((foldQ l K W H pre).s)⟩).2.1) ≠ 0)) := (hF963 43).trans rfl
    clear hF963
    refine then_normal ?_
    refine wq_cond s982 (fun c983 => ?_) (fun c983 => ?_)
    ·replace c983 := of_decide_eq_true c983
     refine wq_seq ?_
     have hX := fq_bad (l := l) (k := K) hpv hN (show (chAt l K (plN W 0) el.i ((foldQ l K W H pre).at 0)).2.1 ≠ 0 from by assumption)
     refine wq_region (wl_mv rfl rfl rfl s981 (wl_store_cel rfl rfl rfl s969 rfl B855 (by rfl) (by kernel_rfl) fun w984 B985 k986 => ?_))
     have B987 := B852.all k986 ap29.symm
     have B988 := B853.all k986 (ap30.symm p1 rfl)
     have B989 := B854.all k986 (ap31.symm p10 rfl)
     have B990 := B856.all k986 (ap47 p36 rfl)
     have B993 := B858.all k986 (ap179 p168 rfl)
     have B1000 := B863.all k986 (ap329 p320 rfl)
     have B1001 := B864.all k986 ap426
     have K1005 := K867.trans k986 (Grew.ok (S := fun i => (onB p21) i ∨ ((onB p36) i ∨ ((onB p116) i ∨ (T454 i ∨ (T455 i ∨ (T456 i ∨ (T457 i ∨ (T458 i ∨ (T459 i ∨ (T460 i ∨ (T461 i))))))))))) (Grew.refl w794 (onB p21)) (fun _ x => Or.inl x))
     refine wl_store_cel rfl rfl rfl s970 rfl B990 (by rfl) (by kernel_rfl) fun w1006 B1007 k1008 => ?_
     have B1009 := B987.all k1008 ap44.symm
     have B1010 := B988.all k1008 (ap45.symm p1 rfl)
     have B1011 := B989.all k1008 (ap46.symm p10 rfl)
     have B1012 := B985.all k1008 (ap47.symm p21 rfl)
     have B1015 := B993.all k1008 (ap180 p168 rfl)
     have B1022 := B1000.all k1008 (ap330 p320 rfl)
     have B1023 := B1001.all k1008 ap427
     have K1027 := K1005.trans k1008 (Grew.ok (S := fun i => (onB p21) i ∨ ((onB p36) i ∨ ((onB p116) i ∨ (T454 i ∨ (T455 i ∨ (T456 i ∨ (T457 i ∨ (T458 i ∨ (T459 i ∨ (T460 i ∨ (T461 i))))))))))) (Grew.refl w794 (onB p36)) (fun _ x => Or.inr (Or.inl x)))
     refine wl_nil fun F1028 hF1029 => ?_
     clear hF1029
     refine then_normal (wq_ret (then_ret (in_ret ?_)))
     exact ⟨CellsB.keeps (CellsB.or B672.cells.cb (CellsB.or B673.cells.cb (CellsB.or B674.cells.cb (CellsB.or B675.cells.cb (CellsB.or (B677.cb B414.lt) (CellsB.or (B678.cb B415.lt) (CellsB.or (B679.cb B416.lt) (CellsB.or (B680.cb B417.lt) (CellsB.or (B681.cb B418.lt) (CellsB.or (B682.cb B419.lt) B685.cells.cb)))))))))) K1027, ⟨K668.trans K1027 (fun i hi x => (x.elim (fun y => ((Grew.ok (S := fun _ => False) gr28 noB_le) i hi y)) (fun y => (y.elim (fun y => ((Grew.ok (S := fun _ => False) gr43 noB_le) i hi y)) (fun y => (y.elim (fun y => ((Grew.ok (S := fun _ => False) gr123 noB_le) i hi y)) (fun y => (y.elim (fun y => ((Grew.ok (S := fun _ => False) gr686 noB_le) i hi y)) (fun y => (y.elim (fun y => ((Grew.ok (S := fun _ => False) gr687 noB_le) i hi y)) (fun y => (y.elim (fun y => ((Grew.ok (S := fun _ => False) gr688 noB_le) i hi y)) (fun y => (y.elim (fun y => ((Grew.ok (S := fun _ => False) gr689 noB_le) i hi y)) (fun y => (y.elim (fun y => ((Grew.ok (S := fun _ => False) gr690 noB_le) i hi y)) (fun y => (y.elim (fun y => ((Grew.ok (S := fun _ => False) gr691 noB_le) i hi y)) (fun y => (y.elim (fun y => ((Grew.ok (S := fun _ => False) gr692 noB_le) i hi y)) (fun y => ((Grew.ok (S := fun _ => False) gr693 noB_le) i hi y)))))))))))))))))))))), B1009, B1010, B1011, B1012, (by rw [hX]; exact B1007), B1015, B1022, B1023, (by rw [hX]; assumption)⟩⟩
    ·replace c983 := of_decide_eq_false c983
     refine wq_skip (then_normal ?_)
     have hce : (chAt l K (plN W 0) el.i ((foldQ l K W H pre).at 0)).2.1 = 0 := by first | assumption | (apply Decidable.byContradiction; assumption)
     have hX := fq_ok (l := l) (k := K) hpv hN hce
     have hol := fq_len (l := l) (k := K) pre
     refine wq_region (wl_v V rfl rfl (y_load_cel rfl s972 Tryz.underlying32 B857 rfl rr) (wl_v (.agg (chW (rcP l K (plN W 0) (el.i) ⟨(((foldQ l K W H pre).f 0).1), (((foldQ l K W H pre).f 0).2), ((foldQ l K W H pre).s)⟩)).toArray) rfl rfl (y_load_stc stcT_choice rfl s980 hY843 rr) (wl_builtRo (r := rCh) (xs := [.tmp 46]) (vs := [.agg (chW (rcP l K (plN W 0) (el.i) ⟨(((foldQ l K W H pre).f 0).1), (((foldQ l K W H pre).f 0).2), ((foldQ l K W H pre).s)⟩)).toArray]) (l := [rcP l K (plN W 0) (el.i) ⟨(((foldQ l K W H pre).f 0).1), (((foldQ l K W H pre).f 0).2), ((foldQ l K W H pre).s)⟩]) rfl rfl rfl rfl rfl (vsC rfl vsN) rfl (by first | decide | exact Nat.le_of_ble_eq_true rfl) (by first | decide | exact Nat.le_of_ble_eq_true rfl) fun v1033 w1034 T1038 B1036 g1037 k1035 => ?_)))
     have B1059 := B852.all k1035 Apart.none
     have B1060 := B853.all k1035 id
     have B1061 := B854.all k1035 id
     have B1062 := B855.all k1035 id
     have B1063 := B856.all k1035 id
     have B1064 := B857.all k1035 id
     have B1065 := B868.all k1035 Apart.none
     have B1066 := B858.all k1035 id
     have B1067 := B869.all k1035 Apart.none
     have B1068 := B870.all k1035 Apart.none
     have B1069 := B859.all k1035 Apart.none
     have B1070 := B860.all k1035 Apart.none
     have B1071 := B861.all k1035 Apart.none
     have B1072 := B862.all k1035 Apart.none
     have B1073 := B863.all k1035 id
     have B1074 := B864.all k1035 Apart.none
     have B1075 := B865.all k1035 Apart.none
     have K1078 := K867.tr k1035
     refine wl_appendRo (r := rCh) rfl rfl rfl rfl rfl rfl B1075 B1036.roa (by first | omega | (simp; done) | (simp; omega)) fun v1079 w1080 T1084 B1082 g1083 k1081 => ?_
     have gr1085 := Grew.trans (Grew.refl w794 T461) K1078 g1083
     have ap1086 : Apart T1084 T_b := ap785.grew g1083 B1059.live
     have ap1087 : Apart T1084 (onB p1) := ap786.grew g1083 (onB_live B1060.lt)
     have ap1088 : Apart T1084 (onB p10) := ap787.grew g1083 (onB_live B1061.lt)
     have ap1089 : Apart T1084 (onB p21) := ap788.grew g1083 (onB_live B1062.lt)
     have ap1090 : Apart T1084 (onB p36) := ap789.grew g1083 (onB_live B1063.lt)
     have ap1091 : Apart T1084 (onB p116) := ap790.grew g1083 (onB_live B1064.lt)
     have ap1092 : Apart T1084 T849 := (ap891.symm).grew g1083 B1065.live
     have ap1093 : Apart T1084 (onB p168) := ap791.grew g1083 (onB_live B1066.lt)
     have ap1094 : Apart T1084 T850 := (ap907.symm).grew g1083 B1067.live
     have ap1095 : Apart T1084 T851 := (ap923.symm).grew g1083 B1068.live
     have ap1096 : Apart T1084 T457 := (ap751.symm).grew g1083 B1069.live
     have ap1097 : Apart T1084 T458 := (ap763.symm).grew g1083 B1070.live
     have ap1098 : Apart T1084 T459 := (ap774.symm).grew g1083 B1071.live
     have ap1099 : Apart T1084 T460 := (ap784.symm).grew g1083 B1072.live
     have ap1100 : Apart T1084 (onB p320) := ap792.grew g1083 (onB_live B1073.lt)
     have ap1101 : Apart T1084 T403 := ap793.grew g1083 B1074.live
     have B1105 := B1059.all k1081 ap785.symm
     have B1106 := B1060.all k1081 (ap786.symm p1 rfl)
     have B1107 := B1061.all k1081 (ap787.symm p10 rfl)
     have B1108 := B1062.all k1081 (ap788.symm p21 rfl)
     have B1109 := B1063.all k1081 (ap789.symm p36 rfl)
     have B1110 := B1064.all k1081 (ap790.symm p116 rfl)
     have B1111 := B1065.all k1081 ap891
     have B1112 := B1066.all k1081 (ap791.symm p168 rfl)
     have B1113 := B1067.all k1081 ap907
     have B1114 := B1068.all k1081 ap923
     have B1115 := B1069.all k1081 ap751
     have B1116 := B1070.all k1081 ap763
     have B1117 := B1071.all k1081 ap774
     have B1118 := B1072.all k1081 ap784
     have B1119 := B1073.all k1081 (ap792.symm p320 rfl)
     have B1120 := B1074.all k1081 ap793.symm
     have K1124 := K1078.trans k1081 (Grew.ok (S := fun i => (onB p21) i ∨ ((onB p36) i ∨ ((onB p116) i ∨ (T454 i ∨ (T455 i ∨ (T456 i ∨ (T457 i ∨ (T458 i ∨ (T459 i ∨ (T460 i ∨ (T461 i))))))))))) (Grew.refl w794 T461) (fun _ x => Or.inr (Or.inr (Or.inr (Or.inr (Or.inr (Or.inr (Or.inr (Or.inr (Or.inr (Or.inr x)))))))))))
     refine wl_store_cel rfl rfl rfl s972 rfl B1110 B1082.oneC (by kernel_rfl) fun w1125 B1126 k1127 => ?_
     have B1128 := B1105.all k1127 ap124.symm
     have B1129 := B1106.all k1127 (ap125.symm p1 rfl)
     have B1130 := B1107.all k1127 (ap126.symm p10 rfl)
     have B1131 := B1108.all k1127 (ap127.symm p21 rfl)
     have B1132 := B1109.all k1127 (ap128.symm p36 rfl)
     have B1133 := B1111.all k1127 ap883
     have B1134 := B1112.all k1127 (ap181 p168 rfl)
     have B1135 := B1113.all k1127 ap899
     have B1136 := B1114.all k1127 ap915
     have B1137 := B1115.all k1127 ap744
     have B1138 := B1116.all k1127 ap757
     have B1139 := B1117.all k1127 ap769
     have B1140 := B1118.all k1127 ap780
     have B1141 := B1119.all k1127 (ap331 p320 rfl)
     have B1142 := B1120.all k1127 ap428
     have B1146 := B1082.all k1127 ap1091
     have K1147 := K1124.trans k1127 (Grew.ok (S := fun i => (onB p21) i ∨ ((onB p36) i ∨ ((onB p116) i ∨ (T454 i ∨ (T455 i ∨ (T456 i ∨ (T457 i ∨ (T458 i ∨ (T459 i ∨ (T460 i ∨ (T461 i))))))))))) (Grew.refl w794 (onB p116)) (fun _ x => Or.inr (Or.inr (Or.inl x))))
     refine wl_nil fun F1148 hF1149 => ?_
     clear hF1149
     refine in_normal ?_
     exact ⟨CellsB.keeps (CellsB.or B672.cells.cb (CellsB.or B673.cells.cb (CellsB.or B674.cells.cb (CellsB.or B675.cells.cb (CellsB.or (B677.cb B414.lt) (CellsB.or (B678.cb B415.lt) (CellsB.or (B679.cb B416.lt) (CellsB.or (B680.cb B417.lt) (CellsB.or (B681.cb B418.lt) (CellsB.or (B682.cb B419.lt) B685.cells.cb)))))))))) K1147, K1147.mono (fun i hi x => (x.elim (fun y => fun e => ap426.symm i y (by rw [B684.1]; exact e)) (fun y => (y.elim (fun y => fun e => ap427.symm i y (by rw [B684.1]; exact e)) (fun y => (y.elim (fun y => fun e => ap428.symm i y (by rw [B684.1]; exact e)) (fun y => (y.elim (fun y => fun e => ap708 i y (by rw [B684.1]; exact e)) (fun y => (y.elim (fun y => fun e => ap723 i y (by rw [B684.1]; exact e)) (fun y => (y.elim (fun y => fun e => ap737 i y (by rw [B684.1]; exact e)) (fun y => (y.elim (fun y => fun e => ap750 i y (by rw [B684.1]; exact e)) (fun y => (y.elim (fun y => fun e => ap762 i y (by rw [B684.1]; exact e)) (fun y => (y.elim (fun y => fun e => ap773 i y (by rw [B684.1]; exact e)) (fun y => (y.elim (fun y => fun e => ap783 i y (by rw [B684.1]; exact e)) (fun y => (fun e => ap793 i y (by rw [B684.1]; exact e))))))))))))))))))))))), ⟨v1079, T849, T850, T851, T457, T458, T459, T460, T1084, (hX.2.2.2.2), K668.trans K1147 (fun i hi x => (x.elim (fun y => ((Grew.ok (S := fun _ => False) gr28 noB_le) i hi y)) (fun y => (y.elim (fun y => ((Grew.ok (S := fun _ => False) gr43 noB_le) i hi y)) (fun y => (y.elim (fun y => ((Grew.ok (S := fun _ => False) gr123 noB_le) i hi y)) (fun y => (y.elim (fun y => ((Grew.ok (S := fun _ => False) gr686 noB_le) i hi y)) (fun y => (y.elim (fun y => ((Grew.ok (S := fun _ => False) gr687 noB_le) i hi y)) (fun y => (y.elim (fun y => ((Grew.ok (S := fun _ => False) gr688 noB_le) i hi y)) (fun y => (y.elim (fun y => ((Grew.ok (S := fun _ => False) gr689 noB_le) i hi y)) (fun y => (y.elim (fun y => ((Grew.ok (S := fun _ => False) gr690 noB_le) i hi y)) (fun y => (y.elim (fun y => ((Grew.ok (S := fun _ => False) gr691 noB_le) i hi y)) (fun y => (y.elim (fun y => ((Grew.ok (S := fun _ => False) gr692 noB_le) i hi y)) (fun y => ((Grew.ok (S := fun _ => False) gr693 noB_le) i hi y)))))))))))))))))))))), B1128, B1129, B1130, B1131, B1132, B1126, (by rw [hX.1]; exact B1133), B1134, (by first | (rw [hX.2.2.1]; exact B1135) | (rw [hX.2.2.2.1 0 (by decide)]; exact B1135)), (by first | (rw [hX.2.2.1]; exact B1136) | (rw [hX.2.2.2.1 0 (by decide)]; exact B1136)), (by first | (rw [hX.2.2.1]; exact B1137) | (rw [hX.2.2.2.1 1 (by decide)]; exact B1137)), (by first | (rw [hX.2.2.1]; exact B1138) | (rw [hX.2.2.2.1 1 (by decide)]; exact B1138)), (by first | (rw [hX.2.2.1]; exact B1139) | (rw [hX.2.2.2.1 2 (by decide)]; exact B1139)), (by first | (rw [hX.2.2.1]; exact B1140) | (rw [hX.2.2.2.1 2 (by decide)]; exact B1140)), B1141, B1142, (by rw [hX.2.1]; exact B1146), gr686.trans K668 gr877, gr687.trans K668 gr893, gr688.trans K668 gr909, gr689.trans K668 (Grew.refl w794 T457), gr690.trans K668 (Grew.refl w794 T458), gr691.trans K668 (Grew.refl w794 T459), gr692.trans K668 (Grew.refl w794 T460), gr693.trans K668 gr1085, ap878, ap879, ap880, ap881, ap882, ap883, ap884, ap874, ap875, ap885, ap886, ap887, ap888, ap889, ap890, ap1092.symm, ap894, ap895, ap896, ap897, ap898, ap899, ap900, ap876, ap901, ap902, ap903, ap904, ap905, ap906, ap1094.symm, ap910, ap911, ap912, ap913, ap914, ap915, ap916, ap917, ap918, ap919, ap920, ap921, ap922, ap1095.symm, ap739, ap740, ap741, ap742, ap743, ap744, ap745, ap746, ap747, ap748, ap749, ap750, ap1096.symm, ap752, ap753, ap754, ap755, ap756, ap757, ap758, ap759, ap760, ap761, ap762, ap1097.symm, ap764, ap765, ap766, ap767, ap768, ap769, ap770, ap771, ap772, ap773, ap1098.symm, ap775, ap776, ap777, ap778, ap779, ap780, ap781, ap782, ap783, ap1099.symm, ap1086, ap1087, ap1088, ap1089, ap1090, ap1091, ap1093, ap1100, ap1101⟩⟩
   ·skip
    have B1169 : Stc w794 p796 65 [iv ((1 : Nat) : Int), iv (pX (plN W 1) el.i), iv (pY (plN W 1) el.i)] := by have h_ := B813; rw [hpv] at h_; exact h_
    have hwp := plN_pos' (W := W) (p := 1) hsd.1
    have hwl := plN_le (W := W) (p := 1) hsd.2.1
    have hwh := plN_le (W := H) (p := 1) hsd.2.2.2.2.1
    have hwn : plN W 1 * plN H 1 ≤ 16 * 16 := Nat.mul_le_mul hwl hwh
    rw [hpv] at hei
    refine wq_cas (γ := (Nat → Prop) × (Nat → Prop) × (Nat → Prop)) [(9, 8), (10, 8), (11, 8), (13, 8), (14, 8), (13, 12), (14, 12)] [some 31, some 32, some 33, some 34, some 35, some 36, some 37, some 38, some 39, some 30, some 40, some 41, some 14, none, some 15] ⟨fun w_ => Rdi w_ T454 v148 l ((foldQ l K W H pre).s) ∧ Vpm w_ T457 v218 c392 (((foldQ l K W H pre).f 1).1) ∧ Vpm w_ T458 v219 c394 (((foldQ l K W H pre).f 1).2), fun i => T454 i ∨ (T457 i ∨ (T458 i)), fun g_ w_ => (Rdi w_ (g_.1) v148 l ((stP l K (plN W 1) (el.i) ⟨(((foldQ l K W H pre).f 1).1), (((foldQ l K W H pre).f 1).2), ((foldQ l K W H pre).s)⟩).s) ∧ Grew w794 T454 (g_.1)) ∧ (Vpm w_ (g_.2.1) v218 c392 ((stP l K (plN W 1) (el.i) ⟨(((foldQ l K W H pre).f 1).1), (((foldQ l K W H pre).f 1).2), ((foldQ l K W H pre).s)⟩).a) ∧ Grew w794 T457 (g_.2.1)) ∧ (Vpm w_ (g_.2.2) v219 c394 ((stP l K (plN W 1) (el.i) ⟨(((foldQ l K W H pre).f 1).1), (((foldQ l K W H pre).f 1).2), ((foldQ l K W H pre).s)⟩).b) ∧ Grew w794 T458 (g_.2.2)) ∧ Apart (g_.1) (g_.2.1) ∧ Apart (g_.1) (g_.2.2) ∧ Apart (g_.2.1) (g_.2.2), fun g_ => fun i => (g_.1) i ∨ ((g_.2.1) i ∨ ((g_.2.2) i)), fun p_ w_ => Stc w_ p_ 71 (chL 0 0 0 0 0 (fun _ => (0 : Int))), fun g_ p_ w_ => Stc w_ p_ 71 (chW (rcP l K (plN W 1) (el.i) ⟨(((foldQ l K W H pre).f 1).1), (((foldQ l K W H pre).f 1).2), ((foldQ l K W H pre).s)⟩))⟩ (fun i => T454 i ∨ (T457 i ∨ (T458 i))) (fun p_ => w794.heap.size ≤ p_) [fun g_ => pt v148 0, fun g_ => pt p10 0, fun g_ => iv K, fun g_ => pt p796 0, fun g_ => iv ((1 : Nat) : Int), fun g_ => pt p320 2, fun g_ => .agg #[v218, v219], fun g_ => .agg #[iv ((1 : Nat) : Int), iv (pX (plN W 1) el.i), iv (pY (plN W 1) el.i)], fun g_ => .tuple #[.agg (chW (rcP l K (plN W 1) (el.i) ⟨(((foldQ l K W H pre).f 1).1), (((foldQ l K W H pre).f 1).2), ((foldQ l K W H pre).s)⟩)).toArray, iv ((chAt l K (plN W 1) (el.i) ⟨(((foldQ l K W H pre).f 1).1), (((foldQ l K W H pre).f 1).2), ((foldQ l K W H pre).s)⟩).2.1)], fun g_ => .tuple #[.agg (chW (rcP l K (plN W 1) (el.i) ⟨(((foldQ l K W H pre).f 1).1), (((foldQ l K W H pre).f 1).2), ((foldQ l K W H pre).s)⟩)).toArray, iv ((chAt l K (plN W 1) (el.i) ⟨(((foldQ l K W H pre).f 1).1), (((foldQ l K W H pre).f 1).2), ((foldQ l K W H pre).s)⟩).2.1)], fun g_ => .agg (chW (rcP l K (plN W 1) (el.i) ⟨(((foldQ l K W H pre).f 1).1), (((foldQ l K W H pre).f 1).2), ((foldQ l K W H pre).s)⟩)).toArray, fun g_ => iv ((chAt l K (plN W 1) (el.i) ⟨(((foldQ l K W H pre).f 1).1), (((foldQ l K W H pre).f 1).2), ((foldQ l K W H pre).s)⟩).2.1), fun _ => undef, fun _ => undef, fun g_ => iv ((chAt l K (plN W 1) (el.i) ⟨(((foldQ l K W H pre).f 1).1), (((foldQ l K W H pre).f 1).2), ((foldQ l K W H pre).s)⟩).2.1)] 8 13 (some 12) (noB, noB, noB) 0 (by kernel_rfl) (by kernel_rfl) (by kernel_rfl) (by kernel_rfl) ⟨.inr (.inr fun _ _ => rfl), ⟨.inr (.inr fun _ _ => rfl), ⟨.inr (.inr fun _ _ => rfl), ⟨.inr (.inr fun _ _ => rfl), ⟨.inr (.inr fun _ _ => rfl), ⟨.inr (.inr fun _ _ => rfl), ⟨.inr (.inr fun _ _ => rfl), ⟨.inr (.inr fun _ _ => rfl), ⟨.inr (.inl rfl), ⟨.inl rfl, ⟨.inl rfl, ⟨.inl rfl, ⟨.inr (.inr fun _ _ => rfl), ⟨.inl rfl, ⟨.inl rfl, trivial⟩⟩⟩⟩⟩⟩⟩⟩⟩⟩⟩⟩⟩⟩⟩ ⟨⟨B675, B679, B680⟩, fun w w1 S1 h k a => by obtain ⟨h0_, h1_, h2_⟩ := h; exact ⟨h0_.all k (fun i z => a i (Or.inl z)), h1_.all k (fun i z => a i (Or.inr (Or.inl z))), h2_.all k (fun i z => a i (Or.inr (Or.inr z)))⟩, fun w h i z => by obtain ⟨h0_, h1_, h2_⟩ := h; rcases z with z | z | z <;> first | exact h0_.live i z | exact h1_.live i z | exact h2_.live i z, fun g w w1 S1 h k a => by obtain ⟨⟨b0_, g0_⟩, ⟨b1_, g1_⟩, ⟨b2_, g2_⟩, a0_1_, a0_2_, a1_2_⟩ := h; exact ⟨⟨b0_.all k (fun i z => a i (Or.inl z)), g0_⟩, ⟨b1_.all k (fun i z => a i (Or.inr (Or.inl z))), g1_⟩, ⟨b2_.all k (fun i z => a i (Or.inr (Or.inr z))), g2_⟩, a0_1_, a0_2_, a1_2_⟩, fun g w h i z => by obtain ⟨⟨b0_, g0_⟩, ⟨b1_, g1_⟩, ⟨b2_, g2_⟩, a0_1_, a0_2_, a1_2_⟩ := h; rcases z with z | z | z <;> first | exact b0_.live i z | exact b1_.live i z | exact b2_.live i z, fun _ _ _ _ h k z => h.all k z, fun _ _ h => h.lt, fun _ _ _ _ _ h k z => h.all k z, fun _ z => z, fun _ h => .inr h, fun p h z => by rcases z with z | z | z <;> first | exact absurd h (Nat.not_le.2 (B675.live p z)) | exact absurd h (Nat.not_le.2 (B679.live p z)) | exact absurd h (Nat.not_le.2 (B680.live p z))⟩ (fun _ _ _ h => h) (fun e => by cases e) ?_ ?_
    ·refine stepsFX_cons ?_ ?_
     ·refine StepFX.one rfl rfl rfl rfl fun g_ p_ F_ w_ hR hout hD => ?_
      exact (y_load_cel rfl ((hout 10 rfl (by decide)).trans s806) Tryz.underlying54 (B676.all hR (fun x => (x.elim (fun y => ((ap700.symm) p168 rfl y)) (fun y => (y.elim (fun y => ((ap745.symm) p168 rfl y)) (fun y => ((ap758.symm) p168 rfl y))))))) rfl ⟨rfl, Kept.refl _ _⟩)
     refine stepsFX_cons ?_ ?_
     ·refine StepFX.one rfl rfl rfl rfl fun g_ p_ F_ w_ hR hout hD => ?_
      exact (y_fieldR (n := 1) rfl ((hout 4 rfl (by decide)).trans s801) Tryz.underlying25 rfl (by kernel_rfl) (by decide) rfl ⟨rfl, Kept.refl _ _⟩)
     refine stepsFX_cons ?_ ?_
     ·refine StepFX.one rfl rfl rfl rfl fun g_ p_ F_ w_ hR hout hD => ?_
      have g32 : F_ 32 = pt p10 0 := (hD.get 0 rfl rfl rfl).2 (by decide)
      exact (y_ld_stc rfl g32 Tryz.underlying3 (B671.all hR (fun x => (x.elim (fun y => ((ap696.symm) p10 rfl y)) (fun y => (y.elim (fun y => ((ap741.symm) p10 rfl y)) (fun y => ((ap754.symm) p10 rfl y))))))) rfl rfl ⟨rfl, Kept.refl _ _⟩)
     refine stepsFX_cons ?_ ?_
     ·refine StepFX.one rfl rfl rfl rfl fun g_ p_ F_ w_ hR hout hD => ?_
      exact (y_fieldR (n := 1) rfl ((hout 13 rfl (by decide)).trans s808) Tryz.underlying65 rfl (by kernel_rfl) (by decide) rfl ⟨rfl, Kept.refl _ _⟩)
     refine stepsFX_cons ?_ ?_
     ·refine StepFX.one rfl rfl rfl rfl fun g_ p_ F_ w_ hR hout hD => ?_
      have g34 : F_ 34 = pt p796 0 := (hD.get 0 rfl rfl rfl).2 (by decide)
      exact (y_ld_stc rfl g34 Tryz.underlying3 (B1169.all hR (fun x => (x.elim (fun y => (ap824 p796 rfl y)) (fun y => (y.elim (fun y => (ap827 p796 rfl y)) (fun y => (ap828 p796 rfl y))))))) rfl rfl ⟨rfl, Kept.refl _ _⟩)
     refine stepsFX_cons ?_ ?_
     ·refine StepFX.one rfl rfl rfl rfl fun g_ p_ F_ w_ hR hout hD => ?_
      have g35 : F_ 35 = iv ((1 : Nat) : Int) := (hD.get 0 rfl rfl rfl).2 (by decide)
      exact (y_atR 1 (s := 2) rfl ((hout 11 rfl (by decide)).trans s807) g35 (by omega) Tryz.underlying59 (by omega) (by kernel_rfl) (by omega) ⟨rfl, Kept.refl _ _⟩)
     refine stepsFX_cons ?_ ?_
     ·refine StepFX.one rfl rfl rfl rfl fun g_ p_ F_ w_ hR hout hD => ?_
      have g36 : F_ 36 = pt p320 2 := (hD.get 0 rfl rfl rfl).2 (by decide)
      exact (y_ldPart (n := 2) stcT_pfs rfl g36 (B683.all hR (fun x => (x.elim (fun y => ((ap707.symm) p320 rfl y)) (fun y => (y.elim (fun y => ((ap749.symm) p320 rfl y)) (fun y => ((ap761.symm) p320 rfl y))))))) (Nat.le_of_ble_eq_true rfl) rfl ⟨rfl, Kept.refl _ _⟩)
     refine stepsFX_cons ?_ ?_
     ·refine StepFX.one rfl rfl rfl rfl fun g_ p_ F_ w_ hR hout hD => ?_
      exact (y_load_stc stcT_spot rfl ((hout 13 rfl (by decide)).trans s808) (B1169.all hR (fun x => (x.elim (fun y => (ap824 p796 rfl y)) (fun y => (y.elim (fun y => (ap827 p796 rfl y)) (fun y => (ap828 p796 rfl y))))))) ⟨rfl, Kept.refl _ _⟩)
     refine stepsFX_cons ?_ ?_
     ·refine StepFX.call rfl rfl rfl rfl fun g_ p_ F_ w_ hR hout hD hP_ => ?_
      have g31 : F_ 31 = pt v148 0 := (hD.get 0 rfl rfl rfl).2 (by decide)
      have g33 : F_ 33 = iv K := (hD.get 1 rfl rfl rfl).2 (by decide)
      have g37 : F_ 37 = .agg #[v218, v219] := (hD.get 2 rfl rfl rfl).2 (by decide)
      have g38 : F_ 38 = .agg #[iv ((1 : Nat) : Int), iv (pX (plN W 1) el.i), iv (pY (plN W 1) el.i)] := (hD.get 3 rfl rfl rfl).2 (by decide)
      exact (y_cs rfl rfl rfl (fun _ _ => by kernel_rfl) (ev_func _) (vsC g31 (vsC g33 (vsC g37 (vsC g38 vsN)))) (pc_read v148 l ((foldQ l K W H pre).s) K ((1 : Nat) : Int) (plN W 1) (el.i) v218 v219 c392 c394 (((foldQ l K W H pre).f 1).1) (((foldQ l K W H pre).f 1).2) T454 T457 T458 _ (hA2.but hR (by rintro i (h | h | h) <;> first | exact hab0 _ h | exact hab1 _ h | exact hab2 _ h | exact hab3 _ h | exact hab4 _ h | exact hab5 _ h | exact hab6 _ h | exact hab7 _ h)) (hO2.but hR (ovO (by rintro i (h | h | h) <;> first | exact hab0 _ h | exact hab1 _ h | exact hab2 _ h | exact hab3 _ h | exact hab4 _ h | exact hab5 _ h | exact hab6 _ h | exact hab7 _ h))) (by first | exact hab0 | exact hab1 | exact hab2 | exact hab3 | exact hab4 | exact hab5 | exact hab6 | exact hab7) (by first | exact hab0 | exact hab1 | exact hab2 | exact hab3 | exact hab4 | exact hab5 | exact hab6 | exact hab7) (by first | exact hab0 | exact hab1 | exact hab2 | exact hab3 | exact hab4 | exact hab5 | exact hab6 | exact hab7) hwp hwl (by omega) hP_.1 hP_.2.1 hP_.2.2 ap703 ap704 ap746) (fun e_ w_ h_ => by obtain ⟨x0_, x1_, x2_, he_, hk_, ⟨b0_, g0_⟩, ⟨b1_, g1_⟩, ⟨b2_, g2_⟩, a0_1_, a0_2_, a1_2_⟩ := h_; exact ⟨_, he_, ⟨x0_, x1_, x2_⟩, rfl, hk_, ⟨⟨b0_, (Grew.refl w794 _).trans hR g0_⟩, ⟨b1_, (Grew.refl w794 _).trans hR g1_⟩, ⟨b2_, (Grew.refl w794 _).trans hR g2_⟩, a0_1_, a0_2_, a1_2_⟩, fun b hb => by rcases hb with hb | hb | hb <;> first | exact (g0_ b hb).elim (fun z => .inl (Or.inl z)) .inr | exact (g1_ b hb).elim (fun z => .inl (Or.inr (Or.inl z))) .inr | exact (g2_ b hb).elim (fun z => .inl (Or.inr (Or.inr z))) .inr⟩))
     refine stepsFX_cons ?_ ?_
     ·refine StepFX.one rfl rfl rfl rfl fun g_ p_ F_ w_ hR hout hD => ?_
      have g39 : F_ 39 = .tuple #[.agg (chW (rcP l K (plN W 1) (el.i) ⟨(((foldQ l K W H pre).f 1).1), (((foldQ l K W H pre).f 1).2), ((foldQ l K W H pre).s)⟩)).toArray, iv ((chAt l K (plN W 1) (el.i) ⟨(((foldQ l K W H pre).f 1).1), (((foldQ l K W H pre).f 1).2), ((foldQ l K W H pre).s)⟩).2.1)] := (hD.get 0 rfl rfl rfl).2 (by decide)
      exact (y_mov rfl g39 ⟨rfl, Kept.refl _ _⟩)
     refine stepsFX_cons ?_ ?_
     ·refine StepFX.one rfl rfl rfl rfl fun g_ p_ F_ w_ hR hout hD => ?_
      have g30 : F_ 30 = .tuple #[.agg (chW (rcP l K (plN W 1) (el.i) ⟨(((foldQ l K W H pre).f 1).1), (((foldQ l K W H pre).f 1).2), ((foldQ l K W H pre).s)⟩)).toArray, iv ((chAt l K (plN W 1) (el.i) ⟨(((foldQ l K W H pre).f 1).1), (((foldQ l K W H pre).f 1).2), ((foldQ l K W H pre).s)⟩).2.1)] := (hD.get 0 rfl rfl rfl).2 (by decide)
      exact (y_ext rfl g30 rfl ⟨rfl, Kept.refl _ _⟩)
     refine stepsFX_cons ?_ ?_
     ·refine StepFX.one rfl rfl rfl rfl fun g_ p_ F_ w_ hR hout hD => ?_
      have g30 : F_ 30 = .tuple #[.agg (chW (rcP l K (plN W 1) (el.i) ⟨(((foldQ l K W H pre).f 1).1), (((foldQ l K W H pre).f 1).2), ((foldQ l K W H pre).s)⟩)).toArray, iv ((chAt l K (plN W 1) (el.i) ⟨(((foldQ l K W H pre).f 1).1), (((foldQ l K W H pre).f 1).2), ((foldQ l K W H pre).s)⟩).2.1)] := (hD.get 0 rfl rfl rfl).2 (by decide)
      exact (y_ext rfl g30 rfl ⟨rfl, Kept.refl _ _⟩)
     refine stepsFX_cons ?_ ?_
     ·refine StepFX.alloc rfl rfl rfl rfl fun F_ w_ hR => ?_
      exact y_alloc_stc (n := 21) (vs := (chL 0 0 0 0 0 (fun _ => (0 : Int)))) rfl (by kernel_rfl) ⟨_, rfl, Nat.le_refl _, heap_alloc_new _ _, (Kept.refl _ _).alloc _⟩
     refine stepsFX_cons ?_ ?_
     ·refine StepFX.store rfl rfl rfl rfl fun g_ p_ F_ w_ hR hout hD hO_ hZ_ hQ_ => ?_
      have g14 : F_ 14 = pt p_ 0 := (hD.get 0 rfl rfl rfl).1 rfl
      have g40 : F_ 40 = .agg (chW (rcP l K (plN W 1) (el.i) ⟨(((foldQ l K W H pre).f 1).1), (((foldQ l K W H pre).f 1).2), ((foldQ l K W H pre).s)⟩)).toArray := (hD.get 1 rfl rfl rfl).2 (by decide)
      exact y_storeStc (us := (chW (rcP l K (plN W 1) (el.i) ⟨(((foldQ l K W H pre).f 1).1), (((foldQ l K W H pre).f 1).2), ((foldQ l K W H pre).s)⟩))) stcT_choice rfl g14 g40 hZ_ rfl (oneI rfl (oneI rfl (oneI rfl (oneI rfl (oneI rfl (oneI rfl (oneI rfl (oneI rfl (oneI rfl (oneI rfl (oneI rfl (oneI rfl (oneI rfl (oneI rfl (oneI rfl (oneI rfl (oneI rfl (oneI rfl (oneI rfl (oneI rfl (oneI rfl oneN))))))))))))))))))))) fun w2_ b_ k_ => ⟨rfl, k_, b_⟩
     refine stepsFX_cons ?_ ?_
     ·refine StepFX.one rfl rfl rfl rfl fun g_ p_ F_ w_ hR hout hD => ?_
      have g41 : F_ 41 = iv ((chAt l K (plN W 1) (el.i) ⟨(((foldQ l K W H pre).f 1).1), (((foldQ l K W H pre).f 1).2), ((foldQ l K W H pre).s)⟩).2.1) := (hD.get 0 rfl rfl rfl).2 (by decide)
      exact (y_asg rfl g41 ⟨rfl, Kept.refl _ _⟩)
     exact stepsFX_nil
    intro gg1171 p1172 v1173 F1174 w1175 k1176 hp1177 hQ1178 hG1179 hY1180 hN1181 hA1182 hV1183 hF1184
    obtain ⟨T1186, T1187, T1188⟩ := gg1171
    have B1189 := B669.all k1176 (fun i h x => (x.elim (fun y => ((ap694.symm) i h y)) (fun y => (y.elim (fun y => ((ap739.symm) i h y)) (fun y => ((ap752.symm) i h y))))))
    have B1190 := B670.all k1176 (fun x => (x.elim (fun y => ((ap695.symm) p1 rfl y)) (fun y => (y.elim (fun y => ((ap740.symm) p1 rfl y)) (fun y => ((ap753.symm) p1 rfl y))))))
    have B1191 := B671.all k1176 (fun x => (x.elim (fun y => ((ap696.symm) p10 rfl y)) (fun y => (y.elim (fun y => ((ap741.symm) p10 rfl y)) (fun y => ((ap754.symm) p10 rfl y))))))
    have B1192 := B672.all k1176 (fun x => (x.elim (fun y => ((ap697.symm) p21 rfl y)) (fun y => (y.elim (fun y => ((ap742.symm) p21 rfl y)) (fun y => ((ap755.symm) p21 rfl y))))))
    have B1193 := B673.all k1176 (fun x => (x.elim (fun y => ((ap698.symm) p36 rfl y)) (fun y => (y.elim (fun y => ((ap743.symm) p36 rfl y)) (fun y => ((ap756.symm) p36 rfl y))))))
    have B1194 := B674.all k1176 (fun x => (x.elim (fun y => ((ap699.symm) p116 rfl y)) (fun y => (y.elim (fun y => ((ap744.symm) p116 rfl y)) (fun y => ((ap757.symm) p116 rfl y))))))
    have B1195 := B676.all k1176 (fun x => (x.elim (fun y => ((ap700.symm) p168 rfl y)) (fun y => (y.elim (fun y => ((ap745.symm) p168 rfl y)) (fun y => ((ap758.symm) p168 rfl y))))))
    have B1196 := B677.all k1176 (fun i h x => (x.elim (fun y => ((ap701.symm) i h y)) (fun y => (y.elim (fun y => (ap718 i h y)) (fun y => (ap719 i h y))))))
    have B1197 := B678.all k1176 (fun i h x => (x.elim (fun y => ((ap702.symm) i h y)) (fun y => (y.elim (fun y => (ap732 i h y)) (fun y => (ap733 i h y))))))
    have B1198 := B681.all k1176 (fun i h x => (x.elim (fun y => ((ap705.symm) i h y)) (fun y => (y.elim (fun y => ((ap747.symm) i h y)) (fun y => ((ap759.symm) i h y))))))
    have B1199 := B682.all k1176 (fun i h x => (x.elim (fun y => ((ap706.symm) i h y)) (fun y => (y.elim (fun y => ((ap748.symm) i h y)) (fun y => ((ap760.symm) i h y))))))
    have B1200 := B683.all k1176 (fun x => (x.elim (fun y => ((ap707.symm) p320 rfl y)) (fun y => (y.elim (fun y => ((ap749.symm) p320 rfl y)) (fun y => ((ap761.symm) p320 rfl y))))))
    have B1201 := B684.all k1176 (fun i h x => (x.elim (fun y => ((ap708.symm) i h y)) (fun y => (y.elim (fun y => ((ap750.symm) i h y)) (fun y => ((ap762.symm) i h y))))))
    have B1202 := B685.all k1176 (fun i h x => (x.elim (fun y => ((ap709.symm) i h y)) (fun y => (y.elim (fun y => ((ap751.symm) i h y)) (fun y => ((ap763.symm) i h y))))))
    have K1204 := K823.trans k1176 (fun i hi x => (x.elim (fun y => ((Grew.ok (S := fun i => (onB p21) i ∨ ((onB p36) i ∨ ((onB p116) i ∨ (T454 i ∨ (T455 i ∨ (T456 i ∨ (T457 i ∨ (T458 i ∨ (T459 i ∨ (T460 i ∨ (T461 i))))))))))) (Grew.refl w794 T454) (fun _ x => Or.inr (Or.inr (Or.inr (Or.inl x))))) i hi y)) (fun y => (y.elim (fun y => ((Grew.ok (S := fun i => (onB p21) i ∨ ((onB p36) i ∨ ((onB p116) i ∨ (T454 i ∨ (T455 i ∨ (T456 i ∨ (T457 i ∨ (T458 i ∨ (T459 i ∨ (T460 i ∨ (T461 i))))))))))) (Grew.refl w794 T457) (fun _ x => Or.inr (Or.inr (Or.inr (Or.inr (Or.inr (Or.inr (Or.inl x)))))))) i hi y)) (fun y => ((Grew.ok (S := fun i => (onB p21) i ∨ ((onB p36) i ∨ ((onB p116) i ∨ (T454 i ∨ (T455 i ∨ (T456 i ∨ (T457 i ∨ (T458 i ∨ (T459 i ∨ (T460 i ∨ (T461 i))))))))))) (Grew.refl w794 T458) (fun _ x => Or.inr (Or.inr (Or.inr (Or.inr (Or.inr (Or.inr (Or.inr (Or.inl x))))))))) i hi y))))))
    obtain ⟨⟨B1205, g1208⟩, ⟨B1206, g1209⟩, ⟨B1207, g1210⟩, ap1211, ap1212, ap1213⟩ := hQ1178
    replace B1205 : Rdi w1175 T1186 v148 l ((stP l K (plN W 1) (el.i) ⟨(((foldQ l K W H pre).f 1).1), (((foldQ l K W H pre).f 1).2), ((foldQ l K W H pre).s)⟩).s) := B1205
    replace B1206 : Vpm w1175 T1187 v218 c392 ((stP l K (plN W 1) (el.i) ⟨(((foldQ l K W H pre).f 1).1), (((foldQ l K W H pre).f 1).2), ((foldQ l K W H pre).s)⟩).a) := B1206
    replace B1207 : Vpm w1175 T1188 v219 c394 ((stP l K (plN W 1) (el.i) ⟨(((foldQ l K W H pre).f 1).1), (((foldQ l K W H pre).f 1).2), ((foldQ l K W H pre).s)⟩).b) := B1207
    replace g1208 : Grew w794 T454 T1186 := g1208
    replace g1209 : Grew w794 T457 T1187 := g1209
    replace g1210 : Grew w794 T458 T1188 := g1210
    replace ap1211 : Apart T1186 T1187 := ap1211
    replace ap1212 : Apart T1186 T1188 := ap1212
    replace ap1213 : Apart T1187 T1188 := ap1213
    have gr1214 := (Grew.refl w794 T454).trans K823 g1208
    have ap1215 : Apart T1186 T_b := ap694.grew g1208 B669.live
    have ap1216 : Apart T1186 (onB p1) := ap695.grew g1208 (onB_live B670.lt)
    have ap1217 : Apart T1186 (onB p10) := ap696.grew g1208 (onB_live B671.lt)
    have ap1218 : Apart T1186 (onB p21) := ap697.grew g1208 (onB_live B672.lt)
    have ap1219 : Apart T1186 (onB p36) := ap698.grew g1208 (onB_live B673.lt)
    have ap1220 : Apart T1186 (onB p116) := ap699.grew g1208 (onB_live B674.lt)
    have ap1221 : Apart T1186 (onB p168) := ap700.grew g1208 (onB_live B676.lt)
    have ap1222 : Apart T1186 T455 := ap701.grew g1208 B677.live
    have ap1223 : Apart T1186 T456 := ap702.grew g1208 B678.live
    have ap1224 : Apart T1186 T459 := ap705.grew g1208 B681.live
    have ap1225 : Apart T1186 T460 := ap706.grew g1208 B682.live
    have ap1226 : Apart T1186 (onB p320) := ap707.grew g1208 (onB_live B683.lt)
    have ap1227 : Apart T1186 T403 := ap708.grew g1208 B684.live
    have ap1228 : Apart T1186 T461 := ap709.grew g1208 B685.live
    have gr1230 := (Grew.refl w794 T457).trans K823 g1209
    have ap1231 : Apart T1187 T_b := ap739.grew g1209 B669.live
    have ap1232 : Apart T1187 (onB p1) := ap740.grew g1209 (onB_live B670.lt)
    have ap1233 : Apart T1187 (onB p10) := ap741.grew g1209 (onB_live B671.lt)
    have ap1234 : Apart T1187 (onB p21) := ap742.grew g1209 (onB_live B672.lt)
    have ap1235 : Apart T1187 (onB p36) := ap743.grew g1209 (onB_live B673.lt)
    have ap1236 : Apart T1187 (onB p116) := ap744.grew g1209 (onB_live B674.lt)
    have ap1237 : Apart T1187 (onB p168) := ap745.grew g1209 (onB_live B676.lt)
    have ap1238 : Apart T1187 T455 := (ap718.symm).grew g1209 B677.live
    have ap1239 : Apart T1187 T456 := (ap732.symm).grew g1209 B678.live
    have ap1240 : Apart T1187 T459 := ap747.grew g1209 B681.live
    have ap1241 : Apart T1187 T460 := ap748.grew g1209 B682.live
    have ap1242 : Apart T1187 (onB p320) := ap749.grew g1209 (onB_live B683.lt)
    have ap1243 : Apart T1187 T403 := ap750.grew g1209 B684.live
    have ap1244 : Apart T1187 T461 := ap751.grew g1209 B685.live
    have gr1246 := (Grew.refl w794 T458).trans K823 g1210
    have ap1247 : Apart T1188 T_b := ap752.grew g1210 B669.live
    have ap1248 : Apart T1188 (onB p1) := ap753.grew g1210 (onB_live B670.lt)
    have ap1249 : Apart T1188 (onB p10) := ap754.grew g1210 (onB_live B671.lt)
    have ap1250 : Apart T1188 (onB p21) := ap755.grew g1210 (onB_live B672.lt)
    have ap1251 : Apart T1188 (onB p36) := ap756.grew g1210 (onB_live B673.lt)
    have ap1252 : Apart T1188 (onB p116) := ap757.grew g1210 (onB_live B674.lt)
    have ap1253 : Apart T1188 (onB p168) := ap758.grew g1210 (onB_live B676.lt)
    have ap1254 : Apart T1188 T455 := (ap719.symm).grew g1210 B677.live
    have ap1255 : Apart T1188 T456 := (ap733.symm).grew g1210 B678.live
    have ap1256 : Apart T1188 T459 := ap759.grew g1210 B681.live
    have ap1257 : Apart T1188 T460 := ap760.grew g1210 B682.live
    have ap1258 : Apart T1188 (onB p320) := ap761.grew g1210 (onB_live B683.lt)
    have ap1259 : Apart T1188 T403 := ap762.grew g1210 B684.live
    have ap1260 : Apart T1188 T461 := ap763.grew g1210 B685.live
    replace hY1180 : Stc w1175 p1172 71 (chW (rcP l K (plN W 1) (el.i) ⟨(((foldQ l K W H pre).f 1).1), (((foldQ l K W H pre).f 1).2), ((foldQ l K W H pre).s)⟩)) := hY1180
    obtain ⟨s1286, s1287, s1289⟩ := t3 hF1184 6 s802 7 s803 9 s805
    have s1297 : F1174 14 = pt p1172 0 := (hF1184 14).trans (hA1182 12 rfl)
    have s1298 : F1174 15 = iv ((chAt l K (plN W 1) (el.i) ⟨(((foldQ l K W H pre).f 1).1), (((foldQ l K W H pre).f 1).2), ((foldQ l K W H pre).s)⟩).2.1) := (hF1184 15).trans (hV1183 14 (by decide) (by decide))
    clear hF1184 hV1183 hA1182 hN1181 hG1179
    refine then_normal (wq_seq (wq_seq (wq_region (wl_mv rfl rfl rfl s1298 (wl_v (.bool (decide (((chAt l K (plN W 1) (el.i) ⟨(((foldQ l K W H pre).f 1).1), (((foldQ l K W H pre).f 1).2), ((foldQ l K W H pre).s)⟩).2.1) ≠ 0))) rfl rfl (y_neqI rfl rfl rfl rfl rr) (wl_nil fun F1299 hF1300 => ?_))))))
    obtain ⟨s1306, s1307, s1309, s1317, s1318⟩ := t5 hF1300 6 s1286 7 s1287 9 s1289 14 s1297 15 s1298
    have s1319 : F1299 43 = .bool (decide (((chAt l K (plN W 1) (el.i) ⟨(((foldQ l K W H pre).f 1).1), (((foldQ l K W H pre).f 1).2), ((foldQ l K W H pre).s)⟩).2.1) ≠ 0)) := (hF1300 43).trans rfl
    clear hF1300
    refine then_normal ?_
    refine wq_cond s1319 (fun c1320 => ?_) (fun c1320 => ?_)
    ·replace c1320 := of_decide_eq_true c1320
     refine wq_seq ?_
     have hX := fq_bad (l := l) (k := K) hpv hN (show (chAt l K (plN W 1) el.i ((foldQ l K W H pre).at 1)).2.1 ≠ 0 from by assumption)
     refine wq_region (wl_mv rfl rfl rfl s1318 (wl_store_cel rfl rfl rfl s1306 rfl B1192 (by rfl) (by kernel_rfl) fun w1321 B1322 k1323 => ?_))
     have B1324 := B1189.all k1323 ap29.symm
     have B1325 := B1190.all k1323 (ap30.symm p1 rfl)
     have B1326 := B1191.all k1323 (ap31.symm p10 rfl)
     have B1327 := B1193.all k1323 (ap47 p36 rfl)
     have B1330 := B1195.all k1323 (ap179 p168 rfl)
     have B1337 := B1200.all k1323 (ap329 p320 rfl)
     have B1338 := B1201.all k1323 ap426
     have K1342 := K1204.trans k1323 (Grew.ok (S := fun i => (onB p21) i ∨ ((onB p36) i ∨ ((onB p116) i ∨ (T454 i ∨ (T455 i ∨ (T456 i ∨ (T457 i ∨ (T458 i ∨ (T459 i ∨ (T460 i ∨ (T461 i))))))))))) (Grew.refl w794 (onB p21)) (fun _ x => Or.inl x))
     refine wl_store_cel rfl rfl rfl s1307 rfl B1327 (by rfl) (by kernel_rfl) fun w1343 B1344 k1345 => ?_
     have B1346 := B1324.all k1345 ap44.symm
     have B1347 := B1325.all k1345 (ap45.symm p1 rfl)
     have B1348 := B1326.all k1345 (ap46.symm p10 rfl)
     have B1349 := B1322.all k1345 (ap47.symm p21 rfl)
     have B1352 := B1330.all k1345 (ap180 p168 rfl)
     have B1359 := B1337.all k1345 (ap330 p320 rfl)
     have B1360 := B1338.all k1345 ap427
     have K1364 := K1342.trans k1345 (Grew.ok (S := fun i => (onB p21) i ∨ ((onB p36) i ∨ ((onB p116) i ∨ (T454 i ∨ (T455 i ∨ (T456 i ∨ (T457 i ∨ (T458 i ∨ (T459 i ∨ (T460 i ∨ (T461 i))))))))))) (Grew.refl w794 (onB p36)) (fun _ x => Or.inr (Or.inl x)))
     refine wl_nil fun F1365 hF1366 => ?_
     clear hF1366
     refine then_normal (wq_ret (then_ret (in_ret ?_)))
     exact ⟨CellsB.keeps (CellsB.or B672.cells.cb (CellsB.or B673.cells.cb (CellsB.or B674.cells.cb (CellsB.or B675.cells.cb (CellsB.or (B677.cb B414.lt) (CellsB.or (B678.cb B415.lt) (CellsB.or (B679.cb B416.lt) (CellsB.or (B680.cb B417.lt) (CellsB.or (B681.cb B418.lt) (CellsB.or (B682.cb B419.lt) B685.cells.cb)))))))))) K1364, ⟨K668.trans K1364 (fun i hi x => (x.elim (fun y => ((Grew.ok (S := fun _ => False) gr28 noB_le) i hi y)) (fun y => (y.elim (fun y => ((Grew.ok (S := fun _ => False) gr43 noB_le) i hi y)) (fun y => (y.elim (fun y => ((Grew.ok (S := fun _ => False) gr123 noB_le) i hi y)) (fun y => (y.elim (fun y => ((Grew.ok (S := fun _ => False) gr686 noB_le) i hi y)) (fun y => (y.elim (fun y => ((Grew.ok (S := fun _ => False) gr687 noB_le) i hi y)) (fun y => (y.elim (fun y => ((Grew.ok (S := fun _ => False) gr688 noB_le) i hi y)) (fun y => (y.elim (fun y => ((Grew.ok (S := fun _ => False) gr689 noB_le) i hi y)) (fun y => (y.elim (fun y => ((Grew.ok (S := fun _ => False) gr690 noB_le) i hi y)) (fun y => (y.elim (fun y => ((Grew.ok (S := fun _ => False) gr691 noB_le) i hi y)) (fun y => (y.elim (fun y => ((Grew.ok (S := fun _ => False) gr692 noB_le) i hi y)) (fun y => ((Grew.ok (S := fun _ => False) gr693 noB_le) i hi y)))))))))))))))))))))), B1346, B1347, B1348, B1349, (by rw [hX]; exact B1344), B1352, B1359, B1360, (by rw [hX]; assumption)⟩⟩
    ·replace c1320 := of_decide_eq_false c1320
     refine wq_skip (then_normal ?_)
     have hce : (chAt l K (plN W 1) el.i ((foldQ l K W H pre).at 1)).2.1 = 0 := by first | assumption | (apply Decidable.byContradiction; assumption)
     have hX := fq_ok (l := l) (k := K) hpv hN hce
     have hol := fq_len (l := l) (k := K) pre
     refine wq_region (wl_v V rfl rfl (y_load_cel rfl s1309 Tryz.underlying32 B1194 rfl rr) (wl_v (.agg (chW (rcP l K (plN W 1) (el.i) ⟨(((foldQ l K W H pre).f 1).1), (((foldQ l K W H pre).f 1).2), ((foldQ l K W H pre).s)⟩)).toArray) rfl rfl (y_load_stc stcT_choice rfl s1317 hY1180 rr) (wl_builtRo (r := rCh) (xs := [.tmp 46]) (vs := [.agg (chW (rcP l K (plN W 1) (el.i) ⟨(((foldQ l K W H pre).f 1).1), (((foldQ l K W H pre).f 1).2), ((foldQ l K W H pre).s)⟩)).toArray]) (l := [rcP l K (plN W 1) (el.i) ⟨(((foldQ l K W H pre).f 1).1), (((foldQ l K W H pre).f 1).2), ((foldQ l K W H pre).s)⟩]) rfl rfl rfl rfl rfl (vsC rfl vsN) rfl (by first | decide | exact Nat.le_of_ble_eq_true rfl) (by first | decide | exact Nat.le_of_ble_eq_true rfl) fun v1370 w1371 T1375 B1373 g1374 k1372 => ?_)))
     have B1396 := B1189.all k1372 Apart.none
     have B1397 := B1190.all k1372 id
     have B1398 := B1191.all k1372 id
     have B1399 := B1192.all k1372 id
     have B1400 := B1193.all k1372 id
     have B1401 := B1194.all k1372 id
     have B1402 := B1205.all k1372 Apart.none
     have B1403 := B1195.all k1372 id
     have B1404 := B1196.all k1372 Apart.none
     have B1405 := B1197.all k1372 Apart.none
     have B1406 := B1206.all k1372 Apart.none
     have B1407 := B1207.all k1372 Apart.none
     have B1408 := B1198.all k1372 Apart.none
     have B1409 := B1199.all k1372 Apart.none
     have B1410 := B1200.all k1372 id
     have B1411 := B1201.all k1372 Apart.none
     have B1412 := B1202.all k1372 Apart.none
     have K1415 := K1204.tr k1372
     refine wl_appendRo (r := rCh) rfl rfl rfl rfl rfl rfl B1412 B1373.roa (by first | omega | (simp; done) | (simp; omega)) fun v1416 w1417 T1421 B1419 g1420 k1418 => ?_
     have gr1422 := Grew.trans (Grew.refl w794 T461) K1415 g1420
     have ap1423 : Apart T1421 T_b := ap785.grew g1420 B1396.live
     have ap1424 : Apart T1421 (onB p1) := ap786.grew g1420 (onB_live B1397.lt)
     have ap1425 : Apart T1421 (onB p10) := ap787.grew g1420 (onB_live B1398.lt)
     have ap1426 : Apart T1421 (onB p21) := ap788.grew g1420 (onB_live B1399.lt)
     have ap1427 : Apart T1421 (onB p36) := ap789.grew g1420 (onB_live B1400.lt)
     have ap1428 : Apart T1421 (onB p116) := ap790.grew g1420 (onB_live B1401.lt)
     have ap1429 : Apart T1421 T1186 := (ap1228.symm).grew g1420 B1402.live
     have ap1430 : Apart T1421 (onB p168) := ap791.grew g1420 (onB_live B1403.lt)
     have ap1431 : Apart T1421 T455 := (ap724.symm).grew g1420 B1404.live
     have ap1432 : Apart T1421 T456 := (ap738.symm).grew g1420 B1405.live
     have ap1433 : Apart T1421 T1187 := (ap1244.symm).grew g1420 B1406.live
     have ap1434 : Apart T1421 T1188 := (ap1260.symm).grew g1420 B1407.live
     have ap1435 : Apart T1421 T459 := (ap774.symm).grew g1420 B1408.live
     have ap1436 : Apart T1421 T460 := (ap784.symm).grew g1420 B1409.live
     have ap1437 : Apart T1421 (onB p320) := ap792.grew g1420 (onB_live B1410.lt)
     have ap1438 : Apart T1421 T403 := ap793.grew g1420 B1411.live
     have B1442 := B1396.all k1418 ap785.symm
     have B1443 := B1397.all k1418 (ap786.symm p1 rfl)
     have B1444 := B1398.all k1418 (ap787.symm p10 rfl)
     have B1445 := B1399.all k1418 (ap788.symm p21 rfl)
     have B1446 := B1400.all k1418 (ap789.symm p36 rfl)
     have B1447 := B1401.all k1418 (ap790.symm p116 rfl)
     have B1448 := B1402.all k1418 ap1228
     have B1449 := B1403.all k1418 (ap791.symm p168 rfl)
     have B1450 := B1404.all k1418 ap724
     have B1451 := B1405.all k1418 ap738
     have B1452 := B1406.all k1418 ap1244
     have B1453 := B1407.all k1418 ap1260
     have B1454 := B1408.all k1418 ap774
     have B1455 := B1409.all k1418 ap784
     have B1456 := B1410.all k1418 (ap792.symm p320 rfl)
     have B1457 := B1411.all k1418 ap793.symm
     have K1461 := K1415.trans k1418 (Grew.ok (S := fun i => (onB p21) i ∨ ((onB p36) i ∨ ((onB p116) i ∨ (T454 i ∨ (T455 i ∨ (T456 i ∨ (T457 i ∨ (T458 i ∨ (T459 i ∨ (T460 i ∨ (T461 i))))))))))) (Grew.refl w794 T461) (fun _ x => Or.inr (Or.inr (Or.inr (Or.inr (Or.inr (Or.inr (Or.inr (Or.inr (Or.inr (Or.inr x)))))))))))
     refine wl_store_cel rfl rfl rfl s1309 rfl B1447 B1419.oneC (by kernel_rfl) fun w1462 B1463 k1464 => ?_
     have B1465 := B1442.all k1464 ap124.symm
     have B1466 := B1443.all k1464 (ap125.symm p1 rfl)
     have B1467 := B1444.all k1464 (ap126.symm p10 rfl)
     have B1468 := B1445.all k1464 (ap127.symm p21 rfl)
     have B1469 := B1446.all k1464 (ap128.symm p36 rfl)
     have B1470 := B1448.all k1464 ap1220
     have B1471 := B1449.all k1464 (ap181 p168 rfl)
     have B1472 := B1450.all k1464 ap715
     have B1473 := B1451.all k1464 ap730
     have B1474 := B1452.all k1464 ap1236
     have B1475 := B1453.all k1464 ap1252
     have B1476 := B1454.all k1464 ap769
     have B1477 := B1455.all k1464 ap780
     have B1478 := B1456.all k1464 (ap331 p320 rfl)
     have B1479 := B1457.all k1464 ap428
     have B1483 := B1419.all k1464 ap1428
     have K1484 := K1461.trans k1464 (Grew.ok (S := fun i => (onB p21) i ∨ ((onB p36) i ∨ ((onB p116) i ∨ (T454 i ∨ (T455 i ∨ (T456 i ∨ (T457 i ∨ (T458 i ∨ (T459 i ∨ (T460 i ∨ (T461 i))))))))))) (Grew.refl w794 (onB p116)) (fun _ x => Or.inr (Or.inr (Or.inl x))))
     refine wl_nil fun F1485 hF1486 => ?_
     clear hF1486
     refine in_normal ?_
     exact ⟨CellsB.keeps (CellsB.or B672.cells.cb (CellsB.or B673.cells.cb (CellsB.or B674.cells.cb (CellsB.or B675.cells.cb (CellsB.or (B677.cb B414.lt) (CellsB.or (B678.cb B415.lt) (CellsB.or (B679.cb B416.lt) (CellsB.or (B680.cb B417.lt) (CellsB.or (B681.cb B418.lt) (CellsB.or (B682.cb B419.lt) B685.cells.cb)))))))))) K1484, K1484.mono (fun i hi x => (x.elim (fun y => fun e => ap426.symm i y (by rw [B684.1]; exact e)) (fun y => (y.elim (fun y => fun e => ap427.symm i y (by rw [B684.1]; exact e)) (fun y => (y.elim (fun y => fun e => ap428.symm i y (by rw [B684.1]; exact e)) (fun y => (y.elim (fun y => fun e => ap708 i y (by rw [B684.1]; exact e)) (fun y => (y.elim (fun y => fun e => ap723 i y (by rw [B684.1]; exact e)) (fun y => (y.elim (fun y => fun e => ap737 i y (by rw [B684.1]; exact e)) (fun y => (y.elim (fun y => fun e => ap750 i y (by rw [B684.1]; exact e)) (fun y => (y.elim (fun y => fun e => ap762 i y (by rw [B684.1]; exact e)) (fun y => (y.elim (fun y => fun e => ap773 i y (by rw [B684.1]; exact e)) (fun y => (y.elim (fun y => fun e => ap783 i y (by rw [B684.1]; exact e)) (fun y => (fun e => ap793 i y (by rw [B684.1]; exact e))))))))))))))))))))))), ⟨v1416, T1186, T455, T456, T1187, T1188, T459, T460, T1421, (hX.2.2.2.2), K668.trans K1484 (fun i hi x => (x.elim (fun y => ((Grew.ok (S := fun _ => False) gr28 noB_le) i hi y)) (fun y => (y.elim (fun y => ((Grew.ok (S := fun _ => False) gr43 noB_le) i hi y)) (fun y => (y.elim (fun y => ((Grew.ok (S := fun _ => False) gr123 noB_le) i hi y)) (fun y => (y.elim (fun y => ((Grew.ok (S := fun _ => False) gr686 noB_le) i hi y)) (fun y => (y.elim (fun y => ((Grew.ok (S := fun _ => False) gr687 noB_le) i hi y)) (fun y => (y.elim (fun y => ((Grew.ok (S := fun _ => False) gr688 noB_le) i hi y)) (fun y => (y.elim (fun y => ((Grew.ok (S := fun _ => False) gr689 noB_le) i hi y)) (fun y => (y.elim (fun y => ((Grew.ok (S := fun _ => False) gr690 noB_le) i hi y)) (fun y => (y.elim (fun y => ((Grew.ok (S := fun _ => False) gr691 noB_le) i hi y)) (fun y => (y.elim (fun y => ((Grew.ok (S := fun _ => False) gr692 noB_le) i hi y)) (fun y => ((Grew.ok (S := fun _ => False) gr693 noB_le) i hi y)))))))))))))))))))))), B1465, B1466, B1467, B1468, B1469, B1463, (by rw [hX.1]; exact B1470), B1471, (by first | (rw [hX.2.2.1]; exact B1472) | (rw [hX.2.2.2.1 0 (by decide)]; exact B1472)), (by first | (rw [hX.2.2.1]; exact B1473) | (rw [hX.2.2.2.1 0 (by decide)]; exact B1473)), (by first | (rw [hX.2.2.1]; exact B1474) | (rw [hX.2.2.2.1 1 (by decide)]; exact B1474)), (by first | (rw [hX.2.2.1]; exact B1475) | (rw [hX.2.2.2.1 1 (by decide)]; exact B1475)), (by first | (rw [hX.2.2.1]; exact B1476) | (rw [hX.2.2.2.1 2 (by decide)]; exact B1476)), (by first | (rw [hX.2.2.1]; exact B1477) | (rw [hX.2.2.2.1 2 (by decide)]; exact B1477)), B1478, B1479, (by rw [hX.2.1]; exact B1483), gr686.trans K668 gr1214, gr687.trans K668 (Grew.refl w794 T455), gr688.trans K668 (Grew.refl w794 T456), gr689.trans K668 gr1230, gr690.trans K668 gr1246, gr691.trans K668 (Grew.refl w794 T459), gr692.trans K668 (Grew.refl w794 T460), gr693.trans K668 gr1422, ap1215, ap1216, ap1217, ap1218, ap1219, ap1220, ap1221, ap1222, ap1223, ap1211, ap1212, ap1224, ap1225, ap1226, ap1227, ap1429.symm, ap710, ap711, ap712, ap713, ap714, ap715, ap716, ap717, ap1238.symm, ap1254.symm, ap720, ap721, ap722, ap723, ap1431.symm, ap725, ap726, ap727, ap728, ap729, ap730, ap731, ap1239.symm, ap1255.symm, ap734, ap735, ap736, ap737, ap1432.symm, ap1231, ap1232, ap1233, ap1234, ap1235, ap1236, ap1237, ap1213, ap1240, ap1241, ap1242, ap1243, ap1433.symm, ap1247, ap1248, ap1249, ap1250, ap1251, ap1252, ap1253, ap1256, ap1257, ap1258, ap1259, ap1434.symm, ap764, ap765, ap766, ap767, ap768, ap769, ap770, ap771, ap772, ap773, ap1435.symm, ap775, ap776, ap777, ap778, ap779, ap780, ap781, ap782, ap783, ap1436.symm, ap1423, ap1424, ap1425, ap1426, ap1427, ap1428, ap1430, ap1437, ap1438⟩⟩
   ·skip
    have B1506 : Stc w794 p796 65 [iv ((2 : Nat) : Int), iv (pX (plN W 2) el.i), iv (pY (plN W 2) el.i)] := by have h_ := B813; rw [hpv] at h_; exact h_
    have hwp := plN_pos' (W := W) (p := 2) hsd.1
    have hwl := plN_le (W := W) (p := 2) hsd.2.1
    have hwh := plN_le (W := H) (p := 2) hsd.2.2.2.2.1
    have hwn : plN W 2 * plN H 2 ≤ 16 * 16 := Nat.mul_le_mul hwl hwh
    rw [hpv] at hei
    refine wq_cas (γ := (Nat → Prop) × (Nat → Prop) × (Nat → Prop)) [(9, 8), (10, 8), (11, 8), (13, 8), (14, 8), (13, 12), (14, 12)] [some 31, some 32, some 33, some 34, some 35, some 36, some 37, some 38, some 39, some 30, some 40, some 41, some 14, none, some 15] ⟨fun w_ => Rdi w_ T454 v148 l ((foldQ l K W H pre).s) ∧ Vpm w_ T459 v220 c396 (((foldQ l K W H pre).f 2).1) ∧ Vpm w_ T460 v221 c398 (((foldQ l K W H pre).f 2).2), fun i => T454 i ∨ (T459 i ∨ (T460 i)), fun g_ w_ => (Rdi w_ (g_.1) v148 l ((stP l K (plN W 2) (el.i) ⟨(((foldQ l K W H pre).f 2).1), (((foldQ l K W H pre).f 2).2), ((foldQ l K W H pre).s)⟩).s) ∧ Grew w794 T454 (g_.1)) ∧ (Vpm w_ (g_.2.1) v220 c396 ((stP l K (plN W 2) (el.i) ⟨(((foldQ l K W H pre).f 2).1), (((foldQ l K W H pre).f 2).2), ((foldQ l K W H pre).s)⟩).a) ∧ Grew w794 T459 (g_.2.1)) ∧ (Vpm w_ (g_.2.2) v221 c398 ((stP l K (plN W 2) (el.i) ⟨(((foldQ l K W H pre).f 2).1), (((foldQ l K W H pre).f 2).2), ((foldQ l K W H pre).s)⟩).b) ∧ Grew w794 T460 (g_.2.2)) ∧ Apart (g_.1) (g_.2.1) ∧ Apart (g_.1) (g_.2.2) ∧ Apart (g_.2.1) (g_.2.2), fun g_ => fun i => (g_.1) i ∨ ((g_.2.1) i ∨ ((g_.2.2) i)), fun p_ w_ => Stc w_ p_ 71 (chL 0 0 0 0 0 (fun _ => (0 : Int))), fun g_ p_ w_ => Stc w_ p_ 71 (chW (rcP l K (plN W 2) (el.i) ⟨(((foldQ l K W H pre).f 2).1), (((foldQ l K W H pre).f 2).2), ((foldQ l K W H pre).s)⟩))⟩ (fun i => T454 i ∨ (T459 i ∨ (T460 i))) (fun p_ => w794.heap.size ≤ p_) [fun g_ => pt v148 0, fun g_ => pt p10 0, fun g_ => iv K, fun g_ => pt p796 0, fun g_ => iv ((2 : Nat) : Int), fun g_ => pt p320 4, fun g_ => .agg #[v220, v221], fun g_ => .agg #[iv ((2 : Nat) : Int), iv (pX (plN W 2) el.i), iv (pY (plN W 2) el.i)], fun g_ => .tuple #[.agg (chW (rcP l K (plN W 2) (el.i) ⟨(((foldQ l K W H pre).f 2).1), (((foldQ l K W H pre).f 2).2), ((foldQ l K W H pre).s)⟩)).toArray, iv ((chAt l K (plN W 2) (el.i) ⟨(((foldQ l K W H pre).f 2).1), (((foldQ l K W H pre).f 2).2), ((foldQ l K W H pre).s)⟩).2.1)], fun g_ => .tuple #[.agg (chW (rcP l K (plN W 2) (el.i) ⟨(((foldQ l K W H pre).f 2).1), (((foldQ l K W H pre).f 2).2), ((foldQ l K W H pre).s)⟩)).toArray, iv ((chAt l K (plN W 2) (el.i) ⟨(((foldQ l K W H pre).f 2).1), (((foldQ l K W H pre).f 2).2), ((foldQ l K W H pre).s)⟩).2.1)], fun g_ => .agg (chW (rcP l K (plN W 2) (el.i) ⟨(((foldQ l K W H pre).f 2).1), (((foldQ l K W H pre).f 2).2), ((foldQ l K W H pre).s)⟩)).toArray, fun g_ => iv ((chAt l K (plN W 2) (el.i) ⟨(((foldQ l K W H pre).f 2).1), (((foldQ l K W H pre).f 2).2), ((foldQ l K W H pre).s)⟩).2.1), fun _ => undef, fun _ => undef, fun g_ => iv ((chAt l K (plN W 2) (el.i) ⟨(((foldQ l K W H pre).f 2).1), (((foldQ l K W H pre).f 2).2), ((foldQ l K W H pre).s)⟩).2.1)] 8 13 (some 12) (noB, noB, noB) 0 (by kernel_rfl) (by kernel_rfl) (by kernel_rfl) (by kernel_rfl) ⟨.inr (.inr fun _ _ => rfl), ⟨.inr (.inr fun _ _ => rfl), ⟨.inr (.inr fun _ _ => rfl), ⟨.inr (.inr fun _ _ => rfl), ⟨.inr (.inr fun _ _ => rfl), ⟨.inr (.inr fun _ _ => rfl), ⟨.inr (.inr fun _ _ => rfl), ⟨.inr (.inr fun _ _ => rfl), ⟨.inr (.inl rfl), ⟨.inl rfl, ⟨.inl rfl, ⟨.inl rfl, ⟨.inr (.inr fun _ _ => rfl), ⟨.inl rfl, ⟨.inl rfl, trivial⟩⟩⟩⟩⟩⟩⟩⟩⟩⟩⟩⟩⟩⟩⟩ ⟨⟨B675, B681, B682⟩, fun w w1 S1 h k a => by obtain ⟨h0_, h1_, h2_⟩ := h; exact ⟨h0_.all k (fun i z => a i (Or.inl z)), h1_.all k (fun i z => a i (Or.inr (Or.inl z))), h2_.all k (fun i z => a i (Or.inr (Or.inr z)))⟩, fun w h i z => by obtain ⟨h0_, h1_, h2_⟩ := h; rcases z with z | z | z <;> first | exact h0_.live i z | exact h1_.live i z | exact h2_.live i z, fun g w w1 S1 h k a => by obtain ⟨⟨b0_, g0_⟩, ⟨b1_, g1_⟩, ⟨b2_, g2_⟩, a0_1_, a0_2_, a1_2_⟩ := h; exact ⟨⟨b0_.all k (fun i z => a i (Or.inl z)), g0_⟩, ⟨b1_.all k (fun i z => a i (Or.inr (Or.inl z))), g1_⟩, ⟨b2_.all k (fun i z => a i (Or.inr (Or.inr z))), g2_⟩, a0_1_, a0_2_, a1_2_⟩, fun g w h i z => by obtain ⟨⟨b0_, g0_⟩, ⟨b1_, g1_⟩, ⟨b2_, g2_⟩, a0_1_, a0_2_, a1_2_⟩ := h; rcases z with z | z | z <;> first | exact b0_.live i z | exact b1_.live i z | exact b2_.live i z, fun _ _ _ _ h k z => h.all k z, fun _ _ h => h.lt, fun _ _ _ _ _ h k z => h.all k z, fun _ z => z, fun _ h => .inr h, fun p h z => by rcases z with z | z | z <;> first | exact absurd h (Nat.not_le.2 (B675.live p z)) | exact absurd h (Nat.not_le.2 (B681.live p z)) | exact absurd h (Nat.not_le.2 (B682.live p z))⟩ (fun _ _ _ h => h) (fun e => by cases e) ?_ ?_
    ·refine stepsFX_cons ?_ ?_
     ·refine StepFX.one rfl rfl rfl rfl fun g_ p_ F_ w_ hR hout hD => ?_
      exact (y_load_cel rfl ((hout 10 rfl (by decide)).trans s806) Tryz.underlying54 (B676.all hR (fun x => (x.elim (fun y => ((ap700.symm) p168 rfl y)) (fun y => (y.elim (fun y => ((ap770.symm) p168 rfl y)) (fun y => ((ap781.symm) p168 rfl y))))))) rfl ⟨rfl, Kept.refl _ _⟩)
     refine stepsFX_cons ?_ ?_
     ·refine StepFX.one rfl rfl rfl rfl fun g_ p_ F_ w_ hR hout hD => ?_
      exact (y_fieldR (n := 1) rfl ((hout 4 rfl (by decide)).trans s801) Tryz.underlying25 rfl (by kernel_rfl) (by decide) rfl ⟨rfl, Kept.refl _ _⟩)
     refine stepsFX_cons ?_ ?_
     ·refine StepFX.one rfl rfl rfl rfl fun g_ p_ F_ w_ hR hout hD => ?_
      have g32 : F_ 32 = pt p10 0 := (hD.get 0 rfl rfl rfl).2 (by decide)
      exact (y_ld_stc rfl g32 Tryz.underlying3 (B671.all hR (fun x => (x.elim (fun y => ((ap696.symm) p10 rfl y)) (fun y => (y.elim (fun y => ((ap766.symm) p10 rfl y)) (fun y => ((ap777.symm) p10 rfl y))))))) rfl rfl ⟨rfl, Kept.refl _ _⟩)
     refine stepsFX_cons ?_ ?_
     ·refine StepFX.one rfl rfl rfl rfl fun g_ p_ F_ w_ hR hout hD => ?_
      exact (y_fieldR (n := 1) rfl ((hout 13 rfl (by decide)).trans s808) Tryz.underlying65 rfl (by kernel_rfl) (by decide) rfl ⟨rfl, Kept.refl _ _⟩)
     refine stepsFX_cons ?_ ?_
     ·refine StepFX.one rfl rfl rfl rfl fun g_ p_ F_ w_ hR hout hD => ?_
      have g34 : F_ 34 = pt p796 0 := (hD.get 0 rfl rfl rfl).2 (by decide)
      exact (y_ld_stc rfl g34 Tryz.underlying3 (B1506.all hR (fun x => (x.elim (fun y => (ap824 p796 rfl y)) (fun y => (y.elim (fun y => (ap829 p796 rfl y)) (fun y => (ap830 p796 rfl y))))))) rfl rfl ⟨rfl, Kept.refl _ _⟩)
     refine stepsFX_cons ?_ ?_
     ·refine StepFX.one rfl rfl rfl rfl fun g_ p_ F_ w_ hR hout hD => ?_
      have g35 : F_ 35 = iv ((2 : Nat) : Int) := (hD.get 0 rfl rfl rfl).2 (by decide)
      exact (y_atR 2 (s := 2) rfl ((hout 11 rfl (by decide)).trans s807) g35 (by omega) Tryz.underlying59 (by omega) (by kernel_rfl) (by omega) ⟨rfl, Kept.refl _ _⟩)
     refine stepsFX_cons ?_ ?_
     ·refine StepFX.one rfl rfl rfl rfl fun g_ p_ F_ w_ hR hout hD => ?_
      have g36 : F_ 36 = pt p320 4 := (hD.get 0 rfl rfl rfl).2 (by decide)
      exact (y_ldPart (n := 2) stcT_pfs rfl g36 (B683.all hR (fun x => (x.elim (fun y => ((ap707.symm) p320 rfl y)) (fun y => (y.elim (fun y => ((ap772.symm) p320 rfl y)) (fun y => ((ap782.symm) p320 rfl y))))))) (Nat.le_of_ble_eq_true rfl) rfl ⟨rfl, Kept.refl _ _⟩)
     refine stepsFX_cons ?_ ?_
     ·refine StepFX.one rfl rfl rfl rfl fun g_ p_ F_ w_ hR hout hD => ?_
      exact (y_load_stc stcT_spot rfl ((hout 13 rfl (by decide)).trans s808) (B1506.all hR (fun x => (x.elim (fun y => (ap824 p796 rfl y)) (fun y => (y.elim (fun y => (ap829 p796 rfl y)) (fun y => (ap830 p796 rfl y))))))) ⟨rfl, Kept.refl _ _⟩)
     refine stepsFX_cons ?_ ?_
     ·refine StepFX.call rfl rfl rfl rfl fun g_ p_ F_ w_ hR hout hD hP_ => ?_
      have g31 : F_ 31 = pt v148 0 := (hD.get 0 rfl rfl rfl).2 (by decide)
      have g33 : F_ 33 = iv K := (hD.get 1 rfl rfl rfl).2 (by decide)
      have g37 : F_ 37 = .agg #[v220, v221] := (hD.get 2 rfl rfl rfl).2 (by decide)
      have g38 : F_ 38 = .agg #[iv ((2 : Nat) : Int), iv (pX (plN W 2) el.i), iv (pY (plN W 2) el.i)] := (hD.get 3 rfl rfl rfl).2 (by decide)
      exact (y_cs rfl rfl rfl (fun _ _ => by kernel_rfl) (ev_func _) (vsC g31 (vsC g33 (vsC g37 (vsC g38 vsN)))) (pc_read v148 l ((foldQ l K W H pre).s) K ((2 : Nat) : Int) (plN W 2) (el.i) v220 v221 c396 c398 (((foldQ l K W H pre).f 2).1) (((foldQ l K W H pre).f 2).2) T454 T459 T460 _ (hA2.but hR (by rintro i (h | h | h) <;> first | exact hab0 _ h | exact hab1 _ h | exact hab2 _ h | exact hab3 _ h | exact hab4 _ h | exact hab5 _ h | exact hab6 _ h | exact hab7 _ h)) (hO2.but hR (ovO (by rintro i (h | h | h) <;> first | exact hab0 _ h | exact hab1 _ h | exact hab2 _ h | exact hab3 _ h | exact hab4 _ h | exact hab5 _ h | exact hab6 _ h | exact hab7 _ h))) (by first | exact hab0 | exact hab1 | exact hab2 | exact hab3 | exact hab4 | exact hab5 | exact hab6 | exact hab7) (by first | exact hab0 | exact hab1 | exact hab2 | exact hab3 | exact hab4 | exact hab5 | exact hab6 | exact hab7) (by first | exact hab0 | exact hab1 | exact hab2 | exact hab3 | exact hab4 | exact hab5 | exact hab6 | exact hab7) hwp hwl (by omega) hP_.1 hP_.2.1 hP_.2.2 ap705 ap706 ap771) (fun e_ w_ h_ => by obtain ⟨x0_, x1_, x2_, he_, hk_, ⟨b0_, g0_⟩, ⟨b1_, g1_⟩, ⟨b2_, g2_⟩, a0_1_, a0_2_, a1_2_⟩ := h_; exact ⟨_, he_, ⟨x0_, x1_, x2_⟩, rfl, hk_, ⟨⟨b0_, (Grew.refl w794 _).trans hR g0_⟩, ⟨b1_, (Grew.refl w794 _).trans hR g1_⟩, ⟨b2_, (Grew.refl w794 _).trans hR g2_⟩, a0_1_, a0_2_, a1_2_⟩, fun b hb => by rcases hb with hb | hb | hb <;> first | exact (g0_ b hb).elim (fun z => .inl (Or.inl z)) .inr | exact (g1_ b hb).elim (fun z => .inl (Or.inr (Or.inl z))) .inr | exact (g2_ b hb).elim (fun z => .inl (Or.inr (Or.inr z))) .inr⟩))
     refine stepsFX_cons ?_ ?_
     ·refine StepFX.one rfl rfl rfl rfl fun g_ p_ F_ w_ hR hout hD => ?_
      have g39 : F_ 39 = .tuple #[.agg (chW (rcP l K (plN W 2) (el.i) ⟨(((foldQ l K W H pre).f 2).1), (((foldQ l K W H pre).f 2).2), ((foldQ l K W H pre).s)⟩)).toArray, iv ((chAt l K (plN W 2) (el.i) ⟨(((foldQ l K W H pre).f 2).1), (((foldQ l K W H pre).f 2).2), ((foldQ l K W H pre).s)⟩).2.1)] := (hD.get 0 rfl rfl rfl).2 (by decide)
      exact (y_mov rfl g39 ⟨rfl, Kept.refl _ _⟩)
     refine stepsFX_cons ?_ ?_
     ·refine StepFX.one rfl rfl rfl rfl fun g_ p_ F_ w_ hR hout hD => ?_
      have g30 : F_ 30 = .tuple #[.agg (chW (rcP l K (plN W 2) (el.i) ⟨(((foldQ l K W H pre).f 2).1), (((foldQ l K W H pre).f 2).2), ((foldQ l K W H pre).s)⟩)).toArray, iv ((chAt l K (plN W 2) (el.i) ⟨(((foldQ l K W H pre).f 2).1), (((foldQ l K W H pre).f 2).2), ((foldQ l K W H pre).s)⟩).2.1)] := (hD.get 0 rfl rfl rfl).2 (by decide)
      exact (y_ext rfl g30 rfl ⟨rfl, Kept.refl _ _⟩)
     refine stepsFX_cons ?_ ?_
     ·refine StepFX.one rfl rfl rfl rfl fun g_ p_ F_ w_ hR hout hD => ?_
      have g30 : F_ 30 = .tuple #[.agg (chW (rcP l K (plN W 2) (el.i) ⟨(((foldQ l K W H pre).f 2).1), (((foldQ l K W H pre).f 2).2), ((foldQ l K W H pre).s)⟩)).toArray, iv ((chAt l K (plN W 2) (el.i) ⟨(((foldQ l K W H pre).f 2).1), (((foldQ l K W H pre).f 2).2), ((foldQ l K W H pre).s)⟩).2.1)] := (hD.get 0 rfl rfl rfl).2 (by decide)
      exact (y_ext rfl g30 rfl ⟨rfl, Kept.refl _ _⟩)
     refine stepsFX_cons ?_ ?_
     ·refine StepFX.alloc rfl rfl rfl rfl fun F_ w_ hR => ?_
      exact y_alloc_stc (n := 21) (vs := (chL 0 0 0 0 0 (fun _ => (0 : Int)))) rfl (by kernel_rfl) ⟨_, rfl, Nat.le_refl _, heap_alloc_new _ _, (Kept.refl _ _).alloc _⟩
     refine stepsFX_cons ?_ ?_
     ·refine StepFX.store rfl rfl rfl rfl fun g_ p_ F_ w_ hR hout hD hO_ hZ_ hQ_ => ?_
      have g14 : F_ 14 = pt p_ 0 := (hD.get 0 rfl rfl rfl).1 rfl
      have g40 : F_ 40 = .agg (chW (rcP l K (plN W 2) (el.i) ⟨(((foldQ l K W H pre).f 2).1), (((foldQ l K W H pre).f 2).2), ((foldQ l K W H pre).s)⟩)).toArray := (hD.get 1 rfl rfl rfl).2 (by decide)
      exact y_storeStc (us := (chW (rcP l K (plN W 2) (el.i) ⟨(((foldQ l K W H pre).f 2).1), (((foldQ l K W H pre).f 2).2), ((foldQ l K W H pre).s)⟩))) stcT_choice rfl g14 g40 hZ_ rfl (oneI rfl (oneI rfl (oneI rfl (oneI rfl (oneI rfl (oneI rfl (oneI rfl (oneI rfl (oneI rfl (oneI rfl (oneI rfl (oneI rfl (oneI rfl (oneI rfl (oneI rfl (oneI rfl (oneI rfl (oneI rfl (oneI rfl (oneI rfl (oneI rfl oneN))))))))))))))))))))) fun w2_ b_ k_ => ⟨rfl, k_, b_⟩
     refine stepsFX_cons ?_ ?_
     ·refine StepFX.one rfl rfl rfl rfl fun g_ p_ F_ w_ hR hout hD => ?_
      have g41 : F_ 41 = iv ((chAt l K (plN W 2) (el.i) ⟨(((foldQ l K W H pre).f 2).1), (((foldQ l K W H pre).f 2).2), ((foldQ l K W H pre).s)⟩).2.1) := (hD.get 0 rfl rfl rfl).2 (by decide)
      exact (y_asg rfl g41 ⟨rfl, Kept.refl _ _⟩)
     exact stepsFX_nil
    intro gg1508 p1509 v1510 F1511 w1512 k1513 hp1514 hQ1515 hG1516 hY1517 hN1518 hA1519 hV1520 hF1521
    obtain ⟨T1523, T1524, T1525⟩ := gg1508
    have B1526 := B669.all k1513 (fun i h x => (x.elim (fun y => ((ap694.symm) i h y)) (fun y => (y.elim (fun y => ((ap764.symm) i h y)) (fun y => ((ap775.symm) i h y))))))
    have B1527 := B670.all k1513 (fun x => (x.elim (fun y => ((ap695.symm) p1 rfl y)) (fun y => (y.elim (fun y => ((ap765.symm) p1 rfl y)) (fun y => ((ap776.symm) p1 rfl y))))))
    have B1528 := B671.all k1513 (fun x => (x.elim (fun y => ((ap696.symm) p10 rfl y)) (fun y => (y.elim (fun y => ((ap766.symm) p10 rfl y)) (fun y => ((ap777.symm) p10 rfl y))))))
    have B1529 := B672.all k1513 (fun x => (x.elim (fun y => ((ap697.symm) p21 rfl y)) (fun y => (y.elim (fun y => ((ap767.symm) p21 rfl y)) (fun y => ((ap778.symm) p21 rfl y))))))
    have B1530 := B673.all k1513 (fun x => (x.elim (fun y => ((ap698.symm) p36 rfl y)) (fun y => (y.elim (fun y => ((ap768.symm) p36 rfl y)) (fun y => ((ap779.symm) p36 rfl y))))))
    have B1531 := B674.all k1513 (fun x => (x.elim (fun y => ((ap699.symm) p116 rfl y)) (fun y => (y.elim (fun y => ((ap769.symm) p116 rfl y)) (fun y => ((ap780.symm) p116 rfl y))))))
    have B1532 := B676.all k1513 (fun x => (x.elim (fun y => ((ap700.symm) p168 rfl y)) (fun y => (y.elim (fun y => ((ap770.symm) p168 rfl y)) (fun y => ((ap781.symm) p168 rfl y))))))
    have B1533 := B677.all k1513 (fun i h x => (x.elim (fun y => ((ap701.symm) i h y)) (fun y => (y.elim (fun y => (ap720 i h y)) (fun y => (ap721 i h y))))))
    have B1534 := B678.all k1513 (fun i h x => (x.elim (fun y => ((ap702.symm) i h y)) (fun y => (y.elim (fun y => (ap734 i h y)) (fun y => (ap735 i h y))))))
    have B1535 := B679.all k1513 (fun i h x => (x.elim (fun y => ((ap703.symm) i h y)) (fun y => (y.elim (fun y => (ap747 i h y)) (fun y => (ap748 i h y))))))
    have B1536 := B680.all k1513 (fun i h x => (x.elim (fun y => ((ap704.symm) i h y)) (fun y => (y.elim (fun y => (ap759 i h y)) (fun y => (ap760 i h y))))))
    have B1537 := B683.all k1513 (fun x => (x.elim (fun y => ((ap707.symm) p320 rfl y)) (fun y => (y.elim (fun y => ((ap772.symm) p320 rfl y)) (fun y => ((ap782.symm) p320 rfl y))))))
    have B1538 := B684.all k1513 (fun i h x => (x.elim (fun y => ((ap708.symm) i h y)) (fun y => (y.elim (fun y => ((ap773.symm) i h y)) (fun y => ((ap783.symm) i h y))))))
    have B1539 := B685.all k1513 (fun i h x => (x.elim (fun y => ((ap709.symm) i h y)) (fun y => (y.elim (fun y => ((ap774.symm) i h y)) (fun y => ((ap784.symm) i h y))))))
    have K1541 := K823.trans k1513 (fun i hi x => (x.elim (fun y => ((Grew.ok (S := fun i => (onB p21) i ∨ ((onB p36) i ∨ ((onB p116) i ∨ (T454 i ∨ (T455 i ∨ (T456 i ∨ (T457 i ∨ (T458 i ∨ (T459 i ∨ (T460 i ∨ (T461 i))))))))))) (Grew.refl w794 T454) (fun _ x => Or.inr (Or.inr (Or.inr (Or.inl x))))) i hi y)) (fun y => (y.elim (fun y => ((Grew.ok (S := fun i => (onB p21) i ∨ ((onB p36) i ∨ ((onB p116) i ∨ (T454 i ∨ (T455 i ∨ (T456 i ∨ (T457 i ∨ (T458 i ∨ (T459 i ∨ (T460 i ∨ (T461 i))))))))))) (Grew.refl w794 T459) (fun _ x => Or.inr (Or.inr (Or.inr (Or.inr (Or.inr (Or.inr (Or.inr (Or.inr (Or.inl x)))))))))) i hi y)) (fun y => ((Grew.ok (S := fun i => (onB p21) i ∨ ((onB p36) i ∨ ((onB p116) i ∨ (T454 i ∨ (T455 i ∨ (T456 i ∨ (T457 i ∨ (T458 i ∨ (T459 i ∨ (T460 i ∨ (T461 i))))))))))) (Grew.refl w794 T460) (fun _ x => Or.inr (Or.inr (Or.inr (Or.inr (Or.inr (Or.inr (Or.inr (Or.inr (Or.inr (Or.inl x))))))))))) i hi y))))))
    obtain ⟨⟨B1542, g1545⟩, ⟨B1543, g1546⟩, ⟨B1544, g1547⟩, ap1548, ap1549, ap1550⟩ := hQ1515
    replace B1542 : Rdi w1512 T1523 v148 l ((stP l K (plN W 2) (el.i) ⟨(((foldQ l K W H pre).f 2).1), (((foldQ l K W H pre).f 2).2), ((foldQ l K W H pre).s)⟩).s) := B1542
    replace B1543 : Vpm w1512 T1524 v220 c396 ((stP l K (plN W 2) (el.i) ⟨(((foldQ l K W H pre).f 2).1), (((foldQ l K W H pre).f 2).2), ((foldQ l K W H pre).s)⟩).a) := B1543
    replace B1544 : Vpm w1512 T1525 v221 c398 ((stP l K (plN W 2) (el.i) ⟨(((foldQ l K W H pre).f 2).1), (((foldQ l K W H pre).f 2).2), ((foldQ l K W H pre).s)⟩).b) := B1544
    replace g1545 : Grew w794 T454 T1523 := g1545
    replace g1546 : Grew w794 T459 T1524 := g1546
    replace g1547 : Grew w794 T460 T1525 := g1547
    replace ap1548 : Apart T1523 T1524 := ap1548
    replace ap1549 : Apart T1523 T1525 := ap1549
    replace ap1550 : Apart T1524 T1525 := ap1550
    have gr1551 := (Grew.refl w794 T454).trans K823 g1545
    have ap1552 : Apart T1523 T_b := ap694.grew g1545 B669.live
    have ap1553 : Apart T1523 (onB p1) := ap695.grew g1545 (onB_live B670.lt)
    have ap1554 : Apart T1523 (onB p10) := ap696.grew g1545 (onB_live B671.lt)
    have ap1555 : Apart T1523 (onB p21) := ap697.grew g1545 (onB_live B672.lt)
    have ap1556 : Apart T1523 (onB p36) := ap698.grew g1545 (onB_live B673.lt)
    have ap1557 : Apart T1523 (onB p116) := ap699.grew g1545 (onB_live B674.lt)
    have ap1558 : Apart T1523 (onB p168) := ap700.grew g1545 (onB_live B676.lt)
    have ap1559 : Apart T1523 T455 := ap701.grew g1545 B677.live
    have ap1560 : Apart T1523 T456 := ap702.grew g1545 B678.live
    have ap1561 : Apart T1523 T457 := ap703.grew g1545 B679.live
    have ap1562 : Apart T1523 T458 := ap704.grew g1545 B680.live
    have ap1563 : Apart T1523 (onB p320) := ap707.grew g1545 (onB_live B683.lt)
    have ap1564 : Apart T1523 T403 := ap708.grew g1545 B684.live
    have ap1565 : Apart T1523 T461 := ap709.grew g1545 B685.live
    have gr1567 := (Grew.refl w794 T459).trans K823 g1546
    have ap1568 : Apart T1524 T_b := ap764.grew g1546 B669.live
    have ap1569 : Apart T1524 (onB p1) := ap765.grew g1546 (onB_live B670.lt)
    have ap1570 : Apart T1524 (onB p10) := ap766.grew g1546 (onB_live B671.lt)
    have ap1571 : Apart T1524 (onB p21) := ap767.grew g1546 (onB_live B672.lt)
    have ap1572 : Apart T1524 (onB p36) := ap768.grew g1546 (onB_live B673.lt)
    have ap1573 : Apart T1524 (onB p116) := ap769.grew g1546 (onB_live B674.lt)
    have ap1574 : Apart T1524 (onB p168) := ap770.grew g1546 (onB_live B676.lt)
    have ap1575 : Apart T1524 T455 := (ap720.symm).grew g1546 B677.live
    have ap1576 : Apart T1524 T456 := (ap734.symm).grew g1546 B678.live
    have ap1577 : Apart T1524 T457 := (ap747.symm).grew g1546 B679.live
    have ap1578 : Apart T1524 T458 := (ap759.symm).grew g1546 B680.live
    have ap1579 : Apart T1524 (onB p320) := ap772.grew g1546 (onB_live B683.lt)
    have ap1580 : Apart T1524 T403 := ap773.grew g1546 B684.live
    have ap1581 : Apart T1524 T461 := ap774.grew g1546 B685.live
    have gr1583 := (Grew.refl w794 T460).trans K823 g1547
    have ap1584 : Apart T1525 T_b := ap775.grew g1547 B669.live
    have ap1585 : Apart T1525 (onB p1) := ap776.grew g1547 (onB_live B670.lt)
    have ap1586 : Apart T1525 (onB p10) := ap777.grew g1547 (onB_live B671.lt)
    have ap1587 : Apart T1525 (onB p21) := ap778.grew g1547 (onB_live B672.lt)
    have ap1588 : Apart T1525 (onB p36) := ap779.grew g1547 (onB_live B673.lt)
    have ap1589 : Apart T1525 (onB p116) := ap780.grew g1547 (onB_live B674.lt)
    have ap1590 : Apart T1525 (onB p168) := ap781.grew g1547 (onB_live B676.lt)
    have ap1591 : Apart T1525 T455 := (ap721.symm).grew g1547 B677.live
    have ap1592 : Apart T1525 T456 := (ap735.symm).grew g1547 B678.live
    have ap1593 : Apart T1525 T457 := (ap748.symm).grew g1547 B679.live
    have ap1594 : Apart T1525 T458 := (ap760.symm).grew g1547 B680.live
    have ap1595 : Apart T1525 (onB p320) := ap782.grew g1547 (onB_live B683.lt)
    have ap1596 : Apart T1525 T403 := ap783.grew g1547 B684.live
    have ap1597 : Apart T1525 T461 := ap784.grew g1547 B685.live
    replace hY1517 : Stc w1512 p1509 71 (chW (rcP l K (plN W 2) (el.i) ⟨(((foldQ l K W H pre).f 2).1), (((foldQ l K W H pre).f 2).2), ((foldQ l K W H pre).s)⟩)) := hY1517
    obtain ⟨s1623, s1624, s1626⟩ := t3 hF1521 6 s802 7 s803 9 s805
    have s1634 : F1511 14 = pt p1509 0 := (hF1521 14).trans (hA1519 12 rfl)
    have s1635 : F1511 15 = iv ((chAt l K (plN W 2) (el.i) ⟨(((foldQ l K W H pre).f 2).1), (((foldQ l K W H pre).f 2).2), ((foldQ l K W H pre).s)⟩).2.1) := (hF1521 15).trans (hV1520 14 (by decide) (by decide))
    clear hF1521 hV1520 hA1519 hN1518 hG1516
    refine then_normal (wq_seq (wq_seq (wq_region (wl_mv rfl rfl rfl s1635 (wl_v (.bool (decide (((chAt l K (plN W 2) (el.i) ⟨(((foldQ l K W H pre).f 2).1), (((foldQ l K W H pre).f 2).2), ((foldQ l K W H pre).s)⟩).2.1) ≠ 0))) rfl rfl (y_neqI rfl rfl rfl rfl rr) (wl_nil fun F1636 hF1637 => ?_))))))
    obtain ⟨s1643, s1644, s1646, s1654, s1655⟩ := t5 hF1637 6 s1623 7 s1624 9 s1626 14 s1634 15 s1635
    have s1656 : F1636 43 = .bool (decide (((chAt l K (plN W 2) (el.i) ⟨(((foldQ l K W H pre).f 2).1), (((foldQ l K W H pre).f 2).2), ((foldQ l K W H pre).s)⟩).2.1) ≠ 0)) := (hF1637 43).trans rfl
    clear hF1637
    refine then_normal ?_
    refine wq_cond s1656 (fun c1657 => ?_) (fun c1657 => ?_)
    ·replace c1657 := of_decide_eq_true c1657
     refine wq_seq ?_
     have hX := fq_bad (l := l) (k := K) hpv hN (show (chAt l K (plN W 2) el.i ((foldQ l K W H pre).at 2)).2.1 ≠ 0 from by assumption)
     refine wq_region (wl_mv rfl rfl rfl s1655 (wl_store_cel rfl rfl rfl s1643 rfl B1529 (by rfl) (by kernel_rfl) fun w1658 B1659 k1660 => ?_))
     have B1661 := B1526.all k1660 ap29.symm
     have B1662 := B1527.all k1660 (ap30.symm p1 rfl)
     have B1663 := B1528.all k1660 (ap31.symm p10 rfl)
     have B1664 := B1530.all k1660 (ap47 p36 rfl)
     have B1667 := B1532.all k1660 (ap179 p168 rfl)
     have B1674 := B1537.all k1660 (ap329 p320 rfl)
     have B1675 := B1538.all k1660 ap426
     have K1679 := K1541.trans k1660 (Grew.ok (S := fun i => (onB p21) i ∨ ((onB p36) i ∨ ((onB p116) i ∨ (T454 i ∨ (T455 i ∨ (T456 i ∨ (T457 i ∨ (T458 i ∨ (T459 i ∨ (T460 i ∨ (T461 i))))))))))) (Grew.refl w794 (onB p21)) (fun _ x => Or.inl x))
     refine wl_store_cel rfl rfl rfl s1644 rfl B1664 (by rfl) (by kernel_rfl) fun w1680 B1681 k1682 => ?_
     have B1683 := B1661.all k1682 ap44.symm
     have B1684 := B1662.all k1682 (ap45.symm p1 rfl)
     have B1685 := B1663.all k1682 (ap46.symm p10 rfl)
     have B1686 := B1659.all k1682 (ap47.symm p21 rfl)
     have B1689 := B1667.all k1682 (ap180 p168 rfl)
     have B1696 := B1674.all k1682 (ap330 p320 rfl)
     have B1697 := B1675.all k1682 ap427
     have K1701 := K1679.trans k1682 (Grew.ok (S := fun i => (onB p21) i ∨ ((onB p36) i ∨ ((onB p116) i ∨ (T454 i ∨ (T455 i ∨ (T456 i ∨ (T457 i ∨ (T458 i ∨ (T459 i ∨ (T460 i ∨ (T461 i))))))))))) (Grew.refl w794 (onB p36)) (fun _ x => Or.inr (Or.inl x)))
     refine wl_nil fun F1702 hF1703 => ?_
     clear hF1703
     refine then_normal (wq_ret (then_ret (in_ret ?_)))
     exact ⟨CellsB.keeps (CellsB.or B672.cells.cb (CellsB.or B673.cells.cb (CellsB.or B674.cells.cb (CellsB.or B675.cells.cb (CellsB.or (B677.cb B414.lt) (CellsB.or (B678.cb B415.lt) (CellsB.or (B679.cb B416.lt) (CellsB.or (B680.cb B417.lt) (CellsB.or (B681.cb B418.lt) (CellsB.or (B682.cb B419.lt) B685.cells.cb)))))))))) K1701, ⟨K668.trans K1701 (fun i hi x => (x.elim (fun y => ((Grew.ok (S := fun _ => False) gr28 noB_le) i hi y)) (fun y => (y.elim (fun y => ((Grew.ok (S := fun _ => False) gr43 noB_le) i hi y)) (fun y => (y.elim (fun y => ((Grew.ok (S := fun _ => False) gr123 noB_le) i hi y)) (fun y => (y.elim (fun y => ((Grew.ok (S := fun _ => False) gr686 noB_le) i hi y)) (fun y => (y.elim (fun y => ((Grew.ok (S := fun _ => False) gr687 noB_le) i hi y)) (fun y => (y.elim (fun y => ((Grew.ok (S := fun _ => False) gr688 noB_le) i hi y)) (fun y => (y.elim (fun y => ((Grew.ok (S := fun _ => False) gr689 noB_le) i hi y)) (fun y => (y.elim (fun y => ((Grew.ok (S := fun _ => False) gr690 noB_le) i hi y)) (fun y => (y.elim (fun y => ((Grew.ok (S := fun _ => False) gr691 noB_le) i hi y)) (fun y => (y.elim (fun y => ((Grew.ok (S := fun _ => False) gr692 noB_le) i hi y)) (fun y => ((Grew.ok (S := fun _ => False) gr693 noB_le) i hi y)))))))))))))))))))))), B1683, B1684, B1685, B1686, (by rw [hX]; exact B1681), B1689, B1696, B1697, (by rw [hX]; assumption)⟩⟩
    ·replace c1657 := of_decide_eq_false c1657
     refine wq_skip (then_normal ?_)
     have hce : (chAt l K (plN W 2) el.i ((foldQ l K W H pre).at 2)).2.1 = 0 := by first | assumption | (apply Decidable.byContradiction; assumption)
     have hX := fq_ok (l := l) (k := K) hpv hN hce
     have hol := fq_len (l := l) (k := K) pre
     refine wq_region (wl_v V rfl rfl (y_load_cel rfl s1646 Tryz.underlying32 B1531 rfl rr) (wl_v (.agg (chW (rcP l K (plN W 2) (el.i) ⟨(((foldQ l K W H pre).f 2).1), (((foldQ l K W H pre).f 2).2), ((foldQ l K W H pre).s)⟩)).toArray) rfl rfl (y_load_stc stcT_choice rfl s1654 hY1517 rr) (wl_builtRo (r := rCh) (xs := [.tmp 46]) (vs := [.agg (chW (rcP l K (plN W 2) (el.i) ⟨(((foldQ l K W H pre).f 2).1), (((foldQ l K W H pre).f 2).2), ((foldQ l K W H pre).s)⟩)).toArray]) (l := [rcP l K (plN W 2) (el.i) ⟨(((foldQ l K W H pre).f 2).1), (((foldQ l K W H pre).f 2).2), ((foldQ l K W H pre).s)⟩]) rfl rfl rfl rfl rfl (vsC rfl vsN) rfl (by first | decide | exact Nat.le_of_ble_eq_true rfl) (by first | decide | exact Nat.le_of_ble_eq_true rfl) fun v1707 w1708 T1712 B1710 g1711 k1709 => ?_)))
     have B1733 := B1526.all k1709 Apart.none
     have B1734 := B1527.all k1709 id
     have B1735 := B1528.all k1709 id
     have B1736 := B1529.all k1709 id
     have B1737 := B1530.all k1709 id
     have B1738 := B1531.all k1709 id
     have B1739 := B1542.all k1709 Apart.none
     have B1740 := B1532.all k1709 id
     have B1741 := B1533.all k1709 Apart.none
     have B1742 := B1534.all k1709 Apart.none
     have B1743 := B1535.all k1709 Apart.none
     have B1744 := B1536.all k1709 Apart.none
     have B1745 := B1543.all k1709 Apart.none
     have B1746 := B1544.all k1709 Apart.none
     have B1747 := B1537.all k1709 id
     have B1748 := B1538.all k1709 Apart.none
     have B1749 := B1539.all k1709 Apart.none
     have K1752 := K1541.tr k1709
     refine wl_appendRo (r := rCh) rfl rfl rfl rfl rfl rfl B1749 B1710.roa (by first | omega | (simp; done) | (simp; omega)) fun v1753 w1754 T1758 B1756 g1757 k1755 => ?_
     have gr1759 := Grew.trans (Grew.refl w794 T461) K1752 g1757
     have ap1760 : Apart T1758 T_b := ap785.grew g1757 B1733.live
     have ap1761 : Apart T1758 (onB p1) := ap786.grew g1757 (onB_live B1734.lt)
     have ap1762 : Apart T1758 (onB p10) := ap787.grew g1757 (onB_live B1735.lt)
     have ap1763 : Apart T1758 (onB p21) := ap788.grew g1757 (onB_live B1736.lt)
     have ap1764 : Apart T1758 (onB p36) := ap789.grew g1757 (onB_live B1737.lt)
     have ap1765 : Apart T1758 (onB p116) := ap790.grew g1757 (onB_live B1738.lt)
     have ap1766 : Apart T1758 T1523 := (ap1565.symm).grew g1757 B1739.live
     have ap1767 : Apart T1758 (onB p168) := ap791.grew g1757 (onB_live B1740.lt)
     have ap1768 : Apart T1758 T455 := (ap724.symm).grew g1757 B1741.live
     have ap1769 : Apart T1758 T456 := (ap738.symm).grew g1757 B1742.live
     have ap1770 : Apart T1758 T457 := (ap751.symm).grew g1757 B1743.live
     have ap1771 : Apart T1758 T458 := (ap763.symm).grew g1757 B1744.live
     have ap1772 : Apart T1758 T1524 := (ap1581.symm).grew g1757 B1745.live
     have ap1773 : Apart T1758 T1525 := (ap1597.symm).grew g1757 B1746.live
     have ap1774 : Apart T1758 (onB p320) := ap792.grew g1757 (onB_live B1747.lt)
     have ap1775 : Apart T1758 T403 := ap793.grew g1757 B1748.live
     have B1779 := B1733.all k1755 ap785.symm
     have B1780 := B1734.all k1755 (ap786.symm p1 rfl)
     have B1781 := B1735.all k1755 (ap787.symm p10 rfl)
     have B1782 := B1736.all k1755 (ap788.symm p21 rfl)
     have B1783 := B1737.all k1755 (ap789.symm p36 rfl)
     have B1784 := B1738.all k1755 (ap790.symm p116 rfl)
     have B1785 := B1739.all k1755 ap1565
     have B1786 := B1740.all k1755 (ap791.symm p168 rfl)
     have B1787 := B1741.all k1755 ap724
     have B1788 := B1742.all k1755 ap738
     have B1789 := B1743.all k1755 ap751
     have B1790 := B1744.all k1755 ap763
     have B1791 := B1745.all k1755 ap1581
     have B1792 := B1746.all k1755 ap1597
     have B1793 := B1747.all k1755 (ap792.symm p320 rfl)
     have B1794 := B1748.all k1755 ap793.symm
     have K1798 := K1752.trans k1755 (Grew.ok (S := fun i => (onB p21) i ∨ ((onB p36) i ∨ ((onB p116) i ∨ (T454 i ∨ (T455 i ∨ (T456 i ∨ (T457 i ∨ (T458 i ∨ (T459 i ∨ (T460 i ∨ (T461 i))))))))))) (Grew.refl w794 T461) (fun _ x => Or.inr (Or.inr (Or.inr (Or.inr (Or.inr (Or.inr (Or.inr (Or.inr (Or.inr (Or.inr x)))))))))))
     refine wl_store_cel rfl rfl rfl s1646 rfl B1784 B1756.oneC (by kernel_rfl) fun w1799 B1800 k1801 => ?_
     have B1802 := B1779.all k1801 ap124.symm
     have B1803 := B1780.all k1801 (ap125.symm p1 rfl)
     have B1804 := B1781.all k1801 (ap126.symm p10 rfl)
     have B1805 := B1782.all k1801 (ap127.symm p21 rfl)
     have B1806 := B1783.all k1801 (ap128.symm p36 rfl)
     have B1807 := B1785.all k1801 ap1557
     have B1808 := B1786.all k1801 (ap181 p168 rfl)
     have B1809 := B1787.all k1801 ap715
     have B1810 := B1788.all k1801 ap730
     have B1811 := B1789.all k1801 ap744
     have B1812 := B1790.all k1801 ap757
     have B1813 := B1791.all k1801 ap1573
     have B1814 := B1792.all k1801 ap1589
     have B1815 := B1793.all k1801 (ap331 p320 rfl)
     have B1816 := B1794.all k1801 ap428
     have B1820 := B1756.all k1801 ap1765
     have K1821 := K1798.trans k1801 (Grew.ok (S := fun i => (onB p21) i ∨ ((onB p36) i ∨ ((onB p116) i ∨ (T454 i ∨ (T455 i ∨ (T456 i ∨ (T457 i ∨ (T458 i ∨ (T459 i ∨ (T460 i ∨ (T461 i))))))))))) (Grew.refl w794 (onB p116)) (fun _ x => Or.inr (Or.inr (Or.inl x))))
     refine wl_nil fun F1822 hF1823 => ?_
     clear hF1823
     refine in_normal ?_
     exact ⟨CellsB.keeps (CellsB.or B672.cells.cb (CellsB.or B673.cells.cb (CellsB.or B674.cells.cb (CellsB.or B675.cells.cb (CellsB.or (B677.cb B414.lt) (CellsB.or (B678.cb B415.lt) (CellsB.or (B679.cb B416.lt) (CellsB.or (B680.cb B417.lt) (CellsB.or (B681.cb B418.lt) (CellsB.or (B682.cb B419.lt) B685.cells.cb)))))))))) K1821, K1821.mono (fun i hi x => (x.elim (fun y => fun e => ap426.symm i y (by rw [B684.1]; exact e)) (fun y => (y.elim (fun y => fun e => ap427.symm i y (by rw [B684.1]; exact e)) (fun y => (y.elim (fun y => fun e => ap428.symm i y (by rw [B684.1]; exact e)) (fun y => (y.elim (fun y => fun e => ap708 i y (by rw [B684.1]; exact e)) (fun y => (y.elim (fun y => fun e => ap723 i y (by rw [B684.1]; exact e)) (fun y => (y.elim (fun y => fun e => ap737 i y (by rw [B684.1]; exact e)) (fun y => (y.elim (fun y => fun e => ap750 i y (by rw [B684.1]; exact e)) (fun y => (y.elim (fun y => fun e => ap762 i y (by rw [B684.1]; exact e)) (fun y => (y.elim (fun y => fun e => ap773 i y (by rw [B684.1]; exact e)) (fun y => (y.elim (fun y => fun e => ap783 i y (by rw [B684.1]; exact e)) (fun y => (fun e => ap793 i y (by rw [B684.1]; exact e))))))))))))))))))))))), ⟨v1753, T1523, T455, T456, T457, T458, T1524, T1525, T1758, (hX.2.2.2.2), K668.trans K1821 (fun i hi x => (x.elim (fun y => ((Grew.ok (S := fun _ => False) gr28 noB_le) i hi y)) (fun y => (y.elim (fun y => ((Grew.ok (S := fun _ => False) gr43 noB_le) i hi y)) (fun y => (y.elim (fun y => ((Grew.ok (S := fun _ => False) gr123 noB_le) i hi y)) (fun y => (y.elim (fun y => ((Grew.ok (S := fun _ => False) gr686 noB_le) i hi y)) (fun y => (y.elim (fun y => ((Grew.ok (S := fun _ => False) gr687 noB_le) i hi y)) (fun y => (y.elim (fun y => ((Grew.ok (S := fun _ => False) gr688 noB_le) i hi y)) (fun y => (y.elim (fun y => ((Grew.ok (S := fun _ => False) gr689 noB_le) i hi y)) (fun y => (y.elim (fun y => ((Grew.ok (S := fun _ => False) gr690 noB_le) i hi y)) (fun y => (y.elim (fun y => ((Grew.ok (S := fun _ => False) gr691 noB_le) i hi y)) (fun y => (y.elim (fun y => ((Grew.ok (S := fun _ => False) gr692 noB_le) i hi y)) (fun y => ((Grew.ok (S := fun _ => False) gr693 noB_le) i hi y)))))))))))))))))))))), B1802, B1803, B1804, B1805, B1806, B1800, (by rw [hX.1]; exact B1807), B1808, (by first | (rw [hX.2.2.1]; exact B1809) | (rw [hX.2.2.2.1 0 (by decide)]; exact B1809)), (by first | (rw [hX.2.2.1]; exact B1810) | (rw [hX.2.2.2.1 0 (by decide)]; exact B1810)), (by first | (rw [hX.2.2.1]; exact B1811) | (rw [hX.2.2.2.1 1 (by decide)]; exact B1811)), (by first | (rw [hX.2.2.1]; exact B1812) | (rw [hX.2.2.2.1 1 (by decide)]; exact B1812)), (by first | (rw [hX.2.2.1]; exact B1813) | (rw [hX.2.2.2.1 2 (by decide)]; exact B1813)), (by first | (rw [hX.2.2.1]; exact B1814) | (rw [hX.2.2.2.1 2 (by decide)]; exact B1814)), B1815, B1816, (by rw [hX.2.1]; exact B1820), gr686.trans K668 gr1551, gr687.trans K668 (Grew.refl w794 T455), gr688.trans K668 (Grew.refl w794 T456), gr689.trans K668 (Grew.refl w794 T457), gr690.trans K668 (Grew.refl w794 T458), gr691.trans K668 gr1567, gr692.trans K668 gr1583, gr693.trans K668 gr1759, ap1552, ap1553, ap1554, ap1555, ap1556, ap1557, ap1558, ap1559, ap1560, ap1561, ap1562, ap1548, ap1549, ap1563, ap1564, ap1766.symm, ap710, ap711, ap712, ap713, ap714, ap715, ap716, ap717, ap718, ap719, ap1575.symm, ap1591.symm, ap722, ap723, ap1768.symm, ap725, ap726, ap727, ap728, ap729, ap730, ap731, ap732, ap733, ap1576.symm, ap1592.symm, ap736, ap737, ap1769.symm, ap739, ap740, ap741, ap742, ap743, ap744, ap745, ap746, ap1577.symm, ap1593.symm, ap749, ap750, ap1770.symm, ap752, ap753, ap754, ap755, ap756, ap757, ap758, ap1578.symm, ap1594.symm, ap761, ap762, ap1771.symm, ap1568, ap1569, ap1570, ap1571, ap1572, ap1573, ap1574, ap1550, ap1579, ap1580, ap1772.symm, ap1584, ap1585, ap1586, ap1587, ap1588, ap1589, ap1590, ap1595, ap1596, ap1773.symm, ap1760, ap1761, ap1762, ap1763, ap1764, ap1765, ap1767, ap1774, ap1775⟩⟩
  ·rintro D1969 xs_ w1970 d1971 hS_ ⟨V, T454, T455, T456, T457, T458, T459, T460, T461, hN, K1843, B1844, B1845, B1846, B1847, B1848, B1849, B1850, B1851, B1852, B1853, B1854, B1855, B1856, B1857, B1858, B1859, B1860, gr1861, gr1862, gr1863, gr1864, gr1865, gr1866, gr1867, gr1868, ap1869, ap1870, ap1871, ap1872, ap1873, ap1874, ap1875, ap1876, ap1877, ap1878, ap1879, ap1880, ap1881, ap1882, ap1883, ap1884, ap1885, ap1886, ap1887, ap1888, ap1889, ap1890, ap1891, ap1892, ap1893, ap1894, ap1895, ap1896, ap1897, ap1898, ap1899, ap1900, ap1901, ap1902, ap1903, ap1904, ap1905, ap1906, ap1907, ap1908, ap1909, ap1910, ap1911, ap1912, ap1913, ap1914, ap1915, ap1916, ap1917, ap1918, ap1919, ap1920, ap1921, ap1922, ap1923, ap1924, ap1925, ap1926, ap1927, ap1928, ap1929, ap1930, ap1931, ap1932, ap1933, ap1934, ap1935, ap1936, ap1937, ap1938, ap1939, ap1940, ap1941, ap1942, ap1943, ap1944, ap1945, ap1946, ap1947, ap1948, ap1949, ap1950, ap1951, ap1952, ap1953, ap1954, ap1955, ap1956, ap1957, ap1958, ap1959, ap1960, ap1961, ap1962, ap1963, ap1964, ap1965, ap1966, ap1967, ap1968⟩ B1972
   subst hS_
   have B1972 : Mrk w1970 D1969 := B1972
   have gr1973 : Grew w0 noB (onB D1969) := onB_new (Nat.le_trans K421.size d1971)
   have ap1977 : Apart (onB D1969) (onB p21) := Mrk.far d1971 (onB_live B409.lt)
   have ap1978 : Apart (onB D1969) (onB p36) := Mrk.far d1971 (onB_live B410.lt)
   have ap1990 : Apart (onB D1969) T461 := Mrk.apart B1972 B1860.cells
   have s1991 : markV (D1969 :: marksOf (F438 53)) = markV [D1969] := congrArg (fun z => markV (D1969 :: marksOf z)) s443
   refine in_normal (then_normal (wq_seq (wq_seq (wq_region (wl_v (pt v148 0) rfl rfl (y_load_cel rfl s451 Tryz.underlying54 B1851 rfl rr) (wl_cs rfl rfl rfl rfl rfl (fun _ _ => by kernel_rfl) (vsC rfl vsN) (t_done v148 l ((foldQ l K W H (spTo W H 3)).s) T454 _  B1850 ) fun w1992 k1993 => ?_))))))
   have B1997 := B1847.all k1993 id
   have B1998 := B1848.all k1993 id
   have B1999 := B1849.all k1993 id
   have B2010 := B1860.all k1993 Apart.none
   have B2011 := B1972.all k1993 id
   have K2012 := K1843.tr k1993
   refine wl_v (.bool (decide ((doneOf l ((foldQ l K W H (spTo W H 3)).s)) ≠ 0))) rfl rfl (y_neqI rfl rfl rfl rfl rr) (wl_nil fun F2013 hF2014 => ?_)
   obtain ⟨s2015, s2016, s2017, s2018⟩ := t4 hF2014 53 s1991 6 s446 7 s447 9 s450
   have s2019 : F2013 51 = .bool (decide ((doneOf l ((foldQ l K W H (spTo W H 3)).s)) ≠ 0)) := (hF2014 51).trans rfl
   clear hF2014
   refine then_normal ?_
   refine wq_cond s2019 (fun c2020 => ?_) (fun c2020 => ?_)
   ·replace c2020 := of_decide_eq_true c2020
    refine wq_seq ?_
    have hR := (chs_done hm hN).1 (by assumption)
    refine wq_region (wl_store_cel rfl rfl rfl s2016 rfl B1997 (by rfl) (by kernel_rfl) fun w2021 B2022 k2023 => ?_)
    have B2027 := B1998.all k2023 (ap47 p36 rfl)
    have B2040 := B2011.all k2023 (ap1977 D1969 rfl)
    have K2041 := K2012.trans k2023 (Grew.ok (S := fun _ => False) gr28 noB_le)
    refine wl_store_cel rfl rfl rfl s2017 rfl B2027 (by rfl) (by kernel_rfl) fun w2042 B2043 k2044 => ?_
    have B2048 := B2022.all k2044 (ap47.symm p21 rfl)
    have B2061 := B2040.all k2044 (ap1978 D1969 rfl)
    have K2062 := K2041.trans k2044 (Grew.ok (S := fun _ => False) gr43 noB_le)
    refine wl_nil fun F2063 hF2064 => ?_
    obtain ⟨s2065, s2066, s2067⟩ := t3 hF2064 53 s2015 6 s2016 7 s2017
    clear hF2064
    refine then_normal (wq_ret (then_ret ?_))
    have k2068 := kept_shut w2042 D1969
    have B2073 := B2048.all k2068 (ap1977.symm p21 rfl)
    have B2074 := B2043.all k2068 (ap1978.symm p36 rfl)
    have K2069 := K2062.trans k2068 (Grew.ok (S := fun _ => False) gr1973 noB_le)
    exact endm_2 (ms := [D1969]) s2065 B2061.opens rfl (res_cel Tryz.underlying32 rfl rfl s2066 B2073) (res_cel Tryz.underlying33 rfl rfl s2067 B2074) ⟨(.slice none 0 0), noB, (by first | (rw [hR, chk_no hmn]; rfl) | (rw [hR]; rfl) | (rw [chs_stop hm hpf hne]; rfl) | rw [hR, chk_no hmn] | rw [hR] | rw [chs_stop hm hpf hne]), K2069, ⟨(by first | (rw [hR]; exact (RoO.nil rCh _)) | (rw [chs_stop hm hpf hne]; exact (RoO.nil rCh _))), (Grew.refl _ _)⟩⟩
   ·replace c2020 := of_decide_eq_false c2020
    refine wq_skip (then_normal (wq_seq ?_))
    have hR := (chs_done hm hN).2 (by first | assumption | (apply Decidable.byContradiction; assumption))
    refine wq_region (wl_v V rfl rfl (y_load_cel rfl s2018 Tryz.underlying32 B1999 rfl rr) (wl_store_cel rfl rfl rfl s2016 rfl B1997 B2010.oneC (by kernel_rfl) fun w2087 B2088 k2089 => ?_))
    have B2093 := B1998.all k2089 (ap47 p36 rfl)
    have B2105 := B2010.all k2089 ap1963
    have B2106 := B2011.all k2089 (ap1977 D1969 rfl)
    have K2107 := K2012.trans k2089 (Grew.ok (S := fun _ => False) gr28 noB_le)
    refine wl_store_cel rfl rfl rfl s2017 rfl B2093 (by rfl) (by kernel_rfl) fun w2108 B2109 k2110 => ?_
    have B2114 := B2088.all k2110 (ap47.symm p21 rfl)
    have B2126 := B2105.all k2110 ap1964
    have B2127 := B2106.all k2110 (ap1978 D1969 rfl)
    have K2128 := K2107.trans k2110 (Grew.ok (S := fun _ => False) gr43 noB_le)
    refine wl_nil fun F2129 hF2130 => ?_
    obtain ⟨s2131, s2132, s2133⟩ := t3 hF2130 53 s2015 6 s2016 7 s2017
    clear hF2130
    refine then_normal (wq_ret ?_)
    have k2134 := kept_shut w2108 D1969
    have B2139 := B2114.all k2134 (ap1977.symm p21 rfl)
    have B2140 := B2109.all k2134 (ap1978.symm p36 rfl)
    have B2152 := B2126.all k2134 ap1990.symm
    have K2135 := K2128.trans k2134 (Grew.ok (S := fun _ => False) gr1973 noB_le)
    exact endm_2 (ms := [D1969]) s2131 B2127.opens rfl (res_cel Tryz.underlying32 rfl rfl s2132 B2139) (res_cel Tryz.underlying33 rfl rfl s2133 B2140) ⟨V, T461, (by first | (rw [hR, chk_no hmn]; rfl) | (rw [hR]; rfl) | (rw [chs_stop hm hpf hne]; rfl) | rw [hR, chk_no hmn] | rw [hR] | rw [chs_stop hm hpf hne]), K2135, ⟨(by first | (rw [hR]; exact B2152) | (rw [chs_stop hm hpf hne]; exact B2152)), gr1868⟩⟩
  ·rintro D2162 pre w2163 d2164 hpf ⟨K2153, B2154, B2155, B2156, B2157, B2158, B2159, B2160, B2161, hne⟩ B2165
   have B2165 : Mrk w2163 D2162 := B2165
   have gr2166 : Grew w0 noB (onB D2162) := onB_new (Nat.le_trans K421.size d2164)
   have ap2170 : Apart (onB D2162) (onB p21) := Mrk.far d2164 (onB_live B409.lt)
   have ap2171 : Apart (onB D2162) (onB p36) := Mrk.far d2164 (onB_live B410.lt)
   have s2175 : markV (D2162 :: marksOf (F438 53)) = markV [D2162] := congrArg (fun z => markV (D2162 :: marksOf z)) s443
   refine in_ret (then_ret ?_)
   have k2176 := kept_shut w2163 D2162
   have B2181 := B2157.all k2176 (ap2170.symm p21 rfl)
   have B2182 := B2158.all k2176 (ap2171.symm p36 rfl)
   have K2177 := K2153.trans k2176 (Grew.ok (S := fun _ => False) gr2166 noB_le)
   exact endm_2 (ms := [D2162]) s2175 B2165.opens rfl (res_cel Tryz.underlying32 rfl rfl s446 B2181) (res_cel Tryz.underlying33 rfl rfl s447 B2182) ⟨(.slice none 0 0), noB, (by first | (rw [hR, chk_no hmn]; rfl) | (rw [hR]; rfl) | (rw [chs_stop hm hpf hne]; rfl) | rw [hR, chk_no hmn] | rw [hR] | rw [chs_stop hm hpf hne]), K2177, ⟨(by first | (rw [hR]; exact (RoO.nil rCh _)) | (rw [chs_stop hm hpf hne]; exact (RoO.nil rCh _))), (Grew.refl _ _)⟩⟩
end Go.Proofs.YtknjpdcpmpfklaaGreatDoor
set_option maxRecDepth 100000
namespace Go.Proofs.YtknjpdcpmpfklaaGreatDoor
open Go.RowKit
def MayC (k : Int) (c : Ch) : Prop := 0 ≤ c.m ∧ c.m ≤ mostK k ∧ vecOk c.px c.py ∧ vecOk c.nx c.ny
theorem vec_0 : vecOk 0 0 := by decide
theorem vr_vec {l : List Nat} {gx gy : Int} {s : Option Nat} : vecOk (vrX l gx gy s) (vrY l gx gy s) := by
  by_cases h : rdOk l gx gy s
  · rw [(vr_yes h).1, (vr_yes h).2.1]; exact h.2
  · rw [(vr_no h).1, (vr_no h).2.1]; exact vec_0
theorem stV_vec {has : Bool} {l : List Nat} {gx gy : Int} {s : Option Nat} : vecOk (stV has l gx gy s).1 (stV has l gx gy s).2.1 := by
  cases has with
  | true => rw [stV_yes rfl]; exact vr_vec
  | false => rw [stV_no rfl]; exact vec_0
theorem rdCh_may {l : List Nat} {k ax ay bx yy : Int} {st : Option Nat} (hk : 0 ≤ mostK k) (h : (rdCh l k ax ay bx yy st).2.1 = 0) : MayC k (rdCh l k ax ay bx yy st).1 := by
  have hw := rdStep_whole_le l (mostK k) hk st
  revert h
  unfold rdCh
  generalize rdStep (wholeRd l (mostK k)) st = m at hw ⊢
  unfold rd1
  split
  · intro h; cases h
  · unfold rd2
    split
    · unfold rd3
      split
      · unfold rd4
        split
        · intro _; exact ⟨hw.1, hw.2, stV_vec, stV_vec⟩
        · intro h; exact absurd h (by assumption)
      · intro h; exact absurd h (by assumption)
    · intro h; exact absurd h (by assumption)
theorem runP_may {l : List Nat} {k : Int} {w : Nat} (hk : 0 ≤ mostK k) : ∀ (m i : Nat) (t : PSt) (o : List Ch), (∀ c ∈ o, MayC k c) → ∀ c ∈ (runP l k w m i t o).1, MayC k c := by
  intro m
  induction m with
  | zero => intro i t o h; exact h
  | succ m ih =>
    intro i t o h
    by_cases hc : (chAt l k w i t).2.1 = 0
    · rw [runP_yes hc]
      refine ih _ _ _ fun c hcm => ?_
      rcases List.mem_append.1 hcm with z | z
      · exact h c z
      · rw [List.mem_singleton.1 z]; exact rdCh_may hk hc
    · rw [runP_no hc]; intro c z; cases z
theorem plTo_may {l : List Nat} {k W H : Int} (hk : 0 ≤ mostK k) : ∀ p, ∀ c ∈ (plTo l k W H p).1, MayC k c := by
  intro p
  induction p with
  | zero => intro c z; cases z
  | succ p ih =>
    by_cases hc : (plTo l k W H p).2.1 = 0
    · rw [plTo_yes hc]; exact runP_may hk _ _ _ _ ih
    · rw [plTo_no hc]; exact ih
theorem chsP_may {l : List Nat} {k W H : Int} (hk : 0 ≤ mostK k) : ∀ c ∈ (chsP l k W H).1, MayC k c := by
  unfold chsP
  split
  · split
    · exact plTo_may hk 3
    · intro c z; cases z
  · intro c z; cases z
theorem most_pos {K Q D F : Int} (h : headOk K Q D F) : 0 ≤ mostK K := by
  have h1 := h.1; have h2 := h.2.1
  unfold mostK; split; omega; split; omega; split; omega; omega
theorem getD_in {α : Type} {L : List α} {d : α} {i : Nat} (h : i < L.length) : L.getD i d ∈ L := by
  rw [List.getD_eq_getElem?_getD, List.getElem?_eq_getElem h]; exact List.getElem_mem h
theorem cpE_may {W H R B K : Int} {F g h : FD} {c : Ch} {p i : Nat} (hF : okF F) (hW : F.W = W) (hH : F.H = H) (hn : ¬ ((K ≠ 0 ∧ ¬ fitsP W H R B g) ∨ (K = 2 ∧ ¬ fitsP W H R B h))) (hK : 0 ≤ K ∧ K ≤ 2) (hc : MayC K c) (hp : p < 3) (hi : i < plN W p * plN H p) :
    cpE F g h (p : Int) (4 * pX (plN W p) i) (4 * pY (plN W p) i) c = 0 := by
  obtain ⟨m0, m1, v1, v2⟩ := hc
  have pos : ∀ {f : FD}, okF f → f.W = W → f.H = H → placeF f (p : Int) (4 * pX (plN W p) i) (4 * pY (plN W p) i) := fun {f} ho e1 e2 => by
    subst e1; subst e2
    refine place_blk ho hp hi ?_
    rcases Nat.eq_zero_or_pos (plN f.W p) with z | z
    · rw [z, Nat.zero_mul] at hi; omega
    · exact z
  have hpF := pos hF hW hH
  have fitg : K ≠ 0 → placeF g (p : Int) (4 * pX (plN W p) i) (4 * pY (plN W p) i) := fun hk => by
    have hf : fitsP W H R B g := Decidable.byContradiction fun z => hn (Or.inl ⟨hk, z⟩)
    exact pos hf.2.1 hf.2.2.1.symm hf.2.2.2.symm
  have fith : K = 2 → placeF h (p : Int) (4 * pX (plN W p) i) (4 * pY (plN W p) i) := fun hk => by
    have hf : fitsP W H R B h := Decidable.byContradiction fun z => hn (Or.inr ⟨hk, z⟩)
    exact pos hf.2.1 hf.2.2.1.symm hf.2.2.2.symm
  have hm : mostK K = 3 ∧ K = 0 ∨ mostK K = 4 ∧ K = 1 ∨ mostK K = 6 ∧ K = 2 := by
    unfold mostK
    rcases (show K = 0 ∨ K = 1 ∨ K = 2 by omega) with rfl | rfl | rfl <;> decide
  have e1 : K ≠ 0 → mvE g (p : Int) (4 * pX (plN W p) i) (4 * pY (plN W p) i) c.px c.py = 0 := fun hk => (if_pos (fitg hk)).trans (vecE_yes v1)
  have e2 : K = 2 → mvE h (p : Int) (4 * pX (plN W p) i) (4 * pY (plN W p) i) c.nx c.ny = 0 := fun hk => (if_pos (fith hk)).trans (vecE_yes v2)
  by_cases h3 : c.m < 4
  · rw [(cp_own ⟨m0, h3⟩).2]
    exact (if_pos hpF).trans (if_pos ⟨m0, by omega⟩)
  · by_cases h4 : c.m = 4
    · rw [(cp_past h4).2]; exact e1 (by omega)
    · by_cases h5 : c.m = 5
      · rw [(cp_next h5).2]; exact e2 (by omega)
      · have h6 : c.m = 6 := by omega
        exact (cp_both h6 (e1 (by omega)) (e2 (by omega))).2
def stepD {W H : Int} (g h : FD) (q : Int) (L : List Ch) (F : FD) (x : Spt W H) : FD := decB g h q (x.p : Int) (plN W x.p) x.i (L.getD x.m chZ) F
def foldD (g h : FD) (q W H : Int) (L : List Ch) (pre : List (Spt W H)) : FD := pre.foldl (stepD g h q L) (newF W H 0)
theorem fd_snoc {g h : FD} {q W H : Int} {L : List Ch} (pre : List (Spt W H)) (x : Spt W H) : foldD g h q W H L (pre ++ [x]) = decB g h q (x.p : Int) (plN W x.p) x.i (L.getD x.m chZ) (foldD g h q W H L pre) := by
  unfold foldD; rw [List.foldl_append]; rfl
theorem fd_ok {g h : FD} {q W H : Int} {L : List Ch} (hW : sideOk W) (hH : sideOk H) : ∀ (pre : List (Spt W H)), okF (foldD g h q W H L pre) ∧ (foldD g h q W H L pre).W = W ∧ (foldD g h q W H L pre).H = H := by
  have key : ∀ (pre : List (Spt W H)) (F : FD), (okF F ∧ F.W = W ∧ F.H = H) → okF (pre.foldl (stepD g h q L) F) ∧ (pre.foldl (stepD g h q L) F).W = W ∧ (pre.foldl (stepD g h q L) F).H = H := by
    intro pre
    induction pre with
    | nil => intro F h; exact h
    | cons x r ih =>
      intro F hF
      rw [List.foldl_cons]
      refine ih _ ?_
      unfold stepD decB
      have hsd := put_side F (x.p : Int) (4 * pX (plN W x.p) x.i) (4 * pY (plN W x.p) x.i) (buB (cpB F g h (x.p : Int) (4 * pX (plN W x.p) x.i) (4 * pY (plN W x.p) x.i) (L.getD x.m chZ)) (L.getD x.m chZ).b q) 16
      rw [copyF_yes hF.1] at hsd
      exact ⟨put_ok hF.1 _ _ _ _ 16, hsd.1.trans hF.2.1, hsd.2.1.trans hF.2.2⟩
  intro pre
  exact key pre _ ⟨new_ok 0 (sideB_of hW) (sideB_of hH), by rw [newF_yes 0 (sideB_of hW) (sideB_of hH)], by rw [newF_yes 0 (sideB_of hW) (sideB_of hH)]⟩
theorem fd_plane {g h : FD} {q W H : Int} {L : List Ch} {p : Nat} (hp : p < 3) (F : FD) : ∀ n, n ≤ plN W p * plN H p → (spP W H p n).foldl (stepD g h q L) F = decTo g h q p (plN W p) L (plOff W H p) F n := by
  intro n
  induction n with
  | zero => intro _; rfl
  | succ n ih =>
    intro hn
    rw [spP_next hp (by omega), List.foldl_append, List.foldl_cons, List.foldl_nil, ih (by omega)]
    rfl
theorem fd_all {g h : FD} {q W H : Int} {L : List Ch} : ∀ p, p ≤ 3 → foldD g h q W H L (spTo W H p) = frTo g h q W H L p := by
  intro p
  induction p with
  | zero => intro _; rfl
  | succ p ih =>
    intro hp
    have e : foldD g h q W H L (spTo W H (p + 1)) = (spP W H p (plN W p * plN H p)).foldl (stepD g h q L) (foldD g h q W H L (spTo W H p)) := by
      unfold foldD; rw [spTo, List.foldl_append]
    rw [e, ih (by omega), fd_plane (by omega) _ _ (Nat.le_refl _)]
    rfl
end Go.Proofs.YtknjpdcpmpfklaaGreatDoor
