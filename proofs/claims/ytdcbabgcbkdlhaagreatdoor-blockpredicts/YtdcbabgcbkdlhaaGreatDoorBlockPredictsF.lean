/- What BlockPredicts reaches of my texts, part 6. -/
import Derived.Test.YtdcbabgcbkdlhaaGreatDoorBlockPredictsE
set_option maxRecDepth 100000
set_option maxHeartbeats 4000000
set_option maxRecDepth 100000
namespace Go.Proofs.YtdcbabgcbkdlhaaGreatDoor
open Go.RowKit
def tR (R : List (Nat × Option Nat)) : Nat → Prop := fun i => ∃ x ∈ R, i = x.1
def Rdx (w : World) (T : Nat → Prop) (q : Nat) (l : List Nat) (st : Option Nat) (R : List (Nat × Option Nat)) : Prop :=
  Fair l ∧ ∃ g, (∀ i, T i ↔ (onB q i ∨ onB g i ∨ tR R i)) ∧ (q :: R.map (·.1)).Nodup ∧ RdIs w q g l st ∧ ∀ x ∈ R, RdIs w x.1 g l x.2
theorem Rdx.live {w : World} {T : Nat → Prop} {q : Nat} {l : List Nat} {st : Option Nat} {R : List (Nat × Option Nat)} (h : Rdx w T q l st R) : Live w T := by
  obtain ⟨_, g, hT, _, h1, h2⟩ := h
  intro i hi
  rcases (hT i).1 hi with e | e | ⟨x, hx, e⟩
  · cases e; exact h1.lt.1
  · cases e; exact h1.lt.2.1
  · subst e; exact (h2 x hx).lt.1
theorem Rdx.all {S : Nat → Prop} {w w' : World} {T : Nat → Prop} {q : Nat} {l : List Nat} {st : Option Nat} {R : List (Nat × Option Nat)} (h : Rdx w T q l st R) (k : Kept S w w') (ha : Apart T S) : Rdx w' T q l st R := by
  obtain ⟨hf, g, hT, hn, h1, h2⟩ := h
  have nq := ha q ((hT q).2 (.inl rfl))
  have ng := ha g ((hT g).2 (.inr (.inl rfl)))
  exact ⟨hf, g, hT, hn, h1.kept k nq ng, fun x hx => (h2 x hx).kept k (ha x.1 ((hT _).2 (.inr (.inr ⟨x, hx, rfl⟩)))) ng⟩
def Rst (w : World) (T : Nat → Prop) (R : List (Nat × Option Nat)) (g : Nat) (l : List Nat) : Prop :=
  T = tR R ∧ (R.map (·.1)).Nodup ∧ ∀ x ∈ R, g ≠ x.1 ∧ ∃ (a : Nat) (b : Bool), okR l x.2 a b ∧ Stc w x.1 72 [.slice (some ⟨g, 0, none⟩) l.length l.length, .int .i64 (a : Int), .bool b]
theorem Rst.live {w : World} {T : Nat → Prop} {R : List (Nat × Option Nat)} {g : Nat} {l : List Nat} (h : Rst w T R g l) : Live w T := by
  obtain ⟨rfl, _, h⟩ := h
  rintro i ⟨x, hx, rfl⟩
  obtain ⟨_, a, b, _, hs⟩ := h x hx
  exact lt_of_heap hs
theorem Rst.all {S : Nat → Prop} {w w' : World} {T : Nat → Prop} {R : List (Nat × Option Nat)} {g : Nat} {l : List Nat} (h : Rst w T R g l) (k : Kept S w w') (ha : Apart T S) : Rst w' T R g l := by
  obtain ⟨rfl, hn, h⟩ := h
  refine ⟨rfl, hn, fun x hx => ?_⟩
  obtain ⟨hg, a, b, ho, hs⟩ := h x hx
  exact ⟨hg, a, b, ho, hs.all k (ha x.1 ⟨x, hx, rfl⟩)⟩
theorem rdx_open {w : World} {T : Nat → Prop} {q : Nat} {l : List Nat} {st : Option Nat} {R : List (Nat × Option Nat)} (h : Rdx w T q l st R) : ∃ (g a : Nat) (b : Bool), Fair l ∧ (∀ i, T i ↔ (onB q i ∨ onB g i ∨ tR R i)) ∧ okR l st a b ∧
    Stc w q 72 [.slice (some ⟨g, 0, none⟩) l.length l.length, .int .i64 (a : Int), .bool b] ∧ Rby w (onB g) g l ∧ Rst w (tR R) R g l ∧ Apart (onB q) (onB g) ∧ Apart (onB q) (tR R) ∧ Apart (onB g) (tR R) := by
  obtain ⟨hf, g, hT, hn, h1, h2⟩ := h
  obtain ⟨a, b, u1, u2, u3, u4⟩ := rdis_open h1
  refine ⟨g, a, b, hf, hT, u1, u2, u3, ⟨rfl, (List.nodup_cons.1 hn).2, fun x hx => ?_⟩, u4, ?_, ?_⟩
  · obtain ⟨c, d, v1, v2, v3, v4⟩ := rdis_open (h2 x hx)
    exact ⟨(h2 x hx).lt.2.2, c, d, v1, v2⟩
  · rintro i e ⟨x, hx, e2⟩
    cases e
    exact (List.nodup_cons.1 hn).1 (e2 ▸ List.mem_map.2 ⟨x, hx, rfl⟩)
  · rintro i e ⟨x, hx, e2⟩
    cases e
    exact (h2 x hx).lt.2.2 e2
theorem rst_is {w : World} {T : Nat → Prop} {R : List (Nat × Option Nat)} {g : Nat} {l : List Nat} (h : Rst w T R g l) (hg : Rby w (onB g) g l) : ∀ x ∈ R, RdIs w x.1 g l x.2 := fun x hx => by
  obtain ⟨_, _, h⟩ := h
  obtain ⟨hne, a, b, ho, hs⟩ := h x hx
  exact rdis_close ho hs hg (fun i e1 e2 => hne (e2.symm.trans e1))
theorem rdx_close {w : World} {q g : Nat} {l : List Nat} {st : Option Nat} {a : Nat} {b : Bool} {R : List (Nat × Option Nat)} {T1 : Nat → Prop} (hf : Fair l) (ho : okR l st a b) (h1 : Stc w q 72 [.slice (some ⟨g, 0, none⟩) l.length l.length, .int .i64 (a : Int), .bool b]) (h2 : Rby w (onB g) g l) (h3 : Rst w T1 R g l) (a1 : Apart (onB q) (onB g)) (a2 : Apart (onB q) T1) :
    Rdx w (fun i => onB q i ∨ onB g i ∨ T1 i) q l st R := by
  obtain ⟨rfl, hn, h4⟩ := h3
  refine ⟨hf, g, fun _ => Iff.rfl, List.nodup_cons.2 ⟨fun hm => ?_, hn⟩, rdis_close ho h1 h2 a1, rst_is ⟨rfl, hn, h4⟩ h2⟩
  obtain ⟨x, hx, e⟩ := List.mem_map.1 hm
  exact a2 q rfl ⟨x, hx, e.symm⟩
theorem rdx_push {w : World} {q c g : Nat} {l : List Nat} {st : Option Nat} {a : Nat} {b : Bool} {R : List (Nat × Option Nat)} {T1 : Nat → Prop} (hf : Fair l) (ho : okR l st a b) (h1 : Stc w q 72 [.slice (some ⟨g, 0, none⟩) l.length l.length, .int .i64 (a : Int), .bool b]) (h2 : Stc w c 72 [.slice (some ⟨g, 0, none⟩) l.length l.length, .int .i64 (a : Int), .bool b]) (h3 : Rby w (onB g) g l) (h4 : Rst w T1 R g l)
    (a1 : Apart (onB q) (onB c)) (a2 : Apart (onB q) (onB g)) (a3 : Apart (onB q) T1) (a4 : Apart (onB c) (onB g)) (a5 : Apart (onB c) T1) : Rdx w (fun i => onB q i ∨ onB c i ∨ onB g i ∨ T1 i) c l st ((q, st) :: R) := by
  obtain ⟨rfl, hn, h5⟩ := h4
  refine ⟨hf, g, fun i => ?_, ?_, rdis_close ho h2 h3 a4, fun x hx => ?_⟩
  · have e : tR ((q, st) :: R) i ↔ (onB q i ∨ tR R i) := by
      unfold tR onB; simp
    rw [e]
    constructor
    · rintro (h | h | h | h)
      · exact .inr (.inr (.inl h))
      · exact .inl h
      · exact .inr (.inl h)
      · exact .inr (.inr (.inr h))
    · rintro (h | h | h | h)
      · exact .inr (.inl h)
      · exact .inr (.inr (.inl h))
      · exact .inl h
      · exact .inr (.inr (.inr h))
  · refine List.nodup_cons.2 ⟨fun hm => ?_, List.nodup_cons.2 ⟨fun hm => ?_, hn⟩⟩
    · rcases List.mem_cons.1 hm with e | hm
      · exact a1 q rfl e.symm
      · obtain ⟨x, hx, e⟩ := List.mem_map.1 hm; exact a5 c rfl ⟨x, hx, e.symm⟩
    · obtain ⟨x, hx, e⟩ := List.mem_map.1 hm; exact a3 q rfl ⟨x, hx, e.symm⟩
  · rcases List.mem_cons.1 hx with rfl | hx
    · exact rdis_close ho h1 h3 a2
    · exact rst_is ⟨rfl, hn, h5⟩ h3 x hx
theorem rst_nil (w : World) (g : Nat) (l : List Nat) : Rst w (tR []) [] g l := ⟨rfl, List.nodup_nil, fun x hx => by cases hx⟩
theorem rdx_push0 {w : World} {q c g : Nat} {l : List Nat} {st : Option Nat} {a : Nat} {b : Bool} (hf : Fair l) (ho : okR l st a b) (h1 : Stc w q 72 [.slice (some ⟨g, 0, none⟩) l.length l.length, .int .i64 (a : Int), .bool b]) (h2 : Stc w c 72 [.slice (some ⟨g, 0, none⟩) l.length l.length, .int .i64 (a : Int), .bool b]) (h3 : Rby w (onB g) g l)
    (a1 : Apart (onB q) (onB c)) (a2 : Apart (onB q) (onB g)) (a4 : Apart (onB c) (onB g)) : Rdx w (fun i => onB q i ∨ onB c i ∨ onB g i) c l st [(q, st)] := by
  have no : ∀ {T : Nat → Prop}, Apart T (tR []) := fun i _ h => by obtain ⟨x, hx, _⟩ := h; cases hx
  obtain ⟨_, g', hT, hn, h5, h6⟩ := rdx_push hf ho h1 h2 h3 (rst_nil w g l) a1 a2 no a4 no
  refine ⟨hf, g', fun i => ?_, hn, h5, h6⟩
  have e : ¬ tR [] i := fun h => by obtain ⟨x, hx, _⟩ := h; cases hx
  rw [← hT i]
  constructor
  · rintro (h | h | h)
    · exact .inl h
    · exact .inr (.inl h)
    · exact .inr (.inr (.inl h))
  · rintro (h | h | h | h)
    · exact .inl h
    · exact .inr (.inl h)
    · exact .inr (.inr h)
    · exact absurd h e
theorem rdx_pop {w : World} {T : Nat → Prop} {q c : Nat} {l : List Nat} {st1 st : Option Nat} {R : List (Nat × Option Nat)} (h : Rdx w T c l st ((q, st1) :: R)) : ∃ (g a1 : Nat) (b1 : Bool) (a2 : Nat) (b2 : Bool), Fair l ∧ (∀ i, T i ↔ (onB q i ∨ onB c i ∨ onB g i ∨ tR R i)) ∧ okR l st1 a1 b1 ∧ okR l st a2 b2 ∧
    Stc w q 72 [.slice (some ⟨g, 0, none⟩) l.length l.length, .int .i64 (a1 : Int), .bool b1] ∧ Stc w c 72 [.slice (some ⟨g, 0, none⟩) l.length l.length, .int .i64 (a2 : Int), .bool b2] ∧ Rby w (onB g) g l ∧ Rst w (tR R) R g l ∧
    Apart (onB q) (onB c) ∧ Apart (onB q) (onB g) ∧ Apart (onB q) (tR R) ∧ Apart (onB c) (onB g) ∧ Apart (onB c) (tR R) ∧ Apart (onB g) (tR R) := by
  obtain ⟨hf, g, hT, hn, h1, h2⟩ := h
  have e : ∀ i, tR ((q, st1) :: R) i ↔ (onB q i ∨ tR R i) := fun i => by unfold tR onB; simp
  obtain ⟨n1, n2⟩ := List.nodup_cons.1 hn
  obtain ⟨n3, n4⟩ := List.nodup_cons.1 n2
  obtain ⟨a1, b1, u1, u2, u3, u4⟩ := rdis_open (h2 (q, st1) (List.mem_cons_self ..))
  obtain ⟨a2, b2, v1, v2, v3, v4⟩ := rdis_open h1
  have hR : ∀ x ∈ R, RdIs w x.1 g l x.2 := fun x hx => h2 x (List.mem_cons_of_mem _ hx)
  refine ⟨g, a1, b1, a2, b2, hf, fun i => ?_, u1, v1, u2, v2, u3, ⟨rfl, n4, fun x hx => ?_⟩, ?_, u4, ?_, v4, ?_, ?_⟩
  · rw [hT i, e i]
    constructor
    · rintro (h | h | h | h)
      · exact .inr (.inl h)
      · exact .inr (.inr (.inl h))
      · exact .inl h
      · exact .inr (.inr (.inr h))
    · rintro (h | h | h | h)
      · exact .inr (.inr (.inl h))
      · exact .inl h
      · exact .inr (.inl h)
      · exact .inr (.inr (.inr h))
  · obtain ⟨c1, d1, w1, w2, _, _⟩ := rdis_open (hR x hx)
    exact ⟨(hR x hx).lt.2.2, c1, d1, w1, w2⟩
  · intro i e1 e2
    exact n1 (List.mem_cons.2 (.inl (e2.symm.trans e1)))
  · rintro i e1 ⟨x, hx, e2⟩
    cases e1
    exact n3 (List.mem_map.2 ⟨x, hx, e2.symm⟩)
  · rintro i e1 ⟨x, hx, e2⟩
    cases e1
    exact n1 (List.mem_cons.2 (.inr (List.mem_map.2 ⟨x, hx, e2.symm⟩)))
  · rintro i e1 ⟨x, hx, e2⟩
    cases e1
    exact (hR x hx).lt.2.2 e2
theorem rdx_pop0 {w : World} {T : Nat → Prop} {q c : Nat} {l : List Nat} {st1 st : Option Nat} (h : Rdx w T c l st [(q, st1)]) : ∃ (g a1 : Nat) (b1 : Bool) (a2 : Nat) (b2 : Bool), Fair l ∧ (∀ i, T i ↔ (onB q i ∨ onB c i ∨ onB g i)) ∧ okR l st1 a1 b1 ∧ okR l st a2 b2 ∧
    Stc w q 72 [.slice (some ⟨g, 0, none⟩) l.length l.length, .int .i64 (a1 : Int), .bool b1] ∧ Stc w c 72 [.slice (some ⟨g, 0, none⟩) l.length l.length, .int .i64 (a2 : Int), .bool b2] ∧ Rby w (onB g) g l ∧
    Apart (onB q) (onB c) ∧ Apart (onB q) (onB g) ∧ Apart (onB c) (onB g) := by
  obtain ⟨g, a1, b1, a2, b2, hf, hT, u1, v1, u2, v2, u3, _, p1, p2, _, p4, _, _⟩ := rdx_pop h
  refine ⟨g, a1, b1, a2, b2, hf, fun i => ?_, u1, v1, u2, v2, u3, p1, p2, p4⟩
  have e : ¬ tR [] i := fun h => by obtain ⟨x, hx, _⟩ := h; cases hx
  rw [hT i]
  constructor
  · rintro (h | h | h | h)
    · exact .inl h
    · exact .inr (.inl h)
    · exact .inr (.inr h)
    · exact absurd h e
  · rintro (h | h | h)
    · exact .inl h
    · exact .inr (.inl h)
    · exact .inr (.inr (.inl h))
theorem rdx_thing {w w' : World} {T : Nat → Prop} {q g : Nat} {l : List Nat} {st : Option Nat} {R : List (Nat × Option Nat)} {r : Int × Option Nat} {e : Ending} (hf : Fair l) (hT : ∀ i, T i ↔ (onB q i ∨ onB g i ∨ tR R i)) (hn : (q :: R.map (·.1)).Nodup) (h1 : RdIs w q g l st) (h2 : ∀ x ∈ R, RdIs w x.1 g l x.2) (hd : RdDone w q g l r e w') :
    ∃ (T_r' : Nat → Prop), e = .returned (.int .i64 r.1) ∧ Kept T w w' ∧ (Rdx w' T_r' q l r.2 R ∧ Grew w T T_r') := by
  obtain ⟨k1, k2, k3⟩ := hd
  refine ⟨T, k1, k3.mono (fun _ _ z => (hT _).2 (.inl z)), ⟨hf, g, hT, hn, k2, fun x hx => (h2 x hx).kept k3 (fun z => ?_) h1.lt.2.2⟩, Grew.refl _ _⟩
  exact (List.nodup_cons.1 hn).1 (z ▸ List.mem_map.2 ⟨x, hx, rfl⟩)
theorem t_rsignedX (q : Nat) (l : List Nat) (st : Option Nat) (R : List (Nat × Option Nat)) (m : Int) (T_r : Nat → Prop) (w0 : World) (h_r : Rdx w0 T_r q l st R) :
    Calls Tryz.prog 73 #[.pointer (some ⟨q, 0, none⟩), .int .i64 m] w0 fun e w' => ∃ (T_r' : Nat → Prop), e = .returned (.int .i64 (rdStep (signedRd l m) st).1) ∧ Kept T_r w0 w' ∧ (Rdx w' T_r' q l (rdStep (signedRd l m) st).2 R ∧ Grew w0 T_r T_r') := by
  obtain ⟨hf, g, hT, hn, h1, h2⟩ := h_r
  exact (rsigned_any q g l st m w0 hf h1).mono fun _ _ hd => rdx_thing hf hT hn h1 h2 hd
theorem t_rwholeX (q : Nat) (l : List Nat) (st : Option Nat) (R : List (Nat × Option Nat)) (m : Int) (T_r : Nat → Prop) (w0 : World) (h_r : Rdx w0 T_r q l st R) :
    Calls Tryz.prog 32 #[.pointer (some ⟨q, 0, none⟩), .int .i64 m] w0 fun e w' => ∃ (T_r' : Nat → Prop), e = .returned (.int .i64 (rdStep (wholeRd l m) st).1) ∧ Kept T_r w0 w' ∧ (Rdx w' T_r' q l (rdStep (wholeRd l m) st).2 R ∧ Grew w0 T_r T_r') := by
  obtain ⟨hf, g, hT, hn, h1, h2⟩ := h_r
  exact (rwhole_any q g l st m w0 hf h1).mono fun _ _ hd => rdx_thing hf hT hn h1 h2 hd
theorem t_lostX (q : Nat) (l : List Nat) (st : Option Nat) (R : List (Nat × Option Nat)) (T_r : Nat → Prop) (w0 : World) (h_r : Rdx w0 T_r q l st R) :
    Calls Tryz.prog 33 #[.pointer (some ⟨q, 0, none⟩)] w0 fun e w' => e = .returned (.bool (st.isNone)) ∧ Kept (fun _ => False) w0 w' := by
  obtain ⟨hf, g, hT, hn, h1, h2⟩ := h_r
  exact (lost_any q g l st w0 h1).mono fun _ _ ⟨e, hw⟩ => by subst hw; exact ⟨e, Kept.refl _ _⟩
theorem vt_readX (p : Nat) (l : List Nat) (st : Option Nat) (R : List (Nat × Option Nat)) (A B : Int) (T_r : Nat → Prop) (w0 : World) (h_r : Rdx w0 T_r p (l) (st) (R)) :
  Calls Tryz.prog 35 #[.pointer (some ⟨p, 0, none⟩), .agg #[.int .i64 (A), .int .i64 (B)]] w0 fun e w' => ∃ (T_r' : Nat → Prop), e = .returned (.tuple #[.agg #[.int .i64 (vrX l A B st), .int .i64 (vrY l A B st)], .int .i64 (vrE l A B st)]) ∧ Kept (T_r) w0 w' ∧ (Rdx w' T_r' p (l) (vrT l A B st) (R) ∧ Grew w0 T_r T_r') := by
 refine calls_wq (args := [pt p 0, .agg #[iv A, iv B]]) 37 Tryz.func35 rfl rfl (Nat.le_of_ble_eq_true rfl) ?_
 have K0 := Kept.refl T_r w0
 have h1 := cl64 A
 have h2 := cl64 B
 have h3 := rdX_le l st
 have h4 := rdX_le l (rdX l st).2
 have g_r := Grew.refl w0 T_r
 refine wq_seq (wq_region (wl_box_stc (vs := [iv A, iv B]) rfl rfl rfl rfl fun p1 w2 B4 g5 k3 => ?_))
 have B8 := h_r.all k3 Apart.none
 have K9 := K0.tr k3
 refine wl_alloc_stc (n := 2) (vs := [iv 0, iv 0]) rfl rfl rfl (by kernel_rfl) fun p10 w11 B13 g14 k12 => ?_
 have gr15 : Grew w0 noB (onB p10) := Grew.new K9 g14
 have ap16 : Apart (onB p10) T_r := Apart.new g14 B8.live
 have B18 := B8.all k12 Apart.none
 have B19 := B4.all k12 id
 have K20 := K9.tr k12
 refine wl_v (iv 0) rfl rfl (y_asg rfl rfl rr) (wl_nil fun F21 hF22 => ?_)
 have s23 : F21 0 = pt p 0 := (hF22 0).trans rfl
 have s24 : F21 37 = undef := (hF22 37).trans rfl
 have s25 : F21 3 = pt p1 0 := (hF22 3).trans rfl
 have s26 : F21 4 = pt p10 0 := (hF22 4).trans rfl
 clear hF22
 refine then_normal (wq_seq (wq_seq (wq_region (wl_mv rfl rfl rfl s23 (wl_v (.bool false) rfl rfl (y_noNil rfl rfl rfl Tryz.underlying50 rr) (wl_nil fun F27 hF28 => ?_))))))
 obtain ⟨s29, s30, s31, s32⟩ := t4 hF28 0 s23 37 s24 3 s25 4 s26
 have s33 : F27 9 = .bool false := (hF28 9).trans rfl
 clear hF28
 refine then_normal ?_
 refine wq_cond (t := false) s33 (fun e => by cases e) (fun _ => ?_)
 refine wq_skip (then_normal (wq_seq ?_))
 obtain ⟨g, a, b, hf, hT, hok, hp, hg, hr, hap, hap2, hap3⟩ := rdx_open B18
 have gr34 : Grew w0 T_r (onB p) := fun i h => g_r i ((fun i h => (hT i).2 (Or.inl h)) i h)
 have ap36 : Apart (onB p) (onB p10) := fun i h => ap16.symm i ((fun i h => (hT i).2 (Or.inl h)) i h)
 have gr37 : Grew w0 T_r (onB g) := fun i h => g_r i ((fun i h => (hT i).2 (Or.inr (Or.inl h))) i h)
 have ap39 : Apart (onB g) (onB p10) := fun i h => ap16.symm i ((fun i h => (hT i).2 (Or.inr (Or.inl h))) i h)
 have gr40 : Grew w0 T_r (tR R) := fun i h => g_r i ((fun i h => (hT i).2 (Or.inr (Or.inr h))) i h)
 have ap42 : Apart (tR R) (onB p10) := fun i h => ap16.symm i ((fun i h => (hT i).2 (Or.inr (Or.inr h))) i h)
 have ap43 : Apart (onB p) (onB g) := hap
 have ap44 : Apart (onB p) (tR R) := hap2
 refine wq_region (wl_mv rfl rfl rfl s29 (wl_v (pt p 0) rfl rfl (y_nilc rfl rfl rr) (wl_v (.agg #[.slice (some ⟨g, 0, none⟩) l.length l.length, iv ((a : Nat) : Int), .bool b]) rfl rfl (y_load_stc stcT_reader rfl rfl hp rr) (wl_alloc_stc (n := 3) (vs := [.slice none 0 0, iv ((0 : Nat) : Int), .bool false]) rfl rfl rfl (by kernel_rfl) fun p46 w47 B49 g50 k48 => ?_))))
 have gr51 : Grew w0 noB (onB p46) := Grew.new K20 g50
 have ap52 : Apart (onB p46) (onB p1) := Apart.new g50 (onB_live B19.lt)
 have ap53 : Apart (onB p46) (onB p10) := Apart.new g50 (onB_live B13.lt)
 have ap54 : Apart (onB p46) (onB p) := Apart.new g50 (onB_live hp.lt)
 have ap55 : Apart (onB p46) (onB g) := Apart.new g50 hg.live
 have ap56 : Apart (onB p46) (tR R) := Apart.new g50 hr.live
 have B57 := B19.all k48 id
 have B58 := B13.all k48 id
 have B59 := hp.all k48 id
 have B60 := hg.all k48 Apart.none
 have B61 := hr.all k48 Apart.none
 have K62 := K20.tr k48
 refine wl_store_stc (us := [.slice (some ⟨g, 0, none⟩) l.length l.length, iv ((a : Nat) : Int), .bool b]) stcT_reader rfl rfl rfl rfl rfl B49 rfl (oneI rfl (oneI rfl (oneI rfl oneN))) fun w63 B64 k65 => ?_
 have B66 := B57.all k65 (ap52.symm p1 rfl)
 have B67 := B58.all k65 (ap53.symm p10 rfl)
 have B68 := B59.all k65 (ap54.symm p rfl)
 have B69 := B60.all k65 ap55.symm
 have B70 := B61.all k65 ap56.symm
 have K71 := K62.trans k65 (Grew.ok (S := T_r) gr51 noB_le)
 refine wl_nil fun F72 hF73 => ?_
 obtain ⟨s74, s75, s76, s77⟩ := t4 hF73 0 s29 37 s30 3 s31 4 s32
 have s78 : F72 6 = pt p46 0 := (hF73 6).trans rfl
 clear hF73
 refine then_normal (wq_seq ?_)
 have B79 : Rdx w63 (fun i => (onB p) i ∨ ((onB p46) i ∨ ((onB g) i ∨ ((tR R) i)))) p46 l st (List.cons (p, st) R) := rdx_push hf hok B68 B64 B69 B70 ap54.symm ap43 ap44 ap55 ap56
 have gr80 : Grew w0 T_r (fun i => (onB p) i ∨ ((onB p46) i ∨ ((onB g) i ∨ ((tR R) i)))) := fun i h => h.elim (fun y => gr34 i y) (fun y => y.elim (fun y => (Grew.weak gr51 (fun _ z => z.elim)) i y) (fun y => y.elim (fun y => gr37 i y) (fun y => gr40 i y)))
 have ap82 : Apart (fun i => (onB p) i ∨ ((onB p46) i ∨ ((onB g) i ∨ ((tR R) i)))) (onB p10) := fun i h => h.elim (fun y => ap36 i y) (fun y => y.elim (fun y => ap53 i y) (fun y => y.elim (fun y => ap39 i y) (fun y => ap42 i y)))
 refine wq_region (wl_v (.agg #[iv A, iv B]) rfl rfl (y_load_stc stcT_vector rfl s76 B66 rr) (wl_cs rfl rfl rfl rfl rfl (fun _ _ => by kernel_rfl) (vsC rfl vsN) (vt_near A B  _   ) fun w83 k84 => ?_))
 have B86 := B67.all k84 id
 have B87 := B79.all k84 Apart.none
 have K88 := K71.tr k84
 refine wl_alloc_stc (n := 2) (vs := [iv 0, iv 0]) rfl rfl rfl (by kernel_rfl) fun p89 w90 B92 g93 k91 => ?_
 have gr94 : Grew w0 noB (onB p89) := Grew.new K88 g93
 have ap96 : Apart (onB p89) (onB p10) := Apart.new g93 (onB_live B86.lt)
 have ap97 : Apart (onB p89) (fun i => (onB p) i ∨ ((onB p46) i ∨ ((onB g) i ∨ ((tR R) i)))) := Apart.new g93 B87.live
 have B99 := B86.all k91 id
 have B100 := B87.all k91 Apart.none
 have K101 := K88.tr k91
 refine wl_store_stc (us := [iv (cl 64 A), iv (cl 64 B)]) stcT_vector rfl rfl rfl rfl rfl B92 rfl (oneI rfl (oneI rfl oneN)) fun w102 B103 k104 => ?_
 have B106 := B99.all k104 (ap96.symm p10 rfl)
 have B107 := B100.all k104 ap97.symm
 have K108 := K101.trans k104 (Grew.ok (S := T_r) gr94 noB_le)
 refine wl_nil fun F109 hF110 => ?_
 obtain ⟨s111, s112, s113, s114⟩ := t4 hF110 0 s74 37 s75 4 s77 6 s78
 have s115 : F109 7 = pt p89 0 := (hF110 7).trans rfl
 clear hF110
 refine then_normal (wq_seq ?_)
 refine wq_turns (S := fun i => (fun i => (onB p) i ∨ ((onB p46) i ∨ ((onB g) i ∨ ((tR R) i)))) i ∨ ((onB p89) i)) [(5, 1)] [some 16, some 17, some 18, some 19, some 20, none] [Pt.eq (pt p89 0), Pt.eq (iv (cl 64 A)), Pt.thg ⟨fun w_ => Rdx w_ (fun i => (onB p) i ∨ ((onB p46) i ∨ ((onB g) i ∨ ((tR R) i)))) p46 l st (List.cons (p, st) R), fun i => (onB p) i ∨ ((onB p46) i ∨ ((onB g) i ∨ ((tR R) i))), fun T_ w_ => Rdx w_ T_ p46 l ((rdStep (signedRd l 128) st).2) (List.cons (p, st) R), fun _ _ _ h_ k_ ha_ => h_.all k_ ha_, fun _ _ _ _ h_ k_ ha_ => h_.all k_ ha_, fun _ h_ => h_.live, fun _ _ h_ => h_.live⟩ (iv ((rdX l st).1)), Pt.eq (iv ((rdX l st).1 + cl 64 A)), Pt.eq (pt p89 0), Pt.thg (stcThg p89 27 [iv (cl 64 A), iv (cl 64 B)] [iv ((rdX l st).1 + cl 64 A), iv (cl 64 B)]) undef] (by kernel_rfl) (by kernel_rfl) (by kernel_rfl) rfl (OldsT.old ⟨⟨fun _ x_ => Or.inl x_, B107, ⟨ap97.symm, trivial⟩⟩, ⟨⟨fun _ x_ => Or.inr x_, B103, trivial⟩, trivial⟩⟩) ?_ ?_
 ·refine stepsFT_cons ?_ ?_
  ·refine StepFT.one rfl fun F_ w_ hR hout hD => ?_
   exact (y_fieldR (n := 1) rfl ((hout 7 rfl (by decide)).trans s115) Tryz.underlying27 rfl (by kernel_rfl) (by decide) rfl ⟨rfl, Kept.refl _ _⟩)
  refine stepsFT_cons ?_ ?_
  ·refine StepFT.oneA rfl fun F_ w_ hR hout hD hA_ => ?_
   have g16 : F_ 16 = pt p89 0 := (hD.get 0 rfl rfl rfl).1
   have hA5_ : Stc w_ p89 27 [iv (cl 64 A), iv (cl 64 B)] := hA_ 5 _ _ (by decide) rfl
   exact (y_ld_stc rfl g16 Tryz.underlying3 hA5_ rfl rfl ⟨rfl, Kept.refl _ _⟩)
  refine stepsFT_cons ?_ ?_
  ·refine StepFT.turn rfl rfl fun F_ w_ hR hout hD hA_ => ?_
   exact (y_cs rfl rfl rfl (fun _ _ => by kernel_rfl) (ev_func _) (vsC ((hout 6 rfl (by decide)).trans s114) (vsC rfl vsN)) (t_rsignedX p46 l st (List.cons (p, st) R) 128 (fun i => (onB p) i ∨ ((onB p46) i ∨ ((onB g) i ∨ ((tR R) i)))) _  hA_ ) (fun e_ w_ h_ => by obtain ⟨_, he_, k_, hb_, hg_⟩ := h_; exact ⟨_, he_, rfl, k_, _, hb_, hg_⟩))
  refine stepsFT_cons ?_ ?_
  ·refine StepFT.one rfl fun F_ w_ hR hout hD => ?_
   have g17 : F_ 17 = iv (cl 64 A) := (hD.get 0 rfl rfl rfl).1
   have g18 : F_ 18 = iv ((rdX l st).1) := (hD.get 1 rfl rfl rfl).1
   exact (y_add rfl g17 g18 (by rw [Int.add_comm, IntKind.wrap_i64]; omega) ⟨rfl, Kept.refl _ _⟩)
  refine stepsFT_cons ?_ ?_
  ·refine StepFT.one rfl fun F_ w_ hR hout hD => ?_
   exact (y_fieldR (n := 1) rfl ((hout 7 rfl (by decide)).trans s115) Tryz.underlying27 rfl (by kernel_rfl) (by decide) rfl ⟨rfl, Kept.refl _ _⟩)
  refine stepsFT_cons ?_ ?_
  ·refine StepFT.turn rfl rfl fun F_ w_ hR hout hD hA_ => ?_
   have g20 : F_ 20 = pt p89 0 := (hD.get 0 rfl rfl rfl).1
   have g19 : F_ 19 = iv ((rdX l st).1 + cl 64 A) := (hD.get 1 rfl rfl rfl).1
   exact y_setStc rfl g20 g19 hA_ rfl rfl (by kernel_rfl) fun w2_ b_ k_ => ⟨rfl, k_, _, ⟨rfl, b_⟩, Grew.refl _ _⟩
  exact stepsFT_nil
 intro v116 Tf123 F117 w118 k119 G120 Gt124 Ga125 hF121
 have B127 := B106.all k119 (fun x => (x.elim (fun y => ((ap82.symm) p10 rfl y)) (fun y => ((ap96.symm) p10 rfl y))))
 have K128 := K108.trans k119 (fun i hi x => (x.elim (fun y => ((Grew.ok (S := T_r) gr80 (fun _ x => x)) i hi y)) (fun y => ((Grew.ok (S := T_r) gr94 noB_le) i hi y))))
 obtain ⟨T129, e130⟩ : ∃ T_, T_ = Tf123 2 := ⟨_, rfl⟩
 have B131 : Rdx w118 T129 p46 l ((rdStep (signedRd l 128) st).2) (List.cons (p, st) R) := by rw [e130]; exact (Gt124 2 _ _ rfl).1
 have g132 : Grew w102 (fun i => (onB p) i ∨ ((onB p46) i ∨ ((onB g) i ∨ ((tR R) i)))) T129 := by rw [e130]; exact (Gt124 2 _ _ rfl).2
 have gr133 := gr80.trans K108 g132
 have ap135 : Apart T129 (onB p10) := ap82.grew g132 (onB_live B106.lt)
 have e136 : onB p89 = Tf123 5 := ((Gt124 5 _ _ rfl).1.1).symm
 have B137 : Stc w118 p89 27 [iv ((rdX l st).1 + cl 64 A), iv (cl 64 B)] := (Gt124 5 _ _ rfl).1.2
 have ap138 : Apart T129 (onB p89) := by rw [e130, e136]; exact Ga125 2 5 _ _ _ _ (by decide) rfl rfl
 clear Gt124 Ga125
 obtain ⟨s139, s140, s141, s142, s143⟩ := t5 hF121 0 s111 37 s112 4 s113 6 s114 7 s115
 clear G120 hF121
 refine then_normal (wq_seq ?_)
 refine wq_turns (S := fun i => T129 i ∨ ((onB p89) i)) [(5, 1)] [some 21, some 22, some 23, some 24, some 25, none] [Pt.eq (pt p89 1), Pt.eq (iv (cl 64 B)), Pt.thg ⟨fun w_ => Rdx w_ T129 p46 l ((rdStep (signedRd l 128) st).2) (List.cons (p, st) R), T129, fun T_ w_ => Rdx w_ T_ p46 l ((rdStep (signedRd l 128) ((rdStep (signedRd l 128) st).2)).2) (List.cons (p, st) R), fun _ _ _ h_ k_ ha_ => h_.all k_ ha_, fun _ _ _ _ h_ k_ ha_ => h_.all k_ ha_, fun _ h_ => h_.live, fun _ _ h_ => h_.live⟩ (iv ((rdX l (rdX l st).2).1)), Pt.eq (iv ((rdX l (rdX l st).2).1 + cl 64 B)), Pt.eq (pt p89 1), Pt.thg (stcThg p89 27 [iv ((rdX l st).1 + cl 64 A), iv (cl 64 B)] [iv ((rdX l st).1 + cl 64 A), iv ((rdX l (rdX l st).2).1 + cl 64 B)]) undef] (by kernel_rfl) (by kernel_rfl) (by kernel_rfl) rfl (OldsT.old ⟨⟨fun _ x_ => Or.inl x_, B131, ⟨ap138, trivial⟩⟩, ⟨⟨fun _ x_ => Or.inr x_, B137, trivial⟩, trivial⟩⟩) ?_ ?_
 ·refine stepsFT_cons ?_ ?_
  ·refine StepFT.one rfl fun F_ w_ hR hout hD => ?_
   exact (y_fieldR (n := 1) rfl ((hout 7 rfl (by decide)).trans s143) Tryz.underlying27 rfl (by kernel_rfl) (by decide) rfl ⟨rfl, Kept.refl _ _⟩)
  refine stepsFT_cons ?_ ?_
  ·refine StepFT.oneA rfl fun F_ w_ hR hout hD hA_ => ?_
   have g21 : F_ 21 = pt p89 1 := (hD.get 0 rfl rfl rfl).1
   have hA5_ : Stc w_ p89 27 [iv ((rdX l st).1 + cl 64 A), iv (cl 64 B)] := hA_ 5 _ _ (by decide) rfl
   exact (y_ld_stc rfl g21 Tryz.underlying3 hA5_ rfl rfl ⟨rfl, Kept.refl _ _⟩)
  refine stepsFT_cons ?_ ?_
  ·refine StepFT.turn rfl rfl fun F_ w_ hR hout hD hA_ => ?_
   exact (y_cs rfl rfl rfl (fun _ _ => by kernel_rfl) (ev_func _) (vsC ((hout 6 rfl (by decide)).trans s142) (vsC rfl vsN)) (t_rsignedX p46 l ((rdStep (signedRd l 128) st).2) (List.cons (p, st) R) 128 T129 _  hA_ ) (fun e_ w_ h_ => by obtain ⟨_, he_, k_, hb_, hg_⟩ := h_; exact ⟨_, he_, rfl, k_, _, hb_, hg_⟩))
  refine stepsFT_cons ?_ ?_
  ·refine StepFT.one rfl fun F_ w_ hR hout hD => ?_
   have g22 : F_ 22 = iv (cl 64 B) := (hD.get 0 rfl rfl rfl).1
   have g23 : F_ 23 = iv ((rdX l (rdX l st).2).1) := (hD.get 1 rfl rfl rfl).1
   exact (y_add rfl g22 g23 (by rw [Int.add_comm, IntKind.wrap_i64]; omega) ⟨rfl, Kept.refl _ _⟩)
  refine stepsFT_cons ?_ ?_
  ·refine StepFT.one rfl fun F_ w_ hR hout hD => ?_
   exact (y_fieldR (n := 1) rfl ((hout 7 rfl (by decide)).trans s143) Tryz.underlying27 rfl (by kernel_rfl) (by decide) rfl ⟨rfl, Kept.refl _ _⟩)
  refine stepsFT_cons ?_ ?_
  ·refine StepFT.turn rfl rfl fun F_ w_ hR hout hD hA_ => ?_
   have g25 : F_ 25 = pt p89 1 := (hD.get 0 rfl rfl rfl).1
   have g24 : F_ 24 = iv ((rdX l (rdX l st).2).1 + cl 64 B) := (hD.get 1 rfl rfl rfl).1
   exact y_setStc rfl g25 g24 hA_ rfl rfl (by kernel_rfl) fun w2_ b_ k_ => ⟨rfl, k_, _, ⟨rfl, b_⟩, Grew.refl _ _⟩
  exact stepsFT_nil
 intro v144 Tf151 F145 w146 k147 G148 Gt152 Ga153 hF149
 have B155 := B127.all k147 (fun x => (x.elim (fun y => ((ap135.symm) p10 rfl y)) (fun y => ((ap96.symm) p10 rfl y))))
 have K156 := K128.trans k147 (fun i hi x => (x.elim (fun y => ((Grew.ok (S := T_r) gr133 (fun _ x => x)) i hi y)) (fun y => ((Grew.ok (S := T_r) gr94 noB_le) i hi y))))
 obtain ⟨T157, e158⟩ : ∃ T_, T_ = Tf151 2 := ⟨_, rfl⟩
 have B159 : Rdx w146 T157 p46 l ((rdStep (signedRd l 128) ((rdStep (signedRd l 128) st).2)).2) (List.cons (p, st) R) := by rw [e158]; exact (Gt152 2 _ _ rfl).1
 have g160 : Grew w118 T129 T157 := by rw [e158]; exact (Gt152 2 _ _ rfl).2
 have gr161 := gr133.trans K128 g160
 have ap163 : Apart T157 (onB p10) := ap135.grew g160 (onB_live B127.lt)
 have e164 : onB p89 = Tf151 5 := ((Gt152 5 _ _ rfl).1.1).symm
 have B165 : Stc w146 p89 27 [iv ((rdX l st).1 + cl 64 A), iv ((rdX l (rdX l st).2).1 + cl 64 B)] := (Gt152 5 _ _ rfl).1.2
 have ap166 : Apart T157 (onB p89) := by rw [e158, e164]; exact Ga153 2 5 _ _ _ _ (by decide) rfl rfl
 clear Gt152 Ga153
 obtain ⟨s167, s168, s169, s170, s171⟩ := t5 hF149 0 s139 37 s140 4 s141 6 s142 7 s143
 clear G148 hF149
 refine then_normal (wq_seq (wq_seq ?_))
 rcases Bool.eq_false_or_eq_true (((rdStep (signedRd l 128) ((rdStep (signedRd l 128) st).2)).2).isNone) with d172 | d172
 ·skip
  refine wq_region (wl_call (R := fun v_ w_ => v_ = .bool true ∧ Kept (fun _ => False) w146 w_) rfl rfl (y_cs rfl rfl rfl (fun _ _ => by kernel_rfl) (ev_func _) (vsC s170 vsN) (t_lostX p46 l ((rdStep (signedRd l 128) ((rdStep (signedRd l 128) st).2)).2) (List.cons (p, st) R) T157 _  B159 ) (fun e_ w_ h_ => ⟨_, h_.1, (congrArg Value.bool d172), h_.2⟩)) ?_)
  rintro _ w173 ⟨rfl, k174⟩
  have B176 := B155.all k174 id
  have B177 := B159.all k174 Apart.none
  have K179 := K156.tr k174
  refine wl_v (.bool true) rfl rfl (y_mov rfl rfl rr) (wl_unless 1 false 27 rfl rfl rfl (Or.inl rfl) rfl (wl_unless 1 false 27 rfl rfl rfl (Or.inl rfl) rfl (wl_unless 1 false 27 rfl rfl rfl (Or.inl rfl) rfl (wl_v (.bool true) rfl rfl (y_pickT rfl rfl rfl rr) (wl_nil fun F180 hF181 => ?_)))))
  obtain ⟨s183, s184⟩ := t2 hF181 37 s168 4 s169
  have s187 : F180 31 = .bool true := (hF181 31).trans rfl
  clear hF181
  refine then_normal ?_
  refine wq_cond (t := true) s187 (fun _ => ?_) (fun e => by cases e)
  refine wq_seq ?_
  have hk : ¬ rdOk l A B st := by unfold rdOk; rintro ⟨h7, h8⟩; first | exact h7 (Option.isNone_iff_eq_none.1 (by assumption)) | exact absurd (vecE_yes h8) (by assumption)
  have hR := vr_no hk
  obtain ⟨g2, a1, b1, a2, b2, hf2, hT2, ho1, ho2, hp2, hq2, hg2, hr2, ap1_, ap2_, ap3_, ap4_, ap5_, ap6_⟩ := rdx_pop B177
  have gr188 : Grew w0 T_r (onB p) := fun i h => gr161 i ((fun i h => (hT2 i).2 (Or.inl h)) i h)
  have ap190 : Apart (onB p) (onB p10) := fun i h => ap163 i ((fun i h => (hT2 i).2 (Or.inl h)) i h)
  have gr196 : Grew w0 T_r (onB g2) := fun i h => gr161 i ((fun i h => (hT2 i).2 (Or.inr (Or.inr (Or.inl h)))) i h)
  have ap198 : Apart (onB g2) (onB p10) := fun i h => ap163 i ((fun i h => (hT2 i).2 (Or.inr (Or.inr (Or.inl h)))) i h)
  have gr200 : Grew w0 T_r (tR R) := fun i h => gr161 i ((fun i h => (hT2 i).2 (Or.inr (Or.inr (Or.inr h)))) i h)
  have ap202 : Apart (tR R) (onB p10) := fun i h => ap163 i ((fun i h => (hT2 i).2 (Or.inr (Or.inr (Or.inr h)))) i h)
  have ap205 : Apart (onB p) (onB g2) := ap2_
  have ap206 : Apart (onB p) (tR R) := ap3_
  refine wq_region (wl_v (.agg #[iv 0, iv 0]) rfl rfl (y_buildL (l' := []) (cells := #[iv 0, iv 0]) rfl bpN (by kernel_rfl) rfl rr) (wl_store_stc (us := [iv 0, iv 0]) stcT_vector rfl rfl rfl s184 rfl B176 rfl (oneI rfl (oneI rfl oneN)) fun w210 B211 k212 => ?_))
  have B215 := hp2.all k212 (ap190 p rfl)
  have B217 := hg2.all k212 ap198
  have B218 := hr2.all k212 ap202
  have K219 := K179.trans k212 (Grew.ok (S := T_r) gr15 noB_le)
  refine wl_v (iv 90) rfl rfl (y_asg rfl rfl rr) (wl_nil fun F220 hF221 => ?_)
  obtain ⟨s222, s223⟩ := t2 hF221 37 s183 4 s184
  have s224 : F220 5 = iv 90 := (hF221 5).trans rfl
  clear hF221
  refine then_normal (wq_ret (then_ret ?_))
  have B225 : Rdx w210 (fun i => (onB p) i ∨ ((onB g2) i ∨ ((tR R) i))) p l (vrT l A B st) R := (by first | (rw [show vrT l A B st = st from if_neg hk]; exact rdx_close hf2 ho1 B215 B217 B218 ap205 ap206) | (rw [show vrT l A B st = vrS l st from if_pos hk]; exact rdx_close hf2 ho2 B215 B217 B218 ap205 ap206))
  have gr226 : Grew w0 T_r (fun i => (onB p) i ∨ ((onB g2) i ∨ ((tR R) i))) := fun i h => h.elim (fun y => gr188 i y) (fun y => y.elim (fun y => gr196 i y) (fun y => gr200 i y))
  exact end_2 s222 rfl (res_stc (vs := [iv 0, iv 0]) stcT_vector rfl s223 B211) (res_tmp (v := iv 90) rfl s224) ⟨(fun i => (onB p) i ∨ ((onB g2) i ∨ ((tR R) i))), (by rw [hR.1, hR.2.1, hR.2.2]), K219, ⟨B225, gr226⟩⟩
 ·skip
  refine wq_region (wl_call (R := fun v_ w_ => v_ = .bool false ∧ Kept (fun _ => False) w146 w_) rfl rfl (y_cs rfl rfl rfl (fun _ _ => by kernel_rfl) (ev_func _) (vsC s170 vsN) (t_lostX p46 l ((rdStep (signedRd l 128) ((rdStep (signedRd l 128) st).2)).2) (List.cons (p, st) R) T157 _  B159 ) (fun e_ w_ h_ => ⟨_, h_.1, (congrArg Value.bool d172), h_.2⟩)) ?_)
  rintro _ w231 ⟨rfl, k232⟩
  have B234 := B155.all k232 id
  have B235 := B159.all k232 Apart.none
  have B236 := B165.all k232 id
  have K237 := K156.tr k232
  refine wl_v (.bool false) rfl rfl (y_mov rfl rfl rr) (wl_vw (.agg #[iv ((rdX l st).1 + cl 64 A), iv ((rdX l (rdX l st).2).1 + cl 64 B)]) 1 false 27 rfl rfl rfl rfl rfl (y_load_stc stcT_vector rfl s171 B236 rr) (wl_callw (R := fun v_ w_ => v_ = iv (vecE ((rdX l st).1 + cl 64 A) ((rdX l (rdX l st).2).1 + cl 64 B)) ∧ Kept (fun _ => False) w231 w_) 1 false 27 rfl rfl rfl rfl rfl (y_cs rfl rfl rfl (fun _ _ => by kernel_rfl) (ev_func _) (vsC rfl vsN) (mo_check ((rdX l st).1 + cl 64 A) ((rdX l (rdX l st).2).1 + cl 64 B)  _   ) (fun e_ w_ h_ => ⟨_, h_.1, rfl, h_.2⟩)) ?_))
  rintro _ w238 ⟨rfl, k239⟩
  have B241 := B234.all k239 id
  have B242 := B235.all k239 Apart.none
  have B243 := B236.all k239 id
  have K244 := K237.tr k239
  refine wl_vw (.bool (decide ((vecE ((rdX l st).1 + cl 64 A) ((rdX l (rdX l st).2).1 + cl 64 B)) ≠ 0))) 1 false 27 rfl rfl rfl rfl rfl (y_neqI rfl rfl rfl rfl rr) (wl_v (.bool (decide ((vecE ((rdX l st).1 + cl 64 A) ((rdX l (rdX l st).2).1 + cl 64 B)) ≠ 0))) rfl rfl (y_pickF rfl rfl rfl rr) (wl_nil fun F245 hF246 => ?_))
  obtain ⟨s247, s248, s249, s250, s251⟩ := t5 hF246 0 s167 37 s168 4 s169 6 s170 7 s171
  have s252 : F245 31 = .bool (decide ((vecE ((rdX l st).1 + cl 64 A) ((rdX l (rdX l st).2).1 + cl 64 B)) ≠ 0)) := (hF246 31).trans rfl
  clear hF246
  refine then_normal ?_
  refine wq_cond s252 (fun c253 => ?_) (fun c253 => ?_)
  ·replace c253 := of_decide_eq_true c253
   refine wq_seq ?_
   have hk : ¬ rdOk l A B st := by unfold rdOk; rintro ⟨h7, h8⟩; first | exact h7 (Option.isNone_iff_eq_none.1 (by assumption)) | exact absurd (vecE_yes h8) (by assumption)
   have hR := vr_no hk
   obtain ⟨g2, a1, b1, a2, b2, hf2, hT2, ho1, ho2, hp2, hq2, hg2, hr2, ap1_, ap2_, ap3_, ap4_, ap5_, ap6_⟩ := rdx_pop B242
   have gr254 : Grew w0 T_r (onB p) := fun i h => gr161 i ((fun i h => (hT2 i).2 (Or.inl h)) i h)
   have ap256 : Apart (onB p) (onB p10) := fun i h => ap163 i ((fun i h => (hT2 i).2 (Or.inl h)) i h)
   have gr262 : Grew w0 T_r (onB g2) := fun i h => gr161 i ((fun i h => (hT2 i).2 (Or.inr (Or.inr (Or.inl h)))) i h)
   have ap264 : Apart (onB g2) (onB p10) := fun i h => ap163 i ((fun i h => (hT2 i).2 (Or.inr (Or.inr (Or.inl h)))) i h)
   have gr266 : Grew w0 T_r (tR R) := fun i h => gr161 i ((fun i h => (hT2 i).2 (Or.inr (Or.inr (Or.inr h)))) i h)
   have ap268 : Apart (tR R) (onB p10) := fun i h => ap163 i ((fun i h => (hT2 i).2 (Or.inr (Or.inr (Or.inr h)))) i h)
   have ap271 : Apart (onB p) (onB g2) := ap2_
   have ap272 : Apart (onB p) (tR R) := ap3_
   refine wq_region (wl_v (.agg #[iv 0, iv 0]) rfl rfl (y_buildL (l' := []) (cells := #[iv 0, iv 0]) rfl bpN (by kernel_rfl) rfl rr) (wl_store_stc (us := [iv 0, iv 0]) stcT_vector rfl rfl rfl s249 rfl B241 rfl (oneI rfl (oneI rfl oneN)) fun w276 B277 k278 => ?_))
   have B281 := hp2.all k278 (ap256 p rfl)
   have B283 := hg2.all k278 ap264
   have B284 := hr2.all k278 ap268
   have K285 := K244.trans k278 (Grew.ok (S := T_r) gr15 noB_le)
   refine wl_v (iv 90) rfl rfl (y_asg rfl rfl rr) (wl_nil fun F286 hF287 => ?_)
   obtain ⟨s288, s289⟩ := t2 hF287 37 s248 4 s249
   have s290 : F286 5 = iv 90 := (hF287 5).trans rfl
   clear hF287
   refine then_normal (wq_ret (then_ret ?_))
   have B291 : Rdx w276 (fun i => (onB p) i ∨ ((onB g2) i ∨ ((tR R) i))) p l (vrT l A B st) R := (by first | (rw [show vrT l A B st = st from if_neg hk]; exact rdx_close hf2 ho1 B281 B283 B284 ap271 ap272) | (rw [show vrT l A B st = vrS l st from if_pos hk]; exact rdx_close hf2 ho2 B281 B283 B284 ap271 ap272))
   have gr292 : Grew w0 T_r (fun i => (onB p) i ∨ ((onB g2) i ∨ ((tR R) i))) := fun i h => h.elim (fun y => gr254 i y) (fun y => y.elim (fun y => gr262 i y) (fun y => gr266 i y))
   exact end_2 s288 rfl (res_stc (vs := [iv 0, iv 0]) stcT_vector rfl s289 B277) (res_tmp (v := iv 90) rfl s290) ⟨(fun i => (onB p) i ∨ ((onB g2) i ∨ ((tR R) i))), (by rw [hR.1, hR.2.1, hR.2.2]), K285, ⟨B291, gr292⟩⟩
  ·replace c253 := of_decide_eq_false c253
   refine wq_skip (then_normal (wq_seq ?_))
   have hk : rdOk l A B st := by unfold rdOk; exact ⟨fun h7 => absurd (Option.isNone_iff_eq_none.2 h7) (Bool.eq_false_iff.1 (by assumption)), (vecE_iff _ _).1 (Decidable.byContradiction (by assumption))⟩
   have hR := vr_yes hk
   obtain ⟨g2, a1, b1, a2, b2, hf2, hT2, ho1, ho2, hp2, hq2, hg2, hr2, ap1_, ap2_, ap3_, ap4_, ap5_, ap6_⟩ := rdx_pop B242
   have gr297 : Grew w0 T_r (onB p) := fun i h => gr161 i ((fun i h => (hT2 i).2 (Or.inl h)) i h)
   have ap299 : Apart (onB p) (onB p10) := fun i h => ap163 i ((fun i h => (hT2 i).2 (Or.inl h)) i h)
   have ap300 : Apart (onB p) (onB p89) := fun i h => ap166 i ((fun i h => (hT2 i).2 (Or.inl h)) i h)
   have gr305 : Grew w0 T_r (onB g2) := fun i h => gr161 i ((fun i h => (hT2 i).2 (Or.inr (Or.inr (Or.inl h)))) i h)
   have ap307 : Apart (onB g2) (onB p10) := fun i h => ap163 i ((fun i h => (hT2 i).2 (Or.inr (Or.inr (Or.inl h)))) i h)
   have gr309 : Grew w0 T_r (tR R) := fun i h => gr161 i ((fun i h => (hT2 i).2 (Or.inr (Or.inr (Or.inr h)))) i h)
   have ap311 : Apart (tR R) (onB p10) := fun i h => ap163 i ((fun i h => (hT2 i).2 (Or.inr (Or.inr (Or.inr h)))) i h)
   have ap314 : Apart (onB p) (onB g2) := ap2_
   have ap315 : Apart (onB p) (tR R) := ap3_
   refine wq_region (wl_mv rfl rfl rfl s247 (wl_v (.agg #[.slice (some ⟨g2, 0, none⟩) l.length l.length, iv ((a2 : Nat) : Int), .bool b2]) rfl rfl (y_load_stc stcT_reader rfl s250 hq2 rr) (wl_v (pt p 0) rfl rfl (y_nilc rfl rfl rr) (wl_store_stc (us := [.slice (some ⟨g2, 0, none⟩) l.length l.length, iv ((a2 : Nat) : Int), .bool b2]) stcT_reader rfl rfl rfl rfl rfl hp2 rfl (oneI rfl (oneI rfl (oneI rfl oneN))) fun w319 B320 k321 => ?_))))
   have B323 := B241.all k321 (ap299.symm p10 rfl)
   have B324 := B243.all k321 (ap300.symm p89 rfl)
   have B326 := hg2.all k321 ap314.symm
   have B327 := hr2.all k321 ap315.symm
   have K328 := K244.trans k321 (Grew.ok (S := T_r) gr297 (fun _ x => x))
   refine wl_nil fun F329 hF330 => ?_
   obtain ⟨s331, s332, s333⟩ := t3 hF330 37 s248 4 s249 7 s251
   clear hF330
   refine then_normal (wq_seq (wq_region (wl_v (.agg #[iv ((rdX l st).1 + cl 64 A), iv ((rdX l (rdX l st).2).1 + cl 64 B)]) rfl rfl (y_load_stc stcT_vector rfl s333 B324 rr) (wl_store_stc (us := [iv ((rdX l st).1 + cl 64 A), iv ((rdX l (rdX l st).2).1 + cl 64 B)]) stcT_vector rfl rfl rfl s332 rfl B323 rfl (oneI rfl (oneI rfl oneN)) fun w334 B335 k336 => ?_))))
   have B339 := B320.all k336 (ap299 p rfl)
   have B341 := B326.all k336 ap307
   have B342 := B327.all k336 ap311
   have K343 := K328.trans k336 (Grew.ok (S := T_r) gr15 noB_le)
   refine wl_v (iv 0) rfl rfl (y_asg rfl rfl rr) (wl_nil fun F344 hF345 => ?_)
   obtain ⟨s346, s347⟩ := t2 hF345 37 s331 4 s332
   have s348 : F344 5 = iv 0 := (hF345 5).trans rfl
   clear hF345
   refine then_normal (wq_ret ?_)
   have B349 : Rdx w334 (fun i => (onB p) i ∨ ((onB g2) i ∨ ((tR R) i))) p l (vrT l A B st) R := (by first | (rw [show vrT l A B st = st from if_neg hk]; exact rdx_close hf2 ho1 B339 B341 B342 ap314 ap315) | (rw [show vrT l A B st = vrS l st from if_pos hk]; exact rdx_close hf2 ho2 B339 B341 B342 ap314 ap315))
   have gr350 : Grew w0 T_r (fun i => (onB p) i ∨ ((onB g2) i ∨ ((tR R) i))) := fun i h => h.elim (fun y => gr297 i y) (fun y => y.elim (fun y => gr305 i y) (fun y => gr309 i y))
   exact end_2 s346 rfl (res_stc (vs := [iv ((rdX l st).1 + cl 64 A), iv ((rdX l (rdX l st).2).1 + cl 64 B)]) stcT_vector rfl s347 B335) (res_tmp (v := iv 0) rfl s348) ⟨(fun i => (onB p) i ∨ ((onB g2) i ∨ ((tR R) i))), (by rw [hR.1, hR.2.1, hR.2.2]), K343, ⟨B349, gr350⟩⟩
theorem scan_readX (p : Nat) (l : List Nat) (st : Option Nat) (R : List (Nat × Option Nat)) (T_r : Nat → Prop) (w0 : World) (hO : ScanIn w0) (hG : ∀ i, T_r i → 1 < i) (h_r : Rdx w0 T_r p (l) (st) (R)) :
  Calls Tryz.prog 36 #[.pointer (some ⟨p, 0, none⟩)] w0 fun e w' => ∃ (T_r' : Nat → Prop), e = .returned (.tuple #[blkV ((scanRd l st).1), .int .i64 ((scanRd l st).2.1)]) ∧ Kept (T_r) w0 w' ∧ (Rdx w' T_r' p (l) (rdSt l st) (R) ∧ Grew w0 T_r T_r') := by
 refine calls_wq (args := [pt p 0]) 48 Tryz.func36 rfl rfl (Nat.le_of_ble_eq_true rfl) ?_
 have K0 := Kept.refl T_r w0
 have hle := gBig_whole l st
 obtain ⟨M, hM⟩ : ∃ M, M = (rdStep (wholeRd l gBig) st).1.toNat := ⟨_, rfl⟩
 have g_r := Grew.refl w0 T_r
 refine wq_seq (wq_region (wl_alloc_blk rfl rfl rfl blkT_block.2.2 fun p1 w2 e5 B3 k4 => ?_))
 have g6 := onB_new (Nat.le_of_eq e5.symm)
 have gr7 : Grew w0 noB (onB p1) := Grew.new K0 g6
 have ap8 : Apart (onB p1) T_r := Apart.new g6 h_r.live
 clear e5 g6
 have B9 := h_r.all k4 Apart.none
 have K10 := K0.tr k4
 refine wl_v (iv 0) rfl rfl (y_asg rfl rfl rr) (wl_nil fun F11 hF12 => ?_)
 have s13 : F11 0 = pt p 0 := (hF12 0).trans rfl
 have s14 : F11 48 = undef := (hF12 48).trans rfl
 have s15 : F11 2 = pt p1 0 := (hF12 2).trans rfl
 have s16 : F11 3 = iv 0 := (hF12 3).trans rfl
 clear hF12
 refine then_normal (wq_scope (wq_seq (wq_seq (wq_region (wl_mv rfl rfl rfl s13 (wl_v (.bool false) rfl rfl (y_noNil rfl rfl rfl Tryz.underlying50 rr) (wl_nil fun F17 hF18 => ?_)))))))
 obtain ⟨s19, s20, s21, s22⟩ := t4 hF18 0 s13 48 s14 2 s15 3 s16
 have s23 : F17 9 = .bool false := (hF18 9).trans rfl
 clear hF18
 refine then_normal ?_
 refine wq_cond (t := false) s23 (fun e => by cases e) (fun _ => ?_)
 refine wq_skip (then_normal (wq_seq (wq_region (wl_alloc_blk rfl rfl rfl blkT_block.2.2 fun p24 w25 e28 B26 k27 => ?_))))
 have g29 := onB_new (Nat.le_of_eq e28.symm)
 have gr30 : Grew w0 noB (onB p24) := Grew.new K10 g29
 have ap31 : Apart (onB p24) T_r := Apart.new g29 B9.live
 have ap32 : Apart (onB p24) (onB p1) := Apart.new g29 (onB_live B3.lt)
 clear e28 g29
 have B33 := B9.all k27 Apart.none
 have B34 := B3.all k27 id
 have K35 := K10.tr k27
 refine wl_nil fun F36 hF37 => ?_
 obtain ⟨s38, s39, s40, s41, s42⟩ := t5 hF37 0 s19 48 s20 2 s21 3 s22 9 s23
 have s43 : F36 4 = pt p24 0 := (hF37 4).trans rfl
 clear hF37
 refine then_normal (wq_seq (wq_region (wl_v (iv 0) rfl rfl (y_asg rfl rfl rr) (wl_nil fun F44 hF45 => ?_))))
 obtain ⟨s46, s47, s48, s49, s50, s51⟩ := t6 hF45 0 s38 48 s39 2 s40 3 s41 9 s42 4 s43
 have s52 : F44 5 = iv 0 := (hF45 5).trans rfl
 clear hF45
 refine then_normal (wq_seq (wq_region (wl_mv rfl rfl rfl s46 (wl_call (R := fun v_ w_ => ∃ (T55 : Nat → Prop), iv ((M : Nat) : Int) = v_ ∧ Kept T_r w25 w_ ∧ (Rdx w_ T55 p l ((rdStep (wholeRd l 9223372036854775807) st).2) R ∧ Grew w25 T_r T55)) rfl rfl (y_cs rfl rfl rfl (fun _ _ => by kernel_rfl) (ev_func _) (vsC rfl (vsC rfl vsN)) (t_rwholeX p l st R 9223372036854775807 T_r _  B33 ) (fun e_ w_ h_ => by obtain ⟨T55_, he_, hr_⟩ := h_; exact ⟨_, he_, T55_, (congrArg (Value.int .i64) (by rw [show (9223372036854775807 : Int) = gBig from rfl]; omega)).symm, hr_⟩)) ?_))))
 rintro _ w53 ⟨T55, rfl, k54, ⟨B56, g57⟩⟩
 have B58 := B34.all k54 (ap8 p1 rfl)
 have B59 := B26.all k54 (ap31 p24 rfl)
 have K60 := K35.trans k54 (fun i hi x => ((Grew.ok (S := T_r) g_r (fun _ x => x)) i hi x))
 have gr61 := g_r.trans K35 g57
 have ap62 : Apart T55 (onB p1) := (ap8.symm).grew g57 (onB_live B34.lt)
 have ap63 : Apart T55 (onB p24) := (ap31.symm).grew g57 (onB_live B26.lt)
 refine wl_v (iv ((M : Nat) : Int)) rfl rfl (y_asg rfl rfl rr) (wl_nil fun F64 hF65 => ?_)
 obtain ⟨s66, s67, s68, s69, s70, s71, s72⟩ := t7 hF65 0 s46 48 s47 2 s48 3 s49 9 s50 4 s51 5 s52
 have s73 : F64 6 = iv ((M : Nat) : Int) := (hF65 6).trans rfl
 clear hF65
 refine then_normal (wq_seq (wq_seq ?_))
 have B74 : Rdx w53 T55 p l ((rdStep (wholeRd l gBig) st).2) R := B56
 rcases Bool.eq_false_or_eq_true (((rdStep (wholeRd l gBig) st).2).isNone) with d75 | d75
 ·skip
  refine wq_region (wl_mv rfl rfl rfl s66 (wl_call (R := fun v_ w_ => v_ = .bool true ∧ Kept (fun _ => False) w53 w_) rfl rfl (y_cs rfl rfl rfl (fun _ _ => by kernel_rfl) (ev_func _) (vsC rfl vsN) (t_lostX p l ((rdStep (wholeRd l gBig) st).2) R T55 _  B74 ) (fun e_ w_ h_ => ⟨_, h_.1, (congrArg Value.bool d75), h_.2⟩)) ?_))
  rintro _ w76 ⟨rfl, k77⟩
  have B78 := B74.all k77 Apart.none
  have B79 := B58.all k77 id
  have K81 := K60.tr k77
  refine wl_v (.bool true) rfl rfl (y_mov rfl rfl rr) (wl_unless 2 false 15 rfl rfl rfl (Or.inl rfl) rfl (wl_unless 2 false 15 rfl rfl rfl (Or.inl rfl) rfl (wl_v (.bool true) rfl rfl (y_pickT rfl rfl rfl rr) (wl_nil fun F82 hF83 => ?_))))
  obtain ⟨s85, s86⟩ := t2 hF83 48 s67 2 s68
  have s92 : F82 18 = .bool true := (hF83 18).trans rfl
  clear hF83
  refine then_normal ?_
  refine wq_cond (t := true) s92 (fun _ => ?_) (fun e => by cases e)
  refine wq_goto (then_goto ?_)
  refine jump_goto ⟨_, rfl, ?_⟩
  refine wq_seq (wq_skip (then_normal (wq_seq ?_)))
  first | have hR := g_none (l := l) (s := st) (Or.inl (by assumption)) | have hR := g_none (l := l) (s := st) (Or.inr (by omega)) | have hR := g_far (by omega) hI (by omega) | have hR := g_bad (by omega) hI (by omega) (by first | exact Or.inl (by assumption) | exact Or.inr (by assumption))
  refine wq_region (wl_v (blkV (fun _ => 0)) rfl rfl (y_buildR (cells := (arrL 16 (fun _ => 0)).toArray) rfl (by kernel_rfl) rfl rr) (wl_store_blk blkT_block rfl rfl rfl s86 rfl B79 fun w93 B94 k95 => ?_))
  have B96 := B78.all k95 ap62
  have K98 := K81.trans k95 (Grew.ok (S := T_r) gr7 noB_le)
  refine wl_v (iv 60) rfl rfl (y_asg rfl rfl rr) (wl_nil fun F99 hF100 => ?_)
  obtain ⟨s101, s102⟩ := t2 hF100 48 s85 2 s86
  have s103 : F99 3 = iv 60 := (hF100 3).trans rfl
  clear hF100
  refine then_normal (wq_ret (stay_ret ?_))
  exact end_2 s101 rfl (res_blk blkT_block rfl s102 B94) (res_tmp (v := iv 60) rfl s103) ⟨T55, (by rw [← (told_as hR).1, ← (told_as hR).2.1]), K98, ⟨(by rw [(told_as hR).2.2]; exact B96), gr61⟩⟩
 ·skip
  refine wq_region (wl_mv rfl rfl rfl s66 (wl_call (R := fun v_ w_ => v_ = .bool false ∧ Kept (fun _ => False) w53 w_) rfl rfl (y_cs rfl rfl rfl (fun _ _ => by kernel_rfl) (ev_func _) (vsC rfl vsN) (t_lostX p l ((rdStep (wholeRd l gBig) st).2) R T55 _  B74 ) (fun e_ w_ h_ => ⟨_, h_.1, (congrArg Value.bool d75), h_.2⟩)) ?_))
  rintro _ w104 ⟨rfl, k105⟩
  have B106 := B74.all k105 Apart.none
  have B107 := B58.all k105 id
  have B108 := B59.all k105 id
  have K109 := K60.tr k105
  refine wl_v (.bool false) rfl rfl (y_mov rfl rfl rr) (wl_vw (iv ((M : Nat) : Int)) 2 false 15 rfl rfl rfl rfl rfl (y_mov rfl s73 rr) (wl_vw (.bool (decide (16 < ((M : Nat) : Int)))) 2 false 15 rfl rfl rfl rfl rfl (y_gtr rfl rfl rfl rfl rr) (wl_v (.bool (decide (16 < ((M : Nat) : Int)))) rfl rfl (y_pickF rfl rfl rfl rr) (wl_nil fun F110 hF111 => ?_))))
  obtain ⟨s112, s113, s114, s115, s116, s117, s118, s119⟩ := t8 hF111 0 s66 48 s67 2 s68 3 s69 9 s70 4 s71 5 s72 6 s73
  have s120 : F110 18 = .bool (decide (16 < ((M : Nat) : Int))) := (hF111 18).trans rfl
  clear hF111
  refine then_normal ?_
  refine wq_cond s120 (fun c121 => ?_) (fun c121 => ?_)
  ·replace c121 := of_decide_eq_true c121
   refine wq_goto (then_goto ?_)
   refine jump_goto ⟨_, rfl, ?_⟩
   refine wq_seq (wq_skip (then_normal (wq_seq ?_)))
   first | have hR := g_none (l := l) (s := st) (Or.inl (by assumption)) | have hR := g_none (l := l) (s := st) (Or.inr (by omega)) | have hR := g_far (by omega) hI (by omega) | have hR := g_bad (by omega) hI (by omega) (by first | exact Or.inl (by assumption) | exact Or.inr (by assumption))
   refine wq_region (wl_v (blkV (fun _ => 0)) rfl rfl (y_buildR (cells := (arrL 16 (fun _ => 0)).toArray) rfl (by kernel_rfl) rfl rr) (wl_store_blk blkT_block rfl rfl rfl s114 rfl B107 fun w122 B123 k124 => ?_))
   have B125 := B106.all k124 ap62
   have K127 := K109.trans k124 (Grew.ok (S := T_r) gr7 noB_le)
   refine wl_v (iv 60) rfl rfl (y_asg rfl rfl rr) (wl_nil fun F128 hF129 => ?_)
   obtain ⟨s130, s131⟩ := t2 hF129 48 s113 2 s114
   have s132 : F128 3 = iv 60 := (hF129 3).trans rfl
   clear hF129
   refine then_normal (wq_ret (stay_ret ?_))
   exact end_2 s130 rfl (res_blk blkT_block rfl s131 B123) (res_tmp (v := iv 60) rfl s132) ⟨T55, (by rw [← (told_as hR).1, ← (told_as hR).2.1]), K127, ⟨(by rw [(told_as hR).2.2]; exact B125), gr61⟩⟩
  ·replace c121 := of_decide_eq_false c121
   refine wq_skip (then_normal (wq_seq (wq_seq (wq_region (wl_mv rfl rfl rfl s119 (wl_v (iv 0) rfl rfl (y_mov rfl rfl rr) (wl_nil fun F133 hF134 => ?_)))))))
   obtain ⟨s135, s136, s137, s138, s139, s140, s141, s142, s143⟩ := t9 hF134 0 s112 48 s113 2 s114 3 s115 9 s116 4 s117 5 s118 6 s119 18 s120
   have s144 : F133 19 = iv ((M : Nat) : Int) := (hF134 19).trans rfl
   have s145 : F133 20 = iv 0 := (hF134 20).trans rfl
   clear hF134
   refine then_normal (wq_block (wq_loop (fun nn FF ww => ∃ (i : Nat), ∃ (a : Nat), ∃ (b : Nat → Int), ∃ (s : Option Nat), ∃ (T146 : Nat → Prop), (i ≤ M) ∧ (a ≤ 16) ∧ (gRest l (M - i) a b s = gRd l st) ∧ nn = M - i ∧ FF 0 = pt p 0 ∧ FF 2 = pt p1 0 ∧ FF 3 = iv 0 ∧ FF 4 = pt p24 0 ∧ FF 6 = iv ((M : Nat) : Int) ∧ FF 9 = .bool false ∧ FF 18 = .bool (decide (16 < ((M : Nat) : Int))) ∧ FF 19 = iv ((M : Nat) : Int) ∧ FF 48 = undef ∧ FF 5 = iv ((a : Nat) : Int) ∧ FF 20 = iv ((i : Nat) : Int) ∧ Kept T_r w0 ww ∧ Rdx ww T146 p l s R ∧ Blk ww p1 29 (fun _ => 0) ∧ Blk ww p24 29 b ∧ Grew w0 T_r T146 ∧ Apart T146 (onB p1) ∧ Apart T146 (onB p24)) (M - 0) ⟨0, 0, (fun _ => 0), (rdStep (wholeRd l gBig) st).2, T55, by omega, by omega, (g_start (by assumption) (by omega) hM), rfl, s135, s137, s138, s140, s142, s139, s143, s144, s136, s141, s145, K109, B106, B107, B108, gr61, ap62, ap63⟩ ?_))
   rintro n150 F147 w148 ⟨i, a, b, s, T146, i151, i152, hI, hn150, s153, s154, s155, s156, s157, s158, s159, s160, s161, s162, s163, K149, B164, B165, B166, gr167, ap168, ap169⟩
   refine wq_seq (wq_region (wl_v (.bool (decide (((i : Nat) : Int) < ((M : Nat) : Int)))) rfl rfl (y_lss rfl s163 s160 rfl rr) (wl_nil fun F170 hF171 => ?_)))
   obtain ⟨s172, s173, s174, s175, s176, s177, s178, s179, s180, s181, s182⟩ := t11 hF171 0 s153 2 s154 3 s155 4 s156 6 s157 9 s158 18 s159 19 s160 48 s161 5 s162 20 s163
   have s183 : F170 21 = .bool (decide (((i : Nat) : Int) < ((M : Nat) : Int))) := (hF171 21).trans rfl
   clear hF171
   refine then_normal (wq_seq ?_)
   refine wq_cond s183 (fun c184 => ?_) (fun c184 => ?_)
   ·replace c184 := of_decide_eq_true c184
    refine wq_skip (then_normal (wq_seq (wq_block (wq_seq ?_))))
    have hat := gBig_at l a s
    refine wq_region (wl_mv rfl rfl rfl s181 (wl_mv rfl rfl rfl s172 (wl_call (R := fun v_ w_ => ∃ (T187 : Nat → Prop), iv ((rdStep (wholeRd l 9223372036854775807) s).1) = v_ ∧ Kept T146 w148 w_ ∧ (Rdx w_ T187 p l ((rdStep (wholeRd l 9223372036854775807) s).2) R ∧ Grew w148 T146 T187)) rfl rfl (y_cs rfl rfl rfl (fun _ _ => by kernel_rfl) (ev_func _) (vsC rfl (vsC rfl vsN)) (t_rwholeX p l s R 9223372036854775807 T146 _  B164 ) (fun e_ w_ h_ => by obtain ⟨T187_, he_, hr_⟩ := h_; exact ⟨_, he_, T187_, rfl, hr_⟩)) ?_)))
    rintro _ w185 ⟨T187, rfl, k186, ⟨B188, g189⟩⟩
    have B190 := B165.all k186 (ap168.symm p1 rfl)
    have B191 := B166.all k186 (ap169.symm p24 rfl)
    have K192 := K149.trans k186 (fun i hi x => ((Grew.ok (S := T_r) gr167 (fun _ x => x)) i hi x))
    have gr193 := gr167.trans K149 g189
    have ap194 : Apart T187 (onB p1) := ap168.grew g189 (onB_live B165.lt)
    have ap195 : Apart T187 (onB p24) := ap169.grew g189 (onB_live B166.lt)
    refine wl_v (iv (((gOne l a s).1 : Nat) : Int)) rfl rfl (y_add rfl rfl rfl (i64_n (by rw [show (9223372036854775807 : Int) = gBig from rfl]; exact hat.1) (by omega)) rr) (wl_v (iv (((gOne l a s).1 : Nat) : Int)) rfl rfl (y_asg rfl rfl rr) (wl_nil fun F196 hF197 => ?_))
    obtain ⟨s198, s199, s200, s201, s202, s203, s204, s205, s206, s207⟩ := t10 hF197 0 s172 2 s173 3 s174 4 s175 6 s176 9 s177 18 s178 19 s179 48 s180 20 s182
    have s209 : F196 5 = iv (((gOne l a s).1 : Nat) : Int) := (hF197 5).trans rfl
    clear hF197
    refine then_normal (wq_seq (wq_seq ?_))
    have B210 : Rdx w185 T187 p l ((rdStep (wholeRd l gBig) s).2) R := B188
    refine wq_region (wl_mv rfl rfl rfl s209 (wl_v (.bool (decide (16 ≤ (((gOne l a s).1 : Nat) : Int)))) rfl rfl (y_geq rfl rfl rfl rfl rr) (wl_nil fun F211 hF212 => ?_)))
    obtain ⟨s213, s214, s215, s216, s217, s218, s219, s220, s221, s222, s224⟩ := t11 hF212 0 s198 2 s199 3 s200 4 s201 6 s202 9 s203 18 s204 19 s205 48 s206 20 s207 5 s209
    have s225 : F211 27 = .bool (decide (16 ≤ (((gOne l a s).1 : Nat) : Int))) := (hF212 27).trans rfl
    clear hF212
    refine then_normal ?_
    refine wq_cond s225 (fun c226 => ?_) (fun c226 => ?_)
    ·replace c226 := of_decide_eq_true c226
     refine wq_goto (then_goto (in_goto (then_goto (then_goto (in_goto (then_goto ?_))))))
     refine jump_goto ⟨_, rfl, ?_⟩
     refine wq_seq (wq_skip (then_normal (wq_seq ?_)))
     first | have hR := g_none (l := l) (s := st) (Or.inl (by assumption)) | have hR := g_none (l := l) (s := st) (Or.inr (by omega)) | have hR := g_far (by omega) hI (by omega) | have hR := g_bad (by omega) hI (by omega) (by first | exact Or.inl (by assumption) | exact Or.inr (by assumption))
     refine wq_region (wl_v (blkV (fun _ => 0)) rfl rfl (y_buildR (cells := (arrL 16 (fun _ => 0)).toArray) rfl (by kernel_rfl) rfl rr) (wl_store_blk blkT_block rfl rfl rfl s214 rfl B190 fun w227 B228 k229 => ?_))
     have B230 := B210.all k229 ap194
     have K232 := K192.trans k229 (Grew.ok (S := T_r) gr7 noB_le)
     refine wl_v (iv 60) rfl rfl (y_asg rfl rfl rr) (wl_nil fun F233 hF234 => ?_)
     obtain ⟨s235, s236⟩ := t2 hF234 2 s214 48 s221
     have s237 : F233 3 = iv 60 := (hF234 3).trans rfl
     clear hF234
     refine then_normal (wq_ret (stay_ret ?_))
     exact end_2 s236 rfl (res_blk blkT_block rfl s235 B228) (res_tmp (v := iv 60) rfl s237) ⟨T187, (by rw [← (told_as hR).1, ← (told_as hR).2.1]), K232, ⟨(by rw [(told_as hR).2.2]; exact B230), gr193⟩⟩
    ·replace c226 := of_decide_eq_false c226
     refine wq_skip (then_normal (wq_seq (wq_region (wl_mv rfl rfl rfl s213 (wl_call (R := fun v_ w_ => ∃ (T240 : Nat → Prop), iv ((gOne l a s).2.1) = v_ ∧ Kept T187 w185 w_ ∧ (Rdx w_ T240 p l ((rdStep (signedRd l 9223372036854775807) ((rdStep (wholeRd l gBig) s).2)).2) R ∧ Grew w185 T187 T240)) rfl rfl (y_cs rfl rfl rfl (fun _ _ => by kernel_rfl) (ev_func _) (vsC rfl (vsC rfl vsN)) (t_rsignedX p l ((rdStep (wholeRd l gBig) s).2) R 9223372036854775807 T187 _  B210 ) (fun e_ w_ h_ => by obtain ⟨T240_, he_, hr_⟩ := h_; exact ⟨_, he_, T240_, rfl, hr_⟩)) ?_)))))
     rintro _ w238 ⟨T240, rfl, k239, ⟨B241, g242⟩⟩
     have B243 := B190.all k239 (ap194.symm p1 rfl)
     have B244 := B191.all k239 (ap195.symm p24 rfl)
     have K245 := K192.trans k239 (fun i hi x => ((Grew.ok (S := T_r) gr193 (fun _ x => x)) i hi x))
     have gr246 := gr193.trans K192 g242
     have ap247 : Apart T240 (onB p1) := ap194.grew g242 (onB_live B190.lt)
     have ap248 : Apart T240 (onB p24) := ap195.grew g242 (onB_live B191.lt)
     refine wl_v (iv ((gOne l a s).2.1)) rfl rfl (y_asg rfl rfl rr) (wl_nil fun F249 hF250 => ?_)
     obtain ⟨s251, s252, s253, s254, s255, s256, s257, s258, s259, s260, s262⟩ := t11 hF250 0 s213 2 s214 3 s215 4 s216 6 s217 9 s218 18 s219 19 s220 48 s221 20 s222 5 s224
     have s264 : F249 7 = iv ((gOne l a s).2.1) := (hF250 7).trans rfl
     clear hF250
     refine then_normal (wq_seq (wq_seq ?_))
     have B265 : Rdx w238 T240 p l ((gOne l a s).2.2) R := B241
     by_cases d266 : ((gOne l a s).2.1) = 0
     ·skip
      refine wq_region (wl_mv rfl rfl rfl s264 (wl_v (.bool true) rfl rfl (y_eqlI rfl rfl rfl (decide_eq_true d266) rr) (wl_v (.bool true) rfl rfl (y_mov rfl rfl rr) (wl_unless 2 false 32 rfl rfl rfl (Or.inl rfl) rfl (wl_unless 2 false 32 rfl rfl rfl (Or.inl rfl) rfl (wl_unless 2 false 32 rfl rfl rfl (Or.inl rfl) rfl (wl_unless 2 false 32 rfl rfl rfl (Or.inl rfl) rfl (wl_v (.bool true) rfl rfl (y_pickT rfl rfl rfl rr) (wl_nil fun F267 hF268 => ?_)))))))))
      obtain ⟨s270, s277⟩ := t2 hF268 2 s252 48 s259
      have s283 : F267 37 = .bool true := (hF268 37).trans rfl
      clear hF268
      refine then_normal ?_
      refine wq_cond (t := true) s283 (fun _ => ?_) (fun e => by cases e)
      refine wq_goto (then_goto (in_goto (then_goto (then_goto (in_goto (then_goto ?_))))))
      refine jump_goto ⟨_, rfl, ?_⟩
      refine wq_seq (wq_skip (then_normal (wq_seq ?_)))
      first | have hR := g_none (l := l) (s := st) (Or.inl (by assumption)) | have hR := g_none (l := l) (s := st) (Or.inr (by omega)) | have hR := g_far (by omega) hI (by omega) | have hR := g_bad (by omega) hI (by omega) (by first | exact Or.inl (by assumption) | exact Or.inr (by assumption))
      refine wq_region (wl_v (blkV (fun _ => 0)) rfl rfl (y_buildR (cells := (arrL 16 (fun _ => 0)).toArray) rfl (by kernel_rfl) rfl rr) (wl_store_blk blkT_block rfl rfl rfl s270 rfl B243 fun w284 B285 k286 => ?_))
      have B287 := B265.all k286 ap247
      have K289 := K245.trans k286 (Grew.ok (S := T_r) gr7 noB_le)
      refine wl_v (iv 60) rfl rfl (y_asg rfl rfl rr) (wl_nil fun F290 hF291 => ?_)
      obtain ⟨s292, s293⟩ := t2 hF291 2 s270 48 s277
      have s294 : F290 3 = iv 60 := (hF291 3).trans rfl
      clear hF291
      refine then_normal (wq_ret (stay_ret ?_))
      exact end_2 s293 rfl (res_blk blkT_block rfl s292 B285) (res_tmp (v := iv 60) rfl s294) ⟨T240, (by rw [← (told_as hR).1, ← (told_as hR).2.1]), K289, ⟨(by rw [(told_as hR).2.2]; exact B287), gr246⟩⟩
     ·skip
      refine wq_region (wl_mv rfl rfl rfl s264 (wl_v (.bool false) rfl rfl (y_eqlI rfl rfl rfl (decide_eq_false d266) rr) (wl_v (.bool false) rfl rfl (y_mov rfl rfl rr) (wl_vw (iv ((gOne l a s).2.1)) 2 false 32 rfl rfl rfl rfl rfl (y_mov rfl s264 rr) (wl_vw (iv ((gOne l a s).2.1)) 2 false 32 rfl rfl rfl rfl rfl (y_mov rfl s264 rr) (wl_callw (R := fun v_ w_ => v_ = iv (cl 1048576 ((gOne l a s).2.1)) ∧ Kept (fun _ => False) w238 w_) 2 false 32 rfl rfl rfl rfl rfl (y_cs rfl rfl rfl (fun _ _ => by kernel_rfl) (ev_func _) (vsC rfl vsN) (scan_clamped ((gOne l a s).2.1)  _   ) (fun e_ w_ h_ => ⟨_, h_.1, rfl, h_.2⟩)) ?_))))))
      rintro _ w295 ⟨rfl, k296⟩
      have B297 := B265.all k296 Apart.none
      have B298 := B243.all k296 id
      have B299 := B244.all k296 id
      have K300 := K245.tr k296
      refine wl_vw (.bool (decide (((gOne l a s).2.1) ≠ (cl 1048576 ((gOne l a s).2.1))))) 2 false 32 rfl rfl rfl rfl rfl (y_neqI rfl rfl rfl rfl rr) (wl_v (.bool (decide (((gOne l a s).2.1) ≠ (cl 1048576 ((gOne l a s).2.1))))) rfl rfl (y_pickF rfl rfl rfl rr) (wl_nil fun F301 hF302 => ?_))
      obtain ⟨s303, s304, s305, s306, s307, s308, s309, s310, s311, s312, s314, s316⟩ := t12 hF302 0 s251 2 s252 3 s253 4 s254 6 s255 9 s256 18 s257 19 s258 48 s259 20 s260 5 s262 7 s264
      have s317 : F301 37 = .bool (decide (((gOne l a s).2.1) ≠ (cl 1048576 ((gOne l a s).2.1)))) := (hF302 37).trans rfl
      clear hF302
      refine then_normal ?_
      refine wq_cond s317 (fun c318 => ?_) (fun c318 => ?_)
      ·replace c318 := of_decide_eq_true c318
       refine wq_goto (then_goto (in_goto (then_goto (then_goto (in_goto (then_goto ?_))))))
       refine jump_goto ⟨_, rfl, ?_⟩
       refine wq_seq (wq_skip (then_normal (wq_seq ?_)))
       first | have hR := g_none (l := l) (s := st) (Or.inl (by assumption)) | have hR := g_none (l := l) (s := st) (Or.inr (by omega)) | have hR := g_far (by omega) hI (by omega) | have hR := g_bad (by omega) hI (by omega) (by first | exact Or.inl (by assumption) | exact Or.inr (by assumption))
       refine wq_region (wl_v (blkV (fun _ => 0)) rfl rfl (y_buildR (cells := (arrL 16 (fun _ => 0)).toArray) rfl (by kernel_rfl) rfl rr) (wl_store_blk blkT_block rfl rfl rfl s304 rfl B298 fun w319 B320 k321 => ?_))
       have B322 := B297.all k321 ap247
       have K324 := K300.trans k321 (Grew.ok (S := T_r) gr7 noB_le)
       refine wl_v (iv 60) rfl rfl (y_asg rfl rfl rr) (wl_nil fun F325 hF326 => ?_)
       obtain ⟨s327, s328⟩ := t2 hF326 2 s304 48 s311
       have s329 : F325 3 = iv 60 := (hF326 3).trans rfl
       clear hF326
       refine then_normal (wq_ret (stay_ret ?_))
       exact end_2 s328 rfl (res_blk blkT_block rfl s327 B320) (res_tmp (v := iv 60) rfl s329) ⟨T240, (by rw [← (told_as hR).1, ← (told_as hR).2.1]), K324, ⟨(by rw [(told_as hR).2.2]; exact B322), gr246⟩⟩
      ·replace c318 := of_decide_eq_false c318
       refine wq_skip (then_normal (wq_seq ?_))
       have hN : ¬ ((gOne l a s).2.1 = 0 ∨ (gOne l a s).2.1 ≠ cl 1048576 (gOne l a s).2.1) := by rintro (h | h); exact absurd h (by assumption); exact absurd h (by assumption)
       have ho := ord_lt (gOne l a s).1 (by omega)
       refine wq_region (wl_mv rfl rfl rfl s314 (wl_v (.pointer (some ⟨1, (gOne l a s).1, none⟩)) rfl rfl (y_atR ((gOne l a s).1) (s := 1) rfl rfl rfl (by omega) Tryz.underlying28 (by omega) (by kernel_rfl) (by omega) rr) (wl_v (iv ((ord (gOne l a s).1 : Nat) : Int)) rfl rfl (y_ldR rfl rfl Tryz.underlying3 ((hO.but K300 hG).cell (by omega)) rr) (wl_mv rfl rfl rfl s316 (wl_v (.pointer (some ⟨p24, ord (gOne l a s).1, none⟩)) rfl rfl (y_atR (ord (gOne l a s).1) (s := 1) rfl s306 rfl (by omega) Tryz.underlying29 (by omega) (by kernel_rfl) (by omega) rr) (wl_set_blk rfl rfl rfl rfl rfl B299 (by omega) (by kernel_rfl) fun w330 B331 k332 => ?_))))))
       have B333 := B297.all k332 ap248
       have B334 := B298.all k332 (ap32.symm p1 rfl)
       have K335 := K300.trans k332 (Grew.ok (S := T_r) gr30 noB_le)
       refine wl_nil fun F336 hF337 => ?_
       obtain ⟨s338, s339, s340, s341, s342, s343, s344, s345, s346, s347, s348⟩ := t11 hF337 0 s303 2 s304 3 s305 4 s306 6 s307 9 s308 18 s309 19 s310 48 s311 20 s312 5 s314
       clear hF337
       refine then_normal (wq_region (wl_mv rfl rfl rfl s348 (wl_v (iv ((((gOne l a s).1) + 1 : Nat) : Int)) rfl rfl (y_add rfl rfl rfl (i64_n (by omega) (by omega)) rr) (wl_v (iv ((((gOne l a s).1) + 1 : Nat) : Int)) rfl rfl (y_asg rfl rfl rr) (wl_nil fun F351 hF352 => ?_)))))
       obtain ⟨s353, s354, s355, s356, s357, s358, s359, s360, s361, s362⟩ := t10 hF352 0 s338 2 s339 3 s340 4 s341 6 s342 9 s343 18 s344 19 s345 48 s346 20 s347
       have s365 : F351 5 = iv ((((gOne l a s).1) + 1 : Nat) : Int) := (hF352 5).trans rfl
       clear hF352
       refine in_normal (then_normal (wq_region (wl_v (iv ((i + 1 : Nat) : Int)) rfl rfl (y_add rfl s362 rfl (i64_n (by omega) (by omega)) rr) (wl_v (iv ((i + 1 : Nat) : Int)) rfl rfl (y_mov rfl rfl rr) (wl_nil fun F366 hF367 => ?_)))))
       obtain ⟨s368, s369, s370, s371, s372, s373, s374, s375, s376, s379⟩ := t10 hF367 0 s353 2 s354 3 s355 4 s356 6 s357 9 s358 18 s359 19 s360 48 s361 5 s365
       have s380 : F366 20 = iv ((i + 1 : Nat) : Int) := (hF367 20).trans rfl
       clear hF367
       exact then_normal ⟨(M - (i + 1)), by omega, i + 1, (gOne l a s).1 + 1, (upd b (ord (gOne l a s).1) (gOne l a s).2.1), (gOne l a s).2.2, T240, by omega, by omega, (g_ok (by omega) hI (by omega) hN), rfl, s368, s369, s370, s371, s372, s373, s374, s375, s376, s379, s380, K335, B333, B334, B331, gr246, ap247, ap248⟩
   ·replace c184 := of_decide_eq_false c184
    refine wq_exit (then_exit (then_exit (in_here (then_normal (wq_seq (wq_seq ?_))))))
    have hR := g_done (by omega) hI
    refine wq_region (wl_v (blkV b) rfl rfl (y_load_blk blkT_block rfl s175 B166 rr) (wl_store_blk blkT_block rfl rfl rfl s173 rfl B165 fun w381 B382 k383 => ?_))
    have B384 := B164.all k383 ap168
    have K386 := K149.trans k383 (Grew.ok (S := T_r) gr7 noB_le)
    refine wl_v (iv 0) rfl rfl (y_asg rfl rfl rr) (wl_nil fun F387 hF388 => ?_)
    obtain ⟨s389, s390⟩ := t2 hF388 2 s173 48 s180
    have s391 : F387 3 = iv 0 := (hF388 3).trans rfl
    clear hF388
    refine then_normal (wq_ret (then_ret (jump_ret ?_)))
    exact end_2 s390 rfl (res_blk blkT_block rfl s389 B382) (res_tmp (v := iv 0) rfl s391) ⟨T146, (by rw [← (told_as hR).1, ← (told_as hR).2.1]), K386, ⟨(by rw [(told_as hR).2.2]; exact B384), gr167⟩⟩
end Go.Proofs.YtdcbabgcbkdlhaaGreatDoor
