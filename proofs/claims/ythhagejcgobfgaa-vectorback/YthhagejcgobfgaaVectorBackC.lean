/- What VectorBack reaches of my texts, part 3. -/
import Derived.Test.YthhagejcgobfgaaVectorBackB
namespace Go.Proofs.Ythhagejcgobfgaa
open Go.RowKit

theorem stcT_reader : StcT Try.prog 79 3 := ⟨_, Try.underlying79, rfl, by kernel_rfl⟩
/-- A block of bytes that are read. -/
def Rby (w : World) (T : Nat → Prop) (g : Nat) (l : List Nat) : Prop := T = onB g ∧ w.heap[g]? = some (.cells (byteVals l).toArray 5 (0, 0))
theorem Rby.live {w : World} {T : Nat → Prop} {g : Nat} {l : List Nat} (h : Rby w T g l) : Live w T := by
  obtain ⟨rfl, h⟩ := h; exact onB_live (lt_of_heap h)
theorem Rby.all {S : Nat → Prop} {w w' : World} {T : Nat → Prop} {g : Nat} {l : List Nat} (h : Rby w T g l) (k : Kept S w w') (ha : Apart T S) : Rby w' T g l := by
  obtain ⟨rfl, h⟩ := h; exact ⟨rfl, k.at h (ha g rfl)⟩
def okR (l : List Nat) (st : Option Nat) (a : Nat) (b : Bool) : Prop := match st with
  | some n => n ≤ 8 * l.length ∧ a = n ∧ b = false
  | none => b = true
theorem rdis_open {w : World} {p g : Nat} {l : List Nat} {st : Option Nat} (h : RdIs w p g l st) : ∃ (a : Nat) (b : Bool), okR l st a b ∧ Stc w p 79 [.slice (some ⟨g, 0, none⟩) l.length l.length, .int .i64 (a : Int), .bool b] ∧ Rby w (onB g) g l ∧ Apart (onB p) (onB g) := by
  cases st with
  | none =>
    obtain ⟨a, h⟩ := h
    exact ⟨a, true, rfl, h.1, ⟨rfl, h.2.1⟩, fun i h1 h2 => h.2.2 (h2.symm.trans h1)⟩
  | some n => exact ⟨n, false, ⟨h.1, rfl, rfl⟩, h.2.1, ⟨rfl, h.2.2.1⟩, fun i h1 h2 => h.2.2.2 (h2.symm.trans h1)⟩
theorem rdis_close {w : World} {p g : Nat} {l : List Nat} {st : Option Nat} {a : Nat} {b : Bool} (ho : okR l st a b) (h1 : Stc w p 79 [.slice (some ⟨g, 0, none⟩) l.length l.length, .int .i64 (a : Int), .bool b]) (h2 : Rby w (onB g) g l) (ha : Apart (onB p) (onB g)) : RdIs w p g l st := by
  have hne : g ≠ p := fun e => ha g e rfl
  cases st with
  | none => cases ho; exact ⟨a, h1, h2.2, hne⟩
  | some n => obtain ⟨h3, rfl, rfl⟩ := ho; exact ⟨h3, h1, h2.2, hne⟩
theorem rdi_open {w : World} {T : Nat → Prop} {p : Nat} {l : List Nat} {st : Option Nat} (h : Rdi w T p l st) : ∃ (g a : Nat) (b : Bool), Fair l ∧ (∀ i, T i ↔ (onB p i ∨ onB g i)) ∧ okR l st a b ∧ Stc w p 79 [.slice (some ⟨g, 0, none⟩) l.length l.length, .int .i64 (a : Int), .bool b] ∧ Rby w (onB g) g l ∧ Apart (onB p) (onB g) := by
  obtain ⟨hf, g, rfl, h⟩ := h
  obtain ⟨a, b, h1, h2, h3, h4⟩ := rdis_open h
  exact ⟨g, a, b, hf, fun i => Iff.rfl, h1, h2, h3, h4⟩
theorem rdi_close {w : World} {p g : Nat} {l : List Nat} {st : Option Nat} {a : Nat} {b : Bool} (hf : Fair l) (ho : okR l st a b) (h1 : Stc w p 79 [.slice (some ⟨g, 0, none⟩) l.length l.length, .int .i64 (a : Int), .bool b]) (h2 : Rby w (onB g) g l) (ha : Apart (onB p) (onB g)) : Rdi w (fun i => onB p i ∨ onB g i) p l st := ⟨hf, g, rfl, rdis_close ho h1 h2 ha⟩
/-- At q a copy of the reader at p, that goes on by itself. -/
def Rd2 (w : World) (T : Nat → Prop) (q p : Nat) (l : List Nat) (st1 st : Option Nat) : Prop := Fair l ∧ ∃ g, (∀ i, T i ↔ (onB p i ∨ onB q i ∨ onB g i)) ∧ q ≠ p ∧ RdIs w p g l st1 ∧ RdIs w q g l st
theorem Rd2.live {w : World} {T : Nat → Prop} {q p : Nat} {l : List Nat} {st1 st : Option Nat} (h : Rd2 w T q p l st1 st) : Live w T := by
  obtain ⟨_, g, hT, _, h1, h2⟩ := h
  intro i hi
  rcases (hT i).1 hi with e | e | e <;> cases e
  · exact h1.lt.1
  · exact h2.lt.1
  · exact h1.lt.2.1
theorem Rd2.all {S : Nat → Prop} {w w' : World} {T : Nat → Prop} {q p : Nat} {l : List Nat} {st1 st : Option Nat} (h : Rd2 w T q p l st1 st) (k : Kept S w w') (ha : Apart T S) : Rd2 w' T q p l st1 st := by
  obtain ⟨hf, g, hT, hn, h1, h2⟩ := h
  have np := ha p ((hT p).2 (.inl rfl))
  have nq := ha q ((hT q).2 (.inr (.inl rfl)))
  have ng := ha g ((hT g).2 (.inr (.inr rfl)))
  exact ⟨hf, g, hT, hn, h1.kept k np ng, h2.kept k nq ng⟩
theorem rd2_open {w : World} {T : Nat → Prop} {q p : Nat} {l : List Nat} {st1 st : Option Nat} (h : Rd2 w T q p l st1 st) : ∃ (g a1 : Nat) (b1 : Bool) (a2 : Nat) (b2 : Bool), Fair l ∧ (∀ i, T i ↔ (onB p i ∨ onB q i ∨ onB g i)) ∧ okR l st1 a1 b1 ∧ okR l st a2 b2 ∧
    Stc w p 79 [.slice (some ⟨g, 0, none⟩) l.length l.length, .int .i64 (a1 : Int), .bool b1] ∧ Stc w q 79 [.slice (some ⟨g, 0, none⟩) l.length l.length, .int .i64 (a2 : Int), .bool b2] ∧ Rby w (onB g) g l ∧ Apart (onB p) (onB q) ∧ Apart (onB p) (onB g) ∧ Apart (onB q) (onB g) := by
  obtain ⟨hf, g, hT, hn, h1, h2⟩ := h
  obtain ⟨a1, b1, u1, u2, u3, u4⟩ := rdis_open h1
  obtain ⟨a2, b2, v1, v2, v3, v4⟩ := rdis_open h2
  exact ⟨g, a1, b1, a2, b2, hf, hT, u1, v1, u2, v2, u3, fun _ e1 e2 => hn (e2.symm.trans e1), u4, v4⟩
theorem rd2_close {w : World} {p q g : Nat} {l : List Nat} {st : Option Nat} {a : Nat} {b : Bool} (hf : Fair l) (ho : okR l st a b) (h1 : Stc w p 79 [.slice (some ⟨g, 0, none⟩) l.length l.length, .int .i64 (a : Int), .bool b]) (h2 : Stc w q 79 [.slice (some ⟨g, 0, none⟩) l.length l.length, .int .i64 (a : Int), .bool b]) (h3 : Rby w (onB g) g l) (a1 : Apart (onB p) (onB q)) (a2 : Apart (onB p) (onB g)) (a3 : Apart (onB q) (onB g)) :
    Rd2 w (fun i => onB p i ∨ onB q i ∨ onB g i) q p l st st := ⟨hf, g, fun _ => Iff.rfl, fun e => a1 q e rfl, rdis_close ho h1 h3 a2, rdis_close ho h2 h3 a3⟩
theorem t_rsigned2 (q p : Nat) (l : List Nat) (st1 st : Option Nat) (m : Int) (T_r : Nat → Prop) (w0 : World) (h_r : Rd2 w0 T_r q p l st1 st) :
    Calls Try.prog 39 #[.pointer (some ⟨q, 0, none⟩), .int .i64 m] w0 fun e w' => ∃ (T_r' : Nat → Prop), e = .returned (.int .i64 (rdStep (signedRd l m) st).1) ∧ Kept T_r w0 w' ∧ (Rd2 w' T_r' q p l st1 (rdStep (signedRd l m) st).2 ∧ Grew w0 T_r T_r') := by
  have h := h_r
  obtain ⟨hf, g, hT, hn, h1, h2⟩ := h
  exact (rsigned_any q g l st m w0 hf h2).mono fun _ _ hd => by
    obtain ⟨k1, k2, k3⟩ := hd
    exact ⟨T_r, k1, k3.mono (fun _ _ z => (hT _).2 (.inr (.inl z))), ⟨hf, g, hT, hn, h1.kept k3 (fun z => hn z.symm) h2.lt.2.2, k2⟩, Grew.refl _ _⟩
theorem t_lost2 (q p : Nat) (l : List Nat) (st1 st : Option Nat) (T_r : Nat → Prop) (w0 : World) (h_r : Rd2 w0 T_r q p l st1 st) :
    Calls Try.prog 40 #[.pointer (some ⟨q, 0, none⟩)] w0 fun e w' => e = .returned (.bool (st.isNone)) ∧ Kept (fun _ => False) w0 w' := by
  obtain ⟨hf, g, hT, hn, h1, h2⟩ := h_r
  exact (lost_any q g l st w0 h2).mono fun _ _ ⟨e, hw⟩ => by subst hw; exact ⟨e, Kept.refl _ _⟩
/-- Where a reader stands behind a vector: where it stood, if there is none. -/
def vrT (l : List Nat) (gx gy : Int) (s : Option Nat) : Option Nat := if rdOk l gx gy s then vrS l s else s
theorem vrT_ok {l : List Nat} {gx gy : Int} {s : Option Nat} (h : vrE l gx gy s = 0) : vrT l gx gy s = vrS l s := by
  unfold vrE at h; unfold vrT
  split at h
  · rename_i h'; rw [if_pos h']
  · cases h
theorem vbT_back (X Y : Nat → Int) (gx gy : Int) (n : Nat) (hv : ∀ k, vecOk (X k) (Y k)) (k : Nat) (hk : k < n) (L : List Nat) (hL : L = pack (vbTo X Y gx gy n ++ endBits (vbTo X Y gx gy n).length)) :
    vrX L (gAt X gx k) (gAt Y gy k) (some (vbTo X Y gx gy k).length) = X k ∧ vrY L (gAt X gx k) (gAt Y gy k) (some (vbTo X Y gx gy k).length) = Y k ∧ vrE L (gAt X gx k) (gAt Y gy k) (some (vbTo X Y gx gy k).length) = 0 ∧
      vrT L (gAt X gx k) (gAt Y gy k) (some (vbTo X Y gx gy k).length) = some (vbTo X Y gx gy (k + 1)).length := by
  obtain ⟨h1, h2, h3, h4⟩ := vb_back X Y gx gy n hv k hk L hL
  exact ⟨h1, h2, h3, (vrT_ok h3).trans h4⟩

theorem twoK_place : TwoInts 73 := ⟨Try.underlying73, by kernel_rfl, "x", "y", by decide, by decide, by kernel_rfl⟩
theorem stcT_place : StcT Try.prog 73 2 := ⟨_, Try.underlying73, rfl, by kernel_rfl⟩
set_option maxHeartbeats 4000000 in
set_option maxRecDepth 100000 in
theorem vt_may (n : Int) (w0 : World) :
    Calls Try.prog 29 #[.int .i64 (n)] w0 fun e w' => e = .returned (.bool (decide (1 ≤ n ∧ n ≤ 16))) ∧ Kept (fun _ => False) w0 w' := by
  refine calls_wq (args := [.int .i64 (n)]) 9 Try.func29 rfl rfl (Nat.le_of_ble_eq_true rfl) ?_
  have K0 := Kept.refl (fun _ => False) w0
  refine wq_seq ?_
  refine wq_region ?_
  refine wl_v (.bool false) rfl rfl (y_asg rfl rfl ⟨rfl, rfl⟩) ?_
  refine wl_nil fun F1 hF2 => ?_
  have s3 : F1 0 = .int .i64 (n) := (hF2 0).trans rfl
  have s4 : F1 9 = undef := (hF2 9).trans rfl
  clear hF2
  refine then_normal ?_
  refine wq_seq ?_
  by_cases d5 : (1) ≤ (n)
  · skip
    refine wq_region ?_
    refine wl_v (.int .i64 (n)) rfl rfl (y_mov rfl s3 ⟨rfl, rfl⟩) ?_
    refine wl_v (.bool true) rfl rfl (y_geq rfl rfl rfl (decide_eq_true d5) ⟨rfl, rfl⟩) ?_
    refine wl_v (.bool true) rfl rfl (y_mov rfl rfl ⟨rfl, rfl⟩) ?_
    refine wl_vw (.int .i64 (n)) 2 true 5 rfl rfl rfl rfl rfl (y_mov rfl s3 ⟨rfl, rfl⟩) ?_
    refine wl_vw (.bool (decide ((n) ≤ (16)))) 2 true 5 rfl rfl rfl rfl rfl (y_leq rfl rfl rfl rfl ⟨rfl, rfl⟩) ?_
    refine wl_v (.bool (decide ((n) ≤ (16)))) rfl rfl (y_pickT rfl rfl rfl ⟨rfl, rfl⟩) ?_
    refine wl_v (.bool (decide ((n) ≤ (16)))) rfl rfl (y_asg rfl rfl ⟨rfl, rfl⟩) ?_
    refine wl_nil fun F6 hF7 => ?_
    have s8 : F6 9 = undef := (hF7 9).trans s4
    have s9 : F6 2 = .bool (decide ((n) ≤ (16))) := (hF7 2).trans rfl
    clear hF7
    refine then_normal ?_
    refine wq_ret ?_
    exact end_tmp (v := .bool (decide ((n) ≤ (16)))) s8 rfl rfl s9 ⟨(retB (by first | exact (decide_eq_true (by omega)).symm | exact (decide_eq_false (by omega)).symm | exact decide_eq_decide.2 (by omega))), K0⟩
  · skip
    refine wq_region ?_
    refine wl_v (.int .i64 (n)) rfl rfl (y_mov rfl s3 ⟨rfl, rfl⟩) ?_
    refine wl_v (.bool false) rfl rfl (y_geq rfl rfl rfl (decide_eq_false d5) ⟨rfl, rfl⟩) ?_
    refine wl_v (.bool false) rfl rfl (y_mov rfl rfl ⟨rfl, rfl⟩) ?_
    refine wl_unless 2 true 5 rfl rfl rfl (Or.inl rfl) rfl ?_
    refine wl_unless 2 true 5 rfl rfl rfl (Or.inl rfl) rfl ?_
    refine wl_v (.bool false) rfl rfl (y_pickF rfl rfl rfl ⟨rfl, rfl⟩) ?_
    refine wl_v (.bool false) rfl rfl (y_asg rfl rfl ⟨rfl, rfl⟩) ?_
    refine wl_nil fun F10 hF11 => ?_
    have s12 : F10 9 = undef := (hF11 9).trans s4
    have s13 : F10 2 = .bool false := (hF11 2).trans rfl
    clear hF11
    refine then_normal ?_
    refine wq_ret ?_
    exact end_tmp (v := .bool false) s12 rfl rfl s13 ⟨(retB (by first | exact (decide_eq_true (by omega)).symm | exact (decide_eq_false (by omega)).symm | exact decide_eq_decide.2 (by omega))), K0⟩
set_option maxHeartbeats 4000000 in
set_option maxRecDepth 100000 in
theorem vt_within (x n : Int) (w0 : World) :
    Calls Try.prog 30 #[.int .i64 (x), .int .i64 (n)] w0 fun e w' => e = .returned (.bool (decide (0 ≤ x ∧ x < n))) ∧ Kept (fun _ => False) w0 w' := by
  refine calls_wq (args := [.int .i64 (x), .int .i64 (n)]) 12 Try.func30 rfl rfl (Nat.le_of_ble_eq_true rfl) ?_
  have K0 := Kept.refl (fun _ => False) w0
  refine wq_seq ?_
  refine wq_region ?_
  refine wl_v (.bool false) rfl rfl (y_asg rfl rfl ⟨rfl, rfl⟩) ?_
  refine wl_nil fun F1 hF2 => ?_
  have s3 : F1 0 = .int .i64 (x) := (hF2 0).trans rfl
  have s4 : F1 1 = .int .i64 (n) := (hF2 1).trans rfl
  have s5 : F1 12 = undef := (hF2 12).trans rfl
  clear hF2
  refine then_normal ?_
  refine wq_seq ?_
  by_cases d6 : (0) ≤ (x)
  · skip
    refine wq_region ?_
    refine wl_v (.int .i64 (x)) rfl rfl (y_mov rfl s3 ⟨rfl, rfl⟩) ?_
    refine wl_v (.bool true) rfl rfl (y_geq rfl rfl rfl (decide_eq_true d6) ⟨rfl, rfl⟩) ?_
    refine wl_v (.bool true) rfl rfl (y_mov rfl rfl ⟨rfl, rfl⟩) ?_
    refine wl_vw (.int .i64 (x)) 2 true 7 rfl rfl rfl rfl rfl (y_mov rfl s3 ⟨rfl, rfl⟩) ?_
    refine wl_vw (.int .i64 (n)) 2 true 7 rfl rfl rfl rfl rfl (y_mov rfl s4 ⟨rfl, rfl⟩) ?_
    refine wl_vw (.bool (decide ((x) < (n)))) 2 true 7 rfl rfl rfl rfl rfl (y_lss rfl rfl rfl rfl ⟨rfl, rfl⟩) ?_
    refine wl_v (.bool (decide ((x) < (n)))) rfl rfl (y_pickT rfl rfl rfl ⟨rfl, rfl⟩) ?_
    refine wl_v (.bool (decide ((x) < (n)))) rfl rfl (y_asg rfl rfl ⟨rfl, rfl⟩) ?_
    refine wl_nil fun F7 hF8 => ?_
    have s9 : F7 12 = undef := (hF8 12).trans s5
    have s10 : F7 4 = .bool (decide ((x) < (n))) := (hF8 4).trans rfl
    clear hF8
    refine then_normal ?_
    refine wq_ret ?_
    exact end_tmp (v := .bool (decide ((x) < (n)))) s9 rfl rfl s10 ⟨(retB (by first | exact (decide_eq_true (by omega)).symm | exact (decide_eq_false (by omega)).symm | exact decide_eq_decide.2 (by omega))), K0⟩
  · skip
    refine wq_region ?_
    refine wl_v (.int .i64 (x)) rfl rfl (y_mov rfl s3 ⟨rfl, rfl⟩) ?_
    refine wl_v (.bool false) rfl rfl (y_geq rfl rfl rfl (decide_eq_false d6) ⟨rfl, rfl⟩) ?_
    refine wl_v (.bool false) rfl rfl (y_mov rfl rfl ⟨rfl, rfl⟩) ?_
    refine wl_unless 2 true 7 rfl rfl rfl (Or.inl rfl) rfl ?_
    refine wl_unless 2 true 7 rfl rfl rfl (Or.inl rfl) rfl ?_
    refine wl_unless 2 true 7 rfl rfl rfl (Or.inl rfl) rfl ?_
    refine wl_v (.bool false) rfl rfl (y_pickF rfl rfl rfl ⟨rfl, rfl⟩) ?_
    refine wl_v (.bool false) rfl rfl (y_asg rfl rfl ⟨rfl, rfl⟩) ?_
    refine wl_nil fun F11 hF12 => ?_
    have s13 : F11 12 = undef := (hF12 12).trans s5
    have s14 : F11 4 = .bool false := (hF12 4).trans rfl
    clear hF12
    refine then_normal ?_
    refine wq_ret ?_
    exact end_tmp (v := .bool false) s13 rfl rfl s14 ⟨(retB (by first | exact (decide_eq_true (by omega)).symm | exact (decide_eq_false (by omega)).symm | exact decide_eq_decide.2 (by omega))), K0⟩
set_option maxHeartbeats 4000000 in
set_option maxRecDepth 100000 in
theorem vt_between (a b c : Int) (w0 : World) :
    Calls Try.prog 45 #[.int .i64 (a), .int .i64 (b), .int .i64 (c)] w0 fun e w' => e = .returned (.int .i64 (med a b c)) ∧ Kept (fun _ => False) w0 w' := by
  refine calls_wq (args := [.int .i64 (a), .int .i64 (b), .int .i64 (c)]) 16 Try.func45 rfl rfl (Nat.le_of_ble_eq_true rfl) ?_
  have K0 := Kept.refl (fun _ => False) w0
  refine wq_seq ?_
  refine wq_region ?_
  refine wl_v (.int .i64 (0)) rfl rfl (y_asg rfl rfl ⟨rfl, rfl⟩) ?_
  refine wl_nil fun F1 hF2 => ?_
  have s3 : F1 0 = .int .i64 (a) := (hF2 0).trans rfl
  have s4 : F1 1 = .int .i64 (b) := (hF2 1).trans rfl
  have s5 : F1 2 = .int .i64 (c) := (hF2 2).trans rfl
  have s6 : F1 16 = undef := (hF2 16).trans rfl
  clear hF2
  refine then_normal ?_
  refine wq_seq ?_
  refine wq_region ?_
  refine wl_v (.int .i64 (a)) rfl rfl (y_mov rfl s3 ⟨rfl, rfl⟩) ?_
  refine wl_v (.int .i64 (b)) rfl rfl (y_mov rfl s4 ⟨rfl, rfl⟩) ?_
  refine wl_v (.int .i64 (min (a) (b))) rfl rfl (y_minR rfl rfl rfl rfl ⟨rfl, rfl⟩) ?_
  refine wl_v (.int .i64 (a)) rfl rfl (y_mov rfl s3 ⟨rfl, rfl⟩) ?_
  refine wl_v (.int .i64 (b)) rfl rfl (y_mov rfl s4 ⟨rfl, rfl⟩) ?_
  refine wl_v (.int .i64 (max (a) (b))) rfl rfl (y_maxR rfl rfl rfl rfl ⟨rfl, rfl⟩) ?_
  refine wl_v (.int .i64 (c)) rfl rfl (y_mov rfl s5 ⟨rfl, rfl⟩) ?_
  refine wl_v (.int .i64 (min (max (a) (b)) (c))) rfl rfl (y_minR rfl rfl rfl rfl ⟨rfl, rfl⟩) ?_
  refine wl_v (.int .i64 (max (min (a) (b)) (min (max (a) (b)) (c)))) rfl rfl (y_maxR rfl rfl rfl rfl ⟨rfl, rfl⟩) ?_
  refine wl_v (.int .i64 (max (min (a) (b)) (min (max (a) (b)) (c)))) rfl rfl (y_asg rfl rfl ⟨rfl, rfl⟩) ?_
  refine wl_nil fun F7 hF8 => ?_
  have s9 : F7 16 = undef := (hF8 16).trans s6
  have s10 : F7 6 = .int .i64 (max (min (a) (b)) (min (max (a) (b)) (c))) := (hF8 6).trans rfl
  clear hF8
  refine then_normal ?_
  refine wq_ret ?_
  exact end_tmp (v := .int .i64 (max (min (a) (b)) (min (max (a) (b)) (c)))) s9 rfl rfl s10 ⟨rfl, K0⟩
set_option maxHeartbeats 4000000 in
set_option maxRecDepth 100000 in
theorem vt_median (a b c d m n : Int) (w0 : World) :
    Calls Try.prog 28 #[.agg #[.int .i64 (a), .int .i64 (b)], .agg #[.int .i64 (c), .int .i64 (d)], .agg #[.int .i64 (m), .int .i64 (n)]] w0 fun e w' => e = .returned (.agg #[.int .i64 (med a c m), .int .i64 (med b d n)]) ∧ Kept (fun _ => False) w0 w' := by
  refine calls_wq (args := [.agg #[.int .i64 (a), .int .i64 (b)], .agg #[.int .i64 (c), .int .i64 (d)], .agg #[.int .i64 (m), .int .i64 (n)]]) 22 Try.func28 rfl rfl (Nat.le_of_ble_eq_true rfl) ?_
  have K0 := Kept.refl (fun _ => False) w0
  refine wq_seq ?_
  refine wq_region ?_
  refine wl_box_stc (vs := [.int .i64 (a), .int .i64 (b)]) rfl rfl rfl rfl fun p1 w2 B4 g5 k3 => ?_
  have gr6 : Grew w0 noB (onB p1) := Grew.new K0 g5
  have K7 := K0.trans k3 (fun _ _ x => x.elim)
  refine wl_box_stc (vs := [.int .i64 (c), .int .i64 (d)]) rfl rfl rfl rfl fun p8 w9 B11 g12 k10 => ?_
  have gr13 : Grew w0 noB (onB p8) := Grew.new K7 g12
  have ap14 : Apart (onB p8) (onB p1) := Apart.new g12 (onB_live (B4).lt)
  have B15 := B4.all k10 id
  have K16 := K7.trans k10 (fun _ _ x => x.elim)
  refine wl_box_stc (vs := [.int .i64 (m), .int .i64 (n)]) rfl rfl rfl rfl fun p17 w18 B20 g21 k19 => ?_
  have gr22 : Grew w0 noB (onB p17) := Grew.new K16 g21
  have ap23 : Apart (onB p17) (onB p1) := Apart.new g21 (onB_live (B15).lt)
  have ap24 : Apart (onB p17) (onB p8) := Apart.new g21 (onB_live (B11).lt)
  have B25 := B15.all k19 id
  have B26 := B11.all k19 id
  have K27 := K16.trans k19 (fun _ _ x => x.elim)
  refine wl_alloc_stc (n := 2) (vs := [.int .i64 (0), .int .i64 (0)]) rfl rfl rfl (by kernel_rfl) fun p28 w29 B31 g32 k30 => ?_
  have gr33 : Grew w0 noB (onB p28) := Grew.new K27 g32
  have ap34 : Apart (onB p28) (onB p1) := Apart.new g32 (onB_live (B25).lt)
  have ap35 : Apart (onB p28) (onB p8) := Apart.new g32 (onB_live (B26).lt)
  have ap36 : Apart (onB p28) (onB p17) := Apart.new g32 (onB_live (B20).lt)
  have B37 := B25.all k30 id
  have B38 := B26.all k30 id
  have B39 := B20.all k30 id
  have K40 := K27.trans k30 (fun _ _ x => x.elim)
  refine wl_nil fun F41 hF42 => ?_
  have s43 : F41 22 = undef := (hF42 22).trans rfl
  have s44 : F41 3 = .pointer (some ⟨p1, 0, none⟩) := (hF42 3).trans rfl
  have s45 : F41 4 = .pointer (some ⟨p8, 0, none⟩) := (hF42 4).trans rfl
  have s46 : F41 5 = .pointer (some ⟨p17, 0, none⟩) := (hF42 5).trans rfl
  have s47 : F41 6 = .pointer (some ⟨p28, 0, none⟩) := (hF42 6).trans rfl
  clear hF42
  refine then_normal ?_
  refine wq_seq ?_
  refine wq_tail 15 [some 7, some 8, some 9, some 10, some 11, some 12, some 13, some 14, some 15, some 16, some 17, some 18, some 19, some 20, some 21] [Pd.eq (.pointer (some ⟨p1, 0, none⟩)), Pd.eq (.int .i64 (a)), Pd.eq (.pointer (some ⟨p8, 0, none⟩)), Pd.eq (.int .i64 (c)), Pd.eq (.pointer (some ⟨p17, 0, none⟩)), Pd.eq (.int .i64 (m)), Pd.eq (.int .i64 (med (a) (c) (m))), Pd.eq (.pointer (some ⟨p1, 1, none⟩)), Pd.eq (.int .i64 (b)), Pd.eq (.pointer (some ⟨p8, 1, none⟩)), Pd.eq (.int .i64 (d)), Pd.eq (.pointer (some ⟨p17, 1, none⟩)), Pd.eq (.int .i64 (n)), Pd.eq (.int .i64 (med (b) (d) (n))), Pd.eq (.agg #[.int .i64 (med (a) (c) (m)), .int .i64 (med (b) (d) (n))])] (by kernel_rfl) (by kernel_rfl) (by kernel_rfl) ?_ ?_
  · refine stepsF_cons ?_ ?_
    · refine StepF.one rfl fun F_ w_ hR hout hD => ?_
      exact (y_fieldR (n := 1) rfl ((hout 3 rfl (by decide)).trans s44) Try.underlying33 rfl (by kernel_rfl) (by decide) rfl ⟨rfl, Kept.refl _ _⟩)
    refine stepsF_cons ?_ ?_
    · refine StepF.one rfl fun F_ w_ hR hout hD => ?_
      have g7 : F_ 7 = .pointer (some ⟨p1, 0, none⟩) := (hD.get 0 rfl rfl rfl)
      exact (y_ld_stc rfl g7 Try.underlying3 (B37.all hR id) rfl rfl ⟨rfl, Kept.refl _ _⟩)
    refine stepsF_cons ?_ ?_
    · refine StepF.one rfl fun F_ w_ hR hout hD => ?_
      exact (y_fieldR (n := 1) rfl ((hout 4 rfl (by decide)).trans s45) Try.underlying33 rfl (by kernel_rfl) (by decide) rfl ⟨rfl, Kept.refl _ _⟩)
    refine stepsF_cons ?_ ?_
    · refine StepF.one rfl fun F_ w_ hR hout hD => ?_
      have g9 : F_ 9 = .pointer (some ⟨p8, 0, none⟩) := (hD.get 0 rfl rfl rfl)
      exact (y_ld_stc rfl g9 Try.underlying3 (B38.all hR id) rfl rfl ⟨rfl, Kept.refl _ _⟩)
    refine stepsF_cons ?_ ?_
    · refine StepF.one rfl fun F_ w_ hR hout hD => ?_
      exact (y_fieldR (n := 1) rfl ((hout 5 rfl (by decide)).trans s46) Try.underlying33 rfl (by kernel_rfl) (by decide) rfl ⟨rfl, Kept.refl _ _⟩)
    refine stepsF_cons ?_ ?_
    · refine StepF.one rfl fun F_ w_ hR hout hD => ?_
      have g11 : F_ 11 = .pointer (some ⟨p17, 0, none⟩) := (hD.get 0 rfl rfl rfl)
      exact (y_ld_stc rfl g11 Try.underlying3 (B39.all hR id) rfl rfl ⟨rfl, Kept.refl _ _⟩)
    refine stepsF_cons ?_ ?_
    · refine StepF.one rfl fun F_ w_ hR hout hD => ?_
      have g8 : F_ 8 = .int .i64 (a) := (hD.get 0 rfl rfl rfl)
      have g10 : F_ 10 = .int .i64 (c) := (hD.get 1 rfl rfl rfl)
      have g12 : F_ 12 = .int .i64 (m) := (hD.get 2 rfl rfl rfl)
      exact (y_cs rfl rfl rfl (fun _ _ => by kernel_rfl) (ev_func _) (vsC g8 (vsC g10 (vsC g12 vsN))) (vt_between (a) (c) (m)  _   ) (fun e_ w_ h_ => ⟨_, h_.1, rfl, h_.2⟩))
    refine stepsF_cons ?_ ?_
    · refine StepF.one rfl fun F_ w_ hR hout hD => ?_
      exact (y_fieldR (n := 1) rfl ((hout 3 rfl (by decide)).trans s44) Try.underlying33 rfl (by kernel_rfl) (by decide) rfl ⟨rfl, Kept.refl _ _⟩)
    refine stepsF_cons ?_ ?_
    · refine StepF.one rfl fun F_ w_ hR hout hD => ?_
      have g14 : F_ 14 = .pointer (some ⟨p1, 1, none⟩) := (hD.get 0 rfl rfl rfl)
      exact (y_ld_stc rfl g14 Try.underlying3 (B37.all hR id) rfl rfl ⟨rfl, Kept.refl _ _⟩)
    refine stepsF_cons ?_ ?_
    · refine StepF.one rfl fun F_ w_ hR hout hD => ?_
      exact (y_fieldR (n := 1) rfl ((hout 4 rfl (by decide)).trans s45) Try.underlying33 rfl (by kernel_rfl) (by decide) rfl ⟨rfl, Kept.refl _ _⟩)
    refine stepsF_cons ?_ ?_
    · refine StepF.one rfl fun F_ w_ hR hout hD => ?_
      have g16 : F_ 16 = .pointer (some ⟨p8, 1, none⟩) := (hD.get 0 rfl rfl rfl)
      exact (y_ld_stc rfl g16 Try.underlying3 (B38.all hR id) rfl rfl ⟨rfl, Kept.refl _ _⟩)
    refine stepsF_cons ?_ ?_
    · refine StepF.one rfl fun F_ w_ hR hout hD => ?_
      exact (y_fieldR (n := 1) rfl ((hout 5 rfl (by decide)).trans s46) Try.underlying33 rfl (by kernel_rfl) (by decide) rfl ⟨rfl, Kept.refl _ _⟩)
    refine stepsF_cons ?_ ?_
    · refine StepF.one rfl fun F_ w_ hR hout hD => ?_
      have g18 : F_ 18 = .pointer (some ⟨p17, 1, none⟩) := (hD.get 0 rfl rfl rfl)
      exact (y_ld_stc rfl g18 Try.underlying3 (B39.all hR id) rfl rfl ⟨rfl, Kept.refl _ _⟩)
    refine stepsF_cons ?_ ?_
    · refine StepF.one rfl fun F_ w_ hR hout hD => ?_
      have g15 : F_ 15 = .int .i64 (b) := (hD.get 0 rfl rfl rfl)
      have g17 : F_ 17 = .int .i64 (d) := (hD.get 1 rfl rfl rfl)
      have g19 : F_ 19 = .int .i64 (n) := (hD.get 2 rfl rfl rfl)
      exact (y_cs rfl rfl rfl (fun _ _ => by kernel_rfl) (ev_func _) (vsC g15 (vsC g17 (vsC g19 vsN))) (vt_between (b) (d) (n)  _   ) (fun e_ w_ h_ => ⟨_, h_.1, rfl, h_.2⟩))
    refine stepsF_cons ?_ ?_
    · refine StepF.one rfl fun F_ w_ hR hout hD => ?_
      have g13 : F_ 13 = .int .i64 (med (a) (c) (m)) := (hD.get 0 rfl rfl rfl)
      have g20 : F_ 20 = .int .i64 (med (b) (d) (n)) := (hD.get 1 rfl rfl rfl)
      exact (y_buildL (l' := [(0, .int .i64 (med (a) (c) (m))), (1, .int .i64 (med (b) (d) (n)))]) (cells := #[.int .i64 (med (a) (c) (m)), .int .i64 (med (b) (d) (n))]) rfl (bpC g13 (bpC g20 bpN)) (by kernel_rfl) rfl ⟨rfl, Kept.refl _ _⟩)
    exact stepsF_nil
  intro v48 F49 w50 k51 G52 hF53
  have B55 := B37.all k51 id
  have B56 := B38.all k51 id
  have B57 := B39.all k51 id
  have B58 := B31.all k51 id
  have K59 := K40.trans k51 (fun _ _ x => x.elim)
  have s60 : F49 22 = undef := (hF53 22).trans s43
  have s61 : F49 6 = .pointer (some ⟨p28, 0, none⟩) := (hF53 6).trans s47
  have s62 : F49 21 = .agg #[.int .i64 (med (a) (c) (m)), .int .i64 (med (b) (d) (n))] := (hF53 21).trans (G52 14 (by decide))
  clear G52 hF53
  refine wl_store_stc (us := [.int .i64 (med (a) (c) (m)), .int .i64 (med (b) (d) (n))]) stcT_vector rfl rfl rfl s61 s62 B58 rfl (oneI rfl (oneI rfl oneN)) fun w63 B64 k65 => ?_
  have B66 := B55.all k65 (fun x => (((ap34).symm) p1 rfl x))
  have B67 := B56.all k65 (fun x => (((ap35).symm) p8 rfl x))
  have B68 := B57.all k65 (fun x => (((ap36).symm) p17 rfl x))
  have K69 := K59.trans k65 (Grew.ok (S := fun _ => False) gr33 noB_le)
  refine wl_nil fun F70 hF71 => ?_
  have s72 : F70 22 = undef := (hF71 22).trans s60
  have s73 : F70 6 = .pointer (some ⟨p28, 0, none⟩) := (hF71 6).trans s61
  clear hF71
  refine then_normal ?_
  refine wq_ret ?_
  exact end_stc (vs := [.int .i64 (med (a) (c) (m)), .int .i64 (med (b) (d) (n))]) stcT_vector s72 rfl rfl s73 B64 ⟨rfl, K69⟩
set_option maxHeartbeats 4000000 in
set_option maxRecDepth 100000 in
theorem vt_clamped (n : Int) (w0 : World) :
    Calls Try.prog 48 #[.int .i64 (n)] w0 fun e w' => e = .returned (.int .i64 (cl 64 n)) ∧ Kept (fun _ => False) w0 w' := by
  refine calls_wq (args := [.int .i64 (n)]) 6 Try.func48 rfl rfl (Nat.le_of_ble_eq_true rfl) ?_
  have K0 := Kept.refl (fun _ => False) w0
  refine wq_seq ?_
  refine wq_region ?_
  refine wl_v (.int .i64 (0)) rfl rfl (y_asg rfl rfl ⟨rfl, rfl⟩) ?_
  refine wl_nil fun F1 hF2 => ?_
  have s3 : F1 0 = .int .i64 (n) := (hF2 0).trans rfl
  have s4 : F1 6 = undef := (hF2 6).trans rfl
  clear hF2
  refine then_normal ?_
  refine wq_seq ?_
  refine wq_region ?_
  refine wl_v (.int .i64 (n)) rfl rfl (y_mov rfl s3 ⟨rfl, rfl⟩) ?_
  refine wl_v (.int .i64 (min (n) (64))) rfl rfl (y_minR rfl rfl rfl rfl ⟨rfl, rfl⟩) ?_
  refine wl_v (.int .i64 (cl 64 n)) rfl rfl (y_maxR rfl rfl rfl ((by unfold cl; omega)) ⟨rfl, rfl⟩) ?_
  refine wl_v (.int .i64 (cl 64 n)) rfl rfl (y_asg rfl rfl ⟨rfl, rfl⟩) ?_
  refine wl_nil fun F5 hF6 => ?_
  have s7 : F5 6 = undef := (hF6 6).trans s4
  have s8 : F5 2 = .int .i64 (cl 64 n) := (hF6 2).trans rfl
  clear hF6
  refine then_normal ?_
  refine wq_ret ?_
  exact end_tmp (v := .int .i64 (cl 64 n)) s7 rfl rfl s8 ⟨rfl, K0⟩
set_option maxHeartbeats 4000000 in
set_option maxRecDepth 100000 in
theorem vt_near (X Y : Int) (w0 : World) :
    Calls Try.prog 35 #[.agg #[.int .i64 (X), .int .i64 (Y)]] w0 fun e w' => e = .returned (.agg #[.int .i64 (cl 64 X), .int .i64 (cl 64 Y)]) ∧ Kept (fun _ => False) w0 w' := by
  refine calls_wq (args := [.agg #[.int .i64 (X), .int .i64 (Y)]]) 10 Try.func35 rfl rfl (Nat.le_of_ble_eq_true rfl) ?_
  have K0 := Kept.refl (fun _ => False) w0
  refine wq_seq ?_
  refine wq_region ?_
  refine wl_box_stc (vs := [.int .i64 (X), .int .i64 (Y)]) rfl rfl rfl rfl fun p1 w2 B4 g5 k3 => ?_
  have gr6 : Grew w0 noB (onB p1) := Grew.new K0 g5
  have K7 := K0.trans k3 (fun _ _ x => x.elim)
  refine wl_alloc_stc (n := 2) (vs := [.int .i64 (0), .int .i64 (0)]) rfl rfl rfl (by kernel_rfl) fun p8 w9 B11 g12 k10 => ?_
  have gr13 : Grew w0 noB (onB p8) := Grew.new K7 g12
  have ap14 : Apart (onB p8) (onB p1) := Apart.new g12 (onB_live (B4).lt)
  have B15 := B4.all k10 id
  have K16 := K7.trans k10 (fun _ _ x => x.elim)
  refine wl_nil fun F17 hF18 => ?_
  have s19 : F17 10 = undef := (hF18 10).trans rfl
  have s20 : F17 1 = .pointer (some ⟨p1, 0, none⟩) := (hF18 1).trans rfl
  have s21 : F17 2 = .pointer (some ⟨p8, 0, none⟩) := (hF18 2).trans rfl
  clear hF18
  refine then_normal ?_
  refine wq_seq ?_
  refine wq_tail 7 [some 3, some 4, some 5, some 6, some 7, some 8, some 9] [Pd.eq (.pointer (some ⟨p1, 0, none⟩)), Pd.eq (.int .i64 (X)), Pd.eq (.int .i64 (cl 64 (X))), Pd.eq (.pointer (some ⟨p1, 1, none⟩)), Pd.eq (.int .i64 (Y)), Pd.eq (.int .i64 (cl 64 (Y))), Pd.eq (.agg #[.int .i64 (cl 64 (X)), .int .i64 (cl 64 (Y))])] (by kernel_rfl) (by kernel_rfl) (by kernel_rfl) ?_ ?_
  · refine stepsF_cons ?_ ?_
    · refine StepF.one rfl fun F_ w_ hR hout hD => ?_
      exact (y_fieldR (n := 1) rfl ((hout 1 rfl (by decide)).trans s20) Try.underlying33 rfl (by kernel_rfl) (by decide) rfl ⟨rfl, Kept.refl _ _⟩)
    refine stepsF_cons ?_ ?_
    · refine StepF.one rfl fun F_ w_ hR hout hD => ?_
      have g3 : F_ 3 = .pointer (some ⟨p1, 0, none⟩) := (hD.get 0 rfl rfl rfl)
      exact (y_ld_stc rfl g3 Try.underlying3 (B15.all hR id) rfl rfl ⟨rfl, Kept.refl _ _⟩)
    refine stepsF_cons ?_ ?_
    · refine StepF.one rfl fun F_ w_ hR hout hD => ?_
      have g4 : F_ 4 = .int .i64 (X) := (hD.get 0 rfl rfl rfl)
      exact (y_cs rfl rfl rfl (fun _ _ => by kernel_rfl) (ev_func _) (vsC g4 vsN) (vt_clamped (X)  _   ) (fun e_ w_ h_ => ⟨_, h_.1, rfl, h_.2⟩))
    refine stepsF_cons ?_ ?_
    · refine StepF.one rfl fun F_ w_ hR hout hD => ?_
      exact (y_fieldR (n := 1) rfl ((hout 1 rfl (by decide)).trans s20) Try.underlying33 rfl (by kernel_rfl) (by decide) rfl ⟨rfl, Kept.refl _ _⟩)
    refine stepsF_cons ?_ ?_
    · refine StepF.one rfl fun F_ w_ hR hout hD => ?_
      have g6 : F_ 6 = .pointer (some ⟨p1, 1, none⟩) := (hD.get 0 rfl rfl rfl)
      exact (y_ld_stc rfl g6 Try.underlying3 (B15.all hR id) rfl rfl ⟨rfl, Kept.refl _ _⟩)
    refine stepsF_cons ?_ ?_
    · refine StepF.one rfl fun F_ w_ hR hout hD => ?_
      have g7 : F_ 7 = .int .i64 (Y) := (hD.get 0 rfl rfl rfl)
      exact (y_cs rfl rfl rfl (fun _ _ => by kernel_rfl) (ev_func _) (vsC g7 vsN) (vt_clamped (Y)  _   ) (fun e_ w_ h_ => ⟨_, h_.1, rfl, h_.2⟩))
    refine stepsF_cons ?_ ?_
    · refine StepF.one rfl fun F_ w_ hR hout hD => ?_
      have g5 : F_ 5 = .int .i64 (cl 64 (X)) := (hD.get 0 rfl rfl rfl)
      have g8 : F_ 8 = .int .i64 (cl 64 (Y)) := (hD.get 1 rfl rfl rfl)
      exact (y_buildL (l' := [(0, .int .i64 (cl 64 (X))), (1, .int .i64 (cl 64 (Y)))]) (cells := #[.int .i64 (cl 64 (X)), .int .i64 (cl 64 (Y))]) rfl (bpC g5 (bpC g8 bpN)) (by kernel_rfl) rfl ⟨rfl, Kept.refl _ _⟩)
    exact stepsF_nil
  intro v22 F23 w24 k25 G26 hF27
  have B29 := B15.all k25 id
  have B30 := B11.all k25 id
  have K31 := K16.trans k25 (fun _ _ x => x.elim)
  have s32 : F23 10 = undef := (hF27 10).trans s19
  have s33 : F23 2 = .pointer (some ⟨p8, 0, none⟩) := (hF27 2).trans s21
  have s34 : F23 9 = .agg #[.int .i64 (cl 64 (X)), .int .i64 (cl 64 (Y))] := (hF27 9).trans (G26 6 (by decide))
  clear G26 hF27
  refine wl_store_stc (us := [.int .i64 (cl 64 (X)), .int .i64 (cl 64 (Y))]) stcT_vector rfl rfl rfl s33 s34 B30 rfl (oneI rfl (oneI rfl oneN)) fun w35 B36 k37 => ?_
  have B38 := B29.all k37 (fun x => (((ap14).symm) p1 rfl x))
  have K39 := K31.trans k37 (Grew.ok (S := fun _ => False) gr13 noB_le)
  refine wl_nil fun F40 hF41 => ?_
  have s42 : F40 10 = undef := (hF41 10).trans s32
  have s43 : F40 2 = .pointer (some ⟨p8, 0, none⟩) := (hF41 2).trans s33
  clear hF41
  refine then_normal ?_
  refine wq_ret ?_
  exact end_stc (vs := [.int .i64 (cl 64 (X)), .int .i64 (cl 64 (Y))]) stcT_vector s42 rfl rfl s43 B36 ⟨rfl, K39⟩
set_option maxHeartbeats 4000000 in
set_option maxRecDepth 100000 in
theorem vt_write (p : Nat) (bs : List Bool) (X Y A B : Int) (T_w : Nat → Prop) (w0 : World) (hm : bs.length + 200 < 1099511627776) (h_w : Wri w0 T_w p (bs)) :
    Calls Try.prog 17 #[.pointer (some ⟨p, 0, none⟩), .agg #[.int .i64 (X), .int .i64 (Y)], .agg #[.int .i64 (A), .int .i64 (B)]] w0 fun e w' => ∃ (T_w' : Nat → Prop), e = .returned (.tuple #[]) ∧ Kept (T_w) w0 w' ∧ (Wri w' T_w' p (bs ++ vecBits X Y A B) ∧ Grew w0 T_w T_w') := by
  refine calls_wq (args := [.pointer (some ⟨p, 0, none⟩), .agg #[.int .i64 (X), .int .i64 (Y)], .agg #[.int .i64 (A), .int .i64 (B)]]) 24 Try.func17 rfl rfl (Nat.le_of_ble_eq_true rfl) ?_
  have K0 := Kept.refl (T_w) w0
  have h1 := cl64 X
  have h2 := cl64 Y
  have h3 := cl64 A
  have h4 := cl64 B
  have h5 := signedBits_short (cl 64 X - cl 64 A)
  have g_w := Grew.refl w0 T_w
  refine wq_seq ?_
  refine wq_region ?_
  refine wl_box_stc (vs := [.int .i64 (X), .int .i64 (Y)]) rfl rfl rfl rfl fun p1 w2 B4 g5 k3 => ?_
  have gr6 : Grew w0 noB (onB p1) := Grew.new K0 g5
  have ap7 : Apart (onB p1) (T_w) := Apart.new g5 (h_w).live
  have B8 := h_w.all k3 Apart.none
  have K9 := K0.trans k3 (fun _ _ x => x.elim)
  refine wl_box_stc (vs := [.int .i64 (A), .int .i64 (B)]) rfl rfl rfl rfl fun p10 w11 B13 g14 k12 => ?_
  have gr15 : Grew w0 noB (onB p10) := Grew.new K9 g14
  have ap16 : Apart (onB p10) (T_w) := Apart.new g14 (B8).live
  have ap17 : Apart (onB p10) (onB p1) := Apart.new g14 (onB_live (B4).lt)
  have B18 := B8.all k12 Apart.none
  have B19 := B4.all k12 id
  have K20 := K9.trans k12 (fun _ _ x => x.elim)
  refine wl_nil fun F21 hF22 => ?_
  have s23 : F21 0 = .pointer (some ⟨p, 0, none⟩) := (hF22 0).trans rfl
  have s24 : F21 24 = undef := (hF22 24).trans rfl
  have s25 : F21 4 = .pointer (some ⟨p1, 0, none⟩) := (hF22 4).trans rfl
  have s26 : F21 5 = .pointer (some ⟨p10, 0, none⟩) := (hF22 5).trans rfl
  clear hF22
  refine then_normal ?_
  refine wq_seq ?_
  refine wq_tail 4 [some 6, some 7, some 8, some 9] [Pd.eq (.agg #[.int .i64 (X), .int .i64 (Y)]), Pd.eq (.agg #[.int .i64 (cl 64 (X)), .int .i64 (cl 64 (Y))]), Pd.eq (.agg #[.int .i64 (A), .int .i64 (B)]), Pd.eq (.agg #[.int .i64 (cl 64 (A)), .int .i64 (cl 64 (B))])] (by kernel_rfl) (by kernel_rfl) (by kernel_rfl) ?_ ?_
  · refine stepsF_cons ?_ ?_
    · refine StepF.one rfl fun F_ w_ hR hout hD => ?_
      exact (y_load_stc stcT_vector rfl ((hout 4 rfl (by decide)).trans s25) (B19.all hR id) ⟨rfl, Kept.refl _ _⟩)
    refine stepsF_cons ?_ ?_
    · refine StepF.one rfl fun F_ w_ hR hout hD => ?_
      have g6 : F_ 6 = .agg #[.int .i64 (X), .int .i64 (Y)] := (hD.get 0 rfl rfl rfl)
      exact (y_cs rfl rfl rfl (fun _ _ => by kernel_rfl) (ev_func _) (vsC g6 vsN) (vt_near (X) (Y)  _   ) (fun e_ w_ h_ => ⟨_, h_.1, rfl, h_.2⟩))
    refine stepsF_cons ?_ ?_
    · refine StepF.one rfl fun F_ w_ hR hout hD => ?_
      exact (y_load_stc stcT_vector rfl ((hout 5 rfl (by decide)).trans s26) (B13.all hR id) ⟨rfl, Kept.refl _ _⟩)
    refine stepsF_cons ?_ ?_
    · refine StepF.one rfl fun F_ w_ hR hout hD => ?_
      have g8 : F_ 8 = .agg #[.int .i64 (A), .int .i64 (B)] := (hD.get 0 rfl rfl rfl)
      exact (y_cs rfl rfl rfl (fun _ _ => by kernel_rfl) (ev_func _) (vsC g8 vsN) (vt_near (A) (B)  _   ) (fun e_ w_ h_ => ⟨_, h_.1, rfl, h_.2⟩))
    exact stepsF_nil
  intro v27 F28 w29 k30 G31 hF32
  have B34 := B18.all k30 Apart.none
  have B35 := B19.all k30 id
  have B36 := B13.all k30 id
  have K37 := K20.trans k30 (fun _ _ x => x.elim)
  have s38 : F28 0 = .pointer (some ⟨p, 0, none⟩) := (hF32 0).trans s23
  have s39 : F28 24 = undef := (hF32 24).trans s24
  have s40 : F28 4 = .pointer (some ⟨p1, 0, none⟩) := (hF32 4).trans s25
  have s41 : F28 5 = .pointer (some ⟨p10, 0, none⟩) := (hF32 5).trans s26
  have s42 : F28 7 = .agg #[.int .i64 (cl 64 (X)), .int .i64 (cl 64 (Y))] := (hF32 7).trans (G31 1 (by decide))
  have s43 : F28 9 = .agg #[.int .i64 (cl 64 (A)), .int .i64 (cl 64 (B))] := (hF32 9).trans (G31 3 (by decide))
  clear G31 hF32
  refine wl_store_stc (us := [.int .i64 (cl 64 (X)), .int .i64 (cl 64 (Y))]) stcT_vector rfl rfl rfl s40 s42 B35 rfl (oneI rfl (oneI rfl oneN)) fun w44 B45 k46 => ?_
  have B47 := B34.all k46 (fun i h x => (((ap7).symm) i h x))
  have B48 := B36.all k46 (fun x => ((ap17) p10 rfl x))
  have K49 := K37.trans k46 (Grew.ok (S := T_w) gr6 noB_le)
  refine wl_store_stc (us := [.int .i64 (cl 64 (A)), .int .i64 (cl 64 (B))]) stcT_vector rfl rfl rfl s41 s43 B48 rfl (oneI rfl (oneI rfl oneN)) fun w50 B51 k52 => ?_
  have B53 := B47.all k52 (fun i h x => (((ap16).symm) i h x))
  have B54 := B45.all k52 (fun x => (((ap17).symm) p1 rfl x))
  have K55 := K49.trans k52 (Grew.ok (S := T_w) gr15 noB_le)
  refine wl_nil fun F56 hF57 => ?_
  have s58 : F56 0 = .pointer (some ⟨p, 0, none⟩) := (hF57 0).trans s38
  have s59 : F56 24 = undef := (hF57 24).trans s39
  have s60 : F56 4 = .pointer (some ⟨p1, 0, none⟩) := (hF57 4).trans s40
  have s61 : F56 5 = .pointer (some ⟨p10, 0, none⟩) := (hF57 5).trans s41
  clear hF57
  refine then_normal ?_
  refine wq_seq ?_
  refine wq_region ?_
  refine wl_v (.pointer (some ⟨p, 0, none⟩)) rfl rfl (y_mov rfl s58 ⟨rfl, rfl⟩) ?_
  refine wl_v (.pointer (some ⟨p1, 0, none⟩)) rfl rfl (y_fieldR (n := 1) rfl s60 Try.underlying33 rfl (by kernel_rfl) (by decide) rfl ⟨rfl, rfl⟩) ?_
  refine wl_v (.int .i64 (cl 64 (X))) rfl rfl (y_ld_stc rfl rfl Try.underlying3 B54 rfl rfl ⟨rfl, rfl⟩) ?_
  refine wl_v (.pointer (some ⟨p10, 0, none⟩)) rfl rfl (y_fieldR (n := 1) rfl s61 Try.underlying33 rfl (by kernel_rfl) (by decide) rfl ⟨rfl, rfl⟩) ?_
  refine wl_v (.int .i64 (cl 64 (A))) rfl rfl (y_ld_stc rfl rfl Try.underlying3 B51 rfl rfl ⟨rfl, rfl⟩) ?_
  refine wl_v (.int .i64 ((cl 64 (X)) - (cl 64 (A)))) rfl rfl (y_sub rfl rfl rfl (i64_i rfl (by omega)) ⟨rfl, rfl⟩) ?_
  refine wl_call (R := fun v_ w_ => ∃ (T64 : Nat → Prop), .tuple #[] = v_ ∧ Kept (T_w) w50 w_ ∧ (Wri w_ T64 p ((bs) ++ signedBits ((cl 64 (X)) - (cl 64 (A)))) ∧ Grew w50 (T_w) T64)) rfl rfl (y_cs rfl rfl rfl (fun _ _ => by kernel_rfl) (ev_func _) (vsC rfl (vsC rfl vsN)) (t_signed (p) (bs) ((cl 64 (X)) - (cl 64 (A))) (T_w) _ (by omega) B53 ) (fun e_ w_ h_ => by obtain ⟨T64_, he_, hr_⟩ := h_; exact ⟨_, he_, T64_, rfl, hr_⟩)) ?_
  rintro _ w62 ⟨T64, rfl, k63, ⟨B65, g66⟩⟩
  have B67 := B54.all k63 (fun x => ((ap7) p1 rfl x))
  have B68 := B51.all k63 (fun x => ((ap16) p10 rfl x))
  have K69 := K55.trans k63 (fun i hi x => ((Grew.ok (S := T_w) g_w (fun _ x => x)) i hi x))
  have gr70 := g_w.trans K55 g66
  have ap71 : Apart T64 (onB p1) := ((ap7).symm).grew g66 (onB_live (B54).lt)
  have ap72 : Apart T64 (onB p10) := ((ap16).symm).grew g66 (onB_live (B51).lt)
  refine wl_nil fun F73 hF74 => ?_
  have s75 : F73 0 = .pointer (some ⟨p, 0, none⟩) := (hF74 0).trans s58
  have s76 : F73 24 = undef := (hF74 24).trans s59
  have s77 : F73 4 = .pointer (some ⟨p1, 0, none⟩) := (hF74 4).trans s60
  have s78 : F73 5 = .pointer (some ⟨p10, 0, none⟩) := (hF74 5).trans s61
  clear hF74
  refine then_normal ?_
  refine wq_region ?_
  refine wl_v (.pointer (some ⟨p, 0, none⟩)) rfl rfl (y_mov rfl s75 ⟨rfl, rfl⟩) ?_
  refine wl_v (.pointer (some ⟨p1, 1, none⟩)) rfl rfl (y_fieldR (n := 1) rfl s77 Try.underlying33 rfl (by kernel_rfl) (by decide) rfl ⟨rfl, rfl⟩) ?_
  refine wl_v (.int .i64 (cl 64 (Y))) rfl rfl (y_ld_stc rfl rfl Try.underlying3 B67 rfl rfl ⟨rfl, rfl⟩) ?_
  refine wl_v (.pointer (some ⟨p10, 1, none⟩)) rfl rfl (y_fieldR (n := 1) rfl s78 Try.underlying33 rfl (by kernel_rfl) (by decide) rfl ⟨rfl, rfl⟩) ?_
  refine wl_v (.int .i64 (cl 64 (B))) rfl rfl (y_ld_stc rfl rfl Try.underlying3 B68 rfl rfl ⟨rfl, rfl⟩) ?_
  refine wl_v (.int .i64 ((cl 64 (Y)) - (cl 64 (B)))) rfl rfl (y_sub rfl rfl rfl (i64_i rfl (by omega)) ⟨rfl, rfl⟩) ?_
  refine wl_call (R := fun v_ w_ => ∃ (T81 : Nat → Prop), .tuple #[] = v_ ∧ Kept (T64) w62 w_ ∧ (Wri w_ T81 p (((bs) ++ signedBits ((cl 64 (X)) - (cl 64 (A)))) ++ signedBits ((cl 64 (Y)) - (cl 64 (B)))) ∧ Grew w62 (T64) T81)) rfl rfl (y_cs rfl rfl rfl (fun _ _ => by kernel_rfl) (ev_func _) (vsC rfl (vsC rfl vsN)) (t_signed (p) ((bs) ++ signedBits ((cl 64 (X)) - (cl 64 (A)))) ((cl 64 (Y)) - (cl 64 (B))) (T64) _ (by rw [List.length_append]; omega) B65 ) (fun e_ w_ h_ => by obtain ⟨T81_, he_, hr_⟩ := h_; exact ⟨_, he_, T81_, rfl, hr_⟩)) ?_
  rintro _ w79 ⟨T81, rfl, k80, ⟨B82, g83⟩⟩
  have B84 := B67.all k80 (fun x => (((ap71).symm) p1 rfl x))
  have B85 := B68.all k80 (fun x => (((ap72).symm) p10 rfl x))
  have K86 := K69.trans k80 (fun i hi x => ((Grew.ok (S := T_w) gr70 (fun _ x => x)) i hi x))
  have gr87 := gr70.trans K69 g83
  have ap88 : Apart T81 (onB p1) := (ap71).grew g83 (onB_live (B67).lt)
  have ap89 : Apart T81 (onB p10) := (ap72).grew g83 (onB_live (B68).lt)
  refine wl_nil fun F90 hF91 => ?_
  have s92 : F90 24 = undef := (hF91 24).trans s76
  clear hF91
  exact end_none s92 rfl ⟨T81, rfl, K86, ⟨(by unfold vecBits; rw [← List.append_assoc]; exact B82), gr87⟩⟩
set_option maxHeartbeats 4000000 in
set_option maxRecDepth 100000 in
theorem vt_read (p : Nat) (l : List Nat) (st : Option Nat) (A B : Int) (T_r : Nat → Prop) (w0 : World) (h_r : Rdi w0 T_r p (l) (st)) :
    Calls Try.prog 19 #[.pointer (some ⟨p, 0, none⟩), .agg #[.int .i64 (A), .int .i64 (B)]] w0 fun e w' => ∃ (T_r' : Nat → Prop), e = .returned (.tuple #[.agg #[.int .i64 (vrX l A B st), .int .i64 (vrY l A B st)], .int .i64 (vrE l A B st)]) ∧ Kept (T_r) w0 w' ∧ (Rdi w' T_r' p (l) (vrT l A B st) ∧ Grew w0 T_r T_r') := by
  refine calls_wq (args := [.pointer (some ⟨p, 0, none⟩), .agg #[.int .i64 (A), .int .i64 (B)]]) 37 Try.func19 rfl rfl (Nat.le_of_ble_eq_true rfl) ?_
  have K0 := Kept.refl (T_r) w0
  have h1 := cl64 A
  have h2 := cl64 B
  have h3 := rdX_le l st
  have h4 := rdX_le l (rdX l st).2
  have g_r := Grew.refl w0 T_r
  refine wq_seq ?_
  refine wq_region ?_
  refine wl_box_stc (vs := [.int .i64 (A), .int .i64 (B)]) rfl rfl rfl rfl fun p1 w2 B4 g5 k3 => ?_
  have gr6 : Grew w0 noB (onB p1) := Grew.new K0 g5
  have ap7 : Apart (onB p1) (T_r) := Apart.new g5 (h_r).live
  have B8 := h_r.all k3 Apart.none
  have K9 := K0.trans k3 (fun _ _ x => x.elim)
  refine wl_alloc_stc (n := 2) (vs := [.int .i64 (0), .int .i64 (0)]) rfl rfl rfl (by kernel_rfl) fun p10 w11 B13 g14 k12 => ?_
  have gr15 : Grew w0 noB (onB p10) := Grew.new K9 g14
  have ap16 : Apart (onB p10) (T_r) := Apart.new g14 (B8).live
  have ap17 : Apart (onB p10) (onB p1) := Apart.new g14 (onB_live (B4).lt)
  have B18 := B8.all k12 Apart.none
  have B19 := B4.all k12 id
  have K20 := K9.trans k12 (fun _ _ x => x.elim)
  refine wl_v (.int .i64 (0)) rfl rfl (y_asg rfl rfl ⟨rfl, rfl⟩) ?_
  refine wl_nil fun F21 hF22 => ?_
  have s23 : F21 0 = .pointer (some ⟨p, 0, none⟩) := (hF22 0).trans rfl
  have s24 : F21 37 = undef := (hF22 37).trans rfl
  have s25 : F21 3 = .pointer (some ⟨p1, 0, none⟩) := (hF22 3).trans rfl
  have s26 : F21 4 = .pointer (some ⟨p10, 0, none⟩) := (hF22 4).trans rfl
  clear hF22
  refine then_normal ?_
  refine wq_seq ?_
  refine wq_seq ?_
  refine wq_region ?_
  refine wl_v (.pointer (some ⟨p, 0, none⟩)) rfl rfl (y_mov rfl s23 ⟨rfl, rfl⟩) ?_
  refine wl_v (.bool false) rfl rfl (y_noNil rfl rfl rfl Try.underlying46 ⟨rfl, rfl⟩) ?_
  refine wl_nil fun F27 hF28 => ?_
  have s29 : F27 0 = .pointer (some ⟨p, 0, none⟩) := (hF28 0).trans s23
  have s30 : F27 37 = undef := (hF28 37).trans s24
  have s31 : F27 3 = .pointer (some ⟨p1, 0, none⟩) := (hF28 3).trans s25
  have s32 : F27 4 = .pointer (some ⟨p10, 0, none⟩) := (hF28 4).trans s26
  have s33 : F27 9 = .bool false := (hF28 9).trans rfl
  clear hF28
  refine then_normal ?_
  refine wq_cond (t := false) s33 (fun e => by cases e) (fun _ => ?_)
  refine wq_skip ?_
  refine then_normal ?_
  refine wq_seq ?_
  obtain ⟨g, a, b, hf, hT, hok, hp, hg, hap⟩ := rdi_open B18
  have gr34 : Grew w0 (T_r) (onB p) := fun i h => g_r i ((fun i h => (hT i).2 (Or.inl h)) i h)
  have ap35 : Apart (onB p) (onB p1) := fun i h => (ap7).symm i ((fun i h => (hT i).2 (Or.inl h)) i h)
  have ap36 : Apart (onB p) (onB p10) := fun i h => (ap16).symm i ((fun i h => (hT i).2 (Or.inl h)) i h)
  have gr37 : Grew w0 (T_r) (onB g) := fun i h => g_r i ((fun i h => (hT i).2 (Or.inr h)) i h)
  have ap38 : Apart (onB g) (onB p1) := fun i h => (ap7).symm i ((fun i h => (hT i).2 (Or.inr h)) i h)
  have ap39 : Apart (onB g) (onB p10) := fun i h => (ap16).symm i ((fun i h => (hT i).2 (Or.inr h)) i h)
  have ap40 : Apart (onB p) (onB g) := hap
  refine wq_region ?_
  refine wl_v (.pointer (some ⟨p, 0, none⟩)) rfl rfl (y_mov rfl s29 ⟨rfl, rfl⟩) ?_
  refine wl_v (.pointer (some ⟨p, 0, none⟩)) rfl rfl (y_nilc rfl rfl ⟨rfl, rfl⟩) ?_
  refine wl_v (.agg #[.slice (some ⟨g, 0, none⟩) l.length l.length, .int .i64 (((a : Nat) : Int)), .bool (b)]) rfl rfl (y_load_stc stcT_reader rfl rfl hp ⟨rfl, rfl⟩) ?_
  refine wl_alloc_stc (n := 3) (vs := [.slice none 0 0, .int .i64 (((0 : Nat) : Int)), .bool false]) rfl rfl rfl (by kernel_rfl) fun p41 w42 B44 g45 k43 => ?_
  have gr46 : Grew w0 noB (onB p41) := Grew.new K20 g45
  have ap47 : Apart (onB p41) (onB p1) := Apart.new g45 (onB_live (B19).lt)
  have ap48 : Apart (onB p41) (onB p10) := Apart.new g45 (onB_live (B13).lt)
  have ap49 : Apart (onB p41) (onB p) := Apart.new g45 (onB_live (hp).lt)
  have ap50 : Apart (onB p41) (onB g) := Apart.new g45 (hg).live
  have B51 := B19.all k43 id
  have B52 := B13.all k43 id
  have B53 := hp.all k43 id
  have B54 := hg.all k43 Apart.none
  have K55 := K20.trans k43 (fun _ _ x => x.elim)
  refine wl_store_stc (us := [.slice (some ⟨g, 0, none⟩) l.length l.length, .int .i64 (((a : Nat) : Int)), .bool (b)]) stcT_reader rfl rfl rfl rfl rfl B44 rfl (oneI rfl (oneI rfl (oneI rfl oneN))) fun w56 B57 k58 => ?_
  have B59 := B51.all k58 (fun x => (((ap47).symm) p1 rfl x))
  have B60 := B52.all k58 (fun x => (((ap48).symm) p10 rfl x))
  have B61 := B53.all k58 (fun x => (((ap49).symm) p rfl x))
  have B62 := B54.all k58 (fun i h x => (((ap50).symm) i h x))
  have K63 := K55.trans k58 (Grew.ok (S := T_r) gr46 noB_le)
  refine wl_nil fun F64 hF65 => ?_
  have s66 : F64 0 = .pointer (some ⟨p, 0, none⟩) := (hF65 0).trans s29
  have s67 : F64 37 = undef := (hF65 37).trans s30
  have s68 : F64 3 = .pointer (some ⟨p1, 0, none⟩) := (hF65 3).trans s31
  have s69 : F64 4 = .pointer (some ⟨p10, 0, none⟩) := (hF65 4).trans s32
  have s70 : F64 6 = .pointer (some ⟨p41, 0, none⟩) := (hF65 6).trans rfl
  clear hF65
  refine then_normal ?_
  refine wq_seq ?_
  have B71 : Rd2 w56 (fun i => (onB p) i ∨ ((onB p41) i ∨ ((onB g) i))) p41 (p) (l) (st) (st) := rd2_close hf hok B61 B57 B62 (ap49).symm ap40 ap50
  have gr72 : Grew w0 (T_r) (fun i => (onB p) i ∨ ((onB p41) i ∨ ((onB g) i))) := fun i h => h.elim (fun y => gr34 i y) (fun y => y.elim (fun y => (Grew.weak gr46 (fun _ z => z.elim)) i y) (fun y => gr37 i y))
  have ap73 : Apart (fun i => (onB p) i ∨ ((onB p41) i ∨ ((onB g) i))) (onB p1) := fun i h => h.elim (fun y => (ap35) i y) (fun y => y.elim (fun y => (ap47) i y) (fun y => (ap38) i y))
  have ap74 : Apart (fun i => (onB p) i ∨ ((onB p41) i ∨ ((onB g) i))) (onB p10) := fun i h => h.elim (fun y => (ap36) i y) (fun y => y.elim (fun y => (ap48) i y) (fun y => (ap39) i y))
  refine wq_region ?_
  refine wl_v (.agg #[.int .i64 (A), .int .i64 (B)]) rfl rfl (y_load_stc stcT_vector rfl s68 B59 ⟨rfl, rfl⟩) ?_
  refine wl_call (R := fun v_ w_ => v_ = .agg #[.int .i64 (cl 64 (A)), .int .i64 (cl 64 (B))] ∧ Kept (fun _ => False) w56 w_) rfl rfl (y_cs rfl rfl rfl (fun _ _ => by kernel_rfl) (ev_func _) (vsC rfl vsN) (vt_near (A) (B)  _   ) (fun e_ w_ h_ => ⟨_, h_.1, rfl, h_.2⟩)) ?_
  rintro _ w75 ⟨rfl, k76⟩
  have B77 := B59.all k76 id
  have B78 := B60.all k76 id
  have B79 := B71.all k76 Apart.none
  have K80 := K63.trans k76 (fun _ _ x => x.elim)
  refine wl_alloc_stc (n := 2) (vs := [.int .i64 (0), .int .i64 (0)]) rfl rfl rfl (by kernel_rfl) fun p81 w82 B84 g85 k83 => ?_
  have gr86 : Grew w0 noB (onB p81) := Grew.new K80 g85
  have ap87 : Apart (onB p81) (onB p1) := Apart.new g85 (onB_live (B77).lt)
  have ap88 : Apart (onB p81) (onB p10) := Apart.new g85 (onB_live (B78).lt)
  have ap89 : Apart (onB p81) (fun i => (onB p) i ∨ ((onB p41) i ∨ ((onB g) i))) := Apart.new g85 (B79).live
  have B90 := B77.all k83 id
  have B91 := B78.all k83 id
  have B92 := B79.all k83 Apart.none
  have K93 := K80.trans k83 (fun _ _ x => x.elim)
  refine wl_store_stc (us := [.int .i64 (cl 64 (A)), .int .i64 (cl 64 (B))]) stcT_vector rfl rfl rfl rfl rfl B84 rfl (oneI rfl (oneI rfl oneN)) fun w94 B95 k96 => ?_
  have B97 := B90.all k96 (fun x => (((ap87).symm) p1 rfl x))
  have B98 := B91.all k96 (fun x => (((ap88).symm) p10 rfl x))
  have B99 := B92.all k96 (fun i h x => (((ap89).symm) i h x))
  have K100 := K93.trans k96 (Grew.ok (S := T_r) gr86 noB_le)
  refine wl_nil fun F101 hF102 => ?_
  have s103 : F101 0 = .pointer (some ⟨p, 0, none⟩) := (hF102 0).trans s66
  have s104 : F101 37 = undef := (hF102 37).trans s67
  have s105 : F101 4 = .pointer (some ⟨p10, 0, none⟩) := (hF102 4).trans s69
  have s106 : F101 6 = .pointer (some ⟨p41, 0, none⟩) := (hF102 6).trans s70
  have s107 : F101 7 = .pointer (some ⟨p81, 0, none⟩) := (hF102 7).trans rfl
  clear hF102
  refine then_normal ?_
  refine wq_seq ?_
  refine wq_turns (S := fun i => (fun i => (onB p) i ∨ ((onB p41) i ∨ ((onB g) i))) i ∨ ((onB p81) i)) [(5, 1)] [some 16, some 17, some 18, some 19, some 20, none] [Pt.eq (.pointer (some ⟨p81, 0, none⟩)), Pt.eq (.int .i64 (cl 64 (A))), Pt.thg ⟨fun w_ => Rd2 w_ (fun i => (onB p) i ∨ ((onB p41) i ∨ ((onB g) i))) p41 (p) (l) (st) (st), fun i => (onB p) i ∨ ((onB p41) i ∨ ((onB g) i)), fun T_ w_ => Rd2 w_ T_ p41 ((p)) ((l)) ((st)) ((rdStep (signedRd (l) (128)) (st)).2), fun _ _ _ h_ k_ ha_ => h_.all k_ ha_, fun _ _ _ _ h_ k_ ha_ => h_.all k_ ha_, fun _ h_ => h_.live, fun _ _ h_ => h_.live⟩ (.int .i64 ((rdX l st).1)), Pt.eq (.int .i64 ((rdX l st).1 + cl 64 A)), Pt.eq (.pointer (some ⟨p81, 0, none⟩)), Pt.thg (stcThg p81 33 [.int .i64 (cl 64 (A)), .int .i64 (cl 64 (B))] [.int .i64 ((rdX l st).1 + cl 64 A), .int .i64 (cl 64 (B))]) undef] (by kernel_rfl) (by kernel_rfl) (by kernel_rfl) rfl (OldsT.old ⟨⟨fun _ x_ => Or.inl x_, B99, ⟨(ap89).symm, trivial⟩⟩, ⟨⟨fun _ x_ => Or.inr x_, B95, trivial⟩, trivial⟩⟩) ?_ ?_
  · refine stepsFT_cons ?_ ?_
    · refine StepFT.one rfl fun F_ w_ hR hout hD => ?_
      exact (y_fieldR (n := 1) rfl ((hout 7 rfl (by decide)).trans s107) Try.underlying33 rfl (by kernel_rfl) (by decide) rfl ⟨rfl, Kept.refl _ _⟩)
    refine stepsFT_cons ?_ ?_
    · refine StepFT.oneA rfl fun F_ w_ hR hout hD hA_ => ?_
      have g16 : F_ 16 = .pointer (some ⟨p81, 0, none⟩) := (hD.get 0 rfl rfl rfl).1
      have hA5_ : Stc w_ p81 33 [.int .i64 (cl 64 (A)), .int .i64 (cl 64 (B))] := hA_ 5 _ _ (by decide) rfl
      exact (y_ld_stc rfl g16 Try.underlying3 hA5_ rfl rfl ⟨rfl, Kept.refl _ _⟩)
    refine stepsFT_cons ?_ ?_
    · refine StepFT.turn rfl rfl fun F_ w_ hR hout hD hA_ => ?_
      exact (y_cs rfl rfl rfl (fun _ _ => by kernel_rfl) (ev_func _) (vsC ((hout 6 rfl (by decide)).trans s106) (vsC rfl vsN)) (t_rsigned2 (p41) (p) (l) (st) (st) (128) (fun i => (onB p) i ∨ ((onB p41) i ∨ ((onB g) i))) _  hA_ ) (fun e_ w_ h_ => by obtain ⟨_, he_, k_, hb_, hg_⟩ := h_; exact ⟨_, he_, rfl, k_, _, hb_, hg_⟩))
    refine stepsFT_cons ?_ ?_
    · refine StepFT.one rfl fun F_ w_ hR hout hD => ?_
      have g17 : F_ 17 = .int .i64 (cl 64 (A)) := (hD.get 0 rfl rfl rfl).1
      have g18 : F_ 18 = .int .i64 ((rdX l st).1) := (hD.get 1 rfl rfl rfl).1
      exact (y_add rfl g17 g18 ((by rw [Int.add_comm, IntKind.wrap_i64]; omega)) ⟨rfl, Kept.refl _ _⟩)
    refine stepsFT_cons ?_ ?_
    · refine StepFT.one rfl fun F_ w_ hR hout hD => ?_
      exact (y_fieldR (n := 1) rfl ((hout 7 rfl (by decide)).trans s107) Try.underlying33 rfl (by kernel_rfl) (by decide) rfl ⟨rfl, Kept.refl _ _⟩)
    refine stepsFT_cons ?_ ?_
    · refine StepFT.turn rfl rfl fun F_ w_ hR hout hD hA_ => ?_
      have g20 : F_ 20 = .pointer (some ⟨p81, 0, none⟩) := (hD.get 0 rfl rfl rfl).1
      have g19 : F_ 19 = .int .i64 ((rdX l st).1 + cl 64 A) := (hD.get 1 rfl rfl rfl).1
      exact y_setStc rfl g20 g19 hA_ rfl rfl (by kernel_rfl) fun w2_ b_ k_ => ⟨rfl, k_, _, ⟨rfl, b_⟩, Grew.refl _ _⟩
    exact stepsFT_nil
  intro v108 Tf115 F109 w110 k111 G112 Gt116 Ga117 hF113
  have B118 := B97.all k111 (fun x => (x.elim (fun y => (((ap73).symm) p1 rfl y)) (fun y => (((ap87).symm) p1 rfl y))))
  have B119 := B98.all k111 (fun x => (x.elim (fun y => (((ap74).symm) p10 rfl y)) (fun y => (((ap88).symm) p10 rfl y))))
  have K120 := K100.trans k111 (fun i hi x => (x.elim (fun y => ((Grew.ok (S := T_r) gr72 (fun _ x => x)) i hi y)) (fun y => ((Grew.ok (S := T_r) gr86 noB_le) i hi y))))
  obtain ⟨T121, e122⟩ : ∃ T_, T_ = Tf115 2 := ⟨_, rfl⟩
  have B123 : Rd2 w110 (T121) p41 ((p)) ((l)) ((st)) ((rdStep (signedRd (l) (128)) (st)).2) := by rw [e122]; exact (Gt116 2 _ _ rfl).1
  have g124 : Grew w94 (fun i => (onB p) i ∨ ((onB p41) i ∨ ((onB g) i))) T121 := by rw [e122]; exact (Gt116 2 _ _ rfl).2
  have gr125 := gr72.trans K100 g124
  have ap126 : Apart T121 (onB p1) := (ap73).grew g124 (onB_live (B97).lt)
  have ap127 : Apart T121 (onB p10) := (ap74).grew g124 (onB_live (B98).lt)
  have e128 : onB p81 = Tf115 5 := ((Gt116 5 _ _ rfl).1.1).symm
  have B129 : Stc w110 p81 33 [.int .i64 ((rdX l st).1 + cl 64 A), .int .i64 (cl 64 (B))] := (Gt116 5 _ _ rfl).1.2
  have ap130 : Apart T121 (onB p81) := by rw [e122, e128]; exact Ga117 2 5 _ _ _ _ (by decide) rfl rfl
  clear Gt116 Ga117
  have s131 : F109 0 = .pointer (some ⟨p, 0, none⟩) := (hF113 0).trans s103
  have s132 : F109 37 = undef := (hF113 37).trans s104
  have s133 : F109 4 = .pointer (some ⟨p10, 0, none⟩) := (hF113 4).trans s105
  have s134 : F109 6 = .pointer (some ⟨p41, 0, none⟩) := (hF113 6).trans s106
  have s135 : F109 7 = .pointer (some ⟨p81, 0, none⟩) := (hF113 7).trans s107
  clear G112 hF113
  refine then_normal ?_
  refine wq_seq ?_
  refine wq_turns (S := fun i => (T121) i ∨ ((onB p81) i)) [(5, 1)] [some 21, some 22, some 23, some 24, some 25, none] [Pt.eq (.pointer (some ⟨p81, 1, none⟩)), Pt.eq (.int .i64 (cl 64 (B))), Pt.thg ⟨fun w_ => Rd2 w_ (T121) p41 ((p)) ((l)) ((st)) ((rdStep (signedRd (l) (128)) (st)).2), T121, fun T_ w_ => Rd2 w_ T_ p41 (((p))) (((l))) (((st))) ((rdStep (signedRd ((l)) (128)) ((rdStep (signedRd (l) (128)) (st)).2)).2), fun _ _ _ h_ k_ ha_ => h_.all k_ ha_, fun _ _ _ _ h_ k_ ha_ => h_.all k_ ha_, fun _ h_ => h_.live, fun _ _ h_ => h_.live⟩ (.int .i64 ((rdX l (rdX l st).2).1)), Pt.eq (.int .i64 ((rdX l (rdX l st).2).1 + cl 64 B)), Pt.eq (.pointer (some ⟨p81, 1, none⟩)), Pt.thg (stcThg p81 33 [.int .i64 ((rdX l st).1 + cl 64 A), .int .i64 (cl 64 (B))] [.int .i64 ((rdX l st).1 + cl 64 A), .int .i64 ((rdX l (rdX l st).2).1 + cl 64 B)]) undef] (by kernel_rfl) (by kernel_rfl) (by kernel_rfl) rfl (OldsT.old ⟨⟨fun _ x_ => Or.inl x_, B123, ⟨ap130, trivial⟩⟩, ⟨⟨fun _ x_ => Or.inr x_, B129, trivial⟩, trivial⟩⟩) ?_ ?_
  · refine stepsFT_cons ?_ ?_
    · refine StepFT.one rfl fun F_ w_ hR hout hD => ?_
      exact (y_fieldR (n := 1) rfl ((hout 7 rfl (by decide)).trans s135) Try.underlying33 rfl (by kernel_rfl) (by decide) rfl ⟨rfl, Kept.refl _ _⟩)
    refine stepsFT_cons ?_ ?_
    · refine StepFT.oneA rfl fun F_ w_ hR hout hD hA_ => ?_
      have g21 : F_ 21 = .pointer (some ⟨p81, 1, none⟩) := (hD.get 0 rfl rfl rfl).1
      have hA5_ : Stc w_ p81 33 [.int .i64 ((rdX l st).1 + cl 64 A), .int .i64 (cl 64 (B))] := hA_ 5 _ _ (by decide) rfl
      exact (y_ld_stc rfl g21 Try.underlying3 hA5_ rfl rfl ⟨rfl, Kept.refl _ _⟩)
    refine stepsFT_cons ?_ ?_
    · refine StepFT.turn rfl rfl fun F_ w_ hR hout hD hA_ => ?_
      exact (y_cs rfl rfl rfl (fun _ _ => by kernel_rfl) (ev_func _) (vsC ((hout 6 rfl (by decide)).trans s134) (vsC rfl vsN)) (t_rsigned2 (p41) ((p)) ((l)) ((st)) ((rdStep (signedRd (l) (128)) (st)).2) (128) (T121) _  hA_ ) (fun e_ w_ h_ => by obtain ⟨_, he_, k_, hb_, hg_⟩ := h_; exact ⟨_, he_, rfl, k_, _, hb_, hg_⟩))
    refine stepsFT_cons ?_ ?_
    · refine StepFT.one rfl fun F_ w_ hR hout hD => ?_
      have g22 : F_ 22 = .int .i64 (cl 64 (B)) := (hD.get 0 rfl rfl rfl).1
      have g23 : F_ 23 = .int .i64 ((rdX l (rdX l st).2).1) := (hD.get 1 rfl rfl rfl).1
      exact (y_add rfl g22 g23 ((by rw [Int.add_comm, IntKind.wrap_i64]; omega)) ⟨rfl, Kept.refl _ _⟩)
    refine stepsFT_cons ?_ ?_
    · refine StepFT.one rfl fun F_ w_ hR hout hD => ?_
      exact (y_fieldR (n := 1) rfl ((hout 7 rfl (by decide)).trans s135) Try.underlying33 rfl (by kernel_rfl) (by decide) rfl ⟨rfl, Kept.refl _ _⟩)
    refine stepsFT_cons ?_ ?_
    · refine StepFT.turn rfl rfl fun F_ w_ hR hout hD hA_ => ?_
      have g25 : F_ 25 = .pointer (some ⟨p81, 1, none⟩) := (hD.get 0 rfl rfl rfl).1
      have g24 : F_ 24 = .int .i64 ((rdX l (rdX l st).2).1 + cl 64 B) := (hD.get 1 rfl rfl rfl).1
      exact y_setStc rfl g25 g24 hA_ rfl rfl (by kernel_rfl) fun w2_ b_ k_ => ⟨rfl, k_, _, ⟨rfl, b_⟩, Grew.refl _ _⟩
    exact stepsFT_nil
  intro v136 Tf143 F137 w138 k139 G140 Gt144 Ga145 hF141
  have B146 := B118.all k139 (fun x => (x.elim (fun y => (((ap126).symm) p1 rfl y)) (fun y => (((ap87).symm) p1 rfl y))))
  have B147 := B119.all k139 (fun x => (x.elim (fun y => (((ap127).symm) p10 rfl y)) (fun y => (((ap88).symm) p10 rfl y))))
  have K148 := K120.trans k139 (fun i hi x => (x.elim (fun y => ((Grew.ok (S := T_r) gr125 (fun _ x => x)) i hi y)) (fun y => ((Grew.ok (S := T_r) gr86 noB_le) i hi y))))
  obtain ⟨T149, e150⟩ : ∃ T_, T_ = Tf143 2 := ⟨_, rfl⟩
  have B151 : Rd2 w138 (T149) p41 (((p))) (((l))) (((st))) ((rdStep (signedRd ((l)) (128)) ((rdStep (signedRd (l) (128)) (st)).2)).2) := by rw [e150]; exact (Gt144 2 _ _ rfl).1
  have g152 : Grew w110 (T121) T149 := by rw [e150]; exact (Gt144 2 _ _ rfl).2
  have gr153 := gr125.trans K120 g152
  have ap154 : Apart T149 (onB p1) := (ap126).grew g152 (onB_live (B118).lt)
  have ap155 : Apart T149 (onB p10) := (ap127).grew g152 (onB_live (B119).lt)
  have e156 : onB p81 = Tf143 5 := ((Gt144 5 _ _ rfl).1.1).symm
  have B157 : Stc w138 p81 33 [.int .i64 ((rdX l st).1 + cl 64 A), .int .i64 ((rdX l (rdX l st).2).1 + cl 64 B)] := (Gt144 5 _ _ rfl).1.2
  have ap158 : Apart T149 (onB p81) := by rw [e150, e156]; exact Ga145 2 5 _ _ _ _ (by decide) rfl rfl
  clear Gt144 Ga145
  have s159 : F137 0 = .pointer (some ⟨p, 0, none⟩) := (hF141 0).trans s131
  have s160 : F137 37 = undef := (hF141 37).trans s132
  have s161 : F137 4 = .pointer (some ⟨p10, 0, none⟩) := (hF141 4).trans s133
  have s162 : F137 6 = .pointer (some ⟨p41, 0, none⟩) := (hF141 6).trans s134
  have s163 : F137 7 = .pointer (some ⟨p81, 0, none⟩) := (hF141 7).trans s135
  clear G140 hF141
  refine then_normal ?_
  refine wq_seq ?_
  refine wq_seq ?_
  rcases Bool.eq_false_or_eq_true (((rdStep (signedRd ((l)) (128)) ((rdStep (signedRd (l) (128)) (st)).2)).2).isNone) with d164 | d164
  · skip
    refine wq_region ?_
    refine wl_call (R := fun v_ w_ => v_ = .bool true ∧ Kept (fun _ => False) w138 w_) rfl rfl (y_cs rfl rfl rfl (fun _ _ => by kernel_rfl) (ev_func _) (vsC s162 vsN) (t_lost2 (p41) (((p))) (((l))) (((st))) ((rdStep (signedRd ((l)) (128)) ((rdStep (signedRd (l) (128)) (st)).2)).2) (T149) _  B151 ) (fun e_ w_ h_ => ⟨_, h_.1, (congrArg Value.bool d164), h_.2⟩)) ?_
    rintro _ w165 ⟨rfl, k166⟩
    have B167 := B146.all k166 id
    have B168 := B147.all k166 id
    have B169 := B151.all k166 Apart.none
    have B170 := B157.all k166 id
    have K171 := K148.trans k166 (fun _ _ x => x.elim)
    refine wl_v (.bool true) rfl rfl (y_mov rfl rfl ⟨rfl, rfl⟩) ?_
    refine wl_unless 1 false 27 rfl rfl rfl (Or.inl rfl) rfl ?_
    refine wl_unless 1 false 27 rfl rfl rfl (Or.inl rfl) rfl ?_
    refine wl_unless 1 false 27 rfl rfl rfl (Or.inl rfl) rfl ?_
    refine wl_v (.bool true) rfl rfl (y_pickT rfl rfl rfl ⟨rfl, rfl⟩) ?_
    refine wl_nil fun F172 hF173 => ?_
    have s174 : F172 0 = .pointer (some ⟨p, 0, none⟩) := (hF173 0).trans s159
    have s175 : F172 37 = undef := (hF173 37).trans s160
    have s176 : F172 4 = .pointer (some ⟨p10, 0, none⟩) := (hF173 4).trans s161
    have s177 : F172 6 = .pointer (some ⟨p41, 0, none⟩) := (hF173 6).trans s162
    have s178 : F172 7 = .pointer (some ⟨p81, 0, none⟩) := (hF173 7).trans s163
    have s179 : F172 31 = .bool true := (hF173 31).trans rfl
    clear hF173
    refine then_normal ?_
    refine wq_cond (t := true) s179 (fun _ => ?_) (fun e => by cases e)
    refine wq_seq ?_
    have hk : ¬ rdOk l A B st := by unfold rdOk; rintro ⟨h7, h8⟩; first | exact h7 (Option.isNone_iff_eq_none.1 (by assumption)) | exact absurd (vecE_yes h8) (by assumption)
    have hR := vr_no hk
    obtain ⟨g2, a1, b1, a2, b2, hf2, hT2, ho1, ho2, hp2, hq2, hg2, ap1_, ap2_, ap3_⟩ := rd2_open B169
    have gr180 : Grew w0 (T_r) (onB p) := fun i h => gr153 i ((fun i h => (hT2 i).2 (Or.inl h)) i h)
    have ap181 : Apart (onB p) (onB p1) := fun i h => ap154 i ((fun i h => (hT2 i).2 (Or.inl h)) i h)
    have ap182 : Apart (onB p) (onB p10) := fun i h => ap155 i ((fun i h => (hT2 i).2 (Or.inl h)) i h)
    have ap183 : Apart (onB p) (onB p81) := fun i h => ap158 i ((fun i h => (hT2 i).2 (Or.inl h)) i h)
    have gr184 : Grew w0 (T_r) (onB p41) := fun i h => gr153 i ((fun i h => (hT2 i).2 (Or.inr (Or.inl h))) i h)
    have ap185 : Apart (onB p41) (onB p1) := fun i h => ap154 i ((fun i h => (hT2 i).2 (Or.inr (Or.inl h))) i h)
    have ap186 : Apart (onB p41) (onB p10) := fun i h => ap155 i ((fun i h => (hT2 i).2 (Or.inr (Or.inl h))) i h)
    have ap187 : Apart (onB p41) (onB p81) := fun i h => ap158 i ((fun i h => (hT2 i).2 (Or.inr (Or.inl h))) i h)
    have gr188 : Grew w0 (T_r) (onB g2) := fun i h => gr153 i ((fun i h => (hT2 i).2 (Or.inr (Or.inr h))) i h)
    have ap189 : Apart (onB g2) (onB p1) := fun i h => ap154 i ((fun i h => (hT2 i).2 (Or.inr (Or.inr h))) i h)
    have ap190 : Apart (onB g2) (onB p10) := fun i h => ap155 i ((fun i h => (hT2 i).2 (Or.inr (Or.inr h))) i h)
    have ap191 : Apart (onB g2) (onB p81) := fun i h => ap158 i ((fun i h => (hT2 i).2 (Or.inr (Or.inr h))) i h)
    have ap192 : Apart (onB p) (onB p41) := ap1_
    have ap193 : Apart (onB p) (onB g2) := ap2_
    have ap194 : Apart (onB p41) (onB g2) := ap3_
    refine wq_region ?_
    refine wl_v (.agg #[.int .i64 (0), .int .i64 (0)]) rfl rfl (y_buildL (l' := []) (cells := #[.int .i64 (0), .int .i64 (0)]) rfl bpN (by kernel_rfl) rfl ⟨rfl, rfl⟩) ?_
    refine wl_store_stc (us := [.int .i64 (0), .int .i64 (0)]) stcT_vector rfl rfl rfl s176 rfl B168 rfl (oneI rfl (oneI rfl oneN)) fun w195 B196 k197 => ?_
    have B198 := B167.all k197 (fun x => (((ap17).symm) p1 rfl x))
    have B199 := B170.all k197 (fun x => ((ap88) p81 rfl x))
    have B200 := hp2.all k197 (fun x => ((ap182) p rfl x))
    have B201 := hq2.all k197 (fun x => ((ap186) p41 rfl x))
    have B202 := hg2.all k197 (fun i h x => ((ap190) i h x))
    have K203 := K171.trans k197 (Grew.ok (S := T_r) gr15 noB_le)
    refine wl_v (.int .i64 (90)) rfl rfl (y_asg rfl rfl ⟨rfl, rfl⟩) ?_
    refine wl_nil fun F204 hF205 => ?_
    have s206 : F204 37 = undef := (hF205 37).trans s175
    have s207 : F204 4 = .pointer (some ⟨p10, 0, none⟩) := (hF205 4).trans s176
    have s208 : F204 5 = .int .i64 (90) := (hF205 5).trans rfl
    clear hF205
    refine then_normal ?_
    refine wq_ret ?_
    refine then_ret ?_
    have B209 : Rdi w195 (fun i => (onB p) i ∨ ((onB g2) i)) p (l) (vrT l A B st) := (by first | (rw [show vrT l A B st = st from if_neg hk]; exact rdi_close hf2 ho1 B200 B202 ap193) | (rw [show vrT l A B st = vrS l st from if_pos hk]; exact rdi_close hf2 ho2 B200 B202 ap193))
    have gr210 : Grew w0 (T_r) (fun i => (onB p) i ∨ ((onB g2) i)) := fun i h => h.elim (fun y => gr180 i y) (fun y => gr188 i y)
    have ap211 : Apart (fun i => (onB p) i ∨ ((onB g2) i)) (onB p1) := fun i h => h.elim (fun y => (ap181) i y) (fun y => (ap189) i y)
    have ap212 : Apart (fun i => (onB p) i ∨ ((onB g2) i)) (onB p10) := fun i h => h.elim (fun y => (ap182) i y) (fun y => (ap190) i y)
    have ap213 : Apart (fun i => (onB p) i ∨ ((onB g2) i)) (onB p81) := fun i h => h.elim (fun y => (ap183) i y) (fun y => (ap191) i y)
    have ap214 : Apart (fun i => (onB p) i ∨ ((onB g2) i)) (onB p41) := fun i h => h.elim (fun y => (ap192) i y) (fun y => ((ap194).symm) i y)
    exact end_2 s206 rfl (res_stc (vs := [.int .i64 (0), .int .i64 (0)]) stcT_vector rfl s207 B196) (res_tmp (v := .int .i64 (90)) rfl s208) ⟨(fun i => (onB p) i ∨ ((onB g2) i)), (by rw [hR.1, hR.2.1, hR.2.2]), K203, ⟨B209, gr210⟩⟩
  · skip
    refine wq_region ?_
    refine wl_call (R := fun v_ w_ => v_ = .bool false ∧ Kept (fun _ => False) w138 w_) rfl rfl (y_cs rfl rfl rfl (fun _ _ => by kernel_rfl) (ev_func _) (vsC s162 vsN) (t_lost2 (p41) (((p))) (((l))) (((st))) ((rdStep (signedRd ((l)) (128)) ((rdStep (signedRd (l) (128)) (st)).2)).2) (T149) _  B151 ) (fun e_ w_ h_ => ⟨_, h_.1, (congrArg Value.bool d164), h_.2⟩)) ?_
    rintro _ w215 ⟨rfl, k216⟩
    have B217 := B146.all k216 id
    have B218 := B147.all k216 id
    have B219 := B151.all k216 Apart.none
    have B220 := B157.all k216 id
    have K221 := K148.trans k216 (fun _ _ x => x.elim)
    refine wl_v (.bool false) rfl rfl (y_mov rfl rfl ⟨rfl, rfl⟩) ?_
    refine wl_vw (.agg #[.int .i64 ((rdX l st).1 + cl 64 A), .int .i64 ((rdX l (rdX l st).2).1 + cl 64 B)]) 1 false 27 rfl rfl rfl rfl rfl (y_load_stc stcT_vector rfl s163 B220 ⟨rfl, rfl⟩) ?_
    refine wl_callw (R := fun v_ w_ => v_ = .int .i64 (vecE ((rdX l st).1 + cl 64 A) ((rdX l (rdX l st).2).1 + cl 64 B)) ∧ Kept (fun _ => False) w215 w_) 1 false 27 rfl rfl rfl rfl rfl (y_cs rfl rfl rfl (fun _ _ => by kernel_rfl) (ev_func _) (vsC rfl vsN) (mo_check ((rdX l st).1 + cl 64 A) ((rdX l (rdX l st).2).1 + cl 64 B)  _   ) (fun e_ w_ h_ => ⟨_, h_.1, rfl, h_.2⟩)) ?_
    rintro _ w222 ⟨rfl, k223⟩
    have B224 := B217.all k223 id
    have B225 := B218.all k223 id
    have B226 := B219.all k223 Apart.none
    have B227 := B220.all k223 id
    have K228 := K221.trans k223 (fun _ _ x => x.elim)
    refine wl_vw (.bool (decide ((vecE ((rdX l st).1 + cl 64 A) ((rdX l (rdX l st).2).1 + cl 64 B)) ≠ (0)))) 1 false 27 rfl rfl rfl rfl rfl (y_neqI rfl rfl rfl rfl ⟨rfl, rfl⟩) ?_
    refine wl_v (.bool (decide ((vecE ((rdX l st).1 + cl 64 A) ((rdX l (rdX l st).2).1 + cl 64 B)) ≠ (0)))) rfl rfl (y_pickF rfl rfl rfl ⟨rfl, rfl⟩) ?_
    refine wl_nil fun F229 hF230 => ?_
    have s231 : F229 0 = .pointer (some ⟨p, 0, none⟩) := (hF230 0).trans s159
    have s232 : F229 37 = undef := (hF230 37).trans s160
    have s233 : F229 4 = .pointer (some ⟨p10, 0, none⟩) := (hF230 4).trans s161
    have s234 : F229 6 = .pointer (some ⟨p41, 0, none⟩) := (hF230 6).trans s162
    have s235 : F229 7 = .pointer (some ⟨p81, 0, none⟩) := (hF230 7).trans s163
    have s236 : F229 31 = .bool (decide ((vecE ((rdX l st).1 + cl 64 A) ((rdX l (rdX l st).2).1 + cl 64 B)) ≠ (0))) := (hF230 31).trans rfl
    clear hF230
    refine then_normal ?_
    refine wq_cond s236 (fun c237 => ?_) (fun c237 => ?_)
    · replace c237 := of_decide_eq_true c237
      refine wq_seq ?_
      have hk : ¬ rdOk l A B st := by unfold rdOk; rintro ⟨h7, h8⟩; first | exact h7 (Option.isNone_iff_eq_none.1 (by assumption)) | exact absurd (vecE_yes h8) (by assumption)
      have hR := vr_no hk
      obtain ⟨g2, a1, b1, a2, b2, hf2, hT2, ho1, ho2, hp2, hq2, hg2, ap1_, ap2_, ap3_⟩ := rd2_open B226
      have gr238 : Grew w0 (T_r) (onB p) := fun i h => gr153 i ((fun i h => (hT2 i).2 (Or.inl h)) i h)
      have ap239 : Apart (onB p) (onB p1) := fun i h => ap154 i ((fun i h => (hT2 i).2 (Or.inl h)) i h)
      have ap240 : Apart (onB p) (onB p10) := fun i h => ap155 i ((fun i h => (hT2 i).2 (Or.inl h)) i h)
      have ap241 : Apart (onB p) (onB p81) := fun i h => ap158 i ((fun i h => (hT2 i).2 (Or.inl h)) i h)
      have gr242 : Grew w0 (T_r) (onB p41) := fun i h => gr153 i ((fun i h => (hT2 i).2 (Or.inr (Or.inl h))) i h)
      have ap243 : Apart (onB p41) (onB p1) := fun i h => ap154 i ((fun i h => (hT2 i).2 (Or.inr (Or.inl h))) i h)
      have ap244 : Apart (onB p41) (onB p10) := fun i h => ap155 i ((fun i h => (hT2 i).2 (Or.inr (Or.inl h))) i h)
      have ap245 : Apart (onB p41) (onB p81) := fun i h => ap158 i ((fun i h => (hT2 i).2 (Or.inr (Or.inl h))) i h)
      have gr246 : Grew w0 (T_r) (onB g2) := fun i h => gr153 i ((fun i h => (hT2 i).2 (Or.inr (Or.inr h))) i h)
      have ap247 : Apart (onB g2) (onB p1) := fun i h => ap154 i ((fun i h => (hT2 i).2 (Or.inr (Or.inr h))) i h)
      have ap248 : Apart (onB g2) (onB p10) := fun i h => ap155 i ((fun i h => (hT2 i).2 (Or.inr (Or.inr h))) i h)
      have ap249 : Apart (onB g2) (onB p81) := fun i h => ap158 i ((fun i h => (hT2 i).2 (Or.inr (Or.inr h))) i h)
      have ap250 : Apart (onB p) (onB p41) := ap1_
      have ap251 : Apart (onB p) (onB g2) := ap2_
      have ap252 : Apart (onB p41) (onB g2) := ap3_
      refine wq_region ?_
      refine wl_v (.agg #[.int .i64 (0), .int .i64 (0)]) rfl rfl (y_buildL (l' := []) (cells := #[.int .i64 (0), .int .i64 (0)]) rfl bpN (by kernel_rfl) rfl ⟨rfl, rfl⟩) ?_
      refine wl_store_stc (us := [.int .i64 (0), .int .i64 (0)]) stcT_vector rfl rfl rfl s233 rfl B225 rfl (oneI rfl (oneI rfl oneN)) fun w253 B254 k255 => ?_
      have B256 := B224.all k255 (fun x => (((ap17).symm) p1 rfl x))
      have B257 := B227.all k255 (fun x => ((ap88) p81 rfl x))
      have B258 := hp2.all k255 (fun x => ((ap240) p rfl x))
      have B259 := hq2.all k255 (fun x => ((ap244) p41 rfl x))
      have B260 := hg2.all k255 (fun i h x => ((ap248) i h x))
      have K261 := K228.trans k255 (Grew.ok (S := T_r) gr15 noB_le)
      refine wl_v (.int .i64 (90)) rfl rfl (y_asg rfl rfl ⟨rfl, rfl⟩) ?_
      refine wl_nil fun F262 hF263 => ?_
      have s264 : F262 37 = undef := (hF263 37).trans s232
      have s265 : F262 4 = .pointer (some ⟨p10, 0, none⟩) := (hF263 4).trans s233
      have s266 : F262 5 = .int .i64 (90) := (hF263 5).trans rfl
      clear hF263
      refine then_normal ?_
      refine wq_ret ?_
      refine then_ret ?_
      have B267 : Rdi w253 (fun i => (onB p) i ∨ ((onB g2) i)) p (l) (vrT l A B st) := (by first | (rw [show vrT l A B st = st from if_neg hk]; exact rdi_close hf2 ho1 B258 B260 ap251) | (rw [show vrT l A B st = vrS l st from if_pos hk]; exact rdi_close hf2 ho2 B258 B260 ap251))
      have gr268 : Grew w0 (T_r) (fun i => (onB p) i ∨ ((onB g2) i)) := fun i h => h.elim (fun y => gr238 i y) (fun y => gr246 i y)
      have ap269 : Apart (fun i => (onB p) i ∨ ((onB g2) i)) (onB p1) := fun i h => h.elim (fun y => (ap239) i y) (fun y => (ap247) i y)
      have ap270 : Apart (fun i => (onB p) i ∨ ((onB g2) i)) (onB p10) := fun i h => h.elim (fun y => (ap240) i y) (fun y => (ap248) i y)
      have ap271 : Apart (fun i => (onB p) i ∨ ((onB g2) i)) (onB p81) := fun i h => h.elim (fun y => (ap241) i y) (fun y => (ap249) i y)
      have ap272 : Apart (fun i => (onB p) i ∨ ((onB g2) i)) (onB p41) := fun i h => h.elim (fun y => (ap250) i y) (fun y => ((ap252).symm) i y)
      exact end_2 s264 rfl (res_stc (vs := [.int .i64 (0), .int .i64 (0)]) stcT_vector rfl s265 B254) (res_tmp (v := .int .i64 (90)) rfl s266) ⟨(fun i => (onB p) i ∨ ((onB g2) i)), (by rw [hR.1, hR.2.1, hR.2.2]), K261, ⟨B267, gr268⟩⟩
    · replace c237 := of_decide_eq_false c237
      refine wq_skip ?_
      refine then_normal ?_
      refine wq_seq ?_
      have hk : rdOk l A B st := by unfold rdOk; exact ⟨fun h7 => absurd (Option.isNone_iff_eq_none.2 h7) (Bool.eq_false_iff.1 (by assumption)), (vecE_iff _ _).1 (Decidable.byContradiction (by assumption))⟩
      have hR := vr_yes hk
      obtain ⟨g2, a1, b1, a2, b2, hf2, hT2, ho1, ho2, hp2, hq2, hg2, ap1_, ap2_, ap3_⟩ := rd2_open B226
      have gr273 : Grew w0 (T_r) (onB p) := fun i h => gr153 i ((fun i h => (hT2 i).2 (Or.inl h)) i h)
      have ap274 : Apart (onB p) (onB p1) := fun i h => ap154 i ((fun i h => (hT2 i).2 (Or.inl h)) i h)
      have ap275 : Apart (onB p) (onB p10) := fun i h => ap155 i ((fun i h => (hT2 i).2 (Or.inl h)) i h)
      have ap276 : Apart (onB p) (onB p81) := fun i h => ap158 i ((fun i h => (hT2 i).2 (Or.inl h)) i h)
      have gr277 : Grew w0 (T_r) (onB p41) := fun i h => gr153 i ((fun i h => (hT2 i).2 (Or.inr (Or.inl h))) i h)
      have ap278 : Apart (onB p41) (onB p1) := fun i h => ap154 i ((fun i h => (hT2 i).2 (Or.inr (Or.inl h))) i h)
      have ap279 : Apart (onB p41) (onB p10) := fun i h => ap155 i ((fun i h => (hT2 i).2 (Or.inr (Or.inl h))) i h)
      have ap280 : Apart (onB p41) (onB p81) := fun i h => ap158 i ((fun i h => (hT2 i).2 (Or.inr (Or.inl h))) i h)
      have gr281 : Grew w0 (T_r) (onB g2) := fun i h => gr153 i ((fun i h => (hT2 i).2 (Or.inr (Or.inr h))) i h)
      have ap282 : Apart (onB g2) (onB p1) := fun i h => ap154 i ((fun i h => (hT2 i).2 (Or.inr (Or.inr h))) i h)
      have ap283 : Apart (onB g2) (onB p10) := fun i h => ap155 i ((fun i h => (hT2 i).2 (Or.inr (Or.inr h))) i h)
      have ap284 : Apart (onB g2) (onB p81) := fun i h => ap158 i ((fun i h => (hT2 i).2 (Or.inr (Or.inr h))) i h)
      have ap285 : Apart (onB p) (onB p41) := ap1_
      have ap286 : Apart (onB p) (onB g2) := ap2_
      have ap287 : Apart (onB p41) (onB g2) := ap3_
      refine wq_region ?_
      refine wl_v (.pointer (some ⟨p, 0, none⟩)) rfl rfl (y_mov rfl s231 ⟨rfl, rfl⟩) ?_
      refine wl_v (.agg #[.slice (some ⟨g2, 0, none⟩) l.length l.length, .int .i64 (((a2 : Nat) : Int)), .bool (b2)]) rfl rfl (y_load_stc stcT_reader rfl s234 hq2 ⟨rfl, rfl⟩) ?_
      refine wl_v (.pointer (some ⟨p, 0, none⟩)) rfl rfl (y_nilc rfl rfl ⟨rfl, rfl⟩) ?_
      refine wl_store_stc (us := [.slice (some ⟨g2, 0, none⟩) l.length l.length, .int .i64 (((a2 : Nat) : Int)), .bool (b2)]) stcT_reader rfl rfl rfl rfl rfl hp2 rfl (oneI rfl (oneI rfl (oneI rfl oneN))) fun w288 B289 k290 => ?_
      have B291 := B224.all k290 (fun x => (((ap274).symm) p1 rfl x))
      have B292 := B225.all k290 (fun x => (((ap275).symm) p10 rfl x))
      have B293 := B227.all k290 (fun x => (((ap276).symm) p81 rfl x))
      have B294 := hq2.all k290 (fun x => (((ap285).symm) p41 rfl x))
      have B295 := hg2.all k290 (fun i h x => (((ap286).symm) i h x))
      have K296 := K228.trans k290 (Grew.ok (S := T_r) gr273 (fun _ x => x))
      refine wl_nil fun F297 hF298 => ?_
      have s299 : F297 37 = undef := (hF298 37).trans s232
      have s300 : F297 4 = .pointer (some ⟨p10, 0, none⟩) := (hF298 4).trans s233
      have s301 : F297 7 = .pointer (some ⟨p81, 0, none⟩) := (hF298 7).trans s235
      clear hF298
      refine then_normal ?_
      refine wq_seq ?_
      refine wq_region ?_
      refine wl_v (.agg #[.int .i64 ((rdX l st).1 + cl 64 A), .int .i64 ((rdX l (rdX l st).2).1 + cl 64 B)]) rfl rfl (y_load_stc stcT_vector rfl s301 B293 ⟨rfl, rfl⟩) ?_
      refine wl_store_stc (us := [.int .i64 ((rdX l st).1 + cl 64 A), .int .i64 ((rdX l (rdX l st).2).1 + cl 64 B)]) stcT_vector rfl rfl rfl s300 rfl B292 rfl (oneI rfl (oneI rfl oneN)) fun w302 B303 k304 => ?_
      have B305 := B291.all k304 (fun x => (((ap17).symm) p1 rfl x))
      have B306 := B293.all k304 (fun x => ((ap88) p81 rfl x))
      have B307 := B289.all k304 (fun x => ((ap275) p rfl x))
      have B308 := B294.all k304 (fun x => ((ap279) p41 rfl x))
      have B309 := B295.all k304 (fun i h x => ((ap283) i h x))
      have K310 := K296.trans k304 (Grew.ok (S := T_r) gr15 noB_le)
      refine wl_v (.int .i64 (0)) rfl rfl (y_asg rfl rfl ⟨rfl, rfl⟩) ?_
      refine wl_nil fun F311 hF312 => ?_
      have s313 : F311 37 = undef := (hF312 37).trans s299
      have s314 : F311 4 = .pointer (some ⟨p10, 0, none⟩) := (hF312 4).trans s300
      have s315 : F311 5 = .int .i64 (0) := (hF312 5).trans rfl
      clear hF312
      refine then_normal ?_
      refine wq_ret ?_
      have B316 : Rdi w302 (fun i => (onB p) i ∨ ((onB g2) i)) p (l) (vrT l A B st) := (by first | (rw [show vrT l A B st = st from if_neg hk]; exact rdi_close hf2 ho1 B307 B309 ap286) | (rw [show vrT l A B st = vrS l st from if_pos hk]; exact rdi_close hf2 ho2 B307 B309 ap286))
      have gr317 : Grew w0 (T_r) (fun i => (onB p) i ∨ ((onB g2) i)) := fun i h => h.elim (fun y => gr273 i y) (fun y => gr281 i y)
      have ap318 : Apart (fun i => (onB p) i ∨ ((onB g2) i)) (onB p1) := fun i h => h.elim (fun y => (ap274) i y) (fun y => (ap282) i y)
      have ap319 : Apart (fun i => (onB p) i ∨ ((onB g2) i)) (onB p10) := fun i h => h.elim (fun y => (ap275) i y) (fun y => (ap283) i y)
      have ap320 : Apart (fun i => (onB p) i ∨ ((onB g2) i)) (onB p81) := fun i h => h.elim (fun y => (ap276) i y) (fun y => (ap284) i y)
      have ap321 : Apart (fun i => (onB p) i ∨ ((onB g2) i)) (onB p41) := fun i h => h.elim (fun y => (ap285) i y) (fun y => ((ap287).symm) i y)
      exact end_2 s313 rfl (res_stc (vs := [.int .i64 ((rdX l st).1 + cl 64 A), .int .i64 ((rdX l (rdX l st).2).1 + cl 64 B)]) stcT_vector rfl s314 B303) (res_tmp (v := .int .i64 (0)) rfl s315) ⟨(fun i => (onB p) i ∨ ((onB g2) i)), (by rw [hR.1, hR.2.1, hR.2.2]), K310, ⟨B316, gr317⟩⟩
set_option maxHeartbeats 4000000 in
set_option maxRecDepth 100000 in
theorem vt_new (m n : Int) (w0 : World) :
    Calls Try.prog 11 #[.int .i64 (m), .int .i64 (n)] w0 fun e w' => ∃ (v1 : Value) (T1 : Nat → Prop), e = .returned (.tuple #[v1, .int .i64 (newVE m n)]) ∧ Kept (fun _ => False) w0 w' ∧ (Vpo w' T1 v1 ((optV m n)) ∧ Grew w0 noB T1) := by
  refine calls_wq (args := [.int .i64 (m), .int .i64 (n)]) 19 Try.func11 rfl rfl (Nat.le_of_ble_eq_true rfl) ?_
  have K0 := Kept.refl (fun _ => False) w0
  refine wq_seq ?_
  refine wq_region ?_
  refine wl_v (.pointer none) rfl rfl (y_asg rfl rfl ⟨rfl, rfl⟩) ?_
  refine wl_v (.int .i64 (0)) rfl rfl (y_asg rfl rfl ⟨rfl, rfl⟩) ?_
  refine wl_nil fun F1 hF2 => ?_
  have s3 : F1 0 = .int .i64 (m) := (hF2 0).trans rfl
  have s4 : F1 1 = .int .i64 (n) := (hF2 1).trans rfl
  have s5 : F1 19 = undef := (hF2 19).trans rfl
  clear hF2
  refine then_normal ?_
  refine wq_seq ?_
  refine wq_seq ?_
  by_cases d6 : 1 ≤ (m) ∧ (m) ≤ 16
  · skip
    by_cases d7 : 1 ≤ (n) ∧ (n) ≤ 16
    · skip
      refine wq_region ?_
      refine wl_v (.int .i64 (m)) rfl rfl (y_mov rfl s3 ⟨rfl, rfl⟩) ?_
      refine wl_call (R := fun v_ w_ => v_ = .bool true ∧ Kept (fun _ => False) w0 w_) rfl rfl (y_cs rfl rfl rfl (fun _ _ => by kernel_rfl) (ev_func _) (vsC rfl vsN) (vt_may (m)  _   ) (fun e_ w_ h_ => ⟨_, h_.1, (congrArg Value.bool (decide_eq_true d6)), h_.2⟩)) ?_
      rintro _ w8 ⟨rfl, k9⟩
      have K10 := K0.trans k9 (fun _ _ x => x.elim)
      refine wl_v (.bool false) rfl rfl (y_not rfl rfl rfl ⟨rfl, rfl⟩) ?_
      refine wl_v (.bool false) rfl rfl (y_mov rfl rfl ⟨rfl, rfl⟩) ?_
      refine wl_vw (.int .i64 (n)) 3 false 9 rfl rfl rfl rfl rfl (y_mov rfl s4 ⟨rfl, rfl⟩) ?_
      refine wl_callw (R := fun v_ w_ => v_ = .bool true ∧ Kept (fun _ => False) w8 w_) 3 false 9 rfl rfl rfl rfl rfl (y_cs rfl rfl rfl (fun _ _ => by kernel_rfl) (ev_func _) (vsC rfl vsN) (vt_may (n)  _   ) (fun e_ w_ h_ => ⟨_, h_.1, (congrArg Value.bool (decide_eq_true d7)), h_.2⟩)) ?_
      rintro _ w11 ⟨rfl, k12⟩
      have K13 := K10.trans k12 (fun _ _ x => x.elim)
      refine wl_vw (.bool false) 3 false 9 rfl rfl rfl rfl rfl (y_not rfl rfl rfl ⟨rfl, rfl⟩) ?_
      refine wl_v (.bool false) rfl rfl (y_pickF rfl rfl rfl ⟨rfl, rfl⟩) ?_
      refine wl_nil fun F14 hF15 => ?_
      have s16 : F14 0 = .int .i64 (m) := (hF15 0).trans s3
      have s17 : F14 1 = .int .i64 (n) := (hF15 1).trans s4
      have s18 : F14 19 = undef := (hF15 19).trans s5
      have s19 : F14 13 = .bool false := (hF15 13).trans rfl
      clear hF15
      refine then_normal ?_
      refine wq_cond (t := false) s19 (fun e => by cases e) (fun _ => ?_)
      refine wq_skip ?_
      refine then_normal ?_
      refine wq_seq ?_
      have hs : sidesOk m n := ⟨by omega, by omega, by omega, by omega⟩
      refine wq_region ?_
      refine wl_v (.int .i64 (m)) rfl rfl (y_mov rfl s16 ⟨rfl, rfl⟩) ?_
      refine wl_v (.int .i64 (n)) rfl rfl (y_mov rfl s17 ⟨rfl, rfl⟩) ?_
      refine wl_op rfl rfl (y_makeMap2 rfl fun p20 w21 B23 g24 k22 => ?_)
      have gr25 : Grew w0 noB (onB p20) := Grew.new K13 g24
      have K26 := K13.trans k22 (fun _ _ x => x.elim)
      refine wl_v (.agg #[.int .i64 (m), .int .i64 (n), .map (some p20)]) rfl rfl (y_buildL (l' := [(0, .int .i64 (m)), (1, .int .i64 (n)), (2, .map (some p20))]) (cells := #[.int .i64 (m), .int .i64 (n), .map (some p20)]) rfl (bpC rfl (bpC rfl (bpC rfl bpN))) (by kernel_rfl) rfl ⟨rfl, rfl⟩) ?_
      refine wl_box_stc (vs := [.int .i64 (m), .int .i64 (n), .map (some p20)]) rfl rfl rfl rfl fun p27 w28 B30 g31 k29 => ?_
      have gr32 : Grew w0 noB (onB p27) := Grew.new K26 g31
      have ap33 : Apart (onB p27) (onB p20) := Apart.new g31 (onB_live (B23).lt)
      have B34 := B23.all k29 id
      have K35 := K26.trans k29 (fun _ _ x => x.elim)
      refine wl_v (.pointer (some ⟨p27, 0, none⟩)) rfl rfl (y_asg rfl rfl ⟨rfl, rfl⟩) ?_
      refine wl_v (.int .i64 (0)) rfl rfl (y_asg rfl rfl ⟨rfl, rfl⟩) ?_
      refine wl_nil fun F36 hF37 => ?_
      have s38 : F36 19 = undef := (hF37 19).trans s18
      have s39 : F36 4 = .pointer (some ⟨p27, 0, none⟩) := (hF37 4).trans rfl
      have s40 : F36 5 = .int .i64 (0) := (hF37 5).trans rfl
      clear hF37
      refine then_normal ?_
      refine wq_ret ?_
      have B41 : Vpo w28 (fun i => (onB p27) i ∨ ((onB p20) i)) (.pointer (some ⟨p27, 0, none⟩)) (some (newV m n)) := ⟨_, rfl, _, fun i => Iff.rfl, B30, B34, ap33, okV_new hs⟩
      have gr42 : Grew w0 (noB) (fun i => (onB p27) i ∨ ((onB p20) i)) := fun i h => h.elim (fun y => gr32 i y) (fun y => gr25 i y)
      exact end_2 s38 rfl (res_tmp (v := .pointer (some ⟨p27, 0, none⟩)) rfl s39) (res_tmp (v := .int .i64 (0)) rfl s40) ⟨(.pointer (some ⟨p27, 0, none⟩)), (fun i => (onB p27) i ∨ ((onB p20) i)), (by first | rw [newVE_yes hs] | rw [newVE_no (by unfold sidesOk; omega)]), K35, ⟨(by first | (rw [optV_yes hs]; exact B41) | (rw [optV_no (by unfold sidesOk; omega)]; exact B41)), gr42⟩⟩
    · skip
      refine wq_region ?_
      refine wl_v (.int .i64 (m)) rfl rfl (y_mov rfl s3 ⟨rfl, rfl⟩) ?_
      refine wl_call (R := fun v_ w_ => v_ = .bool true ∧ Kept (fun _ => False) w0 w_) rfl rfl (y_cs rfl rfl rfl (fun _ _ => by kernel_rfl) (ev_func _) (vsC rfl vsN) (vt_may (m)  _   ) (fun e_ w_ h_ => ⟨_, h_.1, (congrArg Value.bool (decide_eq_true d6)), h_.2⟩)) ?_
      rintro _ w43 ⟨rfl, k44⟩
      have K45 := K0.trans k44 (fun _ _ x => x.elim)
      refine wl_v (.bool false) rfl rfl (y_not rfl rfl rfl ⟨rfl, rfl⟩) ?_
      refine wl_v (.bool false) rfl rfl (y_mov rfl rfl ⟨rfl, rfl⟩) ?_
      refine wl_vw (.int .i64 (n)) 3 false 9 rfl rfl rfl rfl rfl (y_mov rfl s4 ⟨rfl, rfl⟩) ?_
      refine wl_callw (R := fun v_ w_ => v_ = .bool false ∧ Kept (fun _ => False) w43 w_) 3 false 9 rfl rfl rfl rfl rfl (y_cs rfl rfl rfl (fun _ _ => by kernel_rfl) (ev_func _) (vsC rfl vsN) (vt_may (n)  _   ) (fun e_ w_ h_ => ⟨_, h_.1, (congrArg Value.bool (decide_eq_false d7)), h_.2⟩)) ?_
      rintro _ w46 ⟨rfl, k47⟩
      have K48 := K45.trans k47 (fun _ _ x => x.elim)
      refine wl_vw (.bool true) 3 false 9 rfl rfl rfl rfl rfl (y_not rfl rfl rfl ⟨rfl, rfl⟩) ?_
      refine wl_v (.bool true) rfl rfl (y_pickF rfl rfl rfl ⟨rfl, rfl⟩) ?_
      refine wl_nil fun F49 hF50 => ?_
      have s51 : F49 0 = .int .i64 (m) := (hF50 0).trans s3
      have s52 : F49 1 = .int .i64 (n) := (hF50 1).trans s4
      have s53 : F49 19 = undef := (hF50 19).trans s5
      have s54 : F49 13 = .bool true := (hF50 13).trans rfl
      clear hF50
      refine then_normal ?_
      refine wq_cond (t := true) s54 (fun _ => ?_) (fun e => by cases e)
      refine wq_seq ?_
      refine wq_region ?_
      refine wl_v (.pointer none) rfl rfl (y_asg rfl rfl ⟨rfl, rfl⟩) ?_
      refine wl_v (.int .i64 (1)) rfl rfl (y_asg rfl rfl ⟨rfl, rfl⟩) ?_
      refine wl_nil fun F55 hF56 => ?_
      have s57 : F55 19 = undef := (hF56 19).trans s53
      have s58 : F55 4 = .pointer none := (hF56 4).trans rfl
      have s59 : F55 5 = .int .i64 (1) := (hF56 5).trans rfl
      clear hF56
      refine then_normal ?_
      refine wq_ret ?_
      refine then_ret ?_
      exact end_2 s57 rfl (res_tmp (v := .pointer none) rfl s58) (res_tmp (v := .int .i64 (1)) rfl s59) ⟨(.pointer none), noB, (by first | rw [newVE_yes hs] | rw [newVE_no (by unfold sidesOk; omega)]), K48, ⟨(by first | (rw [optV_yes hs]; exact (Vpo.nil _)) | (rw [optV_no (by unfold sidesOk; omega)]; exact (Vpo.nil _))), (Grew.refl _ _)⟩⟩
  · skip
    refine wq_region ?_
    refine wl_v (.int .i64 (m)) rfl rfl (y_mov rfl s3 ⟨rfl, rfl⟩) ?_
    refine wl_call (R := fun v_ w_ => v_ = .bool false ∧ Kept (fun _ => False) w0 w_) rfl rfl (y_cs rfl rfl rfl (fun _ _ => by kernel_rfl) (ev_func _) (vsC rfl vsN) (vt_may (m)  _   ) (fun e_ w_ h_ => ⟨_, h_.1, (congrArg Value.bool (decide_eq_false d6)), h_.2⟩)) ?_
    rintro _ w60 ⟨rfl, k61⟩
    have K62 := K0.trans k61 (fun _ _ x => x.elim)
    refine wl_v (.bool true) rfl rfl (y_not rfl rfl rfl ⟨rfl, rfl⟩) ?_
    refine wl_v (.bool true) rfl rfl (y_mov rfl rfl ⟨rfl, rfl⟩) ?_
    refine wl_unless 3 false 9 rfl rfl rfl (Or.inl rfl) rfl ?_
    refine wl_unless 3 false 9 rfl rfl rfl (Or.inl rfl) rfl ?_
    refine wl_unless 3 false 9 rfl rfl rfl (Or.inl rfl) rfl ?_
    refine wl_v (.bool true) rfl rfl (y_pickT rfl rfl rfl ⟨rfl, rfl⟩) ?_
    refine wl_nil fun F63 hF64 => ?_
    have s65 : F63 0 = .int .i64 (m) := (hF64 0).trans s3
    have s66 : F63 1 = .int .i64 (n) := (hF64 1).trans s4
    have s67 : F63 19 = undef := (hF64 19).trans s5
    have s68 : F63 13 = .bool true := (hF64 13).trans rfl
    clear hF64
    refine then_normal ?_
    refine wq_cond (t := true) s68 (fun _ => ?_) (fun e => by cases e)
    refine wq_seq ?_
    refine wq_region ?_
    refine wl_v (.pointer none) rfl rfl (y_asg rfl rfl ⟨rfl, rfl⟩) ?_
    refine wl_v (.int .i64 (1)) rfl rfl (y_asg rfl rfl ⟨rfl, rfl⟩) ?_
    refine wl_nil fun F69 hF70 => ?_
    have s71 : F69 19 = undef := (hF70 19).trans s67
    have s72 : F69 4 = .pointer none := (hF70 4).trans rfl
    have s73 : F69 5 = .int .i64 (1) := (hF70 5).trans rfl
    clear hF70
    refine then_normal ?_
    refine wq_ret ?_
    refine then_ret ?_
    exact end_2 s71 rfl (res_tmp (v := .pointer none) rfl s72) (res_tmp (v := .int .i64 (1)) rfl s73) ⟨(.pointer none), noB, (by first | rw [newVE_yes hs] | rw [newVE_no (by unfold sidesOk; omega)]), K62, ⟨(by first | (rw [optV_yes hs]; exact (Vpo.nil _)) | (rw [optV_no (by unfold sidesOk; omega)]; exact (Vpo.nil _))), (Grew.refl _ _)⟩⟩
theorem lay_vfG (f : VF) (x y X Y a b : Int) : layG (vfG f) x y X Y a b = vfG (layV f x y X Y) a b := by
  unfold layG vfG layV
  by_cases h : a = x ∧ b = y
  · obtain ⟨rfl, rfl⟩ := h; simp
  · rw [if_neg (fun e => h (by simpa using e))]; simp only [if_neg h]
theorem same_zero {X Y : Int} (h : sameVec X Y 0 0 = true) : X = 0 ∧ Y = 0 := by unfold sameVec at h; simpa using h
set_option maxHeartbeats 4000000 in
set_option maxRecDepth 100000 in
theorem vt_set1 (v : Value) (f : VF) (x y X Y : Int) (T_q : Nat → Prop) (w0 : World) (h_q : Vpo w0 T_q v ((some f))) :
    Calls Try.prog 13 #[v, .int .i64 (x), .int .i64 (y), .agg #[.int .i64 (X), .int .i64 (Y)]] w0 fun e w' => ∃ (T_q' : Nat → Prop), e = .returned (.int .i64 (setE f x y X Y)) ∧ Kept (T_q) w0 w' ∧ (Vpo w' T_q' v ((some (setV f x y X Y))) ∧ Grew w0 T_q T_q') := by
  refine calls_wq (args := [v, .int .i64 (x), .int .i64 (y), .agg #[.int .i64 (X), .int .i64 (Y)]]) 53 Try.func13 rfl rfl (Nat.le_of_ble_eq_true rfl) ?_
  have K0 := Kept.refl (T_q) w0
  have g_q := Grew.refl w0 T_q
  obtain ⟨p, rfl, c, hT, hp, hr, hap, ok⟩ := h_q
  have gr1 : Grew w0 (T_q) (onB p) := fun i h => g_q i ((fun i h => (hT i).2 (Or.inl h)) i h)
  have gr2 : Grew w0 (T_q) (onB c) := fun i h => g_q i ((fun i h => (hT i).2 (Or.inr h)) i h)
  have ap3 : Apart (onB p) (onB c) := hap
  refine wq_seq ?_
  refine wq_region ?_
  refine wl_box_stc (vs := [.int .i64 (X), .int .i64 (Y)]) rfl rfl rfl rfl fun p4 w5 B7 g8 k6 => ?_
  have gr9 : Grew w0 noB (onB p4) := Grew.new K0 g8
  have ap10 : Apart (onB p4) (onB p) := Apart.new g8 (onB_live (hp).lt)
  have ap11 : Apart (onB p4) (onB c) := Apart.new g8 (onB_live (hr).lt)
  have B12 := hp.all k6 id
  have B13 := hr.all k6 id
  have K14 := K0.trans k6 (fun _ _ x => x.elim)
  refine wl_v (.int .i64 (0)) rfl rfl (y_asg rfl rfl ⟨rfl, rfl⟩) ?_
  refine wl_nil fun F15 hF16 => ?_
  have s17 : F15 0 = .pointer (some ⟨p, 0, none⟩) := (hF16 0).trans rfl
  have s18 : F15 1 = .int .i64 (x) := (hF16 1).trans rfl
  have s19 : F15 2 = .int .i64 (y) := (hF16 2).trans rfl
  have s20 : F15 53 = undef := (hF16 53).trans rfl
  have s21 : F15 7 = .pointer (some ⟨p4, 0, none⟩) := (hF16 7).trans rfl
  clear hF16
  refine then_normal ?_
  refine wq_seq ?_
  refine wq_seq ?_
  by_cases d22 : 0 ≤ (x) ∧ (x) < (f.w)
  · skip
    by_cases d23 : 0 ≤ (y) ∧ (y) < (f.h)
    · skip
      refine wq_region ?_
      refine wl_v (.pointer (some ⟨p, 0, none⟩)) rfl rfl (y_mov rfl s17 ⟨rfl, rfl⟩) ?_
      refine wl_v (.bool false) rfl rfl (y_noNil rfl rfl rfl Try.underlying24 ⟨rfl, rfl⟩) ?_
      refine wl_v (.bool false) rfl rfl (y_mov rfl rfl ⟨rfl, rfl⟩) ?_
      refine wl_vw (.int .i64 (x)) 2 false 13 rfl rfl rfl rfl rfl (y_mov rfl s18 ⟨rfl, rfl⟩) ?_
      refine wl_vw (.pointer (some ⟨p, 0, none⟩)) 2 false 13 rfl rfl rfl rfl rfl (y_mov rfl s17 ⟨rfl, rfl⟩) ?_
      refine wl_vw (.pointer (some ⟨p, 0, none⟩)) 2 false 13 rfl rfl rfl rfl rfl (y_nilc rfl rfl ⟨rfl, rfl⟩) ?_
      refine wl_vw (.pointer (some ⟨p, 0, none⟩)) 2 false 13 rfl rfl rfl rfl rfl (y_fieldR (n := 1) rfl rfl Try.underlying67 rfl (by kernel_rfl) (by decide) rfl ⟨rfl, rfl⟩) ?_
      refine wl_vw (.int .i64 (f.w)) 2 false 13 rfl rfl rfl rfl rfl (y_ld_stc rfl rfl Try.underlying3 B12 rfl rfl ⟨rfl, rfl⟩) ?_
      refine wl_callw (R := fun v_ w_ => v_ = .bool true ∧ Kept (fun _ => False) w5 w_) 2 false 13 rfl rfl rfl rfl rfl (y_cs rfl rfl rfl (fun _ _ => by kernel_rfl) (ev_func _) (vsC rfl (vsC rfl vsN)) (vt_within (x) (f.w)  _   ) (fun e_ w_ h_ => ⟨_, h_.1, (congrArg Value.bool (decide_eq_true d22)), h_.2⟩)) ?_
      rintro _ w24 ⟨rfl, k25⟩
      have B26 := B12.all k25 id
      have B27 := B13.all k25 id
      have B28 := B7.all k25 id
      have K29 := K14.trans k25 (fun _ _ x => x.elim)
      refine wl_vw (.bool false) 2 false 13 rfl rfl rfl rfl rfl (y_not rfl rfl rfl ⟨rfl, rfl⟩) ?_
      refine wl_v (.bool false) rfl rfl (y_pickF rfl rfl rfl ⟨rfl, rfl⟩) ?_
      refine wl_v (.bool false) rfl rfl (y_mov rfl rfl ⟨rfl, rfl⟩) ?_
      refine wl_vw (.int .i64 (y)) 11 false 22 rfl rfl rfl rfl rfl (y_mov rfl s19 ⟨rfl, rfl⟩) ?_
      refine wl_vw (.pointer (some ⟨p, 0, none⟩)) 11 false 22 rfl rfl rfl rfl rfl (y_mov rfl s17 ⟨rfl, rfl⟩) ?_
      refine wl_vw (.pointer (some ⟨p, 0, none⟩)) 11 false 22 rfl rfl rfl rfl rfl (y_nilc rfl rfl ⟨rfl, rfl⟩) ?_
      refine wl_vw (.pointer (some ⟨p, 1, none⟩)) 11 false 22 rfl rfl rfl rfl rfl (y_fieldR (n := 1) rfl rfl Try.underlying67 rfl (by kernel_rfl) (by decide) rfl ⟨rfl, rfl⟩) ?_
      refine wl_vw (.int .i64 (f.h)) 11 false 22 rfl rfl rfl rfl rfl (y_ld_stc rfl rfl Try.underlying3 B26 rfl rfl ⟨rfl, rfl⟩) ?_
      refine wl_callw (R := fun v_ w_ => v_ = .bool true ∧ Kept (fun _ => False) w24 w_) 11 false 22 rfl rfl rfl rfl rfl (y_cs rfl rfl rfl (fun _ _ => by kernel_rfl) (ev_func _) (vsC rfl (vsC rfl vsN)) (vt_within (y) (f.h)  _   ) (fun e_ w_ h_ => ⟨_, h_.1, (congrArg Value.bool (decide_eq_true d23)), h_.2⟩)) ?_
      rintro _ w30 ⟨rfl, k31⟩
      have B32 := B26.all k31 id
      have B33 := B27.all k31 id
      have B34 := B28.all k31 id
      have K35 := K29.trans k31 (fun _ _ x => x.elim)
      refine wl_vw (.bool false) 11 false 22 rfl rfl rfl rfl rfl (y_not rfl rfl rfl ⟨rfl, rfl⟩) ?_
      refine wl_v (.bool false) rfl rfl (y_pickF rfl rfl rfl ⟨rfl, rfl⟩) ?_
      refine wl_nil fun F36 hF37 => ?_
      have s38 : F36 0 = .pointer (some ⟨p, 0, none⟩) := (hF37 0).trans s17
      have s39 : F36 1 = .int .i64 (x) := (hF37 1).trans s18
      have s40 : F36 2 = .int .i64 (y) := (hF37 2).trans s19
      have s41 : F36 53 = undef := (hF37 53).trans s20
      have s42 : F36 7 = .pointer (some ⟨p4, 0, none⟩) := (hF37 7).trans s21
      have s43 : F36 30 = .bool false := (hF37 30).trans rfl
      clear hF37
      refine then_normal ?_
      refine wq_cond (t := false) s43 (fun e => by cases e) (fun _ => ?_)
      refine wq_skip ?_
      refine then_normal ?_
      refine wq_seq ?_
      refine wq_seq ?_
      have hin : inV f x y := ⟨by omega, by omega, by omega, by omega⟩
      refine wq_region ?_
      refine wl_v (.agg #[.int .i64 (X), .int .i64 (Y)]) rfl rfl (y_load_stc stcT_vector rfl s42 B34 ⟨rfl, rfl⟩) ?_
      refine wl_call (R := fun v_ w_ => v_ = .int .i64 (vecE (X) (Y)) ∧ Kept (fun _ => False) w30 w_) rfl rfl (y_cs rfl rfl rfl (fun _ _ => by kernel_rfl) (ev_func _) (vsC rfl vsN) (mo_check (X) (Y)  _   ) (fun e_ w_ h_ => ⟨_, h_.1, rfl, h_.2⟩)) ?_
      rintro _ w44 ⟨rfl, k45⟩
      have B46 := B32.all k45 id
      have B47 := B33.all k45 id
      have B48 := B34.all k45 id
      have K49 := K35.trans k45 (fun _ _ x => x.elim)
      refine wl_v (.int .i64 (vecE (X) (Y))) rfl rfl (y_asg rfl rfl ⟨rfl, rfl⟩) ?_
      refine wl_nil fun F50 hF51 => ?_
      have s52 : F50 0 = .pointer (some ⟨p, 0, none⟩) := (hF51 0).trans s38
      have s53 : F50 1 = .int .i64 (x) := (hF51 1).trans s39
      have s54 : F50 2 = .int .i64 (y) := (hF51 2).trans s40
      have s55 : F50 53 = undef := (hF51 53).trans s41
      have s56 : F50 7 = .pointer (some ⟨p4, 0, none⟩) := (hF51 7).trans s42
      have s57 : F50 9 = .int .i64 (vecE (X) (Y)) := (hF51 9).trans rfl
      clear hF51
      refine then_normal ?_
      refine wq_seq ?_
      refine wq_region ?_
      refine wl_v (.int .i64 (vecE (X) (Y))) rfl rfl (y_mov rfl s57 ⟨rfl, rfl⟩) ?_
      refine wl_v (.bool (decide ((vecE (X) (Y)) ≠ (0)))) rfl rfl (y_neqI rfl rfl rfl rfl ⟨rfl, rfl⟩) ?_
      refine wl_nil fun F58 hF59 => ?_
      have s60 : F58 0 = .pointer (some ⟨p, 0, none⟩) := (hF59 0).trans s52
      have s61 : F58 1 = .int .i64 (x) := (hF59 1).trans s53
      have s62 : F58 2 = .int .i64 (y) := (hF59 2).trans s54
      have s63 : F58 53 = undef := (hF59 53).trans s55
      have s64 : F58 7 = .pointer (some ⟨p4, 0, none⟩) := (hF59 7).trans s56
      have s65 : F58 9 = .int .i64 (vecE (X) (Y)) := (hF59 9).trans s57
      have s66 : F58 34 = .bool (decide ((vecE (X) (Y)) ≠ (0))) := (hF59 34).trans rfl
      clear hF59
      refine then_normal ?_
      refine wq_cond s66 (fun c67 => ?_) (fun c67 => ?_)
      · replace c67 := of_decide_eq_true c67
        refine wq_seq ?_
        have hvn : ¬ vecOk X Y := fun h => absurd ((vecE_iff X Y).2 h) (by assumption)
        refine wq_region ?_
        refine wl_v (.int .i64 (vecE (X) (Y))) rfl rfl (y_mov rfl s65 ⟨rfl, rfl⟩) ?_
        refine wl_v (.int .i64 (vecE (X) (Y))) rfl rfl (y_asg rfl rfl ⟨rfl, rfl⟩) ?_
        refine wl_nil fun F68 hF69 => ?_
        have s70 : F68 53 = undef := (hF69 53).trans s63
        have s71 : F68 8 = .int .i64 (vecE (X) (Y)) := (hF69 8).trans rfl
        clear hF69
        refine then_normal ?_
        refine wq_ret ?_
        refine then_ret ?_
        have B72 : Vpo w44 (fun i => (onB p) i ∨ ((onB c) i)) (.pointer (some ⟨p, 0, none⟩)) (some (setV f x y X Y)) := (by first | (rw [(set_yes hin hv).2]; exact ⟨_, rfl, _, fun i => Iff.rfl, B46, (B47).congr (fun a b => by first | exact lay_vfG f x y X Y a b | (rw [h0.1, h0.2]; exact lay_vfG f x y 0 0 a b)), ap3, okV_lay ok hin hv⟩) | (rw [(set_none hin hvn).2]; exact ⟨_, rfl, _, fun i => Iff.rfl, B46, B47, ap3, ok⟩) | (rw [(set_no hno).2]; exact ⟨_, rfl, _, fun i => Iff.rfl, B46, B47, ap3, ok⟩))
        have gr73 : Grew w0 (T_q) (fun i => (onB p) i ∨ ((onB c) i)) := fun i h => h.elim (fun y => gr1 i y) (fun y => gr2 i y)
        have ap74 : Apart (fun i => (onB p) i ∨ ((onB c) i)) (onB p4) := fun i h => h.elim (fun y => ((ap10).symm) i y) (fun y => ((ap11).symm) i y)
        exact end_tmp (v := .int .i64 (vecE (X) (Y))) s70 rfl rfl s71 ⟨(fun i => (onB p) i ∨ ((onB c) i)), (by first | rw [(set_yes hin hv).1] | rw [(set_none hin hvn).1, vecE_no hvn] | rw [(set_no hno).1]), K49, ⟨B72, gr73⟩⟩
      · replace c67 := of_decide_eq_false c67
        refine wq_skip ?_
        refine then_normal ?_
        refine wq_seq ?_
        have hv : vecOk X Y := (vecE_iff X Y).1 (by first | assumption | (apply Decidable.byContradiction; assumption))
        refine wq_region ?_
        refine wl_v (.int .i64 (x)) rfl rfl (y_mov rfl s61 ⟨rfl, rfl⟩) ?_
        refine wl_v (.int .i64 (y)) rfl rfl (y_mov rfl s62 ⟨rfl, rfl⟩) ?_
        refine wl_v (.agg #[.int .i64 (x), .int .i64 (y)]) rfl rfl (y_buildL (l' := [(0, .int .i64 (x)), (1, .int .i64 (y))]) (cells := #[.int .i64 (x), .int .i64 (y)]) rfl (bpC rfl (bpC rfl bpN)) (by kernel_rfl) rfl ⟨rfl, rfl⟩) ?_
        refine wl_alloc_stc (n := 2) (vs := [.int .i64 (0), .int .i64 (0)]) rfl rfl rfl (by kernel_rfl) fun p75 w76 B78 g79 k77 => ?_
        have gr80 : Grew w0 noB (onB p75) := Grew.new K49 g79
        have ap81 : Apart (onB p75) (onB p) := Apart.new g79 (onB_live (B46).lt)
        have ap82 : Apart (onB p75) (onB c) := Apart.new g79 (onB_live (B47).lt)
        have ap83 : Apart (onB p75) (onB p4) := Apart.new g79 (onB_live (B48).lt)
        have B84 := B46.all k77 id
        have B85 := B47.all k77 id
        have B86 := B48.all k77 id
        have K87 := K49.trans k77 (fun _ _ x => x.elim)
        refine wl_store_stc (us := [.int .i64 (x), .int .i64 (y)]) stcT_place rfl rfl rfl rfl rfl B78 rfl (oneI rfl (oneI rfl oneN)) fun w88 B89 k90 => ?_
        have B91 := B84.all k90 (fun x => (((ap81).symm) p rfl x))
        have B92 := B85.all k90 (fun x => (((ap82).symm) c rfl x))
        have B93 := B86.all k90 (fun x => (((ap83).symm) p4 rfl x))
        have K94 := K87.trans k90 (Grew.ok (S := T_q) gr80 noB_le)
        refine wl_nil fun F95 hF96 => ?_
        have s97 : F95 0 = .pointer (some ⟨p, 0, none⟩) := (hF96 0).trans s60
        have s98 : F95 53 = undef := (hF96 53).trans s63
        have s99 : F95 7 = .pointer (some ⟨p4, 0, none⟩) := (hF96 7).trans s64
        have s100 : F95 10 = .pointer (some ⟨p75, 0, none⟩) := (hF96 10).trans rfl
        clear hF96
        refine then_normal ?_
        refine wq_seq ?_
        refine wq_seq ?_
        refine wq_region ?_
        refine wl_v (.agg #[.int .i64 (X), .int .i64 (Y)]) rfl rfl (y_load_stc stcT_vector rfl s99 B93 ⟨rfl, rfl⟩) ?_
        refine wl_v (.agg #[.int .i64 (0), .int .i64 (0)]) rfl rfl (y_buildL (l' := []) (cells := #[.int .i64 (0), .int .i64 (0)]) rfl bpN (by kernel_rfl) rfl ⟨rfl, rfl⟩) ?_
        refine wl_v (.bool (sameVec (X) (Y) (0) (0))) rfl rfl (y_eqlVec rfl rfl rfl rfl ⟨rfl, rfl⟩) ?_
        refine wl_nil fun F101 hF102 => ?_
        have s103 : F101 0 = .pointer (some ⟨p, 0, none⟩) := (hF102 0).trans s97
        have s104 : F101 53 = undef := (hF102 53).trans s98
        have s105 : F101 7 = .pointer (some ⟨p4, 0, none⟩) := (hF102 7).trans s99
        have s106 : F101 10 = .pointer (some ⟨p75, 0, none⟩) := (hF102 10).trans s100
        have s107 : F101 41 = .bool (sameVec (X) (Y) (0) (0)) := (hF102 41).trans rfl
        clear hF102
        refine then_normal ?_
        refine wq_cond s107 (fun c108 => ?_) (fun c108 => ?_)
        · skip
          have h0 := same_zero (by assumption)
          refine wq_tail 5 [some 42, some 43, some 44, some 45, some 46] [Pd.eq (.pointer (some ⟨p, 0, none⟩)), Pd.eq (.pointer (some ⟨p, 0, none⟩)), Pd.eq (.pointer (some ⟨p, 2, none⟩)), Pd.eq (.map (some c)), Pd.eq (.agg #[.int .i64 (x), .int .i64 (y)])] (by kernel_rfl) (by kernel_rfl) (by kernel_rfl) ?_ ?_
          · refine stepsF_cons ?_ ?_
            · refine StepF.one rfl fun F_ w_ hR hout hD => ?_
              exact (y_mov rfl ((hout 0 rfl (by decide)).trans s103) ⟨rfl, Kept.refl _ _⟩)
            refine stepsF_cons ?_ ?_
            · refine StepF.one rfl fun F_ w_ hR hout hD => ?_
              have g42 : F_ 42 = .pointer (some ⟨p, 0, none⟩) := (hD.get 0 rfl rfl rfl)
              exact (y_nilc rfl g42 ⟨rfl, Kept.refl _ _⟩)
            refine stepsF_cons ?_ ?_
            · refine StepF.one rfl fun F_ w_ hR hout hD => ?_
              have g43 : F_ 43 = .pointer (some ⟨p, 0, none⟩) := (hD.get 0 rfl rfl rfl)
              exact (y_fieldR (n := 1) rfl g43 Try.underlying67 rfl (by kernel_rfl) (by decide) rfl ⟨rfl, Kept.refl _ _⟩)
            refine stepsF_cons ?_ ?_
            · refine StepF.one rfl fun F_ w_ hR hout hD => ?_
              have g44 : F_ 44 = .pointer (some ⟨p, 2, none⟩) := (hD.get 0 rfl rfl rfl)
              exact (y_ld_stc rfl g44 Try.underlying65 (B91.all hR id) rfl rfl ⟨rfl, Kept.refl _ _⟩)
            refine stepsF_cons ?_ ?_
            · refine StepF.one rfl fun F_ w_ hR hout hD => ?_
              exact (y_load_stc stcT_place rfl ((hout 10 rfl (by decide)).trans s106) (B89.all hR id) ⟨rfl, Kept.refl _ _⟩)
            exact stepsF_nil
          intro v109 F110 w111 k112 G113 hF114
          have B116 := B91.all k112 id
          have B117 := B92.all k112 id
          have B118 := B93.all k112 id
          have B119 := B89.all k112 id
          have K120 := K94.trans k112 (fun _ _ x => x.elim)
          have s121 : F110 53 = undef := (hF114 53).trans s104
          have s122 : F110 45 = .map (some c) := (hF114 45).trans (G113 3 (by decide))
          have s123 : F110 46 = .agg #[.int .i64 (x), .int .i64 (y)] := (hF114 46).trans (G113 4 (by decide))
          clear G113 hF114
          refine wl_op rfl rfl (y_del2 (a := x) (b := y) twoK_place Try.underlying65 rfl rfl s122 s123 B117 fun _ w124 B125 k126 => ?_)
          have B127 := B116.all k126 (fun x => ((ap3) p rfl x))
          have B128 := B118.all k126 (fun x => ((ap11) p4 rfl x))
          have B129 := B119.all k126 (fun x => ((ap82) p75 rfl x))
          have K130 := K120.trans k126 (Grew.ok (S := T_q) gr2 (fun _ x => x))
          refine wl_nil fun F131 hF132 => ?_
          have s133 : F131 53 = undef := (hF132 53).trans s121
          clear hF132
          refine then_normal ?_
          refine wq_seq ?_
          refine wq_region ?_
          refine wl_v (.int .i64 (0)) rfl rfl (y_asg rfl rfl ⟨rfl, rfl⟩) ?_
          refine wl_nil fun F134 hF135 => ?_
          have s136 : F134 53 = undef := (hF135 53).trans s133
          have s137 : F134 8 = .int .i64 (0) := (hF135 8).trans rfl
          clear hF135
          refine then_normal ?_
          refine wq_ret ?_
          have B138 : Vpo w124 (fun i => (onB p) i ∨ ((onB c) i)) (.pointer (some ⟨p, 0, none⟩)) (some (setV f x y X Y)) := (by first | (rw [(set_yes hin hv).2]; exact ⟨_, rfl, _, fun i => Iff.rfl, B127, (B125).congr (fun a b => by first | exact lay_vfG f x y X Y a b | (rw [h0.1, h0.2]; exact lay_vfG f x y 0 0 a b)), ap3, okV_lay ok hin hv⟩) | (rw [(set_none hin hvn).2]; exact ⟨_, rfl, _, fun i => Iff.rfl, B127, B125, ap3, ok⟩) | (rw [(set_no hno).2]; exact ⟨_, rfl, _, fun i => Iff.rfl, B127, B125, ap3, ok⟩))
          have gr139 : Grew w0 (T_q) (fun i => (onB p) i ∨ ((onB c) i)) := fun i h => h.elim (fun y => gr1 i y) (fun y => gr2 i y)
          have ap140 : Apart (fun i => (onB p) i ∨ ((onB c) i)) (onB p4) := fun i h => h.elim (fun y => ((ap10).symm) i y) (fun y => ((ap11).symm) i y)
          have ap141 : Apart (fun i => (onB p) i ∨ ((onB c) i)) (onB p75) := fun i h => h.elim (fun y => ((ap81).symm) i y) (fun y => ((ap82).symm) i y)
          exact end_tmp (v := .int .i64 (0)) s136 rfl rfl s137 ⟨(fun i => (onB p) i ∨ ((onB c) i)), (by first | rw [(set_yes hin hv).1] | rw [(set_none hin hvn).1, vecE_no hvn] | rw [(set_no hno).1]), K130, ⟨B138, gr139⟩⟩
        · skip
          refine wq_tail 6 [some 47, some 48, some 49, some 50, some 51, some 52] [Pd.eq (.pointer (some ⟨p, 0, none⟩)), Pd.eq (.pointer (some ⟨p, 0, none⟩)), Pd.eq (.pointer (some ⟨p, 2, none⟩)), Pd.eq (.map (some c)), Pd.eq (.agg #[.int .i64 (x), .int .i64 (y)]), Pd.eq (.agg #[.int .i64 (X), .int .i64 (Y)])] (by kernel_rfl) (by kernel_rfl) (by kernel_rfl) ?_ ?_
          · refine stepsF_cons ?_ ?_
            · refine StepF.one rfl fun F_ w_ hR hout hD => ?_
              exact (y_mov rfl ((hout 0 rfl (by decide)).trans s103) ⟨rfl, Kept.refl _ _⟩)
            refine stepsF_cons ?_ ?_
            · refine StepF.one rfl fun F_ w_ hR hout hD => ?_
              have g47 : F_ 47 = .pointer (some ⟨p, 0, none⟩) := (hD.get 0 rfl rfl rfl)
              exact (y_nilc rfl g47 ⟨rfl, Kept.refl _ _⟩)
            refine stepsF_cons ?_ ?_
            · refine StepF.one rfl fun F_ w_ hR hout hD => ?_
              have g48 : F_ 48 = .pointer (some ⟨p, 0, none⟩) := (hD.get 0 rfl rfl rfl)
              exact (y_fieldR (n := 1) rfl g48 Try.underlying67 rfl (by kernel_rfl) (by decide) rfl ⟨rfl, Kept.refl _ _⟩)
            refine stepsF_cons ?_ ?_
            · refine StepF.one rfl fun F_ w_ hR hout hD => ?_
              have g49 : F_ 49 = .pointer (some ⟨p, 2, none⟩) := (hD.get 0 rfl rfl rfl)
              exact (y_ld_stc rfl g49 Try.underlying65 (B91.all hR id) rfl rfl ⟨rfl, Kept.refl _ _⟩)
            refine stepsF_cons ?_ ?_
            · refine StepF.one rfl fun F_ w_ hR hout hD => ?_
              exact (y_load_stc stcT_place rfl ((hout 10 rfl (by decide)).trans s106) (B89.all hR id) ⟨rfl, Kept.refl _ _⟩)
            refine stepsF_cons ?_ ?_
            · refine StepF.one rfl fun F_ w_ hR hout hD => ?_
              exact (y_load_stc stcT_vector rfl ((hout 7 rfl (by decide)).trans s105) (B93.all hR id) ⟨rfl, Kept.refl _ _⟩)
            exact stepsF_nil
          intro v142 F143 w144 k145 G146 hF147
          have B149 := B91.all k145 id
          have B150 := B92.all k145 id
          have B151 := B93.all k145 id
          have B152 := B89.all k145 id
          have K153 := K94.trans k145 (fun _ _ x => x.elim)
          have s154 : F143 53 = undef := (hF147 53).trans s104
          have s155 : F143 50 = .map (some c) := (hF147 50).trans (G146 3 (by decide))
          have s156 : F143 51 = .agg #[.int .i64 (x), .int .i64 (y)] := (hF147 51).trans (G146 4 (by decide))
          have s157 : F143 52 = .agg #[.int .i64 (X), .int .i64 (Y)] := (hF147 52).trans (G146 5 (by decide))
          clear G146 hF147
          refine wl_op rfl rfl (y_upd2 (a := x) (b := y) (X := X) (Y := Y) twoK_place Try.underlying65 rfl s155 s156 s157 B150 fun _ w158 B159 k160 => ?_)
          have B161 := B149.all k160 (fun x => ((ap3) p rfl x))
          have B162 := B151.all k160 (fun x => ((ap11) p4 rfl x))
          have B163 := B152.all k160 (fun x => ((ap82) p75 rfl x))
          have K164 := K153.trans k160 (Grew.ok (S := T_q) gr2 (fun _ x => x))
          refine wl_nil fun F165 hF166 => ?_
          have s167 : F165 53 = undef := (hF166 53).trans s154
          clear hF166
          refine then_normal ?_
          refine wq_seq ?_
          refine wq_region ?_
          refine wl_v (.int .i64 (0)) rfl rfl (y_asg rfl rfl ⟨rfl, rfl⟩) ?_
          refine wl_nil fun F168 hF169 => ?_
          have s170 : F168 53 = undef := (hF169 53).trans s167
          have s171 : F168 8 = .int .i64 (0) := (hF169 8).trans rfl
          clear hF169
          refine then_normal ?_
          refine wq_ret ?_
          have B172 : Vpo w158 (fun i => (onB p) i ∨ ((onB c) i)) (.pointer (some ⟨p, 0, none⟩)) (some (setV f x y X Y)) := (by first | (rw [(set_yes hin hv).2]; exact ⟨_, rfl, _, fun i => Iff.rfl, B161, (B159).congr (fun a b => by first | exact lay_vfG f x y X Y a b | (rw [h0.1, h0.2]; exact lay_vfG f x y 0 0 a b)), ap3, okV_lay ok hin hv⟩) | (rw [(set_none hin hvn).2]; exact ⟨_, rfl, _, fun i => Iff.rfl, B161, B159, ap3, ok⟩) | (rw [(set_no hno).2]; exact ⟨_, rfl, _, fun i => Iff.rfl, B161, B159, ap3, ok⟩))
          have gr173 : Grew w0 (T_q) (fun i => (onB p) i ∨ ((onB c) i)) := fun i h => h.elim (fun y => gr1 i y) (fun y => gr2 i y)
          have ap174 : Apart (fun i => (onB p) i ∨ ((onB c) i)) (onB p4) := fun i h => h.elim (fun y => ((ap10).symm) i y) (fun y => ((ap11).symm) i y)
          have ap175 : Apart (fun i => (onB p) i ∨ ((onB c) i)) (onB p75) := fun i h => h.elim (fun y => ((ap81).symm) i y) (fun y => ((ap82).symm) i y)
          exact end_tmp (v := .int .i64 (0)) s170 rfl rfl s171 ⟨(fun i => (onB p) i ∨ ((onB c) i)), (by first | rw [(set_yes hin hv).1] | rw [(set_none hin hvn).1, vecE_no hvn] | rw [(set_no hno).1]), K164, ⟨B172, gr173⟩⟩
    · skip
      refine wq_region ?_
      refine wl_v (.pointer (some ⟨p, 0, none⟩)) rfl rfl (y_mov rfl s17 ⟨rfl, rfl⟩) ?_
      refine wl_v (.bool false) rfl rfl (y_noNil rfl rfl rfl Try.underlying24 ⟨rfl, rfl⟩) ?_
      refine wl_v (.bool false) rfl rfl (y_mov rfl rfl ⟨rfl, rfl⟩) ?_
      refine wl_vw (.int .i64 (x)) 2 false 13 rfl rfl rfl rfl rfl (y_mov rfl s18 ⟨rfl, rfl⟩) ?_
      refine wl_vw (.pointer (some ⟨p, 0, none⟩)) 2 false 13 rfl rfl rfl rfl rfl (y_mov rfl s17 ⟨rfl, rfl⟩) ?_
      refine wl_vw (.pointer (some ⟨p, 0, none⟩)) 2 false 13 rfl rfl rfl rfl rfl (y_nilc rfl rfl ⟨rfl, rfl⟩) ?_
      refine wl_vw (.pointer (some ⟨p, 0, none⟩)) 2 false 13 rfl rfl rfl rfl rfl (y_fieldR (n := 1) rfl rfl Try.underlying67 rfl (by kernel_rfl) (by decide) rfl ⟨rfl, rfl⟩) ?_
      refine wl_vw (.int .i64 (f.w)) 2 false 13 rfl rfl rfl rfl rfl (y_ld_stc rfl rfl Try.underlying3 B12 rfl rfl ⟨rfl, rfl⟩) ?_
      refine wl_callw (R := fun v_ w_ => v_ = .bool true ∧ Kept (fun _ => False) w5 w_) 2 false 13 rfl rfl rfl rfl rfl (y_cs rfl rfl rfl (fun _ _ => by kernel_rfl) (ev_func _) (vsC rfl (vsC rfl vsN)) (vt_within (x) (f.w)  _   ) (fun e_ w_ h_ => ⟨_, h_.1, (congrArg Value.bool (decide_eq_true d22)), h_.2⟩)) ?_
      rintro _ w176 ⟨rfl, k177⟩
      have B178 := B12.all k177 id
      have B179 := B13.all k177 id
      have B180 := B7.all k177 id
      have K181 := K14.trans k177 (fun _ _ x => x.elim)
      refine wl_vw (.bool false) 2 false 13 rfl rfl rfl rfl rfl (y_not rfl rfl rfl ⟨rfl, rfl⟩) ?_
      refine wl_v (.bool false) rfl rfl (y_pickF rfl rfl rfl ⟨rfl, rfl⟩) ?_
      refine wl_v (.bool false) rfl rfl (y_mov rfl rfl ⟨rfl, rfl⟩) ?_
      refine wl_vw (.int .i64 (y)) 11 false 22 rfl rfl rfl rfl rfl (y_mov rfl s19 ⟨rfl, rfl⟩) ?_
      refine wl_vw (.pointer (some ⟨p, 0, none⟩)) 11 false 22 rfl rfl rfl rfl rfl (y_mov rfl s17 ⟨rfl, rfl⟩) ?_
      refine wl_vw (.pointer (some ⟨p, 0, none⟩)) 11 false 22 rfl rfl rfl rfl rfl (y_nilc rfl rfl ⟨rfl, rfl⟩) ?_
      refine wl_vw (.pointer (some ⟨p, 1, none⟩)) 11 false 22 rfl rfl rfl rfl rfl (y_fieldR (n := 1) rfl rfl Try.underlying67 rfl (by kernel_rfl) (by decide) rfl ⟨rfl, rfl⟩) ?_
      refine wl_vw (.int .i64 (f.h)) 11 false 22 rfl rfl rfl rfl rfl (y_ld_stc rfl rfl Try.underlying3 B178 rfl rfl ⟨rfl, rfl⟩) ?_
      refine wl_callw (R := fun v_ w_ => v_ = .bool false ∧ Kept (fun _ => False) w176 w_) 11 false 22 rfl rfl rfl rfl rfl (y_cs rfl rfl rfl (fun _ _ => by kernel_rfl) (ev_func _) (vsC rfl (vsC rfl vsN)) (vt_within (y) (f.h)  _   ) (fun e_ w_ h_ => ⟨_, h_.1, (congrArg Value.bool (decide_eq_false d23)), h_.2⟩)) ?_
      rintro _ w182 ⟨rfl, k183⟩
      have B184 := B178.all k183 id
      have B185 := B179.all k183 id
      have B186 := B180.all k183 id
      have K187 := K181.trans k183 (fun _ _ x => x.elim)
      refine wl_vw (.bool true) 11 false 22 rfl rfl rfl rfl rfl (y_not rfl rfl rfl ⟨rfl, rfl⟩) ?_
      refine wl_v (.bool true) rfl rfl (y_pickF rfl rfl rfl ⟨rfl, rfl⟩) ?_
      refine wl_nil fun F188 hF189 => ?_
      have s190 : F188 0 = .pointer (some ⟨p, 0, none⟩) := (hF189 0).trans s17
      have s191 : F188 1 = .int .i64 (x) := (hF189 1).trans s18
      have s192 : F188 2 = .int .i64 (y) := (hF189 2).trans s19
      have s193 : F188 53 = undef := (hF189 53).trans s20
      have s194 : F188 7 = .pointer (some ⟨p4, 0, none⟩) := (hF189 7).trans s21
      have s195 : F188 30 = .bool true := (hF189 30).trans rfl
      clear hF189
      refine then_normal ?_
      refine wq_cond (t := true) s195 (fun _ => ?_) (fun e => by cases e)
      refine wq_seq ?_
      have hno : ¬ inV f x y := by unfold inV; omega
      refine wq_region ?_
      refine wl_v (.int .i64 (1)) rfl rfl (y_asg rfl rfl ⟨rfl, rfl⟩) ?_
      refine wl_nil fun F196 hF197 => ?_
      have s198 : F196 53 = undef := (hF197 53).trans s193
      have s199 : F196 8 = .int .i64 (1) := (hF197 8).trans rfl
      clear hF197
      refine then_normal ?_
      refine wq_ret ?_
      refine then_ret ?_
      have B200 : Vpo w182 (fun i => (onB p) i ∨ ((onB c) i)) (.pointer (some ⟨p, 0, none⟩)) (some (setV f x y X Y)) := (by first | (rw [(set_yes hin hv).2]; exact ⟨_, rfl, _, fun i => Iff.rfl, B184, (B185).congr (fun a b => by first | exact lay_vfG f x y X Y a b | (rw [h0.1, h0.2]; exact lay_vfG f x y 0 0 a b)), ap3, okV_lay ok hin hv⟩) | (rw [(set_none hin hvn).2]; exact ⟨_, rfl, _, fun i => Iff.rfl, B184, B185, ap3, ok⟩) | (rw [(set_no hno).2]; exact ⟨_, rfl, _, fun i => Iff.rfl, B184, B185, ap3, ok⟩))
      have gr201 : Grew w0 (T_q) (fun i => (onB p) i ∨ ((onB c) i)) := fun i h => h.elim (fun y => gr1 i y) (fun y => gr2 i y)
      have ap202 : Apart (fun i => (onB p) i ∨ ((onB c) i)) (onB p4) := fun i h => h.elim (fun y => ((ap10).symm) i y) (fun y => ((ap11).symm) i y)
      exact end_tmp (v := .int .i64 (1)) s198 rfl rfl s199 ⟨(fun i => (onB p) i ∨ ((onB c) i)), (by first | rw [(set_yes hin hv).1] | rw [(set_none hin hvn).1, vecE_no hvn] | rw [(set_no hno).1]), K187, ⟨B200, gr201⟩⟩
  · skip
    refine wq_region ?_
    refine wl_v (.pointer (some ⟨p, 0, none⟩)) rfl rfl (y_mov rfl s17 ⟨rfl, rfl⟩) ?_
    refine wl_v (.bool false) rfl rfl (y_noNil rfl rfl rfl Try.underlying24 ⟨rfl, rfl⟩) ?_
    refine wl_v (.bool false) rfl rfl (y_mov rfl rfl ⟨rfl, rfl⟩) ?_
    refine wl_vw (.int .i64 (x)) 2 false 13 rfl rfl rfl rfl rfl (y_mov rfl s18 ⟨rfl, rfl⟩) ?_
    refine wl_vw (.pointer (some ⟨p, 0, none⟩)) 2 false 13 rfl rfl rfl rfl rfl (y_mov rfl s17 ⟨rfl, rfl⟩) ?_
    refine wl_vw (.pointer (some ⟨p, 0, none⟩)) 2 false 13 rfl rfl rfl rfl rfl (y_nilc rfl rfl ⟨rfl, rfl⟩) ?_
    refine wl_vw (.pointer (some ⟨p, 0, none⟩)) 2 false 13 rfl rfl rfl rfl rfl (y_fieldR (n := 1) rfl rfl Try.underlying67 rfl (by kernel_rfl) (by decide) rfl ⟨rfl, rfl⟩) ?_
    refine wl_vw (.int .i64 (f.w)) 2 false 13 rfl rfl rfl rfl rfl (y_ld_stc rfl rfl Try.underlying3 B12 rfl rfl ⟨rfl, rfl⟩) ?_
    refine wl_callw (R := fun v_ w_ => v_ = .bool false ∧ Kept (fun _ => False) w5 w_) 2 false 13 rfl rfl rfl rfl rfl (y_cs rfl rfl rfl (fun _ _ => by kernel_rfl) (ev_func _) (vsC rfl (vsC rfl vsN)) (vt_within (x) (f.w)  _   ) (fun e_ w_ h_ => ⟨_, h_.1, (congrArg Value.bool (decide_eq_false d22)), h_.2⟩)) ?_
    rintro _ w203 ⟨rfl, k204⟩
    have B205 := B12.all k204 id
    have B206 := B13.all k204 id
    have B207 := B7.all k204 id
    have K208 := K14.trans k204 (fun _ _ x => x.elim)
    refine wl_vw (.bool true) 2 false 13 rfl rfl rfl rfl rfl (y_not rfl rfl rfl ⟨rfl, rfl⟩) ?_
    refine wl_v (.bool true) rfl rfl (y_pickF rfl rfl rfl ⟨rfl, rfl⟩) ?_
    refine wl_v (.bool true) rfl rfl (y_mov rfl rfl ⟨rfl, rfl⟩) ?_
    refine wl_unless 11 false 22 rfl rfl rfl (Or.inl rfl) rfl ?_
    refine wl_unless 11 false 22 rfl rfl rfl (Or.inl rfl) rfl ?_
    refine wl_unless 11 false 22 rfl rfl rfl (Or.inl rfl) rfl ?_
    refine wl_unless 11 false 22 rfl rfl rfl (Or.inl rfl) rfl ?_
    refine wl_unless 11 false 22 rfl rfl rfl (Or.inl rfl) rfl ?_
    refine wl_unless 11 false 22 rfl rfl rfl (Or.inl rfl) rfl ?_
    refine wl_unless 11 false 22 rfl rfl rfl (Or.inl rfl) rfl ?_
    refine wl_v (.bool true) rfl rfl (y_pickT rfl rfl rfl ⟨rfl, rfl⟩) ?_
    refine wl_nil fun F209 hF210 => ?_
    have s211 : F209 0 = .pointer (some ⟨p, 0, none⟩) := (hF210 0).trans s17
    have s212 : F209 1 = .int .i64 (x) := (hF210 1).trans s18
    have s213 : F209 2 = .int .i64 (y) := (hF210 2).trans s19
    have s214 : F209 53 = undef := (hF210 53).trans s20
    have s215 : F209 7 = .pointer (some ⟨p4, 0, none⟩) := (hF210 7).trans s21
    have s216 : F209 30 = .bool true := (hF210 30).trans rfl
    clear hF210
    refine then_normal ?_
    refine wq_cond (t := true) s216 (fun _ => ?_) (fun e => by cases e)
    refine wq_seq ?_
    have hno : ¬ inV f x y := by unfold inV; omega
    refine wq_region ?_
    refine wl_v (.int .i64 (1)) rfl rfl (y_asg rfl rfl ⟨rfl, rfl⟩) ?_
    refine wl_nil fun F217 hF218 => ?_
    have s219 : F217 53 = undef := (hF218 53).trans s214
    have s220 : F217 8 = .int .i64 (1) := (hF218 8).trans rfl
    clear hF218
    refine then_normal ?_
    refine wq_ret ?_
    refine then_ret ?_
    have B221 : Vpo w203 (fun i => (onB p) i ∨ ((onB c) i)) (.pointer (some ⟨p, 0, none⟩)) (some (setV f x y X Y)) := (by first | (rw [(set_yes hin hv).2]; exact ⟨_, rfl, _, fun i => Iff.rfl, B205, (B206).congr (fun a b => by first | exact lay_vfG f x y X Y a b | (rw [h0.1, h0.2]; exact lay_vfG f x y 0 0 a b)), ap3, okV_lay ok hin hv⟩) | (rw [(set_none hin hvn).2]; exact ⟨_, rfl, _, fun i => Iff.rfl, B205, B206, ap3, ok⟩) | (rw [(set_no hno).2]; exact ⟨_, rfl, _, fun i => Iff.rfl, B205, B206, ap3, ok⟩))
    have gr222 : Grew w0 (T_q) (fun i => (onB p) i ∨ ((onB c) i)) := fun i h => h.elim (fun y => gr1 i y) (fun y => gr2 i y)
    have ap223 : Apart (fun i => (onB p) i ∨ ((onB c) i)) (onB p4) := fun i h => h.elim (fun y => ((ap10).symm) i y) (fun y => ((ap11).symm) i y)
    exact end_tmp (v := .int .i64 (1)) s219 rfl rfl s220 ⟨(fun i => (onB p) i ∨ ((onB c) i)), (by first | rw [(set_yes hin hv).1] | rw [(set_none hin hvn).1, vecE_no hvn] | rw [(set_no hno).1]), K208, ⟨B221, gr222⟩⟩
set_option maxHeartbeats 4000000 in
set_option maxRecDepth 100000 in
theorem vt_set0 (v : Value) (x y X Y : Int) (T_q : Nat → Prop) (w0 : World) (h_q : Vpo w0 T_q v (none)) :
    Calls Try.prog 13 #[v, .int .i64 (x), .int .i64 (y), .agg #[.int .i64 (X), .int .i64 (Y)]] w0 fun e w' => e = .returned (.int .i64 (1)) ∧ Kept (fun _ => False) w0 w' := by
  refine calls_wq (args := [v, .int .i64 (x), .int .i64 (y), .agg #[.int .i64 (X), .int .i64 (Y)]]) 53 Try.func13 rfl rfl (Nat.le_of_ble_eq_true rfl) ?_
  have K0 := Kept.refl (fun _ => False) w0
  have g_q := Grew.refl w0 T_q
  refine wq_seq ?_
  refine wq_region ?_
  refine wl_box_stc (vs := [.int .i64 (X), .int .i64 (Y)]) rfl rfl rfl rfl fun p1 w2 B4 g5 k3 => ?_
  have gr6 : Grew w0 noB (onB p1) := Grew.new K0 g5
  have ap7 : Apart (onB p1) (T_q) := Apart.new g5 (h_q).live
  have B8 := h_q.all k3 Apart.none
  have K9 := K0.trans k3 (fun _ _ x => x.elim)
  refine wl_v (.int .i64 (0)) rfl rfl (y_asg rfl rfl ⟨rfl, rfl⟩) ?_
  refine wl_nil fun F10 hF11 => ?_
  have s12 : F10 0 = v := (hF11 0).trans rfl
  have s13 : F10 1 = .int .i64 (x) := (hF11 1).trans rfl
  have s14 : F10 2 = .int .i64 (y) := (hF11 2).trans rfl
  have s15 : F10 53 = undef := (hF11 53).trans rfl
  have s16 : F10 7 = .pointer (some ⟨p1, 0, none⟩) := (hF11 7).trans rfl
  clear hF11
  refine then_normal ?_
  refine wq_seq ?_
  refine wq_seq ?_
  refine wq_region ?_
  refine wl_v (v) rfl rfl (y_mov rfl s12 ⟨rfl, rfl⟩) ?_
  refine wl_v (.bool true) rfl rfl (y_eqlNone rfl rfl rfl Try.underlying24 (B8).isnil (rfl) ⟨rfl, rfl⟩) ?_
  refine wl_v (.bool true) rfl rfl (y_mov rfl rfl ⟨rfl, rfl⟩) ?_
  refine wl_unless 2 false 13 rfl rfl rfl (Or.inl rfl) rfl ?_
  refine wl_unless 2 false 13 rfl rfl rfl (Or.inl rfl) rfl ?_
  refine wl_unless 2 false 13 rfl rfl rfl (Or.inl rfl) rfl ?_
  refine wl_unless 2 false 13 rfl rfl rfl (Or.inl rfl) rfl ?_
  refine wl_unless 2 false 13 rfl rfl rfl (Or.inl rfl) rfl ?_
  refine wl_unless 2 false 13 rfl rfl rfl (Or.inl rfl) rfl ?_
  refine wl_unless 2 false 13 rfl rfl rfl (Or.inl rfl) rfl ?_
  refine wl_v (.bool true) rfl rfl (y_pickT rfl rfl rfl ⟨rfl, rfl⟩) ?_
  refine wl_v (.bool true) rfl rfl (y_mov rfl rfl ⟨rfl, rfl⟩) ?_
  refine wl_unless 11 false 22 rfl rfl rfl (Or.inl rfl) rfl ?_
  refine wl_unless 11 false 22 rfl rfl rfl (Or.inl rfl) rfl ?_
  refine wl_unless 11 false 22 rfl rfl rfl (Or.inl rfl) rfl ?_
  refine wl_unless 11 false 22 rfl rfl rfl (Or.inl rfl) rfl ?_
  refine wl_unless 11 false 22 rfl rfl rfl (Or.inl rfl) rfl ?_
  refine wl_unless 11 false 22 rfl rfl rfl (Or.inl rfl) rfl ?_
  refine wl_unless 11 false 22 rfl rfl rfl (Or.inl rfl) rfl ?_
  refine wl_v (.bool true) rfl rfl (y_pickT rfl rfl rfl ⟨rfl, rfl⟩) ?_
  refine wl_nil fun F17 hF18 => ?_
  have s19 : F17 0 = v := (hF18 0).trans s12
  have s20 : F17 1 = .int .i64 (x) := (hF18 1).trans s13
  have s21 : F17 2 = .int .i64 (y) := (hF18 2).trans s14
  have s22 : F17 53 = undef := (hF18 53).trans s15
  have s23 : F17 7 = .pointer (some ⟨p1, 0, none⟩) := (hF18 7).trans s16
  have s24 : F17 30 = .bool true := (hF18 30).trans rfl
  clear hF18
  refine then_normal ?_
  refine wq_cond (t := true) s24 (fun _ => ?_) (fun e => by cases e)
  refine wq_seq ?_
  refine wq_region ?_
  refine wl_v (.int .i64 (1)) rfl rfl (y_asg rfl rfl ⟨rfl, rfl⟩) ?_
  refine wl_nil fun F25 hF26 => ?_
  have s27 : F25 53 = undef := (hF26 53).trans s22
  have s28 : F25 8 = .int .i64 (1) := (hF26 8).trans rfl
  clear hF26
  refine then_normal ?_
  refine wq_ret ?_
  refine then_ret ?_
  exact end_tmp (v := .int .i64 (1)) s27 rfl rfl s28 ⟨rfl, K9⟩
set_option maxHeartbeats 4000000 in
set_option maxRecDepth 100000 in
theorem vt_guess0 (v : Value) (x y : Int) (T_q : Nat → Prop) (w0 : World) (h_q : Vpo w0 T_q v (none)) :
    Calls Try.prog 15 #[v, .int .i64 (x), .int .i64 (y)] w0 fun e w' => e = .returned (.agg #[.int .i64 (0), .int .i64 (0)]) ∧ Kept (fun _ => False) w0 w' := by
  refine calls_wq (args := [v, .int .i64 (x), .int .i64 (y)]) 45 Try.func15 rfl rfl (Nat.le_of_ble_eq_true rfl) ?_
  have K0 := Kept.refl (fun _ => False) w0
  have g_q := Grew.refl w0 T_q
  refine wq_seq ?_
  refine wq_region ?_
  refine wl_alloc_stc (n := 2) (vs := [.int .i64 (0), .int .i64 (0)]) rfl rfl rfl (by kernel_rfl) fun p1 w2 B4 g5 k3 => ?_
  have gr6 : Grew w0 noB (onB p1) := Grew.new K0 g5
  have ap7 : Apart (onB p1) (T_q) := Apart.new g5 (h_q).live
  have B8 := h_q.all k3 Apart.none
  have K9 := K0.trans k3 (fun _ _ x => x.elim)
  refine wl_nil fun F10 hF11 => ?_
  have s12 : F10 0 = v := (hF11 0).trans rfl
  have s13 : F10 1 = .int .i64 (x) := (hF11 1).trans rfl
  have s14 : F10 2 = .int .i64 (y) := (hF11 2).trans rfl
  have s15 : F10 45 = undef := (hF11 45).trans rfl
  have s16 : F10 6 = .pointer (some ⟨p1, 0, none⟩) := (hF11 6).trans rfl
  clear hF11
  refine then_normal ?_
  refine wq_seq ?_
  refine wq_seq ?_
  refine wq_region ?_
  refine wl_v (v) rfl rfl (y_mov rfl s12 ⟨rfl, rfl⟩) ?_
  refine wl_v (.bool true) rfl rfl (y_eqlNone rfl rfl rfl Try.underlying24 (B8).isnil (rfl) ⟨rfl, rfl⟩) ?_
  refine wl_nil fun F17 hF18 => ?_
  have s19 : F17 0 = v := (hF18 0).trans s12
  have s20 : F17 1 = .int .i64 (x) := (hF18 1).trans s13
  have s21 : F17 2 = .int .i64 (y) := (hF18 2).trans s14
  have s22 : F17 45 = undef := (hF18 45).trans s15
  have s23 : F17 6 = .pointer (some ⟨p1, 0, none⟩) := (hF18 6).trans s16
  have s24 : F17 11 = .bool true := (hF18 11).trans rfl
  clear hF18
  refine then_normal ?_
  refine wq_cond (t := true) s24 (fun _ => ?_) (fun e => by cases e)
  refine wq_seq ?_
  refine wq_region ?_
  refine wl_v (.agg #[.int .i64 (0), .int .i64 (0)]) rfl rfl (y_buildL (l' := []) (cells := #[.int .i64 (0), .int .i64 (0)]) rfl bpN (by kernel_rfl) rfl ⟨rfl, rfl⟩) ?_
  refine wl_store_stc (us := [.int .i64 (0), .int .i64 (0)]) stcT_vector rfl rfl rfl s23 rfl B4 rfl (oneI rfl (oneI rfl oneN)) fun w25 B26 k27 => ?_
  have B28 := B8.all k27 (fun i h x => (((ap7).symm) i h x))
  have K29 := K9.trans k27 (Grew.ok (S := fun _ => False) gr6 noB_le)
  refine wl_nil fun F30 hF31 => ?_
  have s32 : F30 45 = undef := (hF31 45).trans s22
  have s33 : F30 6 = .pointer (some ⟨p1, 0, none⟩) := (hF31 6).trans s23
  clear hF31
  refine then_normal ?_
  refine wq_ret ?_
  refine then_ret ?_
  exact end_stc (vs := [.int .i64 (0), .int .i64 (0)]) stcT_vector s32 rfl rfl s33 B26 ⟨rfl, K29⟩
def dnI (x : Int) : Int := IntKind.i64.wrap (x - 1)
def upI (x : Int) : Int := IntKind.i64.wrap (x + 1)
theorem dnI_cases {x : Int} (h : inI x) : dnI x = x - 1 ∨ (x = -9223372036854775808 ∧ dnI x = 9223372036854775807) := by
  by_cases e : x = -9223372036854775808
  · subst e; exact Or.inr ⟨rfl, by decide⟩
  · exact Or.inl (by unfold dnI; unfold inI at h; rw [IntKind.wrap_i64]; omega)
theorem upI_cases {x : Int} (h : inI x) : upI x = x + 1 ∨ (x = 9223372036854775807 ∧ upI x = -9223372036854775808) := by
  by_cases e : x = 9223372036854775807
  · subst e; exact Or.inr ⟨rfl, by decide⟩
  · exact Or.inl (by unfold upI; unfold inI at h; rw [IntKind.wrap_i64]; omega)
theorem look_wrap {f : VF} (ok : OkV f) {a b a' b' : Int} (h : (a = a' ∧ b = b') ∨ (¬ inV f a b ∧ ¬ inV f a' b')) : f.X a b = f.X a' b' ∧ f.Y a b = f.Y a' b' := by
  rcases h with ⟨rfl, rfl⟩ | ⟨h1, h2⟩
  · exact ⟨rfl, rfl⟩
  · exact ⟨(ok.out _ _ h1).1.trans (ok.out _ _ h2).1.symm, (ok.out _ _ h1).2.trans (ok.out _ _ h2).2.symm⟩
theorem guess_wrap {f : VF} (ok : OkV f) {x y : Int} (hx : inI x) (hy : inI y) : med (f.X (dnI x) y) (f.X x (dnI y)) (f.X (upI x) (dnI y)) = gX f x y ∧ med (f.Y (dnI x) y) (f.Y x (dnI y)) (f.Y (upI x) (dnI y)) = gY f x y := by
  have hw := ok.w
  have hh := ok.h
  have c1 := dnI_cases hx
  have c2 := dnI_cases hy
  have c3 := upI_cases hx
  have a := look_wrap ok (a := dnI x) (b := y) (a' := x - 1) (b' := y) (by unfold inV; omega)
  have b := look_wrap ok (a := x) (b := dnI y) (a' := x) (b' := y - 1) (by unfold inV; omega)
  have c := look_wrap ok (a := upI x) (b := dnI y) (a' := x + 1) (b' := y - 1) (by unfold inV; omega)
  unfold gX gY
  rw [a.1, a.2, b.1, b.2, c.1, c.2]
  exact ⟨rfl, rfl⟩
set_option maxHeartbeats 4000000 in
set_option maxRecDepth 100000 in
theorem vt_guess1 (v : Value) (f : VF) (x y : Int) (T_q : Nat → Prop) (w0 : World) (hx : inI x) (hy : inI y) (h_q : Vpo w0 T_q v ((some f))) :
    Calls Try.prog 15 #[v, .int .i64 (x), .int .i64 (y)] w0 fun e w' => e = .returned (.agg #[.int .i64 (gX f x y), .int .i64 (gY f x y)]) ∧ Kept (fun _ => False) w0 w' := by
  refine calls_wq (args := [v, .int .i64 (x), .int .i64 (y)]) 45 Try.func15 rfl rfl (Nat.le_of_ble_eq_true rfl) ?_
  have K0 := Kept.refl (fun _ => False) w0
  have hgw := guess_wrap h_q.ok hx hy
  have g_q := Grew.refl w0 T_q
  obtain ⟨p, rfl, c, hT, hp, hr, hap, ok⟩ := h_q
  have gr1 : Grew w0 (T_q) (onB p) := fun i h => g_q i ((fun i h => (hT i).2 (Or.inl h)) i h)
  have gr2 : Grew w0 (T_q) (onB c) := fun i h => g_q i ((fun i h => (hT i).2 (Or.inr h)) i h)
  have ap3 : Apart (onB p) (onB c) := hap
  refine wq_seq ?_
  refine wq_region ?_
  refine wl_alloc_stc (n := 2) (vs := [.int .i64 (0), .int .i64 (0)]) rfl rfl rfl (by kernel_rfl) fun p4 w5 B7 g8 k6 => ?_
  have gr9 : Grew w0 noB (onB p4) := Grew.new K0 g8
  have ap10 : Apart (onB p4) (onB p) := Apart.new g8 (onB_live (hp).lt)
  have ap11 : Apart (onB p4) (onB c) := Apart.new g8 (onB_live (hr).lt)
  have B12 := hp.all k6 id
  have B13 := hr.all k6 id
  have K14 := K0.trans k6 (fun _ _ x => x.elim)
  refine wl_nil fun F15 hF16 => ?_
  have s17 : F15 0 = .pointer (some ⟨p, 0, none⟩) := (hF16 0).trans rfl
  have s18 : F15 1 = .int .i64 (x) := (hF16 1).trans rfl
  have s19 : F15 2 = .int .i64 (y) := (hF16 2).trans rfl
  have s20 : F15 45 = undef := (hF16 45).trans rfl
  have s21 : F15 6 = .pointer (some ⟨p4, 0, none⟩) := (hF16 6).trans rfl
  clear hF16
  refine then_normal ?_
  refine wq_seq ?_
  refine wq_seq ?_
  refine wq_region ?_
  refine wl_v (.pointer (some ⟨p, 0, none⟩)) rfl rfl (y_mov rfl s17 ⟨rfl, rfl⟩) ?_
  refine wl_v (.bool false) rfl rfl (y_noNil rfl rfl rfl Try.underlying24 ⟨rfl, rfl⟩) ?_
  refine wl_nil fun F22 hF23 => ?_
  have s24 : F22 0 = .pointer (some ⟨p, 0, none⟩) := (hF23 0).trans s17
  have s25 : F22 1 = .int .i64 (x) := (hF23 1).trans s18
  have s26 : F22 2 = .int .i64 (y) := (hF23 2).trans s19
  have s27 : F22 45 = undef := (hF23 45).trans s20
  have s28 : F22 6 = .pointer (some ⟨p4, 0, none⟩) := (hF23 6).trans s21
  have s29 : F22 11 = .bool false := (hF23 11).trans rfl
  clear hF23
  refine then_normal ?_
  refine wq_cond (t := false) s29 (fun e => by cases e) (fun _ => ?_)
  refine wq_skip ?_
  refine then_normal ?_
  refine wq_seq ?_
  refine wq_region ?_
  refine wl_v (.int .i64 (x)) rfl rfl (y_mov rfl s25 ⟨rfl, rfl⟩) ?_
  refine wl_v (.int .i64 (dnI x)) rfl rfl (y_sub rfl rfl rfl (rfl) ⟨rfl, rfl⟩) ?_
  refine wl_v (.int .i64 (y)) rfl rfl (y_mov rfl s26 ⟨rfl, rfl⟩) ?_
  refine wl_v (.agg #[.int .i64 (dnI x), .int .i64 (y)]) rfl rfl (y_buildL (l' := [(0, .int .i64 (dnI x)), (1, .int .i64 (y))]) (cells := #[.int .i64 (dnI x), .int .i64 (y)]) rfl (bpC rfl (bpC rfl bpN)) (by kernel_rfl) rfl ⟨rfl, rfl⟩) ?_
  refine wl_v (.int .i64 (x)) rfl rfl (y_mov rfl s25 ⟨rfl, rfl⟩) ?_
  refine wl_v (.int .i64 (y)) rfl rfl (y_mov rfl s26 ⟨rfl, rfl⟩) ?_
  refine wl_v (.int .i64 (dnI y)) rfl rfl (y_sub rfl rfl rfl (rfl) ⟨rfl, rfl⟩) ?_
  refine wl_v (.agg #[.int .i64 (x), .int .i64 (dnI y)]) rfl rfl (y_buildL (l' := [(0, .int .i64 (x)), (1, .int .i64 (dnI y))]) (cells := #[.int .i64 (x), .int .i64 (dnI y)]) rfl (bpC rfl (bpC rfl bpN)) (by kernel_rfl) rfl ⟨rfl, rfl⟩) ?_
  refine wl_v (.int .i64 (x)) rfl rfl (y_mov rfl s25 ⟨rfl, rfl⟩) ?_
  refine wl_v (.int .i64 (upI x)) rfl rfl (y_add rfl rfl rfl (rfl) ⟨rfl, rfl⟩) ?_
  refine wl_v (.int .i64 (y)) rfl rfl (y_mov rfl s26 ⟨rfl, rfl⟩) ?_
  refine wl_v (.int .i64 (dnI y)) rfl rfl (y_sub rfl rfl rfl (rfl) ⟨rfl, rfl⟩) ?_
  refine wl_v (.agg #[.int .i64 (upI x), .int .i64 (dnI y)]) rfl rfl (y_buildL (l' := [(0, .int .i64 (upI x)), (1, .int .i64 (dnI y))]) (cells := #[.int .i64 (upI x), .int .i64 (dnI y)]) rfl (bpC rfl (bpC rfl bpN)) (by kernel_rfl) rfl ⟨rfl, rfl⟩) ?_
  refine wl_alloc_stc (n := 2) (vs := [.int .i64 (0), .int .i64 (0)]) rfl rfl rfl (by kernel_rfl) fun p30 w31 B33 g34 k32 => ?_
  have gr35 : Grew w0 noB (onB p30) := Grew.new K14 g34
  have ap36 : Apart (onB p30) (onB p) := Apart.new g34 (onB_live (B12).lt)
  have ap37 : Apart (onB p30) (onB c) := Apart.new g34 (onB_live (B13).lt)
  have ap38 : Apart (onB p30) (onB p4) := Apart.new g34 (onB_live (B7).lt)
  have B39 := B12.all k32 id
  have B40 := B13.all k32 id
  have B41 := B7.all k32 id
  have K42 := K14.trans k32 (fun _ _ x => x.elim)
  refine wl_alloc_stc (n := 2) (vs := [.int .i64 (0), .int .i64 (0)]) rfl rfl rfl (by kernel_rfl) fun p43 w44 B46 g47 k45 => ?_
  have gr48 : Grew w0 noB (onB p43) := Grew.new K42 g47
  have ap49 : Apart (onB p43) (onB p) := Apart.new g47 (onB_live (B39).lt)
  have ap50 : Apart (onB p43) (onB c) := Apart.new g47 (onB_live (B40).lt)
  have ap51 : Apart (onB p43) (onB p4) := Apart.new g47 (onB_live (B41).lt)
  have ap52 : Apart (onB p43) (onB p30) := Apart.new g47 (onB_live (B33).lt)
  have B53 := B39.all k45 id
  have B54 := B40.all k45 id
  have B55 := B41.all k45 id
  have B56 := B33.all k45 id
  have K57 := K42.trans k45 (fun _ _ x => x.elim)
  refine wl_alloc_stc (n := 2) (vs := [.int .i64 (0), .int .i64 (0)]) rfl rfl rfl (by kernel_rfl) fun p58 w59 B61 g62 k60 => ?_
  have gr63 : Grew w0 noB (onB p58) := Grew.new K57 g62
  have ap64 : Apart (onB p58) (onB p) := Apart.new g62 (onB_live (B53).lt)
  have ap65 : Apart (onB p58) (onB c) := Apart.new g62 (onB_live (B54).lt)
  have ap66 : Apart (onB p58) (onB p4) := Apart.new g62 (onB_live (B55).lt)
  have ap67 : Apart (onB p58) (onB p30) := Apart.new g62 (onB_live (B56).lt)
  have ap68 : Apart (onB p58) (onB p43) := Apart.new g62 (onB_live (B46).lt)
  have B69 := B53.all k60 id
  have B70 := B54.all k60 id
  have B71 := B55.all k60 id
  have B72 := B56.all k60 id
  have B73 := B46.all k60 id
  have K74 := K57.trans k60 (fun _ _ x => x.elim)
  refine wl_store_stc (us := [.int .i64 (dnI x), .int .i64 (y)]) stcT_place rfl rfl rfl rfl rfl B72 rfl (oneI rfl (oneI rfl oneN)) fun w75 B76 k77 => ?_
  have B78 := B69.all k77 (fun x => (((ap36).symm) p rfl x))
  have B79 := B70.all k77 (fun x => (((ap37).symm) c rfl x))
  have B80 := B71.all k77 (fun x => (((ap38).symm) p4 rfl x))
  have B81 := B73.all k77 (fun x => ((ap52) p43 rfl x))
  have B82 := B61.all k77 (fun x => ((ap67) p58 rfl x))
  have K83 := K74.trans k77 (Grew.ok (S := fun _ => False) gr35 noB_le)
  refine wl_store_stc (us := [.int .i64 (x), .int .i64 (dnI y)]) stcT_place rfl rfl rfl rfl rfl B81 rfl (oneI rfl (oneI rfl oneN)) fun w84 B85 k86 => ?_
  have B87 := B78.all k86 (fun x => (((ap49).symm) p rfl x))
  have B88 := B79.all k86 (fun x => (((ap50).symm) c rfl x))
  have B89 := B80.all k86 (fun x => (((ap51).symm) p4 rfl x))
  have B90 := B76.all k86 (fun x => (((ap52).symm) p30 rfl x))
  have B91 := B82.all k86 (fun x => ((ap68) p58 rfl x))
  have K92 := K83.trans k86 (Grew.ok (S := fun _ => False) gr48 noB_le)
  refine wl_store_stc (us := [.int .i64 (upI x), .int .i64 (dnI y)]) stcT_place rfl rfl rfl rfl rfl B91 rfl (oneI rfl (oneI rfl oneN)) fun w93 B94 k95 => ?_
  have B96 := B87.all k95 (fun x => (((ap64).symm) p rfl x))
  have B97 := B88.all k95 (fun x => (((ap65).symm) c rfl x))
  have B98 := B89.all k95 (fun x => (((ap66).symm) p4 rfl x))
  have B99 := B90.all k95 (fun x => (((ap67).symm) p30 rfl x))
  have B100 := B85.all k95 (fun x => (((ap68).symm) p43 rfl x))
  have K101 := K92.trans k95 (Grew.ok (S := fun _ => False) gr63 noB_le)
  refine wl_nil fun F102 hF103 => ?_
  have s104 : F102 0 = .pointer (some ⟨p, 0, none⟩) := (hF103 0).trans s24
  have s105 : F102 45 = undef := (hF103 45).trans s27
  have s106 : F102 6 = .pointer (some ⟨p4, 0, none⟩) := (hF103 6).trans s28
  have s107 : F102 7 = .pointer (some ⟨p30, 0, none⟩) := (hF103 7).trans rfl
  have s108 : F102 8 = .pointer (some ⟨p43, 0, none⟩) := (hF103 8).trans rfl
  have s109 : F102 9 = .pointer (some ⟨p58, 0, none⟩) := (hF103 9).trans rfl
  clear hF103
  refine then_normal ?_
  refine wq_seq ?_
  refine wq_tail 19 [some 26, some 27, some 28, some 29, some 30, some 31, some 32, some 33, some 34, some 35, some 36, some 37, some 38, some 39, some 40, some 41, some 42, some 43, some 44] [Pd.eq (.pointer (some ⟨p, 0, none⟩)), Pd.eq (.pointer (some ⟨p, 0, none⟩)), Pd.eq (.pointer (some ⟨p, 2, none⟩)), Pd.eq (.map (some c)), Pd.eq (.agg #[.int .i64 (dnI x), .int .i64 (y)]), Pd.eq (.agg #[.int .i64 (((vfG f) (dnI x) (y)).1), .int .i64 (((vfG f) (dnI x) (y)).2)]), Pd.eq (.pointer (some ⟨p, 0, none⟩)), Pd.eq (.pointer (some ⟨p, 0, none⟩)), Pd.eq (.pointer (some ⟨p, 2, none⟩)), Pd.eq (.map (some c)), Pd.eq (.agg #[.int .i64 (x), .int .i64 (dnI y)]), Pd.eq (.agg #[.int .i64 (((vfG f) (x) (dnI y)).1), .int .i64 (((vfG f) (x) (dnI y)).2)]), Pd.eq (.pointer (some ⟨p, 0, none⟩)), Pd.eq (.pointer (some ⟨p, 0, none⟩)), Pd.eq (.pointer (some ⟨p, 2, none⟩)), Pd.eq (.map (some c)), Pd.eq (.agg #[.int .i64 (upI x), .int .i64 (dnI y)]), Pd.eq (.agg #[.int .i64 (((vfG f) (upI x) (dnI y)).1), .int .i64 (((vfG f) (upI x) (dnI y)).2)]), Pd.eq (.agg #[.int .i64 (med (((vfG f) (dnI x) (y)).1) (((vfG f) (x) (dnI y)).1) (((vfG f) (upI x) (dnI y)).1)), .int .i64 (med (((vfG f) (dnI x) (y)).2) (((vfG f) (x) (dnI y)).2) (((vfG f) (upI x) (dnI y)).2))])] (by kernel_rfl) (by kernel_rfl) (by kernel_rfl) ?_ ?_
  · refine stepsF_cons ?_ ?_
    · refine StepF.one rfl fun F_ w_ hR hout hD => ?_
      exact (y_mov rfl ((hout 0 rfl (by decide)).trans s104) ⟨rfl, Kept.refl _ _⟩)
    refine stepsF_cons ?_ ?_
    · refine StepF.one rfl fun F_ w_ hR hout hD => ?_
      have g26 : F_ 26 = .pointer (some ⟨p, 0, none⟩) := (hD.get 0 rfl rfl rfl)
      exact (y_nilc rfl g26 ⟨rfl, Kept.refl _ _⟩)
    refine stepsF_cons ?_ ?_
    · refine StepF.one rfl fun F_ w_ hR hout hD => ?_
      have g27 : F_ 27 = .pointer (some ⟨p, 0, none⟩) := (hD.get 0 rfl rfl rfl)
      exact (y_fieldR (n := 1) rfl g27 Try.underlying67 rfl (by kernel_rfl) (by decide) rfl ⟨rfl, Kept.refl _ _⟩)
    refine stepsF_cons ?_ ?_
    · refine StepF.one rfl fun F_ w_ hR hout hD => ?_
      have g28 : F_ 28 = .pointer (some ⟨p, 2, none⟩) := (hD.get 0 rfl rfl rfl)
      exact (y_ld_stc rfl g28 Try.underlying65 (B96.all hR id) rfl rfl ⟨rfl, Kept.refl _ _⟩)
    refine stepsF_cons ?_ ?_
    · refine StepF.one rfl fun F_ w_ hR hout hD => ?_
      exact (y_load_stc stcT_place rfl ((hout 7 rfl (by decide)).trans s107) (B99.all hR id) ⟨rfl, Kept.refl _ _⟩)
    refine stepsF_cons ?_ ?_
    · refine StepF.one rfl fun F_ w_ hR hout hD => ?_
      have g29 : F_ 29 = .map (some c) := (hD.get 0 rfl rfl rfl)
      have g30 : F_ 30 = .agg #[.int .i64 (dnI x), .int .i64 (y)] := (hD.get 1 rfl rfl rfl)
      exact (y_look2 (a := dnI x) (b := y) twoK_place Try.underlying65 (by kernel_rfl) rfl g29 g30 (B97.all hR id) ⟨rfl, Kept.refl _ _⟩)
    refine stepsF_cons ?_ ?_
    · refine StepF.one rfl fun F_ w_ hR hout hD => ?_
      exact (y_mov rfl ((hout 0 rfl (by decide)).trans s104) ⟨rfl, Kept.refl _ _⟩)
    refine stepsF_cons ?_ ?_
    · refine StepF.one rfl fun F_ w_ hR hout hD => ?_
      have g32 : F_ 32 = .pointer (some ⟨p, 0, none⟩) := (hD.get 0 rfl rfl rfl)
      exact (y_nilc rfl g32 ⟨rfl, Kept.refl _ _⟩)
    refine stepsF_cons ?_ ?_
    · refine StepF.one rfl fun F_ w_ hR hout hD => ?_
      have g33 : F_ 33 = .pointer (some ⟨p, 0, none⟩) := (hD.get 0 rfl rfl rfl)
      exact (y_fieldR (n := 1) rfl g33 Try.underlying67 rfl (by kernel_rfl) (by decide) rfl ⟨rfl, Kept.refl _ _⟩)
    refine stepsF_cons ?_ ?_
    · refine StepF.one rfl fun F_ w_ hR hout hD => ?_
      have g34 : F_ 34 = .pointer (some ⟨p, 2, none⟩) := (hD.get 0 rfl rfl rfl)
      exact (y_ld_stc rfl g34 Try.underlying65 (B96.all hR id) rfl rfl ⟨rfl, Kept.refl _ _⟩)
    refine stepsF_cons ?_ ?_
    · refine StepF.one rfl fun F_ w_ hR hout hD => ?_
      exact (y_load_stc stcT_place rfl ((hout 8 rfl (by decide)).trans s108) (B100.all hR id) ⟨rfl, Kept.refl _ _⟩)
    refine stepsF_cons ?_ ?_
    · refine StepF.one rfl fun F_ w_ hR hout hD => ?_
      have g35 : F_ 35 = .map (some c) := (hD.get 0 rfl rfl rfl)
      have g36 : F_ 36 = .agg #[.int .i64 (x), .int .i64 (dnI y)] := (hD.get 1 rfl rfl rfl)
      exact (y_look2 (a := x) (b := dnI y) twoK_place Try.underlying65 (by kernel_rfl) rfl g35 g36 (B97.all hR id) ⟨rfl, Kept.refl _ _⟩)
    refine stepsF_cons ?_ ?_
    · refine StepF.one rfl fun F_ w_ hR hout hD => ?_
      exact (y_mov rfl ((hout 0 rfl (by decide)).trans s104) ⟨rfl, Kept.refl _ _⟩)
    refine stepsF_cons ?_ ?_
    · refine StepF.one rfl fun F_ w_ hR hout hD => ?_
      have g38 : F_ 38 = .pointer (some ⟨p, 0, none⟩) := (hD.get 0 rfl rfl rfl)
      exact (y_nilc rfl g38 ⟨rfl, Kept.refl _ _⟩)
    refine stepsF_cons ?_ ?_
    · refine StepF.one rfl fun F_ w_ hR hout hD => ?_
      have g39 : F_ 39 = .pointer (some ⟨p, 0, none⟩) := (hD.get 0 rfl rfl rfl)
      exact (y_fieldR (n := 1) rfl g39 Try.underlying67 rfl (by kernel_rfl) (by decide) rfl ⟨rfl, Kept.refl _ _⟩)
    refine stepsF_cons ?_ ?_
    · refine StepF.one rfl fun F_ w_ hR hout hD => ?_
      have g40 : F_ 40 = .pointer (some ⟨p, 2, none⟩) := (hD.get 0 rfl rfl rfl)
      exact (y_ld_stc rfl g40 Try.underlying65 (B96.all hR id) rfl rfl ⟨rfl, Kept.refl _ _⟩)
    refine stepsF_cons ?_ ?_
    · refine StepF.one rfl fun F_ w_ hR hout hD => ?_
      exact (y_load_stc stcT_place rfl ((hout 9 rfl (by decide)).trans s109) (B94.all hR id) ⟨rfl, Kept.refl _ _⟩)
    refine stepsF_cons ?_ ?_
    · refine StepF.one rfl fun F_ w_ hR hout hD => ?_
      have g41 : F_ 41 = .map (some c) := (hD.get 0 rfl rfl rfl)
      have g42 : F_ 42 = .agg #[.int .i64 (upI x), .int .i64 (dnI y)] := (hD.get 1 rfl rfl rfl)
      exact (y_look2 (a := upI x) (b := dnI y) twoK_place Try.underlying65 (by kernel_rfl) rfl g41 g42 (B97.all hR id) ⟨rfl, Kept.refl _ _⟩)
    refine stepsF_cons ?_ ?_
    · refine StepF.one rfl fun F_ w_ hR hout hD => ?_
      have g31 : F_ 31 = .agg #[.int .i64 (((vfG f) (dnI x) (y)).1), .int .i64 (((vfG f) (dnI x) (y)).2)] := (hD.get 0 rfl rfl rfl)
      have g37 : F_ 37 = .agg #[.int .i64 (((vfG f) (x) (dnI y)).1), .int .i64 (((vfG f) (x) (dnI y)).2)] := (hD.get 1 rfl rfl rfl)
      have g43 : F_ 43 = .agg #[.int .i64 (((vfG f) (upI x) (dnI y)).1), .int .i64 (((vfG f) (upI x) (dnI y)).2)] := (hD.get 2 rfl rfl rfl)
      exact (y_cs rfl rfl rfl (fun _ _ => by kernel_rfl) (ev_func _) (vsC g31 (vsC g37 (vsC g43 vsN))) (vt_median (((vfG f) (dnI x) (y)).1) (((vfG f) (dnI x) (y)).2) (((vfG f) (x) (dnI y)).1) (((vfG f) (x) (dnI y)).2) (((vfG f) (upI x) (dnI y)).1) (((vfG f) (upI x) (dnI y)).2)  _   ) (fun e_ w_ h_ => ⟨_, h_.1, rfl, h_.2⟩))
    exact stepsF_nil
  intro v110 F111 w112 k113 G114 hF115
  have B117 := B96.all k113 id
  have B118 := B97.all k113 id
  have B119 := B98.all k113 id
  have B120 := B99.all k113 id
  have B121 := B100.all k113 id
  have B122 := B94.all k113 id
  have K123 := K101.trans k113 (fun _ _ x => x.elim)
  have s124 : F111 45 = undef := (hF115 45).trans s105
  have s125 : F111 6 = .pointer (some ⟨p4, 0, none⟩) := (hF115 6).trans s106
  have s126 : F111 44 = .agg #[.int .i64 (med (((vfG f) (dnI x) (y)).1) (((vfG f) (x) (dnI y)).1) (((vfG f) (upI x) (dnI y)).1)), .int .i64 (med (((vfG f) (dnI x) (y)).2) (((vfG f) (x) (dnI y)).2) (((vfG f) (upI x) (dnI y)).2))] := (hF115 44).trans (G114 18 (by decide))
  clear G114 hF115
  refine wl_store_stc (us := [.int .i64 (med (((vfG f) (dnI x) (y)).1) (((vfG f) (x) (dnI y)).1) (((vfG f) (upI x) (dnI y)).1)), .int .i64 (med (((vfG f) (dnI x) (y)).2) (((vfG f) (x) (dnI y)).2) (((vfG f) (upI x) (dnI y)).2))]) stcT_vector rfl rfl rfl s125 s126 B119 rfl (oneI rfl (oneI rfl oneN)) fun w127 B128 k129 => ?_
  have B130 := B117.all k129 (fun x => (((ap10).symm) p rfl x))
  have B131 := B118.all k129 (fun x => (((ap11).symm) c rfl x))
  have B132 := B120.all k129 (fun x => ((ap38) p30 rfl x))
  have B133 := B121.all k129 (fun x => ((ap51) p43 rfl x))
  have B134 := B122.all k129 (fun x => ((ap66) p58 rfl x))
  have K135 := K123.trans k129 (Grew.ok (S := fun _ => False) gr9 noB_le)
  refine wl_nil fun F136 hF137 => ?_
  have s138 : F136 45 = undef := (hF137 45).trans s124
  have s139 : F136 6 = .pointer (some ⟨p4, 0, none⟩) := (hF137 6).trans s125
  clear hF137
  refine then_normal ?_
  refine wq_ret ?_
  exact end_stc (vs := [.int .i64 (med (((vfG f) (dnI x) (y)).1) (((vfG f) (x) (dnI y)).1) (((vfG f) (upI x) (dnI y)).1)), .int .i64 (med (((vfG f) (dnI x) (y)).2) (((vfG f) (x) (dnI y)).2) (((vfG f) (upI x) (dnI y)).2))]) stcT_vector s138 rfl rfl s139 B128 ⟨(by first | rfl | exact congrArg _ (by rw [← hgw.1, ← hgw.2]; rfl)), K135⟩
theorem vt_set (v : Value) (o : Option VF) (x y X Y : Int) (T_q : Nat → Prop) (w0 : World) (_hx : inI x) (_hy : inI y) (h_q : Vpo w0 T_q v o) :
    Calls Try.prog 13 #[v, .int .i64 x, .int .i64 y, .agg #[.int .i64 X, .int .i64 Y]] w0 fun e w' => ∃ (T_q' : Nat → Prop), e = .returned (.int .i64 (setO o x y X Y)) ∧ Kept (T_q) w0 w' ∧ (Vpo w' T_q' v (putO o x y X Y) ∧ Grew w0 T_q T_q') := by
  cases o with
  | some f => exact vt_set1 v f x y X Y T_q w0 h_q
  | none =>
    refine (vt_set0 v x y X Y T_q w0 h_q).mono fun e w' ⟨he, kk⟩ => ?_
    obtain ⟨rfl, rfl⟩ := h_q
    exact ⟨noB, he, kk, ⟨rfl, rfl⟩, Grew.refl _ _⟩
theorem vt_guess (v : Value) (o : Option VF) (x y : Int) (T_q : Nat → Prop) (w0 : World) (hx : inI x) (hy : inI y) (h_q : Vpo w0 T_q v o) :
    Calls Try.prog 15 #[v, .int .i64 x, .int .i64 y] w0 fun e w' => e = .returned (.agg #[.int .i64 (gOX o x y), .int .i64 (gOY o x y)]) ∧ Kept (fun _ => False) w0 w' := by
  cases o with
  | some f => exact vt_guess1 v f x y T_q w0 hx hy h_q
  | none => exact vt_guess0 v x y T_q w0 h_q
end Go.Proofs.Ythhagejcgobfgaa
namespace Go.Proofs.Ythhagejcgobfgaa
open Go.RowKit

def o1 : Option VF := putO (optV 2 2) 0 0 4 2
def o2 : Option VF := putO o1 1 0 6 (-2)
def b10 : List Bool := vecBits 3 (-1) 1 0
set_option maxRecDepth 100000 in
theorem awake10 : newVE 2 2 = 0 ∧ setO (optV 2 2) 0 0 4 2 = 0 ∧ gOX o2 0 1 = 4 ∧ gOY o2 0 1 = 0 ∧ setO o2 2 0 0 0 = 1 ∧ setO (putO o2 2 0 0 0) 0 0 32 0 = 90 ∧ newVE 0 1 = 1 ∧ b10.length = 8 := by
  refine ⟨?_, ?_, ?_, ?_, ?_, ?_, ?_, ?_⟩ <;> decide +kernel
set_option maxRecDepth 100000 in
theorem awake10r : vrX (pack b10) 1 0 (some 0) = 3 ∧ vrY (pack b10) 1 0 (some 0) = -1 ∧ vrE (pack b10) 1 0 (some 0) = 0 ∧ med 1 3 2 = 2 ∧ med 5 3 9 = 5 := by
  refine ⟨?_, ?_, ?_, ?_, ?_⟩ <;> decide +kernel

set_option maxHeartbeats 4000000 in
set_option maxRecDepth 100000 in
theorem vawake_any (w0 : World) :
    Calls Try.prog 10 #[] w0 fun e w' => e = .returned (.bool true) ∧ Kept (fun _ => False) w0 w' := by
  refine calls_wq (args := []) 87 Try.func10 rfl rfl (Nat.le_of_ble_eq_true rfl) ?_
  have K0 := Kept.refl (fun _ => False) w0
  have hf := Lib.hid awake10
  have hg := Lib.hid awake10r
  obtain ⟨b0, hb0⟩ : ∃ b0, b0 = b10 := ⟨_, rfl⟩
  have hlen : b0.length = 8 := by rw [hb0]; exact hf.out.2.2.2.2.2.2.2
  refine wq_seq ?_
  refine wq_region ?_
  refine wl_v (.bool false) rfl rfl (y_asg rfl rfl ⟨rfl, rfl⟩) ?_
  refine wl_nil fun F1 hF2 => ?_
  have s3 : F1 87 = undef := (hF2 87).trans rfl
  clear hF2
  refine then_normal ?_
  refine wq_seq ?_
  refine wq_region ?_
  refine wl_call (R := fun v_ w_ => ∃ (v4 : Value) (T7 : Nat → Prop), .tuple #[v4, .int .i64 (newVE (2) (2))] = v_ ∧ Kept (fun _ => False) w0 w_ ∧ (Vpo w_ T7 v4 ((optV (2) (2))) ∧ Grew w0 noB T7)) rfl rfl (y_cs rfl rfl rfl (fun _ _ => by kernel_rfl) (ev_func _) (vsC rfl (vsC rfl vsN)) (vt_new (2) (2)  _   ) (fun e_ w_ h_ => by obtain ⟨v4_, T7_, he_, hr_⟩ := h_; exact ⟨_, he_, v4_, T7_, rfl, hr_⟩)) ?_
  rintro _ w5 ⟨v4, T7, rfl, k6, ⟨B8, g9⟩⟩
  have K10 := K0.trans k6 (fun _ _ x => x.elim)
  have gr11 : Grew w0 noB (T7) := Grew.new K0 g9
  refine wl_v (.tuple #[v4, .int .i64 (newVE (2) (2))]) rfl rfl (y_mov rfl rfl ⟨rfl, rfl⟩) ?_
  refine wl_v (v4) rfl rfl (y_ext rfl rfl rfl ⟨rfl, rfl⟩) ?_
  refine wl_v (.int .i64 (newVE (2) (2))) rfl rfl (y_ext rfl rfl rfl ⟨rfl, rfl⟩) ?_
  refine wl_v (v4) rfl rfl (y_asg rfl rfl ⟨rfl, rfl⟩) ?_
  refine wl_v (.int .i64 (newVE (2) (2))) rfl rfl (y_asg rfl rfl ⟨rfl, rfl⟩) ?_
  refine wl_nil fun F12 hF13 => ?_
  have s14 : F12 87 = undef := (hF13 87).trans s3
  have s15 : F12 1 = v4 := (hF13 1).trans rfl
  have s16 : F12 2 = .int .i64 (newVE (2) (2)) := (hF13 2).trans rfl
  clear hF13
  refine then_normal ?_
  refine wq_seq ?_
  refine wq_region ?_
  refine wl_v (v4) rfl rfl (y_mov rfl s15 ⟨rfl, rfl⟩) ?_
  refine wl_v (.agg #[.int .i64 (4), .int .i64 (2)]) rfl rfl (y_buildL (l' := [(0, .int .i64 (4)), (1, .int .i64 (2))]) (cells := #[.int .i64 (4), .int .i64 (2)]) rfl (bpC rfl (bpC rfl bpN)) (by kernel_rfl) rfl ⟨rfl, rfl⟩) ?_
  refine wl_call (R := fun v_ w_ => ∃ (T19 : Nat → Prop), .int .i64 (setO ((optV (2) (2))) (0) (0) (4) (2)) = v_ ∧ Kept (T7) w5 w_ ∧ (Vpo w_ T19 v4 ((putO ((optV (2) (2))) (0) (0) (4) (2))) ∧ Grew w5 (T7) T19)) rfl rfl (y_cs rfl rfl rfl (fun _ _ => by kernel_rfl) (ev_func _) (vsC rfl (vsC rfl (vsC rfl (vsC rfl vsN)))) (vt_set (v4) ((optV (2) (2))) (0) (0) (4) (2) (T7) _ (by unfold inI; omega) (by unfold inI; omega) B8 ) (fun e_ w_ h_ => by obtain ⟨T19_, he_, hr_⟩ := h_; exact ⟨_, he_, T19_, rfl, hr_⟩)) ?_
  rintro _ w17 ⟨T19, rfl, k18, ⟨B20, g21⟩⟩
  have K22 := K10.trans k18 (fun i hi x => ((Grew.ok (S := fun _ => False) gr11 noB_le) i hi x))
  have gr23 := gr11.trans K10 g21
  refine wl_v (.int .i64 (setO ((optV (2) (2))) (0) (0) (4) (2))) rfl rfl (y_asg rfl rfl ⟨rfl, rfl⟩) ?_
  refine wl_nil fun F24 hF25 => ?_
  have s26 : F24 87 = undef := (hF25 87).trans s14
  have s27 : F24 1 = v4 := (hF25 1).trans s15
  have s28 : F24 2 = .int .i64 (newVE (2) (2)) := (hF25 2).trans s16
  have s29 : F24 3 = .int .i64 (setO ((optV (2) (2))) (0) (0) (4) (2)) := (hF25 3).trans rfl
  clear hF25
  refine then_normal ?_
  refine wq_seq ?_
  refine wq_region ?_
  refine wl_v (v4) rfl rfl (y_mov rfl s27 ⟨rfl, rfl⟩) ?_
  refine wl_v (.agg #[.int .i64 (6), .int .i64 (-2)]) rfl rfl (y_buildL (l' := [(0, .int .i64 (6)), (1, .int .i64 (-2))]) (cells := #[.int .i64 (6), .int .i64 (-2)]) rfl (bpC rfl (bpC rfl bpN)) (by kernel_rfl) rfl ⟨rfl, rfl⟩) ?_
  refine wl_call (R := fun v_ w_ => ∃ (T32 : Nat → Prop), .int .i64 (setO ((putO ((optV (2) (2))) (0) (0) (4) (2))) (1) (0) (6) (-2)) = v_ ∧ Kept (T19) w17 w_ ∧ (Vpo w_ T32 v4 ((putO ((putO ((optV (2) (2))) (0) (0) (4) (2))) (1) (0) (6) (-2))) ∧ Grew w17 (T19) T32)) rfl rfl (y_cs rfl rfl rfl (fun _ _ => by kernel_rfl) (ev_func _) (vsC rfl (vsC rfl (vsC rfl (vsC rfl vsN)))) (vt_set (v4) ((putO ((optV (2) (2))) (0) (0) (4) (2))) (1) (0) (6) (-2) (T19) _ (by unfold inI; omega) (by unfold inI; omega) B20 ) (fun e_ w_ h_ => by obtain ⟨T32_, he_, hr_⟩ := h_; exact ⟨_, he_, T32_, rfl, hr_⟩)) ?_
  rintro _ w30 ⟨T32, rfl, k31, ⟨B33, g34⟩⟩
  have K35 := K22.trans k31 (fun i hi x => ((Grew.ok (S := fun _ => False) gr23 noB_le) i hi x))
  have gr36 := gr23.trans K22 g34
  refine wl_nil fun F37 hF38 => ?_
  have s39 : F37 87 = undef := (hF38 87).trans s26
  have s40 : F37 1 = v4 := (hF38 1).trans s27
  have s41 : F37 2 = .int .i64 (newVE (2) (2)) := (hF38 2).trans s28
  have s42 : F37 3 = .int .i64 (setO ((optV (2) (2))) (0) (0) (4) (2)) := (hF38 3).trans s29
  clear hF38
  refine then_normal ?_
  refine wq_seq ?_
  refine wq_region ?_
  refine wl_v (.agg #[.slice none 0 0, .int .i64 0]) rfl rfl (y_buildR (cells := #[.slice none 0 0, .int .i64 0]) rfl (by kernel_rfl) rfl ⟨rfl, rfl⟩) ?_
  refine wl_box_wri rfl rfl rfl rfl fun p43 w44 T48 B47 g49 k45 => ?_
  have gr50 : Grew w0 noB (T48) := Grew.new K35 g49
  have ap51 : Apart (T48) (T32) := Apart.new g49 (B33).live
  have B52 := B33.all k45 Apart.none
  have K53 := K35.trans k45 (fun _ _ x => x.elim)
  refine wl_v (.pointer (some ⟨p43, 0, none⟩)) rfl rfl (y_asg rfl rfl ⟨rfl, rfl⟩) ?_
  refine wl_nil fun F54 hF55 => ?_
  have s56 : F54 87 = undef := (hF55 87).trans s39
  have s57 : F54 1 = v4 := (hF55 1).trans s40
  have s58 : F54 2 = .int .i64 (newVE (2) (2)) := (hF55 2).trans s41
  have s59 : F54 3 = .int .i64 (setO ((optV (2) (2))) (0) (0) (4) (2)) := (hF55 3).trans s42
  have s60 : F54 4 = .pointer (some ⟨p43, 0, none⟩) := (hF55 4).trans rfl
  clear hF55
  refine then_normal ?_
  refine wq_seq ?_
  refine wq_region ?_
  refine wl_v (.pointer (some ⟨p43, 0, none⟩)) rfl rfl (y_mov rfl s60 ⟨rfl, rfl⟩) ?_
  refine wl_v (.agg #[.int .i64 (3), .int .i64 (-1)]) rfl rfl (y_buildL (l' := [(0, .int .i64 (3)), (1, .int .i64 (-1))]) (cells := #[.int .i64 (3), .int .i64 (-1)]) rfl (bpC rfl (bpC rfl bpN)) (by kernel_rfl) rfl ⟨rfl, rfl⟩) ?_
  refine wl_v (.agg #[.int .i64 (1), .int .i64 (0)]) rfl rfl (y_buildL (l' := [(0, .int .i64 (1))]) (cells := #[.int .i64 (1), .int .i64 (0)]) rfl (bpC rfl bpN) (by kernel_rfl) rfl ⟨rfl, rfl⟩) ?_
  refine wl_call (R := fun v_ w_ => ∃ (T63 : Nat → Prop), .tuple #[] = v_ ∧ Kept (T48) w44 w_ ∧ (Wri w_ T63 p43 ((([] : List Bool)) ++ vecBits (3) (-1) (1) (0)) ∧ Grew w44 (T48) T63)) rfl rfl (y_cs rfl rfl rfl (fun _ _ => by kernel_rfl) (ev_func _) (vsC rfl (vsC rfl (vsC rfl vsN))) (vt_write (p43) (([] : List Bool)) (3) (-1) (1) (0) (T48) _ (by simp) B47 ) (fun e_ w_ h_ => by obtain ⟨T63_, he_, hr_⟩ := h_; exact ⟨_, he_, T63_, rfl, hr_⟩)) ?_
  rintro _ w61 ⟨T63, rfl, k62, ⟨B64, g65⟩⟩
  have B66 := B52.all k62 (fun i h x => (((ap51).symm) i h x))
  have K67 := K53.trans k62 (fun i hi x => ((Grew.ok (S := fun _ => False) gr50 noB_le) i hi x))
  have gr68 := gr50.trans K53 g65
  have ap69 : Apart T63 (T32) := (ap51).grew g65 (B52).live
  refine wl_nil fun F70 hF71 => ?_
  have s72 : F70 87 = undef := (hF71 87).trans s56
  have s73 : F70 1 = v4 := (hF71 1).trans s57
  have s74 : F70 2 = .int .i64 (newVE (2) (2)) := (hF71 2).trans s58
  have s75 : F70 3 = .int .i64 (setO ((optV (2) (2))) (0) (0) (4) (2)) := (hF71 3).trans s59
  have s76 : F70 4 = .pointer (some ⟨p43, 0, none⟩) := (hF71 4).trans s60
  clear hF71
  refine then_normal ?_
  refine wq_seq ?_
  have B77 : Wri w61 (T63) p43 (b0) := ((by rw [hb0]; exact B64))
  refine wq_region ?_
  refine wl_v (.pointer (some ⟨p43, 0, none⟩)) rfl rfl (y_mov rfl s76 ⟨rfl, rfl⟩) ?_
  refine wl_call (R := fun v_ w_ => ∃ (v78 : Value) (T81 : Nat → Prop), v78 = v_ ∧ Kept (fun _ => False) w61 w_ ∧ (Byt w_ T81 v78 (pack (b0)) ∧ Grew w61 noB T81)) rfl rfl (y_cs rfl rfl rfl (fun _ _ => by kernel_rfl) (ev_func _) (vsC rfl vsN) (t_bytes (p43) (b0) (T63) _ (by omega) B77 ) (fun e_ w_ h_ => by obtain ⟨v78_, T81_, he_, hr_⟩ := h_; exact ⟨_, he_, v78_, T81_, rfl, hr_⟩)) ?_
  rintro _ w79 ⟨v78, T81, rfl, k80, ⟨B82, g83⟩⟩
  have B84 := B66.all k80 Apart.none
  have B85 := B77.all k80 Apart.none
  have K86 := K67.trans k80 (fun _ _ x => x.elim)
  have gr87 : Grew w0 noB (T81) := Grew.new K67 g83
  have ap88 : Apart (T81) (T32) := Apart.new g83 (B66).live
  have ap89 : Apart (T81) (T63) := Apart.new g83 (B77).live
  refine wl_call (R := fun v_ w_ => ∃ (v90 : Nat) (T93 : Nat → Prop), .pointer (some ⟨v90, 0, none⟩) = v_ ∧ Kept (fun _ => False) w79 w_ ∧ (Rdi w_ T93 v90 ((pack (b0))) (some 0) ∧ Grew w79 noB T93)) rfl rfl (y_cs rfl rfl rfl (fun _ _ => by kernel_rfl) (ev_func _) (vsC rfl vsN) (t_new (v78) (pack (b0)) (T81) _ (by rw [pack_length]; unfold nbytes; omega) B82 ) (fun e_ w_ h_ => by obtain ⟨v90_, T93_, he_, hr_⟩ := h_; exact ⟨_, he_, v90_, T93_, rfl, hr_⟩)) ?_
  rintro _ w91 ⟨v90, T93, rfl, k92, ⟨B94, g95⟩⟩
  have B96 := B84.all k92 Apart.none
  have B97 := B85.all k92 Apart.none
  have B98 := B82.all k92 Apart.none
  have K99 := K86.trans k92 (fun _ _ x => x.elim)
  have gr100 : Grew w0 noB (T93) := Grew.new K86 g95
  have ap101 : Apart (T93) (T32) := Apart.new g95 (B84).live
  have ap102 : Apart (T93) (T63) := Apart.new g95 (B85).live
  have ap103 : Apart (T93) (T81) := Apart.new g95 (B82).live
  refine wl_v (.agg #[.int .i64 (1), .int .i64 (0)]) rfl rfl (y_buildL (l' := [(0, .int .i64 (1))]) (cells := #[.int .i64 (1), .int .i64 (0)]) rfl (bpC rfl bpN) (by kernel_rfl) rfl ⟨rfl, rfl⟩) ?_
  refine wl_call (R := fun v_ w_ => ∃ (T106 : Nat → Prop), .tuple #[.agg #[.int .i64 (vrX ((pack (b0))) (1) (0) (some 0)), .int .i64 (vrY ((pack (b0))) (1) (0) (some 0))], .int .i64 (vrE ((pack (b0))) (1) (0) (some 0))] = v_ ∧ Kept (T93) w91 w_ ∧ (Rdi w_ T106 v90 (((pack (b0)))) (vrT ((pack (b0))) (1) (0) (some 0)) ∧ Grew w91 (T93) T106)) rfl rfl (y_cs rfl rfl rfl (fun _ _ => by kernel_rfl) (ev_func _) (vsC rfl (vsC rfl vsN)) (vt_read (v90) ((pack (b0))) (some 0) (1) (0) (T93) _  B94 ) (fun e_ w_ h_ => by obtain ⟨T106_, he_, hr_⟩ := h_; exact ⟨_, he_, T106_, rfl, hr_⟩)) ?_
  rintro _ w104 ⟨T106, rfl, k105, ⟨B107, g108⟩⟩
  have B109 := B96.all k105 (fun i h x => (((ap101).symm) i h x))
  have B110 := B97.all k105 (fun i h x => (((ap102).symm) i h x))
  have B111 := B98.all k105 (fun i h x => (((ap103).symm) i h x))
  have K112 := K99.trans k105 (fun i hi x => ((Grew.ok (S := fun _ => False) gr100 noB_le) i hi x))
  have gr113 := gr100.trans K99 g108
  have ap114 : Apart T106 (T32) := (ap101).grew g108 (B96).live
  have ap115 : Apart T106 (T63) := (ap102).grew g108 (B97).live
  have ap116 : Apart T106 (T81) := (ap103).grew g108 (B98).live
  refine wl_v (.tuple #[.agg #[.int .i64 (vrX ((pack (b0))) (1) (0) (some 0)), .int .i64 (vrY ((pack (b0))) (1) (0) (some 0))], .int .i64 (vrE ((pack (b0))) (1) (0) (some 0))]) rfl rfl (y_mov rfl rfl ⟨rfl, rfl⟩) ?_
  refine wl_v (.agg #[.int .i64 (vrX ((pack (b0))) (1) (0) (some 0)), .int .i64 (vrY ((pack (b0))) (1) (0) (some 0))]) rfl rfl (y_ext rfl rfl rfl ⟨rfl, rfl⟩) ?_
  refine wl_v (.int .i64 (vrE ((pack (b0))) (1) (0) (some 0))) rfl rfl (y_ext rfl rfl rfl ⟨rfl, rfl⟩) ?_
  refine wl_alloc_stc (n := 2) (vs := [.int .i64 (0), .int .i64 (0)]) rfl rfl rfl (by kernel_rfl) fun p117 w118 B120 g121 k119 => ?_
  have gr122 : Grew w0 noB (onB p117) := Grew.new K112 g121
  have ap123 : Apart (onB p117) (T32) := Apart.new g121 (B109).live
  have ap124 : Apart (onB p117) (T63) := Apart.new g121 (B110).live
  have ap125 : Apart (onB p117) (T81) := Apart.new g121 (B111).live
  have ap126 : Apart (onB p117) (T106) := Apart.new g121 (B107).live
  have B127 := B109.all k119 Apart.none
  have B128 := B110.all k119 Apart.none
  have B129 := B111.all k119 Apart.none
  have B130 := B107.all k119 Apart.none
  have K131 := K112.trans k119 (fun _ _ x => x.elim)
  refine wl_store_stc (us := [.int .i64 (vrX ((pack (b0))) (1) (0) (some 0)), .int .i64 (vrY ((pack (b0))) (1) (0) (some 0))]) stcT_vector rfl rfl rfl rfl rfl B120 rfl (oneI rfl (oneI rfl oneN)) fun w132 B133 k134 => ?_
  have B135 := B127.all k134 (fun i h x => (((ap123).symm) i h x))
  have B136 := B128.all k134 (fun i h x => (((ap124).symm) i h x))
  have B137 := B129.all k134 (fun i h x => (((ap125).symm) i h x))
  have B138 := B130.all k134 (fun i h x => (((ap126).symm) i h x))
  have K139 := K131.trans k134 (Grew.ok (S := fun _ => False) gr122 noB_le)
  refine wl_v (.int .i64 (vrE ((pack (b0))) (1) (0) (some 0))) rfl rfl (y_asg rfl rfl ⟨rfl, rfl⟩) ?_
  refine wl_nil fun F140 hF141 => ?_
  have s142 : F140 87 = undef := (hF141 87).trans s72
  have s143 : F140 1 = v4 := (hF141 1).trans s73
  have s144 : F140 2 = .int .i64 (newVE (2) (2)) := (hF141 2).trans s74
  have s145 : F140 3 = .int .i64 (setO ((optV (2) (2))) (0) (0) (4) (2)) := (hF141 3).trans s75
  have s146 : F140 4 = .pointer (some ⟨p43, 0, none⟩) := (hF141 4).trans s76
  have s147 : F140 5 = .pointer (some ⟨p117, 0, none⟩) := (hF141 5).trans rfl
  have s148 : F140 6 = .int .i64 (vrE ((pack (b0))) (1) (0) (some 0)) := (hF141 6).trans rfl
  clear hF141
  refine then_normal ?_
  refine wq_seq ?_
  refine wq_region ?_
  refine wl_call (R := fun v_ w_ => ∃ (v149 : Value) (T152 : Nat → Prop), .tuple #[v149, .int .i64 (newVE (0) (1))] = v_ ∧ Kept (fun _ => False) w132 w_ ∧ (Vpo w_ T152 v149 ((optV (0) (1))) ∧ Grew w132 noB T152)) rfl rfl (y_cs rfl rfl rfl (fun _ _ => by kernel_rfl) (ev_func _) (vsC rfl (vsC rfl vsN)) (vt_new (0) (1)  _   ) (fun e_ w_ h_ => by obtain ⟨v149_, T152_, he_, hr_⟩ := h_; exact ⟨_, he_, v149_, T152_, rfl, hr_⟩)) ?_
  rintro _ w150 ⟨v149, T152, rfl, k151, ⟨B153, g154⟩⟩
  have B155 := B135.all k151 Apart.none
  have B156 := B136.all k151 Apart.none
  have B157 := B137.all k151 Apart.none
  have B158 := B138.all k151 Apart.none
  have B159 := B133.all k151 id
  have K160 := K139.trans k151 (fun _ _ x => x.elim)
  have gr161 : Grew w0 noB (T152) := Grew.new K139 g154
  have ap162 : Apart (T152) (T32) := Apart.new g154 (B135).live
  have ap163 : Apart (T152) (T63) := Apart.new g154 (B136).live
  have ap164 : Apart (T152) (T81) := Apart.new g154 (B137).live
  have ap165 : Apart (T152) (T106) := Apart.new g154 (B138).live
  have ap166 : Apart (T152) (onB p117) := Apart.new g154 (onB_live (B133).lt)
  refine wl_v (.tuple #[v149, .int .i64 (newVE (0) (1))]) rfl rfl (y_mov rfl rfl ⟨rfl, rfl⟩) ?_
  refine wl_v (v149) rfl rfl (y_ext rfl rfl rfl ⟨rfl, rfl⟩) ?_
  refine wl_v (.int .i64 (newVE (0) (1))) rfl rfl (y_ext rfl rfl rfl ⟨rfl, rfl⟩) ?_
  refine wl_v (v149) rfl rfl (y_asg rfl rfl ⟨rfl, rfl⟩) ?_
  refine wl_v (.int .i64 (newVE (0) (1))) rfl rfl (y_asg rfl rfl ⟨rfl, rfl⟩) ?_
  refine wl_nil fun F167 hF168 => ?_
  have s169 : F167 87 = undef := (hF168 87).trans s142
  have s170 : F167 1 = v4 := (hF168 1).trans s143
  have s171 : F167 2 = .int .i64 (newVE (2) (2)) := (hF168 2).trans s144
  have s172 : F167 3 = .int .i64 (setO ((optV (2) (2))) (0) (0) (4) (2)) := (hF168 3).trans s145
  have s173 : F167 4 = .pointer (some ⟨p43, 0, none⟩) := (hF168 4).trans s146
  have s174 : F167 5 = .pointer (some ⟨p117, 0, none⟩) := (hF168 5).trans s147
  have s175 : F167 6 = .int .i64 (vrE ((pack (b0))) (1) (0) (some 0)) := (hF168 6).trans s148
  have s176 : F167 8 = .int .i64 (newVE (0) (1)) := (hF168 8).trans rfl
  clear hF168
  refine then_normal ?_
  refine wq_seq ?_
  refine wq_region ?_
  refine wl_v (.int .i64 (newVE (2) (2))) rfl rfl (y_mov rfl s171 ⟨rfl, rfl⟩) ?_
  refine wl_v (.bool true) rfl rfl (y_eqlI rfl rfl rfl (decide_eq_true hf.out.1) ⟨rfl, rfl⟩) ?_
  refine wl_v (.bool true) rfl rfl (y_mov rfl rfl ⟨rfl, rfl⟩) ?_
  refine wl_vw (.int .i64 (setO ((optV (2) (2))) (0) (0) (4) (2))) 2 true 39 rfl rfl rfl rfl rfl (y_mov rfl s172 ⟨rfl, rfl⟩) ?_
  refine wl_vw (.bool true) 2 true 39 rfl rfl rfl rfl rfl (y_eqlI rfl rfl rfl (decide_eq_true hf.out.2.1) ⟨rfl, rfl⟩) ?_
  refine wl_v (.bool true) rfl rfl (y_pickT rfl rfl rfl ⟨rfl, rfl⟩) ?_
  refine wl_v (.bool true) rfl rfl (y_mov rfl rfl ⟨rfl, rfl⟩) ?_
  refine wl_vw (v4) 6 true 43 rfl rfl rfl rfl rfl (y_mov rfl s170 ⟨rfl, rfl⟩) ?_
  refine wl_callw (R := fun v_ w_ => v_ = .agg #[.int .i64 (gOX ((putO ((putO ((optV (2) (2))) (0) (0) (4) (2))) (1) (0) (6) (-2))) (0) (1)), .int .i64 (gOY ((putO ((putO ((optV (2) (2))) (0) (0) (4) (2))) (1) (0) (6) (-2))) (0) (1))] ∧ Kept (fun _ => False) w150 w_) 6 true 43 rfl rfl rfl rfl rfl (y_cs rfl rfl rfl (fun _ _ => by kernel_rfl) (ev_func _) (vsC rfl (vsC rfl (vsC rfl vsN))) (vt_guess (v4) ((putO ((putO ((optV (2) (2))) (0) (0) (4) (2))) (1) (0) (6) (-2))) (0) (1) (T32) _ (by unfold inI; omega) (by unfold inI; omega) B155 ) (fun e_ w_ h_ => ⟨_, h_.1, rfl, h_.2⟩)) ?_
  rintro _ w177 ⟨rfl, k178⟩
  have B179 := B155.all k178 Apart.none
  have B180 := B156.all k178 Apart.none
  have B181 := B157.all k178 Apart.none
  have B182 := B158.all k178 Apart.none
  have B183 := B159.all k178 id
  have B184 := B153.all k178 Apart.none
  have K185 := K160.trans k178 (fun _ _ x => x.elim)
  refine wl_vw (.agg #[.int .i64 (4), .int .i64 (0)]) 6 true 43 rfl rfl rfl rfl rfl (y_buildL (l' := [(0, .int .i64 (4))]) (cells := #[.int .i64 (4), .int .i64 (0)]) rfl (bpC rfl bpN) (by kernel_rfl) rfl ⟨rfl, rfl⟩) ?_
  refine wl_vw (.bool true) 6 true 43 rfl rfl rfl rfl rfl (y_eqlVec rfl rfl rfl ((by have e1 := hf.out.2.2.1; have e2 := hf.out.2.2.2.1; unfold o2 o1 at e1 e2; rw [e1, e2]; rfl)) ⟨rfl, rfl⟩) ?_
  refine wl_v (.bool true) rfl rfl (y_pickT rfl rfl rfl ⟨rfl, rfl⟩) ?_
  refine wl_v (.bool true) rfl rfl (y_mov rfl rfl ⟨rfl, rfl⟩) ?_
  refine wl_vw (v4) 12 true 49 rfl rfl rfl rfl rfl (y_mov rfl s170 ⟨rfl, rfl⟩) ?_
  refine wl_vw (.agg #[.int .i64 (0), .int .i64 (0)]) 12 true 49 rfl rfl rfl rfl rfl (y_buildL (l' := []) (cells := #[.int .i64 (0), .int .i64 (0)]) rfl bpN (by kernel_rfl) rfl ⟨rfl, rfl⟩) ?_
  refine wl_callw (R := fun v_ w_ => ∃ (T188 : Nat → Prop), .int .i64 (setO ((putO ((putO ((optV (2) (2))) (0) (0) (4) (2))) (1) (0) (6) (-2))) (2) (0) (0) (0)) = v_ ∧ Kept (T32) w177 w_ ∧ (Vpo w_ T188 v4 ((putO ((putO ((putO ((optV (2) (2))) (0) (0) (4) (2))) (1) (0) (6) (-2))) (2) (0) (0) (0))) ∧ Grew w177 (T32) T188)) 12 true 49 rfl rfl rfl rfl rfl (y_cs rfl rfl rfl (fun _ _ => by kernel_rfl) (ev_func _) (vsC rfl (vsC rfl (vsC rfl (vsC rfl vsN)))) (vt_set (v4) ((putO ((putO ((optV (2) (2))) (0) (0) (4) (2))) (1) (0) (6) (-2))) (2) (0) (0) (0) (T32) _ (by unfold inI; omega) (by unfold inI; omega) B179 ) (fun e_ w_ h_ => by obtain ⟨T188_, he_, hr_⟩ := h_; exact ⟨_, he_, T188_, rfl, hr_⟩)) ?_
  rintro _ w186 ⟨T188, rfl, k187, ⟨B189, g190⟩⟩
  have B191 := B180.all k187 (fun i h x => ((ap69) i h x))
  have B192 := B181.all k187 (fun i h x => ((ap88) i h x))
  have B193 := B182.all k187 (fun i h x => ((ap114) i h x))
  have B194 := B183.all k187 (fun x => ((ap123) p117 rfl x))
  have B195 := B184.all k187 (fun i h x => ((ap162) i h x))
  have K196 := K185.trans k187 (fun i hi x => ((Grew.ok (S := fun _ => False) gr36 noB_le) i hi x))
  have gr197 := gr36.trans K185 g190
  have ap198 : Apart T188 (T63) := ((ap69).symm).grew g190 (B180).live
  have ap199 : Apart T188 (T81) := ((ap88).symm).grew g190 (B181).live
  have ap200 : Apart T188 (T106) := ((ap114).symm).grew g190 (B182).live
  have ap201 : Apart T188 (onB p117) := ((ap123).symm).grew g190 (onB_live (B183).lt)
  have ap202 : Apart T188 (T152) := ((ap162).symm).grew g190 (B184).live
  refine wl_vw (.bool true) 12 true 49 rfl rfl rfl rfl rfl (y_eqlI rfl rfl rfl (decide_eq_true hf.out.2.2.2.2.1) ⟨rfl, rfl⟩) ?_
  refine wl_v (.bool true) rfl rfl (y_pickT rfl rfl rfl ⟨rfl, rfl⟩) ?_
  refine wl_v (.bool true) rfl rfl (y_mov rfl rfl ⟨rfl, rfl⟩) ?_
  refine wl_vw (v4) 18 true 55 rfl rfl rfl rfl rfl (y_mov rfl s170 ⟨rfl, rfl⟩) ?_
  refine wl_vw (.agg #[.int .i64 (32), .int .i64 (0)]) 18 true 55 rfl rfl rfl rfl rfl (y_buildL (l' := [(0, .int .i64 (32))]) (cells := #[.int .i64 (32), .int .i64 (0)]) rfl (bpC rfl bpN) (by kernel_rfl) rfl ⟨rfl, rfl⟩) ?_
  refine wl_callw (R := fun v_ w_ => ∃ (T205 : Nat → Prop), .int .i64 (setO ((putO ((putO ((putO ((optV (2) (2))) (0) (0) (4) (2))) (1) (0) (6) (-2))) (2) (0) (0) (0))) (0) (0) (32) (0)) = v_ ∧ Kept (T188) w186 w_ ∧ (Vpo w_ T205 v4 ((putO ((putO ((putO ((putO ((optV (2) (2))) (0) (0) (4) (2))) (1) (0) (6) (-2))) (2) (0) (0) (0))) (0) (0) (32) (0))) ∧ Grew w186 (T188) T205)) 18 true 55 rfl rfl rfl rfl rfl (y_cs rfl rfl rfl (fun _ _ => by kernel_rfl) (ev_func _) (vsC rfl (vsC rfl (vsC rfl (vsC rfl vsN)))) (vt_set (v4) ((putO ((putO ((putO ((optV (2) (2))) (0) (0) (4) (2))) (1) (0) (6) (-2))) (2) (0) (0) (0))) (0) (0) (32) (0) (T188) _ (by unfold inI; omega) (by unfold inI; omega) B189 ) (fun e_ w_ h_ => by obtain ⟨T205_, he_, hr_⟩ := h_; exact ⟨_, he_, T205_, rfl, hr_⟩)) ?_
  rintro _ w203 ⟨T205, rfl, k204, ⟨B206, g207⟩⟩
  have B208 := B191.all k204 (fun i h x => (((ap198).symm) i h x))
  have B209 := B192.all k204 (fun i h x => (((ap199).symm) i h x))
  have B210 := B193.all k204 (fun i h x => (((ap200).symm) i h x))
  have B211 := B194.all k204 (fun x => (((ap201).symm) p117 rfl x))
  have B212 := B195.all k204 (fun i h x => (((ap202).symm) i h x))
  have K213 := K196.trans k204 (fun i hi x => ((Grew.ok (S := fun _ => False) gr197 noB_le) i hi x))
  have gr214 := gr197.trans K196 g207
  have ap215 : Apart T205 (T63) := (ap198).grew g207 (B191).live
  have ap216 : Apart T205 (T81) := (ap199).grew g207 (B192).live
  have ap217 : Apart T205 (T106) := (ap200).grew g207 (B193).live
  have ap218 : Apart T205 (onB p117) := (ap201).grew g207 (onB_live (B194).lt)
  have ap219 : Apart T205 (T152) := (ap202).grew g207 (B195).live
  refine wl_vw (.bool true) 18 true 55 rfl rfl rfl rfl rfl (y_eqlI rfl rfl rfl (decide_eq_true hf.out.2.2.2.2.2.1) ⟨rfl, rfl⟩) ?_
  refine wl_v (.bool true) rfl rfl (y_pickT rfl rfl rfl ⟨rfl, rfl⟩) ?_
  refine wl_v (.bool true) rfl rfl (y_mov rfl rfl ⟨rfl, rfl⟩) ?_
  refine wl_vw (.agg #[.int .i64 (vrX ((pack (b0))) (1) (0) (some 0)), .int .i64 (vrY ((pack (b0))) (1) (0) (some 0))]) 24 true 61 rfl rfl rfl rfl rfl (y_load_stc stcT_vector rfl s174 B211 ⟨rfl, rfl⟩) ?_
  refine wl_vw (.agg #[.int .i64 (3), .int .i64 (-1)]) 24 true 61 rfl rfl rfl rfl rfl (y_buildL (l' := [(0, .int .i64 (3)), (1, .int .i64 (-1))]) (cells := #[.int .i64 (3), .int .i64 (-1)]) rfl (bpC rfl (bpC rfl bpN)) (by kernel_rfl) rfl ⟨rfl, rfl⟩) ?_
  refine wl_vw (.bool true) 24 true 61 rfl rfl rfl rfl rfl (y_eqlVec rfl rfl rfl ((by rw [hb0, hg.out.1, hg.out.2.1]; rfl)) ⟨rfl, rfl⟩) ?_
  refine wl_v (.bool true) rfl rfl (y_pickT rfl rfl rfl ⟨rfl, rfl⟩) ?_
  refine wl_v (.bool true) rfl rfl (y_mov rfl rfl ⟨rfl, rfl⟩) ?_
  refine wl_vw (.int .i64 (vrE ((pack (b0))) (1) (0) (some 0))) 29 true 66 rfl rfl rfl rfl rfl (y_mov rfl s175 ⟨rfl, rfl⟩) ?_
  refine wl_vw (.bool true) 29 true 66 rfl rfl rfl rfl rfl (y_eqlI rfl rfl rfl (decide_eq_true (by rw [hb0]; exact hg.out.2.2.1)) ⟨rfl, rfl⟩) ?_
  refine wl_v (.bool true) rfl rfl (y_pickT rfl rfl rfl ⟨rfl, rfl⟩) ?_
  refine wl_v (.bool true) rfl rfl (y_mov rfl rfl ⟨rfl, rfl⟩) ?_
  refine wl_vw (.int .i64 (newVE (0) (1))) 33 true 70 rfl rfl rfl rfl rfl (y_mov rfl s176 ⟨rfl, rfl⟩) ?_
  refine wl_vw (.bool true) 33 true 70 rfl rfl rfl rfl rfl (y_eqlI rfl rfl rfl (decide_eq_true hf.out.2.2.2.2.2.2.1) ⟨rfl, rfl⟩) ?_
  refine wl_v (.bool true) rfl rfl (y_pickT rfl rfl rfl ⟨rfl, rfl⟩) ?_
  refine wl_v (.bool true) rfl rfl (y_mov rfl rfl ⟨rfl, rfl⟩) ?_
  refine wl_vw (.agg #[.int .i64 (1), .int .i64 (5)]) 37 true 74 rfl rfl rfl rfl rfl (y_buildL (l' := [(0, .int .i64 (1)), (1, .int .i64 (5))]) (cells := #[.int .i64 (1), .int .i64 (5)]) rfl (bpC rfl (bpC rfl bpN)) (by kernel_rfl) rfl ⟨rfl, rfl⟩) ?_
  refine wl_vw (.agg #[.int .i64 (3), .int .i64 (3)]) 37 true 74 rfl rfl rfl rfl rfl (y_buildL (l' := [(0, .int .i64 (3)), (1, .int .i64 (3))]) (cells := #[.int .i64 (3), .int .i64 (3)]) rfl (bpC rfl (bpC rfl bpN)) (by kernel_rfl) rfl ⟨rfl, rfl⟩) ?_
  refine wl_vw (.agg #[.int .i64 (2), .int .i64 (9)]) 37 true 74 rfl rfl rfl rfl rfl (y_buildL (l' := [(0, .int .i64 (2)), (1, .int .i64 (9))]) (cells := #[.int .i64 (2), .int .i64 (9)]) rfl (bpC rfl (bpC rfl bpN)) (by kernel_rfl) rfl ⟨rfl, rfl⟩) ?_
  refine wl_callw (R := fun v_ w_ => v_ = .agg #[.int .i64 (med (1) (3) (2)), .int .i64 (med (5) (3) (9))] ∧ Kept (fun _ => False) w203 w_) 37 true 74 rfl rfl rfl rfl rfl (y_cs rfl rfl rfl (fun _ _ => by kernel_rfl) (ev_func _) (vsC rfl (vsC rfl (vsC rfl vsN))) (vt_median (1) (5) (3) (3) (2) (9)  _   ) (fun e_ w_ h_ => ⟨_, h_.1, rfl, h_.2⟩)) ?_
  rintro _ w220 ⟨rfl, k221⟩
  have B222 := B206.all k221 Apart.none
  have B223 := B208.all k221 Apart.none
  have B224 := B209.all k221 Apart.none
  have B225 := B210.all k221 Apart.none
  have B226 := B211.all k221 id
  have B227 := B212.all k221 Apart.none
  have K228 := K213.trans k221 (fun _ _ x => x.elim)
  refine wl_vw (.agg #[.int .i64 (2), .int .i64 (5)]) 37 true 74 rfl rfl rfl rfl rfl (y_buildL (l' := [(0, .int .i64 (2)), (1, .int .i64 (5))]) (cells := #[.int .i64 (2), .int .i64 (5)]) rfl (bpC rfl (bpC rfl bpN)) (by kernel_rfl) rfl ⟨rfl, rfl⟩) ?_
  refine wl_vw (.bool true) 37 true 74 rfl rfl rfl rfl rfl (y_eqlVec rfl rfl rfl ((by rw [hg.out.2.2.2.1, hg.out.2.2.2.2]; rfl)) ⟨rfl, rfl⟩) ?_
  refine wl_v (.bool true) rfl rfl (y_pickT rfl rfl rfl ⟨rfl, rfl⟩) ?_
  refine wl_v (.bool true) rfl rfl (y_mov rfl rfl ⟨rfl, rfl⟩) ?_
  refine wl_vw (.pointer (some ⟨p43, 0, none⟩)) 45 true 82 rfl rfl rfl rfl rfl (y_mov rfl s173 ⟨rfl, rfl⟩) ?_
  refine wl_callw (R := fun v_ w_ => v_ = .int .i64 ((((b0).length : Nat) : Int)) ∧ Kept (fun _ => False) w220 w_) 45 true 82 rfl rfl rfl rfl rfl (y_cs rfl rfl rfl (fun _ _ => by kernel_rfl) (ev_func _) (vsC rfl vsN) (t_many (p43) (b0) (T63) _  B223 ) (fun e_ w_ h_ => ⟨_, h_.1, rfl, h_.2⟩)) ?_
  rintro _ w229 ⟨rfl, k230⟩
  have B231 := B222.all k230 Apart.none
  have B232 := B223.all k230 Apart.none
  have B233 := B224.all k230 Apart.none
  have B234 := B225.all k230 Apart.none
  have B235 := B226.all k230 id
  have B236 := B227.all k230 Apart.none
  have K237 := K228.trans k230 (fun _ _ x => x.elim)
  refine wl_vw (.bool true) 45 true 82 rfl rfl rfl rfl rfl (y_eqlI rfl rfl rfl (decide_eq_true (by rw [hlen]; rfl)) ⟨rfl, rfl⟩) ?_
  refine wl_v (.bool true) rfl rfl (y_pickT rfl rfl rfl ⟨rfl, rfl⟩) ?_
  refine wl_v (.bool true) rfl rfl (y_asg rfl rfl ⟨rfl, rfl⟩) ?_
  refine wl_nil fun F238 hF239 => ?_
  have s240 : F238 87 = undef := (hF239 87).trans s169
  have s241 : F238 0 = .bool true := (hF239 0).trans rfl
  clear hF239
  refine then_normal ?_
  refine wq_ret ?_
  exact end_tmp (v := .bool true) s240 rfl rfl s241 ⟨rfl, K237⟩

end Go.Proofs.Ythhagejcgobfgaa
namespace Go.Proofs.Ythhagejcgobfgaa
open Go.RowKit

structure Lay4 where
  x : Int
  y : Int
  X : Int
  Y : Int
def rLay : RowT Lay4 := { t := 22, e := 35, k := 4, by_ := 32, enc := fun q => [.int .i64 q.x, .int .i64 q.y, .int .i64 q.X, .int .i64 q.Y], d := ⟨0, 0, 0, 0⟩, z := .agg #[.int .i64 0, .int .i64 0, .int .i64 0, .int .i64 0] }
theorem one_four {a b c d : Int} : ∀ u ∈ [Value.int .i64 a, Value.int .i64 b, Value.int .i64 c, Value.int .i64 d], u.oneCell' = true := fun u hu => by
  rcases List.mem_cons.1 hu with rfl | hu
  · rfl
  · rcases List.mem_cons.1 hu with rfl | hu
    · rfl
    · exact one_two u hu
instance rLay_ok : RowT.Ok rLay := ⟨Try.underlying22, by kernel_rfl, rfl, by decide, fun _ => rfl, fun _ => one_four, by decide⟩
def vX (L : List Vc) (k : Nat) : Int := (L.getD k ⟨0, 0⟩).X.tmod 32
def vY (L : List Vc) (k : Nat) : Int := (L.getD k ⟨0, 0⟩).Y.tmod 32

set_option maxHeartbeats 4000000 in
set_option maxRecDepth 100000 in
theorem vback_walk (v : Value) (L : List Vc) (gx gy : Int) (T_l : Nat → Prop) (w0 : World) (h_l : RoA rVec w0 T_l v (L)) :
    Calls Try.prog 5 #[v, .agg #[.int .i64 (gx), .int .i64 (gy)]] w0 fun e w' => e = .returned (.bool true) ∧ Kept (fun _ => False) w0 w' := by
  refine calls_wq (args := [v, .agg #[.int .i64 (gx), .int .i64 (gy)]]) 95 Try.func5 rfl rfl (Nat.le_of_ble_eq_true rfl) ?_
  have K0 := Kept.refl (fun _ => False) w0
  have hv : ∀ k, vecOk (vX L k) (vY L k) := fun k => tmod32 _ _
  have hsh := Lib.hid (fun k => vbTo_short (vX L) (vY L) gx gy k)
  have g_l := Grew.refl w0 T_l
  refine wq_seq ?_
  refine wq_region ?_
  refine wl_box_stc (vs := [.int .i64 (gx), .int .i64 (gy)]) rfl rfl rfl rfl fun p1 w2 B4 g5 k3 => ?_
  have gr6 : Grew w0 noB (onB p1) := Grew.new K0 g5
  have ap7 : Apart (onB p1) (T_l) := Apart.new g5 (h_l).live
  have B8 := h_l.all k3 Apart.none
  have K9 := K0.trans k3 (fun _ _ x => x.elim)
  refine wl_v (.bool false) rfl rfl (y_asg rfl rfl ⟨rfl, rfl⟩) ?_
  refine wl_nil fun F10 hF11 => ?_
  have s12 : F10 0 = v := (hF11 0).trans rfl
  have s13 : F10 95 = undef := (hF11 95).trans rfl
  have s14 : F10 3 = .pointer (some ⟨p1, 0, none⟩) := (hF11 3).trans rfl
  clear hF11
  refine then_normal ?_
  refine wq_seq ?_
  refine wq_region ?_
  refine wl_call (R := fun v_ w_ => v_ = .bool true ∧ Kept (fun _ => False) w2 w_) rfl rfl (y_cs rfl rfl rfl (fun _ _ => by kernel_rfl) (ev_func _) vsN (vawake_any   _   ) (fun e_ w_ h_ => ⟨_, h_.1, rfl, h_.2⟩)) ?_
  rintro _ w15 ⟨rfl, k16⟩
  have B17 := B8.all k16 Apart.none
  have B18 := B4.all k16 id
  have K19 := K9.trans k16 (fun _ _ x => x.elim)
  refine wl_v (.bool true) rfl rfl (y_asg rfl rfl ⟨rfl, rfl⟩) ?_
  refine wl_nil fun F20 hF21 => ?_
  have s22 : F20 0 = v := (hF21 0).trans s12
  have s23 : F20 95 = undef := (hF21 95).trans s13
  have s24 : F20 3 = .pointer (some ⟨p1, 0, none⟩) := (hF21 3).trans s14
  have s25 : F20 5 = .bool true := (hF21 5).trans rfl
  clear hF21
  refine then_normal ?_
  refine wq_seq ?_
  refine wq_seq ?_
  refine wq_region ?_
  refine wl_v (v) rfl rfl (y_mov rfl s22 ⟨rfl, rfl⟩) ?_
  refine wl_v (.int .i64 ((((L).length : Nat) : Int))) rfl rfl (y_lenRo (r := rVec) rfl rfl rfl B17 ⟨rfl, rfl⟩) ?_
  refine wl_v (.bool (decide ((50) < ((((L).length : Nat) : Int))))) rfl rfl (y_gtr rfl rfl rfl rfl ⟨rfl, rfl⟩) ?_
  refine wl_nil fun F26 hF27 => ?_
  have s28 : F26 0 = v := (hF27 0).trans s22
  have s29 : F26 95 = undef := (hF27 95).trans s23
  have s30 : F26 3 = .pointer (some ⟨p1, 0, none⟩) := (hF27 3).trans s24
  have s31 : F26 5 = .bool true := (hF27 5).trans s25
  have s32 : F26 17 = .bool (decide ((50) < ((((L).length : Nat) : Int)))) := (hF27 17).trans rfl
  clear hF27
  refine then_normal ?_
  refine wq_cond s32 (fun c33 => ?_) (fun c33 => ?_)
  · replace c33 := of_decide_eq_true c33
    refine wq_seq ?_
    refine wq_region ?_
    refine wl_v (.bool true) rfl rfl (y_mov rfl s31 ⟨rfl, rfl⟩) ?_
    refine wl_v (.bool true) rfl rfl (y_asg rfl rfl ⟨rfl, rfl⟩) ?_
    refine wl_nil fun F34 hF35 => ?_
    have s36 : F34 95 = undef := (hF35 95).trans s29
    have s37 : F34 4 = .bool true := (hF35 4).trans rfl
    clear hF35
    refine then_normal ?_
    refine wq_ret ?_
    refine then_ret ?_
    exact end_tmp (v := .bool true) s36 rfl rfl s37 ⟨rfl, K19⟩
  · replace c33 := of_decide_eq_false c33
    refine wq_skip ?_
    refine then_normal ?_
    refine wq_seq ?_
    refine wq_region ?_
    refine wl_v (.agg #[.slice none 0 0, .int .i64 0]) rfl rfl (y_buildR (cells := #[.slice none 0 0, .int .i64 0]) rfl (by kernel_rfl) rfl ⟨rfl, rfl⟩) ?_
    refine wl_box_wri rfl rfl rfl rfl fun p38 w39 T43 B42 g44 k40 => ?_
    have gr45 : Grew w0 noB (T43) := Grew.new K19 g44
    have ap46 : Apart (T43) (T_l) := Apart.new g44 (B17).live
    have ap47 : Apart (T43) (onB p1) := Apart.new g44 (onB_live (B18).lt)
    have B48 := B17.all k40 Apart.none
    have B49 := B18.all k40 id
    have K50 := K19.trans k40 (fun _ _ x => x.elim)
    refine wl_v (.pointer (some ⟨p38, 0, none⟩)) rfl rfl (y_asg rfl rfl ⟨rfl, rfl⟩) ?_
    refine wl_nil fun F51 hF52 => ?_
    have s53 : F51 0 = v := (hF52 0).trans s28
    have s54 : F51 95 = undef := (hF52 95).trans s29
    have s55 : F51 3 = .pointer (some ⟨p1, 0, none⟩) := (hF52 3).trans s30
    have s56 : F51 5 = .bool true := (hF52 5).trans s31
    have s57 : F51 6 = .pointer (some ⟨p38, 0, none⟩) := (hF52 6).trans rfl
    clear hF52
    refine then_normal ?_
    refine wq_seq ?_
    refine wq_region ?_
    refine wl_v (.agg #[.int .i64 (gx), .int .i64 (gy)]) rfl rfl (y_load_stc stcT_vector rfl s55 B49 ⟨rfl, rfl⟩) ?_
    refine wl_alloc_stc (n := 2) (vs := [.int .i64 (0), .int .i64 (0)]) rfl rfl rfl (by kernel_rfl) fun p58 w59 B61 g62 k60 => ?_
    have gr63 : Grew w0 noB (onB p58) := Grew.new K50 g62
    have ap64 : Apart (onB p58) (T_l) := Apart.new g62 (B48).live
    have ap65 : Apart (onB p58) (onB p1) := Apart.new g62 (onB_live (B49).lt)
    have ap66 : Apart (onB p58) (T43) := Apart.new g62 (B42).live
    have B67 := B48.all k60 Apart.none
    have B68 := B49.all k60 id
    have B69 := B42.all k60 Apart.none
    have K70 := K50.trans k60 (fun _ _ x => x.elim)
    refine wl_store_stc (us := [.int .i64 (gx), .int .i64 (gy)]) stcT_vector rfl rfl rfl rfl rfl B61 rfl (oneI rfl (oneI rfl oneN)) fun w71 B72 k73 => ?_
    have B74 := B67.all k73 (fun i h x => (((ap64).symm) i h x))
    have B75 := B68.all k73 (fun x => (((ap65).symm) p1 rfl x))
    have B76 := B69.all k73 (fun i h x => (((ap66).symm) i h x))
    have K77 := K70.trans k73 (Grew.ok (S := fun _ => False) gr63 noB_le)
    refine wl_nil fun F78 hF79 => ?_
    have s80 : F78 0 = v := (hF79 0).trans s53
    have s81 : F78 95 = undef := (hF79 95).trans s54
    have s82 : F78 3 = .pointer (some ⟨p1, 0, none⟩) := (hF79 3).trans s55
    have s83 : F78 5 = .bool true := (hF79 5).trans s56
    have s84 : F78 6 = .pointer (some ⟨p38, 0, none⟩) := (hF79 6).trans s57
    have s85 : F78 7 = .pointer (some ⟨p58, 0, none⟩) := (hF79 7).trans rfl
    clear hF79
    refine then_normal ?_
    refine wq_seq ?_
    refine wq_seq ?_
    refine wq_region ?_
    refine wl_v (.int .i64 (0)) rfl rfl (y_asg rfl rfl ⟨rfl, rfl⟩) ?_
    refine wl_nil fun F86 hF87 => ?_
    have s88 : F86 0 = v := (hF87 0).trans s80
    have s89 : F86 95 = undef := (hF87 95).trans s81
    have s90 : F86 3 = .pointer (some ⟨p1, 0, none⟩) := (hF87 3).trans s82
    have s91 : F86 5 = .bool true := (hF87 5).trans s83
    have s92 : F86 6 = .pointer (some ⟨p38, 0, none⟩) := (hF87 6).trans s84
    have s93 : F86 7 = .pointer (some ⟨p58, 0, none⟩) := (hF87 7).trans s85
    have s94 : F86 8 = .int .i64 (0) := (hF87 8).trans rfl
    clear hF87
    refine then_normal ?_
    refine wq_block ?_
    refine wq_loop (fun nn FF ww => ∃ (i : Nat), ∃ (T95 : Nat → Prop), (i ≤ L.length) ∧ nn = L.length - i ∧ FF 0 = v ∧ FF 3 = .pointer (some ⟨p1, 0, none⟩) ∧ FF 5 = .bool true ∧ FF 6 = .pointer (some ⟨p38, 0, none⟩) ∧ FF 7 = .pointer (some ⟨p58, 0, none⟩) ∧ FF 95 = undef ∧ FF 8 = .int .i64 (((i : Nat) : Int)) ∧ Kept (fun _ => False) w0 ww ∧ RoA rVec ww (T_l) v (L) ∧ Stc ww p1 33 [.int .i64 (gx), .int .i64 (gy)] ∧ Wri ww (T95) p38 (vbTo (vX L) (vY L) gx gy i) ∧ Stc ww p58 33 [.int .i64 (gAt (vX L) gx i), .int .i64 (gAt (vY L) gy i)] ∧ Grew w0 (noB) T95 ∧ Apart (T95) (T_l) ∧ Apart (T95) (onB p1) ∧ Apart (T95) (onB p58)) (L.length - (0)) ⟨0, T43, by omega, rfl, s88, s90, s91, s92, s93, s89, s94, K77, B74, B75, B76, B72, gr45, ap46, ap47, (ap66).symm⟩ ?_
    rintro n99 F96 w97 ⟨i, T95, i100, hn99, s101, s102, s103, s104, s105, s106, s107, K98, B108, B109, B110, B111, gr112, ap113, ap114, ap115⟩
    refine wq_seq ?_
    refine wq_seq ?_
    refine wq_region ?_
    refine wl_v (.int .i64 (((i : Nat) : Int))) rfl rfl (y_mov rfl s107 ⟨rfl, rfl⟩) ?_
    refine wl_v (v) rfl rfl (y_mov rfl s101 ⟨rfl, rfl⟩) ?_
    refine wl_v (.int .i64 ((((L).length : Nat) : Int))) rfl rfl (y_lenRo (r := rVec) rfl rfl rfl B108 ⟨rfl, rfl⟩) ?_
    refine wl_v (.bool (decide ((((i : Nat) : Int)) < ((((L).length : Nat) : Int))))) rfl rfl (y_lss rfl rfl rfl rfl ⟨rfl, rfl⟩) ?_
    refine wl_nil fun F116 hF117 => ?_
    have s118 : F116 0 = v := (hF117 0).trans s101
    have s119 : F116 3 = .pointer (some ⟨p1, 0, none⟩) := (hF117 3).trans s102
    have s120 : F116 5 = .bool true := (hF117 5).trans s103
    have s121 : F116 6 = .pointer (some ⟨p38, 0, none⟩) := (hF117 6).trans s104
    have s122 : F116 7 = .pointer (some ⟨p58, 0, none⟩) := (hF117 7).trans s105
    have s123 : F116 95 = undef := (hF117 95).trans s106
    have s124 : F116 8 = .int .i64 (((i : Nat) : Int)) := (hF117 8).trans s107
    have s125 : F116 25 = .bool (decide ((((i : Nat) : Int)) < ((((L).length : Nat) : Int)))) := (hF117 25).trans rfl
    clear hF117
    refine then_normal ?_
    refine wq_cond s125 (fun c126 => ?_) (fun c126 => ?_)
    · replace c126 := of_decide_eq_true c126
      refine wq_skip ?_
      refine then_normal ?_
      refine wq_seq ?_
      refine wq_block ?_
      refine wq_seq ?_
      refine wq_tail 14 [some 28, some 29, some 30, some 31, some 32, some 33, some 34, some 35, some 36, some 37, some 38, some 39, some 40, some 9] [Pd.eq (v), Pd.eq (.int .i64 (((i : Nat) : Int))), Pd.eq (bytAddr (v) ((i) * 2)), Pd.eq (bytAddr (v) ((i) * 2)), Pd.eq (.int .i64 (((L).getD (i) ⟨0, 0⟩).X)), Pd.eq (.int .i64 (vX L i)), Pd.eq (v), Pd.eq (.int .i64 (((i : Nat) : Int))), Pd.eq (bytAddr (v) ((i) * 2)), Pd.eq (bytAddr (v) ((i) * 2 + 1)), Pd.eq (.int .i64 (((L).getD (i) ⟨0, 0⟩).Y)), Pd.eq (.int .i64 (vY L i)), Pd.eq (.agg #[.int .i64 (vX L i), .int .i64 (vY L i)]), Pd.stc w97.heap.size 33 [.int .i64 (0), .int .i64 (0)]] (by kernel_rfl) (by kernel_rfl) (by kernel_rfl) ?_ ?_
      · refine stepsF_cons ?_ ?_
        · refine StepF.one rfl fun F_ w_ hR hout hD => ?_
          exact (y_mov rfl ((hout 0 rfl (by decide)).trans s118) ⟨rfl, Kept.refl _ _⟩)
        refine stepsF_cons ?_ ?_
        · refine StepF.one rfl fun F_ w_ hR hout hD => ?_
          exact (y_mov rfl ((hout 8 rfl (by decide)).trans s124) ⟨rfl, Kept.refl _ _⟩)
        refine stepsF_cons ?_ ?_
        · refine StepF.one rfl fun F_ w_ hR hout hD => ?_
          have g28 : F_ 28 = v := (hD.get 0 rfl rfl rfl)
          have g29 : F_ 29 = .int .i64 (((i : Nat) : Int)) := (hD.get 1 rfl rfl rfl)
          exact (y_atRo (r := rVec) (i) rfl g28 g29 (by omega) (B108.all hR Apart.none) (by omega) ⟨rfl, Kept.refl _ _⟩)
        refine stepsF_cons ?_ ?_
        · refine StepF.one rfl fun F_ w_ hR hout hD => ?_
          have g30 : F_ 30 = bytAddr (v) ((i) * 2) := (hD.get 0 rfl rfl rfl)
          exact (y_fieldRo (j := i) (n := 1) rfl g30 (B108.all hR Apart.none) (by omega) Try.underlying33 rfl (by kernel_rfl) (by decide) rfl ⟨rfl, Kept.refl _ _⟩)
        refine stepsF_cons ?_ ?_
        · refine StepF.one rfl fun F_ w_ hR hout hD => ?_
          have g31 : F_ 31 = bytAddr (v) ((i) * 2) := (hD.get 0 rfl rfl rfl)
          exact (y_ldRo (r := rVec) (i) 0 rfl g31 (B108.all hR Apart.none) (by omega) (by decide) rfl Try.underlying3 rfl ⟨rfl, Kept.refl _ _⟩)
        refine stepsF_cons ?_ ?_
        · refine StepF.one rfl fun F_ w_ hR hout hD => ?_
          have g32 : F_ 32 = .int .i64 (((L).getD (i) ⟨0, 0⟩).X) := (hD.get 0 rfl rfl rfl)
          exact (y_rem rfl g32 rfl (by first | decide | omega) (rfl) ⟨rfl, Kept.refl _ _⟩)
        refine stepsF_cons ?_ ?_
        · refine StepF.one rfl fun F_ w_ hR hout hD => ?_
          exact (y_mov rfl ((hout 0 rfl (by decide)).trans s118) ⟨rfl, Kept.refl _ _⟩)
        refine stepsF_cons ?_ ?_
        · refine StepF.one rfl fun F_ w_ hR hout hD => ?_
          exact (y_mov rfl ((hout 8 rfl (by decide)).trans s124) ⟨rfl, Kept.refl _ _⟩)
        refine stepsF_cons ?_ ?_
        · refine StepF.one rfl fun F_ w_ hR hout hD => ?_
          have g34 : F_ 34 = v := (hD.get 0 rfl rfl rfl)
          have g35 : F_ 35 = .int .i64 (((i : Nat) : Int)) := (hD.get 1 rfl rfl rfl)
          exact (y_atRo (r := rVec) (i) rfl g34 g35 (by omega) (B108.all hR Apart.none) (by omega) ⟨rfl, Kept.refl _ _⟩)
        refine stepsF_cons ?_ ?_
        · refine StepF.one rfl fun F_ w_ hR hout hD => ?_
          have g36 : F_ 36 = bytAddr (v) ((i) * 2) := (hD.get 0 rfl rfl rfl)
          exact (y_fieldRo (j := i) (n := 1) rfl g36 (B108.all hR Apart.none) (by omega) Try.underlying33 rfl (by kernel_rfl) (by decide) rfl ⟨rfl, Kept.refl _ _⟩)
        refine stepsF_cons ?_ ?_
        · refine StepF.one rfl fun F_ w_ hR hout hD => ?_
          have g37 : F_ 37 = bytAddr (v) ((i) * 2 + 1) := (hD.get 0 rfl rfl rfl)
          exact (y_ldRo (r := rVec) (i) 1 rfl g37 (B108.all hR Apart.none) (by omega) (by decide) rfl Try.underlying3 rfl ⟨rfl, Kept.refl _ _⟩)
        refine stepsF_cons ?_ ?_
        · refine StepF.one rfl fun F_ w_ hR hout hD => ?_
          have g38 : F_ 38 = .int .i64 (((L).getD (i) ⟨0, 0⟩).Y) := (hD.get 0 rfl rfl rfl)
          exact (y_rem rfl g38 rfl (by first | decide | omega) (rfl) ⟨rfl, Kept.refl _ _⟩)
        refine stepsF_cons ?_ ?_
        · refine StepF.one rfl fun F_ w_ hR hout hD => ?_
          have g33 : F_ 33 = .int .i64 (vX L i) := (hD.get 0 rfl rfl rfl)
          have g39 : F_ 39 = .int .i64 (vY L i) := (hD.get 1 rfl rfl rfl)
          exact (y_buildL (l' := [(0, .int .i64 (vX L i)), (1, .int .i64 (vY L i))]) (cells := #[.int .i64 (vX L i), .int .i64 (vY L i)]) rfl (bpC g33 (bpC g39 bpN)) (by kernel_rfl) rfl ⟨rfl, Kept.refl _ _⟩)
        refine stepsF_cons ?_ ?_
        · refine StepF.one rfl fun F_ w_ hR hout hD => ?_
          exact y_alloc_stc (n := 2) (vs := [.int .i64 (0), .int .i64 (0)]) rfl (by kernel_rfl) ⟨⟨_, rfl, hR.size, heap_alloc_new _ _⟩, (Kept.refl _ _).alloc _⟩
        exact stepsF_nil
      intro v127 F128 w129 k130 G131 hF132
      have B134 := B108.all k130 Apart.none
      have B135 := B109.all k130 id
      have B136 := B110.all k130 Apart.none
      have B137 := B111.all k130 id
      have K138 := K98.trans k130 (fun _ _ x => x.elim)
      have s139 : F128 0 = v := (hF132 0).trans s118
      have s140 : F128 3 = .pointer (some ⟨p1, 0, none⟩) := (hF132 3).trans s119
      have s141 : F128 5 = .bool true := (hF132 5).trans s120
      have s142 : F128 6 = .pointer (some ⟨p38, 0, none⟩) := (hF132 6).trans s121
      have s143 : F128 7 = .pointer (some ⟨p58, 0, none⟩) := (hF132 7).trans s122
      have s144 : F128 95 = undef := (hF132 95).trans s123
      have s145 : F128 8 = .int .i64 (((i : Nat) : Int)) := (hF132 8).trans s124
      obtain ⟨p148, e147, e149, B150⟩ := G131 13 (by decide)
      replace B150 : Stc w129 p148 33 [.int .i64 (0), .int .i64 (0)] := B150
      have gr151 : Grew w0 noB (onB p148) := Grew.new K98 (onB_new e149)
      have ap152 : Apart (onB p148) (T_l) := Apart.new (onB_new e149) (B108).live
      have ap153 : Apart (onB p148) (onB p1) := Apart.new (onB_new e149) (onB_live (B109).lt)
      have ap154 : Apart (onB p148) (T95) := Apart.new (onB_new e149) (B110).live
      have ap155 : Apart (onB p148) (onB p58) := Apart.new (onB_new e149) (onB_live (B111).lt)
      have s146 : F128 9 = .pointer (some ⟨p148, 0, none⟩) := (hF132 9).trans e147
      have s156 : F128 40 = .agg #[.int .i64 (vX L i), .int .i64 (vY L i)] := (hF132 40).trans (G131 12 (by decide))
      clear G131 hF132
      refine wl_store_stc (us := [.int .i64 (vX L i), .int .i64 (vY L i)]) stcT_vector rfl rfl rfl s146 s156 B150 rfl (oneI rfl (oneI rfl oneN)) fun w157 B158 k159 => ?_
      have B160 := B134.all k159 (fun i h x => (((ap152).symm) i h x))
      have B161 := B135.all k159 (fun x => (((ap153).symm) p1 rfl x))
      have B162 := B136.all k159 (fun i h x => (((ap154).symm) i h x))
      have B163 := B137.all k159 (fun x => (((ap155).symm) p58 rfl x))
      have K164 := K138.trans k159 (Grew.ok (S := fun _ => False) gr151 noB_le)
      refine wl_nil fun F165 hF166 => ?_
      have s167 : F165 0 = v := (hF166 0).trans s139
      have s168 : F165 3 = .pointer (some ⟨p1, 0, none⟩) := (hF166 3).trans s140
      have s169 : F165 5 = .bool true := (hF166 5).trans s141
      have s170 : F165 6 = .pointer (some ⟨p38, 0, none⟩) := (hF166 6).trans s142
      have s171 : F165 7 = .pointer (some ⟨p58, 0, none⟩) := (hF166 7).trans s143
      have s172 : F165 95 = undef := (hF166 95).trans s144
      have s173 : F165 8 = .int .i64 (((i : Nat) : Int)) := (hF166 8).trans s145
      have s174 : F165 9 = .pointer (some ⟨p148, 0, none⟩) := (hF166 9).trans s146
      clear hF166
      refine then_normal ?_
      refine wq_seq ?_
      refine wq_region ?_
      refine wl_v (.pointer (some ⟨p38, 0, none⟩)) rfl rfl (y_mov rfl s170 ⟨rfl, rfl⟩) ?_
      refine wl_v (.agg #[.int .i64 (vX L i), .int .i64 (vY L i)]) rfl rfl (y_load_stc stcT_vector rfl s174 B158 ⟨rfl, rfl⟩) ?_
      refine wl_v (.agg #[.int .i64 (gAt (vX L) gx i), .int .i64 (gAt (vY L) gy i)]) rfl rfl (y_load_stc stcT_vector rfl s171 B163 ⟨rfl, rfl⟩) ?_
      refine wl_call (R := fun v_ w_ => ∃ (T177 : Nat → Prop), .tuple #[] = v_ ∧ Kept (T95) w157 w_ ∧ (Wri w_ T177 p38 ((vbTo (vX L) (vY L) gx gy i) ++ vecBits (vX L i) (vY L i) (gAt (vX L) gx i) (gAt (vY L) gy i)) ∧ Grew w157 (T95) T177)) rfl rfl (y_cs rfl rfl rfl (fun _ _ => by kernel_rfl) (ev_func _) (vsC rfl (vsC rfl (vsC rfl vsN))) (vt_write (p38) (vbTo (vX L) (vY L) gx gy i) (vX L i) (vY L i) (gAt (vX L) gx i) (gAt (vY L) gy i) (T95) _ (by have h := hsh.out i; omega) B162 ) (fun e_ w_ h_ => by obtain ⟨T177_, he_, hr_⟩ := h_; exact ⟨_, he_, T177_, rfl, hr_⟩)) ?_
      rintro _ w175 ⟨T177, rfl, k176, ⟨B178, g179⟩⟩
      have B180 := B160.all k176 (fun i h x => (((ap113).symm) i h x))
      have B181 := B161.all k176 (fun x => (((ap114).symm) p1 rfl x))
      have B182 := B163.all k176 (fun x => (((ap115).symm) p58 rfl x))
      have B183 := B158.all k176 (fun x => ((ap154) p148 rfl x))
      have K184 := K164.trans k176 (fun i hi x => ((Grew.ok (S := fun _ => False) gr112 noB_le) i hi x))
      have gr185 := gr112.trans K164 g179
      have ap186 : Apart T177 (T_l) := (ap113).grew g179 (B160).live
      have ap187 : Apart T177 (onB p1) := (ap114).grew g179 (onB_live (B161).lt)
      have ap188 : Apart T177 (onB p58) := (ap115).grew g179 (onB_live (B163).lt)
      have ap189 : Apart T177 (onB p148) := ((ap154).symm).grew g179 (onB_live (B158).lt)
      refine wl_nil fun F190 hF191 => ?_
      have s192 : F190 0 = v := (hF191 0).trans s167
      have s193 : F190 3 = .pointer (some ⟨p1, 0, none⟩) := (hF191 3).trans s168
      have s194 : F190 5 = .bool true := (hF191 5).trans s169
      have s195 : F190 6 = .pointer (some ⟨p38, 0, none⟩) := (hF191 6).trans s170
      have s196 : F190 7 = .pointer (some ⟨p58, 0, none⟩) := (hF191 7).trans s171
      have s197 : F190 95 = undef := (hF191 95).trans s172
      have s198 : F190 8 = .int .i64 (((i : Nat) : Int)) := (hF191 8).trans s173
      have s199 : F190 9 = .pointer (some ⟨p148, 0, none⟩) := (hF191 9).trans s174
      clear hF191
      refine then_normal ?_
      refine wq_region ?_
      refine wl_v (.agg #[.int .i64 (vX L i), .int .i64 (vY L i)]) rfl rfl (y_load_stc stcT_vector rfl s199 B183 ⟨rfl, rfl⟩) ?_
      refine wl_store_stc (us := [.int .i64 (vX L i), .int .i64 (vY L i)]) stcT_vector rfl rfl rfl s196 rfl B182 rfl (oneI rfl (oneI rfl oneN)) fun w200 B201 k202 => ?_
      have B203 := B180.all k202 (fun i h x => (((ap64).symm) i h x))
      have B204 := B181.all k202 (fun x => (((ap65).symm) p1 rfl x))
      have B205 := B178.all k202 (fun i h x => ((ap188) i h x))
      have B206 := B183.all k202 (fun x => ((ap155) p148 rfl x))
      have K207 := K184.trans k202 (Grew.ok (S := fun _ => False) gr63 noB_le)
      refine wl_nil fun F208 hF209 => ?_
      have s210 : F208 0 = v := (hF209 0).trans s192
      have s211 : F208 3 = .pointer (some ⟨p1, 0, none⟩) := (hF209 3).trans s193
      have s212 : F208 5 = .bool true := (hF209 5).trans s194
      have s213 : F208 6 = .pointer (some ⟨p38, 0, none⟩) := (hF209 6).trans s195
      have s214 : F208 7 = .pointer (some ⟨p58, 0, none⟩) := (hF209 7).trans s196
      have s215 : F208 95 = undef := (hF209 95).trans s197
      have s216 : F208 8 = .int .i64 (((i : Nat) : Int)) := (hF209 8).trans s198
      clear hF209
      refine in_normal ?_
      refine then_normal ?_
      refine wq_region ?_
      refine wl_v (.int .i64 (((i : Nat) : Int))) rfl rfl (y_mov rfl s216 ⟨rfl, rfl⟩) ?_
      refine wl_v (.int .i64 (((i + 1 : Nat) : Int))) rfl rfl (y_add rfl rfl rfl (i64_n (by omega) (by omega)) ⟨rfl, rfl⟩) ?_
      refine wl_v (.int .i64 (((i + 1 : Nat) : Int))) rfl rfl (y_asg rfl rfl ⟨rfl, rfl⟩) ?_
      refine wl_nil fun F217 hF218 => ?_
      have s219 : F217 0 = v := (hF218 0).trans s210
      have s220 : F217 3 = .pointer (some ⟨p1, 0, none⟩) := (hF218 3).trans s211
      have s221 : F217 5 = .bool true := (hF218 5).trans s212
      have s222 : F217 6 = .pointer (some ⟨p38, 0, none⟩) := (hF218 6).trans s213
      have s223 : F217 7 = .pointer (some ⟨p58, 0, none⟩) := (hF218 7).trans s214
      have s224 : F217 95 = undef := (hF218 95).trans s215
      have s225 : F217 8 = .int .i64 (((i + 1 : Nat) : Int)) := (hF218 8).trans rfl
      clear hF218
      exact then_normal ⟨(L.length - (i + 1)), by omega, i + 1, T177, by omega, rfl, s219, s220, s221, s222, s223, s224, s225, K207, B203, B204, B205, B201, gr185, ap186, ap187, ap188⟩
    · replace c126 := of_decide_eq_false c126
      refine wq_exit ?_
      refine then_exit ?_
      refine then_exit ?_
      have l226 : L.length = i := by omega
      subst l226
      refine in_here ?_
      refine then_normal ?_
      refine wq_seq ?_
      refine wq_region ?_
      refine wl_v (.pointer (some ⟨p38, 0, none⟩)) rfl rfl (y_mov rfl s121 ⟨rfl, rfl⟩) ?_
      refine wl_call (R := fun v_ w_ => ∃ (T229 : Nat → Prop), .tuple #[] = v_ ∧ Kept (T95) w97 w_ ∧ (Wri w_ T229 p38 ((vbTo (vX L) (vY L) gx gy L.length) ++ endBits (vbTo (vX L) (vY L) gx gy L.length).length) ∧ Grew w97 (T95) T229)) rfl rfl (y_cs rfl rfl rfl (fun _ _ => by kernel_rfl) (ev_func _) (vsC rfl vsN) (t_end (p38) (vbTo (vX L) (vY L) gx gy L.length) (T95) _ (by have h := hsh.out L.length; omega) B110 ) (fun e_ w_ h_ => by obtain ⟨T229_, he_, hr_⟩ := h_; exact ⟨_, he_, T229_, rfl, hr_⟩)) ?_
      rintro _ w227 ⟨T229, rfl, k228, ⟨B230, g231⟩⟩
      have B232 := B108.all k228 (fun i h x => (((ap113).symm) i h x))
      have B233 := B109.all k228 (fun x => (((ap114).symm) p1 rfl x))
      have B234 := B111.all k228 (fun x => (((ap115).symm) p58 rfl x))
      have K235 := K98.trans k228 (fun i hi x => ((Grew.ok (S := fun _ => False) gr112 noB_le) i hi x))
      have gr236 := gr112.trans K98 g231
      have ap237 : Apart T229 (T_l) := (ap113).grew g231 (B108).live
      have ap238 : Apart T229 (onB p1) := (ap114).grew g231 (onB_live (B109).lt)
      have ap239 : Apart T229 (onB p58) := (ap115).grew g231 (onB_live (B111).lt)
      refine wl_nil fun F240 hF241 => ?_
      have s242 : F240 0 = v := (hF241 0).trans s118
      have s243 : F240 3 = .pointer (some ⟨p1, 0, none⟩) := (hF241 3).trans s119
      have s244 : F240 5 = .bool true := (hF241 5).trans s120
      have s245 : F240 6 = .pointer (some ⟨p38, 0, none⟩) := (hF241 6).trans s121
      have s246 : F240 7 = .pointer (some ⟨p58, 0, none⟩) := (hF241 7).trans s122
      have s247 : F240 95 = undef := (hF241 95).trans s123
      clear hF241
      refine then_normal ?_
      refine wq_seq ?_
      refine wq_region ?_
      refine wl_v (.pointer (some ⟨p38, 0, none⟩)) rfl rfl (y_mov rfl s245 ⟨rfl, rfl⟩) ?_
      refine wl_call (R := fun v_ w_ => ∃ (v248 : Value) (T251 : Nat → Prop), v248 = v_ ∧ Kept (fun _ => False) w227 w_ ∧ (Byt w_ T251 v248 (pack ((vbTo (vX L) (vY L) gx gy L.length) ++ endBits (vbTo (vX L) (vY L) gx gy L.length).length)) ∧ Grew w227 noB T251)) rfl rfl (y_cs rfl rfl rfl (fun _ _ => by kernel_rfl) (ev_func _) (vsC rfl vsN) (t_bytes (p38) ((vbTo (vX L) (vY L) gx gy L.length) ++ endBits (vbTo (vX L) (vY L) gx gy L.length).length) (T229) _ (by have h := hsh.out L.length; rw [List.length_append, endBits_length]; omega) B230 ) (fun e_ w_ h_ => by obtain ⟨v248_, T251_, he_, hr_⟩ := h_; exact ⟨_, he_, v248_, T251_, rfl, hr_⟩)) ?_
      rintro _ w249 ⟨v248, T251, rfl, k250, ⟨B252, g253⟩⟩
      have B254 := B232.all k250 Apart.none
      have B255 := B233.all k250 id
      have B256 := B230.all k250 Apart.none
      have B257 := B234.all k250 id
      have K258 := K235.trans k250 (fun _ _ x => x.elim)
      have gr259 : Grew w0 noB (T251) := Grew.new K235 g253
      have ap260 : Apart (T251) (T_l) := Apart.new g253 (B232).live
      have ap261 : Apart (T251) (onB p1) := Apart.new g253 (onB_live (B233).lt)
      have ap262 : Apart (T251) (T229) := Apart.new g253 (B230).live
      have ap263 : Apart (T251) (onB p58) := Apart.new g253 (onB_live (B234).lt)
      refine wl_call (R := fun v_ w_ => ∃ (v264 : Nat) (T267 : Nat → Prop), .pointer (some ⟨v264, 0, none⟩) = v_ ∧ Kept (fun _ => False) w249 w_ ∧ (Rdi w_ T267 v264 ((pack ((vbTo (vX L) (vY L) gx gy L.length) ++ endBits (vbTo (vX L) (vY L) gx gy L.length).length))) (some 0) ∧ Grew w249 noB T267)) rfl rfl (y_cs rfl rfl rfl (fun _ _ => by kernel_rfl) (ev_func _) (vsC rfl vsN) (t_new (v248) (pack ((vbTo (vX L) (vY L) gx gy L.length) ++ endBits (vbTo (vX L) (vY L) gx gy L.length).length)) (T251) _ (by have h := hsh.out L.length; rw [pack_length]; unfold nbytes; rw [List.length_append, endBits_length]; omega) B252 ) (fun e_ w_ h_ => by obtain ⟨v264_, T267_, he_, hr_⟩ := h_; exact ⟨_, he_, v264_, T267_, rfl, hr_⟩)) ?_
      rintro _ w265 ⟨v264, T267, rfl, k266, ⟨B268, g269⟩⟩
      have B270 := B254.all k266 Apart.none
      have B271 := B255.all k266 id
      have B272 := B256.all k266 Apart.none
      have B273 := B257.all k266 id
      have B274 := B252.all k266 Apart.none
      have K275 := K258.trans k266 (fun _ _ x => x.elim)
      have gr276 : Grew w0 noB (T267) := Grew.new K258 g269
      have ap277 : Apart (T267) (T_l) := Apart.new g269 (B254).live
      have ap278 : Apart (T267) (onB p1) := Apart.new g269 (onB_live (B255).lt)
      have ap279 : Apart (T267) (T229) := Apart.new g269 (B256).live
      have ap280 : Apart (T267) (onB p58) := Apart.new g269 (onB_live (B257).lt)
      have ap281 : Apart (T267) (T251) := Apart.new g269 (B252).live
      refine wl_v (.pointer (some ⟨v264, 0, none⟩)) rfl rfl (y_asg rfl rfl ⟨rfl, rfl⟩) ?_
      refine wl_nil fun F282 hF283 => ?_
      have s284 : F282 0 = v := (hF283 0).trans s242
      have s285 : F282 3 = .pointer (some ⟨p1, 0, none⟩) := (hF283 3).trans s243
      have s286 : F282 5 = .bool true := (hF283 5).trans s244
      have s287 : F282 7 = .pointer (some ⟨p58, 0, none⟩) := (hF283 7).trans s246
      have s288 : F282 95 = undef := (hF283 95).trans s247
      have s289 : F282 10 = .pointer (some ⟨v264, 0, none⟩) := (hF283 10).trans rfl
      clear hF283
      refine then_normal ?_
      refine wq_seq ?_
      obtain ⟨P, hP⟩ : ∃ P, P = pack (vbTo (vX L) (vY L) gx gy L.length ++ endBits (vbTo (vX L) (vY L) gx gy L.length).length) := ⟨_, rfl⟩
      have hbk := Lib.hid (fun k (hk : k < L.length) => vbT_back (vX L) (vY L) gx gy L.length hv k hk P hP)
      have hdn := Lib.hid (done_end (vbTo (vX L) (vY L) gx gy L.length) (by have h := hsh.out L.length; omega))
      rw [← hP] at hdn
      have B290 : Rdi w265 (T267) v264 (P) (some 0) := ((by rw [hP]; exact B268))
      refine wq_region ?_
      refine wl_v (.agg #[.int .i64 (gx), .int .i64 (gy)]) rfl rfl (y_load_stc stcT_vector rfl s285 B271 ⟨rfl, rfl⟩) ?_
      refine wl_store_stc (us := [.int .i64 (gx), .int .i64 (gy)]) stcT_vector rfl rfl rfl s287 rfl B273 rfl (oneI rfl (oneI rfl oneN)) fun w291 B292 k293 => ?_
      have B294 := B270.all k293 (fun i h x => (((ap64).symm) i h x))
      have B295 := B271.all k293 (fun x => (((ap65).symm) p1 rfl x))
      have B296 := B272.all k293 (fun i h x => ((ap239) i h x))
      have B297 := B274.all k293 (fun i h x => ((ap263) i h x))
      have B298 := B290.all k293 (fun i h x => ((ap280) i h x))
      have K299 := K275.trans k293 (Grew.ok (S := fun _ => False) gr63 noB_le)
      refine wl_nil fun F300 hF301 => ?_
      have s302 : F300 0 = v := (hF301 0).trans s284
      have s303 : F300 5 = .bool true := (hF301 5).trans s286
      have s304 : F300 7 = .pointer (some ⟨p58, 0, none⟩) := (hF301 7).trans s287
      have s305 : F300 95 = undef := (hF301 95).trans s288
      have s306 : F300 10 = .pointer (some ⟨v264, 0, none⟩) := (hF301 10).trans s289
      clear hF301
      refine then_normal ?_
      refine wq_seq ?_
      refine wq_seq ?_
      refine wq_region ?_
      refine wl_v (.int .i64 (0)) rfl rfl (y_asg rfl rfl ⟨rfl, rfl⟩) ?_
      refine wl_nil fun F307 hF308 => ?_
      have s309 : F307 0 = v := (hF308 0).trans s302
      have s310 : F307 5 = .bool true := (hF308 5).trans s303
      have s311 : F307 7 = .pointer (some ⟨p58, 0, none⟩) := (hF308 7).trans s304
      have s312 : F307 95 = undef := (hF308 95).trans s305
      have s313 : F307 10 = .pointer (some ⟨v264, 0, none⟩) := (hF308 10).trans s306
      have s314 : F307 11 = .int .i64 (0) := (hF308 11).trans rfl
      clear hF308
      refine then_normal ?_
      refine wq_block ?_
      refine wq_loop (fun nn FF ww => ∃ (j : Nat), ∃ (T315 : Nat → Prop), (j ≤ L.length) ∧ nn = L.length - j ∧ FF 0 = v ∧ FF 5 = .bool true ∧ FF 7 = .pointer (some ⟨p58, 0, none⟩) ∧ FF 10 = .pointer (some ⟨v264, 0, none⟩) ∧ FF 95 = undef ∧ FF 11 = .int .i64 (((j : Nat) : Int)) ∧ Kept (fun _ => False) w0 ww ∧ RoA rVec ww (T_l) v (L) ∧ Stc ww p1 33 [.int .i64 (gx), .int .i64 (gy)] ∧ Wri ww (T229) p38 ((vbTo (vX L) (vY L) gx gy L.length) ++ endBits (vbTo (vX L) (vY L) gx gy L.length).length) ∧ Stc ww p58 33 [.int .i64 (gAt (vX L) gx j), .int .i64 (gAt (vY L) gy j)] ∧ Byt ww (T251) v248 (pack ((vbTo (vX L) (vY L) gx gy L.length) ++ endBits (vbTo (vX L) (vY L) gx gy L.length).length)) ∧ Rdi ww (T315) v264 (P) (some (vbTo (vX L) (vY L) gx gy j).length) ∧ Grew w0 (noB) T315 ∧ Apart (T315) (T_l) ∧ Apart (T315) (onB p1) ∧ Apart (T315) (T229) ∧ Apart (T315) (onB p58) ∧ Apart (T315) (T251)) (L.length - (0)) ⟨0, T267, by omega, rfl, s309, s310, s311, s313, s312, s314, K299, B294, B295, B296, B292, B297, B298, gr276, ap277, ap278, ap279, ap280, ap281⟩ ?_
      rintro n319 F316 w317 ⟨j, T315, i320, hn319, s321, s322, s323, s324, s325, s326, K318, B327, B328, B329, B330, B331, B332, gr333, ap334, ap335, ap336, ap337, ap338⟩
      refine wq_seq ?_
      refine wq_seq ?_
      refine wq_region ?_
      refine wl_v (.int .i64 (((j : Nat) : Int))) rfl rfl (y_mov rfl s326 ⟨rfl, rfl⟩) ?_
      refine wl_v (v) rfl rfl (y_mov rfl s321 ⟨rfl, rfl⟩) ?_
      refine wl_v (.int .i64 ((((L).length : Nat) : Int))) rfl rfl (y_lenRo (r := rVec) rfl rfl rfl B327 ⟨rfl, rfl⟩) ?_
      refine wl_v (.bool (decide ((((j : Nat) : Int)) < ((((L).length : Nat) : Int))))) rfl rfl (y_lss rfl rfl rfl rfl ⟨rfl, rfl⟩) ?_
      refine wl_nil fun F339 hF340 => ?_
      have s341 : F339 0 = v := (hF340 0).trans s321
      have s342 : F339 5 = .bool true := (hF340 5).trans s322
      have s343 : F339 7 = .pointer (some ⟨p58, 0, none⟩) := (hF340 7).trans s323
      have s344 : F339 10 = .pointer (some ⟨v264, 0, none⟩) := (hF340 10).trans s324
      have s345 : F339 95 = undef := (hF340 95).trans s325
      have s346 : F339 11 = .int .i64 (((j : Nat) : Int)) := (hF340 11).trans s326
      have s347 : F339 55 = .bool (decide ((((j : Nat) : Int)) < ((((L).length : Nat) : Int)))) := (hF340 55).trans rfl
      clear hF340
      refine then_normal ?_
      refine wq_cond s347 (fun c348 => ?_) (fun c348 => ?_)
      · replace c348 := of_decide_eq_true c348
        refine wq_skip ?_
        refine then_normal ?_
        refine wq_seq ?_
        refine wq_block ?_
        refine wq_seq ?_
        have hj := hbk.out j (by omega)
        refine wq_region ?_
        refine wl_v (.pointer (some ⟨v264, 0, none⟩)) rfl rfl (y_mov rfl s344 ⟨rfl, rfl⟩) ?_
        refine wl_v (.agg #[.int .i64 (gAt (vX L) gx j), .int .i64 (gAt (vY L) gy j)]) rfl rfl (y_load_stc stcT_vector rfl s343 B330 ⟨rfl, rfl⟩) ?_
        refine wl_call (R := fun v_ w_ => ∃ (T351 : Nat → Prop), .tuple #[.agg #[.int .i64 (vrX (P) (gAt (vX L) gx j) (gAt (vY L) gy j) (some (vbTo (vX L) (vY L) gx gy j).length)), .int .i64 (vrY (P) (gAt (vX L) gx j) (gAt (vY L) gy j) (some (vbTo (vX L) (vY L) gx gy j).length))], .int .i64 (vrE (P) (gAt (vX L) gx j) (gAt (vY L) gy j) (some (vbTo (vX L) (vY L) gx gy j).length))] = v_ ∧ Kept (T315) w317 w_ ∧ (Rdi w_ T351 v264 ((P)) (vrT (P) (gAt (vX L) gx j) (gAt (vY L) gy j) (some (vbTo (vX L) (vY L) gx gy j).length)) ∧ Grew w317 (T315) T351)) rfl rfl (y_cs rfl rfl rfl (fun _ _ => by kernel_rfl) (ev_func _) (vsC rfl (vsC rfl vsN)) (vt_read (v264) (P) (some (vbTo (vX L) (vY L) gx gy j).length) (gAt (vX L) gx j) (gAt (vY L) gy j) (T315) _  B332 ) (fun e_ w_ h_ => by obtain ⟨T351_, he_, hr_⟩ := h_; exact ⟨_, he_, T351_, rfl, hr_⟩)) ?_
        rintro _ w349 ⟨T351, rfl, k350, ⟨B352, g353⟩⟩
        have B354 := B327.all k350 (fun i h x => (((ap334).symm) i h x))
        have B355 := B328.all k350 (fun x => (((ap335).symm) p1 rfl x))
        have B356 := B329.all k350 (fun i h x => (((ap336).symm) i h x))
        have B357 := B330.all k350 (fun x => (((ap337).symm) p58 rfl x))
        have B358 := B331.all k350 (fun i h x => (((ap338).symm) i h x))
        have K359 := K318.trans k350 (fun i hi x => ((Grew.ok (S := fun _ => False) gr333 noB_le) i hi x))
        have gr360 := gr333.trans K318 g353
        have ap361 : Apart T351 (T_l) := (ap334).grew g353 (B327).live
        have ap362 : Apart T351 (onB p1) := (ap335).grew g353 (onB_live (B328).lt)
        have ap363 : Apart T351 (T229) := (ap336).grew g353 (B329).live
        have ap364 : Apart T351 (onB p58) := (ap337).grew g353 (onB_live (B330).lt)
        have ap365 : Apart T351 (T251) := (ap338).grew g353 (B331).live
        refine wl_v (.tuple #[.agg #[.int .i64 (vrX (P) (gAt (vX L) gx j) (gAt (vY L) gy j) (some (vbTo (vX L) (vY L) gx gy j).length)), .int .i64 (vrY (P) (gAt (vX L) gx j) (gAt (vY L) gy j) (some (vbTo (vX L) (vY L) gx gy j).length))], .int .i64 (vrE (P) (gAt (vX L) gx j) (gAt (vY L) gy j) (some (vbTo (vX L) (vY L) gx gy j).length))]) rfl rfl (y_mov rfl rfl ⟨rfl, rfl⟩) ?_
        refine wl_v (.agg #[.int .i64 (vrX (P) (gAt (vX L) gx j) (gAt (vY L) gy j) (some (vbTo (vX L) (vY L) gx gy j).length)), .int .i64 (vrY (P) (gAt (vX L) gx j) (gAt (vY L) gy j) (some (vbTo (vX L) (vY L) gx gy j).length))]) rfl rfl (y_ext rfl rfl rfl ⟨rfl, rfl⟩) ?_
        refine wl_v (.int .i64 (vrE (P) (gAt (vX L) gx j) (gAt (vY L) gy j) (some (vbTo (vX L) (vY L) gx gy j).length))) rfl rfl (y_ext rfl rfl rfl ⟨rfl, rfl⟩) ?_
        refine wl_alloc_stc (n := 2) (vs := [.int .i64 (0), .int .i64 (0)]) rfl rfl rfl (by kernel_rfl) fun p366 w367 B369 g370 k368 => ?_
        have gr371 : Grew w0 noB (onB p366) := Grew.new K359 g370
        have ap372 : Apart (onB p366) (T_l) := Apart.new g370 (B354).live
        have ap373 : Apart (onB p366) (onB p1) := Apart.new g370 (onB_live (B355).lt)
        have ap374 : Apart (onB p366) (T229) := Apart.new g370 (B356).live
        have ap375 : Apart (onB p366) (onB p58) := Apart.new g370 (onB_live (B357).lt)
        have ap376 : Apart (onB p366) (T251) := Apart.new g370 (B358).live
        have ap377 : Apart (onB p366) (T351) := Apart.new g370 (B352).live
        have B378 := B354.all k368 Apart.none
        have B379 := B355.all k368 id
        have B380 := B356.all k368 Apart.none
        have B381 := B357.all k368 id
        have B382 := B358.all k368 Apart.none
        have B383 := B352.all k368 Apart.none
        have K384 := K359.trans k368 (fun _ _ x => x.elim)
        refine wl_store_stc (us := [.int .i64 (vrX (P) (gAt (vX L) gx j) (gAt (vY L) gy j) (some (vbTo (vX L) (vY L) gx gy j).length)), .int .i64 (vrY (P) (gAt (vX L) gx j) (gAt (vY L) gy j) (some (vbTo (vX L) (vY L) gx gy j).length))]) stcT_vector rfl rfl rfl rfl rfl B369 rfl (oneI rfl (oneI rfl oneN)) fun w385 B386 k387 => ?_
        have B388 := B378.all k387 (fun i h x => (((ap372).symm) i h x))
        have B389 := B379.all k387 (fun x => (((ap373).symm) p1 rfl x))
        have B390 := B380.all k387 (fun i h x => (((ap374).symm) i h x))
        have B391 := B381.all k387 (fun x => (((ap375).symm) p58 rfl x))
        have B392 := B382.all k387 (fun i h x => (((ap376).symm) i h x))
        have B393 := B383.all k387 (fun i h x => (((ap377).symm) i h x))
        have K394 := K384.trans k387 (Grew.ok (S := fun _ => False) gr371 noB_le)
        refine wl_v (.int .i64 (vrE (P) (gAt (vX L) gx j) (gAt (vY L) gy j) (some (vbTo (vX L) (vY L) gx gy j).length))) rfl rfl (y_asg rfl rfl ⟨rfl, rfl⟩) ?_
        refine wl_nil fun F395 hF396 => ?_
        have s397 : F395 0 = v := (hF396 0).trans s341
        have s398 : F395 5 = .bool true := (hF396 5).trans s342
        have s399 : F395 7 = .pointer (some ⟨p58, 0, none⟩) := (hF396 7).trans s343
        have s400 : F395 10 = .pointer (some ⟨v264, 0, none⟩) := (hF396 10).trans s344
        have s401 : F395 95 = undef := (hF396 95).trans s345
        have s402 : F395 11 = .int .i64 (((j : Nat) : Int)) := (hF396 11).trans s346
        have s403 : F395 12 = .pointer (some ⟨p366, 0, none⟩) := (hF396 12).trans rfl
        have s404 : F395 13 = .int .i64 (vrE (P) (gAt (vX L) gx j) (gAt (vY L) gy j) (some (vbTo (vX L) (vY L) gx gy j).length)) := (hF396 13).trans rfl
        clear hF396
        refine then_normal ?_
        refine wq_seq ?_
        refine wq_seq ?_
        refine wq_said [some 64, some 65, some 66, some 67, some 68, some 69, some 70, some 71, some 72, some 73, some 74, some 75, some 76, some 77, some 78, some 79, some 80, some 81, some 82, some 83, some 84, some 85, some 86, some 87] [Pd.eq (.int .i64 (vrE (P) (gAt (vX L) gx j) (gAt (vY L) gy j) (some (vbTo (vX L) (vY L) gx gy j).length))), Pd.eq (.bool false), Pd.eq (.bool false), Pd.eq (.pointer (some ⟨p366, 0, none⟩)), Pd.eq (.int .i64 (vrX (P) (gAt (vX L) gx j) (gAt (vY L) gy j) (some (vbTo (vX L) (vY L) gx gy j).length))), Pd.eq (v), Pd.eq (.int .i64 (((j : Nat) : Int))), Pd.eq (bytAddr (v) ((j) * 2)), Pd.eq (bytAddr (v) ((j) * 2)), Pd.eq (.int .i64 (((L).getD (j) ⟨0, 0⟩).X)), Pd.eq (.int .i64 (Int.tmod (((L).getD (j) ⟨0, 0⟩).X) (32))), Pd.eq (.bool false), Pd.eq (.bool false), Pd.eq (.bool false), Pd.eq (.pointer (some ⟨p366, 1, none⟩)), Pd.eq (.int .i64 (vrY (P) (gAt (vX L) gx j) (gAt (vY L) gy j) (some (vbTo (vX L) (vY L) gx gy j).length))), Pd.eq (v), Pd.eq (.int .i64 (((j : Nat) : Int))), Pd.eq (bytAddr (v) ((j) * 2)), Pd.eq (bytAddr (v) ((j) * 2 + 1)), Pd.eq (.int .i64 (((L).getD (j) ⟨0, 0⟩).Y)), Pd.eq (.int .i64 (Int.tmod (((L).getD (j) ⟨0, 0⟩).Y) (32))), Pd.eq (.bool false), Pd.eq (.bool false)] (by kernel_rfl) (by kernel_rfl) ?_ ?_
        · refine stepsF_cons ?_ ?_
          · refine StepF.one rfl fun F_ w_ hR hout hD => ?_
            exact (y_mov rfl ((hout 13 rfl (by decide)).trans s404) ⟨rfl, Kept.refl _ _⟩)
          refine stepsF_cons ?_ ?_
          · refine StepF.one rfl fun F_ w_ hR hout hD => ?_
            have g64 : F_ 64 = .int .i64 (vrE (P) (gAt (vX L) gx j) (gAt (vY L) gy j) (some (vbTo (vX L) (vY L) gx gy j).length)) := (hD.get 0 rfl rfl rfl)
            exact (y_neqI rfl g64 rfl (decide_eq_false (fun h => h hj.2.2.1)) ⟨rfl, Kept.refl _ _⟩)
          refine stepsF_cons ?_ ?_
          · refine StepF.one rfl fun F_ w_ hR hout hD => ?_
            have g65 : F_ 65 = .bool false := (hD.get 0 rfl rfl rfl)
            exact (y_mov rfl g65 ⟨rfl, Kept.refl _ _⟩)
          refine stepsF_cons ?_ ?_
          · refine StepF.when 2 false 66 rfl rfl fun F_ w_ hR hout hD => ?_
            have g66 : F_ 66 = .bool false := (hD.get 0 rfl rfl rfl)
            exact ⟨g66, (y_fieldR (n := 1) rfl ((hout 12 rfl (by decide)).trans s403) Try.underlying33 rfl (by kernel_rfl) (by decide) rfl ⟨rfl, Kept.refl _ _⟩)⟩
          refine stepsF_cons ?_ ?_
          · refine StepF.when 2 false 66 rfl rfl fun F_ w_ hR hout hD => ?_
            have g66 : F_ 66 = .bool false := (hD.get 1 rfl rfl rfl)
            have g67 : F_ 67 = .pointer (some ⟨p366, 0, none⟩) := (hD.get 0 rfl rfl rfl)
            exact ⟨g66, (y_ld_stc rfl g67 Try.underlying3 (B386.all hR id) rfl rfl ⟨rfl, Kept.refl _ _⟩)⟩
          refine stepsF_cons ?_ ?_
          · refine StepF.when 2 false 66 rfl rfl fun F_ w_ hR hout hD => ?_
            have g66 : F_ 66 = .bool false := (hD.get 0 rfl rfl rfl)
            exact ⟨g66, (y_mov rfl ((hout 0 rfl (by decide)).trans s397) ⟨rfl, Kept.refl _ _⟩)⟩
          refine stepsF_cons ?_ ?_
          · refine StepF.when 2 false 66 rfl rfl fun F_ w_ hR hout hD => ?_
            have g66 : F_ 66 = .bool false := (hD.get 0 rfl rfl rfl)
            exact ⟨g66, (y_mov rfl ((hout 11 rfl (by decide)).trans s402) ⟨rfl, Kept.refl _ _⟩)⟩
          refine stepsF_cons ?_ ?_
          · refine StepF.when 2 false 66 rfl rfl fun F_ w_ hR hout hD => ?_
            have g66 : F_ 66 = .bool false := (hD.get 2 rfl rfl rfl)
            have g69 : F_ 69 = v := (hD.get 0 rfl rfl rfl)
            have g70 : F_ 70 = .int .i64 (((j : Nat) : Int)) := (hD.get 1 rfl rfl rfl)
            exact ⟨g66, (y_atRo (r := rVec) (j) rfl g69 g70 (by omega) (B388.all hR Apart.none) (by omega) ⟨rfl, Kept.refl _ _⟩)⟩
          refine stepsF_cons ?_ ?_
          · refine StepF.when 2 false 66 rfl rfl fun F_ w_ hR hout hD => ?_
            have g66 : F_ 66 = .bool false := (hD.get 1 rfl rfl rfl)
            have g71 : F_ 71 = bytAddr (v) ((j) * 2) := (hD.get 0 rfl rfl rfl)
            exact ⟨g66, (y_fieldRo (j := j) (n := 1) rfl g71 (B388.all hR Apart.none) (by omega) Try.underlying33 rfl (by kernel_rfl) (by decide) rfl ⟨rfl, Kept.refl _ _⟩)⟩
          refine stepsF_cons ?_ ?_
          · refine StepF.when 2 false 66 rfl rfl fun F_ w_ hR hout hD => ?_
            have g66 : F_ 66 = .bool false := (hD.get 1 rfl rfl rfl)
            have g72 : F_ 72 = bytAddr (v) ((j) * 2) := (hD.get 0 rfl rfl rfl)
            exact ⟨g66, (y_ldRo (r := rVec) (j) 0 rfl g72 (B388.all hR Apart.none) (by omega) (by decide) rfl Try.underlying3 rfl ⟨rfl, Kept.refl _ _⟩)⟩
          refine stepsF_cons ?_ ?_
          · refine StepF.when 2 false 66 rfl rfl fun F_ w_ hR hout hD => ?_
            have g66 : F_ 66 = .bool false := (hD.get 1 rfl rfl rfl)
            have g73 : F_ 73 = .int .i64 (((L).getD (j) ⟨0, 0⟩).X) := (hD.get 0 rfl rfl rfl)
            exact ⟨g66, (y_rem rfl g73 rfl (by first | decide | omega) rfl ⟨rfl, Kept.refl _ _⟩)⟩
          refine stepsF_cons ?_ ?_
          · refine StepF.when 2 false 66 rfl rfl fun F_ w_ hR hout hD => ?_
            have g66 : F_ 66 = .bool false := (hD.get 2 rfl rfl rfl)
            have g68 : F_ 68 = .int .i64 (vrX (P) (gAt (vX L) gx j) (gAt (vY L) gy j) (some (vbTo (vX L) (vY L) gx gy j).length)) := (hD.get 0 rfl rfl rfl)
            have g74 : F_ 74 = .int .i64 (Int.tmod (((L).getD (j) ⟨0, 0⟩).X) (32)) := (hD.get 1 rfl rfl rfl)
            exact ⟨g66, (y_neqI rfl g68 g74 (decide_eq_false (fun h => h hj.1)) ⟨rfl, Kept.refl _ _⟩)⟩
          refine stepsF_cons ?_ ?_
          · refine StepF.one rfl fun F_ w_ hR hout hD => ?_
            have g66 : F_ 66 = .bool false := (hD.get 0 rfl rfl rfl)
            have g75 : F_ 75 = .bool false := (hD.get 1 rfl rfl rfl)
            exact (y_pickF rfl g66 g75 ⟨rfl, Kept.refl _ _⟩)
          refine stepsF_cons ?_ ?_
          · refine StepF.one rfl fun F_ w_ hR hout hD => ?_
            have g76 : F_ 76 = .bool false := (hD.get 0 rfl rfl rfl)
            exact (y_mov rfl g76 ⟨rfl, Kept.refl _ _⟩)
          refine stepsF_cons ?_ ?_
          · refine StepF.when 13 false 77 rfl rfl fun F_ w_ hR hout hD => ?_
            have g77 : F_ 77 = .bool false := (hD.get 0 rfl rfl rfl)
            exact ⟨g77, (y_fieldR (n := 1) rfl ((hout 12 rfl (by decide)).trans s403) Try.underlying33 rfl (by kernel_rfl) (by decide) rfl ⟨rfl, Kept.refl _ _⟩)⟩
          refine stepsF_cons ?_ ?_
          · refine StepF.when 13 false 77 rfl rfl fun F_ w_ hR hout hD => ?_
            have g77 : F_ 77 = .bool false := (hD.get 1 rfl rfl rfl)
            have g78 : F_ 78 = .pointer (some ⟨p366, 1, none⟩) := (hD.get 0 rfl rfl rfl)
            exact ⟨g77, (y_ld_stc rfl g78 Try.underlying3 (B386.all hR id) rfl rfl ⟨rfl, Kept.refl _ _⟩)⟩
          refine stepsF_cons ?_ ?_
          · refine StepF.when 13 false 77 rfl rfl fun F_ w_ hR hout hD => ?_
            have g77 : F_ 77 = .bool false := (hD.get 0 rfl rfl rfl)
            exact ⟨g77, (y_mov rfl ((hout 0 rfl (by decide)).trans s397) ⟨rfl, Kept.refl _ _⟩)⟩
          refine stepsF_cons ?_ ?_
          · refine StepF.when 13 false 77 rfl rfl fun F_ w_ hR hout hD => ?_
            have g77 : F_ 77 = .bool false := (hD.get 0 rfl rfl rfl)
            exact ⟨g77, (y_mov rfl ((hout 11 rfl (by decide)).trans s402) ⟨rfl, Kept.refl _ _⟩)⟩
          refine stepsF_cons ?_ ?_
          · refine StepF.when 13 false 77 rfl rfl fun F_ w_ hR hout hD => ?_
            have g77 : F_ 77 = .bool false := (hD.get 2 rfl rfl rfl)
            have g80 : F_ 80 = v := (hD.get 0 rfl rfl rfl)
            have g81 : F_ 81 = .int .i64 (((j : Nat) : Int)) := (hD.get 1 rfl rfl rfl)
            exact ⟨g77, (y_atRo (r := rVec) (j) rfl g80 g81 (by omega) (B388.all hR Apart.none) (by omega) ⟨rfl, Kept.refl _ _⟩)⟩
          refine stepsF_cons ?_ ?_
          · refine StepF.when 13 false 77 rfl rfl fun F_ w_ hR hout hD => ?_
            have g77 : F_ 77 = .bool false := (hD.get 1 rfl rfl rfl)
            have g82 : F_ 82 = bytAddr (v) ((j) * 2) := (hD.get 0 rfl rfl rfl)
            exact ⟨g77, (y_fieldRo (j := j) (n := 1) rfl g82 (B388.all hR Apart.none) (by omega) Try.underlying33 rfl (by kernel_rfl) (by decide) rfl ⟨rfl, Kept.refl _ _⟩)⟩
          refine stepsF_cons ?_ ?_
          · refine StepF.when 13 false 77 rfl rfl fun F_ w_ hR hout hD => ?_
            have g77 : F_ 77 = .bool false := (hD.get 1 rfl rfl rfl)
            have g83 : F_ 83 = bytAddr (v) ((j) * 2 + 1) := (hD.get 0 rfl rfl rfl)
            exact ⟨g77, (y_ldRo (r := rVec) (j) 1 rfl g83 (B388.all hR Apart.none) (by omega) (by decide) rfl Try.underlying3 rfl ⟨rfl, Kept.refl _ _⟩)⟩
          refine stepsF_cons ?_ ?_
          · refine StepF.when 13 false 77 rfl rfl fun F_ w_ hR hout hD => ?_
            have g77 : F_ 77 = .bool false := (hD.get 1 rfl rfl rfl)
            have g84 : F_ 84 = .int .i64 (((L).getD (j) ⟨0, 0⟩).Y) := (hD.get 0 rfl rfl rfl)
            exact ⟨g77, (y_rem rfl g84 rfl (by first | decide | omega) rfl ⟨rfl, Kept.refl _ _⟩)⟩
          refine stepsF_cons ?_ ?_
          · refine StepF.when 13 false 77 rfl rfl fun F_ w_ hR hout hD => ?_
            have g77 : F_ 77 = .bool false := (hD.get 2 rfl rfl rfl)
            have g79 : F_ 79 = .int .i64 (vrY (P) (gAt (vX L) gx j) (gAt (vY L) gy j) (some (vbTo (vX L) (vY L) gx gy j).length)) := (hD.get 0 rfl rfl rfl)
            have g85 : F_ 85 = .int .i64 (Int.tmod (((L).getD (j) ⟨0, 0⟩).Y) (32)) := (hD.get 1 rfl rfl rfl)
            exact ⟨g77, (y_neqI rfl g79 g85 (decide_eq_false (fun h => h hj.2.1)) ⟨rfl, Kept.refl _ _⟩)⟩
          refine stepsF_cons ?_ ?_
          · refine StepF.one rfl fun F_ w_ hR hout hD => ?_
            have g77 : F_ 77 = .bool false := (hD.get 0 rfl rfl rfl)
            have g86 : F_ 86 = .bool false := (hD.get 1 rfl rfl rfl)
            exact (y_pickF rfl g77 g86 ⟨rfl, Kept.refl _ _⟩)
          exact stepsF_nil
        intro v405 F406 w407 k408 G409 hF410
        have B412 := B388.all k408 Apart.none
        have B413 := B389.all k408 id
        have B414 := B390.all k408 Apart.none
        have B415 := B391.all k408 id
        have B416 := B392.all k408 Apart.none
        have B417 := B393.all k408 Apart.none
        have B418 := B386.all k408 id
        have K419 := K394.trans k408 (fun _ _ x => x.elim)
        have s420 : F406 0 = v := (hF410 0).trans s397
        have s421 : F406 5 = .bool true := (hF410 5).trans s398
        have s422 : F406 7 = .pointer (some ⟨p58, 0, none⟩) := (hF410 7).trans s399
        have s423 : F406 10 = .pointer (some ⟨v264, 0, none⟩) := (hF410 10).trans s400
        have s424 : F406 95 = undef := (hF410 95).trans s401
        have s425 : F406 11 = .int .i64 (((j : Nat) : Int)) := (hF410 11).trans s402
        have s426 : F406 12 = .pointer (some ⟨p366, 0, none⟩) := (hF410 12).trans s403
        have s427 : F406 87 = .bool false := (hF410 87).trans (G409 23 (by decide))
        clear G409 hF410
        refine then_normal ?_
        refine wq_cond (t := false) s427 (fun e => by cases e) (fun _ => ?_)
        refine wq_skip ?_
        refine then_normal ?_
        have B428 : Stc w407 p366 33 [.int .i64 (vX L j), .int .i64 (vY L j)] := ((by rw [← hj.1, ← hj.2.1]; exact B418))
        have B429 : Rdi w407 (T351) v264 (P) (some (vbTo (vX L) (vY L) gx gy (j + 1)).length) := ((by rw [← hj.2.2.2]; exact B417))
        refine wq_region ?_
        refine wl_v (.agg #[.int .i64 (vX L j), .int .i64 (vY L j)]) rfl rfl (y_load_stc stcT_vector rfl s426 B428 ⟨rfl, rfl⟩) ?_
        refine wl_store_stc (us := [.int .i64 (vX L j), .int .i64 (vY L j)]) stcT_vector rfl rfl rfl s422 rfl B415 rfl (oneI rfl (oneI rfl oneN)) fun w430 B431 k432 => ?_
        have B433 := B412.all k432 (fun i h x => (((ap64).symm) i h x))
        have B434 := B413.all k432 (fun x => (((ap65).symm) p1 rfl x))
        have B435 := B414.all k432 (fun i h x => ((ap239) i h x))
        have B436 := B416.all k432 (fun i h x => ((ap263) i h x))
        have B437 := B429.all k432 (fun i h x => ((ap364) i h x))
        have B438 := B428.all k432 (fun x => ((ap375) p366 rfl x))
        have K439 := K419.trans k432 (Grew.ok (S := fun _ => False) gr63 noB_le)
        refine wl_nil fun F440 hF441 => ?_
        have s442 : F440 0 = v := (hF441 0).trans s420
        have s443 : F440 5 = .bool true := (hF441 5).trans s421
        have s444 : F440 7 = .pointer (some ⟨p58, 0, none⟩) := (hF441 7).trans s422
        have s445 : F440 10 = .pointer (some ⟨v264, 0, none⟩) := (hF441 10).trans s423
        have s446 : F440 95 = undef := (hF441 95).trans s424
        have s447 : F440 11 = .int .i64 (((j : Nat) : Int)) := (hF441 11).trans s425
        clear hF441
        refine in_normal ?_
        refine then_normal ?_
        refine wq_region ?_
        refine wl_v (.int .i64 (((j : Nat) : Int))) rfl rfl (y_mov rfl s447 ⟨rfl, rfl⟩) ?_
        refine wl_v (.int .i64 (((j + 1 : Nat) : Int))) rfl rfl (y_add rfl rfl rfl (i64_n (by omega) (by omega)) ⟨rfl, rfl⟩) ?_
        refine wl_v (.int .i64 (((j + 1 : Nat) : Int))) rfl rfl (y_asg rfl rfl ⟨rfl, rfl⟩) ?_
        refine wl_nil fun F448 hF449 => ?_
        have s450 : F448 0 = v := (hF449 0).trans s442
        have s451 : F448 5 = .bool true := (hF449 5).trans s443
        have s452 : F448 7 = .pointer (some ⟨p58, 0, none⟩) := (hF449 7).trans s444
        have s453 : F448 10 = .pointer (some ⟨v264, 0, none⟩) := (hF449 10).trans s445
        have s454 : F448 95 = undef := (hF449 95).trans s446
        have s455 : F448 11 = .int .i64 (((j + 1 : Nat) : Int)) := (hF449 11).trans rfl
        clear hF449
        exact then_normal ⟨(L.length - (j + 1)), by omega, j + 1, T351, by omega, rfl, s450, s451, s452, s453, s454, s455, K439, B433, B434, B435, B431, B436, B437, gr360, ap361, ap362, ap363, ap364, ap365⟩
      · replace c348 := of_decide_eq_false c348
        refine wq_exit ?_
        refine then_exit ?_
        refine then_exit ?_
        have l456 : L.length = j := by omega
        subst l456
        refine in_here ?_
        refine then_normal ?_
        refine wq_seq ?_
        refine wq_region ?_
        refine wl_v (.bool true) rfl rfl (y_mov rfl s342 ⟨rfl, rfl⟩) ?_
        refine wl_v (.bool true) rfl rfl (y_mov rfl rfl ⟨rfl, rfl⟩) ?_
        refine wl_vw (.pointer (some ⟨v264, 0, none⟩)) 1 true 90 rfl rfl rfl rfl rfl (y_mov rfl s344 ⟨rfl, rfl⟩) ?_
        refine wl_callw (R := fun v_ w_ => v_ = .int .i64 (doneOf (P) (some (vbTo (vX L) (vY L) gx gy L.length).length)) ∧ Kept (fun _ => False) w317 w_) 1 true 90 rfl rfl rfl rfl rfl (y_cs rfl rfl rfl (fun _ _ => by kernel_rfl) (ev_func _) (vsC rfl vsN) (t_done (v264) (P) (some (vbTo (vX L) (vY L) gx gy L.length).length) (T315) _  B332 ) (fun e_ w_ h_ => ⟨_, h_.1, rfl, h_.2⟩)) ?_
        rintro _ w457 ⟨rfl, k458⟩
        have B459 := B327.all k458 Apart.none
        have B460 := B328.all k458 id
        have B461 := B329.all k458 Apart.none
        have B462 := B330.all k458 id
        have B463 := B331.all k458 Apart.none
        have B464 := B332.all k458 Apart.none
        have K465 := K318.trans k458 (fun _ _ x => x.elim)
        refine wl_vw (.bool true) 1 true 90 rfl rfl rfl rfl rfl (y_eqlI rfl rfl rfl (decide_eq_true hdn.out) ⟨rfl, rfl⟩) ?_
        refine wl_v (.bool true) rfl rfl (y_pickT rfl rfl rfl ⟨rfl, rfl⟩) ?_
        refine wl_v (.bool true) rfl rfl (y_asg rfl rfl ⟨rfl, rfl⟩) ?_
        refine wl_nil fun F466 hF467 => ?_
        have s468 : F466 95 = undef := (hF467 95).trans s345
        have s469 : F466 4 = .bool true := (hF467 4).trans rfl
        clear hF467
        refine then_normal ?_
        refine wq_ret ?_
        exact end_tmp (v := .bool true) s468 rfl rfl s469 ⟨rfl, K465⟩
end Go.Proofs.Ythhagejcgobfgaa
namespace Go.Proofs.Ythhagejcgobfgaa
open Go.ChangeShapes Go.WideShapes Go.ChangeAt Go.RowKit Go.Deep

section
variable {H : Type} {enc : TypeId × Value → H} {w : World} {base : Nat} {spare : Nat → Bool} {held : Bool}
theorem rows_open {α : Type} (r : RowT α) [hk : r.Ok] (P : α → Prop) (hce : Try.prog.cellsOf r.e = r.k)
    (hel : ∀ fuel cs y, DataW.trod enc Try.prog w base spare held fuel r.e cs = some y → ∃ u, cs = r.enc u ∧ P u)
    {fuel : Nat} {v : Value} {x : DataW H × List MemPlace} (h : DataW.trod enc Try.prog w base spare held fuel r.t [v] = some x) :
    ∃ (T : Nat → Prop) (l : List α), RoA r w T v l ∧ ∀ i, i < l.length → P (l.getD i r.d) := by
  rcases open_slice hk.slice h with ⟨hcs, _⟩ | ⟨a, len, cap, m, n, D, Pl, hcs, hb, hl, hm, hmm, hx, hi⟩
  · simp at hcs
    subst hcs
    exact ⟨noB, [], RoA.nil r w, fun i h => absurd h (by simp)⟩
  · simp at hcs
    subst hcs
    rw [hce] at hi
    have hle : len ≤ m := by rw [hmm]; split <;> omega
    have hq : ∀ i, i < len → ∃ u : α, P u ∧ ∀ j, j < r.k → w.cell? ((a.add (i * r.k)).add j) = (r.enc u)[j]? := by
      intro i hil
      obtain ⟨cs', hc, ht⟩ := hi i (by omega)
      obtain ⟨_, hlen, hat⟩ := World.cells?_some hc
      obtain ⟨u, rfl, hp⟩ := hel _ _ _ ht
      exact ⟨u, hp, fun j hj => hat j hj⟩
    have hc : ∃ f : Nat → α, ∀ i, i < len → P (f i) ∧ ∀ j, j < r.k → w.cell? ((a.add (i * r.k)).add j) = (r.enc (f i))[j]? :=
      ⟨fun i => if h : i < len then Classical.choose (hq i h) else r.d, fun i h => by simp only [dif_pos h]; exact Classical.choose_spec (hq i h)⟩
    obtain ⟨f, hf⟩ := hc
    have hgd : ∀ i, i < len → ((List.range len).map f).getD i r.d = f i := fun i hil => by simp [List.getD, hil]
    by_cases hpos : 0 < len
    · obtain ⟨b, off, spot⟩ := a
      have h0 : w.cell? (((⟨b, off, spot⟩ : Addr).add (0 * r.k)).add 0) = some ((r.enc (f 0))[0]'(by rw [hk.len]; exact hk.pos)) := by
        rw [(hf 0 hpos).2 0 hk.pos]; exact List.getElem?_eq_getElem _
      have hs := World.cell?_spot h0
      have hspot : spot = none := by simpa [Addr.add] using hs
      subst hspot
      have hlt : b < w.heap.size := by
        rw [Addr.add_lit, Addr.add_lit] at h0
        exact World.block_lt_of_cell? w _ h0
      refine ⟨onB b, (List.range len).map f, ⟨some ⟨b, off, none⟩, cap, by simp, by simpa using hl, hm, (fun e => by cases e), onB_live hlt, fun _ => ⟨b, off, rfl, rfl, fun j u hj => ?_⟩⟩, fun i hi2 => ?_⟩
      · have hjl : j < ((List.range len).map f).length * r.k := by
          rw [← flat_len (r := r)]
          exact (List.getElem?_eq_some_iff.1 hj).1
        have hjl' : j < len * r.k := by simpa using hjl
        have hi2 : j / r.k < len := Nat.div_lt_of_lt_mul (by rw [Nat.mul_comm]; exact hjl')
        have hm2 : j % r.k < r.k := Nat.mod_lt _ hk.pos
        have e := flat_at (r := r) ((List.range len).map f) (j / r.k) (j % r.k) (by simpa using hi2) hm2
        have hd : j / r.k * r.k + j % r.k = j := by rw [Nat.mul_comm]; exact Nat.div_add_mod j r.k
        rw [hd, hj, hgd _ hi2] at e
        have hcell := (hf _ hi2).2 _ hm2
        rw [Addr.add_lit, Addr.add_lit, show off + j / r.k * r.k + j % r.k = off + j by omega] at hcell
        rw [hcell, ← e]
      · have hil : i < len := by simpa using hi2
        rw [hgd i hil]; exact (hf i hil).1
    · have h0 : len = 0 := by omega
      subst h0
      exact ⟨noB, [], ⟨some a, cap, rfl, Nat.zero_le _, hm, (fun e => by cases e), (fun _ h => h.elim), fun h => absurd h (by simp)⟩, fun i h => absurd h (by simp)⟩

theorem Try.cellsVecR : Try.prog.cellsOf 33 = 2 := by kernel_rfl
theorem Try.cellsIntR : Try.prog.cellsOf 3 = 1 := by kernel_rfl

theorem vec_cells {fuel : Nat} {cs : List Value} {y : DataW H × List MemPlace} (h : DataW.trod enc Try.prog w base spare held fuel 33 cs = some y) :
    ∃ X Y : Int, cs = [.int .i64 X, .int .i64 Y] := by
  obtain ⟨y0, y1, n, _, hsz, h0, h1⟩ := trod_struct2 Try.underlying33 h
  rw [Try.cellsVecR] at hsz
  match cs, hsz with
  | [c0, c1], _ =>
    simp only [Try.cellsIntR, List.drop_zero, List.drop_succ_cons, List.take_succ_cons, List.take_zero] at h0 h1
    obtain ⟨X, hX, _, _⟩ := DataW.trod_int Try.underlying3 h0
    obtain ⟨Y, hY, _, _⟩ := DataW.trod_int Try.underlying3 h1
    simp only [List.cons.injEq, and_true] at hX hY
    subst hX; subst hY
    exact ⟨X, Y, rfl⟩

theorem vecs_open {fuel : Nat} {v : Value} {x : DataW H × List MemPlace} (h : DataW.trod enc Try.prog w base spare held fuel 57 [v] = some x) :
    ∃ (T : Nat → Prop) (l : List Vc), RoA rVec w T v l := by
  obtain ⟨T, l, hl, _⟩ := rows_open rVec (fun _ => True) Try.cellsVecR (fun fuel cs y hy => by
    obtain ⟨X, Y, e⟩ := vec_cells hy
    exact ⟨⟨X, Y⟩, e, trivial⟩) h
  exact ⟨T, l, hl⟩
end
end Go.Proofs.Ythhagejcgobfgaa
namespace Go.Proofs.Ythhagejcgobfgaa
open Go.ChangeShapes Go.WideShapes Go.ChangeAt Go.RowKit Go.Deep

section
variable {H : Type} {enc : TypeId × Value → H} {w : World} {base : Nat} {spare : Nat → Bool} {held : Bool}
theorem Try.cellsVec : Try.prog.cellsOf 33 = 2 := by kernel_rfl
theorem Try.cellsVecI : Try.prog.cellsOf 3 = 1 := by kernel_rfl
theorem vec_open {r : Reach} {b0 : Nat} {v : Value} {d : DataW H} {ps : List MemPlace} (hval : Value.okWide Try.prog w r b0 33 v) (h : DataW.Trod enc Try.prog w base spare held 33 v d ps) :
    ∃ X Y : Int, v = .agg #[.int .i64 X, .int .i64 Y] := by
  obtain ⟨cs, rfl, hsz⟩ := okWide_struct Try.underlying33 hval
  rw [Try.cellsVec] at hsz
  obtain ⟨cs⟩ := cs
  obtain ⟨fuel, hf⟩ := h
  match cs, hsz with
  | [c0, c1], _ =>
    obtain ⟨y0, y1, n, _, _, h0, h1⟩ := trod_struct2 (cs := [c0, c1]) Try.underlying33 hf
    simp only [Try.cellsVecI, List.drop_zero, List.drop_succ_cons, List.take_succ_cons, List.take_zero] at h0 h1
    obtain ⟨X, hX, _, _⟩ := DataW.trod_int Try.underlying3 h0
    obtain ⟨Y, hY, _, _⟩ := DataW.trod_int Try.underlying3 h1
    simp only [List.cons.injEq, and_true] at hX hY
    subst hX; subst hY
    exact ⟨X, Y, rfl⟩
end
end Go.Proofs.Ythhagejcgobfgaa
