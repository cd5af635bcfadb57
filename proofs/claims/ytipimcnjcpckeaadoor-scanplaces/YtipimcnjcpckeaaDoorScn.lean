/- What scan's functions do. -/
import Derived.Test.YtipimcnjcpckeaaDoorSRf
import Derived.Test.YtipimcnjcpckeaaDoorSGo
import Derived.Test.YtipimcnjcpckeaaDoorSg
import Derived.Test.YtipimcnjcpckeaaDoorSv
namespace Go.Proofs.YtipimcnjcpckeaaDoor
open Go.RowKit

/-- What is asked of the package's variables. -/
def ScanIn (w : World) : Prop := BlkG w 0 ordB
theorem ScanIn.all {w w' : World} (h : ScanIn w) (k : Kept (fun _ => False) w w') : ScanIn w' := BlkG.all h k id
theorem ScanIn.but {w w' : World} {T : Nat → Prop} (h : ScanIn w) (k : Kept T w w') (ha : ∀ i, T i → 1 ≤ i) : ScanIn w' := BlkG.all h k (fun x => absurd (ha _ x) (by decide))
theorem ScanIn.pos {w : World} (h : ScanIn w) : 1 ≤ w.heap.size := BlkG.lt h

theorem above {w0 : World} {T : Nat → Prop} (g : Grew w0 noB T) (h : ScanIn w0) : ∀ i, T i → 1 ≤ i := fun i hi => by
  have := BlkG.lt h
  rcases g i hi with h1 | h1
  · exact h1.elim
  · omega
theorem above2 {w0 : World} {B T : Nat → Prop} (g : Grew w0 B T) (hB : ∀ i, B i → 1 ≤ i) (h : ScanIn w0) : ∀ i, T i → 1 ≤ i := fun i hi => by
  have := BlkG.lt h
  rcases g i hi with h1 | h1
  · exact hB i h1
  · omega

/-- A block's levels, to be ranged over: the block lies in memory. -/
def Lvs (w : World) (T : Nat → Prop) (p : Nat) (b : Nat → Int) : Prop := T = onB p ∧ Blk w p 41 b
theorem Lvs.live {w : World} {T : Nat → Prop} {p : Nat} {b : Nat → Int} (h : Lvs w T p b) : Live w T := by
  obtain ⟨rfl, h⟩ := h; exact onB_live h.lt
theorem Lvs.all {S : Nat → Prop} {w w' : World} {T : Nat → Prop} {p : Nat} {b : Nat → Int} (h : Lvs w T p b) (k : Kept S w w') (ha : Apart T S) : Lvs w' T p b := by
  obtain ⟨rfl, h⟩ := h; exact ⟨rfl, h.all k (ha p rfl)⟩
theorem Lvs.cells {w : World} {T : Nat → Prop} {p : Nat} {b : Nat → Int} (h : Lvs w T p b) : Cells w T := by
  obtain ⟨rfl, h⟩ := h; exact h.cells
theorem Lvs.row {A B : World} {row : Option Nat} {n p : Nat} {T : Nat → Prop} {b : Nat → Int} (h : Lvs A T p b) (hg : A.grownBy B row) (hr : RowNew n A row) : Lvs B T p b := h.all (kept_row hg) (h.cells.apart hr)

section
variable {P : Program} {ρ : Operand → Value} {o : Oper} {w : World} {R : Value → World → Prop}
theorem y_clo {f : FuncId} {x : Operand} {v : Value} (ho : o.op = .makeFunc (.func f) #[] #[x]) (hx : ρ x = v) (h : R (.func (.func f) #[] #[v]) w) : Yields P ρ o w R :=
  y_of (v := .func (.func f) #[] #[v]) (w' := w) (by simp [execOp, ho, hx, show ∀ cap, (Instr.makeFunc (.func f) #[] cap).run P w = .ok (.func (.func f) #[] cap) w from fun _ => rfl]) h
theorem y_noNil {t t' : TypeId} {x y : Operand} {a : Addr} (ho : o.op = .binOp .eql t x y t') (hx : ρ x = .pointer (some a)) (hy : ρ y = .pointer none) {d : TypeId} (hu : P.underlying t = some (.pointer d)) (h : R (.bool false) w) : Yields P ρ o w R :=
  y_of (v := .bool false) (w' := w) (by
    have hq : P.underlying t = some (.pointer (P.pointee t)) := by simp [Program.pointee, hu]
    simp [execOp, ho, hx, hy, run_eql_pointer_nil w t (some a) hq, go_sem]) h
end

set_option maxHeartbeats 4000000 in
set_option maxRecDepth 100000 in
theorem scan_order (w0 : World) (hO : ScanIn w0) :
    Calls Tryd.prog 12 #[] w0 fun e w' => e = .returned (blkV (ordB)) ∧ Kept (fun _ => False) w0 w' := by
  refine calls_wq (args := []) 2 Tryd.func12 rfl rfl (Nat.le_of_ble_eq_true rfl) ?_
  have K0 := Kept.refl (fun _ => False) w0
  refine wq_seq ?_
  refine wq_region ?_
  refine wl_alloc_blk rfl rfl rfl blkT_arr.2.2 fun p1 w2 e5 B3 k4 => ?_
  have g6 := onB_new (Nat.le_of_eq e5.symm)
  have gr7 : Grew w0 noB (onB p1) := Grew.new K0 g6
  clear e5 g6
  have K8 := K0.trans k4 (fun _ _ x => x.elim)
  refine wl_nil fun F9 hF10 => ?_
  have s11 : F9 2 = undef := (hF10 2).trans rfl
  have s12 : F9 0 = .pointer (some ⟨p1, 0, none⟩) := (hF10 0).trans rfl
  clear hF10
  refine then_normal ?_
  refine wq_seq ?_
  refine wq_region ?_
  refine wl_v (blkV (ordB)) rfl rfl (y_load_glob blkT_arr rfl rfl ((hO.all K8)) ⟨rfl, rfl⟩) ?_
  refine wl_store_blk blkT_arr rfl rfl rfl s12 rfl B3 fun w13 B14 k15 => ?_
  have K16 := K8.trans k15 (Grew.ok (S := fun _ => False) gr7 noB_le)
  refine wl_nil fun F17 hF18 => ?_
  have s19 : F17 2 = undef := (hF18 2).trans s11
  have s20 : F17 0 = .pointer (some ⟨p1, 0, none⟩) := (hF18 0).trans s12
  clear hF18
  refine then_normal ?_
  refine wq_ret ?_
  exact end_blk blkT_arr s19 rfl rfl s20 B14 ⟨rfl, K16⟩

set_option maxHeartbeats 4000000 in
set_option maxRecDepth 100000 in
theorem scan_clamped (n : Int) (w0 : World) :
    Calls Tryd.prog 34 #[.int .i64 (n)] w0 fun e w' => e = .returned (.int .i64 (cl 1048576 n)) ∧ Kept (fun _ => False) w0 w' := by
  refine calls_wq (args := [.int .i64 (n)]) 6 Tryd.func34 rfl rfl (Nat.le_of_ble_eq_true rfl) ?_
  have K0 := Kept.refl (fun _ => False) w0
  refine wq_seq ?_
  refine wq_region ?_
  refine wl_v (.int .i64 (0)) rfl rfl (y_asg rfl rfl ⟨rfl, rfl⟩) ?_
  refine wl_nil fun F1 hF2 => ?_
  have s3 : F1 0 = .int .i64 (n) := (hF2 0).trans rfl
  have s4 : F1 6 = undef := (hF2 6).trans rfl
  clear hF2
  refine then_normal ?_
  refine wq_seq ?_
  refine wq_region ?_
  refine wl_v (.int .i64 (n)) rfl rfl (y_mov rfl s3 ⟨rfl, rfl⟩) ?_
  refine wl_v (.int .i64 (min (n) (1048576))) rfl rfl (y_minR rfl rfl rfl rfl ⟨rfl, rfl⟩) ?_
  refine wl_v (.int .i64 (cl 1048576 n)) rfl rfl (y_maxR rfl rfl rfl (by unfold cl; omega) ⟨rfl, rfl⟩) ?_
  refine wl_v (.int .i64 (cl 1048576 n)) rfl rfl (y_asg rfl rfl ⟨rfl, rfl⟩) ?_
  refine wl_nil fun F5 hF6 => ?_
  have s7 : F5 6 = undef := (hF6 6).trans s4
  have s8 : F5 2 = .int .i64 (cl 1048576 n) := (hF6 2).trans rfl
  clear hF6
  refine then_normal ?_
  refine wq_ret ?_
  exact end_tmp (v := .int .i64 (cl 1048576 n)) s7 rfl rfl s8 ⟨rfl, K0⟩

set_option maxHeartbeats 4000000 in
set_option maxRecDepth 100000 in
theorem scan_levels (b : Nat → Int) (w0 : World) :
    Calls Tryd.prog 28 #[blkV (b)] w0 fun e w' => ∃ (v1 : Nat) (T1 : Nat → Prop), e = .returned (.func (.func 46) #[] #[.pointer (some ⟨v1, 0, none⟩)]) ∧ Kept (fun _ => False) w0 w' ∧ (Lvs w' T1 v1 (b) ∧ Grew w0 noB T1) := by
  refine calls_wq (args := [blkV (b)]) 4 Tryd.func28 rfl rfl (Nat.le_of_ble_eq_true rfl) ?_
  have K0 := Kept.refl (fun _ => False) w0
  refine wq_seq ?_
  refine wq_region ?_
  refine wl_box_blk rfl rfl rfl rfl fun p1 w2 e5 B3 k4 => ?_
  have g6 := onB_new (Nat.le_of_eq e5.symm)
  have gr7 : Grew w0 noB (onB p1) := Grew.new K0 g6
  clear e5 g6
  have K8 := K0.trans k4 (fun _ _ x => x.elim)
  refine wl_v (Value.nilFunc) rfl rfl (y_asg rfl rfl ⟨rfl, rfl⟩) ?_
  refine wl_nil fun F9 hF10 => ?_
  have s11 : F9 4 = undef := (hF10 4).trans rfl
  have s12 : F9 1 = .pointer (some ⟨p1, 0, none⟩) := (hF10 1).trans rfl
  clear hF10
  refine then_normal ?_
  refine wq_seq ?_
  refine wq_region ?_
  refine wl_v (.func (.func 46) #[] #[.pointer (some ⟨p1, 0, none⟩)]) rfl rfl (y_clo rfl s12 ⟨rfl, rfl⟩) ?_
  refine wl_v (.func (.func 46) #[] #[.pointer (some ⟨p1, 0, none⟩)]) rfl rfl (y_asg rfl rfl ⟨rfl, rfl⟩) ?_
  refine wl_nil fun F13 hF14 => ?_
  have s15 : F13 4 = undef := (hF14 4).trans s11
  have s16 : F13 2 = .func (.func 46) #[] #[.pointer (some ⟨p1, 0, none⟩)] := (hF14 2).trans rfl
  clear hF14
  refine then_normal ?_
  refine wq_ret ?_
  exact end_tmp (v := .func (.func 46) #[] #[.pointer (some ⟨p1, 0, none⟩)]) s15 rfl rfl s16 ⟨p1, onB p1, rfl, K8, ⟨⟨rfl, B3⟩, gr7⟩⟩

set_option maxHeartbeats 4000000 in
set_option maxRecDepth 100000 in
theorem levels_go (b : Nat → Int) (p : Nat) (l : Nat) (J Jx : List (Nat × Int) → World → Prop) (T_j : Nat → Prop) (w0 : World) (hO : ScanIn w0) (hG : ∀ i, T_j i → 1 ≤ i) (h_p : Blk w0 p 41 (b)) (ap_p : Apart T_j (onB p))
    (hY : ∀ (pre : List (Nat × Int)) (x : Nat × Int) (W1 : World), J pre W1 → pre.length < 16 → YieldAt Fence.wide 0 Tryd.prog l ((fun x => [.int .i64 ((x.1 : Nat) : Int), .int .i64 x.2]) x).toArray W1 fun e W' => (e = .returned (.bool true) ∧ J (pre ++ [x]) W' ∧ Kept T_j W1 W') ∨ (e = .returned (.bool false) ∧ Jx (pre ++ [x]) W')) (h_j : Jat w0 T_j J []) :
    Calls Tryd.prog 46 #[.func (.yield l) #[] #[], .pointer (some ⟨p, 0, none⟩)] w0 fun e w' => (∃ v, e = .returned v) ∧ (J (runs 0 (lvls b)) w' ∨ ∃ pre, Jx pre w') := by
  refine calls_wq (args := [.func (.yield l) #[] #[], .pointer (some ⟨p, 0, none⟩)]) 25 Tryd.func46 rfl rfl (Nat.le_of_ble_eq_true rfl) ?_
  have K0 := Kept.refl (T_j) w0
  refine wq_seq ?_
  refine wq_region ?_
  refine wl_v (.int .i64 (0)) rfl rfl (y_asg rfl rfl ⟨rfl, rfl⟩) ?_
  refine wl_nil fun F1 hF2 => ?_
  have s3 : F1 0 = .func (.yield l) #[] #[] := (hF2 0).trans rfl
  have s4 : F1 1 = .pointer (some ⟨p, 0, none⟩) := (hF2 1).trans rfl
  have s5 : F1 25 = undef := (hF2 25).trans rfl
  have s6 : F1 3 = .int .i64 (0) := (hF2 3).trans rfl
  clear hF2
  refine then_normal ?_
  refine wq_seq ?_
  refine wq_region ?_
  refine wl_v (blkV (ordB)) rfl rfl (y_load_glob blkT_arr rfl rfl ((hO.but K0 hG)) ⟨rfl, rfl⟩) ?_
  refine wl_v (.int .i64 (0)) rfl rfl (y_mov rfl rfl ⟨rfl, rfl⟩) ?_
  refine wl_nil fun F7 hF8 => ?_
  have s9 : F7 0 = .func (.yield l) #[] #[] := (hF8 0).trans s3
  have s10 : F7 1 = .pointer (some ⟨p, 0, none⟩) := (hF8 1).trans s4
  have s11 : F7 25 = undef := (hF8 25).trans s5
  have s12 : F7 3 = .int .i64 (0) := (hF8 3).trans s6
  have s13 : F7 7 = blkV (ordB) := (hF8 7).trans rfl
  have s14 : F7 8 = .int .i64 (0) := (hF8 8).trans rfl
  clear hF8
  refine then_normal ?_
  refine wq_block ?_
  refine wq_loop (fun nn FF ww => ∃ (k : Nat), k ≤ 16 ∧ nn = 16 - k ∧ FF 0 = .func (.yield l) #[] #[] ∧ FF 1 = .pointer (some ⟨p, 0, none⟩) ∧ FF 7 = blkV (ordB) ∧ FF 25 = undef ∧ FF 3 = .int .i64 ((((goneTo b k).1 : Nat) : Int)) ∧ FF 8 = .int .i64 (((k : Nat) : Int)) ∧ Kept (T_j) w0 ww ∧ Jat ww (T_j) J ((goneTo b k).2) ∧ Blk ww p 41 (b)) (16 - (0)) ⟨0, by omega, rfl, s9, s10, s13, s11, s12, s14, K0, h_j, h_p⟩ ?_
  rintro n18 F15 w16 ⟨k, i19, hn18, s20, s21, s22, s23, s24, s25, K17, B26, B27⟩
  refine wq_seq ?_
  refine wq_region ?_
  refine wl_v (.bool (decide ((((k : Nat) : Int)) < (16)))) rfl rfl (y_lss rfl s25 rfl rfl ⟨rfl, rfl⟩) ?_
  refine wl_nil fun F28 hF29 => ?_
  have s30 : F28 0 = .func (.yield l) #[] #[] := (hF29 0).trans s20
  have s31 : F28 1 = .pointer (some ⟨p, 0, none⟩) := (hF29 1).trans s21
  have s32 : F28 7 = blkV (ordB) := (hF29 7).trans s22
  have s33 : F28 25 = undef := (hF29 25).trans s23
  have s34 : F28 3 = .int .i64 ((((goneTo b k).1 : Nat) : Int)) := (hF29 3).trans s24
  have s35 : F28 8 = .int .i64 (((k : Nat) : Int)) := (hF29 8).trans s25
  have s36 : F28 9 = .bool (decide ((((k : Nat) : Int)) < (16))) := (hF29 9).trans rfl
  clear hF29
  refine then_normal ?_
  refine wq_seq ?_
  refine wq_cond s36 (fun c37 => ?_) (fun c37 => ?_)
  · replace c37 := of_decide_eq_true c37
    refine wq_skip ?_
    refine then_normal ?_
    refine wq_seq ?_
    refine wq_block ?_
    refine wq_seq ?_
    refine wq_region ?_
    refine wl_v (.int .i64 (((ord k : Nat) : Int))) rfl rfl (y_look (k) blkT_arr rfl s32 s35 (by omega) (rfl) ⟨rfl, rfl⟩) ?_
    refine wl_v (.int .i64 (((ord k : Nat) : Int))) rfl rfl (y_asg rfl rfl ⟨rfl, rfl⟩) ?_
    refine wl_nil fun F38 hF39 => ?_
    have s40 : F38 0 = .func (.yield l) #[] #[] := (hF39 0).trans s30
    have s41 : F38 1 = .pointer (some ⟨p, 0, none⟩) := (hF39 1).trans s31
    have s42 : F38 7 = blkV (ordB) := (hF39 7).trans s32
    have s43 : F38 25 = undef := (hF39 25).trans s33
    have s44 : F38 3 = .int .i64 ((((goneTo b k).1 : Nat) : Int)) := (hF39 3).trans s34
    have s45 : F38 8 = .int .i64 (((k : Nat) : Int)) := (hF39 8).trans s35
    have s46 : F38 5 = .int .i64 (((ord k : Nat) : Int)) := (hF39 5).trans rfl
    clear hF39
    refine then_normal ?_
    refine wq_seq ?_
    have ho := ord_lt k (by omega)
    have ht := gone_le b k
    refine wq_region ?_
    refine wl_v (.int .i64 (((ord k : Nat) : Int))) rfl rfl (y_mov rfl s46 ⟨rfl, rfl⟩) ?_
    refine wl_v (.pointer (some ⟨p, ord k, none⟩)) rfl rfl (y_atR (ord k) (s := 1) rfl s41 rfl (by omega) Tryd.underlying41 (by omega) (by kernel_rfl) (by omega) ⟨rfl, rfl⟩) ?_
    refine wl_v (.int .i64 ((b) (ord k))) rfl rfl (y_ldR rfl rfl Tryd.underlying3 ((B27).cell (by omega)) ⟨rfl, rfl⟩) ?_
    refine wl_call (R := fun v_ w_ => v_ = .int .i64 (lvl b k) ∧ Kept (fun _ => False) w16 w_) rfl rfl (y_cs rfl rfl rfl (fun _ _ => by kernel_rfl) (ev_func _) (vsC rfl vsN) (scan_clamped ((b) (ord k))  _   ) (fun e_ w_ h_ => ⟨_, h_.1, rfl, h_.2⟩)) ?_
    rintro _ w47 ⟨rfl, k48⟩
    have B49 := B26.all k48 Apart.none
    have B50 := B27.all k48 id
    have K51 := K17.trans k48 (fun _ _ x => x.elim)
    refine wl_v (.int .i64 (lvl b k)) rfl rfl (y_asg rfl rfl ⟨rfl, rfl⟩) ?_
    refine wl_nil fun F52 hF53 => ?_
    have s54 : F52 0 = .func (.yield l) #[] #[] := (hF53 0).trans s40
    have s55 : F52 1 = .pointer (some ⟨p, 0, none⟩) := (hF53 1).trans s41
    have s56 : F52 7 = blkV (ordB) := (hF53 7).trans s42
    have s57 : F52 25 = undef := (hF53 25).trans s43
    have s58 : F52 3 = .int .i64 ((((goneTo b k).1 : Nat) : Int)) := (hF53 3).trans s44
    have s59 : F52 8 = .int .i64 (((k : Nat) : Int)) := (hF53 8).trans s45
    have s60 : F52 6 = .int .i64 (lvl b k) := (hF53 6).trans rfl
    clear hF53
    refine then_normal ?_
    refine wq_seq ?_
    refine wq_seq ?_
    refine wq_region ?_
    refine wl_v (.int .i64 (lvl b k)) rfl rfl (y_mov rfl s60 ⟨rfl, rfl⟩) ?_
    refine wl_v (.bool (decide ((lvl b k) = (0)))) rfl rfl (y_eqlI rfl rfl rfl rfl ⟨rfl, rfl⟩) ?_
    refine wl_nil fun F61 hF62 => ?_
    have s63 : F61 0 = .func (.yield l) #[] #[] := (hF62 0).trans s54
    have s64 : F61 1 = .pointer (some ⟨p, 0, none⟩) := (hF62 1).trans s55
    have s65 : F61 7 = blkV (ordB) := (hF62 7).trans s56
    have s66 : F61 25 = undef := (hF62 25).trans s57
    have s67 : F61 3 = .int .i64 ((((goneTo b k).1 : Nat) : Int)) := (hF62 3).trans s58
    have s68 : F61 8 = .int .i64 (((k : Nat) : Int)) := (hF62 8).trans s59
    have s69 : F61 6 = .int .i64 (lvl b k) := (hF62 6).trans s60
    have s70 : F61 16 = .bool (decide ((lvl b k) = (0))) := (hF62 16).trans rfl
    clear hF62
    refine then_normal ?_
    refine wq_cond s70 (fun c71 => ?_) (fun c71 => ?_)
    · replace c71 := of_decide_eq_true c71
      refine wq_seq ?_
      refine wq_region ?_
      refine wl_v (.int .i64 ((((goneTo b k).1 : Nat) : Int))) rfl rfl (y_mov rfl s67 ⟨rfl, rfl⟩) ?_
      refine wl_v (.int .i64 (((((goneTo b k).1) + 1 : Nat) : Int))) rfl rfl (y_add rfl rfl rfl (i64_n (by omega) (by omega)) ⟨rfl, rfl⟩) ?_
      refine wl_v (.int .i64 (((((goneTo b k).1) + 1 : Nat) : Int))) rfl rfl (y_asg rfl rfl ⟨rfl, rfl⟩) ?_
      refine wl_nil fun F72 hF73 => ?_
      have s74 : F72 0 = .func (.yield l) #[] #[] := (hF73 0).trans s63
      have s75 : F72 1 = .pointer (some ⟨p, 0, none⟩) := (hF73 1).trans s64
      have s76 : F72 7 = blkV (ordB) := (hF73 7).trans s65
      have s77 : F72 25 = undef := (hF73 25).trans s66
      have s78 : F72 8 = .int .i64 (((k : Nat) : Int)) := (hF73 8).trans s68
      have s79 : F72 3 = .int .i64 (((((goneTo b k).1) + 1 : Nat) : Int)) := (hF73 3).trans rfl
      clear hF73
      refine then_normal ?_
      refine wq_exit ?_
      refine then_exit ?_
      refine in_here ?_
      refine then_normal ?_
      refine wq_region ?_
      refine wl_v (.int .i64 (((k + 1 : Nat) : Int))) rfl rfl (y_add rfl s78 rfl (i64_n (by omega) (by omega)) ⟨rfl, rfl⟩) ?_
      refine wl_v (.int .i64 (((k + 1 : Nat) : Int))) rfl rfl (y_mov rfl rfl ⟨rfl, rfl⟩) ?_
      refine wl_nil fun F80 hF81 => ?_
      have s82 : F80 0 = .func (.yield l) #[] #[] := (hF81 0).trans s74
      have s83 : F80 1 = .pointer (some ⟨p, 0, none⟩) := (hF81 1).trans s75
      have s84 : F80 7 = blkV (ordB) := (hF81 7).trans s76
      have s85 : F80 25 = undef := (hF81 25).trans s77
      have s86 : F80 3 = .int .i64 (((((goneTo b k).1) + 1 : Nat) : Int)) := (hF81 3).trans s79
      have s87 : F80 8 = .int .i64 (((k + 1 : Nat) : Int)) := (hF81 8).trans rfl
      clear hF81
      exact then_normal ⟨(16 - (k + 1)), by omega, k + 1, by omega, rfl, s82, s83, s84, s85, (by first | (rw [gone_zero b k (by assumption)]; exact s86) | (rw [gone_some b k (by assumption)]; exact s86)), s87, K51, (by first | (rw [gone_zero b k (by assumption)]; exact B49) | (rw [gone_some b k (by assumption)]; exact B49)), B50⟩
    · replace c71 := of_decide_eq_false c71
      refine wq_skip ?_
      refine then_normal ?_
      refine wq_seq ?_
      refine wq_seq ?_
      refine wq_region_y ?_
      refine wl_v (.func (.yield l) #[] #[]) rfl rfl (y_mov rfl s63 ⟨rfl, rfl⟩) ?_
      refine wl_v (.int .i64 ((((goneTo b k).1 : Nat) : Int))) rfl rfl (y_mov rfl s67 ⟨rfl, rfl⟩) ?_
      refine wl_v (.int .i64 (lvl b k)) rfl rfl (y_mov rfl s69 ⟨rfl, rfl⟩) ?_
      refine wl_yield rfl rfl rfl rfl rfl rfl (vsC rfl (vsC rfl vsN)) (hY ((goneTo b k).2) (((goneTo b k).1, lvl b k)) _ B49.1 (by omega)) ?_
      rintro _ w88 (⟨rfl, j90, k89⟩ | ⟨rfl, x91⟩)
      · refine ⟨_, rfl, ?_⟩
        have B92 := B49.next k89.size j90
        have B93 := B50.all k89 (fun x => (((ap_p).symm) p rfl x))
        have K94 := K51.trans k89 (fun _ _ x => x)
        refine wl_v (.bool false) rfl rfl (y_not rfl rfl rfl ⟨rfl, rfl⟩) ?_
        refine wl_nil fun F95 hF96 => ?_
        have s97 : F95 0 = .func (.yield l) #[] #[] := (hF96 0).trans s63
        have s98 : F95 1 = .pointer (some ⟨p, 0, none⟩) := (hF96 1).trans s64
        have s99 : F95 7 = blkV (ordB) := (hF96 7).trans s65
        have s100 : F95 25 = undef := (hF96 25).trans s66
        have s101 : F95 8 = .int .i64 (((k : Nat) : Int)) := (hF96 8).trans s68
        have s102 : F95 23 = .bool false := (hF96 23).trans rfl
        clear hF96
        refine then_normal ?_
        refine wq_cond (t := false) s102 (fun e => by cases e) (fun _ => ?_)
        refine wq_skip ?_
        refine then_normal ?_
        refine wq_region ?_
        refine wl_v (.int .i64 (0)) rfl rfl (y_asg rfl rfl ⟨rfl, rfl⟩) ?_
        refine wl_nil fun F103 hF104 => ?_
        have s105 : F103 0 = .func (.yield l) #[] #[] := (hF104 0).trans s97
        have s106 : F103 1 = .pointer (some ⟨p, 0, none⟩) := (hF104 1).trans s98
        have s107 : F103 7 = blkV (ordB) := (hF104 7).trans s99
        have s108 : F103 25 = undef := (hF104 25).trans s100
        have s109 : F103 8 = .int .i64 (((k : Nat) : Int)) := (hF104 8).trans s101
        have s110 : F103 3 = .int .i64 (0) := (hF104 3).trans rfl
        clear hF104
        refine in_normal ?_
        refine then_normal ?_
        refine wq_region ?_
        refine wl_v (.int .i64 (((k + 1 : Nat) : Int))) rfl rfl (y_add rfl s109 rfl (i64_n (by omega) (by omega)) ⟨rfl, rfl⟩) ?_
        refine wl_v (.int .i64 (((k + 1 : Nat) : Int))) rfl rfl (y_mov rfl rfl ⟨rfl, rfl⟩) ?_
        refine wl_nil fun F111 hF112 => ?_
        have s113 : F111 0 = .func (.yield l) #[] #[] := (hF112 0).trans s105
        have s114 : F111 1 = .pointer (some ⟨p, 0, none⟩) := (hF112 1).trans s106
        have s115 : F111 7 = blkV (ordB) := (hF112 7).trans s107
        have s116 : F111 25 = undef := (hF112 25).trans s108
        have s117 : F111 3 = .int .i64 (0) := (hF112 3).trans s110
        have s118 : F111 8 = .int .i64 (((k + 1 : Nat) : Int)) := (hF112 8).trans rfl
        clear hF112
        exact then_normal ⟨(16 - (k + 1)), by omega, k + 1, by omega, rfl, s113, s114, s115, s116, (by first | (rw [gone_zero b k (by assumption)]; exact s117) | (rw [gone_some b k (by assumption)]; exact s117)), s118, K94, (by first | (rw [gone_zero b k (by assumption)]; exact B92) | (rw [gone_some b k (by assumption)]; exact B92)), B93⟩
      · refine ⟨_, rfl, ?_⟩
        refine wl_v (.bool true) rfl rfl (y_not rfl rfl rfl ⟨rfl, rfl⟩) ?_
        refine wl_nil fun F119 hF120 => ?_
        have s121 : F119 0 = .func (.yield l) #[] #[] := (hF120 0).trans s63
        have s122 : F119 1 = .pointer (some ⟨p, 0, none⟩) := (hF120 1).trans s64
        have s123 : F119 7 = blkV (ordB) := (hF120 7).trans s65
        have s124 : F119 25 = undef := (hF120 25).trans s66
        have s125 : F119 8 = .int .i64 (((k : Nat) : Int)) := (hF120 8).trans s68
        have s126 : F119 23 = .bool true := (hF120 23).trans rfl
        clear hF120
        refine then_normal ?_
        refine wq_cond (t := true) s126 (fun _ => ?_) (fun e => by cases e)
        refine wq_ret ?_
        refine then_ret ?_
        refine in_ret ?_
        refine then_ret ?_
        refine then_ret ?_
        refine in_ret ?_
        exact end_none_ret s124 rfl ⟨⟨_, rfl⟩, Or.inr ⟨_, x91⟩⟩
  · replace c37 := of_decide_eq_false c37
    refine wq_exit ?_
    refine then_exit ?_
    refine then_exit ?_
    have l127 : 16 = k := by omega
    subst l127
    refine in_here ?_
    exact end_none s33 rfl ⟨⟨_, rfl⟩, Or.inl ((by rw [← gone_all]; exact B26.1))⟩
theorem kept_of_below {w w' : World} (h : Below w.heap.size w w') : Kept (fun _ => False) w w' := ⟨h.os, h.tape, h.output, h.size, fun k hk _ => h.block k hk⟩
theorem levels_seq (b : Nat → Int) (p : Nat) (w : World) (hO : ScanIn w) (hp : Blk w p 41 b) :
    SeqStopsK Fence.wide 1 Tryd.prog 46 #[.pointer (some ⟨p, 0, none⟩)] (fun x : Nat × Int => [.int .i64 ((x.1 : Nat) : Int), .int .i64 x.2].toArray) (Kept (fun i => 1 ≤ i ∧ i ≠ p)) (fun xs => xs = runs 0 (lvls b)) (fun _ => True) 16 w := by
  intro l J Jx W hB hJ hJx hY h0
  have k := kept_of_below hB
  refine callsIn_wide.2 ((levels_go b p l J Jx (fun i => 1 ≤ i ∧ i ≠ p) W (hO.all k) (fun i h => h.1) (hp.all k id) (fun i h e => h.2 e) hY ⟨h0, hJ⟩).mono ?_)
  rintro e w' ⟨hv, h⟩
  exact ⟨hv, h.elim (fun h => .inl ⟨_, rfl, h⟩) (fun ⟨pre, h⟩ => .inr ⟨pre, trivial, h⟩)⟩
theorem beyond {w : World} {p : Nat} {T : Nat → Prop} {b : Nat → Int} (hO : ScanIn w) (h : Lvs w T p b) : ∀ i, w.heap.size ≤ i → 1 ≤ i ∧ i ≠ p := fun i hi => by
  have h1 := hO.pos
  have h2 := h.2.lt
  exact ⟨by omega, by omega⟩

set_option maxHeartbeats 4000000 in
set_option maxRecDepth 100000 in
theorem scan_many (b : Nat → Int) (w0 : World) (hO : ScanIn w0) :
    Calls Tryd.prog 27 #[blkV (b)] w0 fun e w' => e = .returned (.int .i64 ((((runs 0 (lvls b)).length : Nat) : Int))) ∧ Kept (fun _ => False) w0 w' := by
  refine calls_wm (args := [blkV (b)]) 11 Tryd.func27 rfl rfl (Nat.le_of_ble_eq_true rfl) ?_
  have K0 := Kept.refl (fun _ => False) w0
  refine wq_seq ?_
  refine wq_region ?_
  refine wl_box_blk rfl rfl rfl rfl fun p1 w2 e5 B3 k4 => ?_
  have g6 := onB_new (Nat.le_of_eq e5.symm)
  have gr7 : Grew w0 noB (onB p1) := Grew.new K0 g6
  clear e5 g6
  have K8 := K0.trans k4 (fun _ _ x => x.elim)
  refine wl_v (.int .i64 (0)) rfl rfl (y_asg rfl rfl ⟨rfl, rfl⟩) ?_
  refine wl_nil fun F9 hF10 => ?_
  have s11 : F9 0 = blkV (b) := (hF10 0).trans rfl
  have s12 : F9 11 = undef := (hF10 11).trans rfl
  have s13 : F9 1 = .pointer (some ⟨p1, 0, none⟩) := (hF10 1).trans rfl
  have s14 : F9 2 = .int .i64 (0) := (hF10 2).trans rfl
  clear hF10
  refine then_normal ?_
  refine wq_seq ?_
  refine wq_region ?_
  refine wl_alloc_cel (v := .int .i64 (0)) rfl rfl rfl (by kernel_rfl) rfl fun p15 w16 B19 g21 k17 => ?_
  have gr22 : Grew w0 noB (onB p15) := Grew.new K8 g21
  have ap23 : Apart (onB p15) (onB p1) := Apart.new g21 (onB_live (B3).lt)
  have B24 := B3.all k17 id
  have K25 := K8.trans k17 (fun _ _ x => x.elim)
  refine wl_store_cel rfl rfl rfl rfl rfl B19 (by rfl) (by kernel_rfl) fun w26 B27 k28 => ?_
  have B29 := B24.all k28 (fun x => (((ap23).symm) p1 rfl x))
  have K30 := K25.trans k28 (Grew.ok (S := fun _ => False) gr22 noB_le)
  refine wl_nil fun F31 hF32 => ?_
  have s33 : F31 0 = blkV (b) := (hF32 0).trans s11
  have s34 : F31 11 = undef := (hF32 11).trans s12
  have s35 : F31 1 = .pointer (some ⟨p1, 0, none⟩) := (hF32 1).trans s13
  have s36 : F31 2 = .int .i64 (0) := (hF32 2).trans s14
  have s37 : F31 3 = .pointer (some ⟨p15, 0, none⟩) := (hF32 3).trans rfl
  clear hF32
  refine then_normal ?_
  refine wq_seq ?_
  refine wq_seq ?_
  refine wq_region ?_
  refine wl_v (blkV (b)) rfl rfl (y_load_blk blkT_block rfl s35 B29 ⟨rfl, rfl⟩) ?_
  refine wl_call (R := fun v_ w_ => ∃ (v38 : Nat) (T41 : Nat → Prop), .func (.func 46) #[] #[.pointer (some ⟨v38, 0, none⟩)] = v_ ∧ Kept (fun _ => False) w26 w_ ∧ (Lvs w_ T41 v38 ((b)) ∧ Grew w26 noB T41)) rfl rfl (y_cs rfl rfl rfl (fun _ _ => by kernel_rfl) (ev_func _) (vsC rfl vsN) (scan_levels (b)  _   ) (fun e_ w_ h_ => by obtain ⟨v38_, T41_, he_, hr_⟩ := h_; exact ⟨_, he_, v38_, T41_, rfl, hr_⟩)) ?_
  rintro _ w39 ⟨v38, T41, rfl, k40, ⟨B42, g43⟩⟩
  have B44 := B29.all k40 id
  have B45 := B27.all k40 id
  have K46 := K30.trans k40 (fun _ _ x => x.elim)
  have gr47 : Grew w0 noB (T41) := Grew.new K30 g43
  have ap48 : Apart (T41) (onB p1) := Apart.new g43 (onB_live (B29).lt)
  have ap49 : Apart (T41) (onB p15) := Apart.new g43 (onB_live (B27).lt)
  refine wl_nil fun F50 hF51 => ?_
  have s52 : F50 0 = blkV (b) := (hF51 0).trans s33
  have s53 : F50 11 = undef := (hF51 11).trans s34
  have s54 : F50 1 = .pointer (some ⟨p1, 0, none⟩) := (hF51 1).trans s35
  have s55 : F50 2 = .int .i64 (0) := (hF51 2).trans s36
  have s56 : F50 3 = .pointer (some ⟨p15, 0, none⟩) := (hF51 3).trans s37
  have s57 : F50 5 = .func (.func 46) #[] #[.pointer (some ⟨v38, 0, none⟩)] := (hF51 5).trans rfl
  clear hF51
  refine then_normal ?_
  refine wq_block ?_
  refine wq_range (α := Nat × Int) (encs := fun x => [.int .i64 (((x.1 : Nat) : Int)), .int .i64 (x.2)]) (U := fun i => 1 ≤ i ∧ i ≠ v38) (S := fun xs => xs = runs 0 (lvls b)) (Sp := fun _ => True) (M := 16) s57 (fun _ _ => by kernel_rfl) (levels_seq b v38 _ (hO.all K46) (B42).2) (beyond (hO.all K46) B42) [6, 7] rfl (fun _ => rfl) rfl (fun pre ww => Kept (fun _ => False) w0 ww ∧ Blk ww p1 41 (b) ∧ Cel ww p15 3 (.int .i64 (((pre.length : Nat) : Int))) ∧ Lvs ww (T41) v38 ((b))) ?_ ⟨K46, B44, B45, B42⟩ (fun x FF => FF 0 = blkV (b) ∧ FF 1 = .pointer (some ⟨p1, 0, none⟩) ∧ FF 2 = .int .i64 (0) ∧ FF 3 = .pointer (some ⟨p15, 0, none⟩) ∧ FF 5 = .func (.func 46) #[] #[.pointer (some ⟨v38, 0, none⟩)] ∧ FF 11 = undef) ?_ ?_ ?_
  · rintro pre A_ B_ row_ ⟨K_, B0_, B1_, B2_⟩ hg_ hr_
    exact ⟨K_.row hg_ hr_ K46.size, B0_.row hg_ hr_, B1_.row hg_ hr_, B2_.row hg_ hr_⟩
  · intro l_ x W_
    refine wq_skip ?_
    exact held_normal ⟨s52, s54, s55, s56, s57, rfl⟩
  · rintro l_ pre x F63 w62 ⟨K58, B59, B60, B61⟩ ⟨s64, s65, s66, s67, s68, s69⟩ hlen_
    have K70 := Kept.refl (onB p15) w62
    refine wq_block ?_
    refine wq_region ?_
    refine wl_v (.int .i64 (((pre.length : Nat) : Int))) rfl rfl (y_load_cel rfl s67 Tryd.underlying3 B60 rfl ⟨rfl, rfl⟩) ?_
    refine wl_v (.int .i64 ((((pre.length) + 1 : Nat) : Int))) rfl rfl (y_add rfl rfl rfl (i64_n (by omega) (by omega)) ⟨rfl, rfl⟩) ?_
    refine wl_store_cel rfl rfl rfl s67 rfl B60 (by rfl) (by kernel_rfl) fun w71 B72 k73 => ?_
    have B74 := B59.all k73 (fun x => (((ap23).symm) p1 rfl x))
    have B75 := B61.all k73 (fun i h x => ((ap49) i h x))
    have K76 := K70.trans k73 (Grew.ok (S := onB p15) (Grew.refl w62 (onB p15)) (fun _ x => x))
    refine wl_nil fun F77 hF78 => ?_
    have s79 : F77 0 = blkV (b) := (hF78 0).trans s64
    have s80 : F77 1 = .pointer (some ⟨p1, 0, none⟩) := (hF78 1).trans s65
    have s81 : F77 2 = .int .i64 (0) := (hF78 2).trans s66
    have s82 : F77 3 = .pointer (some ⟨p15, 0, none⟩) := (hF78 3).trans s67
    have s83 : F77 5 = .func (.func 46) #[] #[.pointer (some ⟨v38, 0, none⟩)] := (hF78 5).trans s68
    have s84 : F77 11 = undef := (hF78 11).trans s69
    clear hF78
    refine in_normal ?_
    exact ⟨Cells.keeps (B60).cells K76 _, K76.mono (fun i hi h => ⟨above gr22 hO i h, fun e => (ap49).symm i h (by rw [(B42).1]; exact e)⟩), ⟨K58.trans K76 (fun i hi x => ((Grew.ok (S := fun _ => False) gr22 noB_le) i hi x)), B74, (by rw [List.length_append]; exact B72), B75⟩⟩
  · rintro D89 xs_ w90 d91 hS_ ⟨K85, B86, B87, B88⟩ B92
    subst hS_
    have B92 : Mrk w90 D89 := B92
    have gr93 : Grew w0 noB (onB D89) := onB_new (Nat.le_trans K46.size d91)
    have ap94 : Apart (onB D89) (onB p1) := Mrk.apart B92 (B86).cells
    have ap95 : Apart (onB D89) (onB p15) := Mrk.apart B92 (B87).cells
    have ap96 : Apart (onB D89) (T41) := Mrk.apart B92 (B88).cells
    have s97 : markV (D89 :: marksOf (F50 11)) = markV [D89] := congrArg (fun z => markV (D89 :: marksOf z)) s53
    refine in_normal ?_
    refine then_normal ?_
    refine wq_seq ?_
    refine wq_region ?_
    refine wl_v (.int .i64 ((((runs 0 (lvls b)).length : Nat) : Int))) rfl rfl (y_load_cel rfl s56 Tryd.underlying3 B87 rfl ⟨rfl, rfl⟩) ?_
    refine wl_v (.int .i64 ((((runs 0 (lvls b)).length : Nat) : Int))) rfl rfl (y_asg rfl rfl ⟨rfl, rfl⟩) ?_
    refine wl_nil fun F98 hF99 => ?_
    have s100 : F98 11 = markV [D89] := (hF99 11).trans s97
    have s101 : F98 2 = .int .i64 ((((runs 0 (lvls b)).length : Nat) : Int)) := (hF99 2).trans rfl
    clear hF99
    refine then_normal ?_
    refine wq_ret ?_
    have k102 := kept_shut w90 D89
    have B104 := B86.all k102 (fun x => (((ap94).symm) p1 rfl x))
    have B105 := B87.all k102 (fun x => (((ap95).symm) p15 rfl x))
    have B106 := B88.all k102 (fun i h x => (((ap96).symm) i h x))
    have K103 := K85.trans k102 (Grew.ok (S := fun _ => False) gr93 noB_le)
    exact endm_tmp (ms := [D89]) (v := .int .i64 ((((runs 0 (lvls b)).length : Nat) : Int))) s100 (B92).opens rfl rfl s101 ⟨rfl, K103⟩

set_option maxHeartbeats 4000000 in
set_option maxRecDepth 100000 in
theorem scan_write (p : Nat) (bs : List Bool) (b : Nat → Int) (T_w : Nat → Prop) (w0 : World) (hO : ScanIn w0) (hG : ∀ i, T_w i → 1 ≤ i) (hm : bs.length + 4096 < 1099511627776) (h_w : Wri w0 T_w p (bs)) :
    Calls Tryd.prog 10 #[.pointer (some ⟨p, 0, none⟩), blkV (b)] w0 fun e w' => ∃ (T_w' : Nat → Prop), e = .returned (.tuple #[]) ∧ Kept (T_w) w0 w' ∧ (Wri w' T_w' p (bs ++ scanBits b) ∧ Grew w0 T_w T_w') := by
  refine calls_wm (args := [.pointer (some ⟨p, 0, none⟩), blkV (b)]) 20 Tryd.func10 rfl rfl (Nat.le_of_ble_eq_true rfl) ?_
  have K0 := Kept.refl (T_w) w0
  have g_w := Grew.refl w0 T_w
  refine wq_seq ?_
  refine wq_region ?_
  refine wl_box_cel rfl rfl rfl rfl (by rfl) fun p1 w2 B5 g7 k3 => ?_
  have gr8 : Grew w0 noB (onB p1) := Grew.new K0 g7
  have ap9 : Apart (onB p1) (T_w) := Apart.new g7 (h_w).live
  have B10 := h_w.all k3 Apart.none
  have K11 := K0.trans k3 (fun _ _ x => x.elim)
  refine wl_box_blk rfl rfl rfl rfl fun p12 w13 e16 B14 k15 => ?_
  have g17 := onB_new (Nat.le_of_eq e16.symm)
  have gr18 : Grew w0 noB (onB p12) := Grew.new K11 g17
  have ap19 : Apart (onB p12) (T_w) := Apart.new g17 (B10).live
  have ap20 : Apart (onB p12) (onB p1) := Apart.new g17 (onB_live (B5).lt)
  clear e16 g17
  have B21 := B10.all k15 Apart.none
  have B22 := B5.all k15 id
  have K23 := K11.trans k15 (fun _ _ x => x.elim)
  refine wl_nil fun F24 hF25 => ?_
  have s26 : F24 0 = .pointer (some ⟨p, 0, none⟩) := (hF25 0).trans rfl
  have s27 : F24 1 = blkV (b) := (hF25 1).trans rfl
  have s28 : F24 20 = undef := (hF25 20).trans rfl
  have s29 : F24 2 = .pointer (some ⟨p1, 0, none⟩) := (hF25 2).trans rfl
  have s30 : F24 3 = .pointer (some ⟨p12, 0, none⟩) := (hF25 3).trans rfl
  clear hF25
  refine then_normal ?_
  refine wq_seq ?_
  refine wq_tail 3 [some 6, some 7, some 8] [Pd.eq (.pointer (some ⟨p, 0, none⟩)), Pd.eq (blkV (b)), Pd.eq (.int .i64 ((((runs 0 (lvls (b))).length : Nat) : Int)))] (by kernel_rfl) (by kernel_rfl) (by kernel_rfl) ?_ ?_
  · refine stepsF_cons ?_ ?_
    · refine StepF.one rfl fun F_ w_ hR hout hD => ?_
      exact (y_load_cel rfl ((hout 2 rfl (by decide)).trans s29) Tryd.underlying24 (B22.all hR id) rfl ⟨rfl, Kept.refl _ _⟩)
    refine stepsF_cons ?_ ?_
    · refine StepF.one rfl fun F_ w_ hR hout hD => ?_
      exact (y_load_blk blkT_block rfl ((hout 3 rfl (by decide)).trans s30) (B14.all hR id) ⟨rfl, Kept.refl _ _⟩)
    refine stepsF_cons ?_ ?_
    · refine StepF.one rfl fun F_ w_ hR hout hD => ?_
      have g7 : F_ 7 = blkV (b) := hD.get 0 rfl rfl rfl
      exact (y_cs rfl rfl rfl (fun _ _ => by kernel_rfl) (ev_func _) (vsC g7 vsN) (scan_many (b)  _ (hO.but (K23.trans hR (fun _ _ x => x.elim)) hG)  ) (fun e_ w_ h_ => ⟨_, h_.1, rfl, h_.2⟩))
    exact stepsF_nil
  intro v31 F32 w33 k34 G35 hF36
  have B37 := B21.all k34 Apart.none
  have B38 := B22.all k34 id
  have B39 := B14.all k34 id
  have K40 := K23.trans k34 (fun _ _ x => x.elim)
  have s41 : F32 0 = .pointer (some ⟨p, 0, none⟩) := (hF36 0).trans s26
  have s42 : F32 1 = blkV (b) := (hF36 1).trans s27
  have s43 : F32 20 = undef := (hF36 20).trans s28
  have s44 : F32 2 = .pointer (some ⟨p1, 0, none⟩) := (hF36 2).trans s29
  have s45 : F32 3 = .pointer (some ⟨p12, 0, none⟩) := (hF36 3).trans s30
  have s46 : F32 6 = .pointer (some ⟨p, 0, none⟩) := (hF36 6).trans (G35 0 (by decide))
  have s47 : F32 8 = .int .i64 ((((runs 0 (lvls (b))).length : Nat) : Int)) := (hF36 8).trans (G35 2 (by decide))
  clear G35 hF36
  refine wl_call (R := fun v_ w_ => ∃ (T50 : Nat → Prop), .tuple #[] = v_ ∧ Kept (T_w) w33 w_ ∧ (Wri w_ T50 p ((bs) ++ wholeBits ((((runs 0 (lvls (b))).length : Nat) : Int))) ∧ Grew w33 (T_w) T50)) rfl rfl (y_cs rfl rfl rfl (fun _ _ => by kernel_rfl) (ev_func _) (vsC s46 (vsC s47 vsN)) (t_whole (p) (bs) ((((runs 0 (lvls (b))).length : Nat) : Int)) (T_w) _ (by omega) B37 ) (fun e_ w_ h_ => by obtain ⟨T50_, he_, hr_⟩ := h_; exact ⟨_, he_, T50_, rfl, hr_⟩)) ?_
  rintro _ w48 ⟨T50, rfl, k49, ⟨B51, g52⟩⟩
  have B53 := B38.all k49 (fun x => ((ap9) p1 rfl x))
  have B54 := B39.all k49 (fun x => ((ap19) p12 rfl x))
  have K55 := K40.trans k49 (fun i hi x => ((Grew.ok (S := T_w) g_w (fun _ x => x)) i hi x))
  have gr56 := g_w.trans K40 g52
  have ap57 : Apart T50 (onB p1) := ((ap9).symm).grew g52 (onB_live (B38).lt)
  have ap58 : Apart T50 (onB p12) := ((ap19).symm).grew g52 (onB_live (B39).lt)
  refine wl_nil fun F59 hF60 => ?_
  have s61 : F59 0 = .pointer (some ⟨p, 0, none⟩) := (hF60 0).trans s41
  have s62 : F59 1 = blkV (b) := (hF60 1).trans s42
  have s63 : F59 20 = undef := (hF60 20).trans s43
  have s64 : F59 2 = .pointer (some ⟨p1, 0, none⟩) := (hF60 2).trans s44
  have s65 : F59 3 = .pointer (some ⟨p12, 0, none⟩) := (hF60 3).trans s45
  clear hF60
  refine then_normal ?_
  refine wq_seq ?_
  refine wq_region ?_
  refine wl_v (blkV (b)) rfl rfl (y_load_blk blkT_block rfl s65 B54 ⟨rfl, rfl⟩) ?_
  refine wl_call (R := fun v_ w_ => ∃ (v66 : Nat) (T69 : Nat → Prop), .func (.func 46) #[] #[.pointer (some ⟨v66, 0, none⟩)] = v_ ∧ Kept (fun _ => False) w48 w_ ∧ (Lvs w_ T69 v66 ((b)) ∧ Grew w48 noB T69)) rfl rfl (y_cs rfl rfl rfl (fun _ _ => by kernel_rfl) (ev_func _) (vsC rfl vsN) (scan_levels (b)  _   ) (fun e_ w_ h_ => by obtain ⟨v66_, T69_, he_, hr_⟩ := h_; exact ⟨_, he_, v66_, T69_, rfl, hr_⟩)) ?_
  rintro _ w67 ⟨v66, T69, rfl, k68, ⟨B70, g71⟩⟩
  have B72 := B51.all k68 Apart.none
  have B73 := B53.all k68 id
  have B74 := B54.all k68 id
  have K75 := K55.trans k68 (fun _ _ x => x.elim)
  have gr76 : Grew w0 noB (T69) := Grew.new K55 g71
  have ap77 : Apart (T69) (T50) := Apart.new g71 (B51).live
  have ap78 : Apart (T69) (onB p1) := Apart.new g71 (onB_live (B53).lt)
  have ap79 : Apart (T69) (onB p12) := Apart.new g71 (onB_live (B54).lt)
  refine wl_nil fun F80 hF81 => ?_
  have s82 : F80 0 = .pointer (some ⟨p, 0, none⟩) := (hF81 0).trans s61
  have s83 : F80 1 = blkV (b) := (hF81 1).trans s62
  have s84 : F80 20 = undef := (hF81 20).trans s63
  have s85 : F80 2 = .pointer (some ⟨p1, 0, none⟩) := (hF81 2).trans s64
  have s86 : F80 3 = .pointer (some ⟨p12, 0, none⟩) := (hF81 3).trans s65
  have s87 : F80 11 = .func (.func 46) #[] #[.pointer (some ⟨v66, 0, none⟩)] := (hF81 11).trans rfl
  clear hF81
  refine then_normal ?_
  refine wq_block ?_
  refine wq_range (α := Nat × Int) (encs := fun x => [.int .i64 (((x.1 : Nat) : Int)), .int .i64 (x.2)]) (U := fun i => 1 ≤ i ∧ i ≠ v66) (S := fun xs => xs = runs 0 (lvls b)) (Sp := fun _ => True) (M := 16) s87 (fun _ _ => by kernel_rfl) (levels_seq b v66 _ (hO.but K75 hG) (B70).2) (beyond (hO.but K75 hG) B70) [12, 13] rfl (fun _ => rfl) rfl (fun pre ww => ∃ (T88 : Nat → Prop), Kept (T_w) w0 ww ∧ Wri ww (T88) p ((bs ++ wholeBits ((runs 0 (lvls b)).length : Nat)) ++ runBits pre) ∧ Cel ww p1 24 (.pointer (some ⟨p, 0, none⟩)) ∧ Blk ww p12 41 (b) ∧ Lvs ww (T69) v66 ((b)) ∧ Grew w0 (T_w) T88 ∧ Apart (T88) (onB p1) ∧ Apart (T88) (onB p12) ∧ Apart (T88) (T69)) ?_ ⟨T50, K75, (by rw [runBits, List.append_nil]; exact B72), B73, B74, B70, gr56, ap57, ap58, (ap77).symm⟩ (fun x FF => FF 0 = .pointer (some ⟨p, 0, none⟩) ∧ FF 1 = blkV (b) ∧ FF 2 = .pointer (some ⟨p1, 0, none⟩) ∧ FF 3 = .pointer (some ⟨p12, 0, none⟩) ∧ FF 4 = .int .i64 (((x.1 : Nat) : Int)) ∧ FF 5 = .int .i64 (x.2) ∧ FF 11 = .func (.func 46) #[] #[.pointer (some ⟨v66, 0, none⟩)] ∧ FF 12 = .int .i64 (((x.1 : Nat) : Int)) ∧ FF 13 = .int .i64 (x.2) ∧ FF 20 = undef) ?_ ?_ ?_
  · rintro pre A_ B_ row_ ⟨T88, K_, B0_, B1_, B2_, B3_, g0_, a0_, a1_, a2_⟩ hg_ hr_
    exact ⟨T88, K_.row hg_ hr_ K75.size, B0_.row hg_ hr_, B1_.row hg_ hr_, B2_.row hg_ hr_, B3_.row hg_ hr_, g0_, a0_, a1_, a2_⟩
  · intro l_ x W_
    refine wq_seq ?_
    refine wq_region ?_
    refine wl_v (.int .i64 (((x.1 : Nat) : Int))) rfl rfl (y_asg rfl rfl ⟨rfl, rfl⟩) ?_
    refine wl_nil fun F89 hF90 => ?_
    have s91 : F89 0 = .pointer (some ⟨p, 0, none⟩) := (hF90 0).trans s82
    have s92 : F89 1 = blkV (b) := (hF90 1).trans s83
    have s93 : F89 20 = undef := (hF90 20).trans rfl
    have s94 : F89 2 = .pointer (some ⟨p1, 0, none⟩) := (hF90 2).trans s85
    have s95 : F89 3 = .pointer (some ⟨p12, 0, none⟩) := (hF90 3).trans s86
    have s96 : F89 11 = .func (.func 46) #[] #[.pointer (some ⟨v66, 0, none⟩)] := (hF90 11).trans s87
    have s97 : F89 12 = .int .i64 (((x.1 : Nat) : Int)) := (hF90 12).trans rfl
    have s98 : F89 13 = .int .i64 (x.2) := (hF90 13).trans rfl
    have s99 : F89 4 = .int .i64 (((x.1 : Nat) : Int)) := (hF90 4).trans rfl
    clear hF90
    refine then_normal ?_
    refine wq_region ?_
    refine wl_v (.int .i64 (x.2)) rfl rfl (y_asg rfl s98 ⟨rfl, rfl⟩) ?_
    refine wl_nil fun F100 hF101 => ?_
    have s102 : F100 0 = .pointer (some ⟨p, 0, none⟩) := (hF101 0).trans s91
    have s103 : F100 1 = blkV (b) := (hF101 1).trans s92
    have s104 : F100 20 = undef := (hF101 20).trans s93
    have s105 : F100 2 = .pointer (some ⟨p1, 0, none⟩) := (hF101 2).trans s94
    have s106 : F100 3 = .pointer (some ⟨p12, 0, none⟩) := (hF101 3).trans s95
    have s107 : F100 11 = .func (.func 46) #[] #[.pointer (some ⟨v66, 0, none⟩)] := (hF101 11).trans s96
    have s108 : F100 12 = .int .i64 (((x.1 : Nat) : Int)) := (hF101 12).trans s97
    have s109 : F100 13 = .int .i64 (x.2) := (hF101 13).trans s98
    have s110 : F100 4 = .int .i64 (((x.1 : Nat) : Int)) := (hF101 4).trans s99
    have s111 : F100 5 = .int .i64 (x.2) := (hF101 5).trans rfl
    clear hF101
    exact held_normal ⟨s102, s103, s105, s106, s110, s111, s107, s108, s109, s104⟩
  · rintro l_ pre x F122 w121 ⟨T88, K112, B113, B114, B115, B116, gr117, ap118, ap119, ap120⟩ ⟨s123, s124, s125, s126, s127, s128, s129, s130, s131, s132⟩ hlen_
    have K133 := Kept.refl (T88) w121
    have hro := room16 ((runs 0 (lvls b)).length : Nat) hm hlen_
    refine wq_block ?_
    refine wq_seq ?_
    refine wq_region ?_
    refine wl_v (.pointer (some ⟨p, 0, none⟩)) rfl rfl (y_load_cel rfl s125 Tryd.underlying24 B114 rfl ⟨rfl, rfl⟩) ?_
    refine wl_v (.int .i64 (((x.1 : Nat) : Int))) rfl rfl (y_mov rfl s127 ⟨rfl, rfl⟩) ?_
    refine wl_call (R := fun v_ w_ => ∃ (T136 : Nat → Prop), .tuple #[] = v_ ∧ Kept (T88) w121 w_ ∧ (Wri w_ T136 p (((bs ++ wholeBits ((runs 0 (lvls b)).length : Nat)) ++ runBits pre) ++ wholeBits (((x.1 : Nat) : Int))) ∧ Grew w121 (T88) T136)) rfl rfl (y_cs rfl rfl rfl (fun _ _ => by kernel_rfl) (ev_func _) (vsC rfl (vsC rfl vsN)) (t_whole (p) ((bs ++ wholeBits ((runs 0 (lvls b)).length : Nat)) ++ runBits pre) (((x.1 : Nat) : Int)) (T88) _ (by omega) B113 ) (fun e_ w_ h_ => by obtain ⟨T136_, he_, hr_⟩ := h_; exact ⟨_, he_, T136_, rfl, hr_⟩)) ?_
    rintro _ w134 ⟨T136, rfl, k135, ⟨B137, g138⟩⟩
    have B139 := B114.all k135 (fun x => (((ap118).symm) p1 rfl x))
    have B140 := B115.all k135 (fun x => (((ap119).symm) p12 rfl x))
    have B141 := B116.all k135 (fun i h x => (((ap120).symm) i h x))
    have K142 := K133.trans k135 (fun i hi x => ((Grew.ok (S := T88) (Grew.refl w121 (T88)) (fun _ x => x)) i hi x))
    have gr143 := (Grew.refl w121 (T88)).trans K133 g138
    have ap144 : Apart T136 (onB p1) := (ap118).grew g138 (onB_live (B114).lt)
    have ap145 : Apart T136 (onB p12) := (ap119).grew g138 (onB_live (B115).lt)
    have ap146 : Apart T136 (T69) := (ap120).grew g138 (B116).live
    refine wl_nil fun F147 hF148 => ?_
    have s149 : F147 0 = .pointer (some ⟨p, 0, none⟩) := (hF148 0).trans s123
    have s150 : F147 1 = blkV (b) := (hF148 1).trans s124
    have s151 : F147 2 = .pointer (some ⟨p1, 0, none⟩) := (hF148 2).trans s125
    have s152 : F147 3 = .pointer (some ⟨p12, 0, none⟩) := (hF148 3).trans s126
    have s153 : F147 4 = .int .i64 (((x.1 : Nat) : Int)) := (hF148 4).trans s127
    have s154 : F147 5 = .int .i64 (x.2) := (hF148 5).trans s128
    have s155 : F147 11 = .func (.func 46) #[] #[.pointer (some ⟨v66, 0, none⟩)] := (hF148 11).trans s129
    have s156 : F147 12 = .int .i64 (((x.1 : Nat) : Int)) := (hF148 12).trans s130
    have s157 : F147 13 = .int .i64 (x.2) := (hF148 13).trans s131
    have s158 : F147 20 = undef := (hF148 20).trans s132
    clear hF148
    refine then_normal ?_
    refine wq_region ?_
    refine wl_v (.pointer (some ⟨p, 0, none⟩)) rfl rfl (y_load_cel rfl s151 Tryd.underlying24 B139 rfl ⟨rfl, rfl⟩) ?_
    refine wl_v (.int .i64 (x.2)) rfl rfl (y_mov rfl s154 ⟨rfl, rfl⟩) ?_
    refine wl_call (R := fun v_ w_ => ∃ (T161 : Nat → Prop), .tuple #[] = v_ ∧ Kept (T136) w134 w_ ∧ (Wri w_ T161 p ((((bs ++ wholeBits ((runs 0 (lvls b)).length : Nat)) ++ runBits pre) ++ wholeBits (((x.1 : Nat) : Int))) ++ signedBits (x.2)) ∧ Grew w134 (T136) T161)) rfl rfl (y_cs rfl rfl rfl (fun _ _ => by kernel_rfl) (ev_func _) (vsC rfl (vsC rfl vsN)) (t_signed (p) (((bs ++ wholeBits ((runs 0 (lvls b)).length : Nat)) ++ runBits pre) ++ wholeBits (((x.1 : Nat) : Int))) (x.2) (T136) _ (by rw [List.length_append]; have h1 := wholeBits_short ((x.1 : Nat) : Int); omega) B137 ) (fun e_ w_ h_ => by obtain ⟨T161_, he_, hr_⟩ := h_; exact ⟨_, he_, T161_, rfl, hr_⟩)) ?_
    rintro _ w159 ⟨T161, rfl, k160, ⟨B162, g163⟩⟩
    have B164 := B139.all k160 (fun x => (((ap144).symm) p1 rfl x))
    have B165 := B140.all k160 (fun x => (((ap145).symm) p12 rfl x))
    have B166 := B141.all k160 (fun i h x => (((ap146).symm) i h x))
    have K167 := K142.trans k160 (fun i hi x => ((Grew.ok (S := T88) gr143 (fun _ x => x)) i hi x))
    have gr168 := gr143.trans K142 g163
    have ap169 : Apart T161 (onB p1) := (ap144).grew g163 (onB_live (B139).lt)
    have ap170 : Apart T161 (onB p12) := (ap145).grew g163 (onB_live (B140).lt)
    have ap171 : Apart T161 (T69) := (ap146).grew g163 (B141).live
    refine wl_nil fun F172 hF173 => ?_
    have s174 : F172 0 = .pointer (some ⟨p, 0, none⟩) := (hF173 0).trans s149
    have s175 : F172 1 = blkV (b) := (hF173 1).trans s150
    have s176 : F172 2 = .pointer (some ⟨p1, 0, none⟩) := (hF173 2).trans s151
    have s177 : F172 3 = .pointer (some ⟨p12, 0, none⟩) := (hF173 3).trans s152
    have s178 : F172 4 = .int .i64 (((x.1 : Nat) : Int)) := (hF173 4).trans s153
    have s179 : F172 5 = .int .i64 (x.2) := (hF173 5).trans s154
    have s180 : F172 11 = .func (.func 46) #[] #[.pointer (some ⟨v66, 0, none⟩)] := (hF173 11).trans s155
    have s181 : F172 12 = .int .i64 (((x.1 : Nat) : Int)) := (hF173 12).trans s156
    have s182 : F172 13 = .int .i64 (x.2) := (hF173 13).trans s157
    have s183 : F172 20 = undef := (hF173 20).trans s158
    clear hF173
    refine in_normal ?_
    exact ⟨Cells.keeps (B113).cells K167 _, K167.mono (fun i hi h => ⟨above2 gr117 hG hO i h, fun e => ap120 i h (by rw [(B70).1]; exact e)⟩), ⟨T161, K112.trans K167 (fun i hi x => ((Grew.ok (S := T_w) gr117 (fun _ x => x)) i hi x)), (by rw [← runBits_one]; exact B162), B164, B165, B166, gr117.trans K112 gr168, ap169, ap170, ap171⟩⟩
  · rintro D193 xs_ w194 d195 hS_ ⟨T88, K184, B185, B186, B187, B188, gr189, ap190, ap191, ap192⟩ B196
    subst hS_
    have B196 : Mrk w194 D193 := B196
    have gr197 : Grew w0 noB (onB D193) := onB_new (Nat.le_trans K75.size d195)
    have ap198 : Apart (onB D193) (T88) := Mrk.apart B196 (B185).cells
    have ap199 : Apart (onB D193) (onB p1) := Mrk.apart B196 (B186).cells
    have ap200 : Apart (onB D193) (onB p12) := Mrk.apart B196 (B187).cells
    have ap201 : Apart (onB D193) (T69) := Mrk.apart B196 (B188).cells
    have s202 : markV (D193 :: marksOf (F80 20)) = markV [D193] := congrArg (fun z => markV (D193 :: marksOf z)) s84
    refine in_normal ?_
    have k203 := kept_shut w194 D193
    have B205 := B185.all k203 (fun i h x => (((ap198).symm) i h x))
    have B206 := B186.all k203 (fun x => (((ap199).symm) p1 rfl x))
    have B207 := B187.all k203 (fun x => (((ap200).symm) p12 rfl x))
    have B208 := B188.all k203 (fun i h x => (((ap201).symm) i h x))
    have K204 := K184.trans k203 (Grew.ok (S := T_w) gr197 noB_le)
    exact endm_none (ms := [D193]) s202 (B196).opens rfl ⟨T88, rfl, K204, ⟨(by rw [scanBits, ← List.append_assoc]; exact B205), gr189⟩⟩

set_option maxHeartbeats 4000000 in
set_option maxRecDepth 100000 in
theorem scan_read (p : Nat) (l : List Nat) (st : Option Nat) (T_r : Nat → Prop) (w0 : World) (hO : ScanIn w0) (hG : ∀ i, T_r i → 1 ≤ i) (h_r : Rdi w0 T_r p (l) (st)) :
    Calls Tryd.prog 19 #[.pointer (some ⟨p, 0, none⟩)] w0 fun e w' => ∃ (T_r' : Nat → Prop), e = .returned (.tuple #[blkV ((scanRd l st).1), .int .i64 ((scanRd l st).2.1)]) ∧ Kept (T_r) w0 w' ∧ (Rdi w' T_r' p (l) (rdSt l st) ∧ Grew w0 T_r T_r') := by
  refine calls_wq (args := [.pointer (some ⟨p, 0, none⟩)]) 48 Tryd.func19 rfl rfl (Nat.le_of_ble_eq_true rfl) ?_
  have K0 := Kept.refl (T_r) w0
  have hle := gBig_whole l st
  obtain ⟨M, hM⟩ : ∃ M, M = (rdStep (wholeRd l gBig) st).1.toNat := ⟨_, rfl⟩
  have g_r := Grew.refl w0 T_r
  refine wq_seq ?_
  refine wq_region ?_
  refine wl_alloc_blk rfl rfl rfl blkT_block.2.2 fun p1 w2 e5 B3 k4 => ?_
  have g6 := onB_new (Nat.le_of_eq e5.symm)
  have gr7 : Grew w0 noB (onB p1) := Grew.new K0 g6
  have ap8 : Apart (onB p1) (T_r) := Apart.new g6 (h_r).live
  clear e5 g6
  have B9 := h_r.all k4 Apart.none
  have K10 := K0.trans k4 (fun _ _ x => x.elim)
  refine wl_v (.int .i64 (0)) rfl rfl (y_asg rfl rfl ⟨rfl, rfl⟩) ?_
  refine wl_nil fun F11 hF12 => ?_
  have s13 : F11 0 = .pointer (some ⟨p, 0, none⟩) := (hF12 0).trans rfl
  have s14 : F11 48 = undef := (hF12 48).trans rfl
  have s15 : F11 2 = .pointer (some ⟨p1, 0, none⟩) := (hF12 2).trans rfl
  have s16 : F11 3 = .int .i64 (0) := (hF12 3).trans rfl
  clear hF12
  refine then_normal ?_
  refine wq_scope ?_
  refine wq_seq ?_
  refine wq_seq ?_
  refine wq_region ?_
  refine wl_v (.pointer (some ⟨p, 0, none⟩)) rfl rfl (y_mov rfl s13 ⟨rfl, rfl⟩) ?_
  refine wl_v (.bool false) rfl rfl (y_noNil rfl rfl rfl Tryd.underlying35 ⟨rfl, rfl⟩) ?_
  refine wl_nil fun F17 hF18 => ?_
  have s19 : F17 0 = .pointer (some ⟨p, 0, none⟩) := (hF18 0).trans s13
  have s20 : F17 48 = undef := (hF18 48).trans s14
  have s21 : F17 2 = .pointer (some ⟨p1, 0, none⟩) := (hF18 2).trans s15
  have s22 : F17 3 = .int .i64 (0) := (hF18 3).trans s16
  have s23 : F17 9 = .bool false := (hF18 9).trans rfl
  clear hF18
  refine then_normal ?_
  refine wq_cond (t := false) s23 (fun e => by cases e) (fun _ => ?_)
  refine wq_skip ?_
  refine then_normal ?_
  refine wq_seq ?_
  refine wq_region ?_
  refine wl_alloc_blk rfl rfl rfl blkT_block.2.2 fun p24 w25 e28 B26 k27 => ?_
  have g29 := onB_new (Nat.le_of_eq e28.symm)
  have gr30 : Grew w0 noB (onB p24) := Grew.new K10 g29
  have ap31 : Apart (onB p24) (T_r) := Apart.new g29 (B9).live
  have ap32 : Apart (onB p24) (onB p1) := Apart.new g29 (onB_live (B3).lt)
  clear e28 g29
  have B33 := B9.all k27 Apart.none
  have B34 := B3.all k27 id
  have K35 := K10.trans k27 (fun _ _ x => x.elim)
  refine wl_nil fun F36 hF37 => ?_
  have s38 : F36 0 = .pointer (some ⟨p, 0, none⟩) := (hF37 0).trans s19
  have s39 : F36 48 = undef := (hF37 48).trans s20
  have s40 : F36 2 = .pointer (some ⟨p1, 0, none⟩) := (hF37 2).trans s21
  have s41 : F36 3 = .int .i64 (0) := (hF37 3).trans s22
  have s42 : F36 9 = .bool false := (hF37 9).trans s23
  have s43 : F36 4 = .pointer (some ⟨p24, 0, none⟩) := (hF37 4).trans rfl
  clear hF37
  refine then_normal ?_
  refine wq_seq ?_
  refine wq_region ?_
  refine wl_v (.int .i64 (0)) rfl rfl (y_asg rfl rfl ⟨rfl, rfl⟩) ?_
  refine wl_nil fun F44 hF45 => ?_
  have s46 : F44 0 = .pointer (some ⟨p, 0, none⟩) := (hF45 0).trans s38
  have s47 : F44 48 = undef := (hF45 48).trans s39
  have s48 : F44 2 = .pointer (some ⟨p1, 0, none⟩) := (hF45 2).trans s40
  have s49 : F44 3 = .int .i64 (0) := (hF45 3).trans s41
  have s50 : F44 9 = .bool false := (hF45 9).trans s42
  have s51 : F44 4 = .pointer (some ⟨p24, 0, none⟩) := (hF45 4).trans s43
  have s52 : F44 5 = .int .i64 (0) := (hF45 5).trans rfl
  clear hF45
  refine then_normal ?_
  refine wq_seq ?_
  refine wq_region ?_
  refine wl_v (.pointer (some ⟨p, 0, none⟩)) rfl rfl (y_mov rfl s46 ⟨rfl, rfl⟩) ?_
  refine wl_call (R := fun v_ w_ => ∃ (T55 : Nat → Prop), .int .i64 (((M : Nat) : Int)) = v_ ∧ Kept (T_r) w25 w_ ∧ (Rdi w_ T55 p ((l)) ((rdStep (wholeRd (l) (9223372036854775807)) (st)).2) ∧ Grew w25 (T_r) T55)) rfl rfl (y_cs rfl rfl rfl (fun _ _ => by kernel_rfl) (ev_func _) (vsC rfl (vsC rfl vsN)) (t_rwhole (p) (l) (st) (9223372036854775807) (T_r) _  B33 ) (fun e_ w_ h_ => by obtain ⟨T55_, he_, hr_⟩ := h_; exact ⟨_, he_, T55_, (congrArg (Value.int .i64) (by rw [show (9223372036854775807 : Int) = gBig from rfl]; omega)).symm, hr_⟩)) ?_
  rintro _ w53 ⟨T55, rfl, k54, ⟨B56, g57⟩⟩
  have B58 := B34.all k54 (fun x => ((ap8) p1 rfl x))
  have B59 := B26.all k54 (fun x => ((ap31) p24 rfl x))
  have K60 := K35.trans k54 (fun i hi x => ((Grew.ok (S := T_r) g_r (fun _ x => x)) i hi x))
  have gr61 := g_r.trans K35 g57
  have ap62 : Apart T55 (onB p1) := ((ap8).symm).grew g57 (onB_live (B34).lt)
  have ap63 : Apart T55 (onB p24) := ((ap31).symm).grew g57 (onB_live (B26).lt)
  refine wl_v (.int .i64 (((M : Nat) : Int))) rfl rfl (y_asg rfl rfl ⟨rfl, rfl⟩) ?_
  refine wl_nil fun F64 hF65 => ?_
  have s66 : F64 0 = .pointer (some ⟨p, 0, none⟩) := (hF65 0).trans s46
  have s67 : F64 48 = undef := (hF65 48).trans s47
  have s68 : F64 2 = .pointer (some ⟨p1, 0, none⟩) := (hF65 2).trans s48
  have s69 : F64 3 = .int .i64 (0) := (hF65 3).trans s49
  have s70 : F64 9 = .bool false := (hF65 9).trans s50
  have s71 : F64 4 = .pointer (some ⟨p24, 0, none⟩) := (hF65 4).trans s51
  have s72 : F64 5 = .int .i64 (0) := (hF65 5).trans s52
  have s73 : F64 6 = .int .i64 (((M : Nat) : Int)) := (hF65 6).trans rfl
  clear hF65
  refine then_normal ?_
  refine wq_seq ?_
  refine wq_seq ?_
  have B74 : Rdi w53 (T55) p (l) ((rdStep (wholeRd l gBig) st).2) := (B56)
  rcases Bool.eq_false_or_eq_true (((rdStep (wholeRd l gBig) st).2).isNone) with d75 | d75
  · skip
    refine wq_region ?_
    refine wl_v (.pointer (some ⟨p, 0, none⟩)) rfl rfl (y_mov rfl s66 ⟨rfl, rfl⟩) ?_
    refine wl_call (R := fun v_ w_ => v_ = .bool true ∧ Kept (fun _ => False) w53 w_) rfl rfl (y_cs rfl rfl rfl (fun _ _ => by kernel_rfl) (ev_func _) (vsC rfl vsN) (t_lost (p) (l) ((rdStep (wholeRd l gBig) st).2) (T55) _  B74 ) (fun e_ w_ h_ => ⟨_, h_.1, (congrArg Value.bool d75), h_.2⟩)) ?_
    rintro _ w76 ⟨rfl, k77⟩
    have B78 := B74.all k77 Apart.none
    have B79 := B58.all k77 id
    have B80 := B59.all k77 id
    have K81 := K60.trans k77 (fun _ _ x => x.elim)
    refine wl_v (.bool true) rfl rfl (y_mov rfl rfl ⟨rfl, rfl⟩) ?_
    refine wl_unless 2 false 15 rfl rfl rfl (Or.inl rfl) rfl ?_
    refine wl_unless 2 false 15 rfl rfl rfl (Or.inl rfl) rfl ?_
    refine wl_v (.bool true) rfl rfl (y_pickT rfl rfl rfl ⟨rfl, rfl⟩) ?_
    refine wl_nil fun F82 hF83 => ?_
    have s84 : F82 0 = .pointer (some ⟨p, 0, none⟩) := (hF83 0).trans s66
    have s85 : F82 48 = undef := (hF83 48).trans s67
    have s86 : F82 2 = .pointer (some ⟨p1, 0, none⟩) := (hF83 2).trans s68
    have s87 : F82 3 = .int .i64 (0) := (hF83 3).trans s69
    have s88 : F82 9 = .bool false := (hF83 9).trans s70
    have s89 : F82 4 = .pointer (some ⟨p24, 0, none⟩) := (hF83 4).trans s71
    have s90 : F82 5 = .int .i64 (0) := (hF83 5).trans s72
    have s91 : F82 6 = .int .i64 (((M : Nat) : Int)) := (hF83 6).trans s73
    have s92 : F82 18 = .bool true := (hF83 18).trans rfl
    clear hF83
    refine then_normal ?_
    refine wq_cond (t := true) s92 (fun _ => ?_) (fun e => by cases e)
    refine wq_goto ?_
    refine then_goto ?_
    refine jump_goto ⟨_, rfl, ?_⟩
    refine wq_seq ?_
    refine wq_skip ?_
    refine then_normal ?_
    refine wq_seq ?_
    first | have hR := g_none (l := l) (s := st) (Or.inl (by assumption)) | have hR := g_none (l := l) (s := st) (Or.inr (by omega)) | have hR := g_far (by omega) hI (by omega) | have hR := g_bad (by omega) hI (by omega) (by first | exact Or.inl (by assumption) | exact Or.inr (by assumption))
    refine wq_region ?_
    refine wl_v (blkV (fun _ => 0)) rfl rfl (y_buildR (cells := (arrL 16 (fun _ => 0)).toArray) rfl (by kernel_rfl) rfl ⟨rfl, rfl⟩) ?_
    refine wl_store_blk blkT_block rfl rfl rfl s86 rfl B79 fun w93 B94 k95 => ?_
    have B96 := B78.all k95 (fun i h x => ((ap62) i h x))
    have B97 := B80.all k95 (fun x => ((ap32) p24 rfl x))
    have K98 := K81.trans k95 (Grew.ok (S := T_r) gr7 noB_le)
    refine wl_v (.int .i64 (60)) rfl rfl (y_asg rfl rfl ⟨rfl, rfl⟩) ?_
    refine wl_nil fun F99 hF100 => ?_
    have s101 : F99 48 = undef := (hF100 48).trans s85
    have s102 : F99 2 = .pointer (some ⟨p1, 0, none⟩) := (hF100 2).trans s86
    have s103 : F99 3 = .int .i64 (60) := (hF100 3).trans rfl
    clear hF100
    refine then_normal ?_
    refine wq_ret ?_
    refine stay_ret ?_
    exact end_2 s101 rfl (res_blk blkT_block rfl s102 B94) (res_tmp (v := .int .i64 (60)) rfl s103) ⟨T55, (by rw [← (told_as hR).1, ← (told_as hR).2.1]), K98, ⟨(by rw [(told_as hR).2.2]; exact B96), gr61⟩⟩
  · skip
    refine wq_region ?_
    refine wl_v (.pointer (some ⟨p, 0, none⟩)) rfl rfl (y_mov rfl s66 ⟨rfl, rfl⟩) ?_
    refine wl_call (R := fun v_ w_ => v_ = .bool false ∧ Kept (fun _ => False) w53 w_) rfl rfl (y_cs rfl rfl rfl (fun _ _ => by kernel_rfl) (ev_func _) (vsC rfl vsN) (t_lost (p) (l) ((rdStep (wholeRd l gBig) st).2) (T55) _  B74 ) (fun e_ w_ h_ => ⟨_, h_.1, (congrArg Value.bool d75), h_.2⟩)) ?_
    rintro _ w104 ⟨rfl, k105⟩
    have B106 := B74.all k105 Apart.none
    have B107 := B58.all k105 id
    have B108 := B59.all k105 id
    have K109 := K60.trans k105 (fun _ _ x => x.elim)
    refine wl_v (.bool false) rfl rfl (y_mov rfl rfl ⟨rfl, rfl⟩) ?_
    refine wl_vw (.int .i64 (((M : Nat) : Int))) 2 false 15 rfl rfl rfl rfl rfl (y_mov rfl s73 ⟨rfl, rfl⟩) ?_
    refine wl_vw (.bool (decide ((16) < (((M : Nat) : Int))))) 2 false 15 rfl rfl rfl rfl rfl (y_gtr rfl rfl rfl rfl ⟨rfl, rfl⟩) ?_
    refine wl_v (.bool (decide ((16) < (((M : Nat) : Int))))) rfl rfl (y_pickF rfl rfl rfl ⟨rfl, rfl⟩) ?_
    refine wl_nil fun F110 hF111 => ?_
    have s112 : F110 0 = .pointer (some ⟨p, 0, none⟩) := (hF111 0).trans s66
    have s113 : F110 48 = undef := (hF111 48).trans s67
    have s114 : F110 2 = .pointer (some ⟨p1, 0, none⟩) := (hF111 2).trans s68
    have s115 : F110 3 = .int .i64 (0) := (hF111 3).trans s69
    have s116 : F110 9 = .bool false := (hF111 9).trans s70
    have s117 : F110 4 = .pointer (some ⟨p24, 0, none⟩) := (hF111 4).trans s71
    have s118 : F110 5 = .int .i64 (0) := (hF111 5).trans s72
    have s119 : F110 6 = .int .i64 (((M : Nat) : Int)) := (hF111 6).trans s73
    have s120 : F110 18 = .bool (decide ((16) < (((M : Nat) : Int)))) := (hF111 18).trans rfl
    clear hF111
    refine then_normal ?_
    refine wq_cond s120 (fun c121 => ?_) (fun c121 => ?_)
    · replace c121 := of_decide_eq_true c121
      refine wq_goto ?_
      refine then_goto ?_
      refine jump_goto ⟨_, rfl, ?_⟩
      refine wq_seq ?_
      refine wq_skip ?_
      refine then_normal ?_
      refine wq_seq ?_
      first | have hR := g_none (l := l) (s := st) (Or.inl (by assumption)) | have hR := g_none (l := l) (s := st) (Or.inr (by omega)) | have hR := g_far (by omega) hI (by omega) | have hR := g_bad (by omega) hI (by omega) (by first | exact Or.inl (by assumption) | exact Or.inr (by assumption))
      refine wq_region ?_
      refine wl_v (blkV (fun _ => 0)) rfl rfl (y_buildR (cells := (arrL 16 (fun _ => 0)).toArray) rfl (by kernel_rfl) rfl ⟨rfl, rfl⟩) ?_
      refine wl_store_blk blkT_block rfl rfl rfl s114 rfl B107 fun w122 B123 k124 => ?_
      have B125 := B106.all k124 (fun i h x => ((ap62) i h x))
      have B126 := B108.all k124 (fun x => ((ap32) p24 rfl x))
      have K127 := K109.trans k124 (Grew.ok (S := T_r) gr7 noB_le)
      refine wl_v (.int .i64 (60)) rfl rfl (y_asg rfl rfl ⟨rfl, rfl⟩) ?_
      refine wl_nil fun F128 hF129 => ?_
      have s130 : F128 48 = undef := (hF129 48).trans s113
      have s131 : F128 2 = .pointer (some ⟨p1, 0, none⟩) := (hF129 2).trans s114
      have s132 : F128 3 = .int .i64 (60) := (hF129 3).trans rfl
      clear hF129
      refine then_normal ?_
      refine wq_ret ?_
      refine stay_ret ?_
      exact end_2 s130 rfl (res_blk blkT_block rfl s131 B123) (res_tmp (v := .int .i64 (60)) rfl s132) ⟨T55, (by rw [← (told_as hR).1, ← (told_as hR).2.1]), K127, ⟨(by rw [(told_as hR).2.2]; exact B125), gr61⟩⟩
    · replace c121 := of_decide_eq_false c121
      refine wq_skip ?_
      refine then_normal ?_
      refine wq_seq ?_
      refine wq_seq ?_
      refine wq_region ?_
      refine wl_v (.int .i64 (((M : Nat) : Int))) rfl rfl (y_mov rfl s119 ⟨rfl, rfl⟩) ?_
      refine wl_v (.int .i64 (0)) rfl rfl (y_mov rfl rfl ⟨rfl, rfl⟩) ?_
      refine wl_nil fun F133 hF134 => ?_
      have s135 : F133 0 = .pointer (some ⟨p, 0, none⟩) := (hF134 0).trans s112
      have s136 : F133 48 = undef := (hF134 48).trans s113
      have s137 : F133 2 = .pointer (some ⟨p1, 0, none⟩) := (hF134 2).trans s114
      have s138 : F133 3 = .int .i64 (0) := (hF134 3).trans s115
      have s139 : F133 9 = .bool false := (hF134 9).trans s116
      have s140 : F133 4 = .pointer (some ⟨p24, 0, none⟩) := (hF134 4).trans s117
      have s141 : F133 5 = .int .i64 (0) := (hF134 5).trans s118
      have s142 : F133 6 = .int .i64 (((M : Nat) : Int)) := (hF134 6).trans s119
      have s143 : F133 18 = .bool (decide ((16) < (((M : Nat) : Int)))) := (hF134 18).trans s120
      have s144 : F133 19 = .int .i64 (((M : Nat) : Int)) := (hF134 19).trans rfl
      have s145 : F133 20 = .int .i64 (0) := (hF134 20).trans rfl
      clear hF134
      refine then_normal ?_
      refine wq_block ?_
      refine wq_loop (fun nn FF ww => ∃ (i : Nat), ∃ (a : Nat), ∃ (b : Nat → Int), ∃ (s : Option Nat), ∃ (T146 : Nat → Prop), i ≤ M ∧ a ≤ 16 ∧ gRest l (M - i) a b s = gRd l st ∧ nn = M - i ∧ FF 0 = .pointer (some ⟨p, 0, none⟩) ∧ FF 2 = .pointer (some ⟨p1, 0, none⟩) ∧ FF 3 = .int .i64 (0) ∧ FF 4 = .pointer (some ⟨p24, 0, none⟩) ∧ FF 6 = .int .i64 (((M : Nat) : Int)) ∧ FF 9 = .bool false ∧ FF 18 = .bool (decide ((16) < (((M : Nat) : Int)))) ∧ FF 19 = .int .i64 (((M : Nat) : Int)) ∧ FF 48 = undef ∧ FF 5 = .int .i64 (((a : Nat) : Int)) ∧ FF 20 = .int .i64 (((i : Nat) : Int)) ∧ Kept (T_r) w0 ww ∧ Rdi ww (T146) p (l) (s) ∧ Blk ww p1 41 (fun _ => 0) ∧ Blk ww p24 41 (b) ∧ Grew w0 (T_r) T146 ∧ Apart (T146) (onB p1) ∧ Apart (T146) (onB p24)) (M - (0)) ⟨0, 0, (fun _ => 0), (rdStep (wholeRd l gBig) st).2, T55, by omega, by omega, (g_start (by assumption) (by omega) hM), rfl, s135, s137, s138, s140, s142, s139, s143, s144, s136, s141, s145, K109, B106, B107, B108, gr61, ap62, ap63⟩ ?_
      rintro n150 F147 w148 ⟨i, a, b, s, T146, i151, i152, hI, hn150, s153, s154, s155, s156, s157, s158, s159, s160, s161, s162, s163, K149, B164, B165, B166, gr167, ap168, ap169⟩
      refine wq_seq ?_
      refine wq_region ?_
      refine wl_v (.bool (decide ((((i : Nat) : Int)) < (((M : Nat) : Int))))) rfl rfl (y_lss rfl s163 s160 rfl ⟨rfl, rfl⟩) ?_
      refine wl_nil fun F170 hF171 => ?_
      have s172 : F170 0 = .pointer (some ⟨p, 0, none⟩) := (hF171 0).trans s153
      have s173 : F170 2 = .pointer (some ⟨p1, 0, none⟩) := (hF171 2).trans s154
      have s174 : F170 3 = .int .i64 (0) := (hF171 3).trans s155
      have s175 : F170 4 = .pointer (some ⟨p24, 0, none⟩) := (hF171 4).trans s156
      have s176 : F170 6 = .int .i64 (((M : Nat) : Int)) := (hF171 6).trans s157
      have s177 : F170 9 = .bool false := (hF171 9).trans s158
      have s178 : F170 18 = .bool (decide ((16) < (((M : Nat) : Int)))) := (hF171 18).trans s159
      have s179 : F170 19 = .int .i64 (((M : Nat) : Int)) := (hF171 19).trans s160
      have s180 : F170 48 = undef := (hF171 48).trans s161
      have s181 : F170 5 = .int .i64 (((a : Nat) : Int)) := (hF171 5).trans s162
      have s182 : F170 20 = .int .i64 (((i : Nat) : Int)) := (hF171 20).trans s163
      have s183 : F170 21 = .bool (decide ((((i : Nat) : Int)) < (((M : Nat) : Int)))) := (hF171 21).trans rfl
      clear hF171
      refine then_normal ?_
      refine wq_seq ?_
      refine wq_cond s183 (fun c184 => ?_) (fun c184 => ?_)
      · replace c184 := of_decide_eq_true c184
        refine wq_skip ?_
        refine then_normal ?_
        refine wq_seq ?_
        refine wq_block ?_
        refine wq_seq ?_
        have hat := gBig_at l a s
        refine wq_region ?_
        refine wl_v (.int .i64 (((a : Nat) : Int))) rfl rfl (y_mov rfl s181 ⟨rfl, rfl⟩) ?_
        refine wl_v (.pointer (some ⟨p, 0, none⟩)) rfl rfl (y_mov rfl s172 ⟨rfl, rfl⟩) ?_
        refine wl_call (R := fun v_ w_ => ∃ (T187 : Nat → Prop), .int .i64 ((rdStep (wholeRd (l) (9223372036854775807)) (s)).1) = v_ ∧ Kept (T146) w148 w_ ∧ (Rdi w_ T187 p ((l)) ((rdStep (wholeRd (l) (9223372036854775807)) (s)).2) ∧ Grew w148 (T146) T187)) rfl rfl (y_cs rfl rfl rfl (fun _ _ => by kernel_rfl) (ev_func _) (vsC rfl (vsC rfl vsN)) (t_rwhole (p) (l) (s) (9223372036854775807) (T146) _  B164 ) (fun e_ w_ h_ => by obtain ⟨T187_, he_, hr_⟩ := h_; exact ⟨_, he_, T187_, rfl, hr_⟩)) ?_
        rintro _ w185 ⟨T187, rfl, k186, ⟨B188, g189⟩⟩
        have B190 := B165.all k186 (fun x => (((ap168).symm) p1 rfl x))
        have B191 := B166.all k186 (fun x => (((ap169).symm) p24 rfl x))
        have K192 := K149.trans k186 (fun i hi x => ((Grew.ok (S := T_r) gr167 (fun _ x => x)) i hi x))
        have gr193 := gr167.trans K149 g189
        have ap194 : Apart T187 (onB p1) := (ap168).grew g189 (onB_live (B165).lt)
        have ap195 : Apart T187 (onB p24) := (ap169).grew g189 (onB_live (B166).lt)
        refine wl_v (.int .i64 ((((gOne l a s).1 : Nat) : Int))) rfl rfl (y_add rfl rfl rfl (i64_n (by rw [show (9223372036854775807 : Int) = gBig from rfl]; exact hat.1) (by omega)) ⟨rfl, rfl⟩) ?_
        refine wl_v (.int .i64 ((((gOne l a s).1 : Nat) : Int))) rfl rfl (y_asg rfl rfl ⟨rfl, rfl⟩) ?_
        refine wl_nil fun F196 hF197 => ?_
        have s198 : F196 0 = .pointer (some ⟨p, 0, none⟩) := (hF197 0).trans s172
        have s199 : F196 2 = .pointer (some ⟨p1, 0, none⟩) := (hF197 2).trans s173
        have s200 : F196 3 = .int .i64 (0) := (hF197 3).trans s174
        have s201 : F196 4 = .pointer (some ⟨p24, 0, none⟩) := (hF197 4).trans s175
        have s202 : F196 6 = .int .i64 (((M : Nat) : Int)) := (hF197 6).trans s176
        have s203 : F196 9 = .bool false := (hF197 9).trans s177
        have s204 : F196 18 = .bool (decide ((16) < (((M : Nat) : Int)))) := (hF197 18).trans s178
        have s205 : F196 19 = .int .i64 (((M : Nat) : Int)) := (hF197 19).trans s179
        have s206 : F196 48 = undef := (hF197 48).trans s180
        have s207 : F196 20 = .int .i64 (((i : Nat) : Int)) := (hF197 20).trans s182
        have s208 : F196 21 = .bool (decide ((((i : Nat) : Int)) < (((M : Nat) : Int)))) := (hF197 21).trans s183
        have s209 : F196 5 = .int .i64 ((((gOne l a s).1 : Nat) : Int)) := (hF197 5).trans rfl
        clear hF197
        refine then_normal ?_
        refine wq_seq ?_
        refine wq_seq ?_
        have B210 : Rdi w185 (T187) p (l) ((rdStep (wholeRd l gBig) s).2) := (B188)
        refine wq_region ?_
        refine wl_v (.int .i64 ((((gOne l a s).1 : Nat) : Int))) rfl rfl (y_mov rfl s209 ⟨rfl, rfl⟩) ?_
        refine wl_v (.bool (decide ((16) ≤ ((((gOne l a s).1 : Nat) : Int))))) rfl rfl (y_geq rfl rfl rfl rfl ⟨rfl, rfl⟩) ?_
        refine wl_nil fun F211 hF212 => ?_
        have s213 : F211 0 = .pointer (some ⟨p, 0, none⟩) := (hF212 0).trans s198
        have s214 : F211 2 = .pointer (some ⟨p1, 0, none⟩) := (hF212 2).trans s199
        have s215 : F211 3 = .int .i64 (0) := (hF212 3).trans s200
        have s216 : F211 4 = .pointer (some ⟨p24, 0, none⟩) := (hF212 4).trans s201
        have s217 : F211 6 = .int .i64 (((M : Nat) : Int)) := (hF212 6).trans s202
        have s218 : F211 9 = .bool false := (hF212 9).trans s203
        have s219 : F211 18 = .bool (decide ((16) < (((M : Nat) : Int)))) := (hF212 18).trans s204
        have s220 : F211 19 = .int .i64 (((M : Nat) : Int)) := (hF212 19).trans s205
        have s221 : F211 48 = undef := (hF212 48).trans s206
        have s222 : F211 20 = .int .i64 (((i : Nat) : Int)) := (hF212 20).trans s207
        have s223 : F211 21 = .bool (decide ((((i : Nat) : Int)) < (((M : Nat) : Int)))) := (hF212 21).trans s208
        have s224 : F211 5 = .int .i64 ((((gOne l a s).1 : Nat) : Int)) := (hF212 5).trans s209
        have s225 : F211 27 = .bool (decide ((16) ≤ ((((gOne l a s).1 : Nat) : Int)))) := (hF212 27).trans rfl
        clear hF212
        refine then_normal ?_
        refine wq_cond s225 (fun c226 => ?_) (fun c226 => ?_)
        · replace c226 := of_decide_eq_true c226
          refine wq_goto ?_
          refine then_goto ?_
          refine in_goto ?_
          refine then_goto ?_
          refine then_goto ?_
          refine in_goto ?_
          refine then_goto ?_
          refine jump_goto ⟨_, rfl, ?_⟩
          refine wq_seq ?_
          refine wq_skip ?_
          refine then_normal ?_
          refine wq_seq ?_
          first | have hR := g_none (l := l) (s := st) (Or.inl (by assumption)) | have hR := g_none (l := l) (s := st) (Or.inr (by omega)) | have hR := g_far (by omega) hI (by omega) | have hR := g_bad (by omega) hI (by omega) (by first | exact Or.inl (by assumption) | exact Or.inr (by assumption))
          refine wq_region ?_
          refine wl_v (blkV (fun _ => 0)) rfl rfl (y_buildR (cells := (arrL 16 (fun _ => 0)).toArray) rfl (by kernel_rfl) rfl ⟨rfl, rfl⟩) ?_
          refine wl_store_blk blkT_block rfl rfl rfl s214 rfl B190 fun w227 B228 k229 => ?_
          have B230 := B210.all k229 (fun i h x => ((ap194) i h x))
          have B231 := B191.all k229 (fun x => ((ap32) p24 rfl x))
          have K232 := K192.trans k229 (Grew.ok (S := T_r) gr7 noB_le)
          refine wl_v (.int .i64 (60)) rfl rfl (y_asg rfl rfl ⟨rfl, rfl⟩) ?_
          refine wl_nil fun F233 hF234 => ?_
          have s235 : F233 2 = .pointer (some ⟨p1, 0, none⟩) := (hF234 2).trans s214
          have s236 : F233 48 = undef := (hF234 48).trans s221
          have s237 : F233 3 = .int .i64 (60) := (hF234 3).trans rfl
          clear hF234
          refine then_normal ?_
          refine wq_ret ?_
          refine stay_ret ?_
          exact end_2 s236 rfl (res_blk blkT_block rfl s235 B228) (res_tmp (v := .int .i64 (60)) rfl s237) ⟨T187, (by rw [← (told_as hR).1, ← (told_as hR).2.1]), K232, ⟨(by rw [(told_as hR).2.2]; exact B230), gr193⟩⟩
        · replace c226 := of_decide_eq_false c226
          refine wq_skip ?_
          refine then_normal ?_
          refine wq_seq ?_
          refine wq_region ?_
          refine wl_v (.pointer (some ⟨p, 0, none⟩)) rfl rfl (y_mov rfl s213 ⟨rfl, rfl⟩) ?_
          refine wl_call (R := fun v_ w_ => ∃ (T240 : Nat → Prop), .int .i64 ((gOne l a s).2.1) = v_ ∧ Kept (T187) w185 w_ ∧ (Rdi w_ T240 p ((l)) ((rdStep (signedRd (l) (9223372036854775807)) ((rdStep (wholeRd l gBig) s).2)).2) ∧ Grew w185 (T187) T240)) rfl rfl (y_cs rfl rfl rfl (fun _ _ => by kernel_rfl) (ev_func _) (vsC rfl (vsC rfl vsN)) (t_rsigned (p) (l) ((rdStep (wholeRd l gBig) s).2) (9223372036854775807) (T187) _  B210 ) (fun e_ w_ h_ => by obtain ⟨T240_, he_, hr_⟩ := h_; exact ⟨_, he_, T240_, rfl, hr_⟩)) ?_
          rintro _ w238 ⟨T240, rfl, k239, ⟨B241, g242⟩⟩
          have B243 := B190.all k239 (fun x => (((ap194).symm) p1 rfl x))
          have B244 := B191.all k239 (fun x => (((ap195).symm) p24 rfl x))
          have K245 := K192.trans k239 (fun i hi x => ((Grew.ok (S := T_r) gr193 (fun _ x => x)) i hi x))
          have gr246 := gr193.trans K192 g242
          have ap247 : Apart T240 (onB p1) := (ap194).grew g242 (onB_live (B190).lt)
          have ap248 : Apart T240 (onB p24) := (ap195).grew g242 (onB_live (B191).lt)
          refine wl_v (.int .i64 ((gOne l a s).2.1)) rfl rfl (y_asg rfl rfl ⟨rfl, rfl⟩) ?_
          refine wl_nil fun F249 hF250 => ?_
          have s251 : F249 0 = .pointer (some ⟨p, 0, none⟩) := (hF250 0).trans s213
          have s252 : F249 2 = .pointer (some ⟨p1, 0, none⟩) := (hF250 2).trans s214
          have s253 : F249 3 = .int .i64 (0) := (hF250 3).trans s215
          have s254 : F249 4 = .pointer (some ⟨p24, 0, none⟩) := (hF250 4).trans s216
          have s255 : F249 6 = .int .i64 (((M : Nat) : Int)) := (hF250 6).trans s217
          have s256 : F249 9 = .bool false := (hF250 9).trans s218
          have s257 : F249 18 = .bool (decide ((16) < (((M : Nat) : Int)))) := (hF250 18).trans s219
          have s258 : F249 19 = .int .i64 (((M : Nat) : Int)) := (hF250 19).trans s220
          have s259 : F249 48 = undef := (hF250 48).trans s221
          have s260 : F249 20 = .int .i64 (((i : Nat) : Int)) := (hF250 20).trans s222
          have s261 : F249 21 = .bool (decide ((((i : Nat) : Int)) < (((M : Nat) : Int)))) := (hF250 21).trans s223
          have s262 : F249 5 = .int .i64 ((((gOne l a s).1 : Nat) : Int)) := (hF250 5).trans s224
          have s263 : F249 27 = .bool (decide ((16) ≤ ((((gOne l a s).1 : Nat) : Int)))) := (hF250 27).trans s225
          have s264 : F249 7 = .int .i64 ((gOne l a s).2.1) := (hF250 7).trans rfl
          clear hF250
          refine then_normal ?_
          refine wq_seq ?_
          refine wq_seq ?_
          have B265 : Rdi w238 (T240) p (l) ((gOne l a s).2.2) := (B241)
          by_cases d266 : ((gOne l a s).2.1) = (0)
          · skip
            refine wq_region ?_
            refine wl_v (.int .i64 ((gOne l a s).2.1)) rfl rfl (y_mov rfl s264 ⟨rfl, rfl⟩) ?_
            refine wl_v (.bool true) rfl rfl (y_eqlI rfl rfl rfl (decide_eq_true d266) ⟨rfl, rfl⟩) ?_
            refine wl_v (.bool true) rfl rfl (y_mov rfl rfl ⟨rfl, rfl⟩) ?_
            refine wl_unless 2 false 32 rfl rfl rfl (Or.inl rfl) rfl ?_
            refine wl_unless 2 false 32 rfl rfl rfl (Or.inl rfl) rfl ?_
            refine wl_unless 2 false 32 rfl rfl rfl (Or.inl rfl) rfl ?_
            refine wl_unless 2 false 32 rfl rfl rfl (Or.inl rfl) rfl ?_
            refine wl_v (.bool true) rfl rfl (y_pickT rfl rfl rfl ⟨rfl, rfl⟩) ?_
            refine wl_nil fun F267 hF268 => ?_
            have s269 : F267 0 = .pointer (some ⟨p, 0, none⟩) := (hF268 0).trans s251
            have s270 : F267 2 = .pointer (some ⟨p1, 0, none⟩) := (hF268 2).trans s252
            have s271 : F267 3 = .int .i64 (0) := (hF268 3).trans s253
            have s272 : F267 4 = .pointer (some ⟨p24, 0, none⟩) := (hF268 4).trans s254
            have s273 : F267 6 = .int .i64 (((M : Nat) : Int)) := (hF268 6).trans s255
            have s274 : F267 9 = .bool false := (hF268 9).trans s256
            have s275 : F267 18 = .bool (decide ((16) < (((M : Nat) : Int)))) := (hF268 18).trans s257
            have s276 : F267 19 = .int .i64 (((M : Nat) : Int)) := (hF268 19).trans s258
            have s277 : F267 48 = undef := (hF268 48).trans s259
            have s278 : F267 20 = .int .i64 (((i : Nat) : Int)) := (hF268 20).trans s260
            have s279 : F267 21 = .bool (decide ((((i : Nat) : Int)) < (((M : Nat) : Int)))) := (hF268 21).trans s261
            have s280 : F267 5 = .int .i64 ((((gOne l a s).1 : Nat) : Int)) := (hF268 5).trans s262
            have s281 : F267 27 = .bool (decide ((16) ≤ ((((gOne l a s).1 : Nat) : Int)))) := (hF268 27).trans s263
            have s282 : F267 7 = .int .i64 ((gOne l a s).2.1) := (hF268 7).trans s264
            have s283 : F267 37 = .bool true := (hF268 37).trans rfl
            clear hF268
            refine then_normal ?_
            refine wq_cond (t := true) s283 (fun _ => ?_) (fun e => by cases e)
            refine wq_goto ?_
            refine then_goto ?_
            refine in_goto ?_
            refine then_goto ?_
            refine then_goto ?_
            refine in_goto ?_
            refine then_goto ?_
            refine jump_goto ⟨_, rfl, ?_⟩
            refine wq_seq ?_
            refine wq_skip ?_
            refine then_normal ?_
            refine wq_seq ?_
            first | have hR := g_none (l := l) (s := st) (Or.inl (by assumption)) | have hR := g_none (l := l) (s := st) (Or.inr (by omega)) | have hR := g_far (by omega) hI (by omega) | have hR := g_bad (by omega) hI (by omega) (by first | exact Or.inl (by assumption) | exact Or.inr (by assumption))
            refine wq_region ?_
            refine wl_v (blkV (fun _ => 0)) rfl rfl (y_buildR (cells := (arrL 16 (fun _ => 0)).toArray) rfl (by kernel_rfl) rfl ⟨rfl, rfl⟩) ?_
            refine wl_store_blk blkT_block rfl rfl rfl s270 rfl B243 fun w284 B285 k286 => ?_
            have B287 := B265.all k286 (fun i h x => ((ap247) i h x))
            have B288 := B244.all k286 (fun x => ((ap32) p24 rfl x))
            have K289 := K245.trans k286 (Grew.ok (S := T_r) gr7 noB_le)
            refine wl_v (.int .i64 (60)) rfl rfl (y_asg rfl rfl ⟨rfl, rfl⟩) ?_
            refine wl_nil fun F290 hF291 => ?_
            have s292 : F290 2 = .pointer (some ⟨p1, 0, none⟩) := (hF291 2).trans s270
            have s293 : F290 48 = undef := (hF291 48).trans s277
            have s294 : F290 3 = .int .i64 (60) := (hF291 3).trans rfl
            clear hF291
            refine then_normal ?_
            refine wq_ret ?_
            refine stay_ret ?_
            exact end_2 s293 rfl (res_blk blkT_block rfl s292 B285) (res_tmp (v := .int .i64 (60)) rfl s294) ⟨T240, (by rw [← (told_as hR).1, ← (told_as hR).2.1]), K289, ⟨(by rw [(told_as hR).2.2]; exact B287), gr246⟩⟩
          · skip
            refine wq_region ?_
            refine wl_v (.int .i64 ((gOne l a s).2.1)) rfl rfl (y_mov rfl s264 ⟨rfl, rfl⟩) ?_
            refine wl_v (.bool false) rfl rfl (y_eqlI rfl rfl rfl (decide_eq_false d266) ⟨rfl, rfl⟩) ?_
            refine wl_v (.bool false) rfl rfl (y_mov rfl rfl ⟨rfl, rfl⟩) ?_
            refine wl_vw (.int .i64 ((gOne l a s).2.1)) 2 false 32 rfl rfl rfl rfl rfl (y_mov rfl s264 ⟨rfl, rfl⟩) ?_
            refine wl_vw (.int .i64 ((gOne l a s).2.1)) 2 false 32 rfl rfl rfl rfl rfl (y_mov rfl s264 ⟨rfl, rfl⟩) ?_
            refine wl_callw (R := fun v_ w_ => v_ = .int .i64 (cl 1048576 ((gOne l a s).2.1)) ∧ Kept (fun _ => False) w238 w_) 2 false 32 rfl rfl rfl rfl rfl (y_cs rfl rfl rfl (fun _ _ => by kernel_rfl) (ev_func _) (vsC rfl vsN) (scan_clamped ((gOne l a s).2.1)  _   ) (fun e_ w_ h_ => ⟨_, h_.1, rfl, h_.2⟩)) ?_
            rintro _ w295 ⟨rfl, k296⟩
            have B297 := B265.all k296 Apart.none
            have B298 := B243.all k296 id
            have B299 := B244.all k296 id
            have K300 := K245.trans k296 (fun _ _ x => x.elim)
            refine wl_vw (.bool (decide (((gOne l a s).2.1) ≠ (cl 1048576 ((gOne l a s).2.1))))) 2 false 32 rfl rfl rfl rfl rfl (y_neqI rfl rfl rfl rfl ⟨rfl, rfl⟩) ?_
            refine wl_v (.bool (decide (((gOne l a s).2.1) ≠ (cl 1048576 ((gOne l a s).2.1))))) rfl rfl (y_pickF rfl rfl rfl ⟨rfl, rfl⟩) ?_
            refine wl_nil fun F301 hF302 => ?_
            have s303 : F301 0 = .pointer (some ⟨p, 0, none⟩) := (hF302 0).trans s251
            have s304 : F301 2 = .pointer (some ⟨p1, 0, none⟩) := (hF302 2).trans s252
            have s305 : F301 3 = .int .i64 (0) := (hF302 3).trans s253
            have s306 : F301 4 = .pointer (some ⟨p24, 0, none⟩) := (hF302 4).trans s254
            have s307 : F301 6 = .int .i64 (((M : Nat) : Int)) := (hF302 6).trans s255
            have s308 : F301 9 = .bool false := (hF302 9).trans s256
            have s309 : F301 18 = .bool (decide ((16) < (((M : Nat) : Int)))) := (hF302 18).trans s257
            have s310 : F301 19 = .int .i64 (((M : Nat) : Int)) := (hF302 19).trans s258
            have s311 : F301 48 = undef := (hF302 48).trans s259
            have s312 : F301 20 = .int .i64 (((i : Nat) : Int)) := (hF302 20).trans s260
            have s313 : F301 21 = .bool (decide ((((i : Nat) : Int)) < (((M : Nat) : Int)))) := (hF302 21).trans s261
            have s314 : F301 5 = .int .i64 ((((gOne l a s).1 : Nat) : Int)) := (hF302 5).trans s262
            have s315 : F301 27 = .bool (decide ((16) ≤ ((((gOne l a s).1 : Nat) : Int)))) := (hF302 27).trans s263
            have s316 : F301 7 = .int .i64 ((gOne l a s).2.1) := (hF302 7).trans s264
            have s317 : F301 37 = .bool (decide (((gOne l a s).2.1) ≠ (cl 1048576 ((gOne l a s).2.1)))) := (hF302 37).trans rfl
            clear hF302
            refine then_normal ?_
            refine wq_cond s317 (fun c318 => ?_) (fun c318 => ?_)
            · replace c318 := of_decide_eq_true c318
              refine wq_goto ?_
              refine then_goto ?_
              refine in_goto ?_
              refine then_goto ?_
              refine then_goto ?_
              refine in_goto ?_
              refine then_goto ?_
              refine jump_goto ⟨_, rfl, ?_⟩
              refine wq_seq ?_
              refine wq_skip ?_
              refine then_normal ?_
              refine wq_seq ?_
              first | have hR := g_none (l := l) (s := st) (Or.inl (by assumption)) | have hR := g_none (l := l) (s := st) (Or.inr (by omega)) | have hR := g_far (by omega) hI (by omega) | have hR := g_bad (by omega) hI (by omega) (by first | exact Or.inl (by assumption) | exact Or.inr (by assumption))
              refine wq_region ?_
              refine wl_v (blkV (fun _ => 0)) rfl rfl (y_buildR (cells := (arrL 16 (fun _ => 0)).toArray) rfl (by kernel_rfl) rfl ⟨rfl, rfl⟩) ?_
              refine wl_store_blk blkT_block rfl rfl rfl s304 rfl B298 fun w319 B320 k321 => ?_
              have B322 := B297.all k321 (fun i h x => ((ap247) i h x))
              have B323 := B299.all k321 (fun x => ((ap32) p24 rfl x))
              have K324 := K300.trans k321 (Grew.ok (S := T_r) gr7 noB_le)
              refine wl_v (.int .i64 (60)) rfl rfl (y_asg rfl rfl ⟨rfl, rfl⟩) ?_
              refine wl_nil fun F325 hF326 => ?_
              have s327 : F325 2 = .pointer (some ⟨p1, 0, none⟩) := (hF326 2).trans s304
              have s328 : F325 48 = undef := (hF326 48).trans s311
              have s329 : F325 3 = .int .i64 (60) := (hF326 3).trans rfl
              clear hF326
              refine then_normal ?_
              refine wq_ret ?_
              refine stay_ret ?_
              exact end_2 s328 rfl (res_blk blkT_block rfl s327 B320) (res_tmp (v := .int .i64 (60)) rfl s329) ⟨T240, (by rw [← (told_as hR).1, ← (told_as hR).2.1]), K324, ⟨(by rw [(told_as hR).2.2]; exact B322), gr246⟩⟩
            · replace c318 := of_decide_eq_false c318
              refine wq_skip ?_
              refine then_normal ?_
              refine wq_seq ?_
              have hN : ¬ ((gOne l a s).2.1 = 0 ∨ (gOne l a s).2.1 ≠ cl 1048576 (gOne l a s).2.1) := by rintro (h | h); exact absurd h (by assumption); exact absurd h (by assumption)
              have ho := ord_lt (gOne l a s).1 (by omega)
              refine wq_region ?_
              refine wl_v (.int .i64 ((((gOne l a s).1 : Nat) : Int))) rfl rfl (y_mov rfl s314 ⟨rfl, rfl⟩) ?_
              refine wl_v (.pointer (some ⟨0, (gOne l a s).1, none⟩)) rfl rfl (y_atR ((gOne l a s).1) (s := 1) rfl rfl rfl (by omega) Tryd.underlying22 (by omega) (by kernel_rfl) (by omega) ⟨rfl, rfl⟩) ?_
              refine wl_v (.int .i64 (((ord (gOne l a s).1 : Nat) : Int))) rfl rfl (y_ldR rfl rfl Tryd.underlying3 (((hO.but K300 hG).cell (by omega))) ⟨rfl, rfl⟩) ?_
              refine wl_v (.int .i64 ((gOne l a s).2.1)) rfl rfl (y_mov rfl s316 ⟨rfl, rfl⟩) ?_
              refine wl_v (.pointer (some ⟨p24, ord (gOne l a s).1, none⟩)) rfl rfl (y_atR (ord (gOne l a s).1) (s := 1) rfl s306 rfl (by omega) Tryd.underlying41 (by omega) (by kernel_rfl) (by omega) ⟨rfl, rfl⟩) ?_
              refine wl_set_blk rfl rfl rfl rfl rfl B299 (by omega) (by kernel_rfl) fun w330 B331 k332 => ?_
              have B333 := B297.all k332 (fun i h x => ((ap248) i h x))
              have B334 := B298.all k332 (fun x => (((ap32).symm) p1 rfl x))
              have K335 := K300.trans k332 (Grew.ok (S := T_r) gr30 noB_le)
              refine wl_nil fun F336 hF337 => ?_
              have s338 : F336 0 = .pointer (some ⟨p, 0, none⟩) := (hF337 0).trans s303
              have s339 : F336 2 = .pointer (some ⟨p1, 0, none⟩) := (hF337 2).trans s304
              have s340 : F336 3 = .int .i64 (0) := (hF337 3).trans s305
              have s341 : F336 4 = .pointer (some ⟨p24, 0, none⟩) := (hF337 4).trans s306
              have s342 : F336 6 = .int .i64 (((M : Nat) : Int)) := (hF337 6).trans s307
              have s343 : F336 9 = .bool false := (hF337 9).trans s308
              have s344 : F336 18 = .bool (decide ((16) < (((M : Nat) : Int)))) := (hF337 18).trans s309
              have s345 : F336 19 = .int .i64 (((M : Nat) : Int)) := (hF337 19).trans s310
              have s346 : F336 48 = undef := (hF337 48).trans s311
              have s347 : F336 20 = .int .i64 (((i : Nat) : Int)) := (hF337 20).trans s312
              have s348 : F336 5 = .int .i64 ((((gOne l a s).1 : Nat) : Int)) := (hF337 5).trans s314
              have s349 : F336 7 = .int .i64 ((gOne l a s).2.1) := (hF337 7).trans s316
              have s350 : F336 37 = .bool (decide (((gOne l a s).2.1) ≠ (cl 1048576 ((gOne l a s).2.1)))) := (hF337 37).trans s317
              clear hF337
              refine then_normal ?_
              refine wq_region ?_
              refine wl_v (.int .i64 ((((gOne l a s).1 : Nat) : Int))) rfl rfl (y_mov rfl s348 ⟨rfl, rfl⟩) ?_
              refine wl_v (.int .i64 (((((gOne l a s).1) + 1 : Nat) : Int))) rfl rfl (y_add rfl rfl rfl (i64_n (by omega) (by omega)) ⟨rfl, rfl⟩) ?_
              refine wl_v (.int .i64 (((((gOne l a s).1) + 1 : Nat) : Int))) rfl rfl (y_asg rfl rfl ⟨rfl, rfl⟩) ?_
              refine wl_nil fun F351 hF352 => ?_
              have s353 : F351 0 = .pointer (some ⟨p, 0, none⟩) := (hF352 0).trans s338
              have s354 : F351 2 = .pointer (some ⟨p1, 0, none⟩) := (hF352 2).trans s339
              have s355 : F351 3 = .int .i64 (0) := (hF352 3).trans s340
              have s356 : F351 4 = .pointer (some ⟨p24, 0, none⟩) := (hF352 4).trans s341
              have s357 : F351 6 = .int .i64 (((M : Nat) : Int)) := (hF352 6).trans s342
              have s358 : F351 9 = .bool false := (hF352 9).trans s343
              have s359 : F351 18 = .bool (decide ((16) < (((M : Nat) : Int)))) := (hF352 18).trans s344
              have s360 : F351 19 = .int .i64 (((M : Nat) : Int)) := (hF352 19).trans s345
              have s361 : F351 48 = undef := (hF352 48).trans s346
              have s362 : F351 20 = .int .i64 (((i : Nat) : Int)) := (hF352 20).trans s347
              have s363 : F351 7 = .int .i64 ((gOne l a s).2.1) := (hF352 7).trans s349
              have s364 : F351 37 = .bool (decide (((gOne l a s).2.1) ≠ (cl 1048576 ((gOne l a s).2.1)))) := (hF352 37).trans s350
              have s365 : F351 5 = .int .i64 (((((gOne l a s).1) + 1 : Nat) : Int)) := (hF352 5).trans rfl
              clear hF352
              refine in_normal ?_
              refine then_normal ?_
              refine wq_region ?_
              refine wl_v (.int .i64 (((i + 1 : Nat) : Int))) rfl rfl (y_add rfl s362 rfl (i64_n (by omega) (by omega)) ⟨rfl, rfl⟩) ?_
              refine wl_v (.int .i64 (((i + 1 : Nat) : Int))) rfl rfl (y_mov rfl rfl ⟨rfl, rfl⟩) ?_
              refine wl_nil fun F366 hF367 => ?_
              have s368 : F366 0 = .pointer (some ⟨p, 0, none⟩) := (hF367 0).trans s353
              have s369 : F366 2 = .pointer (some ⟨p1, 0, none⟩) := (hF367 2).trans s354
              have s370 : F366 3 = .int .i64 (0) := (hF367 3).trans s355
              have s371 : F366 4 = .pointer (some ⟨p24, 0, none⟩) := (hF367 4).trans s356
              have s372 : F366 6 = .int .i64 (((M : Nat) : Int)) := (hF367 6).trans s357
              have s373 : F366 9 = .bool false := (hF367 9).trans s358
              have s374 : F366 18 = .bool (decide ((16) < (((M : Nat) : Int)))) := (hF367 18).trans s359
              have s375 : F366 19 = .int .i64 (((M : Nat) : Int)) := (hF367 19).trans s360
              have s376 : F366 48 = undef := (hF367 48).trans s361
              have s377 : F366 7 = .int .i64 ((gOne l a s).2.1) := (hF367 7).trans s363
              have s378 : F366 37 = .bool (decide (((gOne l a s).2.1) ≠ (cl 1048576 ((gOne l a s).2.1)))) := (hF367 37).trans s364
              have s379 : F366 5 = .int .i64 (((((gOne l a s).1) + 1 : Nat) : Int)) := (hF367 5).trans s365
              have s380 : F366 20 = .int .i64 (((i + 1 : Nat) : Int)) := (hF367 20).trans rfl
              clear hF367
              exact then_normal ⟨(M - (i + 1)), by omega, i + 1, (gOne l a s).1 + 1, (upd b (ord (gOne l a s).1) (gOne l a s).2.1), (gOne l a s).2.2, T240, by omega, by omega, (g_ok (by omega) hI (by omega) hN), rfl, s368, s369, s370, s371, s372, s373, s374, s375, s376, s379, s380, K335, B333, B334, B331, gr246, ap247, ap248⟩
      · replace c184 := of_decide_eq_false c184
        refine wq_exit ?_
        refine then_exit ?_
        refine then_exit ?_
        refine in_here ?_
        refine then_normal ?_
        refine wq_seq ?_
        refine wq_seq ?_
        have hR := g_done (by omega) hI
        refine wq_region ?_
        refine wl_v (blkV (b)) rfl rfl (y_load_blk blkT_block rfl s175 B166 ⟨rfl, rfl⟩) ?_
        refine wl_store_blk blkT_block rfl rfl rfl s173 rfl B165 fun w381 B382 k383 => ?_
        have B384 := B164.all k383 (fun i h x => ((ap168) i h x))
        have B385 := B166.all k383 (fun x => ((ap32) p24 rfl x))
        have K386 := K149.trans k383 (Grew.ok (S := T_r) gr7 noB_le)
        refine wl_v (.int .i64 (0)) rfl rfl (y_asg rfl rfl ⟨rfl, rfl⟩) ?_
        refine wl_nil fun F387 hF388 => ?_
        have s389 : F387 2 = .pointer (some ⟨p1, 0, none⟩) := (hF388 2).trans s173
        have s390 : F387 48 = undef := (hF388 48).trans s180
        have s391 : F387 3 = .int .i64 (0) := (hF388 3).trans rfl
        clear hF388
        refine then_normal ?_
        refine wq_ret ?_
        refine then_ret ?_
        refine jump_ret ?_
        exact end_2 s390 rfl (res_blk blkT_block rfl s389 B382) (res_tmp (v := .int .i64 (0)) rfl s391) ⟨T146, (by rw [← (told_as hR).1, ← (told_as hR).2.1]), K386, ⟨(by rw [(told_as hR).2.2]; exact B384), gr167⟩⟩
end Go.Proofs.YtipimcnjcpckeaaDoor
