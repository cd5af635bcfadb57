/- What BlockNear reaches of my texts, part 3. -/
import Derived.Test.YtdcbabgcbkdlhaaDoorBlockNearB
set_option maxRecDepth 100000
set_option maxRecDepth 100000
namespace Go.Proofs.YtdcbabgcbkdlhaaDoor
open Go.RowKit

/-- What is asked of the package's variables. -/
def ScanIn (w : World) : Prop := BlkG w 1 ordB
theorem ScanIn.all {w w' : World} (h : ScanIn w) (k : Kept (fun _ => False) w w') : ScanIn w' := BlkG.all h k id
theorem ScanIn.but {w w' : World} {T : Nat → Prop} (h : ScanIn w) (k : Kept T w w') (ha : ∀ i, T i → 1 < i) : ScanIn w' := BlkG.all h k (fun x => absurd (ha _ x) (by decide))
theorem ScanIn.pos {w : World} (h : ScanIn w) : 1 < w.heap.size := BlkG.lt h

theorem above {w0 : World} {T : Nat → Prop} (g : Grew w0 noB T) (h : ScanIn w0) : ∀ i, T i → 1 < i := fun i hi => by
  have := BlkG.lt h
  rcases g i hi with h1 | h1
  · exact h1.elim
  · omega
theorem above2 {w0 : World} {B T : Nat → Prop} (g : Grew w0 B T) (hB : ∀ i, B i → 1 < i) (h : ScanIn w0) : ∀ i, T i → 1 < i := fun i hi => by
  have := BlkG.lt h
  rcases g i hi with h1 | h1
  · exact hB i h1
  · omega

/-- A block's levels, to be ranged over: the block lies in memory. -/
def Lvs (w : World) (T : Nat → Prop) (p : Nat) (b : Nat → Int) : Prop := T = onB p ∧ Blk w p 25 b
theorem Lvs.live {w : World} {T : Nat → Prop} {p : Nat} {b : Nat → Int} (h : Lvs w T p b) : Live w T := by
  obtain ⟨rfl, h⟩ := h; exact onB_live h.lt
theorem Lvs.all {S : Nat → Prop} {w w' : World} {T : Nat → Prop} {p : Nat} {b : Nat → Int} (h : Lvs w T p b) (k : Kept S w w') (ha : Apart T S) : Lvs w' T p b := by
  obtain ⟨rfl, h⟩ := h; exact ⟨rfl, h.all k (ha p rfl)⟩
theorem Lvs.cells {w : World} {T : Nat → Prop} {p : Nat} {b : Nat → Int} (h : Lvs w T p b) : Cells w T := by
  obtain ⟨rfl, h⟩ := h; exact h.cells
theorem Lvs.row {A B : World} {row : Option Nat} {n p : Nat} {T : Nat → Prop} {b : Nat → Int} (h : Lvs A T p b) (hg : A.grownBy B row) (hr : RowNew n A row) : Lvs B T p b := h.all (kept_row hg) (h.cells.apart hr)

section
variable {P : Program} {ρ : Operand → Value} {o : Oper} {w : World} {R : Value → World → Prop}
theorem y_clo {f : FuncId} {x : Operand} {v : Value} (ho : o.op = .makeFunc (.func f) #[] #[x]) (hx : ρ x = v) (h : R (.func (.func f) #[] #[v]) w) : Yields P ρ o w R :=
  y_of (v := .func (.func f) #[] #[v]) (w' := w) (by simp [execOp, ho, hx, show ∀ cap, (Instr.makeFunc (.func f) #[] cap).run P w = .ok (.func (.func f) #[] cap) w from fun _ => rfl]) h
end

set_option maxHeartbeats 4000000 in
set_option maxRecDepth 100000 in
theorem scan_clamped (n : Int) (w0 : World) :
  Calls Tryd.prog 86 #[.int .i64 (n)] w0 fun e w' => e = .returned (.int .i64 (cl 1048576 n)) ∧ Kept (fun _ => False) w0 w' := by
 refine calls_wq (args := [.int .i64 (n)]) 6 Tryd.func86 rfl rfl (Nat.le_of_ble_eq_true rfl) ?_
 have K0 := Kept.refl (fun _ => False) w0
 refine wq_seq ?_
 refine wq_region ?_
 refine wl_v (.int .i64 (0)) rfl rfl (y_asg rfl rfl ⟨rfl, rfl⟩) ?_
 refine wl_nil fun F1 hF2 => ?_
 have s3 : F1 0 = .int .i64 (n) := (hF2 0).trans rfl
 have s4 : F1 6 = undef := (hF2 6).trans rfl
 clear hF2
 refine then_normal ?_
 refine wq_seq ?_
 refine wq_region ?_
 refine wl_v (.int .i64 (n)) rfl rfl (y_mov rfl s3 ⟨rfl, rfl⟩) ?_
 refine wl_v (.int .i64 (min (n) (1048576))) rfl rfl (y_minR rfl rfl rfl rfl ⟨rfl, rfl⟩) ?_
 refine wl_v (.int .i64 (cl 1048576 n)) rfl rfl (y_maxR rfl rfl rfl (by unfold cl; omega) ⟨rfl, rfl⟩) ?_
 refine wl_v (.int .i64 (cl 1048576 n)) rfl rfl (y_asg rfl rfl ⟨rfl, rfl⟩) ?_
 refine wl_nil fun F5 hF6 => ?_
 have s7 := (hF6 6).trans s4
 have s8 : F5 2 = .int .i64 (cl 1048576 n) := (hF6 2).trans rfl
 clear hF6
 refine then_normal ?_
 refine wq_ret ?_
 exact end_tmp (v := .int .i64 (cl 1048576 n)) s7 rfl rfl s8 ⟨rfl, K0⟩

set_option maxHeartbeats 4000000 in
set_option maxRecDepth 100000 in
theorem scan_levels (b : Nat → Int) (w0 : World) :
  Calls Tryd.prog 77 #[blkV (b)] w0 fun e w' => ∃ (v1 : Nat) (T1 : Nat → Prop), e = .returned (.func (.func 107) #[] #[.pointer (some ⟨v1, 0, none⟩)]) ∧ Kept (fun _ => False) w0 w' ∧ (Lvs w' T1 v1 (b) ∧ Grew w0 noB T1) := by
 refine calls_wq (args := [blkV (b)]) 4 Tryd.func77 rfl rfl (Nat.le_of_ble_eq_true rfl) ?_
 have K0 := Kept.refl (fun _ => False) w0
 refine wq_seq ?_
 refine wq_region ?_
 refine wl_box_blk rfl rfl rfl rfl fun p1 w2 e5 B3 k4 => ?_
 have g6 := onB_new (Nat.le_of_eq e5.symm)
 have gr7 : Grew w0 noB (onB p1) := Grew.new K0 g6
 clear e5 g6
 have K8 := K0.trans k4 (fun _ _ x => x.elim)
 refine wl_v (Value.nilFunc) rfl rfl (y_asg rfl rfl ⟨rfl, rfl⟩) ?_
 refine wl_nil fun F9 hF10 => ?_
 have s11 : F9 4 = undef := (hF10 4).trans rfl
 have s12 : F9 1 = .pointer (some ⟨p1, 0, none⟩) := (hF10 1).trans rfl
 clear hF10
 refine then_normal ?_
 refine wq_seq ?_
 refine wq_region ?_
 refine wl_v (.func (.func 107) #[] #[.pointer (some ⟨p1, 0, none⟩)]) rfl rfl (y_clo rfl s12 ⟨rfl, rfl⟩) ?_
 refine wl_v (.func (.func 107) #[] #[.pointer (some ⟨p1, 0, none⟩)]) rfl rfl (y_asg rfl rfl ⟨rfl, rfl⟩) ?_
 refine wl_nil fun F13 hF14 => ?_
 have s15 := (hF14 4).trans s11
 have s16 : F13 2 = .func (.func 107) #[] #[.pointer (some ⟨p1, 0, none⟩)] := (hF14 2).trans rfl
 clear hF14
 refine then_normal ?_
 refine wq_ret ?_
 exact end_tmp (v := .func (.func 107) #[] #[.pointer (some ⟨p1, 0, none⟩)]) s15 rfl rfl s16 ⟨p1, (onB p1), rfl, K8, ⟨⟨rfl, B3⟩, gr7⟩⟩

set_option maxHeartbeats 4000000 in
set_option maxRecDepth 100000 in
theorem levels_go (b : Nat → Int) (p : Nat) (l : Nat) (J Jx : List (Nat × Int) → World → Prop) (T_j : Nat → Prop) (w0 : World) (hO : ScanIn w0) (hG : ∀ i, T_j i → 1 < i) (h_p : Blk w0 p 25 (b)) (ap_p : Apart T_j (onB p))
  (hY : ∀ (pre : List (Nat × Int)) (x : Nat × Int) (W1 : World), J pre W1 → pre.length < 16 → YieldAt Fence.wide 0 Tryd.prog l ((fun x => [.int .i64 ((x.1 : Nat) : Int), .int .i64 x.2]) x).toArray W1 fun e W' => (e = .returned (.bool true) ∧ J (pre ++ [x]) W' ∧ Kept T_j W1 W') ∨ (e = .returned (.bool false) ∧ Jx (pre ++ [x]) W')) (h_j : Jat w0 T_j J []) :
  Calls Tryd.prog 107 #[.func (.yield l) #[] #[], .pointer (some ⟨p, 0, none⟩)] w0 fun e w' => (∃ v, e = .returned v) ∧ (J (runs 0 (lvls b)) w' ∨ ∃ pre, Jx pre w') := by
 refine calls_wq (args := [.func (.yield l) #[] #[], .pointer (some ⟨p, 0, none⟩)]) 25 Tryd.func107 rfl rfl (Nat.le_of_ble_eq_true rfl) ?_
 have K0 := Kept.refl (T_j) w0
 refine wq_seq ?_
 refine wq_region ?_
 refine wl_v (.int .i64 (0)) rfl rfl (y_asg rfl rfl ⟨rfl, rfl⟩) ?_
 refine wl_nil fun F1 hF2 => ?_
 have s3 : F1 0 = .func (.yield l) #[] #[] := (hF2 0).trans rfl
 have s4 : F1 1 = .pointer (some ⟨p, 0, none⟩) := (hF2 1).trans rfl
 have s5 : F1 25 = undef := (hF2 25).trans rfl
 have s6 : F1 3 = .int .i64 (0) := (hF2 3).trans rfl
 clear hF2
 refine then_normal ?_
 refine wq_seq ?_
 refine wq_region ?_
 refine wl_v (blkV (ordB)) rfl rfl (y_load_glob blkT_arr rfl rfl ((hO.but K0 hG)) ⟨rfl, rfl⟩) ?_
 refine wl_v (.int .i64 (0)) rfl rfl (y_mov rfl rfl ⟨rfl, rfl⟩) ?_
 refine wl_nil fun F7 hF8 => ?_
 have s9 := (hF8 0).trans s3
 have s10 := (hF8 1).trans s4
 have s11 := (hF8 25).trans s5
 have s12 := (hF8 3).trans s6
 have s13 : F7 7 = blkV (ordB) := (hF8 7).trans rfl
 have s14 : F7 8 = .int .i64 (0) := (hF8 8).trans rfl
 clear hF8
 refine then_normal ?_
 refine wq_block ?_
 refine wq_loop (fun nn FF ww => ∃ (k : Nat), (k ≤ 16) ∧ nn = 16 - k ∧ FF 0 = .func (.yield l) #[] #[] ∧ FF 1 = .pointer (some ⟨p, 0, none⟩) ∧ FF 7 = blkV (ordB) ∧ FF 25 = undef ∧ FF 3 = .int .i64 ((((goneTo b k).1 : Nat) : Int)) ∧ FF 8 = .int .i64 (((k : Nat) : Int)) ∧ Kept (T_j) w0 ww ∧ Jat ww (T_j) J ((goneTo b k).2) ∧ Blk ww p 25 (b)) (16 - (0)) ⟨0, by omega, rfl, s9, s10, s13, s11, s12, s14, K0, h_j, h_p⟩ ?_
 rintro n18 F15 w16 ⟨k, i19, hn18, s20, s21, s22, s23, s24, s25, K17, B26, B27⟩
 refine wq_seq ?_
 refine wq_region ?_
 refine wl_v (.bool (decide ((((k : Nat) : Int)) < (16)))) rfl rfl (y_lss rfl s25 rfl rfl ⟨rfl, rfl⟩) ?_
 refine wl_nil fun F28 hF29 => ?_
 have s30 := (hF29 0).trans s20
 have s31 := (hF29 1).trans s21
 have s32 := (hF29 7).trans s22
 have s33 := (hF29 25).trans s23
 have s34 := (hF29 3).trans s24
 have s35 := (hF29 8).trans s25
 have s36 : F28 9 = .bool (decide ((((k : Nat) : Int)) < (16))) := (hF29 9).trans rfl
 clear hF29
 refine then_normal ?_
 refine wq_seq ?_
 refine wq_cond s36 (fun c37 => ?_) (fun c37 => ?_)
 ·replace c37 := of_decide_eq_true c37
  refine wq_skip ?_
  refine then_normal ?_
  refine wq_seq ?_
  refine wq_block ?_
  refine wq_seq ?_
  refine wq_region ?_
  refine wl_v (.int .i64 (((ord k : Nat) : Int))) rfl rfl (y_look (k) blkT_arr rfl s32 s35 (by omega) (rfl) ⟨rfl, rfl⟩) ?_
  refine wl_v (.int .i64 (((ord k : Nat) : Int))) rfl rfl (y_asg rfl rfl ⟨rfl, rfl⟩) ?_
  refine wl_nil fun F38 hF39 => ?_
  have s40 := (hF39 0).trans s30
  have s41 := (hF39 1).trans s31
  have s42 := (hF39 7).trans s32
  have s43 := (hF39 25).trans s33
  have s44 := (hF39 3).trans s34
  have s45 := (hF39 8).trans s35
  have s46 : F38 5 = .int .i64 (((ord k : Nat) : Int)) := (hF39 5).trans rfl
  clear hF39
  refine then_normal ?_
  refine wq_seq ?_
  have ho := ord_lt k (by omega)
  have ht := gone_le b k
  refine wq_region ?_
  refine wl_v (.int .i64 (((ord k : Nat) : Int))) rfl rfl (y_mov rfl s46 ⟨rfl, rfl⟩) ?_
  refine wl_v (.pointer (some ⟨p, ord k, none⟩)) rfl rfl (y_atR (ord k) (s := 1) rfl s41 rfl (by omega) Tryd.underlying25 (by omega) (by kernel_rfl) (by omega) ⟨rfl, rfl⟩) ?_
  refine wl_v (.int .i64 ((b) (ord k))) rfl rfl (y_ldR rfl rfl Tryd.underlying3 ((B27).cell (by omega)) ⟨rfl, rfl⟩) ?_
  refine wl_call (R := fun v_ w_ => v_ = .int .i64 (lvl b k) ∧ Kept (fun _ => False) w16 w_) rfl rfl (y_cs rfl rfl rfl (fun _ _ => by kernel_rfl) (ev_func _) (vsC rfl vsN) (scan_clamped ((b) (ord k))  _   ) (fun e_ w_ h_ => ⟨_, h_.1, rfl, h_.2⟩)) ?_
  rintro _ w47 ⟨rfl, k48⟩
  have K49 := (Kept.refl (fun _ => False) w16).trans k48 (fun i hi x => x.elim)
  have B50 := B27.all k48 id
  have K51 := K17.trans k48 (fun _ _ x => x.elim)
  refine wl_v (.int .i64 (lvl b k)) rfl rfl (y_asg rfl rfl ⟨rfl, rfl⟩) ?_
  refine wl_nil fun F52 hF53 => ?_
  have s54 := (hF53 0).trans s40
  have s55 := (hF53 1).trans s41
  have s56 := (hF53 7).trans s42
  have s57 := (hF53 25).trans s43
  have s58 := (hF53 3).trans s44
  have s59 := (hF53 8).trans s45
  have s60 : F52 6 = .int .i64 (lvl b k) := (hF53 6).trans rfl
  clear hF53
  refine then_normal ?_
  refine wq_seq ?_
  refine wq_seq ?_
  refine wq_region ?_
  refine wl_v (.int .i64 (lvl b k)) rfl rfl (y_mov rfl s60 ⟨rfl, rfl⟩) ?_
  refine wl_v (.bool (decide ((lvl b k) = (0)))) rfl rfl (y_eqlI rfl rfl rfl rfl ⟨rfl, rfl⟩) ?_
  refine wl_nil fun F61 hF62 => ?_
  have s63 := (hF62 0).trans s54
  have s64 := (hF62 1).trans s55
  have s65 := (hF62 7).trans s56
  have s66 := (hF62 25).trans s57
  have s67 := (hF62 3).trans s58
  have s68 := (hF62 8).trans s59
  have s69 := (hF62 6).trans s60
  have s70 : F61 16 = .bool (decide ((lvl b k) = (0))) := (hF62 16).trans rfl
  clear hF62
  refine then_normal ?_
  refine wq_cond s70 (fun c71 => ?_) (fun c71 => ?_)
  ·replace c71 := of_decide_eq_true c71
   refine wq_seq ?_
   refine wq_region ?_
   refine wl_v (.int .i64 ((((goneTo b k).1 : Nat) : Int))) rfl rfl (y_mov rfl s67 ⟨rfl, rfl⟩) ?_
   refine wl_v (.int .i64 (((((goneTo b k).1) + 1 : Nat) : Int))) rfl rfl (y_add rfl rfl rfl (i64_n (by omega) (by omega)) ⟨rfl, rfl⟩) ?_
   refine wl_v (.int .i64 (((((goneTo b k).1) + 1 : Nat) : Int))) rfl rfl (y_asg rfl rfl ⟨rfl, rfl⟩) ?_
   refine wl_nil fun F72 hF73 => ?_
   have s74 := (hF73 0).trans s63
   have s75 := (hF73 1).trans s64
   have s76 := (hF73 7).trans s65
   have s77 := (hF73 25).trans s66
   have s78 := (hF73 8).trans s68
   have s79 : F72 3 = .int .i64 (((((goneTo b k).1) + 1 : Nat) : Int)) := (hF73 3).trans rfl
   clear hF73
   refine then_normal ?_
   refine wq_exit ?_
   refine then_exit ?_
   refine in_here ?_
   refine then_normal ?_
   refine wq_region ?_
   refine wl_v (.int .i64 (((k + 1 : Nat) : Int))) rfl rfl (y_add rfl s78 rfl (i64_n (by omega) (by omega)) ⟨rfl, rfl⟩) ?_
   refine wl_v (.int .i64 (((k + 1 : Nat) : Int))) rfl rfl (y_mov rfl rfl ⟨rfl, rfl⟩) ?_
   refine wl_nil fun F80 hF81 => ?_
   have s82 := (hF81 0).trans s74
   have s83 := (hF81 1).trans s75
   have s84 := (hF81 7).trans s76
   have s85 := (hF81 25).trans s77
   have s86 := (hF81 3).trans s79
   have s87 : F80 8 = .int .i64 (((k + 1 : Nat) : Int)) := (hF81 8).trans rfl
   clear hF81
   have B88 := B26.all K49 Apart.none
   exact then_normal ⟨(16 - (k + 1)), by omega, k + 1, by omega, rfl, s82, s83, s84, s85, (by first | (rw [gone_zero b k (by assumption)]; exact s86) | (rw [gone_some b k (by assumption)]; exact s86)), s87, K51, (by first | (rw [gone_zero b k (by assumption)]; exact B88) | (rw [gone_some b k (by assumption)]; exact B88)), B50⟩
  ·replace c71 := of_decide_eq_false c71
   refine wq_skip ?_
   refine then_normal ?_
   refine wq_seq ?_
   refine wq_seq ?_
   refine wq_region_y ?_
   refine wl_v (.func (.yield l) #[] #[]) rfl rfl (y_mov rfl s63 ⟨rfl, rfl⟩) ?_
   refine wl_v (.int .i64 ((((goneTo b k).1 : Nat) : Int))) rfl rfl (y_mov rfl s67 ⟨rfl, rfl⟩) ?_
   refine wl_v (.int .i64 (lvl b k)) rfl rfl (y_mov rfl s69 ⟨rfl, rfl⟩) ?_
   have B93 := B26.all K49 Apart.none
   refine wl_yield rfl rfl rfl rfl rfl rfl (vsC rfl (vsC rfl vsN)) (hY ((goneTo b k).2) (((goneTo b k).1, lvl b k)) _ B93.1 (by omega)) ?_
   rintro _ w89 (⟨rfl, j91, k90⟩ | ⟨rfl, x92⟩)
   ·refine ⟨_, rfl, ?_⟩
    have B94 := B93.next k90.size j91
    have B95 := B50.all k90 (fun x => (((ap_p).symm) p rfl x))
    have K96 := K51.trans k90 (fun _ _ x => x)
    refine wl_v (.bool false) rfl rfl (y_not rfl rfl rfl ⟨rfl, rfl⟩) ?_
    refine wl_nil fun F97 hF98 => ?_
    have s99 := (hF98 0).trans s63
    have s100 := (hF98 1).trans s64
    have s101 := (hF98 7).trans s65
    have s102 := (hF98 25).trans s66
    have s103 := (hF98 8).trans s68
    have s104 : F97 23 = .bool false := (hF98 23).trans rfl
    clear hF98
    refine then_normal ?_
    refine wq_cond (t := false) s104 (fun e => by cases e) (fun _ => ?_)
    refine wq_skip ?_
    refine then_normal ?_
    refine wq_region ?_
    refine wl_v (.int .i64 (0)) rfl rfl (y_asg rfl rfl ⟨rfl, rfl⟩) ?_
    refine wl_nil fun F105 hF106 => ?_
    have s107 := (hF106 0).trans s99
    have s108 := (hF106 1).trans s100
    have s109 := (hF106 7).trans s101
    have s110 := (hF106 25).trans s102
    have s111 := (hF106 8).trans s103
    have s112 : F105 3 = .int .i64 (0) := (hF106 3).trans rfl
    clear hF106
    refine in_normal ?_
    refine then_normal ?_
    refine wq_region ?_
    refine wl_v (.int .i64 (((k + 1 : Nat) : Int))) rfl rfl (y_add rfl s111 rfl (i64_n (by omega) (by omega)) ⟨rfl, rfl⟩) ?_
    refine wl_v (.int .i64 (((k + 1 : Nat) : Int))) rfl rfl (y_mov rfl rfl ⟨rfl, rfl⟩) ?_
    refine wl_nil fun F113 hF114 => ?_
    have s115 := (hF114 0).trans s107
    have s116 := (hF114 1).trans s108
    have s117 := (hF114 7).trans s109
    have s118 := (hF114 25).trans s110
    have s119 := (hF114 3).trans s112
    have s120 : F113 8 = .int .i64 (((k + 1 : Nat) : Int)) := (hF114 8).trans rfl
    clear hF114
    exact then_normal ⟨(16 - (k + 1)), by omega, k + 1, by omega, rfl, s115, s116, s117, s118, (by first | (rw [gone_zero b k (by assumption)]; exact s119) | (rw [gone_some b k (by assumption)]; exact s119)), s120, K96, (by first | (rw [gone_zero b k (by assumption)]; exact B94) | (rw [gone_some b k (by assumption)]; exact B94)), B95⟩
   ·refine ⟨_, rfl, ?_⟩
    refine wl_v (.bool true) rfl rfl (y_not rfl rfl rfl ⟨rfl, rfl⟩) ?_
    refine wl_nil fun F121 hF122 => ?_
    have s126 := (hF122 25).trans s66
    have s128 : F121 23 = .bool true := (hF122 23).trans rfl
    clear hF122
    refine then_normal ?_
    refine wq_cond (t := true) s128 (fun _ => ?_) (fun e => by cases e)
    refine wq_ret ?_
    refine then_ret ?_
    refine in_ret ?_
    refine then_ret ?_
    refine then_ret ?_
    refine in_ret ?_
    exact end_none_ret s126 rfl ⟨⟨_, rfl⟩, Or.inr ⟨_, x92⟩⟩
 ·replace c37 := of_decide_eq_false c37
  refine wq_exit ?_
  refine then_exit ?_
  refine then_exit ?_
  have l129 : 16 = k := by omega
  subst l129
  refine in_here ?_
  exact end_none s33 rfl ⟨⟨_, rfl⟩, Or.inl ((by rw [← gone_all]; exact B26.1))⟩
theorem kept_of_below {w w' : World} (h : Below w.heap.size w w') : Kept (fun _ => False) w w' := ⟨h.os, h.tape, h.output, h.size, fun k hk _ => h.block k hk⟩
theorem levels_seq (b : Nat → Int) (p : Nat) (w : World) (hO : ScanIn w) (hp : Blk w p 25 b) :
    SeqStopsK Fence.wide 1 Tryd.prog 107 #[.pointer (some ⟨p, 0, none⟩)] (fun x : Nat × Int => [.int .i64 ((x.1 : Nat) : Int), .int .i64 x.2].toArray) (Kept (fun i => 1 < i ∧ i ≠ p)) (fun xs => xs = runs 0 (lvls b)) (fun _ => True) 16 w := by
  intro l J Jx W hB hJ hJx hY h0
  have k := kept_of_below hB
  refine callsIn_wide.2 ((levels_go b p l J Jx (fun i => 1 < i ∧ i ≠ p) W (hO.all k) (fun i h => h.1) (hp.all k id) (fun i h e => h.2 e) hY ⟨h0, hJ⟩).mono ?_)
  rintro e w' ⟨hv, h⟩
  exact ⟨hv, h.elim (fun h => .inl ⟨_, rfl, h⟩) (fun ⟨pre, h⟩ => .inr ⟨pre, trivial, h⟩)⟩
theorem beyond {w : World} {p : Nat} {T : Nat → Prop} {b : Nat → Int} (hO : ScanIn w) (h : Lvs w T p b) : ∀ i, w.heap.size ≤ i → 1 < i ∧ i ≠ p := fun i hi => by
  have h1 := hO.pos
  have h2 := h.2.lt
  exact ⟨by omega, by omega⟩

set_option maxHeartbeats 4000000 in
set_option maxRecDepth 100000 in
theorem scan_many (b : Nat → Int) (w0 : World) (hO : ScanIn w0) :
  Calls Tryd.prog 76 #[blkV (b)] w0 fun e w' => e = .returned (.int .i64 ((((runs 0 (lvls b)).length : Nat) : Int))) ∧ Kept (fun _ => False) w0 w' := by
 refine calls_wm (args := [blkV (b)]) 11 Tryd.func76 rfl rfl (Nat.le_of_ble_eq_true rfl) ?_
 have K0 := Kept.refl (fun _ => False) w0
 refine wq_seq ?_
 refine wq_region ?_
 refine wl_box_blk rfl rfl rfl rfl fun p1 w2 e5 B3 k4 => ?_
 have g6 := onB_new (Nat.le_of_eq e5.symm)
 clear e5 g6
 have K8 := K0.trans k4 (fun _ _ x => x.elim)
 refine wl_v (.int .i64 (0)) rfl rfl (y_asg rfl rfl ⟨rfl, rfl⟩) ?_
 refine wl_nil fun F9 hF10 => ?_
 have s11 : F9 0 = blkV (b) := (hF10 0).trans rfl
 have s12 : F9 11 = undef := (hF10 11).trans rfl
 have s13 : F9 1 = .pointer (some ⟨p1, 0, none⟩) := (hF10 1).trans rfl
 have s14 : F9 2 = .int .i64 (0) := (hF10 2).trans rfl
 clear hF10
 refine then_normal ?_
 refine wq_seq ?_
 refine wq_region ?_
 refine wl_alloc_cel (v := .int .i64 (0)) rfl rfl rfl (by kernel_rfl) rfl fun p15 w16 B19 g21 k17 => ?_
 have gr22 : Grew w0 noB (onB p15) := Grew.new K8 g21
 have ap23 : Apart (onB p15) (onB p1) := Apart.new g21 (onB_live (B3).lt)
 have B24 := B3.all k17 id
 have K25 := K8.trans k17 (fun _ _ x => x.elim)
 refine wl_store_cel rfl rfl rfl rfl rfl B19 (by rfl) (by kernel_rfl) fun w26 B27 k28 => ?_
 have B29 := B24.all k28 (fun x => (((ap23).symm) p1 rfl x))
 have K30 := K25.trans k28 (Grew.ok (S := fun _ => False) gr22 noB_le)
 refine wl_nil fun F31 hF32 => ?_
 have s33 := (hF32 0).trans s11
 have s34 := (hF32 11).trans s12
 have s35 := (hF32 1).trans s13
 have s36 := (hF32 2).trans s14
 have s37 : F31 3 = .pointer (some ⟨p15, 0, none⟩) := (hF32 3).trans rfl
 clear hF32
 refine then_normal ?_
 refine wq_seq ?_
 refine wq_seq ?_
 refine wq_region ?_
 refine wl_v (blkV (b)) rfl rfl (y_load_blk blkT_block rfl s35 B29 ⟨rfl, rfl⟩) ?_
 refine wl_call (R := fun v_ w_ => ∃ (v38 : Nat) (T41 : Nat → Prop), .func (.func 107) #[] #[.pointer (some ⟨v38, 0, none⟩)] = v_ ∧ Kept (fun _ => False) w26 w_ ∧ (Lvs w_ T41 v38 ((b)) ∧ Grew w26 noB T41)) rfl rfl (y_cs rfl rfl rfl (fun _ _ => by kernel_rfl) (ev_func _) (vsC rfl vsN) (scan_levels (b)  _   ) (fun e_ w_ h_ => by obtain ⟨v38_, T41_, he_, hr_⟩ := h_; exact ⟨_, he_, v38_, T41_, rfl, hr_⟩)) ?_
 rintro _ w39 ⟨v38, T41, rfl, k40, ⟨B42, g43⟩⟩
 have B44 := B29.all k40 id
 have B45 := B27.all k40 id
 have K46 := K30.trans k40 (fun _ _ x => x.elim)
 have ap49 : Apart (T41) (onB p15) := Apart.new g43 (onB_live (B27).lt)
 refine wl_nil fun F50 hF51 => ?_
 have s52 := (hF51 0).trans s33
 have s53 := (hF51 11).trans s34
 have s54 := (hF51 1).trans s35
 have s55 := (hF51 2).trans s36
 have s56 := (hF51 3).trans s37
 have s57 : F50 5 = .func (.func 107) #[] #[.pointer (some ⟨v38, 0, none⟩)] := (hF51 5).trans rfl
 clear hF51
 refine then_normal ?_
 refine wq_block ?_
 refine wq_range (α := Nat × Int) (encs := fun x => [.int .i64 (((x.1 : Nat) : Int)), .int .i64 (x.2)]) (U := fun i => 1 < i ∧ i ≠ v38) (S := fun xs => xs = runs 0 (lvls b)) (Sp := fun _ => True) (M := 16) s57 (fun _ _ => by kernel_rfl) (levels_seq b v38 _ (hO.all K46) (B42).2) (beyond (hO.all K46) B42) [6, 7] rfl (fun _ => rfl) rfl (fun pre ww => Kept (fun _ => False) w0 ww ∧ Blk ww p1 25 (b) ∧ Cel ww p15 3 (.int .i64 (((pre.length : Nat) : Int))) ∧ Lvs ww (T41) v38 ((b))) ?_ ⟨K46, B44, B45, B42⟩ (fun x FF => FF 0 = blkV (b) ∧ FF 1 = .pointer (some ⟨p1, 0, none⟩) ∧ FF 2 = .int .i64 (0) ∧ FF 3 = .pointer (some ⟨p15, 0, none⟩) ∧ FF 5 = .func (.func 107) #[] #[.pointer (some ⟨v38, 0, none⟩)] ∧ FF 11 = undef) ?_ ?_ ?_
 ·rintro pre A_ B_ row_ ⟨K_, B0_, B1_, B2_⟩ hg_ hr_
  exact ⟨K_.row hg_ hr_ K46.size, B0_.row hg_ hr_, B1_.row hg_ hr_, B2_.row hg_ hr_⟩
 ·intro l_ x W_
  refine wq_skip ?_
  exact held_normal ⟨s52, s54, s55, s56, s57, rfl⟩
 ·rintro l_ pre x F63 w62 ⟨K58, B59, B60, B61⟩ ⟨s64, s65, s66, s67, s68, s69⟩ hlen_
  have K70 := Kept.refl (onB p15) w62
  refine wq_block ?_
  refine wq_region ?_
  refine wl_v (.int .i64 (((pre.length : Nat) : Int))) rfl rfl (y_load_cel rfl s67 Tryd.underlying3 B60 rfl ⟨rfl, rfl⟩) ?_
  refine wl_v (.int .i64 ((((pre.length) + 1 : Nat) : Int))) rfl rfl (y_add rfl rfl rfl (i64_n (by omega) (by omega)) ⟨rfl, rfl⟩) ?_
  refine wl_store_cel rfl rfl rfl s67 rfl B60 (by rfl) (by kernel_rfl) fun w71 B72 k73 => ?_
  have B74 := B59.all k73 (fun x => (((ap23).symm) p1 rfl x))
  have B75 := B61.all k73 (fun i h x => ((ap49) i h x))
  have K76 := K70.trans k73 (Grew.ok (S := onB p15) (Grew.refl w62 (onB p15)) (fun _ x => x))
  refine wl_nil fun F77 hF78 => ?_
  clear hF78
  refine in_normal ?_
  exact ⟨Cells.keeps (B60).cells K76 _, K76.mono (fun i hi h => ⟨above gr22 hO i h, fun e => (ap49).symm i h (by rw [(B42).1]; exact e)⟩), ⟨K58.trans K76 (fun i hi x => ((Grew.ok (S := fun _ => False) gr22 noB_le) i hi x)), B74, (by rw [List.length_append]; exact B72), B75⟩⟩
 ·rintro D89 xs_ w90 d91 hS_ ⟨K85, B86, B87, B88⟩ B92
  subst hS_
  have B92 : Mrk w90 D89 := B92
  have gr93 : Grew w0 noB (onB D89) := onB_new (Nat.le_trans K46.size d91)
  have s97 : markV (D89 :: marksOf (F50 11)) = markV [D89] := congrArg (fun z => markV (D89 :: marksOf z)) s53
  refine in_normal ?_
  refine then_normal ?_
  refine wq_seq ?_
  refine wq_region ?_
  refine wl_v (.int .i64 ((((runs 0 (lvls b)).length : Nat) : Int))) rfl rfl (y_load_cel rfl s56 Tryd.underlying3 B87 rfl ⟨rfl, rfl⟩) ?_
  refine wl_v (.int .i64 ((((runs 0 (lvls b)).length : Nat) : Int))) rfl rfl (y_asg rfl rfl ⟨rfl, rfl⟩) ?_
  refine wl_nil fun F98 hF99 => ?_
  have s100 := (hF99 11).trans s97
  have s101 : F98 2 = .int .i64 ((((runs 0 (lvls b)).length : Nat) : Int)) := (hF99 2).trans rfl
  clear hF99
  refine then_normal ?_
  refine wq_ret ?_
  have k102 := kept_shut w90 D89
  have K103 := K85.trans k102 (Grew.ok (S := fun _ => False) gr93 noB_le)
  exact endm_tmp (ms := [D89]) (v := .int .i64 ((((runs 0 (lvls b)).length : Nat) : Int))) s100 (B92).opens rfl rfl s101 ⟨rfl, K103⟩

set_option maxHeartbeats 4000000 in
set_option maxRecDepth 100000 in
theorem scan_write (p : Nat) (bs : List Bool) (b : Nat → Int) (T_w : Nat → Prop) (w0 : World) (hO : ScanIn w0) (hG : ∀ i, T_w i → 1 < i) (hm : bs.length + 4096 < 1099511627776) (h_w : Wri w0 T_w p (bs)) :
  Calls Tryd.prog 36 #[.pointer (some ⟨p, 0, none⟩), blkV (b)] w0 fun e w' => ∃ (T_w' : Nat → Prop), e = .returned (.tuple #[]) ∧ Kept (T_w) w0 w' ∧ (Wri w' T_w' p (bs ++ scanBits b) ∧ Grew w0 T_w T_w') := by
 refine calls_wm (args := [.pointer (some ⟨p, 0, none⟩), blkV (b)]) 20 Tryd.func36 rfl rfl (Nat.le_of_ble_eq_true rfl) ?_
 have K0 := Kept.refl (T_w) w0
 have g_w := Grew.refl w0 T_w
 refine wq_seq ?_
 refine wq_region ?_
 refine wl_box_cel rfl rfl rfl rfl (by rfl) fun p1 w2 B5 g7 k3 => ?_
 have ap9 : Apart (onB p1) (T_w) := Apart.new g7 (h_w).live
 have B10 := h_w.all k3 Apart.none
 have K11 := K0.trans k3 (fun _ _ x => x.elim)
 refine wl_box_blk rfl rfl rfl rfl fun p12 w13 e16 B14 k15 => ?_
 have g17 := onB_new (Nat.le_of_eq e16.symm)
 have ap19 : Apart (onB p12) (T_w) := Apart.new g17 (B10).live
 clear e16 g17
 have B21 := B10.all k15 Apart.none
 have B22 := B5.all k15 id
 have K23 := K11.trans k15 (fun _ _ x => x.elim)
 refine wl_nil fun F24 hF25 => ?_
 have s26 : F24 0 = .pointer (some ⟨p, 0, none⟩) := (hF25 0).trans rfl
 have s27 : F24 1 = blkV (b) := (hF25 1).trans rfl
 have s28 : F24 20 = undef := (hF25 20).trans rfl
 have s29 : F24 2 = .pointer (some ⟨p1, 0, none⟩) := (hF25 2).trans rfl
 have s30 : F24 3 = .pointer (some ⟨p12, 0, none⟩) := (hF25 3).trans rfl
 clear hF25
 refine then_normal ?_
 refine wq_seq ?_
 refine wq_tail 3 [some 6, some 7, some 8] [Pd.eq (.pointer (some ⟨p, 0, none⟩)), Pd.eq (blkV (b)), Pd.eq (.int .i64 ((((runs 0 (lvls (b))).length : Nat) : Int)))] (by kernel_rfl) (by kernel_rfl) (by kernel_rfl) ?_ ?_
 ·refine stepsF_cons ?_ ?_
  ·refine StepF.one rfl fun F_ w_ hR hout hD => ?_
   exact (y_load_cel rfl ((hout 2 rfl (by decide)).trans s29) Tryd.underlying30 (B22.all hR id) rfl ⟨rfl, Kept.refl _ _⟩)
  refine stepsF_cons ?_ ?_
  ·refine StepF.one rfl fun F_ w_ hR hout hD => ?_
   exact (y_load_blk blkT_block rfl ((hout 3 rfl (by decide)).trans s30) (B14.all hR id) ⟨rfl, Kept.refl _ _⟩)
  refine stepsF_cons ?_ ?_
  ·refine StepF.one rfl fun F_ w_ hR hout hD => ?_
   have g7 : F_ 7 = blkV (b) := (hD.get 0 rfl rfl rfl)
   exact (y_cs rfl rfl rfl (fun _ _ => by kernel_rfl) (ev_func _) (vsC g7 vsN) (scan_many (b)  _ (hO.but (K23.trans hR (fun _ _ x => x.elim)) hG)  ) (fun e_ w_ h_ => ⟨_, h_.1, rfl, h_.2⟩))
  exact stepsF_nil
 intro v31 F32 w33 k34 G35 hF36
 have B38 := B21.all k34 Apart.none
 have B39 := B22.all k34 id
 have B40 := B14.all k34 id
 have K41 := K23.trans k34 (fun _ _ x => x.elim)
 have s42 := (hF36 0).trans s26
 have s43 := (hF36 1).trans s27
 have s44 := (hF36 20).trans s28
 have s45 := (hF36 2).trans s29
 have s46 := (hF36 3).trans s30
 have s47 : F32 6 = .pointer (some ⟨p, 0, none⟩) := (hF36 6).trans (G35 0 (by decide))
 have s48 : F32 8 = .int .i64 ((((runs 0 (lvls (b))).length : Nat) : Int)) := (hF36 8).trans (G35 2 (by decide))
 clear G35 hF36
 refine wl_call (R := fun v_ w_ => ∃ (T51 : Nat → Prop), .tuple #[] = v_ ∧ Kept (T_w) w33 w_ ∧ (Wri w_ T51 p ((bs) ++ wholeBits ((((runs 0 (lvls (b))).length : Nat) : Int))) ∧ Grew w33 (T_w) T51)) rfl rfl (y_cs rfl rfl rfl (fun _ _ => by kernel_rfl) (ev_func _) (vsC s47 (vsC s48 vsN)) (t_whole (p) (bs) ((((runs 0 (lvls (b))).length : Nat) : Int)) (T_w) _ (by omega) B38 ) (fun e_ w_ h_ => by obtain ⟨T51_, he_, hr_⟩ := h_; exact ⟨_, he_, T51_, rfl, hr_⟩)) ?_
 rintro _ w49 ⟨T51, rfl, k50, ⟨B52, g53⟩⟩
 have B54 := B39.all k50 (fun x => ((ap9) p1 rfl x))
 have B55 := B40.all k50 (fun x => ((ap19) p12 rfl x))
 have K56 := K41.trans k50 (fun i hi x => ((Grew.ok (S := T_w) g_w (fun _ x => x)) i hi x))
 have gr57 := g_w.trans K41 g53
 have ap58 : Apart T51 (onB p1) := ((ap9).symm).grew g53 (onB_live (B39).lt)
 have ap59 : Apart T51 (onB p12) := ((ap19).symm).grew g53 (onB_live (B40).lt)
 refine wl_nil fun F60 hF61 => ?_
 have s62 := (hF61 0).trans s42
 have s63 := (hF61 1).trans s43
 have s64 := (hF61 20).trans s44
 have s65 := (hF61 2).trans s45
 have s66 := (hF61 3).trans s46
 clear hF61
 refine then_normal ?_
 refine wq_seq ?_
 refine wq_region ?_
 refine wl_v (blkV (b)) rfl rfl (y_load_blk blkT_block rfl s66 B55 ⟨rfl, rfl⟩) ?_
 refine wl_call (R := fun v_ w_ => ∃ (v67 : Nat) (T70 : Nat → Prop), .func (.func 107) #[] #[.pointer (some ⟨v67, 0, none⟩)] = v_ ∧ Kept (fun _ => False) w49 w_ ∧ (Lvs w_ T70 v67 ((b)) ∧ Grew w49 noB T70)) rfl rfl (y_cs rfl rfl rfl (fun _ _ => by kernel_rfl) (ev_func _) (vsC rfl vsN) (scan_levels (b)  _   ) (fun e_ w_ h_ => by obtain ⟨v67_, T70_, he_, hr_⟩ := h_; exact ⟨_, he_, v67_, T70_, rfl, hr_⟩)) ?_
 rintro _ w68 ⟨v67, T70, rfl, k69, ⟨B71, g72⟩⟩
 have B73 := B52.all k69 Apart.none
 have B74 := B54.all k69 id
 have B75 := B55.all k69 id
 have K76 := K56.trans k69 (fun _ _ x => x.elim)
 have ap78 : Apart (T70) (T51) := Apart.new g72 (B52).live
 refine wl_nil fun F81 hF82 => ?_
 have s83 := (hF82 0).trans s62
 have s84 := (hF82 1).trans s63
 have s85 := (hF82 20).trans s64
 have s86 := (hF82 2).trans s65
 have s87 := (hF82 3).trans s66
 have s88 : F81 11 = .func (.func 107) #[] #[.pointer (some ⟨v67, 0, none⟩)] := (hF82 11).trans rfl
 clear hF82
 refine then_normal ?_
 refine wq_block ?_
 refine wq_range (α := Nat × Int) (encs := fun x => [.int .i64 (((x.1 : Nat) : Int)), .int .i64 (x.2)]) (U := fun i => 1 < i ∧ i ≠ v67) (S := fun xs => xs = runs 0 (lvls b)) (Sp := fun _ => True) (M := 16) s88 (fun _ _ => by kernel_rfl) (levels_seq b v67 _ (hO.but K76 hG) (B71).2) (beyond (hO.but K76 hG) B71) [12, 13] rfl (fun _ => rfl) rfl (fun pre ww => ∃ (T89 : Nat → Prop), Kept (T_w) w0 ww ∧ Wri ww (T89) p ((bs ++ wholeBits ((runs 0 (lvls b)).length : Nat)) ++ runBits pre) ∧ Cel ww p1 30 (.pointer (some ⟨p, 0, none⟩)) ∧ Blk ww p12 25 (b) ∧ Lvs ww (T70) v67 ((b)) ∧ Grew w0 (T_w) T89 ∧ Apart (T89) (onB p1) ∧ Apart (T89) (onB p12) ∧ Apart (T89) (T70)) ?_ ⟨T51, K76, (by rw [runBits, List.append_nil]; exact B73), B74, B75, B71, gr57, ap58, ap59, (ap78).symm⟩ (fun x FF => FF 0 = .pointer (some ⟨p, 0, none⟩) ∧ FF 1 = blkV (b) ∧ FF 2 = .pointer (some ⟨p1, 0, none⟩) ∧ FF 3 = .pointer (some ⟨p12, 0, none⟩) ∧ FF 4 = .int .i64 (((x.1 : Nat) : Int)) ∧ FF 5 = .int .i64 (x.2) ∧ FF 11 = .func (.func 107) #[] #[.pointer (some ⟨v67, 0, none⟩)] ∧ FF 12 = .int .i64 (((x.1 : Nat) : Int)) ∧ FF 13 = .int .i64 (x.2) ∧ FF 20 = undef) ?_ ?_ ?_
 ·rintro pre A_ B_ row_ ⟨T89, K_, B0_, B1_, B2_, B3_, g0_, a0_, a1_, a2_⟩ hg_ hr_
  exact ⟨T89, K_.row hg_ hr_ K76.size, B0_.row hg_ hr_, B1_.row hg_ hr_, B2_.row hg_ hr_, B3_.row hg_ hr_, g0_, a0_, a1_, a2_⟩
 ·intro l_ x W_
  refine wq_seq ?_
  refine wq_region ?_
  refine wl_v (.int .i64 (((x.1 : Nat) : Int))) rfl rfl (y_asg rfl rfl ⟨rfl, rfl⟩) ?_
  refine wl_nil fun F90 hF91 => ?_
  have s92 := (hF91 0).trans s83
  have s93 := (hF91 1).trans s84
  have s94 : F90 20 = undef := (hF91 20).trans rfl
  have s95 := (hF91 2).trans s86
  have s96 := (hF91 3).trans s87
  have s97 := (hF91 11).trans s88
  have s98 : F90 12 = .int .i64 (((x.1 : Nat) : Int)) := (hF91 12).trans rfl
  have s99 : F90 13 = .int .i64 (x.2) := (hF91 13).trans rfl
  have s100 : F90 4 = .int .i64 (((x.1 : Nat) : Int)) := (hF91 4).trans rfl
  clear hF91
  refine then_normal ?_
  refine wq_region ?_
  refine wl_v (.int .i64 (x.2)) rfl rfl (y_asg rfl s99 ⟨rfl, rfl⟩) ?_
  refine wl_nil fun F101 hF102 => ?_
  have s103 := (hF102 0).trans s92
  have s104 := (hF102 1).trans s93
  have s105 := (hF102 20).trans s94
  have s106 := (hF102 2).trans s95
  have s107 := (hF102 3).trans s96
  have s108 := (hF102 11).trans s97
  have s109 := (hF102 12).trans s98
  have s110 := (hF102 13).trans s99
  have s111 := (hF102 4).trans s100
  have s112 : F101 5 = .int .i64 (x.2) := (hF102 5).trans rfl
  clear hF102
  exact held_normal ⟨s103, s104, s106, s107, s111, s112, s108, s109, s110, s105⟩
 ·rintro l_ pre x F123 w122 ⟨T89, K113, B114, B115, B116, B117, gr118, ap119, ap120, ap121⟩ ⟨s124, s125, s126, s127, s128, s129, s130, s131, s132, s133⟩ hlen_
  have K134 := Kept.refl (T89) w122
  have hro := room16 ((runs 0 (lvls b)).length : Nat) hm hlen_
  refine wq_block ?_
  refine wq_seq ?_
  refine wq_region ?_
  refine wl_v (.pointer (some ⟨p, 0, none⟩)) rfl rfl (y_load_cel rfl s126 Tryd.underlying30 B115 rfl ⟨rfl, rfl⟩) ?_
  refine wl_v (.int .i64 (((x.1 : Nat) : Int))) rfl rfl (y_mov rfl s128 ⟨rfl, rfl⟩) ?_
  refine wl_call (R := fun v_ w_ => ∃ (T137 : Nat → Prop), .tuple #[] = v_ ∧ Kept (T89) w122 w_ ∧ (Wri w_ T137 p (((bs ++ wholeBits ((runs 0 (lvls b)).length : Nat)) ++ runBits pre) ++ wholeBits (((x.1 : Nat) : Int))) ∧ Grew w122 (T89) T137)) rfl rfl (y_cs rfl rfl rfl (fun _ _ => by kernel_rfl) (ev_func _) (vsC rfl (vsC rfl vsN)) (t_whole (p) ((bs ++ wholeBits ((runs 0 (lvls b)).length : Nat)) ++ runBits pre) (((x.1 : Nat) : Int)) (T89) _ (by omega) B114 ) (fun e_ w_ h_ => by obtain ⟨T137_, he_, hr_⟩ := h_; exact ⟨_, he_, T137_, rfl, hr_⟩)) ?_
  rintro _ w135 ⟨T137, rfl, k136, ⟨B138, g139⟩⟩
  have B140 := B115.all k136 (fun x => (((ap119).symm) p1 rfl x))
  have B141 := B116.all k136 (fun x => (((ap120).symm) p12 rfl x))
  have B142 := B117.all k136 (fun i h x => (((ap121).symm) i h x))
  have K143 := K134.trans k136 (fun i hi x => ((Grew.ok (S := T89) (Grew.refl w122 (T89)) (fun _ x => x)) i hi x))
  have gr144 := (Grew.refl w122 (T89)).trans K134 g139
  have ap145 : Apart T137 (onB p1) := (ap119).grew g139 (onB_live (B115).lt)
  have ap146 : Apart T137 (onB p12) := (ap120).grew g139 (onB_live (B116).lt)
  have ap147 : Apart T137 (T70) := (ap121).grew g139 (B117).live
  refine wl_nil fun F148 hF149 => ?_
  have s152 := (hF149 2).trans s126
  have s155 := (hF149 5).trans s129
  clear hF149
  refine then_normal ?_
  refine wq_region ?_
  refine wl_v (.pointer (some ⟨p, 0, none⟩)) rfl rfl (y_load_cel rfl s152 Tryd.underlying30 B140 rfl ⟨rfl, rfl⟩) ?_
  refine wl_v (.int .i64 (x.2)) rfl rfl (y_mov rfl s155 ⟨rfl, rfl⟩) ?_
  refine wl_call (R := fun v_ w_ => ∃ (T162 : Nat → Prop), .tuple #[] = v_ ∧ Kept (T137) w135 w_ ∧ (Wri w_ T162 p ((((bs ++ wholeBits ((runs 0 (lvls b)).length : Nat)) ++ runBits pre) ++ wholeBits (((x.1 : Nat) : Int))) ++ signedBits (x.2)) ∧ Grew w135 (T137) T162)) rfl rfl (y_cs rfl rfl rfl (fun _ _ => by kernel_rfl) (ev_func _) (vsC rfl (vsC rfl vsN)) (t_signed (p) (((bs ++ wholeBits ((runs 0 (lvls b)).length : Nat)) ++ runBits pre) ++ wholeBits (((x.1 : Nat) : Int))) (x.2) (T137) _ (by rw [List.length_append]; have h1 := wholeBits_short ((x.1 : Nat) : Int); omega) B138 ) (fun e_ w_ h_ => by obtain ⟨T162_, he_, hr_⟩ := h_; exact ⟨_, he_, T162_, rfl, hr_⟩)) ?_
  rintro _ w160 ⟨T162, rfl, k161, ⟨B163, g164⟩⟩
  have B165 := B140.all k161 (fun x => (((ap145).symm) p1 rfl x))
  have B166 := B141.all k161 (fun x => (((ap146).symm) p12 rfl x))
  have B167 := B142.all k161 (fun i h x => (((ap147).symm) i h x))
  have K168 := K143.trans k161 (fun i hi x => ((Grew.ok (S := T89) gr144 (fun _ x => x)) i hi x))
  have gr169 := gr144.trans K143 g164
  have ap170 : Apart T162 (onB p1) := (ap145).grew g164 (onB_live (B140).lt)
  have ap171 : Apart T162 (onB p12) := (ap146).grew g164 (onB_live (B141).lt)
  have ap172 : Apart T162 (T70) := (ap147).grew g164 (B142).live
  refine wl_nil fun F173 hF174 => ?_
  clear hF174
  refine in_normal ?_
  exact ⟨Cells.keeps (B114).cells K168 _, K168.mono (fun i hi h => ⟨above2 gr118 hG hO i h, fun e => ap121 i h (by rw [(B71).1]; exact e)⟩), ⟨T162, K113.trans K168 (fun i hi x => ((Grew.ok (S := T_w) gr118 (fun _ x => x)) i hi x)), (by rw [← runBits_one]; exact B163), B165, B166, B167, gr118.trans K113 gr169, ap170, ap171, ap172⟩⟩
 ·rintro D194 xs_ w195 d196 hS_ ⟨T89, K185, B186, B187, B188, B189, gr190, ap191, ap192, ap193⟩ B197
  subst hS_
  have B197 : Mrk w195 D194 := B197
  have gr198 : Grew w0 noB (onB D194) := onB_new (Nat.le_trans K76.size d196)
  have ap199 : Apart (onB D194) (T89) := Mrk.apart B197 (B186).cells
  have s203 : markV (D194 :: marksOf (F81 20)) = markV [D194] := congrArg (fun z => markV (D194 :: marksOf z)) s85
  refine in_normal ?_
  have k204 := kept_shut w195 D194
  have B206 := B186.all k204 (fun i h x => (((ap199).symm) i h x))
  have K205 := K185.trans k204 (Grew.ok (S := T_w) gr198 noB_le)
  exact endm_none (ms := [D194]) s203 (B197).opens rfl ⟨T89, rfl, K205, ⟨(by rw [scanBits, ← List.append_assoc]; exact B206), gr190⟩⟩

end Go.Proofs.YtdcbabgcbkdlhaaDoor
set_option maxRecDepth 100000
namespace Go.Proofs.YtdcbabgcbkdlhaaDoor
open Go.ChangeShapes Go.WideShapes Go.ChangeAt Go.RowKit

theorem Tryd.gOrder : Tryd.prog.globalNamed "clapboard/scan.order" = some 1 := by kernel_rfl
theorem Tryd.tOrder : (Tryd.prog.globals[1]?).map (·.type) = some 24 := by kernel_rfl
theorem Tryd.c16o : Tryd.prog.cellsOf 24 = 16 := by kernel_rfl
theorem ints_many {W : World} {f : Nat} {t : TypeId} {n : Nat} {l : List Int} {cs : List Value} {p : List MemPlace} (hu : Tryd.prog.underlying t = some (.array n 3)) (hc : Tryd.prog.cellsOf t = n)
    (hd : DataW.trod (fun _ => ()) Tryd.prog W 0 (fun _ => true) false f t cs = some (.agg (l.map litI), p)) : cs.length = n := by
  obtain ⟨xs, m, rfl, hx, hl, hn, hel⟩ := DataW.trod_array hu hd
  rw [hc] at hl
  exact hl
theorem var_block {W : World} {n : String} {g : Nat} {cs : Array Value} (hg : Tryd.prog.globalNamed n = some g) (h : W.var? Tryd.prog n = some cs) : ∃ t f, W.heap[g]? = some (.cells cs t f) := by
  simp only [World.var?, hg, Option.bind_some] at h
  cases ho : W.heap[g]? with
  | none => simp [ho] at h
  | some o =>
    cases o <;> simp [ho] at h
    subst h; exact ⟨_, _, rfl⟩
theorem order_at {W : World} {f : Nat} {cs : Array Value} {p : List MemPlace} (hv : World.var? Tryd.prog W "clapboard/scan.order" = some cs)
    (hd : DataW.trod (fun _ => ()) Tryd.prog W 0 (fun _ => true) false f 24 cs.toList = some (Rows.laid_clapboard_scan_order, p)) : ScanIn W := by
  have key := ints_of (l := [0, 1, 4, 8, 5, 2, 3, 6, 9, 12, 13, 10, 7, 11, 14, 15]) Tryd.underlying24 Tryd.c16o hd
  have hlen := ints_many (l := [0, 1, 4, 8, 5, 2, 3, 6, 9, 12, 13, 10, 7, 11, 14, 15]) Tryd.underlying24 Tryd.c16o hd
  obtain ⟨t, fz, hb⟩ := var_block Tryd.gOrder hv
  have e : cs = (arrL 16 ordB).toArray := by
    apply Array.ext'
    apply List.ext_getElem?
    intro i
    by_cases hi : i < 16
    · rw [key i hi]
      show _ = (arrL 16 ordB)[i]?
      rw [arrL_at hi]
      have e2 : ∀ i, i < 16 → ([0, 1, 4, 8, 5, 2, 3, 6, 9, 12, 13, 10, 7, 11, 14, 15] : List Int).getD i 0 = ordB i := by decide
      rw [e2 i hi]
    · rw [List.getElem?_eq_none (by omega)]
      show _ = (arrL 16 ordB)[i]?
      rw [List.getElem?_eq_none (by rw [arrL_length]; omega)]
  rw [e] at hb
  exact ⟨t, fz, hb⟩
end Go.Proofs.YtdcbabgcbkdlhaaDoor
set_option maxRecDepth 100000
namespace Go.Proofs.YtdcbabgcbkdlhaaDoor

def Short (c : Nat) (bs : List Bool) : Prop := bs.length ≤ c
theorem Short.nil : Short 0 [] := Nat.le_refl _
theorem Short.scan {c : Nat} {bs : List Bool} (h : Short c bs) (b : Nat → Int) : Short (c + 2079) (bs ++ scanBits b) := by
  have h1 := scanBits_length b
  unfold Short at *; rw [List.length_append]; omega
theorem Short.fits {c : Nat} {bs : List Bool} (h : Short c bs) (hc : c < 1099511627776) : bs.length < 1099511627776 := by
  unfold Short at h; omega
theorem Short.bytes {c : Nat} {bs : List Bool} (h : Short c bs) (hc : c + 8 < 1099511627776) : (pack bs).length < 1099511627776 := by
  unfold Short at h; rw [pack_length]; unfold nbytes; omega
end Go.Proofs.YtdcbabgcbkdlhaaDoor
set_option maxRecDepth 100000
namespace Go.Proofs.YtdcbabgcbkdlhaaDoor

structure FD where
  W : Int
  H : Int
  p0 : List Nat
  p1 : List Nat
  p2 : List Nat
def FD.none : FD := ⟨0, 0, [], [], []⟩
def FD.pl (f : FD) (p : Int) : List Nat := if p = 0 then f.p0 else if p = 1 then f.p1 else f.p2

def sideB (n : Int) : Bool := decide (8 ≤ n) && decide (n ≤ 64) && decide (Int.tmod n 8 = 0)
theorem sideB_iff (n : Int) : sideB n = true ↔ 8 ≤ n ∧ n ≤ 64 ∧ n % 8 = 0 := by
  unfold sideB
  simp only [Bool.and_eq_true, decide_eq_true_eq]
  constructor
  · rintro ⟨⟨h1, h2⟩, h3⟩; rw [Int.tmod_eq_emod_of_nonneg (by omega)] at h3; exact ⟨h1, h2, h3⟩
  · rintro ⟨h1, h2, h3⟩; refine ⟨⟨h1, h2⟩, ?_⟩; rw [Int.tmod_eq_emod_of_nonneg (by omega)]; exact h3
theorem area_bounds {w h : Int} (hw : sideB w = true) (hh : sideB h = true) : 64 ≤ w * h ∧ w * h ≤ 4096 := by
  rw [sideB_iff] at hw hh
  have h1 : 8 * 8 ≤ w * h := Int.mul_le_mul hw.1 hh.1 (by omega) (by omega)
  have h2 : w * h ≤ 64 * 64 := Int.mul_le_mul hw.2.1 hh.2.1 (by omega) (by omega)
  omega
theorem tdiv2 {n : Int} (h : 0 ≤ n) : Int.tdiv n 2 = n / 2 := Int.tdiv_eq_ediv_of_nonneg h
theorem tdiv4 {n : Int} (h : 0 ≤ n) : Int.tdiv n 4 = n / 4 := Int.tdiv_eq_ediv_of_nonneg h
/-- May it be? -/
def okF (f : FD) : Prop := sideB f.W = true ∧ sideB f.H = true ∧ (f.p0.length : Int) = f.W * f.H ∧ (f.p1.length : Int) = Int.tdiv (f.W * f.H) 4 ∧ (f.p2.length : Int) = Int.tdiv (f.W * f.H) 4
instance (f : FD) : Decidable (okF f) := by unfold okF; infer_instance
def sizeF (f : FD) (p : Int) : Int × Int := if okF f ∧ 0 ≤ p ∧ p ≤ 2 then (if p = 0 then (f.W, f.H) else (Int.tdiv f.W 2, Int.tdiv f.H 2)) else (0, 0)
theorem sizeF_no {f : FD} {p : Int} (h : ¬ (okF f ∧ 0 ≤ p ∧ p ≤ 2)) : sizeF f p = (0, 0) := if_neg h
/-- A plane that there is. -/
theorem size_some {f : FD} {p : Int} (h : (sizeF f p).1 ≠ 0) : okF f ∧ 0 ≤ p ∧ p ≤ 2 := by
  unfold sizeF at h
  split at h
  · assumption
  · exact absurd rfl h
theorem size_bounds (f : FD) (p : Int) : 0 ≤ (sizeF f p).1 ∧ (sizeF f p).1 ≤ 64 ∧ 0 ≤ (sizeF f p).2 ∧ (sizeF f p).2 ≤ 64 := by
  by_cases h : okF f ∧ 0 ≤ p ∧ p ≤ 2
  · have hw := (sideB_iff _).1 h.1.1
    have hh := (sideB_iff _).1 h.1.2.1
    unfold sizeF; rw [if_pos h]
    split
    · simp only; omega
    · simp only; rw [tdiv2 (by omega), tdiv2 (by omega)]; omega
  · rw [sizeF_no h]; simp
theorem size_pos {f : FD} {p : Int} (h : okF f ∧ 0 ≤ p ∧ p ≤ 2) : 4 ≤ (sizeF f p).1 ∧ 4 ≤ (sizeF f p).2 ∧ (sizeF f p).1 * (sizeF f p).2 = ((f.pl p).length : Int) := by
  have hw := (sideB_iff _).1 h.1.1
  have hh := (sideB_iff _).1 h.1.2.1
  obtain ⟨⟨hs1, hs2, h0, h1, h2⟩, hp0, hp2⟩ := h
  have ha := area_bounds hs1 hs2
  unfold sizeF; rw [if_pos ⟨⟨hs1, hs2, h0, h1, h2⟩, hp0, hp2⟩]
  by_cases hp : p = 0
  · rw [if_pos hp]; unfold FD.pl; rw [if_pos hp]
    simp only
    exact ⟨by omega, by omega, h0.symm⟩
  · rw [if_neg hp]
    have hl : ((f.pl p).length : Int) = Int.tdiv (f.W * f.H) 4 := by
      unfold FD.pl; rw [if_neg hp]; split
      · exact h1
      · exact h2
    simp only
    rw [tdiv2 (by omega), tdiv2 (by omega), hl, tdiv4 (by omega)]
    refine ⟨by omega, by omega, ?_⟩
    obtain ⟨a, hA⟩ : ∃ a, f.W = 2 * a := ⟨f.W / 2, by omega⟩
    obtain ⟨b, hB⟩ : ∃ b, f.H = 2 * b := ⟨f.H / 2, by omega⟩
    rw [hA, hB, show 2 * a / 2 = a by omega, show 2 * b / 2 = b by omega, show 2 * a * (2 * b) = 4 * (a * b) by rw [Int.mul_assoc, Int.mul_left_comm a 2 b, ← Int.mul_assoc]; rfl]
    omega
theorem cell_in {w h x y : Int} (hw : 1 ≤ w) (hx : 0 ≤ x) (hx2 : x ≤ w - 1) (hy : 0 ≤ y) (hy2 : y ≤ h - 1) : 0 ≤ y * w ∧ 0 ≤ y * w + x ∧ y * w + x < w * h := by
  have h1 : 0 ≤ y * w := Int.mul_nonneg hy (by omega)
  have h2 : y * w ≤ (h - 1) * w := Int.mul_le_mul_of_nonneg_right hy2 (by omega)
  have h3 : (h - 1) * w = w * h - w := by rw [Int.sub_mul, Int.one_mul, Int.mul_comm]
  omega
def nearI (n : Int) : Int := min (max n (-64)) 128
end Go.Proofs.YtdcbabgcbkdlhaaDoor
set_option maxRecDepth 100000
namespace Go.Proofs.YtdcbabgcbkdlhaaDoor

def alikeF (a b : FD) : Prop := okF a ∧ okF b ∧ a.W = b.W ∧ a.H = b.H
instance (a b : FD) : Decidable (alikeF a b) := by unfold alikeF; infer_instance
def copyF (f : FD) : FD := if okF f then f else FD.none
def FD.setp (f : FD) (p : Int) (j n : Nat) : FD := if p = 0 then { f with p0 := f.p0.set j n } else if p = 1 then { f with p1 := f.p1.set j n } else { f with p2 := f.p2.set j n }
def byteI (n : Int) : Nat := (min (max n 0) 255).toNat
def within (w h u v : Int) : Prop := 0 ≤ u ∧ u < w ∧ 0 ≤ v ∧ v < h
instance (w h u v : Int) : Decidable (within w h u v) := by unfold within; infer_instance
def putTo (f : FD) (p x y : Int) (b : Nat → Int) : Nat → FD
  | 0 => copyF f
  | k + 1 => if within (sizeF f p).1 (sizeF f p).2 (nearI x + ((k % 4 : Nat) : Int)) (nearI y + ((k / 4 : Nat) : Int)) then
      (putTo f p x y b k).setp p ((nearI y + ((k / 4 : Nat) : Int)) * (sizeF f p).1 + (nearI x + ((k % 4 : Nat) : Int))).toNat (byteI (b k))
    else putTo f p x y b k
def putFr (f : FD) (p x y : Int) (b : Nat → Int) : FD := putTo f p x y b 16
theorem within_cell {f : FD} {p u v : Int} (h : within (sizeF f p).1 (sizeF f p).2 u v) : (sizeF f p).1 ≠ 0 ∧ 0 ≤ v * (sizeF f p).1 ∧ v * (sizeF f p).1 ≤ 4096 ∧ 0 ≤ v * (sizeF f p).1 + u ∧ v * (sizeF f p).1 + u < ((f.pl p).length : Int) := by
  obtain ⟨h1, h2, h3, h4⟩ := h
  have hne : (sizeF f p).1 ≠ 0 := by omega
  obtain ⟨_, _, hl⟩ := size_pos (size_some hne)
  have hb := size_bounds f p
  have hc := cell_in (w := (sizeF f p).1) (h := (sizeF f p).2) (x := u) (y := v) (by omega) (by omega) (by omega) (by omega) (by omega)
  have h5 : (sizeF f p).1 * (sizeF f p).2 ≤ 64 * 64 := Int.mul_le_mul hb.2.1 hb.2.2.2 hb.2.2.1 (by omega)
  rw [hl] at hc h5
  exact ⟨hne, by omega, by omega, by omega, by omega⟩

def pn (n : Nat) : Nat → Nat
  | 0 => n
  | _ => n / 4
end Go.Proofs.YtdcbabgcbkdlhaaDoor
set_option maxRecDepth 100000
namespace Go.Proofs.YtdcbabgcbkdlhaaDoor

theorem FD.eq {a b : FD} (h1 : a.W = b.W) (h2 : a.H = b.H) (h3 : a.p0 = b.p0) (h4 : a.p1 = b.p1) (h5 : a.p2 = b.p2) : a = b := by
  cases a; cases b; simp only at *; subst h1; subst h2; subst h3; subst h4; subst h5; rfl
structure Inside (f : FD) (k x y : Int) : Prop where
  ok : okF f
  k0 : 0 ≤ k
  k2 : k ≤ 2
  x0 : 0 ≤ x
  x1 : x + 4 ≤ (sizeF f k).1
  y0 : 0 ≤ y
  y1 : y + 4 ≤ (sizeF f k).2
def jAt (f : FD) (k x y : Int) (i : Nat) : Nat := ((y + ((i / 4 : Nat) : Int)) * (sizeF f k).1 + (x + ((i % 4 : Nat) : Int))).toNat
theorem Inside.within {f : FD} {k x y : Int} (h : Inside f k x y) (i : Nat) (hi : i < 16) : within (sizeF f k).1 (sizeF f k).2 (x + ((i % 4 : Nat) : Int)) (y + ((i / 4 : Nat) : Int)) := by
  have h1 := h.x0; have h2 := h.x1; have h3 := h.y0; have h4 := h.y1
  exact ⟨by omega, by omega, by omega, by omega⟩
theorem Inside.lt {f : FD} {k x y : Int} (h : Inside f k x y) (i : Nat) (hi : i < 16) : jAt f k x y i < (f.pl k).length := by
  have := within_cell (h.within i hi)
  unfold jAt; omega
theorem Inside.inj {f : FD} {k x y : Int} (h : Inside f k x y) (i i' : Nat) (hi : i < 16) (hi' : i' < 16) (e : jAt f k x y i = jAt f k x y i') : i = i' := by
  have w1 := within_cell (h.within i hi)
  have w2 := within_cell (h.within i' hi')
  have hx1 := h.x1; have hx0 := h.x0
  unfold jAt at e
  have e2 : (y + ((i / 4 : Nat) : Int)) * (sizeF f k).1 + (x + ((i % 4 : Nat) : Int)) = (y + ((i' / 4 : Nat) : Int)) * (sizeF f k).1 + (x + ((i' % 4 : Nat) : Int)) := by omega
  rw [Int.add_mul, Int.add_mul] at e2
  have hw : 4 ≤ (sizeF f k).1 := by omega
  generalize (sizeF f k).1 = w at *
  have hq : i / 4 = i' / 4 := by
    by_cases hlt : i / 4 < i' / 4
    · have : ((i / 4 : Nat) : Int) * w + w ≤ ((i' / 4 : Nat) : Int) * w := by
        have h5 : (((i / 4 : Nat) : Int) + 1) * w ≤ ((i' / 4 : Nat) : Int) * w := Int.mul_le_mul_of_nonneg_right (by omega) (by omega)
        rw [Int.add_mul, Int.one_mul] at h5; exact h5
      omega
    · by_cases hgt : i' / 4 < i / 4
      · have : ((i' / 4 : Nat) : Int) * w + w ≤ ((i / 4 : Nat) : Int) * w := by
          have h5 : (((i' / 4 : Nat) : Int) + 1) * w ≤ ((i / 4 : Nat) : Int) * w := Int.mul_le_mul_of_nonneg_right (by omega) (by omega)
          rw [Int.add_mul, Int.one_mul] at h5; exact h5
        omega
      · omega
  rw [hq] at e2
  omega
end Go.Proofs.YtdcbabgcbkdlhaaDoor
set_option maxRecDepth 100000
namespace Go.Proofs.YtdcbabgcbkdlhaaDoor

def newF (w h : Int) (s : Nat) : FD := if sideB w = true ∧ sideB h = true then ⟨w, h, List.replicate (w * h).toNat s, List.replicate (w * h / 4).toNat s, List.replicate (w * h / 4).toNat s⟩ else FD.none
end Go.Proofs.YtdcbabgcbkdlhaaDoor
set_option maxRecDepth 100000
namespace Go.Proofs.YtdcbabgcbkdlhaaDoor

def placeF (f : FD) (p x y : Int) : Prop := okF f ∧ 0 ≤ p ∧ p ≤ 2 ∧ 0 ≤ x ∧ x ≤ 64 ∧ 0 ≤ y ∧ y ≤ 64
instance (f : FD) (p x y : Int) : Decidable (placeF f p x y) := by unfold placeF; infer_instance
end Go.Proofs.YtdcbabgcbkdlhaaDoor
set_option maxRecDepth 100000
namespace Go.Proofs.YtdcbabgcbkdlhaaDoor

def vecOk (X Y : Int) : Prop := -31 ≤ X ∧ X ≤ 31 ∧ -31 ≤ Y ∧ Y ≤ 31
instance (X Y : Int) : Decidable (vecOk X Y) := by unfold vecOk; infer_instance
def vecE (X Y : Int) : Int := if vecOk X Y then 0 else 90
theorem vecE_yes {X Y : Int} (h : vecOk X Y) : vecE X Y = 0 := if_pos h
theorem vecE_no {X Y : Int} (h : ¬ vecOk X Y) : vecE X Y = 90 := if_neg h
theorem vecE_iff (X Y : Int) : vecE X Y = 0 ↔ vecOk X Y := by unfold vecE; split <;> simp_all
def c100 (n : Int) : Int := min (max n (-100)) 100
end Go.Proofs.YtdcbabgcbkdlhaaDoor
set_option maxRecDepth 100000
namespace Go.Proofs.YtdcbabgcbkdlhaaDoor

structure VF where
  w : Int
  h : Int
  X : Int → Int → Int
  Y : Int → Int → Int
def inV (f : VF) (x y : Int) : Prop := 0 ≤ x ∧ x < f.w ∧ 0 ≤ y ∧ y < f.h
instance (f : VF) (x y : Int) : Decidable (inV f x y) := by unfold inV; infer_instance
def sidesOk (w h : Int) : Prop := 1 ≤ w ∧ w ≤ 16 ∧ 1 ≤ h ∧ h ≤ 16
instance (w h : Int) : Decidable (sidesOk w h) := by unfold sidesOk; infer_instance
def vecBits (X Y gx gy : Int) : List Bool := signedBits (cl 64 X - cl 64 gx) ++ signedBits (cl 64 Y - cl 64 gy)
theorem cl64 (n : Int) : -64 ≤ cl 64 n ∧ cl 64 n ≤ 64 := by unfold cl; omega
def rdX (l : List Nat) (s : Option Nat) : Int × Option Nat := rdStep (signedRd l 128) s
def rdOk (l : List Nat) (gx gy : Int) (s : Option Nat) : Prop := (rdX l (rdX l s).2).2 ≠ none ∧ vecOk ((rdX l s).1 + cl 64 gx) ((rdX l (rdX l s).2).1 + cl 64 gy)
instance (l : List Nat) (gx gy : Int) (s : Option Nat) : Decidable (rdOk l gx gy s) := by unfold rdOk; infer_instance
def vrX (l : List Nat) (gx gy : Int) (s : Option Nat) : Int := if rdOk l gx gy s then (rdX l s).1 + cl 64 gx else 0
def vrY (l : List Nat) (gx gy : Int) (s : Option Nat) : Int := if rdOk l gx gy s then (rdX l (rdX l s).2).1 + cl 64 gy else 0
def vrE (l : List Nat) (gx gy : Int) (s : Option Nat) : Int := if rdOk l gx gy s then 0 else 90
def vrS (l : List Nat) (s : Option Nat) : Option Nat := (rdX l (rdX l s).2).2
theorem vr_yes {l : List Nat} {gx gy : Int} {s : Option Nat} (h : rdOk l gx gy s) : vrX l gx gy s = (rdX l s).1 + cl 64 gx ∧ vrY l gx gy s = (rdX l (rdX l s).2).1 + cl 64 gy ∧ vrE l gx gy s = 0 := ⟨if_pos h, if_pos h, if_pos h⟩
theorem vr_no {l : List Nat} {gx gy : Int} {s : Option Nat} (h : ¬ rdOk l gx gy s) : vrX l gx gy s = 0 ∧ vrY l gx gy s = 0 ∧ vrE l gx gy s = 90 := ⟨if_neg h, if_neg h, if_neg h⟩
theorem rdX_le (l : List Nat) (s : Option Nat) : -128 ≤ (rdX l s).1 ∧ (rdX l s).1 ≤ 128 := rdStep_signed_le l 128 (by omega) s
theorem rdX_bits (l : List Nat) (a : Nat) (n : Int) (h : -128 ≤ n ∧ n ≤ 128) (hb : BitsAt l a (signedBits n)) : rdX l (some a) = (n, some (a + (signedBits n).length)) := by
  have := signedRd_bits l a n 128 (by omega) (by omega) (by omega) (by omega) hb
  unfold rdX; simp [rdStep, this]
theorem vr_back (l : List Nat) (a : Nat) (X Y gx gy : Int) (hv : vecOk X Y) (hb : BitsAt l a (vecBits X Y gx gy)) :
    vrX l gx gy (some a) = X ∧ vrY l gx gy (some a) = Y ∧ vrE l gx gy (some a) = 0 ∧ vrS l (some a) = some (a + (vecBits X Y gx gy).length) := by
  have h1 := cl64 gx; have h2 := cl64 gy
  have hX : cl 64 X = X := cl_id _ _ (by unfold vecOk at hv; omega) (by unfold vecOk at hv; omega)
  have hY : cl 64 Y = Y := cl_id _ _ (by unfold vecOk at hv; omega) (by unfold vecOk at hv; omega)
  unfold vecBits at hb
  have hv' := hv
  unfold vecOk at hv'
  have e1 := rdX_bits l a (cl 64 X - cl 64 gx) (by omega) hb.left
  have e2 := rdX_bits l _ (cl 64 Y - cl 64 gy) (by omega) hb.right
  have hk : rdOk l gx gy (some a) := by
    unfold rdOk; rw [e1]; simp only; rw [e2]; simp only
    refine ⟨by simp, ?_⟩
    rw [show cl 64 X - cl 64 gx + cl 64 gx = X by omega, show cl 64 Y - cl 64 gy + cl 64 gy = Y by omega]; exact hv
  obtain ⟨k1, k2, k3⟩ := vr_yes hk
  refine ⟨?_, ?_, k3, ?_⟩
  · rw [k1, e1]; simp only; omega
  · rw [k2, e1]; simp only; rw [e2]; simp only; omega
  · unfold vrS; rw [e1]; simp only; rw [e2]; simp only [vecBits, List.length_append]; congr 1; omega
theorem vecBits_short (X Y gx gy : Int) : (vecBits X Y gx gy).length ≤ 128 := by
  have h1 := signedBits_short (cl 64 X - cl 64 gx); have h2 := signedBits_short (cl 64 Y - cl 64 gy)
  unfold vecBits; rw [List.length_append]; omega
end Go.Proofs.YtdcbabgcbkdlhaaDoor
set_option maxRecDepth 100000
namespace Go.Proofs.YtdcbabgcbkdlhaaDoor
open Go.RowKit

/-- One more operation is listed. -/
def upL (L : Nat → Bool) (i : Nat) : Nat → Bool := fun j => if j = i then true else L j
/-- One more answer. -/
def upV (v : Nat → Value) (i : Nat) (x : Value) : Nat → Value := fun j => if j = i then x else v j

/-- Whether each operation that writes a slot waits for operation i. -/
def late (os : List Oper) (t : Tmp) (i : Nat) : Bool := os.all fun o => o.dst != some t || o.after.toList.any fun e => Region.binds .any e && e.on == i

/-- What is asked of one operation. -/
def StepJ (os : List Oper) (P : Program) (D : List (Option Tmp)) (J : (Nat → Bool) → (Nat → Value) → World → Prop) (a0 : Act) (i : Nat) (o : Oper) : Prop :=
  ∀ (L : Nat → Bool) (v : Nat → Value) (a : Act) (w : World), J L v w → L i = false → (∀ e ∈ o.after.toList, Region.binds .any e = true → L e.on = true) →
    (∀ t, some t ∉ D → a.eval (.tmp t) = a0.eval (.tmp t)) → (∀ j d, L j = true → D[j]? = some (some d) → a.eval (.tmp d) = v j) → (∀ t, late os t i = true → a.eval (.tmp t) = a0.eval (.tmp t)) →
    (goes D o a = true → Yields P a.eval o w (fun x w' => J (upL L i) (upV v i x) w')) ∧ (goes D o a = false → J (upL L i) (upV v i undef) w)

def StepsJ (os : List Oper) (P : Program) (D : List (Option Tmp)) (J : (Nat → Bool) → (Nat → Value) → World → Prop) (a0 : Act) : Nat → List Oper → Prop
  | _, [] => True
  | i, o :: r => StepJ os P D J a0 i o ∧ StepsJ os P D J a0 (i + 1) r

theorem StepsJ.at {all : List Oper} {P : Program} {D : List (Option Tmp)} {J : (Nat → Bool) → (Nat → Value) → World → Prop} {a0 : Act} : ∀ {i : Nat} {os : List Oper}, StepsJ all P D J a0 i os → ∀ k o, os[k]? = some o → StepJ all P D J a0 (i + k) o := by
  intro i os
  induction os generalizing i with
  | nil => intro _ k o h; simp at h
  | cons x r ih =>
    intro h k o hk
    cases k with
    | zero => simp at hk; subst hk; exact h.1
    | succ k =>
      simp at hk
      have := ih h.2 k o hk
      rwa [show i + 1 + k = i + (k + 1) by omega] at this

structure MidJ (ops : Array Oper) (D : List (Option Tmp)) (J : (Nat → Bool) → (Nat → Value) → World → Prop) (a0 : Act) (v : Nat → Value) (listed : Array Bool) (a : Act) (w : World) : Prop where
  size : a.tmps.size = a0.tmps.size
  ls : listed.size = ops.size
  defers : a.defers = a0.defers
  out : ∀ t, (∀ j, listed.getD j false = true → D[j]? ≠ some (some t)) → a.tmps.getD t undef = a0.tmps.getD t undef
  here : ∀ j d, listed.getD j false = true → D[j]? = some (some d) → a.tmps.getD d undef = v j
  good : J (fun j => listed.getD j false) v w
  cl : ∀ (k : Nat) (o : Oper), ops[k]? = some o → listed.getD k false = true → ∀ e ∈ o.after.toList, Region.binds .any e = true → listed.getD e.on false = true

theorem wpAny_inv {P : Program} {ops : Array Oper} {Q : Exit → Act → World → Prop} {a0 : Act} (D : List (Option Tmp)) (J : (Nat → Bool) → (Nat → Value) → World → Prop)
    (hpl : plain a0.tmps.size 0 D ops.toList = true) (hsteps : StepsJ ops.toList P D J a0 0 ops.toList)
    (hend : ∀ (L : Nat → Bool) (v : Nat → Value) (w : World), J L v w → (∀ i, i < ops.size → L i = true) → Q .normal (putAll v 0 D a0) w) :
    ∀ (fuel : Nat) (listed : Array Bool) (v : Nat → Value) (a : Act) (w : World), MidJ ops D J a0 v listed a w → (fuel = 0 → Region.ready .any ops listed = []) →
      (List.range ops.size).countP (fun i => !listed.getD i false) ≤ fuel → wpAny P .any ops Q fuel listed a w := by
  obtain ⟨hDl, hpa⟩ := plain_at hpl
  have hlen : D.length = ops.size := by simpa using hDl
  have hback : ∀ (k : Nat) (o : Oper), ops[k]? = some o → ∀ e ∈ o.after.toList, Region.binds .any e = true → e.on < k := by
    intro k o hk e he hb
    have := (hpa k o (by simpa using hk)).2.2 e he hb
    omega
  have fin : ∀ (listed : Array Bool) (v : Nat → Value) (a : Act) (w : World), MidJ ops D J a0 v listed a w → Region.ready .any ops listed = [] → Q .normal a w := by
    intro listed v a w hm hr
    have hall := all_listed hback hr hm.ls
    have hp := putAll_frame v D 0 a0
    have ha : a = putAll v 0 D a0 := by
      have ht : a.tmps = (putAll v 0 D a0).tmps := by
        apply Array.ext
        · rw [hm.size, hp.1]
        · intro t h1 h2
          have e : a.tmps.getD t undef = (putAll v 0 D a0).tmps.getD t undef := by
            by_cases hmem : some t ∈ D
            · obtain ⟨j, hj⟩ := List.mem_iff_getElem?.1 hmem
              have hjs : j < ops.size := by rw [← hlen]; exact (List.getElem?_eq_some_iff.1 hj).1
              obtain ⟨g1, g2, _⟩ := hpa j ops[j] (by simp [hjs])
              have hdst : ops[j].dst = some t := by rw [hj] at g1; exact (Option.some.inj g1).symm
              obtain ⟨k1, k2⟩ := g2 t hdst
              rw [hm.here j t (hall j hjs) hj, hp.2.2.2 j t hj k2 k1, Nat.zero_add]
            · rw [hp.2.2.1 t hmem, hm.out t (fun j _ hj => hmem (List.mem_of_getElem? hj))]
          simpa [Array.getD_eq_getD_getElem?, h1, h2] using e
      have hd : a.defers = (putAll v 0 D a0).defers := by rw [hm.defers, hp.2.1]
      cases a
      cases hq : putAll v 0 D a0
      rw [hq] at ht hd
      simp only at ht hd
      rw [ht, hd]
    rw [ha]
    exact hend _ v w hm.good hall
  intro fuel
  induction fuel with
  | zero =>
    intro listed v a w hm h0 _
    exact ⟨h0 rfl, fin listed v a w hm (h0 rfl)⟩
  | succ fuel ih =>
    intro listed v a w hm _ hcount
    refine ⟨fin listed v a w hm, fun i hi => ?_⟩
    obtain ⟨hlt, hnl, o, ho, haft⟩ := mem_ready hi
    have hlsz : i < listed.size := by rw [hm.ls]; exact hlt
    have hnl' : listed.getD i false = false := by simpa [Array.getD, hlsz] using hnl
    obtain ⟨g1, g2, g3⟩ := hpa i o (by simpa using ho)
    have hstep := hsteps.at i o (by simpa using ho)
    rw [Nat.zero_add] at hstep
    have hout : ∀ t, some t ∉ D → a.eval (.tmp t) = a0.eval (.tmp t) := fun t ht => hm.out t (fun j _ hj => ht (List.mem_of_getElem? hj))
    have hlate : ∀ t, late ops.toList t i = true → a.eval (.tmp t) = a0.eval (.tmp t) := by
      intro t ht
      refine hm.out t fun j hj hD => ?_
      have hjs : j < ops.size := by rw [← hlen]; exact (List.getElem?_eq_some_iff.1 hD).1
      obtain ⟨k1, _, _⟩ := hpa j ops[j] (by simp [hjs])
      have hdst : ops[j].dst = some t := by rw [hD] at k1; exact (Option.some.inj k1).symm
      unfold late at ht
      have h1 := List.all_eq_true.1 ht ops[j] (by simp)
      simp only [hdst, bne_self_eq_false, Bool.false_or] at h1
      obtain ⟨e, he, hb⟩ := List.any_eq_true.1 h1
      simp only [Bool.and_eq_true, beq_iff_eq] at hb
      have h2 := hm.cl j ops[j] (by simp [hjs]) hj e he hb.1
      rw [hb.2, hnl'] at h2
      cases h2
    obtain ⟨s1, s2⟩ := hstep (fun j => listed.getD j false) v a w hm.good hnl' haft hout (fun j d hj hD => hm.here j d hj hD) hlate
    -- what is left when it answers x in the world w'
    have next : ∀ (x : Value) (w' : World), J (upL (fun j => listed.getD j false) i) (upV v i x) w' → wpAny P .any ops Q fuel (listed.setIfInBounds i true) (a.put o.dst x) w' := by
      intro x w' hJ
      have hcnt : (List.range ops.size).countP (fun j => !(listed.setIfInBounds i true).getD j false) ≤ fuel := by
        have h1 : (List.range ops.size).countP (fun j => !(listed.setIfInBounds i true).getD j false) < (List.range ops.size).countP (fun j => !listed.getD j false) := by
          have hmemi : i ∈ List.range ops.size := by simpa using hlt
          have key : ∀ (l : List Nat), i ∈ l → (∀ j, (!(listed.setIfInBounds i true).getD j false) = true → (!listed.getD j false) = true) → l.countP (fun j => !(listed.setIfInBounds i true).getD j false) < l.countP (fun j => !listed.getD j false) := by
            intro l
            induction l with
            | nil => intro h; cases h
            | cons y r ihl =>
              intro hy himp
              have hle : r.countP (fun j => !(listed.setIfInBounds i true).getD j false) ≤ r.countP (fun j => !listed.getD j false) := List.countP_mono_left fun j _ hj => himp j hj
              by_cases hyi : y = i
              · subst hyi
                have e1 : (!(listed.setIfInBounds y true).getD y false) = false := by rw [getD_set_true _ _ _ hlsz, if_pos rfl]; rfl
                have e2 : (!listed.getD y false) = true := by rw [hnl']; rfl
                rw [List.countP_cons, List.countP_cons]
                simp only [e1, e2, if_true, Bool.false_eq_true, if_false]
                omega
              · have hir : i ∈ r := by
                  rcases List.mem_cons.1 hy with h | h
                  · exact absurd h.symm hyi
                  · exact h
                have := ihl hir himp
                rw [List.countP_cons, List.countP_cons]
                have e3 : (listed.setIfInBounds i true).getD y false = listed.getD y false := by rw [getD_set_true _ _ _ hlsz, if_neg hyi]
                rw [e3]; omega
          refine key _ hmemi fun j hj => ?_
          rw [getD_set_true _ _ _ hlsz] at hj
          by_cases hji : j = i
          · rw [if_pos hji] at hj; cases hj
          · rwa [if_neg hji] at hj
        omega
      have hmid : MidJ ops D J a0 (upV v i x) (listed.setIfInBounds i true) (a.put o.dst x) w' := by
        refine ⟨?_, by simpa using hm.ls, ?_, ?_, ?_, ?_, ?_⟩
        · rw [← hm.size]; cases o.dst <;> simp [Act.put]
        · rw [← hm.defers]; cases o.dst <;> rfl
        · intro t ht
          have hold := hm.out t (fun j hj => ht j (by rw [getD_set_true _ _ _ hlsz]; split <;> first | rfl | exact hj))
          have hne : o.dst ≠ some t := by
            intro e
            exact ht i (by rw [getD_set_true _ _ _ hlsz, if_pos rfl]) (by rw [g1, e])
          rw [← hold]
          cases hd : o.dst with
          | none => rfl
          | some d =>
            have : d ≠ t := fun e => hne (by rw [hd, e])
            simp only [Act.put, Array.getD_eq_getD_getElem?, Array.getElem?_setIfInBounds_ne this]
        · intro j d hj hD
          by_cases hji : j = i
          · subst hji
            have hd : o.dst = some d := by rw [g1] at hD; exact Option.some.inj hD
            have hsz : d < a.tmps.size := by rw [hm.size]; exact (g2 d hd).1
            simp [hd, Act.put, Array.getD_eq_getD_getElem?, hsz, upV]
          · rw [getD_set_true _ _ _ hlsz, if_neg hji] at hj
            have hold := hm.here j d hj hD
            rw [show upV v i x j = v j from if_neg hji, ← hold]
            cases hd : o.dst with
            | none => rfl
            | some y =>
              have hne : y ≠ d := by
                rintro rfl
                rw [hd] at g1
                rcases Nat.lt_or_gt_of_ne hji with hlt2 | hgt2
                · have hjs : j < ops.size := by rw [← hlen]; exact (List.getElem?_eq_some_iff.1 hD).1
                  obtain ⟨k1, k2, _⟩ := hpa j ops[j] (by simp [hjs])
                  have hdst : ops[j].dst = some y := by rw [hD] at k1; exact (Option.some.inj k1).symm
                  exact (k2 y hdst).2 i hlt2 g1
                · exact (g2 y hd).2 j hgt2 hD
              simp only [Act.put, Array.getD_eq_getD_getElem?, Array.getElem?_setIfInBounds_ne hne]
        · have e : (fun j => (listed.setIfInBounds i true).getD j false) = upL (fun j => listed.getD j false) i := by
            funext j; exact getD_set_true _ _ _ hlsz
          rw [e]; exact hJ
        · intro k o' hk hl e he hb
          rw [getD_set_true _ _ _ hlsz] at hl ⊢
          by_cases hee : e.on = i
          · rw [if_pos hee]
          · rw [if_neg hee]
            by_cases hki : k = i
            · subst hki
              rw [ho] at hk
              cases hk
              exact haft e he hb
            · rw [if_neg hki] at hl
              exact hm.cl k o' hk hl e he hb
      refine ih _ _ _ _ hmid ?_ hcnt
      intro hz
      subst hz
      have hz0 : (List.range ops.size).countP (fun j => !(listed.setIfInBounds i true).getD j false) = 0 := by omega
      rw [List.countP_eq_zero] at hz0
      cases hr : Region.ready .any ops (listed.setIfInBounds i true) with
      | nil => rfl
      | cons y r =>
        have hy : y ∈ Region.ready .any ops (listed.setIfInBounds i true) := by rw [hr]; simp
        obtain ⟨q1, q2, _⟩ := mem_ready hy
        have := hz0 y (by simpa using q1)
        have hys : y < (listed.setIfInBounds i true).size := by simp [hm.ls]; exact q1
        have q3 : (listed.setIfInBounds i true).getD y false = false := by rw [← getD_same _ y hys]; exact q2
        rw [q3] at this
        exact absurd rfl this
    have hwant : Region.wanted o (yielded ops a.tmps) = goes D o a := by
      unfold Region.wanted goes
      cases hg : o.guard with
      | none => rfl
      | some p =>
        obtain ⟨j, want⟩ := p
        simp only [yielded]
        by_cases hj : j < ops.size
        · obtain ⟨k1, k2, _⟩ := hpa j ops[j] (by simp [hj])
          have hDj : D.getD j none = ops[j].dst := by simp [List.getD, k1]
          rw [hDj]
          simp only [Array.getElem?_eq_getElem hj, Option.bind_some]
          cases hd : ops[j].dst with
          | none => simp
          | some d =>
            have hsz : d < a.tmps.size := by rw [hm.size]; exact (k2 d hd).1
            simp only [Option.bind_some, Array.getElem?_eq_getElem hsz]
            have he : a.eval (.tmp d) = a.tmps[d] := by simp [Act.eval, Array.getD, hsz]
            rw [he]
            cases a.tmps[d] <;> simp
        · have hDj : D.getD j none = none := by simp [List.getD, List.getElem?_eq_none (show D.length ≤ j by omega)]
          rw [hDj]
          simp [Array.getElem?_eq_none (show ops.size ≤ j by omega)]
    unfold wpOp
    rw [ho]
    simp only [hwant]
    cases hgo : goes D o a with
    | true =>
      simp only [if_true]
      refine .inl (Yields.wp ?_)
      have := s1 hgo
      revert this
      unfold Yields
      generalize (execOp a.eval o).run P w = res
      intro h
      cases res with
      | ok n w' =>
        cases n <;> simp only at h ⊢ <;> first
          | exact next _ _ h
          | exact h.elim
          | exact Calls.mono h (fun e w'' ⟨y, he, hk⟩ => ⟨y, he, next _ _ hk⟩)
      | halt y w' => exact h.elim
    | false =>
      simp only [Bool.false_eq_true, if_false]
      exact next undef w (s2 hgo)


theorem wp_region_inv {P : Program} {id : Nat} {ops : Array Oper} {Q : Exit → Act → World → Prop} {a0 : Act} {w0 : World} (D : List (Option Tmp)) (J : (Nat → Bool) → (Nat → Value) → World → Prop)
    (hm : P.follows .mixedOrders = true) (hpl : plain a0.tmps.size 0 D ops.toList = true) (h0 : J (fun _ => false) (fun _ => undef) w0.drew) (hsteps : StepsJ ops.toList P D J a0 0 ops.toList)
    (hend : ∀ (L : Nat → Bool) (v : Nat → Value) (w : World), J L v w → (∀ i, i < ops.size → L i = true) → Q .normal (putAll v 0 D a0) w) : (Code.region id ops true).wp P Q a0 w0 := by
  refine wp_region_any hm ?_
  have hno : ∀ j, (Array.replicate ops.size false).getD j false = false := by
    intro j
    by_cases h : j < ops.size <;> simp [Array.getD, h]
  refine wpAny_inv D J hpl hsteps hend ops.size _ (fun _ => undef) a0 _ ⟨rfl, by simp, rfl, fun _ _ => rfl, fun j _ hj => ?_, ?_, fun k _ _ hl => ?_⟩ ?_ ?_
  · rw [hno] at hj; cases hj
  · have e : (fun j => (Array.replicate ops.size false).getD j false) = fun _ => false := funext hno
    rw [e]; exact h0
  · rw [hno] at hl; cases hl
  · intro h0
    cases hr : Region.ready .any ops (Array.replicate ops.size false) with
    | nil => rfl
    | cons y r =>
      have hy : y ∈ Region.ready .any ops (Array.replicate ops.size false) := by rw [hr]; simp
      have := (mem_ready hy).1
      omega
  · exact Nat.le_trans (List.countP_le_length) (by simp)
end Go.Proofs.YtdcbabgcbkdlhaaDoor
set_option maxRecDepth 100000
namespace Go.Proofs.YtdcbabgcbkdlhaaDoor
open Go.RowKit

/-- What is asked of one operation. U tells which operation uses an answer up. -/
def StepU (U : Nat → Option Nat) (P : Program) (R : World → Prop) (D : List (Option Tmp)) (G H : Nat → Value → World → Prop) (a0 : Act) (i : Nat) (o : Oper) : Prop :=
  ∀ (a : Act) (w : World), R w → (∀ t, some t ∉ D → a.eval (.tmp t) = a0.eval (.tmp t)) → Deps D (fun j v w => (U j = none ∨ U j = some i) → G j v w) a w o.after.toList →
    (goes D o a = true → Yields P a.eval o w (fun v w' => G i v w' ∧ R w' ∧ (∀ j x, j ≠ i → U j ≠ some i → G j x w → G j x w') ∧ (∀ j x, U j ≠ some i → H j x w → H j x w') ∧ ∀ j d, U j = some i → D[j]? = some (some d) → H j (a.eval (.tmp d)) w')) ∧ (goes D o a = false → G i undef w ∧ ∀ j, U j ≠ some i)
def StepsU (U : Nat → Option Nat) (P : Program) (R : World → Prop) (D : List (Option Tmp)) (G H : Nat → Value → World → Prop) (a0 : Act) : Nat → List Oper → Prop
  | _, [] => True
  | i, o :: r => StepU U P R D G H a0 i o ∧ StepsU U P R D G H a0 (i + 1) r
theorem StepsU.at {U : Nat → Option Nat} {P : Program} {R : World → Prop} {D : List (Option Tmp)} {G H : Nat → Value → World → Prop} {a0 : Act} : ∀ {i : Nat} {os : List Oper}, StepsU U P R D G H a0 i os → ∀ k o, os[k]? = some o → StepU U P R D G H a0 (i + k) o := by
  intro i os
  induction os generalizing i with
  | nil => intro _ k o h; simp at h
  | cons x r ih =>
    intro h k o hk
    cases k with
    | zero => simp at hk; subst hk; exact h.1
    | succ k =>
      simp at hk
      have := ih h.2 k o hk
      rwa [show i + 1 + k = i + (k + 1) by omega] at this
end Go.Proofs.YtdcbabgcbkdlhaaDoor
set_option maxRecDepth 100000
namespace Go.Proofs.YtdcbabgcbkdlhaaDoor
open Go.RowKit

/-- Which operation uses an answer up. -/
def usedBy (l : List (Nat × Nat)) (j : Nat) : Option Nat := (l.find? fun q => q.1 == j).map (·.2)
theorem usedBy_mem {l : List (Nat × Nat)} {j k : Nat} (h : usedBy l j = some k) : (j, k) ∈ l := by
  unfold usedBy at h
  cases hf : l.find? fun q => q.1 == j with
  | none => rw [hf] at h; cases h
  | some q =>
    rw [hf] at h
    cases h
    have h1 := List.find?_some hf
    have h2 := List.mem_of_find?_eq_some hf
    have : q.1 = j := by simpa using h1
    rw [← this]; exact h2
def noUse (l : List (Nat × Nat)) (i : Nat) : Bool := l.all fun q => q.2 != i
theorem noUse_at {l : List (Nat × Nat)} {i : Nat} (h : noUse l i = true) (j : Nat) : usedBy l j ≠ some i := fun e => by
  have := List.all_eq_true.1 h _ (usedBy_mem e)
  simp at this
def oneUse (l : List (Nat × Nat)) (i j : Nat) : Bool := l.all fun q => q.2 != i || q.1 == j
theorem oneUse_at {l : List (Nat × Nat)} {i j : Nat} (h : oneUse l i j = true) {j' : Nat} (e : usedBy l j' = some i) : j' = j := by
  have := List.all_eq_true.1 h _ (usedBy_mem e)
  simpa using this
/-- What is told to operation i. -/
def Told (l : List (Nat × Nat)) (Gs : List Pd) (i : Nat) : Nat → Value → World → Prop := fun j v w => (usedBy l j = none ∨ usedBy l j = some i) → Said Gs j v w
/-- What operation i leaves. -/
def Left (l : List (Nat × Nat)) (D : List (Option Tmp)) (Gs Hs : List Pd) (w0 : World) (i : Nat) (ρ : Operand → Value) (w : World) (v : Value) (w' : World) : Prop :=
  Said Gs i v w' ∧ Kept (fun _ => False) w0 w' ∧ (∀ j x, j ≠ i → usedBy l j ≠ some i → Said Gs j x w → Said Gs j x w') ∧ (∀ j x, usedBy l j ≠ some i → Said Hs j x w → Said Hs j x w') ∧ ∀ j d, usedBy l j = some i → D[j]? = some (some d) → Said Hs j (ρ (.tmp d)) w'
section
variable {P : Program} {N : Nat} {F : Nat → Value} {w : World} {Q : Exit → (Nat → Value) → World → Prop}

def StepFU (l : List (Nat × Nat)) (N : Nat) (P : Program) (D : List (Option Tmp)) (Gs Hs : List Pd) (F0 : Nat → Value) (w0 : World) (i : Nat) (o : Oper) : Prop :=
  ∀ (F : Nat → Value) (w : World), Kept (fun _ => False) w0 w → (∀ t, Nat.blt t N = true → some t ∉ D → F t = F0 t) → DepsF D (Told l Gs i) F w o.after.toList →
    match o.guard with
    | none => Yields P (ev F) o w (Left l D Gs Hs w0 i (ev F) w)
    | some (j, want) => ∃ d, D.getD j none = some d ∧
      ((F d = .bool want ∧ Yields P (ev F) o w (Left l D Gs Hs w0 i (ev F) w)) ∨ ((F d = .bool (!want) ∨ F d = undef) ∧ Said Gs i undef w ∧ noUse l i = true))
def StepsFU (l : List (Nat × Nat)) (N : Nat) (P : Program) (D : List (Option Tmp)) (Gs Hs : List Pd) (F0 : Nat → Value) (w0 : World) : Nat → List Oper → Prop
  | _, [] => True
  | i, o :: r => StepFU l N P D Gs Hs F0 w0 i o ∧ StepsFU l N P D Gs Hs F0 w0 (i + 1) r
theorem StepFU.step {l : List (Nat × Nat)} {D : List (Option Tmp)} {Gs Hs : List Pd} {w0 : World} {i : Nat} {o : Oper} {a0 : Act} (ha : Fr N F a0) (h : StepFU l N P D Gs Hs F w0 i o) : StepU (usedBy l) P (Kept (fun _ => False) w0) D (Said Gs) (Said Hs) a0 i o := by
  intro a w hR hout hD
  have h1 := h (fun t => a.tmps.getD t undef) w hR (fun t hb ht => by rw [← ha.at' t hb]; exact hout t ht) hD.toF
  rw [← eval_ev a] at h1
  unfold goes
  cases hg : o.guard with
  | none => rw [hg] at h1; exact ⟨fun _ => h1, fun e => by cases e⟩
  | some g =>
    obtain ⟨j, want⟩ := g
    rw [hg] at h1
    obtain ⟨d, hd, h1⟩ := h1
    simp only [hd]
    have hev : a.eval (.tmp d) = a.tmps.getD d undef := rfl
    rcases h1 with ⟨hv, hy⟩ | ⟨hv, hs⟩
    · rw [hev, hv]; exact ⟨fun _ => hy, fun e => by simp at e⟩
    · refine ⟨fun e => ?_, fun _ => ⟨hs.1, noUse_at hs.2⟩⟩
      rcases hv with hv | hv
      · rw [hev, hv] at e; cases want <;> simp at e
      · rw [hev, hv] at e; simp [undef] at e
theorem StepsFU.steps {l : List (Nat × Nat)} {D : List (Option Tmp)} {Gs Hs : List Pd} {w0 : World} {a0 : Act} (ha : Fr N F a0) : ∀ {os : List Oper} {i : Nat}, StepsFU l N P D Gs Hs F w0 i os → StepsU (usedBy l) P (Kept (fun _ => False) w0) D (Said Gs) (Said Hs) a0 i os := by
  intro os
  induction os with
  | nil => intro i _; exact trivial
  | cons o r ih => intro i h; exact ⟨h.1.step ha, ih h.2⟩
theorem left_plain {l : List (Nat × Nat)} {D : List (Option Tmp)} {Gs Hs : List Pd} {w0 w w' : World} {i : Nat} {ρ : Operand → Value} {v : Value} (hn : noUse l i = true) (hR : Kept (fun _ => False) w0 w) (h : Said Gs i v w' ∧ Kept (fun _ => False) w w') : Left l D Gs Hs w0 i ρ w v w' :=
  ⟨h.1, hR.trans h.2 (fun _ _ x => x), fun j _ _ _ hj => (Gs.getD j Pd.any).stays _ _ _ hj h.2, fun j _ _ hj => (Hs.getD j Pd.any).stays _ _ _ hj h.2, fun j _ e => absurd e (noUse_at hn j)⟩
theorem Yields.mono' {ρ : Operand → Value} {o : Oper} {R R' : Value → World → Prop} (h : Yields P ρ o w R) (hr : ∀ v w', R v w' → R' v w') : Yields P ρ o w R' := by
  revert h
  unfold Yields
  generalize (execOp ρ o).run P w = r
  intro h
  cases r with
  | ok n w' =>
    cases n <;> simp only at h ⊢ <;> first
      | exact hr _ _ h
      | exact h.elim
      | exact Calls.mono h (fun e w'' ⟨y, he, hk⟩ => ⟨y, he, hr _ _ hk⟩)
  | halt y w' => exact h.elim
theorem StepFU.one {l : List (Nat × Nat)} {D : List (Option Tmp)} {Gs Hs : List Pd} {F0 : Nat → Value} {w0 : World} {i : Nat} {o : Oper} (hn : noUse l i = true) (hg : o.guard = none)
    (h : ∀ (F : Nat → Value) (w : World), Kept (fun _ => False) w0 w → (∀ t, Nat.blt t N = true → some t ∉ D → F t = F0 t) → DepsF D (Told l Gs i) F w o.after.toList → Yields P (ev F) o w (fun v w' => Said Gs i v w' ∧ Kept (fun _ => False) w w')) : StepFU l N P D Gs Hs F0 w0 i o := by
  intro F w h1 h2 h3
  rw [hg]
  exact (h F w h1 h2 h3).mono' fun _ _ x => left_plain hn h1 x
theorem StepFU.when {l : List (Nat × Nat)} {D : List (Option Tmp)} {Gs Hs : List Pd} {F0 : Nat → Value} {w0 : World} {i : Nat} {o : Oper} (hn : noUse l i = true) (j : Nat) (want : Bool) (d : Tmp) (hg : o.guard = some (j, want)) (hd : D.getD j none = some d)
    (h : ∀ (F : Nat → Value) (w : World), Kept (fun _ => False) w0 w → (∀ t, Nat.blt t N = true → some t ∉ D → F t = F0 t) → DepsF D (Told l Gs i) F w o.after.toList → F d = .bool want ∧ Yields P (ev F) o w (fun v w' => Said Gs i v w' ∧ Kept (fun _ => False) w w')) : StepFU l N P D Gs Hs F0 w0 i o := by
  intro F w h1 h2 h3
  rw [hg]
  obtain ⟨hv, hy⟩ := h F w h1 h2 h3
  exact ⟨d, hd, .inl ⟨hv, hy.mono' fun _ _ x => left_plain hn h1 x⟩⟩
def Pd.under (Ty : TypeId → Prop) (p : Pd) : Prop := ∀ v w w' S, p.says v w → Kept S w w' → (∀ i, S i → ∀ c e f, w.heap[i]? = some (.cells c e f) → Ty e) → p.says v w'
theorem under_any {Ty : TypeId → Prop} : Pd.any.under Ty := fun _ _ _ _ _ _ _ => trivial
def AllUnder (Ty : TypeId → Prop) (skip : Nat → Bool) : Nat → List Pd → Prop
  | _, [] => True
  | k, p :: r => (skip k = true ∨ p.under Ty) ∧ AllUnder Ty skip (k + 1) r
theorem AllUnder.at {Ty : TypeId → Prop} {skip : Nat → Bool} : ∀ {Gs : List Pd} {k : Nat}, AllUnder Ty skip k Gs → ∀ j, skip (k + j) = false → (Gs.getD j Pd.any).under Ty := by
  intro Gs
  induction Gs with
  | nil => intro k _ j _; exact under_any
  | cons p r ih =>
    intro k h j hj
    cases j with
    | zero =>
      rcases h.1 with e | e
      · rw [Nat.add_zero] at hj; rw [hj] at e; cases e
      · exact e
    | succ j => exact ih h.2 j (by rw [show k + 1 + j = k + (j + 1) by omega]; exact hj)
/-- The operation that uses an answer up: it turns blocks that were made here. -/
theorem StepFU.turn {l : List (Nat × Nat)} {D : List (Option Tmp)} {Gs Hs : List Pd} {F0 : Nat → Value} {w0 : World} {i : Nat} {o : Oper} (j : Nat) (d : Tmp) (Ty : TypeId → Prop) (hg : o.guard = none) (hd : D[j]? = some (some d)) (h1u : oneUse l i j = true) (hu : AllUnder Ty (fun q => decide (q = i ∨ usedBy l q = some i)) 0 Gs) (hu2 : AllUnder Ty (fun q => decide (usedBy l q = some i)) 0 Hs)
    (h : ∀ (F : Nat → Value) (w : World), Kept (fun _ => False) w0 w → (∀ t, Nat.blt t N = true → some t ∉ D → F t = F0 t) → DepsF D (Told l Gs i) F w o.after.toList →
      Yields P (ev F) o w (fun v w' => Said Gs i v w' ∧ Said Hs j (F d) w' ∧ ∃ S, Kept S w w' ∧ (∀ x, S x → w0.heap.size ≤ x) ∧ ∀ x, S x → ∀ c e f, w.heap[x]? = some (.cells c e f) → Ty e)) : StepFU l N P D Gs Hs F0 w0 i o := by
  intro F w h1 h2 h3
  rw [hg]
  refine (h F w h1 h2 h3).mono' fun v w' ⟨hs, hs2, S, k, hn, ht⟩ => ⟨hs, h1.trans k (fun x hx hS => absurd (hn x hS) (by omega)), fun q x hj hU hx => ?_, fun q x hU hx => ?_, fun q d' hU hq => ?_⟩
  · exact hu.at q (by rw [Nat.zero_add]; exact decide_eq_false (fun e => e.elim hj hU)) x w w' S hx k ht
  · exact hu2.at q (by rw [Nat.zero_add]; exact decide_eq_false hU) x w w' S hx k ht
  · have e := oneUse_at h1u hU
    subst e
    rw [hd] at hq
    cases hq
    exact hs2

end
end Go.Proofs.YtdcbabgcbkdlhaaDoor
set_option maxRecDepth 100000
namespace Go.Proofs.YtdcbabgcbkdlhaaDoor
open Go.RowKit

/-- Something in memory, what it is ahead of the operation that turns it, and behind it. -/
structure Thg where
  A : World → Prop
  T : Nat → Prop
  B : (Nat → Prop) → World → Prop
  stA : ∀ (w w' : World) (S : Nat → Prop), A w → Kept S w w' → Apart T S → A w'
  stB : ∀ (w w' : World) (S T' : Nat → Prop), B T' w → Kept S w w' → Apart T' S → B T' w'
  liA : ∀ w, A w → Live w T
  liB : ∀ w T', B T' w → Live w T'
inductive Pt where
  | eq (v : Value)
  | thg (t : Thg) (v : Value)
def Pt.none : Pt := .eq undef
def saysT : Pt → Value
  | .eq v => v
  | .thg _ v => v
/-- Where it lies now. -/
def curT (Gs : List Pt) (L : Nat → Bool) (Tf : Nat → Nat → Prop) (i : Nat) : Nat → Prop := match Gs.getD i Pt.none with
  | .eq _ => noB
  | .thg t _ => if L i = true then Tf i else t.T
/-- That it is. -/
def isT (Gs : List Pt) (L : Nat → Bool) (Tf : Nat → Nat → Prop) (w : World) (i : Nat) : Prop := match Gs.getD i Pt.none with
  | .eq _ => True
  | .thg t _ => if L i = true then t.B (Tf i) w else t.A w
structure JT (S : Nat → Prop) (w0 : World) (Gs : List Pt) (M : List (Nat × Nat)) (L : Nat → Bool) (v : Nat → Value) (Tf : Nat → Nat → Prop) (w : World) : Prop where
  kept : Kept S w0 w
  vals : ∀ i, L i = true → v i = saysT (Gs.getD i Pt.none)
  things : ∀ i, isT Gs L Tf w i
  grew : ∀ i t x, Gs.getD i Pt.none = .thg t x → L i = true → Grew w0 t.T (Tf i)
  apart : ∀ i j, i ≠ j → Apart (curT Gs L Tf i) (curT Gs L Tf j)
  clos : ∀ j i, (j, i) ∈ M → L j = true → L i = true
def OldT (S : Nat → Prop) (w0 : World) (Gs : List Pt) : Prop := (∀ i t x, Gs.getD i Pt.none = .thg t x → (∀ b, t.T b → S b) ∧ t.A w0) ∧ ∀ i j, i ≠ j → Apart (curT Gs (fun _ => false) (fun _ => noB) i) (curT Gs (fun _ => false) (fun _ => noB) j)
def FarT (T : Nat → Prop) : List Pt → Prop
  | [] => True
  | .thg t _ :: r => Apart T t.T ∧ FarT T r
  | .eq _ :: r => FarT T r
def OldsT (S : Nat → Prop) (w0 : World) : List Pt → Prop
  | [] => True
  | .thg t _ :: r => ((∀ b, t.T b → S b) ∧ t.A w0 ∧ FarT t.T r) ∧ OldsT S w0 r
  | .eq _ :: r => OldsT S w0 r
theorem FarT.at {T : Nat → Prop} : ∀ {Gs : List Pt}, FarT T Gs → ∀ i t x, Gs.getD i Pt.none = .thg t x → Apart T t.T := by
  intro Gs
  induction Gs with
  | nil => intro _ i t x h; cases h
  | cons g r ih =>
    intro h i t x e
    cases i with
    | zero =>
      have e : g = .thg t x := by simpa using e
      subst e; exact h.1
    | succ i =>
      have e : r.getD i Pt.none = .thg t x := by simpa using e
      cases g <;> first | exact ih h.2 i t x e | exact ih h i t x e
theorem OldsT.at {S : Nat → Prop} {w0 : World} : ∀ {Gs : List Pt}, OldsT S w0 Gs → ∀ i t x, Gs.getD i Pt.none = .thg t x → (∀ b, t.T b → S b) ∧ t.A w0 := by
  intro Gs
  induction Gs with
  | nil => intro _ i t x h; cases h
  | cons g r ih =>
    intro h i t x e
    cases i with
    | zero =>
      have e : g = .thg t x := by simpa using e
      subst e; exact ⟨h.1.1, h.1.2.1⟩
    | succ i =>
      have e : r.getD i Pt.none = .thg t x := by simpa using e
      cases g <;> first | exact ih h.2 i t x e | exact ih h i t x e
theorem OldsT.far {S : Nat → Prop} {w0 : World} : ∀ {Gs : List Pt}, OldsT S w0 Gs → ∀ i j t x t' x', i < j → Gs.getD i Pt.none = .thg t x → Gs.getD j Pt.none = .thg t' x' → Apart t.T t'.T := by
  intro Gs
  induction Gs with
  | nil => intro _ i j t x t' x' _ h; cases h
  | cons g r ih =>
    intro h i j t x t' x' hij e1 e2
    cases j with
    | zero => omega
    | succ j =>
      have e2 : r.getD j Pt.none = .thg t' x' := by simpa using e2
      cases i with
      | zero =>
        have e1 : g = .thg t x := by simpa using e1
        subst e1; exact h.1.2.2.at j t' x' e2
      | succ i =>
        have e1 : r.getD i Pt.none = .thg t x := by simpa using e1
        cases g <;> first | exact ih h.2 i j t x t' x' (by omega) e1 e2 | exact ih h i j t x t' x' (by omega) e1 e2
theorem OldsT.old {S : Nat → Prop} {w0 : World} {Gs : List Pt} (h : OldsT S w0 Gs) : OldT S w0 Gs := by
  refine ⟨fun i t x e => h.at i t x e, fun i j hij => ?_⟩
  unfold curT
  cases e1 : Gs.getD i Pt.none with
  | eq x => exact fun _ z => z.elim
  | thg t x =>
    cases e2 : Gs.getD j Pt.none with
    | eq y => exact fun _ _ z => z
    | thg t' y =>
      simp only [Bool.false_eq_true, if_false]
      rcases Nat.lt_or_gt_of_ne hij with hlt | hgt
      · exact h.far i j t x t' y hlt e1 e2
      · exact (h.far j i t' y t x hgt e2 e1).symm
/-- What is turned, and lies there. -/
def onT (w0 : World) (Gs : List Pt) (i : Nat) (w : World) : Prop := match Gs.getD i Pt.none with
  | .eq _ => True
  | .thg t _ => ∃ T', t.B T' w ∧ Grew w0 t.T T'
/-- M: who waits for whom, if only by way of others. -/
def ToldT (w0 : World) (Gs : List Pt) (M : List (Nat × Nat)) : Nat → Value → World → Prop := fun j v w => v = saysT (Gs.getD j Pt.none) ∧ onT w0 Gs j w ∧ ∀ i, (j, i) ∈ M → onT w0 Gs i w
def mustOk (os : List Oper) (M : List (Nat × Nat)) : Bool := M.all fun q => match os[q.1]? with | some o => o.after.toList.any (fun e => Region.binds .any e && (e.on == q.2 || M.contains (e.on, q.2))) | none => false
def LeftT (Gs : List Pt) (i : Nat) (w : World) (v : Value) (w' : World) : Prop := match Gs.getD i Pt.none with
  | .eq x => v = x ∧ Kept (fun _ => False) w w'
  | .thg t x => v = x ∧ Kept t.T w w' ∧ ∃ T', t.B T' w' ∧ Grew w t.T T'
theorem cur_live {S : Nat → Prop} {w0 w : World} {Gs : List Pt} {L : Nat → Bool} {v : Nat → Value} {Tf : Nat → Nat → Prop} {M : List (Nat × Nat)} (h : JT S w0 Gs M L v Tf w) (i : Nat) : Live w (curT Gs L Tf i) := by
  have := h.things i
  unfold isT at this
  unfold curT
  cases e : Gs.getD i Pt.none with
  | eq x => exact fun _ h => h.elim
  | thg t x =>
    rw [e] at this
    simp only at this ⊢
    cases hl : L i with
    | true => rw [hl] at this; rw [if_pos rfl] at this ⊢; exact t.liB w _ this
    | false => rw [hl] at this; rw [if_neg (by simp)] at this ⊢; exact t.liA w this
theorem cur_up {Gs : List Pt} {L : Nat → Bool} {Tf Tf' : Nat → Nat → Prop} {i j : Nat} (h : j ≠ i) (hT : Tf' j = Tf j) : curT Gs (fun k => if k = i then true else L k) Tf' j = curT Gs L Tf j := by
  unfold curT
  cases Gs.getD j Pt.none with
  | eq x => rfl
  | thg t x => simp only [if_neg h, hT]
theorem is_up {Gs : List Pt} {L : Nat → Bool} {Tf Tf' : Nat → Nat → Prop} {w : World} {i j : Nat} (h : j ≠ i) (hT : Tf' j = Tf j) : isT Gs (fun k => if k = i then true else L k) Tf' w j = isT Gs L Tf w j := by
  unfold isT
  cases Gs.getD j Pt.none with
  | eq x => rfl
  | thg t x => simp only [if_neg h, hT]
theorem is_kept {S' : Nat → Prop} {Gs : List Pt} {L : Nat → Bool} {Tf : Nat → Nat → Prop} {w w' : World} {j : Nat} (h : isT Gs L Tf w j) (k : Kept S' w w') (ha : Apart (curT Gs L Tf j) S') : isT Gs L Tf w' j := by
  unfold isT at h ⊢
  unfold curT at ha
  cases e : Gs.getD j Pt.none with
  | eq x => trivial
  | thg t x =>
    rw [e] at h ha
    simp only at h ha ⊢
    split
    · rename_i hl; rw [if_pos hl] at h ha; exact t.stB w w' S' _ h k ha
    · rename_i hl; rw [if_neg hl] at h ha; exact t.stA w w' S' h k ha
/-- One more operation. -/
theorem JT.more {S : Nat → Prop} {w0 w w' : World} {Gs : List Pt} {M : List (Nat × Nat)} {L : Nat → Bool} {v : Nat → Value} {Tf : Nat → Nat → Prop} {i : Nat} {x : Value} (hO : OldT S w0 Gs) (h : JT S w0 Gs M L v Tf w) (hi : L i = false) (hM : ∀ k, (i, k) ∈ M → L k = true) (hx : LeftT Gs i w x w') : ∃ Tf', JT S w0 Gs M (upL L i) (upV v i x) Tf' w' := by
  have hcl : ∀ j k, (j, k) ∈ M → upL L i j = true → upL L i k = true := fun j k hm hj => by
    have hk : L k = true := by
      by_cases hji : j = i
      · subst hji; exact hM k hm
      · rw [show upL L i j = L j from if_neg hji] at hj; exact h.clos j k hm hj
    unfold upL; split <;> first | rfl | exact hk
  unfold LeftT at hx
  cases e : Gs.getD i Pt.none with
  | eq y =>
    rw [e] at hx
    refine ⟨Tf, h.kept.trans hx.2 (fun _ _ z => z.elim), fun j hj => ?_, fun j => ?_, fun j t z hj hl => ?_, fun a b hab => ?_, hcl⟩
    · by_cases hji : j = i
      · subst hji; rw [show upV v j x j = x from if_pos rfl, e]; exact hx.1
      · rw [show upL L i j = L j from if_neg hji] at hj; rw [show upV v i x j = v j from if_neg hji]; exact h.vals j hj
    · by_cases hji : j = i
      · subst hji; unfold isT; rw [e]; trivial
      · rw [show isT Gs (upL L i) Tf w' j = isT Gs L Tf w' j from is_up hji rfl]; exact is_kept (h.things j) hx.2 (fun _ _ z => z)
    · have hji : j ≠ i := fun z' => by rw [z', e] at hj; cases hj
      rw [show upL L i j = L j from if_neg hji] at hl; exact h.grew j t z hj hl
    · have hc : ∀ c, curT Gs (upL L i) Tf c = curT Gs L Tf c := fun c => by
        by_cases hci : c = i
        · subst hci; unfold curT; rw [e]
        · exact cur_up hci rfl
      rw [hc, hc]; exact h.apart a b hab
  | thg t y =>
    rw [e] at hx
    obtain ⟨hv, k, T', hB, hG⟩ := hx
    have hcur : curT Gs L Tf i = t.T := by unfold curT; rw [e]; simp [hi]
    have hTf : ∀ c, c ≠ i → (fun c => if c = i then T' else Tf c) c = Tf c := fun c hc => by simp [hc]
    have hci : curT Gs (upL L i) (fun c => if c = i then T' else Tf c) i = T' := by unfold curT; rw [e]; simp [upL]
    have hcj : ∀ c, c ≠ i → curT Gs (upL L i) (fun c => if c = i then T' else Tf c) c = curT Gs L Tf c := fun c hc => cur_up hc (hTf c hc)
    have hnew : ∀ c, c ≠ i → Apart T' (curT Gs L Tf c) := fun c hc => by
      have := h.apart i c (fun z => hc z.symm)
      rw [hcur] at this
      exact this.grew hG (cur_live h c)
    refine ⟨fun c => if c = i then T' else Tf c, h.kept.trans k (fun b _ hb => (hO.1 i t y e).1 b hb), fun j hj => ?_, fun j => ?_, fun j t' z hj hl => ?_, fun a b hab => ?_, hcl⟩
    · by_cases hji : j = i
      · subst hji; rw [show upV v j x j = x from if_pos rfl, e]; exact hv
      · rw [show upL L i j = L j from if_neg hji] at hj; rw [show upV v i x j = v j from if_neg hji]; exact h.vals j hj
    · by_cases hji : j = i
      · subst hji; unfold isT; rw [e]; simp only [upL]; simpa using hB
      · rw [show isT Gs (upL L i) (fun c => if c = i then T' else Tf c) w' j = isT Gs L Tf w' j from is_up hji (hTf j hji)]
        exact is_kept (h.things j) k (by have := h.apart j i hji; rw [hcur] at this; exact this)
    · by_cases hji : j = i
      · subst hji
        rw [e] at hj; cases hj
        simp only [if_true]
        exact fun b hb => (hG b hb).elim .inl (fun hge => .inr (Nat.le_trans h.kept.size hge))
      · rw [show upL L i j = L j from if_neg hji] at hl
        simp only [if_neg hji]; exact h.grew j t' z hj hl
    · by_cases hai : a = i
      · subst hai
        rw [hci, hcj b (fun z => hab z.symm)]; exact hnew b (fun z => hab z.symm)
      · rw [hcj a hai]
        by_cases hbi : b = i
        · subst hbi; rw [hci]; exact (hnew a hai).symm
        · rw [hcj b hbi]; exact h.apart a b hab
theorem y_setStc {P : Program} {ρ : Operand → Value} {o : Oper} {w : World} {R : Value → World → Prop} {ty t : TypeId} {x y : Operand} {p k : Nat} {v u : Value} {vs : List Value} (ho : o.op = .store ty x y) (hx : ρ x = .pointer (some ⟨p, k, none⟩)) (hy : ρ y = v) (hB : Stc w p t vs) (hk : vs[k]? = some u) (hv : oneC v = true)
    (hs : (P.info? ty).map (·.size) = some 1)
    (h : ∀ w', Stc w' p t (vs.set k v) → Kept (fun k => k = p) w w' → R undef w') : Yields P ρ o w R := by
  have hc := hB.cell hk
  have hf : w.frozen? ⟨p, k, none⟩ = false := frozen_of_heap hB
  cases hq : P.info? ty with
  | none => simp [hq] at hs
  | some i =>
    have hs' : i.size = 1 := by simpa [hq] using hs
    have e : (execOp ρ o).run P w = .ok .skip (w.setCell ⟨p, k, none⟩ v) ∨ (execOp ρ o).run P w = .ok (.value undef) (w.setCell ⟨p, k, none⟩ v) := by
      cases v <;> first
        | (simp [oneC] at hv; done)
        | simp [execOp, ho, hx, hy, Instr.storeAt, Instr.sureAddr, storeVar, sizeOf, typeInfo, hq, hs', Value.cells, hc, hf, go_sem]
    unfold Yields
    rcases e with e | e <;> rw [e] <;> exact h _ (hB.set k v) ((Kept.refl (fun k => k = p) w).setCell ⟨p, k, none⟩ (fun _ => rfl) _)
/-- A struct that is stored into. -/
def stcThg (p : Nat) (t : TypeId) (zs us : List Value) : Thg := ⟨fun w => Stc w p t zs, onB p, fun T w => T = onB p ∧ Stc w p t us, fun _ _ _ h k ha => h.all k (ha p rfl), fun _ _ _ _ h k ha => ⟨h.1, h.2.all k (ha p (by rw [h.1]; rfl))⟩, fun _ h => onB_live h.lt, fun _ _ h => by rw [h.1]; exact onB_live h.2.lt⟩
section
variable {P : Program} {N : Nat} {F : Nat → Value} {w : World} {Q : Exit → (Nat → Value) → World → Prop}
def StepFT (S : Nat → Prop) (M : List (Nat × Nat)) (N : Nat) (P : Program) (D : List (Option Tmp)) (Gs : List Pt) (F0 : Nat → Value) (w0 : World) (i : Nat) (o : Oper) : Prop :=
  ∀ (F : Nat → Value) (w : World), Kept S w0 w → (∀ t, Nat.blt t N = true → some t ∉ D → F t = F0 t) → DepsF D (ToldT w0 Gs M) F w o.after.toList → (∀ k t x, (k = i ∨ (k, i) ∈ M) → Gs.getD k Pt.none = .thg t x → t.A w) →
    match o.guard with
    | none => Yields P (ev F) o w (LeftT Gs i w)
    | some (j, want) => ∃ d, D.getD j none = some d ∧
      ((F d = .bool want ∧ Yields P (ev F) o w (LeftT Gs i w)) ∨ ((F d = .bool (!want) ∨ F d = undef) ∧ Gs.getD i Pt.none = .eq undef))
def StepsFT (S : Nat → Prop) (M : List (Nat × Nat)) (N : Nat) (P : Program) (D : List (Option Tmp)) (Gs : List Pt) (F0 : Nat → Value) (w0 : World) : Nat → List Oper → Prop
  | _, [] => True
  | i, o :: r => StepFT S M N P D Gs F0 w0 i o ∧ StepsFT S M N P D Gs F0 w0 (i + 1) r
theorem stepsFT_nil {S : Nat → Prop} {M : List (Nat × Nat)} {D : List (Option Tmp)} {Gs : List Pt} {F0 : Nat → Value} {w0 : World} {i : Nat} : StepsFT S M N P D Gs F0 w0 i [] := trivial
theorem stepsFT_cons {S : Nat → Prop} {M : List (Nat × Nat)} {D : List (Option Tmp)} {Gs : List Pt} {F0 : Nat → Value} {w0 : World} {i : Nat} {o : Oper} {r : List Oper} (h : StepFT S M N P D Gs F0 w0 i o) (k : StepsFT S M N P D Gs F0 w0 (i + 1) r) : StepsFT S M N P D Gs F0 w0 i (o :: r) := ⟨h, k⟩
theorem StepFT.one {S : Nat → Prop} {M : List (Nat × Nat)} {D : List (Option Tmp)} {Gs : List Pt} {F0 : Nat → Value} {w0 : World} {i : Nat} {o : Oper} (hg : o.guard = none)
    (h : ∀ (F : Nat → Value) (w : World), Kept S w0 w → (∀ t, Nat.blt t N = true → some t ∉ D → F t = F0 t) → DepsF D (ToldT w0 Gs M) F w o.after.toList → Yields P (ev F) o w (LeftT Gs i w)) : StepFT S M N P D Gs F0 w0 i o := by
  intro F w h1 h2 h3 _
  rw [hg]; exact h F w h1 h2 h3
/-- What is turned later, by an operation that waits for this one, is as it was. -/
theorem StepFT.oneA {S : Nat → Prop} {M : List (Nat × Nat)} {D : List (Option Tmp)} {Gs : List Pt} {F0 : Nat → Value} {w0 : World} {i : Nat} {o : Oper} (hg : o.guard = none)
    (h : ∀ (F : Nat → Value) (w : World), Kept S w0 w → (∀ t, Nat.blt t N = true → some t ∉ D → F t = F0 t) → DepsF D (ToldT w0 Gs M) F w o.after.toList → (∀ k t x, (k, i) ∈ M → Gs.getD k Pt.none = .thg t x → t.A w) → Yields P (ev F) o w (LeftT Gs i w)) : StepFT S M N P D Gs F0 w0 i o := by
  intro F w h1 h2 h3 h4
  rw [hg]; exact h F w h1 h2 h3 (fun k t x hk => h4 k t x (.inr hk))
theorem StepFT.turn {S : Nat → Prop} {M : List (Nat × Nat)} {D : List (Option Tmp)} {Gs : List Pt} {F0 : Nat → Value} {w0 : World} {i : Nat} {t : Thg} {x : Value} {o : Oper} (hg : o.guard = none) (he : Gs.getD i Pt.none = .thg t x)
    (h : ∀ (F : Nat → Value) (w : World), Kept S w0 w → (∀ t, Nat.blt t N = true → some t ∉ D → F t = F0 t) → DepsF D (ToldT w0 Gs M) F w o.after.toList → t.A w → Yields P (ev F) o w (fun v w' => v = x ∧ Kept t.T w w' ∧ ∃ T', t.B T' w' ∧ Grew w t.T T')) : StepFT S M N P D Gs F0 w0 i o := by
  intro F w h1 h2 h3 h4
  rw [hg]
  refine (h F w h1 h2 h3 (h4 i t x (.inl rfl) he)).mono' fun v w' hx => ?_
  unfold LeftT; rw [he]; exact hx
theorem StepFT.when {S : Nat → Prop} {M : List (Nat × Nat)} {D : List (Option Tmp)} {Gs : List Pt} {F0 : Nat → Value} {w0 : World} {i : Nat} {o : Oper} (j : Nat) (want : Bool) (d : Tmp) (hg : o.guard = some (j, want)) (hd : D.getD j none = some d)
    (h : ∀ (F : Nat → Value) (w : World), Kept S w0 w → (∀ t, Nat.blt t N = true → some t ∉ D → F t = F0 t) → DepsF D (ToldT w0 Gs M) F w o.after.toList → F d = .bool want ∧ Yields P (ev F) o w (LeftT Gs i w)) : StepFT S M N P D Gs F0 w0 i o := by
  intro F w h1 h2 h3 _
  rw [hg]; exact ⟨d, hd, .inl (h F w h1 h2 h3)⟩
theorem StepFT.step {S : Nat → Prop} {M : List (Nat × Nat)} {os : List Oper} {D : List (Option Tmp)} {Gs : List Pt} {w0 : World} {i : Nat} {o : Oper} {a0 : Act} (hO : OldT S w0 Gs) (hmo : mustOk os M = true) (hio : os[i]? = some o) (ha : Fr N F a0) (h : StepFT S M N P D Gs F w0 i o) : StepJ os P D (fun L v w => ∃ Tf, JT S w0 Gs M L v Tf w) a0 i o := by
  rintro L v a w ⟨Tf, hJ⟩ hi hdone hout hhere _
  have hdeps : DepsF D (ToldT w0 Gs M) (fun t => a.tmps.getD t undef) w o.after.toList := by
    refine Deps.toF (Deps.mk fun e he hb d hd => ?_)
    have hl := hdone e he hb
    have hDe : D[e.on]? = some (some d) := by
      unfold List.getD at hd
      cases hq : D[e.on]? with
      | none => rw [hq] at hd; cases hd
      | some y => rw [hq] at hd; simp at hd; rw [hd]
    rw [hhere e.on d hl hDe, hJ.vals e.on hl]
    have key : ∀ c, L c = true → onT w0 Gs c w := fun c hc => by
      have ht := hJ.things c
      unfold onT
      unfold isT at ht
      cases e' : Gs.getD c Pt.none with
      | eq y => trivial
      | thg t y =>
        rw [e'] at ht
        simp only [hc, if_true] at ht
        exact ⟨_, ht, hJ.grew c t y e' hc⟩
    exact ⟨rfl, key _ hl, fun c hc => key c (hJ.clos _ _ hc hl)⟩
  have hM : ∀ k, (i, k) ∈ M → L k = true := fun k hk => by
    have := List.all_eq_true.1 hmo _ hk
    simp only [hio] at this
    obtain ⟨e, he, hb⟩ := List.any_eq_true.1 this
    simp only [Bool.and_eq_true, Bool.or_eq_true, beq_iff_eq] at hb
    have hl := hdone e he hb.1
    rcases hb.2 with h1 | h1
    · rw [← h1]; exact hl
    · exact hJ.clos _ _ (by simpa using h1) hl
  have h1 := h (fun t => a.tmps.getD t undef) w hJ.kept (fun t hb ht => by rw [← ha.at' t hb]; exact hout t ht) hdeps (fun k t x hk e => by
    have hLk : L k = false := by
      rcases hk with rfl | hk
      · exact hi
      · cases hL : L k with
        | false => rfl
        | true => have := hJ.clos k i hk hL; rw [hi] at this; cases this
    have := hJ.things k
    unfold isT at this
    rw [e] at this
    simpa [hLk] using this)
  rw [← eval_ev a] at h1
  unfold goes
  cases hg : o.guard with
  | none => rw [hg] at h1; exact ⟨fun _ => h1.mono' fun x w' hx => hJ.more hO hi hM hx, fun e => by cases e⟩
  | some g =>
    obtain ⟨j, want⟩ := g
    rw [hg] at h1
    obtain ⟨d, hd, h1⟩ := h1
    simp only [hd]
    have hev : a.eval (.tmp d) = a.tmps.getD d undef := rfl
    rcases h1 with ⟨hv, hy⟩ | ⟨hv, hs⟩
    · rw [hev, hv]; exact ⟨fun _ => hy.mono' fun x w' hx => hJ.more hO hi hM hx, fun e => by simp at e⟩
    · refine ⟨fun e => ?_, fun _ => hJ.more hO hi hM (by unfold LeftT; rw [hs]; exact ⟨rfl, Kept.refl _ _⟩)⟩
      rcases hv with hv | hv
      · rw [hev, hv] at e; cases want <;> simp at e
      · rw [hev, hv] at e; simp [undef] at e
theorem StepsFT.steps {S : Nat → Prop} {M : List (Nat × Nat)} {all : List Oper} {D : List (Option Tmp)} {Gs : List Pt} {w0 : World} {a0 : Act} (hO : OldT S w0 Gs) (hmo : mustOk all M = true) (ha : Fr N F a0) : ∀ {os : List Oper} {i : Nat}, (∀ k o, os[k]? = some o → all[i + k]? = some o) → StepsFT S M N P D Gs F w0 i os → StepsJ all P D (fun L v w => ∃ Tf, JT S w0 Gs M L v Tf w) a0 i os := by
  intro os
  induction os with
  | nil => intro i _ _; exact trivial
  | cons o r ih =>
    intro i hat h
    exact ⟨h.1.step hO hmo (hat 0 o rfl) ha, ih (fun k o' hk => by have := hat (k + 1) o' hk; rwa [show i + (k + 1) = i + 1 + k by omega] at this) h.2⟩
theorem wq_turns {S : Nat → Prop} {id : Nat} {ops : Array Oper} (M : List (Nat × Nat)) (D : List (Option Tmp)) (Gs : List Pt) (hm : P.follows .mixedOrders = true) (hpl : plain N 0 D ops.toList = true) (hmo : mustOk ops.toList M = true) (hsz : Gs.length = ops.size) (hO : OldT S w Gs) (hsteps : StepsFT S M N P D Gs F w 0 ops.toList)
    (hend : ∀ (v : Nat → Value) (Tf : Nat → Nat → Prop) (F' : Nat → Value) (w' : World), Kept S w w' → (∀ i, i < ops.size → v i = saysT (Gs.getD i Pt.none)) → (∀ i t x, Gs.getD i Pt.none = .thg t x → t.B (Tf i) w' ∧ Grew w t.T (Tf i)) → (∀ i j t x t' x', i ≠ j → Gs.getD i Pt.none = .thg t x → Gs.getD j Pt.none = .thg t' x' → Apart (Tf i) (Tf j)) → (∀ t, F' t = putsF v 0 D F t) → Q .normal F' w') : wq none P N (.region id ops true) Q F w := by
  intro a ha
  refine wpIn_wide.2 ?_
  refine wp_region_inv D (fun L v w' => ∃ Tf, JT S w Gs M L v Tf w') hm (by rw [ha.size]; exact hpl) ⟨fun _ => noB, (Kept.refl _ w).drew, fun _ e => (by cases e), fun i => ?_, fun _ _ _ _ e => (by cases e), hO.2, fun _ _ _ e => (by cases e)⟩ (hsteps.steps hO hmo ha (fun k o hk => by rw [Nat.zero_add]; exact hk)) fun L v w' ⟨Tf, hJ⟩ hL => ?_
  · unfold isT
    cases e : Gs.getD i Pt.none with
    | eq y => trivial
    | thg t y => exact t.stA w _ (fun _ => False) (hO.1 i t y e).2 (Kept.refl _ w).drew (fun _ _ z => z)
  · have hlt : ∀ i t x, Gs.getD i Pt.none = .thg t x → L i = true := fun i t x e => by
      refine hL i ?_
      rw [← hsz]
      rcases Nat.lt_or_ge i Gs.length with h' | h'
      · exact h'
      · have : Gs.getD i Pt.none = Pt.none := by simp [List.getD, List.getElem?_eq_none h']
        rw [this] at e; cases e
    refine ⟨putsF v 0 D F, putAll_fr v D 0 F a ha (plain_fits hpl), hend v Tf _ w' hJ.kept (fun i hi => hJ.vals i (hL i hi)) (fun i t x e => ?_) (fun i j t x t' x' hij e1 e2 => ?_) fun _ => rfl⟩
    · have := hJ.things i
      unfold isT at this
      rw [e] at this
      simp only [hlt i t x e, if_true] at this
      exact ⟨this, hJ.grew i t x e (hlt i t x e)⟩
    · have := hJ.apart i j hij
      unfold curT at this
      rw [e1, e2] at this
      simpa only [hlt i t x e1, hlt j t' x' e2, if_true] using this
end
end Go.Proofs.YtdcbabgcbkdlhaaDoor
set_option maxRecDepth 100000
namespace Go.Proofs.YtdcbabgcbkdlhaaDoor
open Go.RowKit

/-- Who holds the row: the latest of these operations (the latest first) that is listed. -/
def hold (L : Nat → Bool) (v : Nat → Value) (C : Nat → List Nat) (vI : Value) (lI : List Nat) : List Nat → Value × List Nat
  | [] => (vI, lI)
  | x :: r => if L x = true then (v x, C x) else hold L v C vI lI r

/-- They are listed in their order. -/
def Closed (L : Nat → Bool) : List Nat → Prop
  | [] => True
  | [_] => True
  | y :: x :: r => (L y = true → L x = true) ∧ Closed L (x :: r)

theorem Closed.later {L : Nat → Bool} : ∀ {ys : List Nat} {x : Nat} {r : List Nat}, Closed L (ys ++ x :: r) → L x = false → ∀ y ∈ ys, L y = false := by
  intro ys
  induction ys with
  | nil => intro x r _ _ y hy; cases hy
  | cons z zs ih =>
    intro x r h hx y hy
    have hrec : Closed L (zs ++ x :: r) := by
      cases zs with
      | nil => exact h.2
      | cons z' zs' => exact h.2
    have hzs := ih hrec hx
    rcases List.mem_cons.1 hy with rfl | hy
    · cases hz : L y with
      | false => rfl
      | true =>
        cases zs with
        | nil => have := h.1 hz; rw [hx] at this; cases this
        | cons z' zs' => have := h.1 hz; rw [hzs z' (by simp)] at this; cases this
    · exact hzs y hy

theorem hold_later {L : Nat → Bool} {v : Nat → Value} {C : Nat → List Nat} {vI : Value} {lI : List Nat} : ∀ {ys r : List Nat}, (∀ y ∈ ys, L y = false) → hold L v C vI lI (ys ++ r) = hold L v C vI lI r := by
  intro ys
  induction ys with
  | nil => intro r _; rfl
  | cons z zs ih =>
    intro r h
    simp only [List.cons_append, hold]
    rw [if_neg (by rw [h z (by simp)]; decide)]
    exact ih (fun y hy => h y (by simp [hy]))

theorem Closed.up {L : Nat → Bool} : ∀ {X : List Nat} {i : Nat}, Closed L X → (∀ ys x r, X = ys ++ i :: x :: r → L x = true) → Closed (upL L i) X := by
  intro X
  induction X with
  | nil => intro i _ _; exact trivial
  | cons y r ih =>
    intro i h hp
    cases r with
    | nil => exact trivial
    | cons x r =>
      refine ⟨fun hy => ?_, ih h.2 fun ys x' r' e => hp (y :: ys) x' r' (by rw [e]; rfl)⟩
      unfold upL at hy ⊢
      by_cases hx : x = i
      · rw [if_pos hx]
      · rw [if_neg hx]
        by_cases hyi : y = i
        · subst hyi; exact hp [] x r rfl
        · rw [if_neg hyi] at hy; exact h.1 hy

theorem Closed.up_other {L : Nat → Bool} {X : List Nat} {i : Nat} (h : Closed L X) (hi : i ∉ X) : Closed (upL L i) X :=
  h.up fun ys x r e => absurd (by rw [e]; simp) hi

theorem hold_up_other {L : Nat → Bool} {v : Nat → Value} {C : Nat → List Nat} {vI : Value} {lI : List Nat} {i : Nat} {x : Value} : ∀ {X : List Nat}, i ∉ X → hold (upL L i) (upV v i x) C vI lI X = hold L v C vI lI X := by
  intro X
  induction X with
  | nil => intro _; rfl
  | cons y r ih =>
    intro hi
    have hy : y ≠ i := fun e => hi (by simp [e])
    simp only [hold]
    rw [show upL L i y = L y from if_neg hy, show upV v i x y = v y from if_neg hy, ih (fun h => hi (by simp [h]))]

/-- The invariant. -/
def OwnJ (w0 : World) (S0 : Nat → Prop) (B : Nat) (vI : Value) (lI : List Nat) (X : List Nat) (C : Nat → List Nat) (G : Nat → Value → World → Prop) (L : Nat → Bool) (v : Nat → Value) (w : World) : Prop :=
  ∃ S : Nat → Prop, (∀ k, S k → k < w.heap.size) ∧ (∀ k, S k → S0 k ∨ w0.heap.size ≤ k) ∧ Kept S w0 w ∧ Closed L X ∧ (∀ j, L j = true → ∀ w', Kept S w w' → G j (v j) w') ∧
    Row w B (hold L v C vI lI X).1 (hold L v C vI lI X).2 ∧ (∀ g, (hold L v C vI lI X).1.ownBlock = some g → S g)

/-- What is asked of an operation that leaves the row alone. -/
theorem StepJ.other {os : List Oper} {P : Program} {D : List (Option Tmp)} {w0 : World} {S0 : Nat → Prop} {B : Nat} {vI : Value} {lI X : List Nat} {C : Nat → List Nat} {G : Nat → Value → World → Prop} {a0 : Act} {i : Nat} {o : Oper} (hi : i ∉ X)
    (h : ∀ (S : Nat → Prop) (a : Act) (w : World), (∀ k, S k → k < w.heap.size) → (∀ w', Kept S w w' → Kept S0 w0 w') → (∀ t, some t ∉ D → a.eval (.tmp t) = a0.eval (.tmp t)) → (∀ t, late os t i = true → a.eval (.tmp t) = a0.eval (.tmp t)) →
      Deps D (fun j x w => ∀ w', Kept S w w' → G j x w') a w o.after.toList → (∀ x, X.head? = some x → ∀ e ∈ o.after.toList, e.on = x → Region.binds .any e = true → ∀ d, D.getD x none = some d → Row w B (a.eval (.tmp d)) (C x)) →
      (goes D o a = true → Yields P a.eval o w (fun x w' => (∀ w'', Kept S w' w'' → G i x w'') ∧ Kept (fun _ => False) w w')) ∧ (goes D o a = false → ∀ w', Kept S w w' → G i undef w')) :
    StepJ os P D (OwnJ w0 S0 B vI lI X C G) a0 i o := by
  intro L v a w ⟨S, hlt, h0, hk, hcl, hg, hrow, hown⟩ hli hedges hout hhere hlate
  have hR : ∀ w', Kept S w w' → Kept S0 w0 w' := fun w' k => (hk.trans k (fun _ _ x => x)).mono (fun b hb hS => by
    rcases h0 b hS with h | h
    · exact h
    · omega)
  have hdeps : Deps D (fun j x w => ∀ w', Kept S w w' → G j x w') a w o.after.toList := Deps.mk fun e he hb d hd => by
    have hL := hedges e he hb
    have hDe : D[e.on]? = some (some d) := by
      cases hx : D[e.on]? with
      | none => simp [List.getD, hx] at hd
      | some y => simp [List.getD, hx] at hd; rw [hd]
    rw [hhere e.on d hL hDe]
    exact hg e.on hL
  have hr : ∀ x, X.head? = some x → ∀ e ∈ o.after.toList, e.on = x → Region.binds .any e = true → ∀ d, D.getD x none = some d → Row w B (a.eval (.tmp d)) (C x) := by
    intro x hx e he hex hb d hd
    subst hex
    have hL := hedges e he hb
    have hDe : D[e.on]? = some (some d) := by
      cases hx : D[e.on]? with
      | none => simp [List.getD, hx] at hd
      | some y => simp [List.getD, hx] at hd; rw [hd]
    rw [hhere e.on d hL hDe]
    cases X with
    | nil => cases hx
    | cons y r =>
      simp at hx
      subst hx
      simpa [hold, hL] using hrow
  obtain ⟨s1, s2⟩ := h S a w hlt hR hout hlate hdeps hr
  have fin : ∀ (x : Value) (w' : World), (∀ w'', Kept S w' w'' → G i x w'') → Kept (fun _ => False) w w' → OwnJ w0 S0 B vI lI X C G (upL L i) (upV v i x) w' := by
    intro x w' hG hkk
    refine ⟨S, fun k hS => Nat.lt_of_lt_of_le (hlt k hS) hkk.size, h0, hk.trans hkk (fun _ _ f => f.elim), hcl.up_other hi, fun j hj w'' k => ?_, ?_, ?_⟩
    · by_cases hji : j = i
      · subst hji; rw [show upV v j x j = x from if_pos rfl]; exact hG w'' k
      · rw [show upL L i j = L j from if_neg hji] at hj
        rw [show upV v i x j = v j from if_neg hji]
        exact hg j hj w'' ((hkk.mono (S' := S) (fun _ _ f => f.elim)).trans k (fun _ _ f => f))
    · rw [hold_up_other hi]; exact hrow.all hkk
    · rw [hold_up_other hi]; exact hown
  refine ⟨fun hgo => ?_, fun hgo => fin undef w (s2 hgo) (Kept.refl _ _)⟩
  have := s1 hgo
  revert this
  unfold Yields
  generalize (execOp a.eval o).run P w = r
  intro hh
  cases r with
  | ok n w' =>
    cases n <;> simp only at hh ⊢ <;> first
      | exact fin _ _ hh.1 hh.2
      | exact hh.elim
      | exact Calls.mono hh (fun e w'' ⟨y, he, hk⟩ => ⟨y, he, fin _ _ hk.1 hk.2⟩)
  | halt x w' => exact hh.elim

/-- Who held the row: the first of these, or whoever came with it. -/
def Prev (D : List (Option Tmp)) (C : Nat → List Nat) (vI : Value) (lI : List Nat) (a : Act) (p : Value) (lp : List Nat) : List Nat → Prop
  | [] => p = vI ∧ lp = lI
  | x :: _ => lp = C x ∧ ∀ d, D.getD x none = some d → p = a.eval (.tmp d)

/-- What is asked of an operation that takes the row on: p is who held it. -/
theorem StepJ.own {os : List Oper} {P : Program} {D : List (Option Tmp)} {w0 : World} {S0 : Nat → Prop} {B : Nat} {vI : Value} {lI X : List Nat} {C : Nat → List Nat} {G : Nat → Value → World → Prop} {a0 : Act} {i : Nat} {o : Oper} (ys r : List Nat) (hX : X = ys ++ i :: r) (hnd : i ∉ ys ∧ i ∉ r)
    (hr : ∀ x, r.head? = some x → ∃ e ∈ o.after.toList, e.on = x ∧ Region.binds .any e = true ∧ ∃ d, D.getD x none = some d) (hG : ∀ x w, G i x w)
    (h : ∀ (S : Nat → Prop) (a : Act) (w : World), (∀ k, S k → k < w.heap.size) → (∀ w', Kept S w w' → Kept S0 w0 w') → (∀ t, some t ∉ D → a.eval (.tmp t) = a0.eval (.tmp t)) → (∀ t, late os t i = true → a.eval (.tmp t) = a0.eval (.tmp t)) →
      Deps D (fun j x w => ∀ w', Kept S w w' → G j x w') a w o.after.toList → ∀ (p : Value) (lp : List Nat), Row w B p lp →
      Prev D C vI lI a p lp r →
      goes D o a = true ∧ Yields P a.eval o w (fun x w' => Row w' B x (C i) ∧ Kept (fun k => p.ownBlock = some k) w w' ∧ (x.ownBlock = p.ownBlock ∨ ∀ g, x.ownBlock = some g → w.heap.size ≤ g))) :
    StepJ os P D (OwnJ w0 S0 B vI lI X C G) a0 i o := by
  intro L v a w ⟨S, hlt, h0, hk, hcl, hg, hrow, hown⟩ hli hedges hout hhere hlate
  subst hX
  have hlater := hcl.later hli
  have hhold : hold L v C vI lI (ys ++ i :: r) = hold L v C vI lI r := by
    rw [hold_later hlater]
    show (if L i = true then (v i, C i) else hold L v C vI lI r) = hold L v C vI lI r
    rw [if_neg (by rw [hli]; decide)]
  rw [hhold] at hrow hown
  have hR : ∀ w', Kept S w w' → Kept S0 w0 w' := fun w' k => (hk.trans k (fun _ _ x => x)).mono (fun b hb hS => by
    rcases h0 b hS with h | h
    · exact h
    · omega)
  have hat : ∀ (j : Nat) (d : Tmp), D.getD j none = some d → D[j]? = some (some d) := by
    intro j d hd
    cases hx : D[j]? with
    | none => simp [List.getD, hx] at hd
    | some y => simp [List.getD, hx] at hd; rw [hd]
  have hdeps : Deps D (fun j x w => ∀ w', Kept S w w' → G j x w') a w o.after.toList := Deps.mk fun e he hb d hd => by
    have hL := hedges e he hb
    rw [hhere e.on d hL (hat e.on d hd)]
    exact hg e.on hL
  have hlx : ∀ x, r.head? = some x → L x = true := by
    intro x hx
    obtain ⟨e, he, rfl, hb, _⟩ := hr x hx
    exact hedges e he hb
  have hp : Prev D C vI lI a (hold L v C vI lI r).1 (hold L v C vI lI r).2 r := by
    clear hhold hrow hown hcl h
    cases r with
    | nil => exact ⟨rfl, rfl⟩
    | cons x r' =>
      have hL := hlx x rfl
      have e1 : hold L v C vI lI (x :: r') = (v x, C x) := by
        show (if L x = true then (v x, C x) else hold L v C vI lI r') = _
        rw [if_pos hL]
      refine ⟨by rw [e1], fun d hd => ?_⟩
      rw [e1, hhere x d hL (hat x d hd)]
  obtain ⟨hgo, hy⟩ := h S a w hlt hR hout hlate hdeps _ _ hrow hp
  generalize (hold L v C vI lI r).1 = p at *
  have fin : ∀ (x : Value) (w' : World), Row w' B x (C i) → Kept (fun k => p.ownBlock = some k) w w' → (x.ownBlock = p.ownBlock ∨ ∀ g, x.ownBlock = some g → w.heap.size ≤ g) → OwnJ w0 S0 B vI lI (ys ++ i :: r) C G (upL L i) (upV v i x) w' := by
    intro x w' hrx hkk hwh
    have hkS : Kept S w w' := hkk.mono (fun k _ e => hown k e)
    refine ⟨fun k => S k ∨ x.ownBlock = some k, ?_, ?_, ?_, ?_, ?_, ?_, ?_⟩
    · rintro k (hS | hx)
      · exact Nat.lt_of_lt_of_le (hlt k hS) hkk.size
      · exact (hrx.lt k hx).2
    · rintro k (hS | hx)
      · exact h0 k hS
      · rcases hwh with e | e
        · exact h0 k (hown k (by rw [← e]; exact hx))
        · exact .inr (Nat.le_trans hk.size (e k hx))
    · exact (hk.trans hkS (fun _ _ x => x)).mono (fun _ _ x => .inl x)
    · refine hcl.up fun ys' x' r' e => ?_
      -- the two ways to part the list are one
      have key : ∀ (zs ys' : List Nat) (x' : Nat) (r r' : List Nat), i ∉ zs → i ∉ ys' → zs ++ i :: r = ys' ++ i :: x' :: r' → r = x' :: r' := by
        intro zs
        induction zs with
        | nil =>
          intro ys' x' r r' _ hy e
          cases ys' with
          | nil => simpa using e
          | cons z zs => simp at e; exact absurd e.1 (fun h => hy (by simp [h]))
        | cons z zs ih =>
          intro ys' x' r r' hz hy e
          cases ys' with
          | nil => simp at e; exact absurd e.1.symm (fun h => hz (by simp [h]))
          | cons y ys'' => simp at e; exact ih ys'' x' r r' (fun h => hz (by simp [h])) (fun h => hy (by simp [h])) e.2
      have hin : i ∉ ys' := by
        intro hm
        have hc : (ys ++ i :: r).count i = 1 := by rw [List.count_append, List.count_eq_zero_of_not_mem hnd.1, List.count_cons_self, List.count_eq_zero_of_not_mem hnd.2]
        rw [e, List.count_append, List.count_cons_self] at hc
        have := List.count_pos_iff.2 hm
        omega
      have := key ys ys' x' r r' hnd.1 hin e
      subst this
      exact hlx x' rfl
    · intro j hj w'' k
      by_cases hji : j = i
      · subst hji; exact hG _ _
      · rw [show upL L i j = L j from if_neg hji] at hj
        rw [show upV v i x j = v j from if_neg hji]
        refine hg j hj w'' (hkS.trans k fun b hb hS => ?_)
        rcases hS with hS | hx
        · exact hS
        · rcases hwh with e | e
          · exact hown b (by rw [← e]; exact hx)
          · have := e b hx; omega
    · have e : hold (upL L i) (upV v i x) C vI lI (ys ++ i :: r) = (x, C i) := by
        rw [hold_later (fun y hym => by rw [show upL L i y = L y from if_neg (fun h : y = i => hnd.1 (by rw [← h]; exact hym))]; exact hlater y hym)]
        show (if upL L i i = true then (upV v i x i, C i) else _) = _
        rw [if_pos (show upL L i i = true from if_pos rfl), show upV v i x i = x from if_pos rfl]
      rw [e]; exact hrx
    · have e : hold (upL L i) (upV v i x) C vI lI (ys ++ i :: r) = (x, C i) := by
        rw [hold_later (fun y hym => by rw [show upL L i y = L y from if_neg (fun h : y = i => hnd.1 (by rw [← h]; exact hym))]; exact hlater y hym)]
        show (if upL L i i = true then (upV v i x i, C i) else _) = _
        rw [if_pos (show upL L i i = true from if_pos rfl), show upV v i x i = x from if_pos rfl]
      rw [e]
      intro g hgx
      exact .inr hgx
  refine ⟨fun _ => ?_, fun hno => ?_⟩
  · revert hy
    unfold Yields
    generalize (execOp a.eval o).run P w = res
    intro hh
    cases res with
    | ok n w' =>
      cases n <;> simp only at hh ⊢ <;> first
        | exact fin _ _ hh.1 hh.2.1 hh.2.2
        | exact hh.elim
        | exact Calls.mono hh (fun e w'' ⟨y, he, hk⟩ => ⟨y, he, fin _ _ hk.1 hk.2.1 hk.2.2⟩)
    | halt x w' => exact hh.elim
  · rw [hgo] at hno; cases hno


section
variable {os : List Oper} {P : Program} {D : List (Option Tmp)} {w0 : World} {S0 : Nat → Prop} {B : Nat} {vI : Value} {lI X : List Nat} {C : Nat → List Nat} {Gs : List Pd} {a0 : Act} {i : Nat} {o : Oper}

theorem StepJ.one (hi : i ∉ X) (hg : o.guard = none)
    (h : ∀ (S : Nat → Prop) (a : Act) (w : World), (∀ k, S k → k < w.heap.size) → (∀ w', Kept S w w' → Kept S0 w0 w') → (∀ t, some t ∉ D → a.eval (.tmp t) = a0.eval (.tmp t)) → (∀ t, late os t i = true → a.eval (.tmp t) = a0.eval (.tmp t)) →
      Deps D (fun j x w => ∀ w', Kept S w w' → Said Gs j x w') a w o.after.toList → (∀ x, X.head? = some x → ∀ e ∈ o.after.toList, e.on = x → Region.binds .any e = true → ∀ d, D.getD x none = some d → Row w B (a.eval (.tmp d)) (C x)) →
      Yields P a.eval o w (fun x w' => (∀ w'', Kept S w' w'' → Said Gs i x w'') ∧ Kept (fun _ => False) w w')) :
    StepJ os P D (OwnJ w0 S0 B vI lI X C (Said Gs)) a0 i o :=
  StepJ.other hi fun S a w hlt hR hout hlate hD hrow => ⟨fun _ => h S a w hlt hR hout hlate hD hrow, fun hno => by unfold goes at hno; rw [hg] at hno; cases hno⟩

theorem goes_of {a : Act} {j : Nat} {want : Bool} {d : Tmp} (hg : o.guard = some (j, want)) (hd : D.getD j none = some d) (h : a.eval (.tmp d) = .bool want) : goes D o a = true := by
  unfold goes
  rw [hg]
  simp only [hd, h]
  simp

theorem StepJ.when (hi : i ∉ X) (j : Nat) (want : Bool) (d : Tmp) (hg : o.guard = some (j, want)) (hd : D.getD j none = some d)
    (h : ∀ (S : Nat → Prop) (a : Act) (w : World), (∀ k, S k → k < w.heap.size) → (∀ w', Kept S w w' → Kept S0 w0 w') → (∀ t, some t ∉ D → a.eval (.tmp t) = a0.eval (.tmp t)) → (∀ t, late os t i = true → a.eval (.tmp t) = a0.eval (.tmp t)) →
      Deps D (fun j x w => ∀ w', Kept S w w' → Said Gs j x w') a w o.after.toList → (∀ x, X.head? = some x → ∀ e ∈ o.after.toList, e.on = x → Region.binds .any e = true → ∀ d, D.getD x none = some d → Row w B (a.eval (.tmp d)) (C x)) →
      a.eval (.tmp d) = .bool want ∧ Yields P a.eval o w (fun x w' => (∀ w'', Kept S w' w'' → Said Gs i x w'') ∧ Kept (fun _ => False) w w')) :
    StepJ os P D (OwnJ w0 S0 B vI lI X C (Said Gs)) a0 i o :=
  StepJ.other hi fun S a w hlt hR hout hlate hD hrow => by
    obtain ⟨h1, h2⟩ := h S a w hlt hR hout hlate hD hrow
    exact ⟨fun _ => h2, fun hno => by rw [goes_of hg hd h1] at hno; cases hno⟩

end

end Go.Proofs.YtdcbabgcbkdlhaaDoor
set_option maxRecDepth 100000
namespace Go.Proofs.YtdcbabgcbkdlhaaDoor
open Go.RowKit

/-- Bytes up to some place. -/
theorem BytesArg.upto {w : World} {v : Value} {l : List Nat} (h : BytesArg w v l) (j : Nat) (hj : j ≤ l.length) (k : IntKind) :
    ∃ v', (Instr.sliceAt 28 v none (some (.int k (j : Int))) none).run Tryd.prog w = .ok v' w ∧ BytesArg w v' (l.take j) := by
  obtain ⟨a, cap, rfl, h1, h2, h3, h256, hc⟩ := h
  have hb : ¬ cap < j := by omega
  have hb0 : BytesArg w (.slice a l.length cap) l := ⟨a, cap, rfl, h1, h2, h3, h256, hc⟩
  obtain ⟨i0, hi, hz0, hz1, hz2⟩ := info_parts Tryd.info_u8
  refine ⟨.slice a j cap, ?_, ?_⟩
  · cases a with
    | none => simp [Instr.sliceAt, Instr.slice, Instr.sliceBounds, Instr.sliceBound, asIntOf, run_underlying Tryd.underlying28, sizeOf, typeInfo, hi, hb]
    | some ad => simp [Instr.sliceAt, Instr.slice, Instr.sliceBounds, Instr.sliceBound, asIntOf, run_underlying Tryd.underlying28, sizeOf, typeInfo, hi, hb, Addr.add]
  · have := hb0.cut 0 j cap (Nat.zero_le _) hj (by omega) h2 a (fun _ => by cases a with | none => rfl | some ad => simp [Addr.add]) h3
    simpa using this

end Go.Proofs.YtdcbabgcbkdlhaaDoor
set_option maxRecDepth 100000
namespace Go.Proofs.YtdcbabgcbkdlhaaDoor
open Go.RowKit

def Owb (w : World) (T : Nat → Prop) (v : Value) (l : List Nat) : Prop := Row w 0 v l ∧ ∀ i, T i ↔ v.ownBlock = some i
theorem Owb.nil (w : World) : Owb w noB (.slice none 0 0) [] := ⟨Row.nil w 0, fun i => ⟨fun h => h.elim, fun h => by cases h⟩⟩
theorem Owb.live {w : World} {T : Nat → Prop} {v : Value} {l : List Nat} (h : Owb w T v l) : Live w T := fun i hi => (h.1.lt i ((h.2 i).1 hi)).2
theorem Owb.byt {w : World} {T : Nat → Prop} {v : Value} {l : List Nat} (h : Owb w T v l) : Byt w T v l := ⟨h.1.bytes, h.live, fun _ a n c e => (h.2 a.block).2 (by rw [e]; rfl)⟩
theorem Owb.all {S : Nat → Prop} {w w' : World} {T : Nat → Prop} {v : Value} {l : List Nat} (h : Owb w T v l) (k : Kept S w w') (ha : Apart T S) : Owb w' T v l := ⟨h.1.kept k (fun g hg => ha g ((h.2 g).2 hg)), h.2⟩
theorem Owb.one {w : World} {T : Nat → Prop} {v : Value} {l : List Nat} (h : Owb w T v l) : v.oneCell' = true := h.byt.one
theorem Owb.oneC {w : World} {T : Nat → Prop} {v : Value} {l : List Nat} (h : Owb w T v l) : oneC v = true := h.byt.oneC
theorem Owb.cells {w : World} {T : Nat → Prop} {v : Value} {l : List Nat} (h : Owb w T v l) : Cells w T := fun i hi => by
  have hv := (h.2 i).1 hi
  rcases h.1.1.2 with ⟨rfl, _⟩ | ⟨g, cap, cur, rfl, _, hg, _⟩
  · cases hv
  · cases hv; exact ⟨_, hg, rfl⟩
theorem Owb.row {A B : World} {row : Option Nat} {n : Nat} {T : Nat → Prop} {v : Value} {l : List Nat} (h : Owb A T v l) (hg : A.grownBy B row) (hr : RowNew n A row) : Owb B T v l := h.all (kept_row hg) (h.cells.apart hr)
theorem Owb.lt256 {w : World} {T : Nat → Prop} {v : Value} {l : List Nat} (h : Owb w T v l) : ∀ x ∈ l, x < 256 := h.1.2
theorem Byt.lt256 {w : World} {T : Nat → Prop} {v : Value} {l : List Nat} (h : Byt w T v l) : ∀ x ∈ l, x < 256 := h.1.lt256

def bytAddr (v : Value) (j : Nat) : Value := match v with
  | .slice (some a) _ _ => .pointer (some (a.add j))
  | _ => undef
section
variable {ρ : Operand → Value} {o : Oper} {w : World} {R : Value → World → Prop}
theorem Byt.at_ {w : World} {T : Nat → Prop} {v : Value} {l : List Nat} {j : Nat} (hb : Byt w T v l) (hj : j < l.length) : ∃ a, bytAddr v j = .pointer (some a) ∧ w.cell? a = some (.int .u8 (l.getD j 0 : Nat)) := by
  obtain ⟨⟨a, cap, rfl, _, _, _, _, hc⟩, _⟩ := hb
  obtain ⟨b, off, rfl, _, hcell⟩ := hc (by omega)
  exact ⟨⟨b, off + j, none⟩, by rw [bytAddr, Addr.add_lit], hcell j hj⟩
end

end Go.Proofs.YtdcbabgcbkdlhaaDoor
set_option maxRecDepth 100000
namespace Go.Proofs.YtdcbabgcbkdlhaaDoor
open Go.RowKit
/-- A frame that can be read. -/
def FrmV (w : World) (v : Value) (f : FD) : Prop := ∃ (a b c : Value) (Ta Tb Tc : Nat → Prop), v = .agg #[.int .i64 f.W, .int .i64 f.H, a, b, c] ∧ Owb w Ta a f.p0 ∧ Owb w Tb b f.p1 ∧ Owb w Tc c f.p2
theorem FrmV.all {w w' : World} {v : Value} {f : FD} (h : FrmV w v f) (k : Kept (fun _ => False) w w') : FrmV w' v f := by
  obtain ⟨a, b, c, Ta, Tb, Tc, e, h1, h2, h3⟩ := h
  exact ⟨a, b, c, Ta, Tb, Tc, e, h1.all k Apart.none, h2.all k Apart.none, h3.all k Apart.none⟩
theorem Stc.apart {w : World} {p : Nat} {t : TypeId} {vs : List Value} {T : Nat → Prop} {v : Value} {l : List Nat} (h : Stc w p t vs) (ho : Owb w T v l) (ht : t ≠ 5) : Apart (onB p) T := fun i hi hT => by
  cases hi
  have hv := (ho.2 _).1 hT
  rcases ho.1.1.2 with ⟨rfl, _⟩ | ⟨g, cap, cur, rfl, _, hg, _⟩
  · cases hv
  · cases hv
    have h' := h
    unfold Stc at h'
    rw [h'] at hg
    cases hg; exact ht rfl
end Go.Proofs.YtdcbabgcbkdlhaaDoor
set_option maxRecDepth 100000
namespace Go.Proofs.YtdcbabgcbkdlhaaDoor
open Go.RowKit

/-- A part of a slice of bytes: from l, up to h, its room up to m. -/
def subV (v : Value) (l h m : Nat) : Value := match v with
  | .slice a _ _ => .slice (if m = l then a else a.map (·.add l)) (h - l) (m - l)
  | _ => undef
def capV : Value → Nat
  | .slice _ _ c => c
  | _ => 0
theorem Byt.cap {w : World} {T : Nat → Prop} {v : Value} {l : List Nat} (h : Byt w T v l) : l.length ≤ capV v ∧ capV v ≤ maxLen := by
  obtain ⟨⟨a, cap, rfl, h1, h2, _⟩, _⟩ := h; exact ⟨h1, h2⟩
theorem Byt.sub {w : World} {T : Nat → Prop} {v : Value} {l : List Nat} (hb : Byt w T v l) {i j m : Nat} (h1 : i ≤ j) (h2 : j ≤ m) (h3 : j ≤ l.length) (h4 : m ≤ capV v) : Byt w T (subV v i j m) ((l.drop i).take (j - i)) := by
  have hc := hb.cap
  obtain ⟨hB, hL, hT⟩ := hb
  obtain ⟨a, cap, rfl, k1, k2, k3, k4, k5⟩ := hB
  have hB : BytesArg w (.slice a l.length cap) l := ⟨a, cap, rfl, k1, k2, k3, k4, k5⟩
  have hm : m ≤ cap := h4
  refine ⟨hB.cut i j (m - i) h1 h3 (by omega) (by omega) (if m = i then a else a.map (fun z : Addr => z.add i)) (fun hp => by rw [if_neg (by omega)]) (fun h0 => ?_), hL, fun hp a' n c e => ?_⟩
  · split at h0
    · omega
    · have : a = none := by cases a <;> simp_all
      have := k3 this; omega
  · have hlen : 0 < j - i := by
      have : ((l.drop i).take (j - i)).length = j - i := by simp; omega
      omega
    simp only [subV] at e
    rw [if_neg (by omega)] at e
    cases a with
    | none => simp at e
    | some a0 =>
      simp at e
      obtain ⟨e1, _, _⟩ := e
      have hblk : a'.block = a0.block := by rw [← e1]; unfold Addr.add; split <;> rfl
      rw [hblk]
      exact hT (by omega) a0 _ _ rfl
section
variable {ro : Option Nat} {N : Nat} {Q : (Exit → (Nat → Value) → World → Prop)} {F : Nat → Value} {w : World} {o : Oper}
end
end Go.Proofs.YtdcbabgcbkdlhaaDoor
set_option maxRecDepth 100000
namespace Go.Proofs.YtdcbabgcbkdlhaaDoor
open Go.RowKit



def arrV (p k : Nat) : Value := .slice (some (if 4 = k then ⟨p, 0, none⟩ else ⟨p, k, none⟩)) (4 - k) (4 - k)
theorem Stc.bytes {w : World} {p t : Nat} {a b c d : Nat} (h : Stc w p t [.int .u8 (a : Int), .int .u8 (b : Int), .int .u8 (c : Int), .int .u8 (d : Int)]) (ha : a < 256) (hb : b < 256) (hc : c < 256) (hd : d < 256) {k : Nat} (hk : k ≤ 4) : Byt w (onB p) (arrV p k) ([a, b, c, d].drop k) := by
  have hl : ([a, b, c, d].drop k).length = 4 - k := by simp
  refine ⟨⟨some (if 4 = k then ⟨p, 0, none⟩ else ⟨p, k, none⟩), 4 - k, by rw [hl]; rfl, by omega, Nat.le_trans (Nat.sub_le 4 k) (by decide), (fun e => by cases e), ?_, fun hp => ⟨p, k, by rw [if_neg (by omega)], h.lt, fun i hi => ?_⟩⟩, onB_live h.lt, fun _ a' n c' e => ?_⟩
  · intro x hx
    have := List.mem_of_mem_drop hx
    simp at this
    omega
  · rw [hl] at hi
    have hc := h.cell (i := k + i) (v := .int .u8 (([a, b, c, d].drop k).getD i 0 : Nat)) (by
      have : k = 0 ∨ k = 1 ∨ k = 2 ∨ k = 3 := by omega
      have hi4 : i = 0 ∨ i = 1 ∨ i = 2 ∨ i = 3 := by omega
      rcases this with rfl | rfl | rfl | rfl <;> rcases hi4 with rfl | rfl | rfl | rfl <;> first | rfl | omega)
    exact hc
  · unfold arrV at e
    simp only [Value.slice.injEq, Option.some.injEq] at e
    rw [← e.1]
    split <;> rfl

end Go.Proofs.YtdcbabgcbkdlhaaDoor
set_option maxRecDepth 100000
namespace Go.Proofs.YtdcbabgcbkdlhaaDoor
open Go.RowKit

theorem retB {a b : Bool} (h : a = b) : Ending.returned (.bool a) = .returned (.bool b) := by rw [h]
/-- A function that is asked with a number below n, in whatever world in which nothing that was there has changed. -/
def Ask1 (w : World) (n : Nat) (v : Value) (g : Nat → Int) : Prop :=
  ∃ (f : FuncId) (cs : List Value), v = .func (.func f) #[] cs.toArray ∧ (∀ args w, (callFunc f args).run Tryd.prog w = .ok (.enter f args) w) ∧
    ∀ w', Kept (fun _ => False) w w' → ∀ k : Nat, k < n → Calls Tryd.prog f (.int .i64 (k : Int) :: cs).toArray w' fun e w'' => e = .returned (.int .i64 (g k)) ∧ Kept (fun _ => False) w' w''
theorem Ask1.all {w w' : World} {n : Nat} {v : Value} {g : Nat → Int} (h : Ask1 w n v g) (k : Kept (fun _ => False) w w') : Ask1 w' n v g := by
  obtain ⟨f, cs, e, hf, h⟩ := h
  exact ⟨f, cs, e, hf, fun w2 k2 => h w2 (k.trans k2 (fun _ _ x => x))⟩
/-- .. with two. -/
def Ask2 (w : World) (n : Nat) (v : Value) (g : Nat → Nat → Int) : Prop :=
  ∃ (f : FuncId) (cs : List Value), v = .func (.func f) #[] cs.toArray ∧ (∀ args w, (callFunc f args).run Tryd.prog w = .ok (.enter f args) w) ∧
    ∀ w', Kept (fun _ => False) w w' → ∀ i k : Nat, i < n → k < n → Calls Tryd.prog f (.int .i64 (i : Int) :: .int .i64 (k : Int) :: cs).toArray w' fun e w'' => e = .returned (.int .i64 (g i k)) ∧ Kept (fun _ => False) w' w''
theorem Ask2.all {w w' : World} {n : Nat} {v : Value} {g : Nat → Nat → Int} (h : Ask2 w n v g) (k : Kept (fun _ => False) w w') : Ask2 w' n v g := by
  obtain ⟨f, cs, e, hf, h⟩ := h
  exact ⟨f, cs, e, hf, fun w2 k2 => h w2 (k.trans k2 (fun _ _ x => x))⟩
end Go.Proofs.YtdcbabgcbkdlhaaDoor
set_option maxRecDepth 100000
namespace Go.Proofs.YtdcbabgcbkdlhaaDoor
open Go.RowKit

theorem Arr.first {w : World} {p n : Nat} {t : TypeId} {b c : Nat → Int} (h : Arr w p t n b) : Arr w p t n (upto 0 b c) := by rw [upto_zero]; exact h
theorem Arr.next {w : World} {p n : Nat} {t : TypeId} {b c : Nat → Int} {k : Nat} {x : Int} (h : Arr w p t n (upd (upto k b c) k x)) (e : x = c k) : Arr w p t n (upto (k + 1) b c) := by rw [← upto_set, ← e]; exact h
theorem Arr.last {w : World} {p n : Nat} {t : TypeId} {b c : Nat → Int} (h : Arr w p t n (upto n b c)) : Arr w p t n c := h.congr (fun i hi => by simp [upto, hi])

/-- Four functions, one a mode. -/
def Fns (w : World) (v : Value) (g : Nat → Nat → Nat → Int) : Prop := ∃ c : Nat → Value, v = .agg #[c 0, c 1, c 2, c 3] ∧ ∀ m, m < 4 → Ask2 w 4 (c m) (g m)
theorem Fns.all {w w' : World} {v : Value} {g : Nat → Nat → Nat → Int} (h : Fns w v g) (k : Kept (fun _ => False) w w') : Fns w' v g := by
  obtain ⟨c, e, h⟩ := h; exact ⟨c, e, fun m hm => (h m hm).all k⟩
end Go.Proofs.YtdcbabgcbkdlhaaDoor
set_option maxRecDepth 100000
namespace Go.Proofs.YtdcbabgcbkdlhaaDoor
open Go.RowKit
theorem stcT_vector : StcT Tryd.prog 23 2 := ⟨_, Tryd.underlying23, rfl, by kernel_rfl⟩
end Go.Proofs.YtdcbabgcbkdlhaaDoor
set_option maxRecDepth 100000
namespace Go.Proofs.YtdcbabgcbkdlhaaDoor

def nx (a : Int) (k : Nat) : Int := a - 2 + ((k % 5 : Nat) : Int)
def ny (c : Int) (k : Nat) : Int := c - 2 + ((k / 5 : Nat) : Int)
end Go.Proofs.YtdcbabgcbkdlhaaDoor
set_option maxRecDepth 100000
namespace Go.Proofs.YtdcbabgcbkdlhaaDoor
open Go.RowKit

/-- What is said of an operation: what it answers; that it turns the block of operation j; that it makes a block that holds zs until operation k, and us from then on; that it turns a block that was there. -/
inductive Pc where
  | eq (v : Value)
  | turn (j : Nat)
  | blk (t : TypeId) (zs : List Value) (k : Nat) (us : List Value)
  | told (p : Nat) (t : TypeId) (zs us : List Value)
def Pc.none : Pc := .eq undef
def isBlk : Pc → Bool
  | .blk _ _ _ _ => true
  | _ => false
def HoldC (n0 : Nat) (p : Pc) (L : Nat → Bool) (v : Value) (w : World) : Prop := match p with
  | .eq x => v = x
  | .turn _ => True
  | .told _ _ _ _ => True
  | .blk t zs k us => ∃ q, v = .pointer (some ⟨q, 0, none⟩) ∧ n0 ≤ q ∧ Stc w q t (if L k = true then us else zs)
/-- The blocks that were there and are turned: they are there, and none is another one. -/
def NotTold (p : Nat) : List Pc → Prop
  | [] => True
  | .told q _ _ _ :: r => p ≠ q ∧ NotTold p r
  | .eq _ :: r => NotTold p r
  | .turn _ :: r => NotTold p r
  | .blk _ _ _ _ :: r => NotTold p r
def Olds (S : Nat → Prop) (w0 : World) : List Pc → Prop
  | [] => True
  | .told p t zs _ :: r => (S p ∧ Stc w0 p t zs ∧ NotTold p r) ∧ Olds S w0 r
  | .eq _ :: r => Olds S w0 r
  | .turn _ :: r => Olds S w0 r
  | .blk _ _ _ _ :: r => Olds S w0 r
theorem NotTold.at {p : Nat} : ∀ {Gs : List Pc}, NotTold p Gs → ∀ i q t zs us, Gs.getD i Pc.none = .told q t zs us → p ≠ q := by
  intro Gs
  induction Gs with
  | nil => intro _ i q t zs us h; cases h
  | cons g r ih =>
    intro h i q t zs us e
    cases i with
    | zero =>
      have e : g = .told q t zs us := by simpa using e
      subst e; exact h.1
    | succ i =>
      have e : r.getD i Pc.none = .told q t zs us := by simpa using e
      cases g <;> first | exact ih h.2 i q t zs us e | exact ih h i q t zs us e
theorem Olds.at {S : Nat → Prop} {w0 : World} : ∀ {Gs : List Pc}, Olds S w0 Gs → ∀ i p t zs us, Gs.getD i Pc.none = .told p t zs us → S p ∧ Stc w0 p t zs := by
  intro Gs
  induction Gs with
  | nil => intro _ i q t zs us h; cases h
  | cons g r ih =>
    intro h i q t zs us e
    cases i with
    | zero =>
      have e : g = .told q t zs us := by simpa using e
      subst e; exact ⟨h.1.1, h.1.2.1⟩
    | succ i =>
      have e : r.getD i Pc.none = .told q t zs us := by simpa using e
      cases g <;> first | exact ih h.2 i q t zs us e | exact ih h i q t zs us e
theorem Olds.ne {S : Nat → Prop} {w0 : World} : ∀ {Gs : List Pc}, Olds S w0 Gs → ∀ i j p t zs us p' t' zs' us', i ≠ j → Gs.getD i Pc.none = .told p t zs us → Gs.getD j Pc.none = .told p' t' zs' us' → p ≠ p' := by
  intro Gs
  induction Gs with
  | nil => intro _ i j p t zs us p' t' zs' us' _ h; cases h
  | cons g r ih =>
    intro h i j p t zs us p' t' zs' us' hij e1 e2
    cases i with
    | zero =>
      have e1 : g = .told p t zs us := by simpa using e1
      subst e1
      cases j with
      | zero => exact absurd rfl hij
      | succ j => exact h.1.2.2.at j p' t' zs' us' (by simpa using e2)
    | succ i =>
      cases j with
      | zero =>
        have e2 : g = .told p' t' zs' us' := by simpa using e2
        subst e2
        exact fun e => h.1.2.2.at i p t zs us (by simpa using e1) e.symm
      | succ j =>
        have hr : Olds S w0 r := by cases g <;> first | exact h.2 | exact h
        exact ih hr i j p t zs us p' t' zs' us' (fun e => hij (by rw [e])) (by simpa using e1) (by simpa using e2)
structure JC (S : Nat → Prop) (w0 : World) (Gs : List Pc) (L : Nat → Bool) (v : Nat → Value) (w : World) : Prop where
  kept : Kept S w0 w
  olds : ∀ i p t zs us, Gs.getD i Pc.none = .told p t zs us → Stc w p t (if L i = true then us else zs)
  holds : ∀ i, L i = true → HoldC w0.heap.size (Gs.getD i Pc.none) L (v i) w
  apart : ∀ i j, i ≠ j → L i = true → L j = true → isBlk (Gs.getD i Pc.none) = true → isBlk (Gs.getD j Pc.none) = true → v i ≠ v j
  clos : ∀ k j, L k = true → Gs.getD k Pc.none = .turn j → L j = true
/-- Each block is turned by one operation, that waits for it. -/
def wfAt (os : List Oper) (D : List (Option Tmp)) (Gs : List Pc) (i : Nat) : Pc → Bool
  | .eq _ => true
  | .told _ _ _ _ => true
  | .turn j => (match Gs.getD j Pc.none with | .blk _ _ k _ => k == i | _ => false) && (match D.getD j none with | some _ => true | none => false) && (match os[i]? with | some o => waitsOn o j | none => false)
  | .blk _ _ k _ => match Gs.getD k Pc.none with | .turn j => j == i | _ => false
def wfC (os : List Oper) (D : List (Option Tmp)) (Gs : List Pc) : Bool := (List.range Gs.length).all fun i => wfAt os D Gs i (Gs.getD i Pc.none)
theorem wfC_at {os : List Oper} {D : List (Option Tmp)} {Gs : List Pc} (h : wfC os D Gs = true) (i : Nat) : wfAt os D Gs i (Gs.getD i Pc.none) = true := by
  by_cases hi : i < Gs.length
  · exact List.all_eq_true.1 h i (List.mem_range.2 hi)
  · have : Gs.getD i Pc.none = Pc.none := by simp [List.getD, List.getElem?_eq_none (show Gs.length ≤ i by omega)]
    rw [this]; rfl
theorem wf_blk {os : List Oper} {D : List (Option Tmp)} {Gs : List Pc} (h : wfC os D Gs = true) {i k : Nat} {t : TypeId} {zs us : List Value} (e : Gs.getD i Pc.none = .blk t zs k us) : Gs.getD k Pc.none = .turn i := by
  have := wfC_at h i
  rw [e] at this
  simp only [wfAt] at this
  split at this
  · rename_i j hj; rw [hj]; have : j = i := by simpa using this
    rw [this]
  · cases this

/-- What is told to operation i of those that it waits for. -/
def ToldC (n0 : Nat) (Gs : List Pc) (i : Nat) : Nat → Value → World → Prop := fun j v w => match Gs.getD j Pc.none with
  | .eq x => v = x
  | .turn _ => True
  | .told _ _ _ _ => True
  | .blk t zs k _ => k = i → ∃ q, v = .pointer (some ⟨q, 0, none⟩) ∧ n0 ≤ q ∧ Stc w q t zs
def LeftC (Gs : List Pc) (D : List (Option Tmp)) (i : Nat) (ρ : Operand → Value) (w : World) (v : Value) (w' : World) : Prop := match Gs.getD i Pc.none with
  | .eq x => v = x ∧ Kept (fun _ => False) w w'
  | .blk t zs _ _ => ∃ q, v = .pointer (some ⟨q, 0, none⟩) ∧ w.heap.size ≤ q ∧ Stc w' q t zs ∧ Kept (fun _ => False) w w'
  | .told p t _ us => Stc w' p t us ∧ Kept (onB p) w w'
  | .turn j => ∃ d q, D.getD j none = some d ∧ ρ (.tmp d) = .pointer (some ⟨q, 0, none⟩) ∧ (∀ t zs us, Gs.getD j Pc.none = .blk t zs i us → Stc w' q t us) ∧ Kept (onB q) w w'
section
variable {P : Program} {N : Nat} {F : Nat → Value} {w : World} {Q : Exit → (Nat → Value) → World → Prop}
def StepFC (S : Nat → Prop) (N : Nat) (P : Program) (D : List (Option Tmp)) (Gs : List Pc) (F0 : Nat → Value) (w0 : World) (i : Nat) (o : Oper) : Prop :=
  ∀ (F : Nat → Value) (w : World), Kept S w0 w → (∀ t, Nat.blt t N = true → some t ∉ D → F t = F0 t) → DepsF D (ToldC w0.heap.size Gs i) F w o.after.toList → (∀ p t zs us, Gs.getD i Pc.none = .told p t zs us → Stc w p t zs) →
    match o.guard with
    | none => Yields P (ev F) o w (LeftC Gs D i (ev F) w)
    | some (j, want) => ∃ d, D.getD j none = some d ∧
      ((F d = .bool want ∧ Yields P (ev F) o w (LeftC Gs D i (ev F) w)) ∨ ((F d = .bool (!want) ∨ F d = undef) ∧ Gs.getD i Pc.none = .eq undef))
def StepsFC (S : Nat → Prop) (N : Nat) (P : Program) (D : List (Option Tmp)) (Gs : List Pc) (F0 : Nat → Value) (w0 : World) : Nat → List Oper → Prop
  | _, [] => True
  | i, o :: r => StepFC S N P D Gs F0 w0 i o ∧ StepsFC S N P D Gs F0 w0 (i + 1) r
theorem StepFC.one {S : Nat → Prop} {D : List (Option Tmp)} {Gs : List Pc} {F0 : Nat → Value} {w0 : World} {i : Nat} {o : Oper} (hg : o.guard = none)
    (h : ∀ (F : Nat → Value) (w : World), Kept S w0 w → (∀ t, Nat.blt t N = true → some t ∉ D → F t = F0 t) → DepsF D (ToldC w0.heap.size Gs i) F w o.after.toList → Yields P (ev F) o w (LeftC Gs D i (ev F) w)) : StepFC S N P D Gs F0 w0 i o := by
  intro F w h1 h2 h3 _
  rw [hg]
  exact h F w h1 h2 h3
theorem StepFC.old {S : Nat → Prop} {D : List (Option Tmp)} {Gs : List Pc} {F0 : Nat → Value} {w0 : World} {i p : Nat} {t : TypeId} {zs us : List Value} {o : Oper} (hg : o.guard = none) (he : Gs.getD i Pc.none = .told p t zs us)
    (h : ∀ (F : Nat → Value) (w : World), Kept S w0 w → (∀ t, Nat.blt t N = true → some t ∉ D → F t = F0 t) → DepsF D (ToldC w0.heap.size Gs i) F w o.after.toList → Stc w p t zs → Yields P (ev F) o w (fun _ w' => Stc w' p t us ∧ Kept (onB p) w w')) : StepFC S N P D Gs F0 w0 i o := by
  intro F w h1 h2 h3 h4
  rw [hg]
  refine (h F w h1 h2 h3 (h4 _ _ _ _ he)).mono' fun v w' hx => ?_
  unfold LeftC
  rw [he]; exact hx
theorem StepFC.when {S : Nat → Prop} {D : List (Option Tmp)} {Gs : List Pc} {F0 : Nat → Value} {w0 : World} {i : Nat} {o : Oper} (j : Nat) (want : Bool) (d : Tmp) (hg : o.guard = some (j, want)) (hd : D.getD j none = some d)
    (h : ∀ (F : Nat → Value) (w : World), Kept S w0 w → (∀ t, Nat.blt t N = true → some t ∉ D → F t = F0 t) → DepsF D (ToldC w0.heap.size Gs i) F w o.after.toList → F d = .bool want ∧ Yields P (ev F) o w (LeftC Gs D i (ev F) w)) : StepFC S N P D Gs F0 w0 i o := by
  intro F w h1 h2 h3 _
  rw [hg]
  exact ⟨d, hd, .inl (h F w h1 h2 h3)⟩
theorem upL_here {L : Nat → Bool} {i : Nat} : upL L i i = true := if_pos rfl
theorem upL_ne {L : Nat → Bool} {i j : Nat} (h : j ≠ i) : upL L i j = L j := if_neg h
theorem upV_here {v : Nat → Value} {i : Nat} {x : Value} : upV v i x i = x := if_pos rfl
theorem upV_ne {v : Nat → Value} {i j : Nat} {x : Value} (h : j ≠ i) : upV v i x j = v j := if_neg h
theorem getElem_getD {α : Type} {l : List α} {d x : α} {i : Nat} (h : l.getD i d = x) (hn : x ≠ d) : l[i]? = some x := by
  unfold List.getD at h
  cases hq : l[i]? with
  | none => rw [hq] at h; exact absurd h.symm hn
  | some y => rw [hq] at h; simpa using h

/-- One more operation that is no turn. -/
theorem JC.more {S : Nat → Prop} {os : List Oper} {D : List (Option Tmp)} {Gs : List Pc} {w0 w w' : World} {L : Nat → Bool} {v : Nat → Value} {i : Nat} {x : Value} (hwf : wfC os D Gs = true) (h : JC S w0 Gs L v w) (hi : L i = false) (k : Kept (fun _ => False) w w')
    (hnt : ∀ j, Gs.getD i Pc.none ≠ .turn j) (hnd : ∀ p t zs us, Gs.getD i Pc.none ≠ .told p t zs us) (hx : HoldC w0.heap.size (Gs.getD i Pc.none) (upL L i) x w') (hb : isBlk (Gs.getD i Pc.none) = true → ∃ q, x = .pointer (some ⟨q, 0, none⟩) ∧ w.heap.size ≤ q) : JC S w0 Gs (upL L i) (upV v i x) w' := by
  have hkeep : ∀ j, L j = true → HoldC w0.heap.size (Gs.getD j Pc.none) (upL L i) (v j) w' := by
    intro j hj
    have := h.holds j hj
    revert this
    cases e : Gs.getD j Pc.none with
    | eq y => exact id
    | turn y => exact id
    | told y1 y2 y3 y4 => exact id
    | blk t zs kk us =>
      rintro ⟨q, e1, e2, e3⟩
      have hki : kk ≠ i := fun e' => hnt j (by rw [← e']; exact wf_blk hwf e)
      refine ⟨q, e1, e2, ?_⟩
      rw [upL_ne hki]
      exact e3.all k id
  refine ⟨h.kept.trans k (fun _ _ x => x.elim), fun j p t zs us hj => ?_, fun j hj => ?_, fun a b hab ha hb' hA hB => ?_, fun a b ha hab => ?_⟩
  · have hji : j ≠ i := fun e => hnd p t zs us (by rw [← e]; exact hj)
    rw [upL_ne hji]
    exact (h.olds j p t zs us hj).all k id
  · by_cases hji : j = i
    · subst hji; rw [upV_here]; exact hx
    · rw [upL_ne hji] at hj; rw [upV_ne hji]; exact hkeep j hj
  · have hnew : ∀ c, c ≠ i → L c = true → isBlk (Gs.getD c Pc.none) = true → isBlk (Gs.getD i Pc.none) = true → v c ≠ x := by
      intro c _ hc hC hI e
      obtain ⟨q, e1, e2⟩ := hb hI
      have := h.holds c hc
      revert this hC
      cases e' : Gs.getD c Pc.none with
      | eq y => intro hC; cases hC
      | turn y => intro hC; cases hC
      | told y1 y2 y3 y4 => intro hC; cases hC
      | blk t zs kk us =>
        rintro - ⟨q', f1, f2, f3⟩
        rw [f1, e1] at e
        cases e
        have := f3.lt
        omega
    by_cases hai : a = i
    · subst hai
      have hba : b ≠ a := fun e => hab e.symm
      rw [upL_ne hba] at hb'
      rw [upV_here, upV_ne hba]
      exact fun e => hnew b hba hb' hB hA e.symm
    · rw [upL_ne hai] at ha
      rw [upV_ne hai]
      by_cases hbi : b = i
      · subst hbi; rw [upV_here]; exact hnew a hai ha hA hB
      · rw [upL_ne hbi] at hb'; rw [upV_ne hbi]; exact h.apart a b hab ha hb' hA hB
  · by_cases hai : a = i
    · subst hai; exact absurd hab (hnt b)
    · rw [upL_ne hai] at ha
      have := h.clos a b ha hab
      by_cases hbi : b = i
      · subst hbi; exact upL_here
      · rw [upL_ne hbi]; exact this
/-- One more turn. -/
theorem JC.turned {S : Nat → Prop} {os : List Oper} {D : List (Option Tmp)} {Gs : List Pc} {w0 w w' : World} {L : Nat → Bool} {v : Nat → Value} {i j q : Nat} {x : Value} (hwf : wfC os D Gs = true) (hO : Olds S w0 Gs) (h : JC S w0 Gs L v w) (hi : L i = false) (hj : L j = true) (he : Gs.getD i Pc.none = .turn j)
    (hv : v j = .pointer (some ⟨q, 0, none⟩)) (hq : ∀ t zs us, Gs.getD j Pc.none = .blk t zs i us → Stc w' q t us) (k : Kept (onB q) w w') : JC S w0 Gs (upL L i) (upV v i x) w' := by
  have hw := wfC_at hwf i
  rw [he] at hw
  simp only [wfAt, Bool.and_eq_true] at hw
  have hn0 : w0.heap.size ≤ q := by
    have := h.holds j hj
    revert this
    obtain ⟨⟨h1, _⟩, _⟩ := hw
    cases e : Gs.getD j Pc.none with
    | eq y => rw [e] at h1; cases h1
    | turn y => rw [e] at h1; cases h1
    | told y1 y2 y3 y4 => rw [e] at h1; cases h1
    | blk t zs kk us =>
      rintro ⟨q', e1, e2, _⟩
      rw [hv] at e1; cases e1; exact e2
  have hjB : isBlk (Gs.getD j Pc.none) = true := by
    obtain ⟨⟨h1, _⟩, _⟩ := hw
    cases e : Gs.getD j Pc.none with
    | eq y => rw [e] at h1; cases h1
    | turn y => rw [e] at h1; cases h1
    | told y1 y2 y3 y4 => rw [e] at h1; cases h1
    | blk t zs kk us => rfl
  refine ⟨h.kept.trans k (fun b hb e => by cases e; omega), fun a p t zs us ha => ?_, fun a ha => ?_, fun a b hab ha hb hA hB => ?_, fun a b ha hab => ?_⟩
  · have hai : a ≠ i := fun e => by rw [e, he] at ha; cases ha
    rw [upL_ne hai]
    exact (h.olds a p t zs us ha).all k (fun e => by have := (hO.at a p t zs us ha).2.lt; rw [show p = q from e] at this; omega)
  · by_cases hai : a = i
    · subst hai; rw [upV_here, he]; exact trivial
    · rw [upL_ne hai] at ha; rw [upV_ne hai]
      have := h.holds a ha
      revert this
      cases e : Gs.getD a Pc.none with
      | eq y => exact id
      | turn y => exact id
      | told y1 y2 y3 y4 => exact id
      | blk t zs kk us =>
        rintro ⟨q', e1, e2, e3⟩
        have hk := wf_blk hwf e
        by_cases haj : a = j
        · subst haj
          have hki : kk = i := by
            obtain ⟨⟨h1, _⟩, _⟩ := hw
            rw [e] at h1; simpa using h1
          subst hki
          rw [hv] at e1; cases e1
          refine ⟨q, hv, hn0, ?_⟩
          rw [if_pos upL_here]
          exact hq t zs us e
        · have hki : kk ≠ i := fun e' => by rw [e', he] at hk; cases hk; exact haj rfl
          refine ⟨q', e1, e2, ?_⟩
          rw [upL_ne hki]
          refine e3.all k (fun e' => ?_)
          have := h.apart a j haj ha hj (by rw [e]; rfl) hjB
          rw [e1, hv] at this
          exact this (by rw [show q' = q from e'])
  · have hni : ∀ c, isBlk (Gs.getD c Pc.none) = true → c ≠ i := fun c hc e => by rw [e, he] at hc; cases hc
    rw [upV_ne (hni a hA), upV_ne (hni b hB)]
    rw [upL_ne (hni a hA)] at ha
    rw [upL_ne (hni b hB)] at hb
    exact h.apart a b hab ha hb hA hB
  · by_cases hai : a = i
    · subst hai
      rw [he] at hab; cases hab
      by_cases hji : j = a
      · subst hji; exact upL_here
      · rw [upL_ne hji]; exact hj
    · rw [upL_ne hai] at ha
      have := h.clos a b ha hab
      by_cases hbi : b = i
      · subst hbi; exact upL_here
      · rw [upL_ne hbi]; exact this

/-- One more turn of a block that was there. -/
theorem JC.oldTurned {S : Nat → Prop} {os : List Oper} {D : List (Option Tmp)} {Gs : List Pc} {w0 w w' : World} {L : Nat → Bool} {v : Nat → Value} {i p : Nat} {t : TypeId} {zs us : List Value} {x : Value} (hwf : wfC os D Gs = true) (hO : Olds S w0 Gs) (h : JC S w0 Gs L v w) (he : Gs.getD i Pc.none = .told p t zs us)
    (hq : Stc w' p t us) (k : Kept (onB p) w w') : JC S w0 Gs (upL L i) (upV v i x) w' := by
  have hp := hO.at i p t zs us he
  have hni : ∀ c, isBlk (Gs.getD c Pc.none) = true → c ≠ i := fun c hc e => by rw [e, he] at hc; cases hc
  refine ⟨h.kept.trans k (fun b hb e => by cases e; exact hp.1), fun a p' t' zs' us' ha => ?_, fun a ha => ?_, fun a b hab ha hb hA hB => ?_, fun a b ha hab => ?_⟩
  · by_cases hai : a = i
    · subst hai
      rw [he] at ha; cases ha
      rw [if_pos upL_here]; exact hq
    · rw [upL_ne hai]
      exact (h.olds a p' t' zs' us' ha).all k (fun e => hO.ne a i p' t' zs' us' p t zs us hai ha he e)
  · by_cases hai : a = i
    · subst hai; rw [upV_here, he]; exact trivial
    · rw [upL_ne hai] at ha; rw [upV_ne hai]
      have := h.holds a ha
      revert this
      cases e : Gs.getD a Pc.none with
      | eq y => exact id
      | turn y => exact id
      | told y1 y2 y3 y4 => exact id
      | blk t zs kk us =>
        rintro ⟨q', e1, e2, e3⟩
        have hk := wf_blk hwf e
        have hki : kk ≠ i := fun e' => by rw [e', he] at hk; cases hk
        refine ⟨q', e1, e2, ?_⟩
        rw [upL_ne hki]
        exact e3.all k (fun e' => by have := hp.2.lt; rw [show q' = p from e'] at e2; omega)
  · rw [upV_ne (hni a hA), upV_ne (hni b hB)]
    rw [upL_ne (hni a hA)] at ha
    rw [upL_ne (hni b hB)] at hb
    exact h.apart a b hab ha hb hA hB
  · have hai : a ≠ i := fun e => by rw [e, he] at hab; cases hab
    rw [upL_ne hai] at ha
    have := h.clos a b ha hab
    by_cases hbi : b = i
    · subst hbi; exact upL_here
    · rw [upL_ne hbi]; exact this

theorem StepFC.step {S : Nat → Prop} {os : List Oper} {D : List (Option Tmp)} {Gs : List Pc} {w0 : World} {i : Nat} {o : Oper} {a0 : Act} (hwf : wfC os D Gs = true) (hO : Olds S w0 Gs) (ho : os[i]? = some o) (ha : Fr N F a0) (h : StepFC S N P D Gs F w0 i o) : StepJ os P D (JC S w0 Gs) a0 i o := by
  intro L v a w hJ hi hdone hout hhere _
  have hdeps : DepsF D (ToldC w0.heap.size Gs i) (fun t => a.tmps.getD t undef) w o.after.toList := by
    refine Deps.toF (Deps.mk fun e he hb d hd => ?_)
    have hl := hdone e he hb
    have hDe := getElem_getD hd (by simp)
    have hv := hhere e.on d hl hDe
    rw [hv]
    have := hJ.holds e.on hl
    unfold ToldC
    revert this
    cases e' : Gs.getD e.on Pc.none with
    | eq y => exact id
    | turn y => exact id
    | told y1 y2 y3 y4 => exact id
    | blk t zs kk us =>
      rintro ⟨q, e1, e2, e3⟩ hk
      refine ⟨q, e1, e2, ?_⟩
      subst hk
      rw [hi, if_neg (by simp)] at e3
      exact e3
  have h1 := h (fun t => a.tmps.getD t undef) w hJ.kept (fun t hb ht => by rw [← ha.at' t hb]; exact hout t ht) hdeps (fun p t zs us e => by have := hJ.olds i p t zs us e; rw [hi, if_neg (by simp)] at this; exact this)
  rw [← eval_ev a] at h1
  have hleft : ∀ x w', LeftC Gs D i a.eval w x w' → JC S w0 Gs (upL L i) (upV v i x) w' := by
    intro x w' hx
    unfold LeftC at hx
    cases e : Gs.getD i Pc.none with
    | eq y =>
      rw [e] at hx
      exact hJ.more hwf hi hx.2 (fun j hj => by rw [e] at hj; cases hj) (fun _ _ _ _ hj => by rw [e] at hj; cases hj) (by rw [e]; exact hx.1) (by rw [e]; intro hb; cases hb)
    | blk t zs kk us =>
      rw [e] at hx
      obtain ⟨q, e1, e2, e3, e4⟩ := hx
      have hk := wf_blk hwf e
      have hki : kk ≠ i := fun e' => by rw [e', e] at hk; cases hk
      have hLk : L kk = false := by
        cases hq : L kk with
        | false => rfl
        | true => have := hJ.clos kk i hq hk; rw [hi] at this; cases this
      refine hJ.more hwf hi e4 (fun j hj => by rw [e] at hj; cases hj) (fun _ _ _ _ hj => by rw [e] at hj; cases hj) ?_ (fun _ => ⟨q, e1, e2⟩)
      rw [e]
      refine ⟨q, e1, Nat.le_trans hJ.kept.size e2, ?_⟩
      rw [upL_ne hki, hLk, if_neg (by simp)]
      exact e3
    | told p t zs us =>
      rw [e] at hx
      exact hJ.oldTurned hwf hO e hx.1 hx.2
    | turn j =>
      rw [e] at hx
      obtain ⟨d, q, hd, e1, e2, e3⟩ := hx
      have hw := wfC_at hwf i
      rw [e] at hw
      simp only [wfAt, Bool.and_eq_true, ho] at hw
      obtain ⟨ed, hed, hb, hon⟩ := waitsOn_iff.1 hw.2
      have hLj := hdone ed hed hb
      rw [hon] at hLj
      have hv := hhere j d hLj (getElem_getD hd (by simp))
      exact hJ.turned hwf hO hi hLj e (by rw [← hv]; exact e1) e2 e3
  unfold goes
  cases hg : o.guard with
  | none => rw [hg] at h1; exact ⟨fun _ => h1.mono' hleft, fun e => by cases e⟩
  | some g =>
    obtain ⟨j, want⟩ := g
    rw [hg] at h1
    obtain ⟨d, hd, h1⟩ := h1
    simp only [hd]
    have hev : a.eval (.tmp d) = a.tmps.getD d undef := rfl
    rcases h1 with ⟨hv, hy⟩ | ⟨hv, hs⟩
    · rw [hev, hv]; exact ⟨fun _ => hy.mono' hleft, fun e => by simp at e⟩
    · refine ⟨fun e => ?_, fun _ => hJ.more hwf hi (Kept.refl _ _) (fun j hj => by rw [hs] at hj; cases hj) (fun _ _ _ _ hj => by rw [hs] at hj; cases hj) (by rw [hs]; rfl) (by rw [hs]; intro hb; cases hb)⟩
      rcases hv with hv | hv
      · rw [hev, hv] at e; cases want <;> simp at e
      · rw [hev, hv] at e; simp [undef] at e
theorem StepsFC.steps {S : Nat → Prop} {all : List Oper} {D : List (Option Tmp)} {Gs : List Pc} {w0 : World} {a0 : Act} (hwf : wfC all D Gs = true) (hO : Olds S w0 Gs) (ha : Fr N F a0) : ∀ {os : List Oper} {i : Nat}, (∀ k o, os[k]? = some o → all[i + k]? = some o) → StepsFC S N P D Gs F w0 i os → StepsJ all P D (JC S w0 Gs) a0 i os := by
  intro os
  induction os with
  | nil => intro i _ _; exact trivial
  | cons o r ih =>
    intro i hat h
    exact ⟨h.1.step hwf hO (hat 0 o rfl) ha, ih (fun k o' hk => by have := hat (k + 1) o' hk; rwa [show i + (k + 1) = i + 1 + k by omega] at this) h.2⟩
end
end Go.Proofs.YtdcbabgcbkdlhaaDoor
set_option maxRecDepth 100000
namespace Go.Proofs.YtdcbabgcbkdlhaaDoor
open Go.RowKit

def sameVec (a b c d : Int) : Bool := decide (a = c) && decide (b = d)
theorem Tryd.vecFields : (Tryd.prog.fieldsOf 23).toList.map (fun f => (f.name, f.type, f.offset)) = [("X", 3, 0), ("Y", 3, 1)] := by kernel_rfl
theorem part_int (w : World) (xs : Array Value) (i : Nat) (z : Int) (h : xs[i]? = some (.int .i64 z)) : (part 3 xs i).run Tryd.prog w = .ok (.int .i64 z) w := by
  simp [part, isAgg, run_underlying Tryd.underlying3, h]
theorem run_same_vec (w : World) (a b c d : Int) : (Op.equalIn 10000 23 (.agg #[.int .i64 a, .int .i64 b]) (.agg #[.int .i64 c, .int .i64 d])).run Tryd.prog w = .ok (sameVec a b c d) w := by
  rw [run_equalIn_struct w 9999 _ _ _ (by kernel_rfl) (by kernel_rfl)]
  have hf := Tryd.vecFields
  generalize (Tryd.prog.fieldsOf 23).toList = fs at hf
  have hlen : fs.length = 2 := by simpa using congrArg List.length hf
  have p1 := part_int w #[.int .i64 a, .int .i64 b] 0 a rfl
  have p2 := part_int w #[.int .i64 c, .int .i64 d] 0 c rfl
  have p3 := part_int w #[.int .i64 a, .int .i64 b] 1 b rfl
  have p4 := part_int w #[.int .i64 c, .int .i64 d] 1 d rfl
  match fs, hlen with
  | [f0, f1], _ =>
    simp only [List.map_cons, List.map_nil, List.cons.injEq, Prod.mk.injEq, and_true] at hf
    obtain ⟨⟨n0, t0, o0⟩, ⟨n1, t1, o1⟩⟩ := hf
    simp only [Op.eqFields, n0, t0, o0, n1, t1, o1]
    rw [if_pos (by decide), if_pos (by decide)]
    simp only [Sem.run_bind, p1, p2, Result.andThen_ok, run_equalIn_int w 9998 3 .i64 .i64 _ _ Tryd.underlying3]
    unfold sameVec
    by_cases h1 : a = c
    · subst h1
      simp only [beq_self_eq_true, Bool.not_true, Bool.false_eq_true, if_false, Sem.run_bind, p3, p4, Result.andThen_ok, run_equalIn_int w 9998 3 .i64 .i64 _ _ Tryd.underlying3]
      by_cases h2 : b = d
      · subst h2; simp
      · have : (b == d) = false := by simpa using h2
        simp [this, h2]
    · have : (a == c) = false := by simpa using h1
      simp [this, h1]
theorem Tryd.guard_vec : Tryd.prog.eqGuardType Tryd.prog.depth 23 = false := by kernel_rfl
section
variable {ρ : Operand → Value} {o : Oper} {w : World} {R : Value → World → Prop}
theorem y_eqlVec {t' : TypeId} {x y : Operand} {a b c d : Int} {q : Bool} (ho : o.op = .binOp .eql 23 x y t') (hx : ρ x = .agg #[.int .i64 a, .int .i64 b]) (hy : ρ y = .agg #[.int .i64 c, .int .i64 d]) (hr : sameVec a b c d = q) (h : R (.bool q) w) : Yields Tryd.prog ρ o w R :=
  y_of (v := .bool (sameVec a b c d)) (w' := w) (by simp only [execOp, ho, hx, hy, Sem.run_bind, run_eqGuard_agg w .eql _ _ _ _ _ Tryd.guard_vec, run_eql_struct, run_same_vec, Result.andThen_ok, Sem.run_pure]) (by rw [hr]; exact h)
end

def Cin (w : World) (T : Nat → Prop) (p : Nat) (n : Int) : Prop := T = onB p ∧ Cel w p 3 (.int .i64 n)
theorem Cin.live {w : World} {T : Nat → Prop} {p : Nat} {n : Int} (h : Cin w T p n) : Live w T := by
  obtain ⟨rfl, h⟩ := h; exact onB_live h.lt
theorem Cin.all {S : Nat → Prop} {w w' : World} {T : Nat → Prop} {p : Nat} {n : Int} (h : Cin w T p n) (k : Kept S w w') (ha : Apart T S) : Cin w' T p n := by
  obtain ⟨rfl, h⟩ := h; exact ⟨rfl, h.all k (ha p rfl)⟩
theorem Cin.cells {w : World} {T : Nat → Prop} {p : Nat} {n : Int} (h : Cin w T p n) : Cells w T := by
  obtain ⟨rfl, h⟩ := h; exact h.cells
theorem Cin.row {A B : World} {row : Option Nat} {m p : Nat} {T : Nat → Prop} {n : Int} (h : Cin A T p n) (hg : A.grownBy B row) (hr : RowNew m A row) : Cin B T p n := h.all (kept_row hg) (h.cells.apart hr)

set_option maxHeartbeats 4000000 in
set_option maxRecDepth 100000 in
theorem mo_mayGo (n : Int) (w0 : World) :
  Calls Tryd.prog 89 #[.int .i64 (n)] w0 fun e w' => e = .returned (.bool (decide (-31 ≤ n ∧ n ≤ 31))) ∧ Kept (fun _ => False) w0 w' := by
 refine calls_wq (args := [.int .i64 (n)]) 9 Tryd.func89 rfl rfl (Nat.le_of_ble_eq_true rfl) ?_
 have K0 := Kept.refl (fun _ => False) w0
 refine wq_seq ?_
 refine wq_region ?_
 refine wl_v (.bool false) rfl rfl (y_asg rfl rfl ⟨rfl, rfl⟩) ?_
 refine wl_nil fun F1 hF2 => ?_
 have s3 : F1 0 = .int .i64 (n) := (hF2 0).trans rfl
 have s4 : F1 9 = undef := (hF2 9).trans rfl
 clear hF2
 refine then_normal ?_
 refine wq_seq ?_
 by_cases d5 : (-31) ≤ (n)
 ·skip
  refine wq_region ?_
  refine wl_v (.int .i64 (n)) rfl rfl (y_mov rfl s3 ⟨rfl, rfl⟩) ?_
  refine wl_v (.bool true) rfl rfl (y_geq rfl rfl rfl (decide_eq_true d5) ⟨rfl, rfl⟩) ?_
  refine wl_v (.bool true) rfl rfl (y_mov rfl rfl ⟨rfl, rfl⟩) ?_
  refine wl_vw (.int .i64 (n)) 2 true 5 rfl rfl rfl rfl rfl (y_mov rfl s3 ⟨rfl, rfl⟩) ?_
  refine wl_vw (.bool (decide ((n) ≤ (31)))) 2 true 5 rfl rfl rfl rfl rfl (y_leq rfl rfl rfl rfl ⟨rfl, rfl⟩) ?_
  refine wl_v (.bool (decide ((n) ≤ (31)))) rfl rfl (y_pickT rfl rfl rfl ⟨rfl, rfl⟩) ?_
  refine wl_v (.bool (decide ((n) ≤ (31)))) rfl rfl (y_asg rfl rfl ⟨rfl, rfl⟩) ?_
  refine wl_nil fun F6 hF7 => ?_
  have s8 := (hF7 9).trans s4
  have s9 : F6 2 = .bool (decide ((n) ≤ (31))) := (hF7 2).trans rfl
  clear hF7
  refine then_normal ?_
  refine wq_ret ?_
  exact end_tmp (v := .bool (decide ((n) ≤ (31)))) s8 rfl rfl s9 ⟨(retB (by first | exact (decide_eq_true (by omega)).symm | exact (decide_eq_false (by omega)).symm | exact decide_eq_decide.2 (by omega))), K0⟩
 ·skip
  refine wq_region ?_
  refine wl_v (.int .i64 (n)) rfl rfl (y_mov rfl s3 ⟨rfl, rfl⟩) ?_
  refine wl_v (.bool false) rfl rfl (y_geq rfl rfl rfl (decide_eq_false d5) ⟨rfl, rfl⟩) ?_
  refine wl_v (.bool false) rfl rfl (y_mov rfl rfl ⟨rfl, rfl⟩) ?_
  refine wl_unless 2 true 5 rfl rfl rfl (Or.inl rfl) rfl ?_
  refine wl_unless 2 true 5 rfl rfl rfl (Or.inl rfl) rfl ?_
  refine wl_v (.bool false) rfl rfl (y_pickF rfl rfl rfl ⟨rfl, rfl⟩) ?_
  refine wl_v (.bool false) rfl rfl (y_asg rfl rfl ⟨rfl, rfl⟩) ?_
  refine wl_nil fun F10 hF11 => ?_
  have s12 := (hF11 9).trans s4
  have s13 : F10 2 = .bool false := (hF11 2).trans rfl
  clear hF11
  refine then_normal ?_
  refine wq_ret ?_
  exact end_tmp (v := .bool false) s12 rfl rfl s13 ⟨(retB (by first | exact (decide_eq_true (by omega)).symm | exact (decide_eq_false (by omega)).symm | exact decide_eq_decide.2 (by omega))), K0⟩
set_option maxHeartbeats 4000000 in
set_option maxRecDepth 100000 in
theorem mo_check (X Y : Int) (w0 : World) :
  Calls Tryd.prog 53 #[.agg #[.int .i64 (X), .int .i64 (Y)]] w0 fun e w' => e = .returned (.int .i64 (vecE X Y)) ∧ Kept (fun _ => False) w0 w' := by
 refine calls_wq (args := [.agg #[.int .i64 (X), .int .i64 (Y)]]) 13 Tryd.func53 rfl rfl (Nat.le_of_ble_eq_true rfl) ?_
 have K0 := Kept.refl (fun _ => False) w0
 refine wq_seq ?_
 refine wq_region ?_
 refine wl_box_stc (vs := [.int .i64 (X), .int .i64 (Y)]) rfl rfl rfl rfl fun p1 w2 B4 g5 k3 => ?_
 have K7 := K0.trans k3 (fun _ _ x => x.elim)
 refine wl_v (.int .i64 (0)) rfl rfl (y_asg rfl rfl ⟨rfl, rfl⟩) ?_
 refine wl_nil fun F8 hF9 => ?_
 have s10 : F8 13 = undef := (hF9 13).trans rfl
 have s11 : F8 1 = .pointer (some ⟨p1, 0, none⟩) := (hF9 1).trans rfl
 clear hF9
 refine then_normal ?_
 refine wq_seq ?_
 refine wq_seq ?_
 by_cases d12 : -31 ≤ (X) ∧ (X) ≤ 31
 ·skip
  by_cases d13 : -31 ≤ (Y) ∧ (Y) ≤ 31
  ·skip
   refine wq_region ?_
   refine wl_v (.pointer (some ⟨p1, 0, none⟩)) rfl rfl (y_fieldR (n := 1) rfl s11 Tryd.underlying23 rfl (by kernel_rfl) (by decide) rfl ⟨rfl, rfl⟩) ?_
   refine wl_v (.int .i64 (X)) rfl rfl (y_ld_stc rfl rfl Tryd.underlying3 B4 rfl rfl ⟨rfl, rfl⟩) ?_
   refine wl_call (R := fun v_ w_ => v_ = .bool true ∧ Kept (fun _ => False) w2 w_) rfl rfl (y_cs rfl rfl rfl (fun _ _ => by kernel_rfl) (ev_func _) (vsC rfl vsN) (mo_mayGo (X)  _   ) (fun e_ w_ h_ => ⟨_, h_.1, (congrArg Value.bool (decide_eq_true d12)), h_.2⟩)) ?_
   rintro _ w14 ⟨rfl, k15⟩
   have B16 := B4.all k15 id
   have K17 := K7.trans k15 (fun _ _ x => x.elim)
   refine wl_v (.bool false) rfl rfl (y_not rfl rfl rfl ⟨rfl, rfl⟩) ?_
   refine wl_v (.bool false) rfl rfl (y_mov rfl rfl ⟨rfl, rfl⟩) ?_
   refine wl_vw (.pointer (some ⟨p1, 1, none⟩)) 4 false 7 rfl rfl rfl rfl rfl (y_fieldR (n := 1) rfl s11 Tryd.underlying23 rfl (by kernel_rfl) (by decide) rfl ⟨rfl, rfl⟩) ?_
   refine wl_vw (.int .i64 (Y)) 4 false 7 rfl rfl rfl rfl rfl (y_ld_stc rfl rfl Tryd.underlying3 B16 rfl rfl ⟨rfl, rfl⟩) ?_
   refine wl_callw (R := fun v_ w_ => v_ = .bool true ∧ Kept (fun _ => False) w14 w_) 4 false 7 rfl rfl rfl rfl rfl (y_cs rfl rfl rfl (fun _ _ => by kernel_rfl) (ev_func _) (vsC rfl vsN) (mo_mayGo (Y)  _   ) (fun e_ w_ h_ => ⟨_, h_.1, (congrArg Value.bool (decide_eq_true d13)), h_.2⟩)) ?_
   rintro _ w18 ⟨rfl, k19⟩
   have K21 := K17.trans k19 (fun _ _ x => x.elim)
   refine wl_vw (.bool false) 4 false 7 rfl rfl rfl rfl rfl (y_not rfl rfl rfl ⟨rfl, rfl⟩) ?_
   refine wl_v (.bool false) rfl rfl (y_pickF rfl rfl rfl ⟨rfl, rfl⟩) ?_
   refine wl_nil fun F22 hF23 => ?_
   have s24 := (hF23 13).trans s10
   have s25 : F22 12 = .bool false := (hF23 12).trans rfl
   clear hF23
   refine then_normal ?_
   refine wq_cond (t := false) s25 (fun e => by cases e) (fun _ => ?_)
   refine wq_skip ?_
   refine then_normal ?_
   refine wq_seq ?_
   refine wq_region ?_
   refine wl_v (.int .i64 (0)) rfl rfl (y_asg rfl rfl ⟨rfl, rfl⟩) ?_
   refine wl_nil fun F26 hF27 => ?_
   have s28 := (hF27 13).trans s24
   have s29 : F26 2 = .int .i64 (0) := (hF27 2).trans rfl
   clear hF27
   refine then_normal ?_
   refine wq_ret ?_
   exact end_tmp (v := .int .i64 (0)) s28 rfl rfl s29 ⟨(by first | rw [vecE_yes (by unfold vecOk; omega)] | rw [vecE_no (by unfold vecOk; omega)]), K21⟩
  ·skip
   refine wq_region ?_
   refine wl_v (.pointer (some ⟨p1, 0, none⟩)) rfl rfl (y_fieldR (n := 1) rfl s11 Tryd.underlying23 rfl (by kernel_rfl) (by decide) rfl ⟨rfl, rfl⟩) ?_
   refine wl_v (.int .i64 (X)) rfl rfl (y_ld_stc rfl rfl Tryd.underlying3 B4 rfl rfl ⟨rfl, rfl⟩) ?_
   refine wl_call (R := fun v_ w_ => v_ = .bool true ∧ Kept (fun _ => False) w2 w_) rfl rfl (y_cs rfl rfl rfl (fun _ _ => by kernel_rfl) (ev_func _) (vsC rfl vsN) (mo_mayGo (X)  _   ) (fun e_ w_ h_ => ⟨_, h_.1, (congrArg Value.bool (decide_eq_true d12)), h_.2⟩)) ?_
   rintro _ w30 ⟨rfl, k31⟩
   have B32 := B4.all k31 id
   have K33 := K7.trans k31 (fun _ _ x => x.elim)
   refine wl_v (.bool false) rfl rfl (y_not rfl rfl rfl ⟨rfl, rfl⟩) ?_
   refine wl_v (.bool false) rfl rfl (y_mov rfl rfl ⟨rfl, rfl⟩) ?_
   refine wl_vw (.pointer (some ⟨p1, 1, none⟩)) 4 false 7 rfl rfl rfl rfl rfl (y_fieldR (n := 1) rfl s11 Tryd.underlying23 rfl (by kernel_rfl) (by decide) rfl ⟨rfl, rfl⟩) ?_
   refine wl_vw (.int .i64 (Y)) 4 false 7 rfl rfl rfl rfl rfl (y_ld_stc rfl rfl Tryd.underlying3 B32 rfl rfl ⟨rfl, rfl⟩) ?_
   refine wl_callw (R := fun v_ w_ => v_ = .bool false ∧ Kept (fun _ => False) w30 w_) 4 false 7 rfl rfl rfl rfl rfl (y_cs rfl rfl rfl (fun _ _ => by kernel_rfl) (ev_func _) (vsC rfl vsN) (mo_mayGo (Y)  _   ) (fun e_ w_ h_ => ⟨_, h_.1, (congrArg Value.bool (decide_eq_false d13)), h_.2⟩)) ?_
   rintro _ w34 ⟨rfl, k35⟩
   have K37 := K33.trans k35 (fun _ _ x => x.elim)
   refine wl_vw (.bool true) 4 false 7 rfl rfl rfl rfl rfl (y_not rfl rfl rfl ⟨rfl, rfl⟩) ?_
   refine wl_v (.bool true) rfl rfl (y_pickF rfl rfl rfl ⟨rfl, rfl⟩) ?_
   refine wl_nil fun F38 hF39 => ?_
   have s40 := (hF39 13).trans s10
   have s41 : F38 12 = .bool true := (hF39 12).trans rfl
   clear hF39
   refine then_normal ?_
   refine wq_cond (t := true) s41 (fun _ => ?_) (fun e => by cases e)
   refine wq_seq ?_
   refine wq_region ?_
   refine wl_v (.int .i64 (90)) rfl rfl (y_asg rfl rfl ⟨rfl, rfl⟩) ?_
   refine wl_nil fun F42 hF43 => ?_
   have s44 := (hF43 13).trans s40
   have s45 : F42 2 = .int .i64 (90) := (hF43 2).trans rfl
   clear hF43
   refine then_normal ?_
   refine wq_ret ?_
   refine then_ret ?_
   exact end_tmp (v := .int .i64 (90)) s44 rfl rfl s45 ⟨(by first | rw [vecE_yes (by unfold vecOk; omega)] | rw [vecE_no (by unfold vecOk; omega)]), K37⟩
 ·skip
  refine wq_region ?_
  refine wl_v (.pointer (some ⟨p1, 0, none⟩)) rfl rfl (y_fieldR (n := 1) rfl s11 Tryd.underlying23 rfl (by kernel_rfl) (by decide) rfl ⟨rfl, rfl⟩) ?_
  refine wl_v (.int .i64 (X)) rfl rfl (y_ld_stc rfl rfl Tryd.underlying3 B4 rfl rfl ⟨rfl, rfl⟩) ?_
  refine wl_call (R := fun v_ w_ => v_ = .bool false ∧ Kept (fun _ => False) w2 w_) rfl rfl (y_cs rfl rfl rfl (fun _ _ => by kernel_rfl) (ev_func _) (vsC rfl vsN) (mo_mayGo (X)  _   ) (fun e_ w_ h_ => ⟨_, h_.1, (congrArg Value.bool (decide_eq_false d12)), h_.2⟩)) ?_
  rintro _ w46 ⟨rfl, k47⟩
  have K49 := K7.trans k47 (fun _ _ x => x.elim)
  refine wl_v (.bool true) rfl rfl (y_not rfl rfl rfl ⟨rfl, rfl⟩) ?_
  refine wl_v (.bool true) rfl rfl (y_mov rfl rfl ⟨rfl, rfl⟩) ?_
  refine wl_unless 4 false 7 rfl rfl rfl (Or.inl rfl) rfl ?_
  refine wl_unless 4 false 7 rfl rfl rfl (Or.inl rfl) rfl ?_
  refine wl_unless 4 false 7 rfl rfl rfl (Or.inl rfl) rfl ?_
  refine wl_unless 4 false 7 rfl rfl rfl (Or.inl rfl) rfl ?_
  refine wl_v (.bool true) rfl rfl (y_pickT rfl rfl rfl ⟨rfl, rfl⟩) ?_
  refine wl_nil fun F50 hF51 => ?_
  have s52 := (hF51 13).trans s10
  have s53 : F50 12 = .bool true := (hF51 12).trans rfl
  clear hF51
  refine then_normal ?_
  refine wq_cond (t := true) s53 (fun _ => ?_) (fun e => by cases e)
  refine wq_seq ?_
  refine wq_region ?_
  refine wl_v (.int .i64 (90)) rfl rfl (y_asg rfl rfl ⟨rfl, rfl⟩) ?_
  refine wl_nil fun F54 hF55 => ?_
  have s56 := (hF55 13).trans s52
  have s57 : F54 2 = .int .i64 (90) := (hF55 2).trans rfl
  clear hF55
  refine then_normal ?_
  refine wq_ret ?_
  refine then_ret ?_
  exact end_tmp (v := .int .i64 (90)) s56 rfl rfl s57 ⟨(by first | rw [vecE_yes (by unfold vecOk; omega)] | rw [vecE_no (by unfold vecOk; omega)]), K49⟩
end Go.Proofs.YtdcbabgcbkdlhaaDoor
set_option maxRecDepth 100000
namespace Go.Proofs.YtdcbabgcbkdlhaaDoor
open Go.RowKit

structure Ch where
  m : Int
  px : Int
  py : Int
  nx : Int
  ny : Int
  b : Nat → Int
def chV (c : Ch) : List Value := .int .i64 c.m :: .int .i64 c.px :: .int .i64 c.py :: .int .i64 c.nx :: .int .i64 c.ny :: arrL 16 c.b
/-- Cells written out. -/
abbrev chL (m px py nx ny : Int) (b : Nat → Int) : List Value := [.int .i64 m, .int .i64 px, .int .i64 py, .int .i64 nx, .int .i64 ny, .int .i64 (b 0), .int .i64 (b 1), .int .i64 (b 2), .int .i64 (b 3), .int .i64 (b 4), .int .i64 (b 5), .int .i64 (b 6), .int .i64 (b 7), .int .i64 (b 8), .int .i64 (b 9), .int .i64 (b 10), .int .i64 (b 11), .int .i64 (b 12), .int .i64 (b 13), .int .i64 (b 14), .int .i64 (b 15)]
abbrev chW (c : Ch) : List Value := chL c.m c.px c.py c.nx c.ny c.b
theorem one_arrL (n : Nat) (b : Nat → Int) : OneAll (arrL n b) := fun v h => by
  obtain ⟨i, _, rfl⟩ := List.mem_map.1 h; rfl
theorem stcT_choice : StcT Tryd.prog 27 21 := ⟨_, Tryd.underlying27, rfl, by kernel_rfl⟩
theorem stcT_block : StcT Tryd.prog 25 16 := ⟨_, Tryd.underlying25, rfl, by kernel_rfl⟩
section
variable {P : Program} {ρ : Operand → Value} {o : Oper} {w : World} {R : Value → World → Prop}
/-- A part of a struct is loaded. -/
theorem y_ldPart {ty t : TypeId} {x : Operand} {p k n : Nat} {vs us : List Value} (hT : StcT P ty n) (ho : o.op = .load ty x) (hx : ρ x = .pointer (some ⟨p, k, none⟩)) (hB : Stc w p t vs) (hkn : k + n ≤ vs.length) (hu : (vs.drop k).take n = us) (h : R (.agg us.toArray) w) : Yields P ρ o w R := by
  subst hu
  obtain ⟨d, hu, hd, hs⟩ := hT
  have hlen : ((vs.drop k).take n).length = n := by rw [List.length_take, List.length_drop]; omega
  have e := run_loadVar_mid (P := P) w p k ty ((vs.drop k).take n) d (fun q u hq => by
    have hqn : q < n := by have := (List.getElem?_eq_some_iff.1 hq).1; omega
    exact hB.cell (by rwa [List.getElem?_take, if_pos hqn, List.getElem?_drop] at hq)) hu hd (by rw [hlen]; exact hs)
  exact y_val (v := .agg ((vs.drop k).take n).toArray) (w' := w) (by simp only [execOp, ho, hx, Instr.loadAt, Instr.sureAddr, Sem.run_bind, Sem.run_pure, Result.andThen_ok, e]) h
/-- A part of a struct is stored. -/
theorem y_setPart {ty t : TypeId} {x y : Operand} {p k : Nat} {vs us ns : List Value} (hT : StcT P ty us.length) (ho : o.op = .store ty x y) (hx : ρ x = .pointer (some ⟨p, k, none⟩)) (hy : ρ y = .agg us.toArray) (hB : Stc w p t vs) (hk : k + us.length ≤ vs.length) (h1 : OneAll us) (hn : vs.take k ++ us ++ vs.drop (k + us.length) = ns)
    (h : ∀ w', Stc w' p t ns → Kept (fun k => k = p) w w' → R undef w') : Yields P ρ o w R := by
  subst hn
  obtain ⟨d, _, _, hs⟩ := hT
  have hst := run_storeCells_at P p k t us 0 vs.toArray w hB (by simpa using hk) h1
  simp only [Nat.add_zero] at hst
  cases hq : P.info? ty with
  | none => rw [hq] at hs; cases hs
  | some i =>
    have hs' : i.size = us.length := by simpa [hq] using hs
    have hsv : (storeVar ty ⟨p, k, none⟩ (.agg us.toArray)).run P w = .ok () (w.setRow p (vs.take k ++ us ++ vs.drop (k + us.length)).toArray) := by
      simp [storeVar, sizeOf, typeInfo, hq, hs', Value.cells, hst]
    have e : (execOp ρ o).run P w = .ok .skip (w.setRow p (vs.take k ++ us ++ vs.drop (k + us.length)).toArray) := by
      simp only [execOp, ho, hx, hy, Instr.storeAt, Instr.sureAddr, Sem.run_bind, Sem.run_pure, Result.andThen_ok, hsv]
    unfold Yields
    rw [e]
    exact h _ (setRow_heap _ _ _ _ _ _ hB) ((Kept.refl (fun k => k = p) w).setRow p (fun _ => rfl) _)
end
section
variable {ro : Option Nat} {P : Program} {N : Nat} {Q : (Exit → (Nat → Value) → World → Prop)} {F : Nat → Value} {w : World} {o : Oper}
theorem wl_setPart {ops : Array Oper} {rest : List Oper} {ty t : TypeId} {x y : Operand} {p k : Nat} {vs us ns : List Value} (hT : StcT P ty us.length) (hg : o.guard = none) (hdn : o.dst = none) (ho : o.op = .store ty x y) (hx : ev (cutF N F) x = .pointer (some ⟨p, k, none⟩)) (hy : ev (cutF N F) y = .agg us.toArray) (hB : Stc w p t vs) (hk : k + us.length ≤ vs.length) (h1 : OneAll us) (hn : vs.take k ++ us ++ vs.drop (k + us.length) = ns)
    (h : ∀ w', Stc w' p t ns → Kept (fun k => k = p) w w' → wl ro P N ops Q rest F w') : wl ro P N ops Q (o :: rest) F w := by
  refine wl_op hg (by rw [hdn]; rfl) (y_setPart hT ho hx hy hB hk h1 hn fun w' hw hk => ?_)
  rw [hdn]
  exact h w' hw hk
end
end Go.Proofs.YtdcbabgcbkdlhaaDoor
set_option maxRecDepth 100000
namespace Go.Proofs.YtdcbabgcbkdlhaaDoor

def pastB (m : Int) : Bool := decide (m = 4) || decide (m = 6)
def nextB (m : Int) : Bool := decide (m = 5) || decide (m = 6)
def mostK (k : Int) : Int := if k = 0 then 3 else if k = 1 then 4 else if k = 2 then 6 else -1
def farCh (b : Nat → Int) : Nat → Bool
  | 0 => false
  | i + 1 => farCh b i || decide (b i < -1048576 ∨ 1048576 < b i)
def badM (k : Int) (c : Ch) : Prop := c.m < 0 ∨ mostK k < c.m ∨ (pastB c.m = false ∧ sameVec c.px c.py 0 0 = false) ∨ (nextB c.m = false ∧ sameVec c.nx c.ny 0 0 = false)
instance (k : Int) (c : Ch) : Decidable (badM k c) := by unfold badM; infer_instance
def chE (k : Int) (c : Ch) : Int := if badM k c then 120 else if farCh c.b 16 = true then 120 else if vecOk c.px c.py ∧ vecOk c.nx c.ny then 0 else 90
theorem chE_bad {k : Int} {c : Ch} (h : badM k c) : chE k c = 120 := if_pos h
theorem chE_far {k : Int} {c : Ch} (h : ¬ badM k c) (hf : farCh c.b 16 = true) : chE k c = 120 := by unfold chE; rw [if_neg h, if_pos hf]
theorem chE_vec {k : Int} {c : Ch} (h : ¬ badM k c) (hf : farCh c.b 16 = false) : chE k c = if vecOk c.px c.py ∧ vecOk c.nx c.ny then 0 else 90 := by unfold chE; rw [if_neg h, if_neg (by rw [hf]; exact Bool.false_ne_true)]
theorem far_hit {b : Nat → Int} {i : Nat} (h : b i < -1048576 ∨ 1048576 < b i) : ∀ n, i < n → farCh b n = true := by
  intro n
  induction n with
  | zero => intro hi; omega
  | succ n ih =>
    intro hi
    unfold farCh
    by_cases e : i = n
    · subst e; rw [decide_eq_true h, Bool.or_true]
    · rw [ih (by omega), Bool.true_or]
def pastBits (c : Ch) (gx gy : Int) : List Bool := if pastB c.m = true then vecBits c.px c.py gx gy else []
def nextBits (c : Ch) (gx gy : Int) : List Bool := if nextB c.m = true then vecBits c.nx c.ny gx gy else []
def chBits (c : Ch) (ax ay bx yy : Int) : List Bool := wholeBits c.m ++ pastBits c ax ay ++ nextBits c bx yy ++ scanBits c.b
def wrCh (k : Int) (c : Ch) (ax ay bx yy : Int) : List Bool := if chE k c = 0 then chBits c ax ay bx yy else []
def ch0 : Ch := ⟨0, 0, 0, 0, 0, fun _ => 0⟩
/-- A vector that a mode has, or has not. -/
def stV (has : Bool) (l : List Nat) (gx gy : Int) (s : Option Nat) : Int × Int × Int × Option Nat := if has = true then (vrX l gx gy s, vrY l gx gy s, vrE l gx gy s, vrS l s) else (0, 0, 0, s)
def rd4 (l : List Nat) (m : Int) (p n : Int × Int × Int × Option Nat) : Ch × Int × Option Nat :=
  if (scanRd l n.2.2.2).2.1 = 0 then (⟨m, p.1, p.2.1, n.1, n.2.1, (scanRd l n.2.2.2).1⟩, 0, (scanRd l n.2.2.2).2.2) else (ch0, (scanRd l n.2.2.2).2.1, (scanRd l n.2.2.2).2.2)
def rd3 (l : List Nat) (m : Int) (p n : Int × Int × Int × Option Nat) : Ch × Int × Option Nat := if n.2.2.1 = 0 then rd4 l m p n else (ch0, n.2.2.1, n.2.2.2)
def rd2 (l : List Nat) (m : Int) (bx yy : Int) (p : Int × Int × Int × Option Nat) : Ch × Int × Option Nat := if p.2.2.1 = 0 then rd3 l m p (stV (nextB m) l bx yy p.2.2.2) else (ch0, p.2.2.1, p.2.2.2)
def rd1 (l : List Nat) (ax ay bx yy : Int) (m : Int × Option Nat) : Ch × Int × Option Nat := if m.2.isNone = true then (ch0, 120, m.2) else rd2 l m.1 bx yy (stV (pastB m.1) l ax ay m.2)
def rdCh (l : List Nat) (k ax ay bx yy : Int) (st : Option Nat) : Ch × Int × Option Nat := rd1 l ax ay bx yy (rdStep (wholeRd l (mostK k)) st)
theorem stV_yes {has : Bool} {l : List Nat} {gx gy : Int} {s : Option Nat} (h : has = true) : stV has l gx gy s = (vrX l gx gy s, vrY l gx gy s, vrE l gx gy s, vrS l s) := if_pos h
theorem stV_no {has : Bool} {l : List Nat} {gx gy : Int} {s : Option Nat} (h : has = false) : stV has l gx gy s = (0, 0, 0, s) := if_neg (by rw [h]; exact Bool.false_ne_true)
end Go.Proofs.YtdcbabgcbkdlhaaDoor
set_option maxRecDepth 100000
namespace Go.Proofs.YtdcbabgcbkdlhaaDoor
open Go.RowKit

def intsV (xs : List Int) : Array Value := (xs.map fun x => Value.int .i64 x).toArray
def sameI (xs ys : List Int) : Bool := decide (xs = ys)
theorem sameI_self (xs : List Int) : sameI xs xs = true := decide_eq_true rfl
theorem part_i64 (w : World) (xs : List Int) (i : Nat) (z : Int) (h : xs[i]? = some z) : (part 3 (intsV xs) i).run Tryd.prog w = .ok (.int .i64 z) w := by
  have e : (intsV xs)[i]? = some (.int .i64 z) := by
    unfold intsV
    rw [List.getElem?_toArray, List.getElem?_map, h]; rfl
  simp [part, isAgg, run_underlying Tryd.underlying3, e]
theorem run_same_fields (w : World) (d : Nat) (xs ys : List Int) : ∀ (fs : List Field) (k : Nat), fs.map (fun f => (f.name == "_", f.type, f.offset)) = (List.range' k fs.length).map (fun i => (false, 3, i)) → xs.length = k + fs.length → ys.length = k + fs.length →
    (Op.eqFields (d + 1) (intsV xs) (intsV ys) fs).run Tryd.prog w = .ok (sameI (xs.drop k) (ys.drop k)) w := by
  intro fs
  induction fs with
  | nil =>
    intro k _ hx hy
    simp only [List.length_nil, Nat.add_zero] at hx hy
    rw [List.drop_of_length_le (by omega), List.drop_of_length_le (by omega), sameI_self]
    simp [Op.eqFields]
  | cons f r ih =>
    intro k hf hx hy
    simp only [List.length_cons] at hx hy
    simp only [List.map_cons, List.length_cons, List.range'_succ, List.cons.injEq, Prod.mk.injEq] at hf
    obtain ⟨⟨hn, ht, ho⟩, hr⟩ := hf
    have hn' : f.name ≠ "_" := by simpa using hn
    have hkx : k < xs.length := by omega
    have hky : k < ys.length := by omega
    have p1 := part_i64 w xs k xs[k] (List.getElem?_eq_getElem hkx)
    have p2 := part_i64 w ys k ys[k] (List.getElem?_eq_getElem hky)
    have p3 := ih (k + 1) hr (by omega) (by omega)
    have ex : xs.drop k = xs[k] :: xs.drop (k + 1) := List.drop_eq_getElem_cons hkx
    have ey : ys.drop k = ys[k] :: ys.drop (k + 1) := List.drop_eq_getElem_cons hky
    have hs : sameI (xs.drop k) (ys.drop k) = (decide (xs[k] = ys[k]) && sameI (xs.drop (k + 1)) (ys.drop (k + 1))) := by
      rw [ex, ey]
      generalize xs[k] = a
      generalize ys[k] = b
      generalize xs.drop (k + 1) = X
      generalize ys.drop (k + 1) = Y
      unfold sameI
      by_cases h : a = b <;> simp [h]
    rw [hs]
    generalize sameI (xs.drop (k + 1)) (ys.drop (k + 1)) = q at p3
    generalize xs[k] = a at p1
    generalize ys[k] = b at p2
    simp only [Op.eqFields, ht, ho]
    rw [if_pos hn']
    simp only [Sem.run_bind, p1, p2, Result.andThen_ok, run_equalIn_int w d 3 .i64 .i64 _ _ Tryd.underlying3]
    by_cases h1 : a = b
    · subst h1
      simp only [beq_self_eq_true, Bool.not_true, Bool.false_eq_true, if_false, p3, decide_true, Bool.true_and]
    · have : (a == b) = false := by simpa using h1
      simp [this, h1]
/-- A struct of n ints. -/
def StructI (ty : TypeId) (n : Nat) : Prop := (Tryd.prog.underlying ty = some (.struct (Tryd.prog.fieldsOf ty)) ∧ Tryd.prog.stoodInHeld ty = false) ∧ Tryd.prog.eqGuardType Tryd.prog.depth ty = false ∧ (Tryd.prog.fieldsOf ty).toList.map (fun f => (f.name == "_", f.type, f.offset)) = (List.range' 0 n).map (fun i => (false, 3, i))
end Go.Proofs.YtdcbabgcbkdlhaaDoor
set_option maxRecDepth 100000
namespace Go.Proofs.YtdcbabgcbkdlhaaDoor
open Go.RowKit

def sameCh (c d : Ch) : Bool := decide (c.m = d.m) && (sameI [c.px, c.py] [d.px, d.py] && (sameI [c.nx, c.ny] [d.nx, d.ny] && sameB c.b d.b))
theorem run_same_intsD (w : World) (n0 : Nat) {ty : TypeId} {n : Nat} (hS : StructI ty n) (xs ys : List Int) (hx : xs.length = n) (hy : ys.length = n) : (Op.equalIn (n0 + 2) ty (.agg (intsV xs)) (.agg (intsV ys))).run Tryd.prog w = .ok (sameI xs ys) w := by
  rw [run_equalIn_struct w (n0 + 1) _ _ _ hS.1.1 hS.1.2]
  have hlen : (Tryd.prog.fieldsOf ty).toList.length = n := by have := congrArg List.length hS.2.2; simpa using this
  have := run_same_fields w n0 xs ys (Tryd.prog.fieldsOf ty).toList 0 (by rw [hlen]; exact hS.2.2) (by omega) (by omega)
  simpa using this
theorem run_same_blkD (w : World) (n0 : Nat) (t : TypeId) (ht : BlkT t) (a b : Nat → Int) : (Op.equalIn (n0 + 2) t (blkV a) (blkV b)).run Tryd.prog w = .ok (sameB a b) w := by
  obtain ⟨i0, hi⟩ : ∃ i, Tryd.prog.info? 3 = some i := by
    have := Tryd.size_int
    cases h : Tryd.prog.info? 3 with
    | none => rw [h] at this; cases this
    | some i => exact ⟨i, rfl⟩
  unfold blkV
  rw [run_equalIn_array w (n0 + 1) _ _ ht.1 hi, run_eqItems_ints Tryd.underlying3 Tryd.cells_int w n0 16 a b _ (fun i hi => by simpa using hi)]
  rfl
theorem structI_vec : StructI 23 2 := ⟨⟨by kernel_rfl, by kernel_rfl⟩, by kernel_rfl, by kernel_rfl⟩
theorem Tryd.chFields : (Tryd.prog.fieldsOf 27).toList.map (fun f => (f.name == "_", f.type, f.offset)) = [(false, 3, 0), (false, 23, 1), (false, 23, 3), (false, 25, 5)] := by kernel_rfl
theorem Tryd.guard_ch : Tryd.prog.eqGuardType Tryd.prog.depth 27 = false := by kernel_rfl
theorem Tryd.held_ch : Tryd.prog.underlying 27 = some (.struct (Tryd.prog.fieldsOf 27)) ∧ Tryd.prog.stoodInHeld 27 = false := ⟨by kernel_rfl, by kernel_rfl⟩
theorem part_ch0 (w : World) (c : Ch) : (part 3 (chV c).toArray 0).run Tryd.prog w = .ok (.int .i64 c.m) w := by
  simp [part, isAgg, run_underlying Tryd.underlying3, chV]
theorem part_agg (w : World) (ty : TypeId) (vs us : List Value) (k n : Nat) {d : TypeDesc} (hu : Tryd.prog.underlying ty = some d) (hd : (match d with | .struct _ => true | .array _ _ => true | _ => false) = true) (hs : (Tryd.prog.info? ty).map (·.size) = some n) (hk : (vs.drop k).take n = us) : (part ty vs.toArray k).run Tryd.prog w = .ok (.agg us.toArray) w := by
  cases hq : Tryd.prog.info? ty with
  | none => rw [hq] at hs; cases hs
  | some i =>
    have hs' : i.size = n := by simpa [hq] using hs
    subst hs'
    subst hk
    have e : vs.toArray.extract k (k + i.size) = ((vs.drop k).take i.size).toArray := by
      rw [List.extract_toArray]; simp [List.extract_eq_take_drop]
    cases d <;> simp at hd <;> simp only [part, isAgg, run_underlying hu, sizeOf, typeInfo, hq, Sem.run_bind, Sem.run_pure, Result.andThen_ok, run_program, if_true, e]
/-- One field more. -/
theorem eqFields_more {w : World} {z : Nat} {A B : Array Value} {f : Field} {r : List Field} {t : TypeId} {k : Nat} {a b : Value} {s q : Bool} (hf : (f.name == "_", f.type, f.offset) = (false, t, k))
    (ha : (part t A k).run Tryd.prog w = .ok a w) (hb : (part t B k).run Tryd.prog w = .ok b w) (hs : (Op.equalIn z t a b).run Tryd.prog w = .ok s w) (hq : (Op.eqFields z A B r).run Tryd.prog w = .ok q w) :
    (Op.eqFields z A B (f :: r)).run Tryd.prog w = .ok (s && q) w := by
  simp only [Prod.mk.injEq] at hf
  obtain ⟨n0, t0, o0⟩ := hf
  have m0 : f.name ≠ "_" := by simpa using n0
  simp only [Op.eqFields, t0, o0]
  rw [if_pos m0]
  simp only [Sem.run_bind, ha, hb, hs, Result.andThen_ok]
  cases s
  · simp
  · simp only [Bool.not_true, Bool.false_eq_true, if_false, hq, Bool.true_and]
theorem eqFields_none {w : World} {z : Nat} {A B : Array Value} : (Op.eqFields z A B []).run Tryd.prog w = .ok true w := by simp [Op.eqFields]
theorem list_four {α : Type} {l : List α} (h : l.length = 4) : ∃ a b c d, l = [a, b, c, d] := by
  match l, h with
  | [a, b, c, d], _ => exact ⟨a, b, c, d, rfl⟩
theorem run_same_chD (w : World) (z : Nat) (c d : Ch) : (Op.equalIn (z + 3) 27 (.agg (chV c).toArray) (.agg (chV d).toArray)).run Tryd.prog w = .ok (sameCh c d) w := by
  rw [run_equalIn_struct w (z + 2) _ _ _ Tryd.held_ch.1 Tryd.held_ch.2]
  have hf := Tryd.chFields
  have ri := run_equalIn_int w (z + 1) 3 .i64 .i64 c.m d.m Tryd.underlying3
  have hv : ∀ (x : Ch), (part 23 (chV x).toArray 1).run Tryd.prog w = .ok (.agg (intsV [x.px, x.py])) w := fun x => part_agg w 23 (chV x) [.int .i64 x.px, .int .i64 x.py] 1 2 Tryd.underlying23 rfl (by kernel_rfl) rfl
  have hn : ∀ (x : Ch), (part 23 (chV x).toArray 3).run Tryd.prog w = .ok (.agg (intsV [x.nx, x.ny])) w := fun x => part_agg w 23 (chV x) [.int .i64 x.nx, .int .i64 x.ny] 3 2 Tryd.underlying23 rfl (by kernel_rfl) rfl
  have hb : ∀ (x : Ch), (part 25 (chV x).toArray 5).run Tryd.prog w = .ok (blkV x.b) w := fun x => part_agg w 25 (chV x) (arrL 16 x.b) 5 16 Tryd.underlying25 rfl (by kernel_rfl) rfl
  have p0 := part_ch0 w c
  have q0 := part_ch0 w d
  have r1 := run_same_intsD w z structI_vec [c.px, c.py] [d.px, d.py] rfl rfl
  have r2 := run_same_intsD w z structI_vec [c.nx, c.ny] [d.nx, d.ny] rfl rfl
  have r3 := run_same_blkD w z 25 blkT_block c.b d.b
  have p1 := hv c; have q1 := hv d; have p2 := hn c; have q2 := hn d; have p3 := hb c; have q3 := hb d
  generalize (chV c).toArray = A at *
  generalize (chV d).toArray = B at *
  generalize (Tryd.prog.fieldsOf 27).toList = fs at hf ⊢
  obtain ⟨f0, f1, f2, f3, rfl⟩ := list_four (l := fs) (by have := congrArg List.length hf; simpa using this)
  simp only [List.map_cons, List.map_nil, List.cons.injEq, and_true] at hf
  obtain ⟨h0, h1, h2, h3⟩ := hf
  have e := eqFields_more h0 p0 q0 ri (eqFields_more h1 p1 q1 r1 (eqFields_more h2 p2 q2 r2 (eqFields_more h3 p3 q3 r3 eqFields_none)))
  rw [e]
  unfold sameCh
  rw [Bool.and_true, show (c.m == d.m) = decide (c.m = d.m) from by rw [Bool.eq_iff_iff]; simp]
theorem run_same_ch (w : World) (c d : Ch) : (Op.equalIn 10000 27 (.agg (chV c).toArray) (.agg (chV d).toArray)).run Tryd.prog w = .ok (sameCh c d) w := run_same_chD w 9997 c d
section
variable {ρ : Operand → Value} {o : Oper} {w : World} {R : Value → World → Prop}
theorem y_eqlCh {t' : TypeId} {x y : Operand} {c d : Ch} {q : Bool} (ho : o.op = .binOp .eql 27 x y t') (hx : ρ x = .agg (chV c).toArray) (hy : ρ y = .agg (chV d).toArray) (hr : sameCh c d = q) (h : R (.bool q) w) : Yields Tryd.prog ρ o w R :=
  y_of (v := .bool (sameCh c d)) (w' := w) (by simp only [execOp, ho, hx, hy, Sem.run_bind, run_eqGuard_agg w .eql _ _ _ _ _ Tryd.guard_ch, run_eql_struct, run_same_ch, Result.andThen_ok, Sem.run_pure]) (by rw [hr]; exact h)
end
end Go.Proofs.YtdcbabgcbkdlhaaDoor
set_option maxRecDepth 100000
namespace Go.Proofs.YtdcbabgcbkdlhaaDoor

def c8M (a : Nat → Int) : Nat → Int := fun i => min (max (a i) 0) 255
def buB (b : Nat → Int) (l : Nat → Int) (q : Int) : Nat → Int := if ern q = 0 then c8M (moreB b (backB (upB l q))) else fun _ => 0
theorem bu_yes {b l : Nat → Int} {q : Int} (h : ern q = 0) : buB b l q = c8M (moreB b (backB (upB l q))) := if_pos h
theorem bu_no {b l : Nat → Int} {q : Int} (h : ern q ≠ 0) : buB b l q = fun _ => 0 := if_neg h
theorem c8M_at (a : Nat → Int) (i : Nat) : 0 ≤ c8M a i ∧ c8M a i ≤ 255 := by unfold c8M; omega
theorem c8M_cl (a : Nat → Int) : clB 1048576 (c8M a) = c8M a := by
  funext i; have := c8M_at a i; exact cl_id _ _ (by omega) (by omega)
theorem less_c8 (b g : Nat → Int) : clB 255 (lessB (c8M b) (c8M g)) = lessB (c8M b) (c8M g) := by
  funext i
  have h1 := c8M_at b i; have h2 := c8M_at g i
  have e1 : clB 1048576 (c8M b) i = c8M b i := congrFun (c8M_cl b) i
  have e2 : clB 1048576 (c8M g) i = c8M g i := congrFun (c8M_cl g) i
  have e : lessB (c8M b) (c8M g) i = c8M b i - c8M g i := by unfold lessB; rw [e1, e2]
  show cl 255 (lessB (c8M b) (c8M g) i) = _
  exact cl_id _ _ (by rw [e]; omega) (by rw [e]; omega)
theorem bu_near (b g : Nat → Int) {k : Nat} (hk : k < 21) (i : Nat) (hi : i < 16) :
    -(stp k / 2) ≤ buB (c8M g) (downB (fwd (clB 1048576 (lessB (c8M b) (c8M g)))) k) k i - c8M b i ∧ buB (c8M g) (downB (fwd (clB 1048576 (lessB (c8M b) (c8M g)))) k) k i - c8M b i ≤ stp k / 2
      ∧ 0 ≤ buB (c8M g) (downB (fwd (clB 1048576 (lessB (c8M b) (c8M g)))) k) k i ∧ buB (c8M g) (downB (fwd (clB 1048576 (lessB (c8M b) (c8M g)))) k) k i ≤ 255 := by
  rw [bu_yes (ern_nat hk)]
  have hn := waves_near (lessB (c8M b) (c8M g)) hk i hi
  rw [less_c8] at hn
  have h1 := c8M_at b i; have h2 := c8M_at g i
  have e1 : clB 1048576 (c8M b) i = c8M b i := congrFun (c8M_cl b) i
  have e2 : clB 1048576 (c8M g) i = c8M g i := congrFun (c8M_cl g) i
  have e : lessB (c8M b) (c8M g) i = c8M b i - c8M g i := by unfold lessB; rw [e1, e2]
  rw [e] at hn
  have hs := stp_in hk
  generalize backB (upB (downB (fwd (clB 1048576 (lessB (c8M b) (c8M g)))) k) k) = y at hn ⊢
  have e3 : clB 1048576 y i = cl 1048576 (y i) := rfl
  have hc : cl 1048576 (y i) = max (-1048576) (min (y i) 1048576) ∨ cl 1048576 (y i) = min (max (y i) (-1048576)) 1048576 := by unfold cl; omega
  have e4 : moreB (c8M g) y i = c8M g i + cl 1048576 (y i) := by unfold moreB; rw [e2, e3]
  have e5 : c8M (moreB (c8M g) y) i = min (max (c8M g i + cl 1048576 (y i)) 0) 255 := by show min (max (moreB (c8M g) y i) 0) 255 = _; rw [e4]
  rw [e5]
  have : stp k / 2 ≤ 524288 := by omega
  omega
structure ChOk (k : Int) (c : Ch) : Prop where
  m : 0 ≤ c.m ∧ c.m ≤ mostK k
  past : pastB c.m = false → c.px = 0 ∧ c.py = 0
  next : nextB c.m = false → c.nx = 0 ∧ c.ny = 0
  far : ∀ i, i < 16 → -1048576 ≤ c.b i ∧ c.b i ≤ 1048576
  p : vecOk c.px c.py
  n : vecOk c.nx c.ny
theorem sameVec_eq {a b c d : Int} (h : sameVec a b c d = true) : a = c ∧ b = d := by unfold sameVec at h; simpa using h
theorem far_no {b : Nat → Int} : ∀ n, farCh b n = false → ∀ i, i < n → -1048576 ≤ b i ∧ b i ≤ 1048576 := by
  intro n
  induction n with
  | zero => intro _ i hi; omega
  | succ n ih =>
    intro h i hi
    unfold farCh at h
    obtain ⟨h1, h2⟩ := Bool.or_eq_false_iff.1 h
    by_cases e : i = n
    · subst e; have := of_decide_eq_false h2; omega
    · exact ih h1 i (by omega)
theorem ch_ok {k : Int} {c : Ch} (h : chE k c = 0) : ChOk k c := by
  unfold chE at h
  split at h
  · cases h
  · rename_i hb
    split at h
    · cases h
    · rename_i hf
      split at h
      · rename_i hv
        have hf' : farCh c.b 16 = false := by simpa using hf
        refine ⟨?_, fun z => ?_, fun z => ?_, far_no 16 hf', hv.1, hv.2⟩
        · unfold badM at hb; omega
        · have : ¬ (sameVec c.px c.py 0 0 = false) := fun e => hb (Or.inr (Or.inr (Or.inl ⟨z, e⟩)))
          exact sameVec_eq (by simpa using this)
        · have : ¬ (sameVec c.nx c.ny 0 0 = false) := fun e => hb (Or.inr (Or.inr (Or.inr ⟨z, e⟩)))
          exact sameVec_eq (by simpa using this)
      · cases h
theorem mostK_le (k : Int) : mostK k ≤ 6 := by unfold mostK; split; omega; split; omega; split <;> omega
theorem stV_back {has : Bool} {l : List Nat} {a : Nat} {X Y gx gy : Int} (hv : vecOk X Y) (h0 : has = false → X = 0 ∧ Y = 0) (hb : BitsAt l a (if has = true then vecBits X Y gx gy else [])) :
    stV has l gx gy (some a) = (X, Y, 0, some (a + (if has = true then vecBits X Y gx gy else []).length)) := by
  cases has with
  | true =>
    rw [if_pos rfl] at hb
    obtain ⟨h1, h2, h3, h4⟩ := vr_back l a X Y gx gy hv hb
    rw [stV_yes rfl, h1, h2, h3, h4, if_pos rfl]
  | false =>
    obtain ⟨rfl, rfl⟩ := h0 rfl
    rw [stV_no rfl, if_neg Bool.false_ne_true]; rfl
theorem ch_back {l : List Nat} {a : Nat} {k : Int} {c : Ch} {ax ay bx yy : Int} (hk : chE k c = 0) (hb : BitsAt l a (chBits c ax ay bx yy)) :
    ∃ d, rdCh l k ax ay bx yy (some a) = (d, 0, some (a + (chBits c ax ay bx yy).length)) ∧ sameCh d c = true := by
  have ho := ch_ok hk
  have hmk := mostK_le k
  unfold chBits at hb
  have hw := wholeRd_bits l a c.m (mostK k) ho.m.1 (by have := ho.m; omega) ho.m.2 hb.left.left.left
  have hp := stV_back (has := pastB c.m) ho.p ho.past (show BitsAt l (a + (wholeBits c.m).length) (pastBits c ax ay) from hb.left.left.right)
  have hn := stV_back (has := nextB c.m) ho.n ho.next (show BitsAt l (a + (wholeBits c.m ++ pastBits c ax ay).length) (nextBits c bx yy) from hb.left.right)
  obtain ⟨d, hs, hd⟩ := scan_back l _ c.b hb.right
  refine ⟨⟨c.m, c.px, c.py, c.nx, c.ny, d⟩, ?_, ?_⟩
  · have e1 : rdStep (wholeRd l (mostK k)) (some a) = (c.m, some (a + (wholeBits c.m).length)) := by simp only [rdStep, hw]
    unfold rdCh; rw [e1]; unfold rd1; rw [if_neg (by simp)]
    show rd2 l c.m bx yy (stV (pastB c.m) l ax ay (some (a + (wholeBits c.m).length))) = _
    rw [hp]
    unfold rd2; rw [if_pos rfl]
    rw [show a + (wholeBits c.m).length + (if pastB c.m = true then vecBits c.px c.py ax ay else []).length = a + (wholeBits c.m ++ pastBits c ax ay).length from by rw [List.length_append]; unfold pastBits; omega, hn]
    unfold rd3; rw [if_pos rfl]
    rw [show a + (wholeBits c.m ++ pastBits c ax ay).length + (if nextB c.m = true then vecBits c.nx c.ny bx yy else []).length = a + (wholeBits c.m ++ pastBits c ax ay ++ nextBits c bx yy).length from by rw [List.length_append (bs := nextBits c bx yy)]; unfold nextBits; omega]
    unfold rd4; simp only; rw [hs]; simp only [if_true]
    rw [show a + (wholeBits c.m ++ pastBits c ax ay ++ nextBits c bx yy).length + (scanBits c.b).length = a + (chBits c ax ay bx yy).length from by unfold chBits; rw [List.length_append (bs := scanBits c.b)]; omega]
  · unfold sameCh
    rw [sameI_self, sameI_self, decide_eq_true rfl, sameB_true (fun i hi => (hd i hi).trans (cl_id _ _ (ho.far i hi).1 (ho.far i hi).2))]; rfl
/-- Where a reader stands that stays where there is no choice. -/
def rdChT (l : List Nat) (k ax ay bx yy : Int) (st : Option Nat) : Option Nat := if (rdCh l k ax ay bx yy st).2.1 = 0 then (rdCh l k ax ay bx yy st).2.2 else st
theorem rdStep_at (l : List Nat) (n : Int) (a : Nat) : rdStep (wholeRd l n) (some a) = match wholeAt l a with
    | some (v, a') => if n < v then (0, none) else (v, some a')
    | none => (0, none) := by
  cases hq : wholeAt l a with
  | none => simp [rdStep, wholeRd, hq]
  | some x =>
    obtain ⟨v, a'⟩ := x
    by_cases h : n < v
    · simp [rdStep, wholeRd, hq, h]
    · simp [rdStep, wholeRd, hq, h]
theorem rdStep_most {l : List Nat} {m n : Int} (h : m ≤ n) (st : Option Nat) :
    rdStep (wholeRd l m) st = if (rdStep (wholeRd l n) st).2.isNone = true ∨ m < (rdStep (wholeRd l n) st).1 then (0, none) else rdStep (wholeRd l n) st := by
  cases st with
  | none => rfl
  | some a =>
    rw [rdStep_at l m a, rdStep_at l n a]
    cases wholeAt l a with
    | none => rfl
    | some x =>
      obtain ⟨v, a'⟩ := x
      simp only
      by_cases h1 : n < v
      · rw [if_pos h1, if_pos (show m < v by omega)]; exact (if_pos (Or.inl rfl)).symm
      · rw [if_neg h1]
        by_cases h2 : m < v
        · rw [if_pos h2, if_pos (Or.inr h2)]
        · rw [if_neg h2, if_neg (by rintro (z | z); cases z; exact h2 z)]
theorem chBits_short (c : Ch) (ax ay bx yy : Int) : (chBits c ax ay bx yy).length ≤ 2400 := by
  have h1 := vecBits_short c.px c.py ax ay
  have h2 := vecBits_short c.nx c.ny bx yy
  have h3 := wholeBits_short c.m
  have h4 := scanBits_length c.b
  have h5 : (pastBits c ax ay).length ≤ 128 := by unfold pastBits; split; omega; simp
  have h6 : (nextBits c bx yy).length ≤ 128 := by unfold nextBits; split; omega; simp
  unfold chBits; rw [List.length_append, List.length_append, List.length_append]; omega
theorem wrCh_short (k : Int) (c : Ch) (ax ay bx yy : Int) : (wrCh k c ax ay bx yy).length ≤ 2400 := by
  unfold wrCh; split
  · exact chBits_short _ _ _ _ _
  · simp
end Go.Proofs.YtdcbabgcbkdlhaaDoor
set_option maxRecDepth 100000
namespace Go.Proofs.YtdcbabgcbkdlhaaDoor
open Go.RowKit

def Rdi.ty (e : TypeId) : Prop := e = 82 ∨ e = 5
def Rfi.ty (e : TypeId) : Prop := e = 45
instance (e : TypeId) : Decidable (Rdi.ty e) := by unfold Rdi.ty; infer_instance
instance (e : TypeId) : Decidable (Rfi.ty e) := by unfold Rfi.ty; infer_instance
theorem Rdi.at {w : World} {T : Nat → Prop} {p : Nat} {l : List Nat} {st : Option Nat} (h : Rdi w T p l st) (x : Nat) (hx : T x) : ∃ c e f, w.heap[x]? = some (.cells c e f) ∧ Rdi.ty e := by
  obtain ⟨_, g, rfl, h⟩ := h
  have hr : ∃ a b, RdAt w p g l a b := by
    cases st with
    | none => obtain ⟨a, h⟩ := h; exact ⟨a, _, h⟩
    | some a => exact ⟨a, _, h.2⟩
  obtain ⟨a, b, h1, h2, _⟩ := hr
  rcases hx with rfl | rfl
  · exact ⟨_, _, _, h1, .inl rfl⟩
  · exact ⟨_, _, _, h2, .inr rfl⟩
theorem Rfi.at {w : World} {T : Nat → Prop} {p : Nat} {l : List Nat} {st : Option Nat} (h : Rfi w T p l st) (x : Nat) (hx : T x) : ∃ c e f, w.heap[x]? = some (.cells c e f) ∧ Rfi.ty e := by
  obtain ⟨_, _, rfl, h⟩ := h
  have hr : ∃ a b, RfAt w p l a b := by
    cases st with
    | none => obtain ⟨a, _, h⟩ := h; exact ⟨a, _, h⟩
    | some a => exact ⟨a, _, h.2⟩
  obtain ⟨a, b, h1⟩ := hr
  cases hx
  exact ⟨_, _, _, h1, rfl⟩
end Go.Proofs.YtdcbabgcbkdlhaaDoor
set_option maxRecDepth 100000
namespace Go.Proofs.YtdcbabgcbkdlhaaDoor
open Go.RowKit

/-- A kind of row: the slice's type, its elements', how many cells each has, the cells of an element, the one that is there when it is made. -/
structure RowT (α : Type) where
  t : TypeId
  e : TypeId
  k : Nat
  by_ : Nat
  enc : α → List Value
  d : α
  z : Value
class RowT.Ok {α : Type} (r : RowT α) : Prop where
  slice : Tryd.prog.underlying r.t = some (.slice r.e)
  info : (Tryd.prog.info? r.e).map (fun i => (i.zero, i.size, i.bytes)) = some (some r.z, r.k, r.by_)
  cells : r.z.cells.toList = r.enc r.d
  pos : 0 < r.k
  len : ∀ x, (r.enc x).length = r.k
  one : ∀ x, ∀ u ∈ r.enc x, u.oneCell' = true
  small : r.by_ ≤ 192

section
variable {α : Type} {r : RowT α}
theorem flat_len [h : r.Ok] (l : List α) : (l.flatMap r.enc).length = l.length * r.k := by
  induction l with
  | nil => simp
  | cons x l ih => rw [List.flatMap_cons, List.length_append, ih, h.len, List.length_cons, Nat.add_mul]; omega
/-- A row that can be read. -/
def RoA (r : RowT α) (w : World) (T : Nat → Prop) (v : Value) (l : List α) : Prop :=
  ∃ a cap, v = .slice a l.length cap ∧ l.length ≤ cap ∧ cap ≤ maxLen ∧ (a = none → cap = 0) ∧ Live w T ∧
    (0 < l.length → ∃ b off, a = some ⟨b, off, none⟩ ∧ T b ∧ ∀ j u, (l.flatMap r.enc)[j]? = some u → w.cell? ⟨b, off + j, none⟩ = some u)
theorem RoA.nil (r : RowT α) (w : World) : RoA r w noB (.slice none 0 0) [] := ⟨none, 0, rfl, Nat.le_refl _, by unfold maxLen; omega, fun _ => rfl, fun _ h => h.elim, fun h => absurd h (by simp)⟩
theorem RoA.live {w : World} {T : Nat → Prop} {v : Value} {l : List α} (h : RoA r w T v l) : Live w T := by obtain ⟨_, _, _, _, _, _, h, _⟩ := h; exact h
theorem RoA.all {S : Nat → Prop} {w w' : World} {T : Nat → Prop} {v : Value} {l : List α} (h : RoA r w T v l) (k : Kept S w w') (ha : Apart T S) : RoA r w' T v l := by
  obtain ⟨a, cap, rfl, h1, h2, h3, hL, hc⟩ := h
  refine ⟨a, cap, rfl, h1, h2, h3, hL.mono k, fun hp => ?_⟩
  obtain ⟨b, off, rfl, hb, hcell⟩ := hc hp
  exact ⟨b, off, rfl, hb, fun j u hj => (World.cell?_of_block (k.block b (hL b hb) (ha b hb))).trans (hcell j u hj)⟩
theorem RoA.row {A B : World} {row : Option Nat} {n : Nat} {T : Nat → Prop} {v : Value} {l : List α} [hk : r.Ok] (h : RoA r A T v l) (hg : A.grownBy B row) (hr : RowNew n A row) : RoA r B T v l := by
  obtain ⟨a, cap, rfl, h1, h2, h3, hL, hc⟩ := h
  have k := kept_row hg
  refine ⟨a, cap, rfl, h1, h2, h3, hL.mono k, fun hp => ?_⟩
  obtain ⟨b, off, rfl, hb, hcell⟩ := hc hp
  have h0 : 0 < (l.flatMap r.enc).length := by rw [flat_len (r := r)]; exact Nat.mul_pos hp hk.pos
  refine ⟨b, off, rfl, hb, fun j u hj => (World.cell?_of_block (k.block b (hL b hb) fun e => ?_)).trans (hcell j u hj)⟩
  obtain ⟨_, o, ho, hn⟩ := hr b e.symm
  have := hcell 0 _ (List.getElem?_eq_getElem h0)
  unfold World.cell? at this
  simp only at this
  rw [ho] at this
  cases o <;> simp_all [Obj.isCells]
theorem RoA.one {w : World} {T : Nat → Prop} {v : Value} {l : List α} (h : RoA r w T v l) : v.oneCell' = true := by obtain ⟨a, cap, rfl, _⟩ := h; rfl
theorem RoA.oneC {w : World} {T : Nat → Prop} {v : Value} {l : List α} (h : RoA r w T v l) : oneC v = true := by obtain ⟨a, cap, rfl, _⟩ := h; rfl
/-- A row of the call's own. -/
def RoO (r : RowT α) (w : World) (T : Nat → Prop) (v : Value) (l : List α) : Prop := w.ownsRow 0 r.e r.k v l.length (l.flatMap r.enc) ∧ ∀ i, T i ↔ v.ownBlock = some i
theorem RoO.nil (r : RowT α) (w : World) : RoO r w noB (.slice none 0 0) [] := ⟨World.ownsRow_nil w 0 r.e r.k, fun i => ⟨fun h => h.elim, fun h => by cases h⟩⟩
theorem RoO.live {w : World} {T : Nat → Prop} {v : Value} {l : List α} (h : RoO r w T v l) : Live w T := fun i hi => (h.1.lt i ((h.2 i).1 hi)).2
theorem RoO.all {S : Nat → Prop} {w w' : World} {T : Nat → Prop} {v : Value} {l : List α} (h : RoO r w T v l) (k : Kept S w w') (ha : Apart T S) : RoO r w' T v l := by
  refine ⟨⟨h.1.1, ?_⟩, h.2⟩
  rcases h.1.2 with hn | ⟨g, cap, cur, rfl, hb, hg, rest⟩
  · exact .inl hn
  · exact .inr ⟨g, cap, cur, rfl, hb, k.at hg (ha g ((h.2 g).2 rfl)), rest⟩
theorem RoO.roa {w : World} {T : Nat → Prop} {v : Value} {l : List α} (h : RoO r w T v l) : RoA r w T v l := by
  have hL := h.live
  rcases h.1.2 with ⟨rfl, h0⟩ | ⟨g, cap, cur, rfl, hb, hg, h1, h2, h3, h4⟩
  · have : l = [] := List.eq_nil_of_length_eq_zero h0
    subst this
    exact ⟨none, 0, rfl, Nat.le_refl _, by unfold maxLen; omega, fun _ => rfl, hL, fun h => absurd h (by simp)⟩
  · refine ⟨some ⟨g, 0, none⟩, cap, rfl, h1, h2, by simp, hL, fun _ => ⟨g, 0, rfl, (h.2 g).2 rfl, fun j u hj => ?_⟩⟩
    have := h.1.cells (g := g) rfl j u hj
    rwa [Addr.add_lit] at this
theorem RoO.cells {w : World} {T : Nat → Prop} {v : Value} {l : List α} (h : RoO r w T v l) : Cells w T := fun i hi => by
  have hv := (h.2 i).1 hi
  rcases h.1.2 with ⟨rfl, _⟩ | ⟨g, cap, cur, rfl, _, hg, _⟩
  · cases hv
  · cases hv; exact ⟨_, hg, rfl⟩
theorem RoO.row {A B : World} {row : Option Nat} {n : Nat} {T : Nat → Prop} {v : Value} {l : List α} (h : RoO r A T v l) (hg : A.grownBy B row) (hr : RowNew n A row) : RoO r B T v l := h.all (kept_row hg) (h.cells.apart hr)
theorem RoO.one {w : World} {T : Nat → Prop} {v : Value} {l : List α} (h : RoO r w T v l) : v.oneCell' = true := h.roa.one
theorem RoO.oneC {w : World} {T : Nat → Prop} {v : Value} {l : List α} (h : RoO r w T v l) : oneC v = true := h.roa.oneC
end


end Go.Proofs.YtdcbabgcbkdlhaaDoor
set_option maxRecDepth 100000
namespace Go.Proofs.YtdcbabgcbkdlhaaDoor
open Go.RowKit

def pairV (a b : Int) : Value := .agg #[.int .i64 a, .int .i64 b]
/-- A struct of two ints. -/
structure TwoInts (K : TypeId) : Prop where
  und : Tryd.prog.underlying K = some (.struct (Tryd.prog.fieldsOf K))
  hel : Tryd.prog.stoodInHeld K = false
  flds : ∃ n0 n1 : String, n0 ≠ "_" ∧ n1 ≠ "_" ∧ (Tryd.prog.fieldsOf K).toList.map (fun f => (f.name, f.type, f.offset)) = [(n0, 3, 0), (n1, 3, 1)]
theorem TwoInts.split {K : TypeId} (h : TwoInts K) : ∃ f0 f1 : Field, Tryd.prog.fieldsOf K = #[f0, f1] ∧ f0.name ≠ "_" ∧ f1.name ≠ "_" ∧ f0.type = 3 ∧ f1.type = 3 ∧ f0.offset = 0 ∧ f1.offset = 1 := by
  obtain ⟨n0, n1, h0, h1, hf⟩ := h.flds
  have hlen : (Tryd.prog.fieldsOf K).toList.length = 2 := by simpa using congrArg List.length hf
  match hq : (Tryd.prog.fieldsOf K).toList, hlen with
  | [f0, f1], _ =>
    rw [hq] at hf
    simp only [List.map_cons, List.map_nil, List.cons.injEq, Prod.mk.injEq, and_true] at hf
    obtain ⟨⟨e0, t0, o0⟩, ⟨e1, t1, o1⟩⟩ := hf
    exact ⟨f0, f1, by rw [← hq], by rw [e0]; exact h0, by rw [e1]; exact h1, t0, t1, o0, o1⟩
/-- A map's entries, as they stand. -/
def entV (es : List MapEntry) (L : List ((Int × Int) × Int × Int)) : Prop := es.map (fun e => (e.key, e.val)) = L.map fun q => (pairV q.1.1 q.1.2, pairV q.2.1 q.2.2)
abbrev Ents := List ((Int × Int) × Int × Int)
def lookL (a b : Int) : Ents → Int × Int
  | [] => (0, 0)
  | q :: r => if q.1 = (a, b) then q.2 else lookL a b r
/-- A map in memory, and what it tells of each place. -/
def Mpf (w : World) (r : Nat) (g : Int → Int → Int × Int) : Prop := ∃ es clock L, w.heap[r]? = some (.map es clock) ∧ entV es.toList L ∧ (L.map (·.1)).Nodup ∧ ∀ a b, lookL a b L = g a b
theorem Mpf.lt {w : World} {r : Nat} {g : Int → Int → Int × Int} (h : Mpf w r g) : r < w.heap.size := by obtain ⟨_, _, _, h, _⟩ := h; exact lt_of_heap h
theorem Mpf.all {S : Nat → Prop} {w w' : World} {r : Nat} {g : Int → Int → Int × Int} (h : Mpf w r g) (k : Kept S w w') (hn : ¬ S r) : Mpf w' r g := by
  obtain ⟨es, clock, L, h1, h2⟩ := h; exact ⟨es, clock, L, k.at h1 hn, h2⟩
theorem Mpf.congr {w : World} {r : Nat} {g g' : Int → Int → Int × Int} (h : Mpf w r g) (e : ∀ a b, g a b = g' a b) : Mpf w r g' := by
  obtain ⟨es, clock, L, h1, h2, h3, h4⟩ := h; exact ⟨es, clock, L, h1, h2, h3, fun a b => (h4 a b).trans (e a b)⟩
end Go.Proofs.YtdcbabgcbkdlhaaDoor
set_option maxRecDepth 100000
namespace Go.Proofs.YtdcbabgcbkdlhaaDoor
open Go.RowKit

theorem stcT_reader : StcT Tryd.prog 82 3 := ⟨_, Tryd.underlying82, rfl, by kernel_rfl⟩
/-- A block of bytes that are read. -/
def Rby (w : World) (T : Nat → Prop) (g : Nat) (l : List Nat) : Prop := T = onB g ∧ w.heap[g]? = some (.cells (byteVals l).toArray 5 (0, 0))
theorem Rby.live {w : World} {T : Nat → Prop} {g : Nat} {l : List Nat} (h : Rby w T g l) : Live w T := by
  obtain ⟨rfl, h⟩ := h; exact onB_live (lt_of_heap h)
theorem Rby.all {S : Nat → Prop} {w w' : World} {T : Nat → Prop} {g : Nat} {l : List Nat} (h : Rby w T g l) (k : Kept S w w') (ha : Apart T S) : Rby w' T g l := by
  obtain ⟨rfl, h⟩ := h; exact ⟨rfl, k.at h (ha g rfl)⟩
def okR (l : List Nat) (st : Option Nat) (a : Nat) (b : Bool) : Prop := match st with
  | some n => n ≤ 8 * l.length ∧ a = n ∧ b = false
  | none => b = true
theorem rdis_open {w : World} {p g : Nat} {l : List Nat} {st : Option Nat} (h : RdIs w p g l st) : ∃ (a : Nat) (b : Bool), okR l st a b ∧ Stc w p 82 [.slice (some ⟨g, 0, none⟩) l.length l.length, .int .i64 (a : Int), .bool b] ∧ Rby w (onB g) g l ∧ Apart (onB p) (onB g) := by
  cases st with
  | none =>
    obtain ⟨a, h⟩ := h
    exact ⟨a, true, rfl, h.1, ⟨rfl, h.2.1⟩, fun i h1 h2 => h.2.2 (h2.symm.trans h1)⟩
  | some n => exact ⟨n, false, ⟨h.1, rfl, rfl⟩, h.2.1, ⟨rfl, h.2.2.1⟩, fun i h1 h2 => h.2.2.2 (h2.symm.trans h1)⟩
theorem rdis_close {w : World} {p g : Nat} {l : List Nat} {st : Option Nat} {a : Nat} {b : Bool} (ho : okR l st a b) (h1 : Stc w p 82 [.slice (some ⟨g, 0, none⟩) l.length l.length, .int .i64 (a : Int), .bool b]) (h2 : Rby w (onB g) g l) (ha : Apart (onB p) (onB g)) : RdIs w p g l st := by
  have hne : g ≠ p := fun e => ha g e rfl
  cases st with
  | none => cases ho; exact ⟨a, h1, h2.2, hne⟩
  | some n => obtain ⟨h3, rfl, rfl⟩ := ho; exact ⟨h3, h1, h2.2, hne⟩
theorem rdi_open {w : World} {T : Nat → Prop} {p : Nat} {l : List Nat} {st : Option Nat} (h : Rdi w T p l st) : ∃ (g a : Nat) (b : Bool), Fair l ∧ (∀ i, T i ↔ (onB p i ∨ onB g i)) ∧ okR l st a b ∧ Stc w p 82 [.slice (some ⟨g, 0, none⟩) l.length l.length, .int .i64 (a : Int), .bool b] ∧ Rby w (onB g) g l ∧ Apart (onB p) (onB g) := by
  obtain ⟨hf, g, rfl, h⟩ := h
  obtain ⟨a, b, h1, h2, h3, h4⟩ := rdis_open h
  exact ⟨g, a, b, hf, fun i => Iff.rfl, h1, h2, h3, h4⟩
theorem rdi_close {w : World} {p g : Nat} {l : List Nat} {st : Option Nat} {a : Nat} {b : Bool} (hf : Fair l) (ho : okR l st a b) (h1 : Stc w p 82 [.slice (some ⟨g, 0, none⟩) l.length l.length, .int .i64 (a : Int), .bool b]) (h2 : Rby w (onB g) g l) (ha : Apart (onB p) (onB g)) : Rdi w (fun i => onB p i ∨ onB g i) p l st := ⟨hf, g, rfl, rdis_close ho h1 h2 ha⟩
/-- At q a copy of the reader at p, that goes on by itself. -/
def Rd2 (w : World) (T : Nat → Prop) (q p : Nat) (l : List Nat) (st1 st : Option Nat) : Prop := Fair l ∧ ∃ g, (∀ i, T i ↔ (onB p i ∨ onB q i ∨ onB g i)) ∧ q ≠ p ∧ RdIs w p g l st1 ∧ RdIs w q g l st
theorem Rd2.live {w : World} {T : Nat → Prop} {q p : Nat} {l : List Nat} {st1 st : Option Nat} (h : Rd2 w T q p l st1 st) : Live w T := by
  obtain ⟨_, g, hT, _, h1, h2⟩ := h
  intro i hi
  rcases (hT i).1 hi with e | e | e <;> cases e
  · exact h1.lt.1
  · exact h2.lt.1
  · exact h1.lt.2.1
theorem Rd2.all {S : Nat → Prop} {w w' : World} {T : Nat → Prop} {q p : Nat} {l : List Nat} {st1 st : Option Nat} (h : Rd2 w T q p l st1 st) (k : Kept S w w') (ha : Apart T S) : Rd2 w' T q p l st1 st := by
  obtain ⟨hf, g, hT, hn, h1, h2⟩ := h
  have np := ha p ((hT p).2 (.inl rfl))
  have nq := ha q ((hT q).2 (.inr (.inl rfl)))
  have ng := ha g ((hT g).2 (.inr (.inr rfl)))
  exact ⟨hf, g, hT, hn, h1.kept k np ng, h2.kept k nq ng⟩
/-- Where a reader stands behind a vector: where it stood, if there is none. -/
def vrT (l : List Nat) (gx gy : Int) (s : Option Nat) : Option Nat := if rdOk l gx gy s then vrS l s else s
theorem vrT_ok {l : List Nat} {gx gy : Int} {s : Option Nat} (h : vrE l gx gy s = 0) : vrT l gx gy s = vrS l s := by
  unfold vrE at h; unfold vrT
  split at h
  · rename_i h'; rw [if_pos h']
  · cases h
set_option maxHeartbeats 4000000 in
set_option maxRecDepth 100000 in
theorem vt_clamped (n : Int) (w0 : World) :
  Calls Tryd.prog 106 #[.int .i64 (n)] w0 fun e w' => e = .returned (.int .i64 (cl 64 n)) ∧ Kept (fun _ => False) w0 w' := by
 refine calls_wq (args := [.int .i64 (n)]) 6 Tryd.func106 rfl rfl (Nat.le_of_ble_eq_true rfl) ?_
 have K0 := Kept.refl (fun _ => False) w0
 refine wq_seq ?_
 refine wq_region ?_
 refine wl_v (.int .i64 (0)) rfl rfl (y_asg rfl rfl ⟨rfl, rfl⟩) ?_
 refine wl_nil fun F1 hF2 => ?_
 have s3 : F1 0 = .int .i64 (n) := (hF2 0).trans rfl
 have s4 : F1 6 = undef := (hF2 6).trans rfl
 clear hF2
 refine then_normal ?_
 refine wq_seq ?_
 refine wq_region ?_
 refine wl_v (.int .i64 (n)) rfl rfl (y_mov rfl s3 ⟨rfl, rfl⟩) ?_
 refine wl_v (.int .i64 (min (n) (64))) rfl rfl (y_minR rfl rfl rfl rfl ⟨rfl, rfl⟩) ?_
 refine wl_v (.int .i64 (cl 64 n)) rfl rfl (y_maxR rfl rfl rfl ((by unfold cl; omega)) ⟨rfl, rfl⟩) ?_
 refine wl_v (.int .i64 (cl 64 n)) rfl rfl (y_asg rfl rfl ⟨rfl, rfl⟩) ?_
 refine wl_nil fun F5 hF6 => ?_
 have s7 := (hF6 6).trans s4
 have s8 : F5 2 = .int .i64 (cl 64 n) := (hF6 2).trans rfl
 clear hF6
 refine then_normal ?_
 refine wq_ret ?_
 exact end_tmp (v := .int .i64 (cl 64 n)) s7 rfl rfl s8 ⟨rfl, K0⟩
set_option maxHeartbeats 4000000 in
set_option maxRecDepth 100000 in
theorem vt_near (X Y : Int) (w0 : World) :
  Calls Tryd.prog 74 #[.agg #[.int .i64 (X), .int .i64 (Y)]] w0 fun e w' => e = .returned (.agg #[.int .i64 (cl 64 X), .int .i64 (cl 64 Y)]) ∧ Kept (fun _ => False) w0 w' := by
 refine calls_wq (args := [.agg #[.int .i64 (X), .int .i64 (Y)]]) 10 Tryd.func74 rfl rfl (Nat.le_of_ble_eq_true rfl) ?_
 have K0 := Kept.refl (fun _ => False) w0
 refine wq_seq ?_
 refine wq_region ?_
 refine wl_box_stc (vs := [.int .i64 (X), .int .i64 (Y)]) rfl rfl rfl rfl fun p1 w2 B4 g5 k3 => ?_
 have K7 := K0.trans k3 (fun _ _ x => x.elim)
 refine wl_alloc_stc (n := 2) (vs := [.int .i64 (0), .int .i64 (0)]) rfl rfl rfl (by kernel_rfl) fun p8 w9 B11 g12 k10 => ?_
 have gr13 : Grew w0 noB (onB p8) := Grew.new K7 g12
 have B15 := B4.all k10 id
 have K16 := K7.trans k10 (fun _ _ x => x.elim)
 refine wl_nil fun F17 hF18 => ?_
 have s19 : F17 10 = undef := (hF18 10).trans rfl
 have s20 : F17 1 = .pointer (some ⟨p1, 0, none⟩) := (hF18 1).trans rfl
 have s21 : F17 2 = .pointer (some ⟨p8, 0, none⟩) := (hF18 2).trans rfl
 clear hF18
 refine then_normal ?_
 refine wq_seq ?_
 refine wq_tail 7 [some 3, some 4, some 5, some 6, some 7, some 8, some 9] [Pd.eq (.pointer (some ⟨p1, 0, none⟩)), Pd.eq (.int .i64 (X)), Pd.eq (.int .i64 (cl 64 (X))), Pd.eq (.pointer (some ⟨p1, 1, none⟩)), Pd.eq (.int .i64 (Y)), Pd.eq (.int .i64 (cl 64 (Y))), Pd.eq (.agg #[.int .i64 (cl 64 (X)), .int .i64 (cl 64 (Y))])] (by kernel_rfl) (by kernel_rfl) (by kernel_rfl) ?_ ?_
 ·refine stepsF_cons ?_ ?_
  ·refine StepF.one rfl fun F_ w_ hR hout hD => ?_
   exact (y_fieldR (n := 1) rfl ((hout 1 rfl (by decide)).trans s20) Tryd.underlying23 rfl (by kernel_rfl) (by decide) rfl ⟨rfl, Kept.refl _ _⟩)
  refine stepsF_cons ?_ ?_
  ·refine StepF.one rfl fun F_ w_ hR hout hD => ?_
   have g3 : F_ 3 = .pointer (some ⟨p1, 0, none⟩) := (hD.get 0 rfl rfl rfl)
   exact (y_ld_stc rfl g3 Tryd.underlying3 (B15.all hR id) rfl rfl ⟨rfl, Kept.refl _ _⟩)
  refine stepsF_cons ?_ ?_
  ·refine StepF.one rfl fun F_ w_ hR hout hD => ?_
   have g4 : F_ 4 = .int .i64 (X) := (hD.get 0 rfl rfl rfl)
   exact (y_cs rfl rfl rfl (fun _ _ => by kernel_rfl) (ev_func _) (vsC g4 vsN) (vt_clamped (X)  _   ) (fun e_ w_ h_ => ⟨_, h_.1, rfl, h_.2⟩))
  refine stepsF_cons ?_ ?_
  ·refine StepF.one rfl fun F_ w_ hR hout hD => ?_
   exact (y_fieldR (n := 1) rfl ((hout 1 rfl (by decide)).trans s20) Tryd.underlying23 rfl (by kernel_rfl) (by decide) rfl ⟨rfl, Kept.refl _ _⟩)
  refine stepsF_cons ?_ ?_
  ·refine StepF.one rfl fun F_ w_ hR hout hD => ?_
   have g6 : F_ 6 = .pointer (some ⟨p1, 1, none⟩) := (hD.get 0 rfl rfl rfl)
   exact (y_ld_stc rfl g6 Tryd.underlying3 (B15.all hR id) rfl rfl ⟨rfl, Kept.refl _ _⟩)
  refine stepsF_cons ?_ ?_
  ·refine StepF.one rfl fun F_ w_ hR hout hD => ?_
   have g7 : F_ 7 = .int .i64 (Y) := (hD.get 0 rfl rfl rfl)
   exact (y_cs rfl rfl rfl (fun _ _ => by kernel_rfl) (ev_func _) (vsC g7 vsN) (vt_clamped (Y)  _   ) (fun e_ w_ h_ => ⟨_, h_.1, rfl, h_.2⟩))
  refine stepsF_cons ?_ ?_
  ·refine StepF.one rfl fun F_ w_ hR hout hD => ?_
   have g5 : F_ 5 = .int .i64 (cl 64 (X)) := (hD.get 0 rfl rfl rfl)
   have g8 : F_ 8 = .int .i64 (cl 64 (Y)) := (hD.get 1 rfl rfl rfl)
   exact (y_buildL (l' := [(0, .int .i64 (cl 64 (X))), (1, .int .i64 (cl 64 (Y)))]) (cells := #[.int .i64 (cl 64 (X)), .int .i64 (cl 64 (Y))]) rfl (bpC g5 (bpC g8 bpN)) (by kernel_rfl) rfl ⟨rfl, Kept.refl _ _⟩)
  exact stepsF_nil
 intro v22 F23 w24 k25 G26 hF27
 have B30 := B11.all k25 id
 have K31 := K16.trans k25 (fun _ _ x => x.elim)
 have s32 := (hF27 10).trans s19
 have s33 := (hF27 2).trans s21
 have s34 : F23 9 = .agg #[.int .i64 (cl 64 (X)), .int .i64 (cl 64 (Y))] := (hF27 9).trans (G26 6 (by decide))
 clear G26 hF27
 refine wl_store_stc (us := [.int .i64 (cl 64 (X)), .int .i64 (cl 64 (Y))]) stcT_vector rfl rfl rfl s33 s34 B30 rfl (oneI rfl (oneI rfl oneN)) fun w35 B36 k37 => ?_
 have K39 := K31.trans k37 (Grew.ok (S := fun _ => False) gr13 noB_le)
 refine wl_nil fun F40 hF41 => ?_
 have s42 := (hF41 10).trans s32
 have s43 := (hF41 2).trans s33
 clear hF41
 refine then_normal ?_
 refine wq_ret ?_
 exact end_stc (vs := [.int .i64 (cl 64 (X)), .int .i64 (cl 64 (Y))]) stcT_vector s42 rfl rfl s43 B36 ⟨rfl, K39⟩
set_option maxHeartbeats 4000000 in
set_option maxRecDepth 100000 in
theorem vt_write (p : Nat) (bs : List Bool) (X Y A B : Int) (T_w : Nat → Prop) (w0 : World) (hm : bs.length + 200 < 1099511627776) (h_w : Wri w0 T_w p (bs)) :
  Calls Tryd.prog 35 #[.pointer (some ⟨p, 0, none⟩), .agg #[.int .i64 (X), .int .i64 (Y)], .agg #[.int .i64 (A), .int .i64 (B)]] w0 fun e w' => ∃ (T_w' : Nat → Prop), e = .returned (.tuple #[]) ∧ Kept (T_w) w0 w' ∧ (Wri w' T_w' p (bs ++ vecBits X Y A B) ∧ Grew w0 T_w T_w') := by
 refine calls_wq (args := [.pointer (some ⟨p, 0, none⟩), .agg #[.int .i64 (X), .int .i64 (Y)], .agg #[.int .i64 (A), .int .i64 (B)]]) 24 Tryd.func35 rfl rfl (Nat.le_of_ble_eq_true rfl) ?_
 have K0 := Kept.refl (T_w) w0
 have h1 := cl64 X
 have h2 := cl64 Y
 have h3 := cl64 A
 have h4 := cl64 B
 have h5 := signedBits_short (cl 64 X - cl 64 A)
 have g_w := Grew.refl w0 T_w
 refine wq_seq ?_
 refine wq_region ?_
 refine wl_box_stc (vs := [.int .i64 (X), .int .i64 (Y)]) rfl rfl rfl rfl fun p1 w2 B4 g5 k3 => ?_
 have gr6 : Grew w0 noB (onB p1) := Grew.new K0 g5
 have ap7 : Apart (onB p1) (T_w) := Apart.new g5 (h_w).live
 have B8 := h_w.all k3 Apart.none
 have K9 := K0.trans k3 (fun _ _ x => x.elim)
 refine wl_box_stc (vs := [.int .i64 (A), .int .i64 (B)]) rfl rfl rfl rfl fun p10 w11 B13 g14 k12 => ?_
 have gr15 : Grew w0 noB (onB p10) := Grew.new K9 g14
 have ap16 : Apart (onB p10) (T_w) := Apart.new g14 (B8).live
 have ap17 : Apart (onB p10) (onB p1) := Apart.new g14 (onB_live (B4).lt)
 have B18 := B8.all k12 Apart.none
 have B19 := B4.all k12 id
 have K20 := K9.trans k12 (fun _ _ x => x.elim)
 refine wl_nil fun F21 hF22 => ?_
 have s23 : F21 0 = .pointer (some ⟨p, 0, none⟩) := (hF22 0).trans rfl
 have s24 : F21 24 = undef := (hF22 24).trans rfl
 have s25 : F21 4 = .pointer (some ⟨p1, 0, none⟩) := (hF22 4).trans rfl
 have s26 : F21 5 = .pointer (some ⟨p10, 0, none⟩) := (hF22 5).trans rfl
 clear hF22
 refine then_normal ?_
 refine wq_seq ?_
 refine wq_tail 4 [some 6, some 7, some 8, some 9] [Pd.eq (.agg #[.int .i64 (X), .int .i64 (Y)]), Pd.eq (.agg #[.int .i64 (cl 64 (X)), .int .i64 (cl 64 (Y))]), Pd.eq (.agg #[.int .i64 (A), .int .i64 (B)]), Pd.eq (.agg #[.int .i64 (cl 64 (A)), .int .i64 (cl 64 (B))])] (by kernel_rfl) (by kernel_rfl) (by kernel_rfl) ?_ ?_
 ·refine stepsF_cons ?_ ?_
  ·refine StepF.one rfl fun F_ w_ hR hout hD => ?_
   exact (y_load_stc stcT_vector rfl ((hout 4 rfl (by decide)).trans s25) (B19.all hR id) ⟨rfl, Kept.refl _ _⟩)
  refine stepsF_cons ?_ ?_
  ·refine StepF.one rfl fun F_ w_ hR hout hD => ?_
   have g6 : F_ 6 = .agg #[.int .i64 (X), .int .i64 (Y)] := (hD.get 0 rfl rfl rfl)
   exact (y_cs rfl rfl rfl (fun _ _ => by kernel_rfl) (ev_func _) (vsC g6 vsN) (vt_near (X) (Y)  _   ) (fun e_ w_ h_ => ⟨_, h_.1, rfl, h_.2⟩))
  refine stepsF_cons ?_ ?_
  ·refine StepF.one rfl fun F_ w_ hR hout hD => ?_
   exact (y_load_stc stcT_vector rfl ((hout 5 rfl (by decide)).trans s26) (B13.all hR id) ⟨rfl, Kept.refl _ _⟩)
  refine stepsF_cons ?_ ?_
  ·refine StepF.one rfl fun F_ w_ hR hout hD => ?_
   have g8 : F_ 8 = .agg #[.int .i64 (A), .int .i64 (B)] := (hD.get 0 rfl rfl rfl)
   exact (y_cs rfl rfl rfl (fun _ _ => by kernel_rfl) (ev_func _) (vsC g8 vsN) (vt_near (A) (B)  _   ) (fun e_ w_ h_ => ⟨_, h_.1, rfl, h_.2⟩))
  exact stepsF_nil
 intro v27 F28 w29 k30 G31 hF32
 have B34 := B18.all k30 Apart.none
 have B35 := B19.all k30 id
 have B36 := B13.all k30 id
 have K37 := K20.trans k30 (fun _ _ x => x.elim)
 have s38 := (hF32 0).trans s23
 have s39 := (hF32 24).trans s24
 have s40 := (hF32 4).trans s25
 have s41 := (hF32 5).trans s26
 have s42 : F28 7 = .agg #[.int .i64 (cl 64 (X)), .int .i64 (cl 64 (Y))] := (hF32 7).trans (G31 1 (by decide))
 have s43 : F28 9 = .agg #[.int .i64 (cl 64 (A)), .int .i64 (cl 64 (B))] := (hF32 9).trans (G31 3 (by decide))
 clear G31 hF32
 refine wl_store_stc (us := [.int .i64 (cl 64 (X)), .int .i64 (cl 64 (Y))]) stcT_vector rfl rfl rfl s40 s42 B35 rfl (oneI rfl (oneI rfl oneN)) fun w44 B45 k46 => ?_
 have B47 := B34.all k46 (fun i h x => (((ap7).symm) i h x))
 have B48 := B36.all k46 (fun x => ((ap17) p10 rfl x))
 have K49 := K37.trans k46 (Grew.ok (S := T_w) gr6 noB_le)
 refine wl_store_stc (us := [.int .i64 (cl 64 (A)), .int .i64 (cl 64 (B))]) stcT_vector rfl rfl rfl s41 s43 B48 rfl (oneI rfl (oneI rfl oneN)) fun w50 B51 k52 => ?_
 have B53 := B47.all k52 (fun i h x => (((ap16).symm) i h x))
 have B54 := B45.all k52 (fun x => (((ap17).symm) p1 rfl x))
 have K55 := K49.trans k52 (Grew.ok (S := T_w) gr15 noB_le)
 refine wl_nil fun F56 hF57 => ?_
 have s58 := (hF57 0).trans s38
 have s59 := (hF57 24).trans s39
 have s60 := (hF57 4).trans s40
 have s61 := (hF57 5).trans s41
 clear hF57
 refine then_normal ?_
 refine wq_seq ?_
 refine wq_region ?_
 refine wl_v (.pointer (some ⟨p, 0, none⟩)) rfl rfl (y_mov rfl s58 ⟨rfl, rfl⟩) ?_
 refine wl_v (.pointer (some ⟨p1, 0, none⟩)) rfl rfl (y_fieldR (n := 1) rfl s60 Tryd.underlying23 rfl (by kernel_rfl) (by decide) rfl ⟨rfl, rfl⟩) ?_
 refine wl_v (.int .i64 (cl 64 (X))) rfl rfl (y_ld_stc rfl rfl Tryd.underlying3 B54 rfl rfl ⟨rfl, rfl⟩) ?_
 refine wl_v (.pointer (some ⟨p10, 0, none⟩)) rfl rfl (y_fieldR (n := 1) rfl s61 Tryd.underlying23 rfl (by kernel_rfl) (by decide) rfl ⟨rfl, rfl⟩) ?_
 refine wl_v (.int .i64 (cl 64 (A))) rfl rfl (y_ld_stc rfl rfl Tryd.underlying3 B51 rfl rfl ⟨rfl, rfl⟩) ?_
 refine wl_v (.int .i64 ((cl 64 (X)) - (cl 64 (A)))) rfl rfl (y_sub rfl rfl rfl (i64_i rfl (by omega)) ⟨rfl, rfl⟩) ?_
 refine wl_call (R := fun v_ w_ => ∃ (T64 : Nat → Prop), .tuple #[] = v_ ∧ Kept (T_w) w50 w_ ∧ (Wri w_ T64 p ((bs) ++ signedBits ((cl 64 (X)) - (cl 64 (A)))) ∧ Grew w50 (T_w) T64)) rfl rfl (y_cs rfl rfl rfl (fun _ _ => by kernel_rfl) (ev_func _) (vsC rfl (vsC rfl vsN)) (t_signed (p) (bs) ((cl 64 (X)) - (cl 64 (A))) (T_w) _ (by omega) B53 ) (fun e_ w_ h_ => by obtain ⟨T64_, he_, hr_⟩ := h_; exact ⟨_, he_, T64_, rfl, hr_⟩)) ?_
 rintro _ w62 ⟨T64, rfl, k63, ⟨B65, g66⟩⟩
 have B67 := B54.all k63 (fun x => ((ap7) p1 rfl x))
 have B68 := B51.all k63 (fun x => ((ap16) p10 rfl x))
 have K69 := K55.trans k63 (fun i hi x => ((Grew.ok (S := T_w) g_w (fun _ x => x)) i hi x))
 have gr70 := g_w.trans K55 g66
 refine wl_nil fun F73 hF74 => ?_
 have s75 := (hF74 0).trans s58
 have s76 := (hF74 24).trans s59
 have s77 := (hF74 4).trans s60
 have s78 := (hF74 5).trans s61
 clear hF74
 refine then_normal ?_
 refine wq_region ?_
 refine wl_v (.pointer (some ⟨p, 0, none⟩)) rfl rfl (y_mov rfl s75 ⟨rfl, rfl⟩) ?_
 refine wl_v (.pointer (some ⟨p1, 1, none⟩)) rfl rfl (y_fieldR (n := 1) rfl s77 Tryd.underlying23 rfl (by kernel_rfl) (by decide) rfl ⟨rfl, rfl⟩) ?_
 refine wl_v (.int .i64 (cl 64 (Y))) rfl rfl (y_ld_stc rfl rfl Tryd.underlying3 B67 rfl rfl ⟨rfl, rfl⟩) ?_
 refine wl_v (.pointer (some ⟨p10, 1, none⟩)) rfl rfl (y_fieldR (n := 1) rfl s78 Tryd.underlying23 rfl (by kernel_rfl) (by decide) rfl ⟨rfl, rfl⟩) ?_
 refine wl_v (.int .i64 (cl 64 (B))) rfl rfl (y_ld_stc rfl rfl Tryd.underlying3 B68 rfl rfl ⟨rfl, rfl⟩) ?_
 refine wl_v (.int .i64 ((cl 64 (Y)) - (cl 64 (B)))) rfl rfl (y_sub rfl rfl rfl (i64_i rfl (by omega)) ⟨rfl, rfl⟩) ?_
 refine wl_call (R := fun v_ w_ => ∃ (T81 : Nat → Prop), .tuple #[] = v_ ∧ Kept (T64) w62 w_ ∧ (Wri w_ T81 p (((bs) ++ signedBits ((cl 64 (X)) - (cl 64 (A)))) ++ signedBits ((cl 64 (Y)) - (cl 64 (B)))) ∧ Grew w62 (T64) T81)) rfl rfl (y_cs rfl rfl rfl (fun _ _ => by kernel_rfl) (ev_func _) (vsC rfl (vsC rfl vsN)) (t_signed (p) ((bs) ++ signedBits ((cl 64 (X)) - (cl 64 (A)))) ((cl 64 (Y)) - (cl 64 (B))) (T64) _ (by rw [List.length_append]; omega) B65 ) (fun e_ w_ h_ => by obtain ⟨T81_, he_, hr_⟩ := h_; exact ⟨_, he_, T81_, rfl, hr_⟩)) ?_
 rintro _ w79 ⟨T81, rfl, k80, ⟨B82, g83⟩⟩
 have K86 := K69.trans k80 (fun i hi x => ((Grew.ok (S := T_w) gr70 (fun _ x => x)) i hi x))
 have gr87 := gr70.trans K69 g83
 refine wl_nil fun F90 hF91 => ?_
 have s92 := (hF91 24).trans s76
 clear hF91
 exact end_none s92 rfl ⟨T81, rfl, K86, ⟨(by unfold vecBits; rw [← List.append_assoc]; exact B82), gr87⟩⟩
end Go.Proofs.YtdcbabgcbkdlhaaDoor
