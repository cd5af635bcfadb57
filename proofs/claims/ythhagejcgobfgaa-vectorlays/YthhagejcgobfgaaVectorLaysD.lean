/- What VectorLays reaches of my texts, part 4. -/
import Derived.Test.YthhagejcgobfgaaVectorLaysC
namespace Go.Proofs.Ythhagejcgobfgaa
open Go.RowKit

def o1 : Option VF := putO (optV 2 2) 0 0 4 2
def o2 : Option VF := putO o1 1 0 6 (-2)
def b10 : List Bool := vecBits 3 (-1) 1 0
set_option maxRecDepth 100000 in
theorem awake10 : newVE 2 2 = 0 ∧ setO (optV 2 2) 0 0 4 2 = 0 ∧ gOX o2 0 1 = 4 ∧ gOY o2 0 1 = 0 ∧ setO o2 2 0 0 0 = 1 ∧ setO (putO o2 2 0 0 0) 0 0 32 0 = 90 ∧ newVE 0 1 = 1 ∧ b10.length = 8 := by
  refine ⟨?_, ?_, ?_, ?_, ?_, ?_, ?_, ?_⟩ <;> decide +kernel
set_option maxRecDepth 100000 in
theorem awake10r : vrX (pack b10) 1 0 (some 0) = 3 ∧ vrY (pack b10) 1 0 (some 0) = -1 ∧ vrE (pack b10) 1 0 (some 0) = 0 ∧ med 1 3 2 = 2 ∧ med 5 3 9 = 5 := by
  refine ⟨?_, ?_, ?_, ?_, ?_⟩ <;> decide +kernel

set_option maxHeartbeats 4000000 in
set_option maxRecDepth 100000 in
theorem vawake_any (w0 : World) :
    Calls Try.prog 10 #[] w0 fun e w' => e = .returned (.bool true) ∧ Kept (fun _ => False) w0 w' := by
  refine calls_wq (args := []) 87 Try.func10 rfl rfl (Nat.le_of_ble_eq_true rfl) ?_
  have K0 := Kept.refl (fun _ => False) w0
  have hf := Lib.hid awake10
  have hg := Lib.hid awake10r
  obtain ⟨b0, hb0⟩ : ∃ b0, b0 = b10 := ⟨_, rfl⟩
  have hlen : b0.length = 8 := by rw [hb0]; exact hf.out.2.2.2.2.2.2.2
  refine wq_seq ?_
  refine wq_region ?_
  refine wl_v (.bool false) rfl rfl (y_asg rfl rfl ⟨rfl, rfl⟩) ?_
  refine wl_nil fun F1 hF2 => ?_
  have s3 : F1 87 = undef := (hF2 87).trans rfl
  clear hF2
  refine then_normal ?_
  refine wq_seq ?_
  refine wq_region ?_
  refine wl_call (R := fun v_ w_ => ∃ (v4 : Value) (T7 : Nat → Prop), .tuple #[v4, .int .i64 (newVE (2) (2))] = v_ ∧ Kept (fun _ => False) w0 w_ ∧ (Vpo w_ T7 v4 ((optV (2) (2))) ∧ Grew w0 noB T7)) rfl rfl (y_cs rfl rfl rfl (fun _ _ => by kernel_rfl) (ev_func _) (vsC rfl (vsC rfl vsN)) (vt_new (2) (2)  _   ) (fun e_ w_ h_ => by obtain ⟨v4_, T7_, he_, hr_⟩ := h_; exact ⟨_, he_, v4_, T7_, rfl, hr_⟩)) ?_
  rintro _ w5 ⟨v4, T7, rfl, k6, ⟨B8, g9⟩⟩
  have K10 := K0.trans k6 (fun _ _ x => x.elim)
  have gr11 : Grew w0 noB (T7) := Grew.new K0 g9
  refine wl_v (.tuple #[v4, .int .i64 (newVE (2) (2))]) rfl rfl (y_mov rfl rfl ⟨rfl, rfl⟩) ?_
  refine wl_v (v4) rfl rfl (y_ext rfl rfl rfl ⟨rfl, rfl⟩) ?_
  refine wl_v (.int .i64 (newVE (2) (2))) rfl rfl (y_ext rfl rfl rfl ⟨rfl, rfl⟩) ?_
  refine wl_v (v4) rfl rfl (y_asg rfl rfl ⟨rfl, rfl⟩) ?_
  refine wl_v (.int .i64 (newVE (2) (2))) rfl rfl (y_asg rfl rfl ⟨rfl, rfl⟩) ?_
  refine wl_nil fun F12 hF13 => ?_
  have s14 : F12 87 = undef := (hF13 87).trans s3
  have s15 : F12 1 = v4 := (hF13 1).trans rfl
  have s16 : F12 2 = .int .i64 (newVE (2) (2)) := (hF13 2).trans rfl
  clear hF13
  refine then_normal ?_
  refine wq_seq ?_
  refine wq_region ?_
  refine wl_v (v4) rfl rfl (y_mov rfl s15 ⟨rfl, rfl⟩) ?_
  refine wl_v (.agg #[.int .i64 (4), .int .i64 (2)]) rfl rfl (y_buildL (l' := [(0, .int .i64 (4)), (1, .int .i64 (2))]) (cells := #[.int .i64 (4), .int .i64 (2)]) rfl (bpC rfl (bpC rfl bpN)) (by kernel_rfl) rfl ⟨rfl, rfl⟩) ?_
  refine wl_call (R := fun v_ w_ => ∃ (T19 : Nat → Prop), .int .i64 (setO ((optV (2) (2))) (0) (0) (4) (2)) = v_ ∧ Kept (T7) w5 w_ ∧ (Vpo w_ T19 v4 ((putO ((optV (2) (2))) (0) (0) (4) (2))) ∧ Grew w5 (T7) T19)) rfl rfl (y_cs rfl rfl rfl (fun _ _ => by kernel_rfl) (ev_func _) (vsC rfl (vsC rfl (vsC rfl (vsC rfl vsN)))) (vt_set (v4) ((optV (2) (2))) (0) (0) (4) (2) (T7) _ (by unfold inI; omega) (by unfold inI; omega) B8 ) (fun e_ w_ h_ => by obtain ⟨T19_, he_, hr_⟩ := h_; exact ⟨_, he_, T19_, rfl, hr_⟩)) ?_
  rintro _ w17 ⟨T19, rfl, k18, ⟨B20, g21⟩⟩
  have K22 := K10.trans k18 (fun i hi x => ((Grew.ok (S := fun _ => False) gr11 noB_le) i hi x))
  have gr23 := gr11.trans K10 g21
  refine wl_v (.int .i64 (setO ((optV (2) (2))) (0) (0) (4) (2))) rfl rfl (y_asg rfl rfl ⟨rfl, rfl⟩) ?_
  refine wl_nil fun F24 hF25 => ?_
  have s26 : F24 87 = undef := (hF25 87).trans s14
  have s27 : F24 1 = v4 := (hF25 1).trans s15
  have s28 : F24 2 = .int .i64 (newVE (2) (2)) := (hF25 2).trans s16
  have s29 : F24 3 = .int .i64 (setO ((optV (2) (2))) (0) (0) (4) (2)) := (hF25 3).trans rfl
  clear hF25
  refine then_normal ?_
  refine wq_seq ?_
  refine wq_region ?_
  refine wl_v (v4) rfl rfl (y_mov rfl s27 ⟨rfl, rfl⟩) ?_
  refine wl_v (.agg #[.int .i64 (6), .int .i64 (-2)]) rfl rfl (y_buildL (l' := [(0, .int .i64 (6)), (1, .int .i64 (-2))]) (cells := #[.int .i64 (6), .int .i64 (-2)]) rfl (bpC rfl (bpC rfl bpN)) (by kernel_rfl) rfl ⟨rfl, rfl⟩) ?_
  refine wl_call (R := fun v_ w_ => ∃ (T32 : Nat → Prop), .int .i64 (setO ((putO ((optV (2) (2))) (0) (0) (4) (2))) (1) (0) (6) (-2)) = v_ ∧ Kept (T19) w17 w_ ∧ (Vpo w_ T32 v4 ((putO ((putO ((optV (2) (2))) (0) (0) (4) (2))) (1) (0) (6) (-2))) ∧ Grew w17 (T19) T32)) rfl rfl (y_cs rfl rfl rfl (fun _ _ => by kernel_rfl) (ev_func _) (vsC rfl (vsC rfl (vsC rfl (vsC rfl vsN)))) (vt_set (v4) ((putO ((optV (2) (2))) (0) (0) (4) (2))) (1) (0) (6) (-2) (T19) _ (by unfold inI; omega) (by unfold inI; omega) B20 ) (fun e_ w_ h_ => by obtain ⟨T32_, he_, hr_⟩ := h_; exact ⟨_, he_, T32_, rfl, hr_⟩)) ?_
  rintro _ w30 ⟨T32, rfl, k31, ⟨B33, g34⟩⟩
  have K35 := K22.trans k31 (fun i hi x => ((Grew.ok (S := fun _ => False) gr23 noB_le) i hi x))
  have gr36 := gr23.trans K22 g34
  refine wl_nil fun F37 hF38 => ?_
  have s39 : F37 87 = undef := (hF38 87).trans s26
  have s40 : F37 1 = v4 := (hF38 1).trans s27
  have s41 : F37 2 = .int .i64 (newVE (2) (2)) := (hF38 2).trans s28
  have s42 : F37 3 = .int .i64 (setO ((optV (2) (2))) (0) (0) (4) (2)) := (hF38 3).trans s29
  clear hF38
  refine then_normal ?_
  refine wq_seq ?_
  refine wq_region ?_
  refine wl_v (.agg #[.slice none 0 0, .int .i64 0]) rfl rfl (y_buildR (cells := #[.slice none 0 0, .int .i64 0]) rfl (by kernel_rfl) rfl ⟨rfl, rfl⟩) ?_
  refine wl_box_wri rfl rfl rfl rfl fun p43 w44 T48 B47 g49 k45 => ?_
  have gr50 : Grew w0 noB (T48) := Grew.new K35 g49
  have ap51 : Apart (T48) (T32) := Apart.new g49 (B33).live
  have B52 := B33.all k45 Apart.none
  have K53 := K35.trans k45 (fun _ _ x => x.elim)
  refine wl_v (.pointer (some ⟨p43, 0, none⟩)) rfl rfl (y_asg rfl rfl ⟨rfl, rfl⟩) ?_
  refine wl_nil fun F54 hF55 => ?_
  have s56 : F54 87 = undef := (hF55 87).trans s39
  have s57 : F54 1 = v4 := (hF55 1).trans s40
  have s58 : F54 2 = .int .i64 (newVE (2) (2)) := (hF55 2).trans s41
  have s59 : F54 3 = .int .i64 (setO ((optV (2) (2))) (0) (0) (4) (2)) := (hF55 3).trans s42
  have s60 : F54 4 = .pointer (some ⟨p43, 0, none⟩) := (hF55 4).trans rfl
  clear hF55
  refine then_normal ?_
  refine wq_seq ?_
  refine wq_region ?_
  refine wl_v (.pointer (some ⟨p43, 0, none⟩)) rfl rfl (y_mov rfl s60 ⟨rfl, rfl⟩) ?_
  refine wl_v (.agg #[.int .i64 (3), .int .i64 (-1)]) rfl rfl (y_buildL (l' := [(0, .int .i64 (3)), (1, .int .i64 (-1))]) (cells := #[.int .i64 (3), .int .i64 (-1)]) rfl (bpC rfl (bpC rfl bpN)) (by kernel_rfl) rfl ⟨rfl, rfl⟩) ?_
  refine wl_v (.agg #[.int .i64 (1), .int .i64 (0)]) rfl rfl (y_buildL (l' := [(0, .int .i64 (1))]) (cells := #[.int .i64 (1), .int .i64 (0)]) rfl (bpC rfl bpN) (by kernel_rfl) rfl ⟨rfl, rfl⟩) ?_
  refine wl_call (R := fun v_ w_ => ∃ (T63 : Nat → Prop), .tuple #[] = v_ ∧ Kept (T48) w44 w_ ∧ (Wri w_ T63 p43 ((([] : List Bool)) ++ vecBits (3) (-1) (1) (0)) ∧ Grew w44 (T48) T63)) rfl rfl (y_cs rfl rfl rfl (fun _ _ => by kernel_rfl) (ev_func _) (vsC rfl (vsC rfl (vsC rfl vsN))) (vt_write (p43) (([] : List Bool)) (3) (-1) (1) (0) (T48) _ (by simp) B47 ) (fun e_ w_ h_ => by obtain ⟨T63_, he_, hr_⟩ := h_; exact ⟨_, he_, T63_, rfl, hr_⟩)) ?_
  rintro _ w61 ⟨T63, rfl, k62, ⟨B64, g65⟩⟩
  have B66 := B52.all k62 (fun i h x => (((ap51).symm) i h x))
  have K67 := K53.trans k62 (fun i hi x => ((Grew.ok (S := fun _ => False) gr50 noB_le) i hi x))
  have gr68 := gr50.trans K53 g65
  have ap69 : Apart T63 (T32) := (ap51).grew g65 (B52).live
  refine wl_nil fun F70 hF71 => ?_
  have s72 : F70 87 = undef := (hF71 87).trans s56
  have s73 : F70 1 = v4 := (hF71 1).trans s57
  have s74 : F70 2 = .int .i64 (newVE (2) (2)) := (hF71 2).trans s58
  have s75 : F70 3 = .int .i64 (setO ((optV (2) (2))) (0) (0) (4) (2)) := (hF71 3).trans s59
  have s76 : F70 4 = .pointer (some ⟨p43, 0, none⟩) := (hF71 4).trans s60
  clear hF71
  refine then_normal ?_
  refine wq_seq ?_
  have B77 : Wri w61 (T63) p43 (b0) := ((by rw [hb0]; exact B64))
  refine wq_region ?_
  refine wl_v (.pointer (some ⟨p43, 0, none⟩)) rfl rfl (y_mov rfl s76 ⟨rfl, rfl⟩) ?_
  refine wl_call (R := fun v_ w_ => ∃ (v78 : Value) (T81 : Nat → Prop), v78 = v_ ∧ Kept (fun _ => False) w61 w_ ∧ (Byt w_ T81 v78 (pack (b0)) ∧ Grew w61 noB T81)) rfl rfl (y_cs rfl rfl rfl (fun _ _ => by kernel_rfl) (ev_func _) (vsC rfl vsN) (t_bytes (p43) (b0) (T63) _ (by omega) B77 ) (fun e_ w_ h_ => by obtain ⟨v78_, T81_, he_, hr_⟩ := h_; exact ⟨_, he_, v78_, T81_, rfl, hr_⟩)) ?_
  rintro _ w79 ⟨v78, T81, rfl, k80, ⟨B82, g83⟩⟩
  have B84 := B66.all k80 Apart.none
  have B85 := B77.all k80 Apart.none
  have K86 := K67.trans k80 (fun _ _ x => x.elim)
  have gr87 : Grew w0 noB (T81) := Grew.new K67 g83
  have ap88 : Apart (T81) (T32) := Apart.new g83 (B66).live
  have ap89 : Apart (T81) (T63) := Apart.new g83 (B77).live
  refine wl_call (R := fun v_ w_ => ∃ (v90 : Nat) (T93 : Nat → Prop), .pointer (some ⟨v90, 0, none⟩) = v_ ∧ Kept (fun _ => False) w79 w_ ∧ (Rdi w_ T93 v90 ((pack (b0))) (some 0) ∧ Grew w79 noB T93)) rfl rfl (y_cs rfl rfl rfl (fun _ _ => by kernel_rfl) (ev_func _) (vsC rfl vsN) (t_new (v78) (pack (b0)) (T81) _ (by rw [pack_length]; unfold nbytes; omega) B82 ) (fun e_ w_ h_ => by obtain ⟨v90_, T93_, he_, hr_⟩ := h_; exact ⟨_, he_, v90_, T93_, rfl, hr_⟩)) ?_
  rintro _ w91 ⟨v90, T93, rfl, k92, ⟨B94, g95⟩⟩
  have B96 := B84.all k92 Apart.none
  have B97 := B85.all k92 Apart.none
  have B98 := B82.all k92 Apart.none
  have K99 := K86.trans k92 (fun _ _ x => x.elim)
  have gr100 : Grew w0 noB (T93) := Grew.new K86 g95
  have ap101 : Apart (T93) (T32) := Apart.new g95 (B84).live
  have ap102 : Apart (T93) (T63) := Apart.new g95 (B85).live
  have ap103 : Apart (T93) (T81) := Apart.new g95 (B82).live
  refine wl_v (.agg #[.int .i64 (1), .int .i64 (0)]) rfl rfl (y_buildL (l' := [(0, .int .i64 (1))]) (cells := #[.int .i64 (1), .int .i64 (0)]) rfl (bpC rfl bpN) (by kernel_rfl) rfl ⟨rfl, rfl⟩) ?_
  refine wl_call (R := fun v_ w_ => ∃ (T106 : Nat → Prop), .tuple #[.agg #[.int .i64 (vrX ((pack (b0))) (1) (0) (some 0)), .int .i64 (vrY ((pack (b0))) (1) (0) (some 0))], .int .i64 (vrE ((pack (b0))) (1) (0) (some 0))] = v_ ∧ Kept (T93) w91 w_ ∧ (Rdi w_ T106 v90 (((pack (b0)))) (vrT ((pack (b0))) (1) (0) (some 0)) ∧ Grew w91 (T93) T106)) rfl rfl (y_cs rfl rfl rfl (fun _ _ => by kernel_rfl) (ev_func _) (vsC rfl (vsC rfl vsN)) (vt_read (v90) ((pack (b0))) (some 0) (1) (0) (T93) _  B94 ) (fun e_ w_ h_ => by obtain ⟨T106_, he_, hr_⟩ := h_; exact ⟨_, he_, T106_, rfl, hr_⟩)) ?_
  rintro _ w104 ⟨T106, rfl, k105, ⟨B107, g108⟩⟩
  have B109 := B96.all k105 (fun i h x => (((ap101).symm) i h x))
  have B110 := B97.all k105 (fun i h x => (((ap102).symm) i h x))
  have B111 := B98.all k105 (fun i h x => (((ap103).symm) i h x))
  have K112 := K99.trans k105 (fun i hi x => ((Grew.ok (S := fun _ => False) gr100 noB_le) i hi x))
  have gr113 := gr100.trans K99 g108
  have ap114 : Apart T106 (T32) := (ap101).grew g108 (B96).live
  have ap115 : Apart T106 (T63) := (ap102).grew g108 (B97).live
  have ap116 : Apart T106 (T81) := (ap103).grew g108 (B98).live
  refine wl_v (.tuple #[.agg #[.int .i64 (vrX ((pack (b0))) (1) (0) (some 0)), .int .i64 (vrY ((pack (b0))) (1) (0) (some 0))], .int .i64 (vrE ((pack (b0))) (1) (0) (some 0))]) rfl rfl (y_mov rfl rfl ⟨rfl, rfl⟩) ?_
  refine wl_v (.agg #[.int .i64 (vrX ((pack (b0))) (1) (0) (some 0)), .int .i64 (vrY ((pack (b0))) (1) (0) (some 0))]) rfl rfl (y_ext rfl rfl rfl ⟨rfl, rfl⟩) ?_
  refine wl_v (.int .i64 (vrE ((pack (b0))) (1) (0) (some 0))) rfl rfl (y_ext rfl rfl rfl ⟨rfl, rfl⟩) ?_
  refine wl_alloc_stc (n := 2) (vs := [.int .i64 (0), .int .i64 (0)]) rfl rfl rfl (by kernel_rfl) fun p117 w118 B120 g121 k119 => ?_
  have gr122 : Grew w0 noB (onB p117) := Grew.new K112 g121
  have ap123 : Apart (onB p117) (T32) := Apart.new g121 (B109).live
  have ap124 : Apart (onB p117) (T63) := Apart.new g121 (B110).live
  have ap125 : Apart (onB p117) (T81) := Apart.new g121 (B111).live
  have ap126 : Apart (onB p117) (T106) := Apart.new g121 (B107).live
  have B127 := B109.all k119 Apart.none
  have B128 := B110.all k119 Apart.none
  have B129 := B111.all k119 Apart.none
  have B130 := B107.all k119 Apart.none
  have K131 := K112.trans k119 (fun _ _ x => x.elim)
  refine wl_store_stc (us := [.int .i64 (vrX ((pack (b0))) (1) (0) (some 0)), .int .i64 (vrY ((pack (b0))) (1) (0) (some 0))]) stcT_vector rfl rfl rfl rfl rfl B120 rfl (oneI rfl (oneI rfl oneN)) fun w132 B133 k134 => ?_
  have B135 := B127.all k134 (fun i h x => (((ap123).symm) i h x))
  have B136 := B128.all k134 (fun i h x => (((ap124).symm) i h x))
  have B137 := B129.all k134 (fun i h x => (((ap125).symm) i h x))
  have B138 := B130.all k134 (fun i h x => (((ap126).symm) i h x))
  have K139 := K131.trans k134 (Grew.ok (S := fun _ => False) gr122 noB_le)
  refine wl_v (.int .i64 (vrE ((pack (b0))) (1) (0) (some 0))) rfl rfl (y_asg rfl rfl ⟨rfl, rfl⟩) ?_
  refine wl_nil fun F140 hF141 => ?_
  have s142 : F140 87 = undef := (hF141 87).trans s72
  have s143 : F140 1 = v4 := (hF141 1).trans s73
  have s144 : F140 2 = .int .i64 (newVE (2) (2)) := (hF141 2).trans s74
  have s145 : F140 3 = .int .i64 (setO ((optV (2) (2))) (0) (0) (4) (2)) := (hF141 3).trans s75
  have s146 : F140 4 = .pointer (some ⟨p43, 0, none⟩) := (hF141 4).trans s76
  have s147 : F140 5 = .pointer (some ⟨p117, 0, none⟩) := (hF141 5).trans rfl
  have s148 : F140 6 = .int .i64 (vrE ((pack (b0))) (1) (0) (some 0)) := (hF141 6).trans rfl
  clear hF141
  refine then_normal ?_
  refine wq_seq ?_
  refine wq_region ?_
  refine wl_call (R := fun v_ w_ => ∃ (v149 : Value) (T152 : Nat → Prop), .tuple #[v149, .int .i64 (newVE (0) (1))] = v_ ∧ Kept (fun _ => False) w132 w_ ∧ (Vpo w_ T152 v149 ((optV (0) (1))) ∧ Grew w132 noB T152)) rfl rfl (y_cs rfl rfl rfl (fun _ _ => by kernel_rfl) (ev_func _) (vsC rfl (vsC rfl vsN)) (vt_new (0) (1)  _   ) (fun e_ w_ h_ => by obtain ⟨v149_, T152_, he_, hr_⟩ := h_; exact ⟨_, he_, v149_, T152_, rfl, hr_⟩)) ?_
  rintro _ w150 ⟨v149, T152, rfl, k151, ⟨B153, g154⟩⟩
  have B155 := B135.all k151 Apart.none
  have B156 := B136.all k151 Apart.none
  have B157 := B137.all k151 Apart.none
  have B158 := B138.all k151 Apart.none
  have B159 := B133.all k151 id
  have K160 := K139.trans k151 (fun _ _ x => x.elim)
  have gr161 : Grew w0 noB (T152) := Grew.new K139 g154
  have ap162 : Apart (T152) (T32) := Apart.new g154 (B135).live
  have ap163 : Apart (T152) (T63) := Apart.new g154 (B136).live
  have ap164 : Apart (T152) (T81) := Apart.new g154 (B137).live
  have ap165 : Apart (T152) (T106) := Apart.new g154 (B138).live
  have ap166 : Apart (T152) (onB p117) := Apart.new g154 (onB_live (B133).lt)
  refine wl_v (.tuple #[v149, .int .i64 (newVE (0) (1))]) rfl rfl (y_mov rfl rfl ⟨rfl, rfl⟩) ?_
  refine wl_v (v149) rfl rfl (y_ext rfl rfl rfl ⟨rfl, rfl⟩) ?_
  refine wl_v (.int .i64 (newVE (0) (1))) rfl rfl (y_ext rfl rfl rfl ⟨rfl, rfl⟩) ?_
  refine wl_v (v149) rfl rfl (y_asg rfl rfl ⟨rfl, rfl⟩) ?_
  refine wl_v (.int .i64 (newVE (0) (1))) rfl rfl (y_asg rfl rfl ⟨rfl, rfl⟩) ?_
  refine wl_nil fun F167 hF168 => ?_
  have s169 : F167 87 = undef := (hF168 87).trans s142
  have s170 : F167 1 = v4 := (hF168 1).trans s143
  have s171 : F167 2 = .int .i64 (newVE (2) (2)) := (hF168 2).trans s144
  have s172 : F167 3 = .int .i64 (setO ((optV (2) (2))) (0) (0) (4) (2)) := (hF168 3).trans s145
  have s173 : F167 4 = .pointer (some ⟨p43, 0, none⟩) := (hF168 4).trans s146
  have s174 : F167 5 = .pointer (some ⟨p117, 0, none⟩) := (hF168 5).trans s147
  have s175 : F167 6 = .int .i64 (vrE ((pack (b0))) (1) (0) (some 0)) := (hF168 6).trans s148
  have s176 : F167 8 = .int .i64 (newVE (0) (1)) := (hF168 8).trans rfl
  clear hF168
  refine then_normal ?_
  refine wq_seq ?_
  refine wq_region ?_
  refine wl_v (.int .i64 (newVE (2) (2))) rfl rfl (y_mov rfl s171 ⟨rfl, rfl⟩) ?_
  refine wl_v (.bool true) rfl rfl (y_eqlI rfl rfl rfl (decide_eq_true hf.out.1) ⟨rfl, rfl⟩) ?_
  refine wl_v (.bool true) rfl rfl (y_mov rfl rfl ⟨rfl, rfl⟩) ?_
  refine wl_vw (.int .i64 (setO ((optV (2) (2))) (0) (0) (4) (2))) 2 true 39 rfl rfl rfl rfl rfl (y_mov rfl s172 ⟨rfl, rfl⟩) ?_
  refine wl_vw (.bool true) 2 true 39 rfl rfl rfl rfl rfl (y_eqlI rfl rfl rfl (decide_eq_true hf.out.2.1) ⟨rfl, rfl⟩) ?_
  refine wl_v (.bool true) rfl rfl (y_pickT rfl rfl rfl ⟨rfl, rfl⟩) ?_
  refine wl_v (.bool true) rfl rfl (y_mov rfl rfl ⟨rfl, rfl⟩) ?_
  refine wl_vw (v4) 6 true 43 rfl rfl rfl rfl rfl (y_mov rfl s170 ⟨rfl, rfl⟩) ?_
  refine wl_callw (R := fun v_ w_ => v_ = .agg #[.int .i64 (gOX ((putO ((putO ((optV (2) (2))) (0) (0) (4) (2))) (1) (0) (6) (-2))) (0) (1)), .int .i64 (gOY ((putO ((putO ((optV (2) (2))) (0) (0) (4) (2))) (1) (0) (6) (-2))) (0) (1))] ∧ Kept (fun _ => False) w150 w_) 6 true 43 rfl rfl rfl rfl rfl (y_cs rfl rfl rfl (fun _ _ => by kernel_rfl) (ev_func _) (vsC rfl (vsC rfl (vsC rfl vsN))) (vt_guess (v4) ((putO ((putO ((optV (2) (2))) (0) (0) (4) (2))) (1) (0) (6) (-2))) (0) (1) (T32) _ (by unfold inI; omega) (by unfold inI; omega) B155 ) (fun e_ w_ h_ => ⟨_, h_.1, rfl, h_.2⟩)) ?_
  rintro _ w177 ⟨rfl, k178⟩
  have B179 := B155.all k178 Apart.none
  have B180 := B156.all k178 Apart.none
  have B181 := B157.all k178 Apart.none
  have B182 := B158.all k178 Apart.none
  have B183 := B159.all k178 id
  have B184 := B153.all k178 Apart.none
  have K185 := K160.trans k178 (fun _ _ x => x.elim)
  refine wl_vw (.agg #[.int .i64 (4), .int .i64 (0)]) 6 true 43 rfl rfl rfl rfl rfl (y_buildL (l' := [(0, .int .i64 (4))]) (cells := #[.int .i64 (4), .int .i64 (0)]) rfl (bpC rfl bpN) (by kernel_rfl) rfl ⟨rfl, rfl⟩) ?_
  refine wl_vw (.bool true) 6 true 43 rfl rfl rfl rfl rfl (y_eqlVec rfl rfl rfl ((by have e1 := hf.out.2.2.1; have e2 := hf.out.2.2.2.1; unfold o2 o1 at e1 e2; rw [e1, e2]; rfl)) ⟨rfl, rfl⟩) ?_
  refine wl_v (.bool true) rfl rfl (y_pickT rfl rfl rfl ⟨rfl, rfl⟩) ?_
  refine wl_v (.bool true) rfl rfl (y_mov rfl rfl ⟨rfl, rfl⟩) ?_
  refine wl_vw (v4) 12 true 49 rfl rfl rfl rfl rfl (y_mov rfl s170 ⟨rfl, rfl⟩) ?_
  refine wl_vw (.agg #[.int .i64 (0), .int .i64 (0)]) 12 true 49 rfl rfl rfl rfl rfl (y_buildL (l' := []) (cells := #[.int .i64 (0), .int .i64 (0)]) rfl bpN (by kernel_rfl) rfl ⟨rfl, rfl⟩) ?_
  refine wl_callw (R := fun v_ w_ => ∃ (T188 : Nat → Prop), .int .i64 (setO ((putO ((putO ((optV (2) (2))) (0) (0) (4) (2))) (1) (0) (6) (-2))) (2) (0) (0) (0)) = v_ ∧ Kept (T32) w177 w_ ∧ (Vpo w_ T188 v4 ((putO ((putO ((putO ((optV (2) (2))) (0) (0) (4) (2))) (1) (0) (6) (-2))) (2) (0) (0) (0))) ∧ Grew w177 (T32) T188)) 12 true 49 rfl rfl rfl rfl rfl (y_cs rfl rfl rfl (fun _ _ => by kernel_rfl) (ev_func _) (vsC rfl (vsC rfl (vsC rfl (vsC rfl vsN)))) (vt_set (v4) ((putO ((putO ((optV (2) (2))) (0) (0) (4) (2))) (1) (0) (6) (-2))) (2) (0) (0) (0) (T32) _ (by unfold inI; omega) (by unfold inI; omega) B179 ) (fun e_ w_ h_ => by obtain ⟨T188_, he_, hr_⟩ := h_; exact ⟨_, he_, T188_, rfl, hr_⟩)) ?_
  rintro _ w186 ⟨T188, rfl, k187, ⟨B189, g190⟩⟩
  have B191 := B180.all k187 (fun i h x => ((ap69) i h x))
  have B192 := B181.all k187 (fun i h x => ((ap88) i h x))
  have B193 := B182.all k187 (fun i h x => ((ap114) i h x))
  have B194 := B183.all k187 (fun x => ((ap123) p117 rfl x))
  have B195 := B184.all k187 (fun i h x => ((ap162) i h x))
  have K196 := K185.trans k187 (fun i hi x => ((Grew.ok (S := fun _ => False) gr36 noB_le) i hi x))
  have gr197 := gr36.trans K185 g190
  have ap198 : Apart T188 (T63) := ((ap69).symm).grew g190 (B180).live
  have ap199 : Apart T188 (T81) := ((ap88).symm).grew g190 (B181).live
  have ap200 : Apart T188 (T106) := ((ap114).symm).grew g190 (B182).live
  have ap201 : Apart T188 (onB p117) := ((ap123).symm).grew g190 (onB_live (B183).lt)
  have ap202 : Apart T188 (T152) := ((ap162).symm).grew g190 (B184).live
  refine wl_vw (.bool true) 12 true 49 rfl rfl rfl rfl rfl (y_eqlI rfl rfl rfl (decide_eq_true hf.out.2.2.2.2.1) ⟨rfl, rfl⟩) ?_
  refine wl_v (.bool true) rfl rfl (y_pickT rfl rfl rfl ⟨rfl, rfl⟩) ?_
  refine wl_v (.bool true) rfl rfl (y_mov rfl rfl ⟨rfl, rfl⟩) ?_
  refine wl_vw (v4) 18 true 55 rfl rfl rfl rfl rfl (y_mov rfl s170 ⟨rfl, rfl⟩) ?_
  refine wl_vw (.agg #[.int .i64 (32), .int .i64 (0)]) 18 true 55 rfl rfl rfl rfl rfl (y_buildL (l' := [(0, .int .i64 (32))]) (cells := #[.int .i64 (32), .int .i64 (0)]) rfl (bpC rfl bpN) (by kernel_rfl) rfl ⟨rfl, rfl⟩) ?_
  refine wl_callw (R := fun v_ w_ => ∃ (T205 : Nat → Prop), .int .i64 (setO ((putO ((putO ((putO ((optV (2) (2))) (0) (0) (4) (2))) (1) (0) (6) (-2))) (2) (0) (0) (0))) (0) (0) (32) (0)) = v_ ∧ Kept (T188) w186 w_ ∧ (Vpo w_ T205 v4 ((putO ((putO ((putO ((putO ((optV (2) (2))) (0) (0) (4) (2))) (1) (0) (6) (-2))) (2) (0) (0) (0))) (0) (0) (32) (0))) ∧ Grew w186 (T188) T205)) 18 true 55 rfl rfl rfl rfl rfl (y_cs rfl rfl rfl (fun _ _ => by kernel_rfl) (ev_func _) (vsC rfl (vsC rfl (vsC rfl (vsC rfl vsN)))) (vt_set (v4) ((putO ((putO ((putO ((optV (2) (2))) (0) (0) (4) (2))) (1) (0) (6) (-2))) (2) (0) (0) (0))) (0) (0) (32) (0) (T188) _ (by unfold inI; omega) (by unfold inI; omega) B189 ) (fun e_ w_ h_ => by obtain ⟨T205_, he_, hr_⟩ := h_; exact ⟨_, he_, T205_, rfl, hr_⟩)) ?_
  rintro _ w203 ⟨T205, rfl, k204, ⟨B206, g207⟩⟩
  have B208 := B191.all k204 (fun i h x => (((ap198).symm) i h x))
  have B209 := B192.all k204 (fun i h x => (((ap199).symm) i h x))
  have B210 := B193.all k204 (fun i h x => (((ap200).symm) i h x))
  have B211 := B194.all k204 (fun x => (((ap201).symm) p117 rfl x))
  have B212 := B195.all k204 (fun i h x => (((ap202).symm) i h x))
  have K213 := K196.trans k204 (fun i hi x => ((Grew.ok (S := fun _ => False) gr197 noB_le) i hi x))
  have gr214 := gr197.trans K196 g207
  have ap215 : Apart T205 (T63) := (ap198).grew g207 (B191).live
  have ap216 : Apart T205 (T81) := (ap199).grew g207 (B192).live
  have ap217 : Apart T205 (T106) := (ap200).grew g207 (B193).live
  have ap218 : Apart T205 (onB p117) := (ap201).grew g207 (onB_live (B194).lt)
  have ap219 : Apart T205 (T152) := (ap202).grew g207 (B195).live
  refine wl_vw (.bool true) 18 true 55 rfl rfl rfl rfl rfl (y_eqlI rfl rfl rfl (decide_eq_true hf.out.2.2.2.2.2.1) ⟨rfl, rfl⟩) ?_
  refine wl_v (.bool true) rfl rfl (y_pickT rfl rfl rfl ⟨rfl, rfl⟩) ?_
  refine wl_v (.bool true) rfl rfl (y_mov rfl rfl ⟨rfl, rfl⟩) ?_
  refine wl_vw (.agg #[.int .i64 (vrX ((pack (b0))) (1) (0) (some 0)), .int .i64 (vrY ((pack (b0))) (1) (0) (some 0))]) 24 true 61 rfl rfl rfl rfl rfl (y_load_stc stcT_vector rfl s174 B211 ⟨rfl, rfl⟩) ?_
  refine wl_vw (.agg #[.int .i64 (3), .int .i64 (-1)]) 24 true 61 rfl rfl rfl rfl rfl (y_buildL (l' := [(0, .int .i64 (3)), (1, .int .i64 (-1))]) (cells := #[.int .i64 (3), .int .i64 (-1)]) rfl (bpC rfl (bpC rfl bpN)) (by kernel_rfl) rfl ⟨rfl, rfl⟩) ?_
  refine wl_vw (.bool true) 24 true 61 rfl rfl rfl rfl rfl (y_eqlVec rfl rfl rfl ((by rw [hb0, hg.out.1, hg.out.2.1]; rfl)) ⟨rfl, rfl⟩) ?_
  refine wl_v (.bool true) rfl rfl (y_pickT rfl rfl rfl ⟨rfl, rfl⟩) ?_
  refine wl_v (.bool true) rfl rfl (y_mov rfl rfl ⟨rfl, rfl⟩) ?_
  refine wl_vw (.int .i64 (vrE ((pack (b0))) (1) (0) (some 0))) 29 true 66 rfl rfl rfl rfl rfl (y_mov rfl s175 ⟨rfl, rfl⟩) ?_
  refine wl_vw (.bool true) 29 true 66 rfl rfl rfl rfl rfl (y_eqlI rfl rfl rfl (decide_eq_true (by rw [hb0]; exact hg.out.2.2.1)) ⟨rfl, rfl⟩) ?_
  refine wl_v (.bool true) rfl rfl (y_pickT rfl rfl rfl ⟨rfl, rfl⟩) ?_
  refine wl_v (.bool true) rfl rfl (y_mov rfl rfl ⟨rfl, rfl⟩) ?_
  refine wl_vw (.int .i64 (newVE (0) (1))) 33 true 70 rfl rfl rfl rfl rfl (y_mov rfl s176 ⟨rfl, rfl⟩) ?_
  refine wl_vw (.bool true) 33 true 70 rfl rfl rfl rfl rfl (y_eqlI rfl rfl rfl (decide_eq_true hf.out.2.2.2.2.2.2.1) ⟨rfl, rfl⟩) ?_
  refine wl_v (.bool true) rfl rfl (y_pickT rfl rfl rfl ⟨rfl, rfl⟩) ?_
  refine wl_v (.bool true) rfl rfl (y_mov rfl rfl ⟨rfl, rfl⟩) ?_
  refine wl_vw (.agg #[.int .i64 (1), .int .i64 (5)]) 37 true 74 rfl rfl rfl rfl rfl (y_buildL (l' := [(0, .int .i64 (1)), (1, .int .i64 (5))]) (cells := #[.int .i64 (1), .int .i64 (5)]) rfl (bpC rfl (bpC rfl bpN)) (by kernel_rfl) rfl ⟨rfl, rfl⟩) ?_
  refine wl_vw (.agg #[.int .i64 (3), .int .i64 (3)]) 37 true 74 rfl rfl rfl rfl rfl (y_buildL (l' := [(0, .int .i64 (3)), (1, .int .i64 (3))]) (cells := #[.int .i64 (3), .int .i64 (3)]) rfl (bpC rfl (bpC rfl bpN)) (by kernel_rfl) rfl ⟨rfl, rfl⟩) ?_
  refine wl_vw (.agg #[.int .i64 (2), .int .i64 (9)]) 37 true 74 rfl rfl rfl rfl rfl (y_buildL (l' := [(0, .int .i64 (2)), (1, .int .i64 (9))]) (cells := #[.int .i64 (2), .int .i64 (9)]) rfl (bpC rfl (bpC rfl bpN)) (by kernel_rfl) rfl ⟨rfl, rfl⟩) ?_
  refine wl_callw (R := fun v_ w_ => v_ = .agg #[.int .i64 (med (1) (3) (2)), .int .i64 (med (5) (3) (9))] ∧ Kept (fun _ => False) w203 w_) 37 true 74 rfl rfl rfl rfl rfl (y_cs rfl rfl rfl (fun _ _ => by kernel_rfl) (ev_func _) (vsC rfl (vsC rfl (vsC rfl vsN))) (vt_median (1) (5) (3) (3) (2) (9)  _   ) (fun e_ w_ h_ => ⟨_, h_.1, rfl, h_.2⟩)) ?_
  rintro _ w220 ⟨rfl, k221⟩
  have B222 := B206.all k221 Apart.none
  have B223 := B208.all k221 Apart.none
  have B224 := B209.all k221 Apart.none
  have B225 := B210.all k221 Apart.none
  have B226 := B211.all k221 id
  have B227 := B212.all k221 Apart.none
  have K228 := K213.trans k221 (fun _ _ x => x.elim)
  refine wl_vw (.agg #[.int .i64 (2), .int .i64 (5)]) 37 true 74 rfl rfl rfl rfl rfl (y_buildL (l' := [(0, .int .i64 (2)), (1, .int .i64 (5))]) (cells := #[.int .i64 (2), .int .i64 (5)]) rfl (bpC rfl (bpC rfl bpN)) (by kernel_rfl) rfl ⟨rfl, rfl⟩) ?_
  refine wl_vw (.bool true) 37 true 74 rfl rfl rfl rfl rfl (y_eqlVec rfl rfl rfl ((by rw [hg.out.2.2.2.1, hg.out.2.2.2.2]; rfl)) ⟨rfl, rfl⟩) ?_
  refine wl_v (.bool true) rfl rfl (y_pickT rfl rfl rfl ⟨rfl, rfl⟩) ?_
  refine wl_v (.bool true) rfl rfl (y_mov rfl rfl ⟨rfl, rfl⟩) ?_
  refine wl_vw (.pointer (some ⟨p43, 0, none⟩)) 45 true 82 rfl rfl rfl rfl rfl (y_mov rfl s173 ⟨rfl, rfl⟩) ?_
  refine wl_callw (R := fun v_ w_ => v_ = .int .i64 ((((b0).length : Nat) : Int)) ∧ Kept (fun _ => False) w220 w_) 45 true 82 rfl rfl rfl rfl rfl (y_cs rfl rfl rfl (fun _ _ => by kernel_rfl) (ev_func _) (vsC rfl vsN) (t_many (p43) (b0) (T63) _  B223 ) (fun e_ w_ h_ => ⟨_, h_.1, rfl, h_.2⟩)) ?_
  rintro _ w229 ⟨rfl, k230⟩
  have B231 := B222.all k230 Apart.none
  have B232 := B223.all k230 Apart.none
  have B233 := B224.all k230 Apart.none
  have B234 := B225.all k230 Apart.none
  have B235 := B226.all k230 id
  have B236 := B227.all k230 Apart.none
  have K237 := K228.trans k230 (fun _ _ x => x.elim)
  refine wl_vw (.bool true) 45 true 82 rfl rfl rfl rfl rfl (y_eqlI rfl rfl rfl (decide_eq_true (by rw [hlen]; rfl)) ⟨rfl, rfl⟩) ?_
  refine wl_v (.bool true) rfl rfl (y_pickT rfl rfl rfl ⟨rfl, rfl⟩) ?_
  refine wl_v (.bool true) rfl rfl (y_asg rfl rfl ⟨rfl, rfl⟩) ?_
  refine wl_nil fun F238 hF239 => ?_
  have s240 : F238 87 = undef := (hF239 87).trans s169
  have s241 : F238 0 = .bool true := (hF239 0).trans rfl
  clear hF239
  refine then_normal ?_
  refine wq_ret ?_
  exact end_tmp (v := .bool true) s240 rfl rfl s241 ⟨rfl, K237⟩

set_option maxHeartbeats 4000000 in
set_option maxRecDepth 100000 in
theorem vlays_walk (w h x y : Nat) (X Y : Int) (u t : Nat) (w0 : World) (hw : w < 256) (hh : h < 256) (hx : x < 256) (hy : y < 256) (hu : u < 256) (ht : t < 256) :
    Calls Try.prog 8 #[.int .u8 (((w : Nat) : Int)), .int .u8 (((h : Nat) : Int)), .int .u8 (((x : Nat) : Int)), .int .u8 (((y : Nat) : Int)), .agg #[.int .i64 (X), .int .i64 (Y)], .int .u8 (((u : Nat) : Int)), .int .u8 (((t : Nat) : Int))] w0 fun e w' => e = .returned (.bool true) ∧ Kept (fun _ => False) w0 w' := by
  refine calls_wq (args := [.int .u8 (((w : Nat) : Int)), .int .u8 (((h : Nat) : Int)), .int .u8 (((x : Nat) : Int)), .int .u8 (((y : Nat) : Int)), .agg #[.int .i64 (X), .int .i64 (Y)], .int .u8 (((u : Nat) : Int)), .int .u8 (((t : Nat) : Int))]) 136 Try.func8 rfl rfl (Nat.le_of_ble_eq_true rfl) ?_
  have K0 := Kept.refl (fun _ => False) w0
  obtain ⟨M, hM⟩ : ∃ M, M = 1 + w % 16 := ⟨_, rfl⟩
  obtain ⟨N, hN⟩ : ∃ N, N = 1 + h % 16 := ⟨_, rfl⟩
  obtain ⟨a, ha⟩ : ∃ a, a = x % M := ⟨_, rfl⟩
  obtain ⟨b, hb⟩ : ∃ b, b = y % N := ⟨_, rfl⟩
  obtain ⟨c, hc⟩ : ∃ c, c = u % M := ⟨_, rfl⟩
  obtain ⟨d, hd⟩ : ∃ d, d = t % N := ⟨_, rfl⟩
  obtain ⟨A, hA⟩ : ∃ A : Int, A = Int.tmod X 32 := ⟨_, rfl⟩
  obtain ⟨B, hB⟩ : ∃ B : Int, B = Int.tmod Y 32 := ⟨_, rfl⟩
  have hM2 : 1 ≤ M ∧ M ≤ 16 := by omega
  have hN2 : 1 ≤ N ∧ N ≤ 16 := by omega
  have ha2 : a < M := by rw [ha]; exact Nat.mod_lt _ (by omega)
  have hb2 : b < N := by rw [hb]; exact Nat.mod_lt _ (by omega)
  have hc2 : c < M := by rw [hc]; exact Nat.mod_lt _ (by omega)
  have hd2 : d < N := by rw [hd]; exact Nat.mod_lt _ (by omega)
  have hv : vecOk A B := by rw [hA, hB]; exact tmod32 X Y
  have hs : sidesOk (M : Nat) (N : Nat) := ⟨by omega, by omega, by omega, by omega⟩
  have hin : inV (newV (M : Nat) (N : Nat)) (a : Nat) (b : Nat) := ⟨by omega, by show ((a : Nat) : Int) < ((M : Nat) : Int); omega, by omega, by show ((b : Nat) : Int) < ((N : Nat) : Int); omega⟩
  refine wq_seq ?_
  refine wq_region ?_
  refine wl_box_stc (vs := [.int .i64 (X), .int .i64 (Y)]) rfl rfl rfl rfl fun p1 w2 B4 g5 k3 => ?_
  have gr6 : Grew w0 noB (onB p1) := Grew.new K0 g5
  have K7 := K0.trans k3 (fun _ _ x => x.elim)
  refine wl_v (.bool false) rfl rfl (y_asg rfl rfl ⟨rfl, rfl⟩) ?_
  refine wl_nil fun F8 hF9 => ?_
  have s10 : F8 0 = .int .u8 (((w : Nat) : Int)) := (hF9 0).trans rfl
  have s11 : F8 1 = .int .u8 (((h : Nat) : Int)) := (hF9 1).trans rfl
  have s12 : F8 2 = .int .u8 (((x : Nat) : Int)) := (hF9 2).trans rfl
  have s13 : F8 3 = .int .u8 (((y : Nat) : Int)) := (hF9 3).trans rfl
  have s14 : F8 5 = .int .u8 (((u : Nat) : Int)) := (hF9 5).trans rfl
  have s15 : F8 6 = .int .u8 (((t : Nat) : Int)) := (hF9 6).trans rfl
  have s16 : F8 136 = undef := (hF9 136).trans rfl
  have s17 : F8 11 = .pointer (some ⟨p1, 0, none⟩) := (hF9 11).trans rfl
  clear hF9
  refine then_normal ?_
  refine wq_seq ?_
  refine wq_region ?_
  refine wl_call (R := fun v_ w_ => v_ = .bool true ∧ Kept (fun _ => False) w2 w_) rfl rfl (y_cs rfl rfl rfl (fun _ _ => by kernel_rfl) (ev_func _) vsN (vawake_any   _   ) (fun e_ w_ h_ => ⟨_, h_.1, rfl, h_.2⟩)) ?_
  rintro _ w18 ⟨rfl, k19⟩
  have B20 := B4.all k19 id
  have K21 := K7.trans k19 (fun _ _ x => x.elim)
  refine wl_v (.bool true) rfl rfl (y_asg rfl rfl ⟨rfl, rfl⟩) ?_
  refine wl_nil fun F22 hF23 => ?_
  have s24 : F22 0 = .int .u8 (((w : Nat) : Int)) := (hF23 0).trans s10
  have s25 : F22 1 = .int .u8 (((h : Nat) : Int)) := (hF23 1).trans s11
  have s26 : F22 2 = .int .u8 (((x : Nat) : Int)) := (hF23 2).trans s12
  have s27 : F22 3 = .int .u8 (((y : Nat) : Int)) := (hF23 3).trans s13
  have s28 : F22 5 = .int .u8 (((u : Nat) : Int)) := (hF23 5).trans s14
  have s29 : F22 6 = .int .u8 (((t : Nat) : Int)) := (hF23 6).trans s15
  have s30 : F22 136 = undef := (hF23 136).trans s16
  have s31 : F22 11 = .pointer (some ⟨p1, 0, none⟩) := (hF23 11).trans s17
  have s32 : F22 15 = .bool true := (hF23 15).trans rfl
  clear hF23
  refine then_normal ?_
  refine wq_seq ?_
  refine wq_region ?_
  refine wl_v (.int .u8 (((w : Nat) : Int))) rfl rfl (y_mov rfl s24 ⟨rfl, rfl⟩) ?_
  refine wl_v (.int .i64 (((w : Nat) : Int))) rfl rfl (y_convR rfl rfl Try.underlying5 Try.underlying3 (i64_i rfl (by omega)) ⟨rfl, rfl⟩) ?_
  refine wl_v (.int .i64 ((((w % 16) : Nat) : Int))) rfl rfl (y_rem rfl rfl rfl (by first | decide | omega) (rem_nat w 16) ⟨rfl, rfl⟩) ?_
  refine wl_v (.int .i64 (((M : Nat) : Int))) rfl rfl (y_add rfl rfl rfl (i64_n (by omega) (by omega)) ⟨rfl, rfl⟩) ?_
  refine wl_v (.int .i64 (((M : Nat) : Int))) rfl rfl (y_asg rfl rfl ⟨rfl, rfl⟩) ?_
  refine wl_nil fun F33 hF34 => ?_
  have s35 : F33 1 = .int .u8 (((h : Nat) : Int)) := (hF34 1).trans s25
  have s36 : F33 2 = .int .u8 (((x : Nat) : Int)) := (hF34 2).trans s26
  have s37 : F33 3 = .int .u8 (((y : Nat) : Int)) := (hF34 3).trans s27
  have s38 : F33 5 = .int .u8 (((u : Nat) : Int)) := (hF34 5).trans s28
  have s39 : F33 6 = .int .u8 (((t : Nat) : Int)) := (hF34 6).trans s29
  have s40 : F33 136 = undef := (hF34 136).trans s30
  have s41 : F33 11 = .pointer (some ⟨p1, 0, none⟩) := (hF34 11).trans s31
  have s42 : F33 15 = .bool true := (hF34 15).trans s32
  have s43 : F33 16 = .int .i64 (((M : Nat) : Int)) := (hF34 16).trans rfl
  clear hF34
  refine then_normal ?_
  refine wq_seq ?_
  refine wq_region ?_
  refine wl_v (.int .u8 (((h : Nat) : Int))) rfl rfl (y_mov rfl s35 ⟨rfl, rfl⟩) ?_
  refine wl_v (.int .i64 (((h : Nat) : Int))) rfl rfl (y_convR rfl rfl Try.underlying5 Try.underlying3 (i64_i rfl (by omega)) ⟨rfl, rfl⟩) ?_
  refine wl_v (.int .i64 ((((h % 16) : Nat) : Int))) rfl rfl (y_rem rfl rfl rfl (by first | decide | omega) (rem_nat h 16) ⟨rfl, rfl⟩) ?_
  refine wl_v (.int .i64 (((N : Nat) : Int))) rfl rfl (y_add rfl rfl rfl (i64_n (by omega) (by omega)) ⟨rfl, rfl⟩) ?_
  refine wl_v (.int .i64 (((N : Nat) : Int))) rfl rfl (y_asg rfl rfl ⟨rfl, rfl⟩) ?_
  refine wl_nil fun F44 hF45 => ?_
  have s46 : F44 2 = .int .u8 (((x : Nat) : Int)) := (hF45 2).trans s36
  have s47 : F44 3 = .int .u8 (((y : Nat) : Int)) := (hF45 3).trans s37
  have s48 : F44 5 = .int .u8 (((u : Nat) : Int)) := (hF45 5).trans s38
  have s49 : F44 6 = .int .u8 (((t : Nat) : Int)) := (hF45 6).trans s39
  have s50 : F44 136 = undef := (hF45 136).trans s40
  have s51 : F44 11 = .pointer (some ⟨p1, 0, none⟩) := (hF45 11).trans s41
  have s52 : F44 15 = .bool true := (hF45 15).trans s42
  have s53 : F44 16 = .int .i64 (((M : Nat) : Int)) := (hF45 16).trans s43
  have s54 : F44 17 = .int .i64 (((N : Nat) : Int)) := (hF45 17).trans rfl
  clear hF45
  refine then_normal ?_
  refine wq_seq ?_
  refine wq_region ?_
  refine wl_v (.int .i64 (((M : Nat) : Int))) rfl rfl (y_mov rfl s53 ⟨rfl, rfl⟩) ?_
  refine wl_v (.int .i64 (((N : Nat) : Int))) rfl rfl (y_mov rfl s54 ⟨rfl, rfl⟩) ?_
  refine wl_call (R := fun v_ w_ => ∃ (v55 : Value) (T58 : Nat → Prop), .tuple #[v55, .int .i64 (newVE (((M : Nat) : Int)) (((N : Nat) : Int)))] = v_ ∧ Kept (fun _ => False) w18 w_ ∧ (Vpo w_ T58 v55 ((optV (((M : Nat) : Int)) (((N : Nat) : Int)))) ∧ Grew w18 noB T58)) rfl rfl (y_cs rfl rfl rfl (fun _ _ => by kernel_rfl) (ev_func _) (vsC rfl (vsC rfl vsN)) (vt_new (((M : Nat) : Int)) (((N : Nat) : Int))  _   ) (fun e_ w_ h_ => by obtain ⟨v55_, T58_, he_, hr_⟩ := h_; exact ⟨_, he_, v55_, T58_, rfl, hr_⟩)) ?_
  rintro _ w56 ⟨v55, T58, rfl, k57, ⟨B59, g60⟩⟩
  have B61 := B20.all k57 id
  have K62 := K21.trans k57 (fun _ _ x => x.elim)
  have gr63 : Grew w0 noB (T58) := Grew.new K21 g60
  have ap64 : Apart (T58) (onB p1) := Apart.new g60 (onB_live (B20).lt)
  refine wl_v (.tuple #[v55, .int .i64 (newVE (((M : Nat) : Int)) (((N : Nat) : Int)))]) rfl rfl (y_mov rfl rfl ⟨rfl, rfl⟩) ?_
  refine wl_v (v55) rfl rfl (y_ext rfl rfl rfl ⟨rfl, rfl⟩) ?_
  refine wl_v (.int .i64 (newVE (((M : Nat) : Int)) (((N : Nat) : Int)))) rfl rfl (y_ext rfl rfl rfl ⟨rfl, rfl⟩) ?_
  refine wl_v (v55) rfl rfl (y_asg rfl rfl ⟨rfl, rfl⟩) ?_
  refine wl_v (.int .i64 (newVE (((M : Nat) : Int)) (((N : Nat) : Int)))) rfl rfl (y_asg rfl rfl ⟨rfl, rfl⟩) ?_
  refine wl_nil fun F65 hF66 => ?_
  have s67 : F65 2 = .int .u8 (((x : Nat) : Int)) := (hF66 2).trans s46
  have s68 : F65 3 = .int .u8 (((y : Nat) : Int)) := (hF66 3).trans s47
  have s69 : F65 5 = .int .u8 (((u : Nat) : Int)) := (hF66 5).trans s48
  have s70 : F65 6 = .int .u8 (((t : Nat) : Int)) := (hF66 6).trans s49
  have s71 : F65 136 = undef := (hF66 136).trans s50
  have s72 : F65 11 = .pointer (some ⟨p1, 0, none⟩) := (hF66 11).trans s51
  have s73 : F65 15 = .bool true := (hF66 15).trans s52
  have s74 : F65 16 = .int .i64 (((M : Nat) : Int)) := (hF66 16).trans s53
  have s75 : F65 17 = .int .i64 (((N : Nat) : Int)) := (hF66 17).trans s54
  have s76 : F65 18 = v55 := (hF66 18).trans rfl
  have s77 : F65 19 = .int .i64 (newVE (((M : Nat) : Int)) (((N : Nat) : Int))) := (hF66 19).trans rfl
  clear hF66
  refine then_normal ?_
  refine wq_seq ?_
  have B78 : Vpo w56 (T58) v55 (some (newV ((M : Nat) : Int) ((N : Nat) : Int))) := ((by rw [← optV_yes hs]; exact B59))
  refine wq_region ?_
  refine wl_v (.int .u8 (((x : Nat) : Int))) rfl rfl (y_mov rfl s67 ⟨rfl, rfl⟩) ?_
  refine wl_v (.int .i64 (((x : Nat) : Int))) rfl rfl (y_convR rfl rfl Try.underlying5 Try.underlying3 (i64_i rfl (by omega)) ⟨rfl, rfl⟩) ?_
  refine wl_v (.int .i64 (((M : Nat) : Int))) rfl rfl (y_mov rfl s74 ⟨rfl, rfl⟩) ?_
  refine wl_v (.int .i64 (((a : Nat) : Int))) rfl rfl (y_rem rfl rfl rfl (by first | decide | omega) ((by rw [ha]; exact rem_nat x M)) ⟨rfl, rfl⟩) ?_
  refine wl_v (.int .i64 (((a : Nat) : Int))) rfl rfl (y_asg rfl rfl ⟨rfl, rfl⟩) ?_
  refine wl_nil fun F79 hF80 => ?_
  have s81 : F79 3 = .int .u8 (((y : Nat) : Int)) := (hF80 3).trans s68
  have s82 : F79 5 = .int .u8 (((u : Nat) : Int)) := (hF80 5).trans s69
  have s83 : F79 6 = .int .u8 (((t : Nat) : Int)) := (hF80 6).trans s70
  have s84 : F79 136 = undef := (hF80 136).trans s71
  have s85 : F79 11 = .pointer (some ⟨p1, 0, none⟩) := (hF80 11).trans s72
  have s86 : F79 15 = .bool true := (hF80 15).trans s73
  have s87 : F79 16 = .int .i64 (((M : Nat) : Int)) := (hF80 16).trans s74
  have s88 : F79 17 = .int .i64 (((N : Nat) : Int)) := (hF80 17).trans s75
  have s89 : F79 18 = v55 := (hF80 18).trans s76
  have s90 : F79 19 = .int .i64 (newVE (((M : Nat) : Int)) (((N : Nat) : Int))) := (hF80 19).trans s77
  have s91 : F79 20 = .int .i64 (((a : Nat) : Int)) := (hF80 20).trans rfl
  clear hF80
  refine then_normal ?_
  refine wq_seq ?_
  refine wq_region ?_
  refine wl_v (.int .u8 (((y : Nat) : Int))) rfl rfl (y_mov rfl s81 ⟨rfl, rfl⟩) ?_
  refine wl_v (.int .i64 (((y : Nat) : Int))) rfl rfl (y_convR rfl rfl Try.underlying5 Try.underlying3 (i64_i rfl (by omega)) ⟨rfl, rfl⟩) ?_
  refine wl_v (.int .i64 (((N : Nat) : Int))) rfl rfl (y_mov rfl s88 ⟨rfl, rfl⟩) ?_
  refine wl_v (.int .i64 (((b : Nat) : Int))) rfl rfl (y_rem rfl rfl rfl (by first | decide | omega) ((by rw [hb]; exact rem_nat y N)) ⟨rfl, rfl⟩) ?_
  refine wl_v (.int .i64 (((b : Nat) : Int))) rfl rfl (y_asg rfl rfl ⟨rfl, rfl⟩) ?_
  refine wl_nil fun F92 hF93 => ?_
  have s94 : F92 5 = .int .u8 (((u : Nat) : Int)) := (hF93 5).trans s82
  have s95 : F92 6 = .int .u8 (((t : Nat) : Int)) := (hF93 6).trans s83
  have s96 : F92 136 = undef := (hF93 136).trans s84
  have s97 : F92 11 = .pointer (some ⟨p1, 0, none⟩) := (hF93 11).trans s85
  have s98 : F92 15 = .bool true := (hF93 15).trans s86
  have s99 : F92 16 = .int .i64 (((M : Nat) : Int)) := (hF93 16).trans s87
  have s100 : F92 17 = .int .i64 (((N : Nat) : Int)) := (hF93 17).trans s88
  have s101 : F92 18 = v55 := (hF93 18).trans s89
  have s102 : F92 19 = .int .i64 (newVE (((M : Nat) : Int)) (((N : Nat) : Int))) := (hF93 19).trans s90
  have s103 : F92 20 = .int .i64 (((a : Nat) : Int)) := (hF93 20).trans s91
  have s104 : F92 21 = .int .i64 (((b : Nat) : Int)) := (hF93 21).trans rfl
  clear hF93
  refine then_normal ?_
  refine wq_seq ?_
  refine wq_region ?_
  refine wl_v (.int .u8 (((u : Nat) : Int))) rfl rfl (y_mov rfl s94 ⟨rfl, rfl⟩) ?_
  refine wl_v (.int .i64 (((u : Nat) : Int))) rfl rfl (y_convR rfl rfl Try.underlying5 Try.underlying3 (i64_i rfl (by omega)) ⟨rfl, rfl⟩) ?_
  refine wl_v (.int .i64 (((M : Nat) : Int))) rfl rfl (y_mov rfl s99 ⟨rfl, rfl⟩) ?_
  refine wl_v (.int .i64 (((c : Nat) : Int))) rfl rfl (y_rem rfl rfl rfl (by first | decide | omega) ((by rw [hc]; exact rem_nat u M)) ⟨rfl, rfl⟩) ?_
  refine wl_v (.int .i64 (((c : Nat) : Int))) rfl rfl (y_asg rfl rfl ⟨rfl, rfl⟩) ?_
  refine wl_nil fun F105 hF106 => ?_
  have s107 : F105 6 = .int .u8 (((t : Nat) : Int)) := (hF106 6).trans s95
  have s108 : F105 136 = undef := (hF106 136).trans s96
  have s109 : F105 11 = .pointer (some ⟨p1, 0, none⟩) := (hF106 11).trans s97
  have s110 : F105 15 = .bool true := (hF106 15).trans s98
  have s111 : F105 17 = .int .i64 (((N : Nat) : Int)) := (hF106 17).trans s100
  have s112 : F105 18 = v55 := (hF106 18).trans s101
  have s113 : F105 19 = .int .i64 (newVE (((M : Nat) : Int)) (((N : Nat) : Int))) := (hF106 19).trans s102
  have s114 : F105 20 = .int .i64 (((a : Nat) : Int)) := (hF106 20).trans s103
  have s115 : F105 21 = .int .i64 (((b : Nat) : Int)) := (hF106 21).trans s104
  have s116 : F105 22 = .int .i64 (((c : Nat) : Int)) := (hF106 22).trans rfl
  clear hF106
  refine then_normal ?_
  refine wq_seq ?_
  refine wq_region ?_
  refine wl_v (.int .u8 (((t : Nat) : Int))) rfl rfl (y_mov rfl s107 ⟨rfl, rfl⟩) ?_
  refine wl_v (.int .i64 (((t : Nat) : Int))) rfl rfl (y_convR rfl rfl Try.underlying5 Try.underlying3 (i64_i rfl (by omega)) ⟨rfl, rfl⟩) ?_
  refine wl_v (.int .i64 (((N : Nat) : Int))) rfl rfl (y_mov rfl s111 ⟨rfl, rfl⟩) ?_
  refine wl_v (.int .i64 (((d : Nat) : Int))) rfl rfl (y_rem rfl rfl rfl (by first | decide | omega) ((by rw [hd]; exact rem_nat t N)) ⟨rfl, rfl⟩) ?_
  refine wl_v (.int .i64 (((d : Nat) : Int))) rfl rfl (y_asg rfl rfl ⟨rfl, rfl⟩) ?_
  refine wl_nil fun F117 hF118 => ?_
  have s119 : F117 136 = undef := (hF118 136).trans s108
  have s120 : F117 11 = .pointer (some ⟨p1, 0, none⟩) := (hF118 11).trans s109
  have s121 : F117 15 = .bool true := (hF118 15).trans s110
  have s122 : F117 18 = v55 := (hF118 18).trans s112
  have s123 : F117 19 = .int .i64 (newVE (((M : Nat) : Int)) (((N : Nat) : Int))) := (hF118 19).trans s113
  have s124 : F117 20 = .int .i64 (((a : Nat) : Int)) := (hF118 20).trans s114
  have s125 : F117 21 = .int .i64 (((b : Nat) : Int)) := (hF118 21).trans s115
  have s126 : F117 22 = .int .i64 (((c : Nat) : Int)) := (hF118 22).trans s116
  have s127 : F117 23 = .int .i64 (((d : Nat) : Int)) := (hF118 23).trans rfl
  clear hF118
  refine then_normal ?_
  refine wq_seq ?_
  refine wq_region ?_
  refine wl_v (.pointer (some ⟨p1, 0, none⟩)) rfl rfl (y_fieldR (n := 1) rfl s120 Try.underlying33 rfl (by kernel_rfl) (by decide) rfl ⟨rfl, rfl⟩) ?_
  refine wl_v (.int .i64 (X)) rfl rfl (y_ld_stc rfl rfl Try.underlying3 B61 rfl rfl ⟨rfl, rfl⟩) ?_
  refine wl_v (.int .i64 (A)) rfl rfl (y_rem rfl rfl rfl (by first | decide | omega) (hA.symm) ⟨rfl, rfl⟩) ?_
  refine wl_v (.pointer (some ⟨p1, 1, none⟩)) rfl rfl (y_fieldR (n := 1) rfl s120 Try.underlying33 rfl (by kernel_rfl) (by decide) rfl ⟨rfl, rfl⟩) ?_
  refine wl_v (.int .i64 (Y)) rfl rfl (y_ld_stc rfl rfl Try.underlying3 B61 rfl rfl ⟨rfl, rfl⟩) ?_
  refine wl_v (.int .i64 (B)) rfl rfl (y_rem rfl rfl rfl (by first | decide | omega) (hB.symm) ⟨rfl, rfl⟩) ?_
  refine wl_v (.agg #[.int .i64 (A), .int .i64 (B)]) rfl rfl (y_buildL (l' := [(0, .int .i64 (A)), (1, .int .i64 (B))]) (cells := #[.int .i64 (A), .int .i64 (B)]) rfl (bpC rfl (bpC rfl bpN)) (by kernel_rfl) rfl ⟨rfl, rfl⟩) ?_
  refine wl_alloc_stc (n := 2) (vs := [.int .i64 (0), .int .i64 (0)]) rfl rfl rfl (by kernel_rfl) fun p128 w129 B131 g132 k130 => ?_
  have gr133 : Grew w0 noB (onB p128) := Grew.new K62 g132
  have ap134 : Apart (onB p128) (onB p1) := Apart.new g132 (onB_live (B61).lt)
  have ap135 : Apart (onB p128) (T58) := Apart.new g132 (B78).live
  have B136 := B61.all k130 id
  have B137 := B78.all k130 Apart.none
  have K138 := K62.trans k130 (fun _ _ x => x.elim)
  refine wl_store_stc (us := [.int .i64 (A), .int .i64 (B)]) stcT_vector rfl rfl rfl rfl rfl B131 rfl (oneI rfl (oneI rfl oneN)) fun w139 B140 k141 => ?_
  have B142 := B136.all k141 (fun x => (((ap134).symm) p1 rfl x))
  have B143 := B137.all k141 (fun i h x => (((ap135).symm) i h x))
  have K144 := K138.trans k141 (Grew.ok (S := fun _ => False) gr133 noB_le)
  refine wl_nil fun F145 hF146 => ?_
  have s147 : F145 136 = undef := (hF146 136).trans s119
  have s148 : F145 15 = .bool true := (hF146 15).trans s121
  have s149 : F145 18 = v55 := (hF146 18).trans s122
  have s150 : F145 19 = .int .i64 (newVE (((M : Nat) : Int)) (((N : Nat) : Int))) := (hF146 19).trans s123
  have s151 : F145 20 = .int .i64 (((a : Nat) : Int)) := (hF146 20).trans s124
  have s152 : F145 21 = .int .i64 (((b : Nat) : Int)) := (hF146 21).trans s125
  have s153 : F145 22 = .int .i64 (((c : Nat) : Int)) := (hF146 22).trans s126
  have s154 : F145 23 = .int .i64 (((d : Nat) : Int)) := (hF146 23).trans s127
  have s155 : F145 24 = .pointer (some ⟨p128, 0, none⟩) := (hF146 24).trans rfl
  clear hF146
  refine then_normal ?_
  refine wq_seq ?_
  refine wq_region ?_
  refine wl_v (v55) rfl rfl (y_mov rfl s149 ⟨rfl, rfl⟩) ?_
  refine wl_v (.int .i64 (((a : Nat) : Int))) rfl rfl (y_mov rfl s151 ⟨rfl, rfl⟩) ?_
  refine wl_v (.int .i64 (((b : Nat) : Int))) rfl rfl (y_mov rfl s152 ⟨rfl, rfl⟩) ?_
  refine wl_v (.agg #[.int .i64 (A), .int .i64 (B)]) rfl rfl (y_load_stc stcT_vector rfl s155 B140 ⟨rfl, rfl⟩) ?_
  refine wl_call (R := fun v_ w_ => ∃ (T158 : Nat → Prop), .int .i64 (setO (some (newV ((M : Nat) : Int) ((N : Nat) : Int))) (((a : Nat) : Int)) (((b : Nat) : Int)) (A) (B)) = v_ ∧ Kept (T58) w139 w_ ∧ (Vpo w_ T158 v55 ((putO (some (newV ((M : Nat) : Int) ((N : Nat) : Int))) (((a : Nat) : Int)) (((b : Nat) : Int)) (A) (B))) ∧ Grew w139 (T58) T158)) rfl rfl (y_cs rfl rfl rfl (fun _ _ => by kernel_rfl) (ev_func _) (vsC rfl (vsC rfl (vsC rfl (vsC rfl vsN)))) (vt_set (v55) (some (newV ((M : Nat) : Int) ((N : Nat) : Int))) (((a : Nat) : Int)) (((b : Nat) : Int)) (A) (B) (T58) _ (by unfold inI; omega) (by unfold inI; omega) B143 ) (fun e_ w_ h_ => by obtain ⟨T158_, he_, hr_⟩ := h_; exact ⟨_, he_, T158_, rfl, hr_⟩)) ?_
  rintro _ w156 ⟨T158, rfl, k157, ⟨B159, g160⟩⟩
  have B161 := B142.all k157 (fun x => (((ap64).symm) p1 rfl x))
  have B162 := B140.all k157 (fun x => ((ap135) p128 rfl x))
  have K163 := K144.trans k157 (fun i hi x => ((Grew.ok (S := fun _ => False) gr63 noB_le) i hi x))
  have gr164 := gr63.trans K144 g160
  have ap165 : Apart T158 (onB p1) := (ap64).grew g160 (onB_live (B142).lt)
  have ap166 : Apart T158 (onB p128) := ((ap135).symm).grew g160 (onB_live (B140).lt)
  refine wl_v (.int .i64 (setO (some (newV ((M : Nat) : Int) ((N : Nat) : Int))) (((a : Nat) : Int)) (((b : Nat) : Int)) (A) (B))) rfl rfl (y_asg rfl rfl ⟨rfl, rfl⟩) ?_
  refine wl_nil fun F167 hF168 => ?_
  have s169 : F167 136 = undef := (hF168 136).trans s147
  have s170 : F167 15 = .bool true := (hF168 15).trans s148
  have s171 : F167 18 = v55 := (hF168 18).trans s149
  have s172 : F167 19 = .int .i64 (newVE (((M : Nat) : Int)) (((N : Nat) : Int))) := (hF168 19).trans s150
  have s173 : F167 20 = .int .i64 (((a : Nat) : Int)) := (hF168 20).trans s151
  have s174 : F167 21 = .int .i64 (((b : Nat) : Int)) := (hF168 21).trans s152
  have s175 : F167 22 = .int .i64 (((c : Nat) : Int)) := (hF168 22).trans s153
  have s176 : F167 23 = .int .i64 (((d : Nat) : Int)) := (hF168 23).trans s154
  have s177 : F167 25 = .int .i64 (setO (some (newV ((M : Nat) : Int) ((N : Nat) : Int))) (((a : Nat) : Int)) (((b : Nat) : Int)) (A) (B)) := (hF168 25).trans rfl
  clear hF168
  refine then_normal ?_
  refine wq_seq ?_
  refine wq_cut (fun FF ww => FF 26 = .bool (decide ((((d : Nat) : Int) = b ∧ ((c : Nat) : Int) = a + 1) ∨ (((d : Nat) : Int) = b + 1 ∧ (((c : Nat) : Int) = a ∨ ((c : Nat) : Int) = a - 1)))) ∧ FF 15 = .bool true ∧ FF 18 = v55 ∧ FF 19 = .int .i64 (newVE (((M : Nat) : Int)) (((N : Nat) : Int))) ∧ FF 20 = .int .i64 (((a : Nat) : Int)) ∧ FF 21 = .int .i64 (((b : Nat) : Int)) ∧ FF 22 = .int .i64 (((c : Nat) : Int)) ∧ FF 23 = .int .i64 (((d : Nat) : Int)) ∧ FF 25 = .int .i64 (setO (some (newV ((M : Nat) : Int) ((N : Nat) : Int))) (((a : Nat) : Int)) (((b : Nat) : Int)) (A) (B)) ∧ FF 136 = undef ∧ Kept (fun _ => False) w0 ww ∧ Stc ww p1 33 [.int .i64 (X), .int .i64 (Y)] ∧ Vpo ww (T158) v55 ((putO (some (newV ((M : Nat) : Int) ((N : Nat) : Int))) (((a : Nat) : Int)) (((b : Nat) : Int)) (A) (B))) ∧ Stc ww p128 33 [.int .i64 (A), .int .i64 (B)]) ?_ ?_
  · skip
    by_cases d178 : (((d : Nat) : Int)) = (((b : Nat) : Int))
    · skip
      by_cases d179 : (((c : Nat) : Int)) = (((a + 1 : Nat) : Int))
      · skip
        refine wq_region ?_
        refine wl_v (.int .i64 (((d : Nat) : Int))) rfl rfl (y_mov rfl s176 ⟨rfl, rfl⟩) ?_
        refine wl_v (.int .i64 (((b : Nat) : Int))) rfl rfl (y_mov rfl s174 ⟨rfl, rfl⟩) ?_
        refine wl_v (.bool true) rfl rfl (y_eqlI rfl rfl rfl (decide_eq_true d178) ⟨rfl, rfl⟩) ?_
        refine wl_v (.bool true) rfl rfl (y_mov rfl rfl ⟨rfl, rfl⟩) ?_
        refine wl_vw (.int .i64 (((c : Nat) : Int))) 3 true 75 rfl rfl rfl rfl rfl (y_mov rfl s175 ⟨rfl, rfl⟩) ?_
        refine wl_vw (.int .i64 (((a : Nat) : Int))) 3 true 75 rfl rfl rfl rfl rfl (y_mov rfl s173 ⟨rfl, rfl⟩) ?_
        refine wl_vw (.int .i64 (((a + 1 : Nat) : Int))) 3 true 75 rfl rfl rfl rfl rfl (y_add rfl rfl rfl (i64_n (by omega) (by omega)) ⟨rfl, rfl⟩) ?_
        refine wl_vw (.bool true) 3 true 75 rfl rfl rfl rfl rfl (y_eqlI rfl rfl rfl (decide_eq_true d179) ⟨rfl, rfl⟩) ?_
        refine wl_v (.bool true) rfl rfl (y_pickT rfl rfl rfl ⟨rfl, rfl⟩) ?_
        refine wl_v (.bool true) rfl rfl (y_mov rfl rfl ⟨rfl, rfl⟩) ?_
        refine wl_unless 9 false 81 rfl rfl rfl (Or.inl rfl) rfl ?_
        refine wl_unless 9 false 81 rfl rfl rfl (Or.inl rfl) rfl ?_
        refine wl_unless 9 false 81 rfl rfl rfl (Or.inl rfl) rfl ?_
        refine wl_unless 9 false 81 rfl rfl rfl (Or.inl rfl) rfl ?_
        refine wl_unless 9 false 81 rfl rfl rfl (Or.inl rfl) rfl ?_
        refine wl_unless 14 true 86 rfl rfl rfl (Or.inr rfl) rfl ?_
        refine wl_unless 14 true 86 rfl rfl rfl (Or.inr rfl) rfl ?_
        refine wl_unless 14 true 86 rfl rfl rfl (Or.inr rfl) rfl ?_
        refine wl_unless 14 true 86 rfl rfl rfl (Or.inr rfl) rfl ?_
        refine wl_unless 18 false 90 rfl rfl rfl (Or.inr rfl) rfl ?_
        refine wl_unless 18 false 90 rfl rfl rfl (Or.inr rfl) rfl ?_
        refine wl_unless 18 false 90 rfl rfl rfl (Or.inr rfl) rfl ?_
        refine wl_unless 18 false 90 rfl rfl rfl (Or.inr rfl) rfl ?_
        refine wl_unless 14 true 86 rfl rfl rfl (Or.inr rfl) rfl ?_
        refine wl_unless 9 false 81 rfl rfl rfl (Or.inl rfl) rfl ?_
        refine wl_v (.bool true) rfl rfl (y_pickT rfl rfl rfl ⟨rfl, rfl⟩) ?_
        refine wl_v (.bool true) rfl rfl (y_asg rfl rfl ⟨rfl, rfl⟩) ?_
        refine wl_nil fun F180 hF181 => ?_
        have s182 : F180 136 = undef := (hF181 136).trans s169
        have s183 : F180 15 = .bool true := (hF181 15).trans s170
        have s184 : F180 18 = v55 := (hF181 18).trans s171
        have s185 : F180 19 = .int .i64 (newVE (((M : Nat) : Int)) (((N : Nat) : Int))) := (hF181 19).trans s172
        have s186 : F180 20 = .int .i64 (((a : Nat) : Int)) := (hF181 20).trans s173
        have s187 : F180 21 = .int .i64 (((b : Nat) : Int)) := (hF181 21).trans s174
        have s188 : F180 22 = .int .i64 (((c : Nat) : Int)) := (hF181 22).trans s175
        have s189 : F180 23 = .int .i64 (((d : Nat) : Int)) := (hF181 23).trans s176
        have s190 : F180 25 = .int .i64 (setO (some (newV ((M : Nat) : Int) ((N : Nat) : Int))) (((a : Nat) : Int)) (((b : Nat) : Int)) (A) (B)) := (hF181 25).trans s177
        have s191 : F180 26 = .bool true := (hF181 26).trans rfl
        clear hF181
        exact ⟨s191.trans (congrArg Value.bool (show true = decide ((((d : Nat) : Int) = b ∧ ((c : Nat) : Int) = a + 1) ∨ (((d : Nat) : Int) = b + 1 ∧ (((c : Nat) : Int) = a ∨ ((c : Nat) : Int) = a - 1))) from by first | exact (decide_eq_true (by omega)).symm | exact (decide_eq_false (by omega)).symm | exact decide_eq_decide.2 (by omega))), s183, s184, s185, s186, s187, s188, s189, s190, s182, K163, B161, B159, B162⟩
      · skip
        by_cases d192 : (((d : Nat) : Int)) = (((b + 1 : Nat) : Int))
        · skip
          by_cases d193 : (((c : Nat) : Int)) = (((a : Nat) : Int))
          · skip
            refine wq_region ?_
            refine wl_v (.int .i64 (((d : Nat) : Int))) rfl rfl (y_mov rfl s176 ⟨rfl, rfl⟩) ?_
            refine wl_v (.int .i64 (((b : Nat) : Int))) rfl rfl (y_mov rfl s174 ⟨rfl, rfl⟩) ?_
            refine wl_v (.bool true) rfl rfl (y_eqlI rfl rfl rfl (decide_eq_true d178) ⟨rfl, rfl⟩) ?_
            refine wl_v (.bool true) rfl rfl (y_mov rfl rfl ⟨rfl, rfl⟩) ?_
            refine wl_vw (.int .i64 (((c : Nat) : Int))) 3 true 75 rfl rfl rfl rfl rfl (y_mov rfl s175 ⟨rfl, rfl⟩) ?_
            refine wl_vw (.int .i64 (((a : Nat) : Int))) 3 true 75 rfl rfl rfl rfl rfl (y_mov rfl s173 ⟨rfl, rfl⟩) ?_
            refine wl_vw (.int .i64 (((a + 1 : Nat) : Int))) 3 true 75 rfl rfl rfl rfl rfl (y_add rfl rfl rfl (i64_n (by omega) (by omega)) ⟨rfl, rfl⟩) ?_
            refine wl_vw (.bool false) 3 true 75 rfl rfl rfl rfl rfl (y_eqlI rfl rfl rfl (decide_eq_false d179) ⟨rfl, rfl⟩) ?_
            refine wl_v (.bool false) rfl rfl (y_pickT rfl rfl rfl ⟨rfl, rfl⟩) ?_
            refine wl_v (.bool false) rfl rfl (y_mov rfl rfl ⟨rfl, rfl⟩) ?_
            refine wl_vw (.int .i64 (((d : Nat) : Int))) 9 false 81 rfl rfl rfl rfl rfl (y_mov rfl s176 ⟨rfl, rfl⟩) ?_
            refine wl_vw (.int .i64 (((b : Nat) : Int))) 9 false 81 rfl rfl rfl rfl rfl (y_mov rfl s174 ⟨rfl, rfl⟩) ?_
            refine wl_vw (.int .i64 (((b + 1 : Nat) : Int))) 9 false 81 rfl rfl rfl rfl rfl (y_add rfl rfl rfl (i64_n (by omega) (by omega)) ⟨rfl, rfl⟩) ?_
            refine wl_vw (.bool true) 9 false 81 rfl rfl rfl rfl rfl (y_eqlI rfl rfl rfl (decide_eq_true d192) ⟨rfl, rfl⟩) ?_
            refine wl_vw (.bool true) 9 false 81 rfl rfl rfl rfl rfl (y_mov rfl rfl ⟨rfl, rfl⟩) ?_
            refine wl_vw (.int .i64 (((c : Nat) : Int))) 14 true 86 rfl rfl rfl rfl rfl (y_mov rfl s175 ⟨rfl, rfl⟩) ?_
            refine wl_vw (.int .i64 (((a : Nat) : Int))) 14 true 86 rfl rfl rfl rfl rfl (y_mov rfl s173 ⟨rfl, rfl⟩) ?_
            refine wl_vw (.bool true) 14 true 86 rfl rfl rfl rfl rfl (y_eqlI rfl rfl rfl (decide_eq_true d193) ⟨rfl, rfl⟩) ?_
            refine wl_vw (.bool true) 14 true 86 rfl rfl rfl rfl rfl (y_mov rfl rfl ⟨rfl, rfl⟩) ?_
            refine wl_unless 18 false 90 rfl rfl rfl (Or.inl rfl) rfl ?_
            refine wl_unless 18 false 90 rfl rfl rfl (Or.inl rfl) rfl ?_
            refine wl_unless 18 false 90 rfl rfl rfl (Or.inl rfl) rfl ?_
            refine wl_unless 18 false 90 rfl rfl rfl (Or.inl rfl) rfl ?_
            refine wl_vw (.bool true) 14 true 86 rfl rfl rfl rfl rfl (y_pickT rfl rfl rfl ⟨rfl, rfl⟩) ?_
            refine wl_vw (.bool true) 9 false 81 rfl rfl rfl rfl rfl (y_pickT rfl rfl rfl ⟨rfl, rfl⟩) ?_
            refine wl_v (.bool true) rfl rfl (y_pickF rfl rfl rfl ⟨rfl, rfl⟩) ?_
            refine wl_v (.bool true) rfl rfl (y_asg rfl rfl ⟨rfl, rfl⟩) ?_
            refine wl_nil fun F194 hF195 => ?_
            have s196 : F194 136 = undef := (hF195 136).trans s169
            have s197 : F194 15 = .bool true := (hF195 15).trans s170
            have s198 : F194 18 = v55 := (hF195 18).trans s171
            have s199 : F194 19 = .int .i64 (newVE (((M : Nat) : Int)) (((N : Nat) : Int))) := (hF195 19).trans s172
            have s200 : F194 20 = .int .i64 (((a : Nat) : Int)) := (hF195 20).trans s173
            have s201 : F194 21 = .int .i64 (((b : Nat) : Int)) := (hF195 21).trans s174
            have s202 : F194 22 = .int .i64 (((c : Nat) : Int)) := (hF195 22).trans s175
            have s203 : F194 23 = .int .i64 (((d : Nat) : Int)) := (hF195 23).trans s176
            have s204 : F194 25 = .int .i64 (setO (some (newV ((M : Nat) : Int) ((N : Nat) : Int))) (((a : Nat) : Int)) (((b : Nat) : Int)) (A) (B)) := (hF195 25).trans s177
            have s205 : F194 26 = .bool true := (hF195 26).trans rfl
            clear hF195
            exact ⟨s205.trans (congrArg Value.bool (show true = decide ((((d : Nat) : Int) = b ∧ ((c : Nat) : Int) = a + 1) ∨ (((d : Nat) : Int) = b + 1 ∧ (((c : Nat) : Int) = a ∨ ((c : Nat) : Int) = a - 1))) from by first | exact (decide_eq_true (by omega)).symm | exact (decide_eq_false (by omega)).symm | exact decide_eq_decide.2 (by omega))), s197, s198, s199, s200, s201, s202, s203, s204, s196, K163, B161, B159, B162⟩
          · skip
            refine wq_region ?_
            refine wl_v (.int .i64 (((d : Nat) : Int))) rfl rfl (y_mov rfl s176 ⟨rfl, rfl⟩) ?_
            refine wl_v (.int .i64 (((b : Nat) : Int))) rfl rfl (y_mov rfl s174 ⟨rfl, rfl⟩) ?_
            refine wl_v (.bool true) rfl rfl (y_eqlI rfl rfl rfl (decide_eq_true d178) ⟨rfl, rfl⟩) ?_
            refine wl_v (.bool true) rfl rfl (y_mov rfl rfl ⟨rfl, rfl⟩) ?_
            refine wl_vw (.int .i64 (((c : Nat) : Int))) 3 true 75 rfl rfl rfl rfl rfl (y_mov rfl s175 ⟨rfl, rfl⟩) ?_
            refine wl_vw (.int .i64 (((a : Nat) : Int))) 3 true 75 rfl rfl rfl rfl rfl (y_mov rfl s173 ⟨rfl, rfl⟩) ?_
            refine wl_vw (.int .i64 (((a + 1 : Nat) : Int))) 3 true 75 rfl rfl rfl rfl rfl (y_add rfl rfl rfl (i64_n (by omega) (by omega)) ⟨rfl, rfl⟩) ?_
            refine wl_vw (.bool false) 3 true 75 rfl rfl rfl rfl rfl (y_eqlI rfl rfl rfl (decide_eq_false d179) ⟨rfl, rfl⟩) ?_
            refine wl_v (.bool false) rfl rfl (y_pickT rfl rfl rfl ⟨rfl, rfl⟩) ?_
            refine wl_v (.bool false) rfl rfl (y_mov rfl rfl ⟨rfl, rfl⟩) ?_
            refine wl_vw (.int .i64 (((d : Nat) : Int))) 9 false 81 rfl rfl rfl rfl rfl (y_mov rfl s176 ⟨rfl, rfl⟩) ?_
            refine wl_vw (.int .i64 (((b : Nat) : Int))) 9 false 81 rfl rfl rfl rfl rfl (y_mov rfl s174 ⟨rfl, rfl⟩) ?_
            refine wl_vw (.int .i64 (((b + 1 : Nat) : Int))) 9 false 81 rfl rfl rfl rfl rfl (y_add rfl rfl rfl (i64_n (by omega) (by omega)) ⟨rfl, rfl⟩) ?_
            refine wl_vw (.bool true) 9 false 81 rfl rfl rfl rfl rfl (y_eqlI rfl rfl rfl (decide_eq_true d192) ⟨rfl, rfl⟩) ?_
            refine wl_vw (.bool true) 9 false 81 rfl rfl rfl rfl rfl (y_mov rfl rfl ⟨rfl, rfl⟩) ?_
            refine wl_vw (.int .i64 (((c : Nat) : Int))) 14 true 86 rfl rfl rfl rfl rfl (y_mov rfl s175 ⟨rfl, rfl⟩) ?_
            refine wl_vw (.int .i64 (((a : Nat) : Int))) 14 true 86 rfl rfl rfl rfl rfl (y_mov rfl s173 ⟨rfl, rfl⟩) ?_
            refine wl_vw (.bool false) 14 true 86 rfl rfl rfl rfl rfl (y_eqlI rfl rfl rfl (decide_eq_false d193) ⟨rfl, rfl⟩) ?_
            refine wl_vw (.bool false) 14 true 86 rfl rfl rfl rfl rfl (y_mov rfl rfl ⟨rfl, rfl⟩) ?_
            refine wl_vw (.int .i64 (((c : Nat) : Int))) 18 false 90 rfl rfl rfl rfl rfl (y_mov rfl s175 ⟨rfl, rfl⟩) ?_
            refine wl_vw (.int .i64 (((a : Nat) : Int))) 18 false 90 rfl rfl rfl rfl rfl (y_mov rfl s173 ⟨rfl, rfl⟩) ?_
            refine wl_vw (.int .i64 ((((a : Nat) : Int)) - (1))) 18 false 90 rfl rfl rfl rfl rfl (y_sub rfl rfl rfl (i64_i rfl (by omega)) ⟨rfl, rfl⟩) ?_
            refine wl_vw (.bool (decide ((((c : Nat) : Int)) = ((((a : Nat) : Int)) - (1))))) 18 false 90 rfl rfl rfl rfl rfl (y_eqlI rfl rfl rfl rfl ⟨rfl, rfl⟩) ?_
            refine wl_vw (.bool (decide ((((c : Nat) : Int)) = ((((a : Nat) : Int)) - (1))))) 14 true 86 rfl rfl rfl rfl rfl (y_pickF rfl rfl rfl ⟨rfl, rfl⟩) ?_
            refine wl_vw (.bool (decide ((((c : Nat) : Int)) = ((((a : Nat) : Int)) - (1))))) 9 false 81 rfl rfl rfl rfl rfl (y_pickT rfl rfl rfl ⟨rfl, rfl⟩) ?_
            refine wl_v (.bool (decide ((((c : Nat) : Int)) = ((((a : Nat) : Int)) - (1))))) rfl rfl (y_pickF rfl rfl rfl ⟨rfl, rfl⟩) ?_
            refine wl_v (.bool (decide ((((c : Nat) : Int)) = ((((a : Nat) : Int)) - (1))))) rfl rfl (y_asg rfl rfl ⟨rfl, rfl⟩) ?_
            refine wl_nil fun F206 hF207 => ?_
            have s208 : F206 136 = undef := (hF207 136).trans s169
            have s209 : F206 15 = .bool true := (hF207 15).trans s170
            have s210 : F206 18 = v55 := (hF207 18).trans s171
            have s211 : F206 19 = .int .i64 (newVE (((M : Nat) : Int)) (((N : Nat) : Int))) := (hF207 19).trans s172
            have s212 : F206 20 = .int .i64 (((a : Nat) : Int)) := (hF207 20).trans s173
            have s213 : F206 21 = .int .i64 (((b : Nat) : Int)) := (hF207 21).trans s174
            have s214 : F206 22 = .int .i64 (((c : Nat) : Int)) := (hF207 22).trans s175
            have s215 : F206 23 = .int .i64 (((d : Nat) : Int)) := (hF207 23).trans s176
            have s216 : F206 25 = .int .i64 (setO (some (newV ((M : Nat) : Int) ((N : Nat) : Int))) (((a : Nat) : Int)) (((b : Nat) : Int)) (A) (B)) := (hF207 25).trans s177
            have s217 : F206 26 = .bool (decide ((((c : Nat) : Int)) = ((((a : Nat) : Int)) - (1)))) := (hF207 26).trans rfl
            clear hF207
            exact ⟨s217.trans (congrArg Value.bool (show decide ((((c : Nat) : Int)) = ((((a : Nat) : Int)) - (1))) = decide ((((d : Nat) : Int) = b ∧ ((c : Nat) : Int) = a + 1) ∨ (((d : Nat) : Int) = b + 1 ∧ (((c : Nat) : Int) = a ∨ ((c : Nat) : Int) = a - 1))) from by first | exact (decide_eq_true (by omega)).symm | exact (decide_eq_false (by omega)).symm | exact decide_eq_decide.2 (by omega))), s209, s210, s211, s212, s213, s214, s215, s216, s208, K163, B161, B159, B162⟩
        · skip
          refine wq_region ?_
          refine wl_v (.int .i64 (((d : Nat) : Int))) rfl rfl (y_mov rfl s176 ⟨rfl, rfl⟩) ?_
          refine wl_v (.int .i64 (((b : Nat) : Int))) rfl rfl (y_mov rfl s174 ⟨rfl, rfl⟩) ?_
          refine wl_v (.bool true) rfl rfl (y_eqlI rfl rfl rfl (decide_eq_true d178) ⟨rfl, rfl⟩) ?_
          refine wl_v (.bool true) rfl rfl (y_mov rfl rfl ⟨rfl, rfl⟩) ?_
          refine wl_vw (.int .i64 (((c : Nat) : Int))) 3 true 75 rfl rfl rfl rfl rfl (y_mov rfl s175 ⟨rfl, rfl⟩) ?_
          refine wl_vw (.int .i64 (((a : Nat) : Int))) 3 true 75 rfl rfl rfl rfl rfl (y_mov rfl s173 ⟨rfl, rfl⟩) ?_
          refine wl_vw (.int .i64 (((a + 1 : Nat) : Int))) 3 true 75 rfl rfl rfl rfl rfl (y_add rfl rfl rfl (i64_n (by omega) (by omega)) ⟨rfl, rfl⟩) ?_
          refine wl_vw (.bool false) 3 true 75 rfl rfl rfl rfl rfl (y_eqlI rfl rfl rfl (decide_eq_false d179) ⟨rfl, rfl⟩) ?_
          refine wl_v (.bool false) rfl rfl (y_pickT rfl rfl rfl ⟨rfl, rfl⟩) ?_
          refine wl_v (.bool false) rfl rfl (y_mov rfl rfl ⟨rfl, rfl⟩) ?_
          refine wl_vw (.int .i64 (((d : Nat) : Int))) 9 false 81 rfl rfl rfl rfl rfl (y_mov rfl s176 ⟨rfl, rfl⟩) ?_
          refine wl_vw (.int .i64 (((b : Nat) : Int))) 9 false 81 rfl rfl rfl rfl rfl (y_mov rfl s174 ⟨rfl, rfl⟩) ?_
          refine wl_vw (.int .i64 (((b + 1 : Nat) : Int))) 9 false 81 rfl rfl rfl rfl rfl (y_add rfl rfl rfl (i64_n (by omega) (by omega)) ⟨rfl, rfl⟩) ?_
          refine wl_vw (.bool false) 9 false 81 rfl rfl rfl rfl rfl (y_eqlI rfl rfl rfl (decide_eq_false d192) ⟨rfl, rfl⟩) ?_
          refine wl_vw (.bool false) 9 false 81 rfl rfl rfl rfl rfl (y_mov rfl rfl ⟨rfl, rfl⟩) ?_
          refine wl_unless 14 true 86 rfl rfl rfl (Or.inl rfl) rfl ?_
          refine wl_unless 14 true 86 rfl rfl rfl (Or.inl rfl) rfl ?_
          refine wl_unless 14 true 86 rfl rfl rfl (Or.inl rfl) rfl ?_
          refine wl_unless 14 true 86 rfl rfl rfl (Or.inl rfl) rfl ?_
          refine wl_unless 18 false 90 rfl rfl rfl (Or.inr rfl) rfl ?_
          refine wl_unless 18 false 90 rfl rfl rfl (Or.inr rfl) rfl ?_
          refine wl_unless 18 false 90 rfl rfl rfl (Or.inr rfl) rfl ?_
          refine wl_unless 18 false 90 rfl rfl rfl (Or.inr rfl) rfl ?_
          refine wl_unless 14 true 86 rfl rfl rfl (Or.inl rfl) rfl ?_
          refine wl_vw (.bool false) 9 false 81 rfl rfl rfl rfl rfl (y_pickF rfl rfl rfl ⟨rfl, rfl⟩) ?_
          refine wl_v (.bool false) rfl rfl (y_pickF rfl rfl rfl ⟨rfl, rfl⟩) ?_
          refine wl_v (.bool false) rfl rfl (y_asg rfl rfl ⟨rfl, rfl⟩) ?_
          refine wl_nil fun F218 hF219 => ?_
          have s220 : F218 136 = undef := (hF219 136).trans s169
          have s221 : F218 15 = .bool true := (hF219 15).trans s170
          have s222 : F218 18 = v55 := (hF219 18).trans s171
          have s223 : F218 19 = .int .i64 (newVE (((M : Nat) : Int)) (((N : Nat) : Int))) := (hF219 19).trans s172
          have s224 : F218 20 = .int .i64 (((a : Nat) : Int)) := (hF219 20).trans s173
          have s225 : F218 21 = .int .i64 (((b : Nat) : Int)) := (hF219 21).trans s174
          have s226 : F218 22 = .int .i64 (((c : Nat) : Int)) := (hF219 22).trans s175
          have s227 : F218 23 = .int .i64 (((d : Nat) : Int)) := (hF219 23).trans s176
          have s228 : F218 25 = .int .i64 (setO (some (newV ((M : Nat) : Int) ((N : Nat) : Int))) (((a : Nat) : Int)) (((b : Nat) : Int)) (A) (B)) := (hF219 25).trans s177
          have s229 : F218 26 = .bool false := (hF219 26).trans rfl
          clear hF219
          exact ⟨s229.trans (congrArg Value.bool (show false = decide ((((d : Nat) : Int) = b ∧ ((c : Nat) : Int) = a + 1) ∨ (((d : Nat) : Int) = b + 1 ∧ (((c : Nat) : Int) = a ∨ ((c : Nat) : Int) = a - 1))) from by first | exact (decide_eq_true (by omega)).symm | exact (decide_eq_false (by omega)).symm | exact decide_eq_decide.2 (by omega))), s221, s222, s223, s224, s225, s226, s227, s228, s220, K163, B161, B159, B162⟩
    · skip
      by_cases d230 : (((d : Nat) : Int)) = (((b + 1 : Nat) : Int))
      · skip
        by_cases d231 : (((c : Nat) : Int)) = (((a : Nat) : Int))
        · skip
          refine wq_region ?_
          refine wl_v (.int .i64 (((d : Nat) : Int))) rfl rfl (y_mov rfl s176 ⟨rfl, rfl⟩) ?_
          refine wl_v (.int .i64 (((b : Nat) : Int))) rfl rfl (y_mov rfl s174 ⟨rfl, rfl⟩) ?_
          refine wl_v (.bool false) rfl rfl (y_eqlI rfl rfl rfl (decide_eq_false d178) ⟨rfl, rfl⟩) ?_
          refine wl_v (.bool false) rfl rfl (y_mov rfl rfl ⟨rfl, rfl⟩) ?_
          refine wl_unless 3 true 75 rfl rfl rfl (Or.inl rfl) rfl ?_
          refine wl_unless 3 true 75 rfl rfl rfl (Or.inl rfl) rfl ?_
          refine wl_unless 3 true 75 rfl rfl rfl (Or.inl rfl) rfl ?_
          refine wl_unless 3 true 75 rfl rfl rfl (Or.inl rfl) rfl ?_
          refine wl_v (.bool false) rfl rfl (y_pickF rfl rfl rfl ⟨rfl, rfl⟩) ?_
          refine wl_v (.bool false) rfl rfl (y_mov rfl rfl ⟨rfl, rfl⟩) ?_
          refine wl_vw (.int .i64 (((d : Nat) : Int))) 9 false 81 rfl rfl rfl rfl rfl (y_mov rfl s176 ⟨rfl, rfl⟩) ?_
          refine wl_vw (.int .i64 (((b : Nat) : Int))) 9 false 81 rfl rfl rfl rfl rfl (y_mov rfl s174 ⟨rfl, rfl⟩) ?_
          refine wl_vw (.int .i64 (((b + 1 : Nat) : Int))) 9 false 81 rfl rfl rfl rfl rfl (y_add rfl rfl rfl (i64_n (by omega) (by omega)) ⟨rfl, rfl⟩) ?_
          refine wl_vw (.bool true) 9 false 81 rfl rfl rfl rfl rfl (y_eqlI rfl rfl rfl (decide_eq_true d230) ⟨rfl, rfl⟩) ?_
          refine wl_vw (.bool true) 9 false 81 rfl rfl rfl rfl rfl (y_mov rfl rfl ⟨rfl, rfl⟩) ?_
          refine wl_vw (.int .i64 (((c : Nat) : Int))) 14 true 86 rfl rfl rfl rfl rfl (y_mov rfl s175 ⟨rfl, rfl⟩) ?_
          refine wl_vw (.int .i64 (((a : Nat) : Int))) 14 true 86 rfl rfl rfl rfl rfl (y_mov rfl s173 ⟨rfl, rfl⟩) ?_
          refine wl_vw (.bool true) 14 true 86 rfl rfl rfl rfl rfl (y_eqlI rfl rfl rfl (decide_eq_true d231) ⟨rfl, rfl⟩) ?_
          refine wl_vw (.bool true) 14 true 86 rfl rfl rfl rfl rfl (y_mov rfl rfl ⟨rfl, rfl⟩) ?_
          refine wl_unless 18 false 90 rfl rfl rfl (Or.inl rfl) rfl ?_
          refine wl_unless 18 false 90 rfl rfl rfl (Or.inl rfl) rfl ?_
          refine wl_unless 18 false 90 rfl rfl rfl (Or.inl rfl) rfl ?_
          refine wl_unless 18 false 90 rfl rfl rfl (Or.inl rfl) rfl ?_
          refine wl_vw (.bool true) 14 true 86 rfl rfl rfl rfl rfl (y_pickT rfl rfl rfl ⟨rfl, rfl⟩) ?_
          refine wl_vw (.bool true) 9 false 81 rfl rfl rfl rfl rfl (y_pickT rfl rfl rfl ⟨rfl, rfl⟩) ?_
          refine wl_v (.bool true) rfl rfl (y_pickF rfl rfl rfl ⟨rfl, rfl⟩) ?_
          refine wl_v (.bool true) rfl rfl (y_asg rfl rfl ⟨rfl, rfl⟩) ?_
          refine wl_nil fun F232 hF233 => ?_
          have s234 : F232 136 = undef := (hF233 136).trans s169
          have s235 : F232 15 = .bool true := (hF233 15).trans s170
          have s236 : F232 18 = v55 := (hF233 18).trans s171
          have s237 : F232 19 = .int .i64 (newVE (((M : Nat) : Int)) (((N : Nat) : Int))) := (hF233 19).trans s172
          have s238 : F232 20 = .int .i64 (((a : Nat) : Int)) := (hF233 20).trans s173
          have s239 : F232 21 = .int .i64 (((b : Nat) : Int)) := (hF233 21).trans s174
          have s240 : F232 22 = .int .i64 (((c : Nat) : Int)) := (hF233 22).trans s175
          have s241 : F232 23 = .int .i64 (((d : Nat) : Int)) := (hF233 23).trans s176
          have s242 : F232 25 = .int .i64 (setO (some (newV ((M : Nat) : Int) ((N : Nat) : Int))) (((a : Nat) : Int)) (((b : Nat) : Int)) (A) (B)) := (hF233 25).trans s177
          have s243 : F232 26 = .bool true := (hF233 26).trans rfl
          clear hF233
          exact ⟨s243.trans (congrArg Value.bool (show true = decide ((((d : Nat) : Int) = b ∧ ((c : Nat) : Int) = a + 1) ∨ (((d : Nat) : Int) = b + 1 ∧ (((c : Nat) : Int) = a ∨ ((c : Nat) : Int) = a - 1))) from by first | exact (decide_eq_true (by omega)).symm | exact (decide_eq_false (by omega)).symm | exact decide_eq_decide.2 (by omega))), s235, s236, s237, s238, s239, s240, s241, s242, s234, K163, B161, B159, B162⟩
        · skip
          refine wq_region ?_
          refine wl_v (.int .i64 (((d : Nat) : Int))) rfl rfl (y_mov rfl s176 ⟨rfl, rfl⟩) ?_
          refine wl_v (.int .i64 (((b : Nat) : Int))) rfl rfl (y_mov rfl s174 ⟨rfl, rfl⟩) ?_
          refine wl_v (.bool false) rfl rfl (y_eqlI rfl rfl rfl (decide_eq_false d178) ⟨rfl, rfl⟩) ?_
          refine wl_v (.bool false) rfl rfl (y_mov rfl rfl ⟨rfl, rfl⟩) ?_
          refine wl_unless 3 true 75 rfl rfl rfl (Or.inl rfl) rfl ?_
          refine wl_unless 3 true 75 rfl rfl rfl (Or.inl rfl) rfl ?_
          refine wl_unless 3 true 75 rfl rfl rfl (Or.inl rfl) rfl ?_
          refine wl_unless 3 true 75 rfl rfl rfl (Or.inl rfl) rfl ?_
          refine wl_v (.bool false) rfl rfl (y_pickF rfl rfl rfl ⟨rfl, rfl⟩) ?_
          refine wl_v (.bool false) rfl rfl (y_mov rfl rfl ⟨rfl, rfl⟩) ?_
          refine wl_vw (.int .i64 (((d : Nat) : Int))) 9 false 81 rfl rfl rfl rfl rfl (y_mov rfl s176 ⟨rfl, rfl⟩) ?_
          refine wl_vw (.int .i64 (((b : Nat) : Int))) 9 false 81 rfl rfl rfl rfl rfl (y_mov rfl s174 ⟨rfl, rfl⟩) ?_
          refine wl_vw (.int .i64 (((b + 1 : Nat) : Int))) 9 false 81 rfl rfl rfl rfl rfl (y_add rfl rfl rfl (i64_n (by omega) (by omega)) ⟨rfl, rfl⟩) ?_
          refine wl_vw (.bool true) 9 false 81 rfl rfl rfl rfl rfl (y_eqlI rfl rfl rfl (decide_eq_true d230) ⟨rfl, rfl⟩) ?_
          refine wl_vw (.bool true) 9 false 81 rfl rfl rfl rfl rfl (y_mov rfl rfl ⟨rfl, rfl⟩) ?_
          refine wl_vw (.int .i64 (((c : Nat) : Int))) 14 true 86 rfl rfl rfl rfl rfl (y_mov rfl s175 ⟨rfl, rfl⟩) ?_
          refine wl_vw (.int .i64 (((a : Nat) : Int))) 14 true 86 rfl rfl rfl rfl rfl (y_mov rfl s173 ⟨rfl, rfl⟩) ?_
          refine wl_vw (.bool false) 14 true 86 rfl rfl rfl rfl rfl (y_eqlI rfl rfl rfl (decide_eq_false d231) ⟨rfl, rfl⟩) ?_
          refine wl_vw (.bool false) 14 true 86 rfl rfl rfl rfl rfl (y_mov rfl rfl ⟨rfl, rfl⟩) ?_
          refine wl_vw (.int .i64 (((c : Nat) : Int))) 18 false 90 rfl rfl rfl rfl rfl (y_mov rfl s175 ⟨rfl, rfl⟩) ?_
          refine wl_vw (.int .i64 (((a : Nat) : Int))) 18 false 90 rfl rfl rfl rfl rfl (y_mov rfl s173 ⟨rfl, rfl⟩) ?_
          refine wl_vw (.int .i64 ((((a : Nat) : Int)) - (1))) 18 false 90 rfl rfl rfl rfl rfl (y_sub rfl rfl rfl (i64_i rfl (by omega)) ⟨rfl, rfl⟩) ?_
          refine wl_vw (.bool (decide ((((c : Nat) : Int)) = ((((a : Nat) : Int)) - (1))))) 18 false 90 rfl rfl rfl rfl rfl (y_eqlI rfl rfl rfl rfl ⟨rfl, rfl⟩) ?_
          refine wl_vw (.bool (decide ((((c : Nat) : Int)) = ((((a : Nat) : Int)) - (1))))) 14 true 86 rfl rfl rfl rfl rfl (y_pickF rfl rfl rfl ⟨rfl, rfl⟩) ?_
          refine wl_vw (.bool (decide ((((c : Nat) : Int)) = ((((a : Nat) : Int)) - (1))))) 9 false 81 rfl rfl rfl rfl rfl (y_pickT rfl rfl rfl ⟨rfl, rfl⟩) ?_
          refine wl_v (.bool (decide ((((c : Nat) : Int)) = ((((a : Nat) : Int)) - (1))))) rfl rfl (y_pickF rfl rfl rfl ⟨rfl, rfl⟩) ?_
          refine wl_v (.bool (decide ((((c : Nat) : Int)) = ((((a : Nat) : Int)) - (1))))) rfl rfl (y_asg rfl rfl ⟨rfl, rfl⟩) ?_
          refine wl_nil fun F244 hF245 => ?_
          have s246 : F244 136 = undef := (hF245 136).trans s169
          have s247 : F244 15 = .bool true := (hF245 15).trans s170
          have s248 : F244 18 = v55 := (hF245 18).trans s171
          have s249 : F244 19 = .int .i64 (newVE (((M : Nat) : Int)) (((N : Nat) : Int))) := (hF245 19).trans s172
          have s250 : F244 20 = .int .i64 (((a : Nat) : Int)) := (hF245 20).trans s173
          have s251 : F244 21 = .int .i64 (((b : Nat) : Int)) := (hF245 21).trans s174
          have s252 : F244 22 = .int .i64 (((c : Nat) : Int)) := (hF245 22).trans s175
          have s253 : F244 23 = .int .i64 (((d : Nat) : Int)) := (hF245 23).trans s176
          have s254 : F244 25 = .int .i64 (setO (some (newV ((M : Nat) : Int) ((N : Nat) : Int))) (((a : Nat) : Int)) (((b : Nat) : Int)) (A) (B)) := (hF245 25).trans s177
          have s255 : F244 26 = .bool (decide ((((c : Nat) : Int)) = ((((a : Nat) : Int)) - (1)))) := (hF245 26).trans rfl
          clear hF245
          exact ⟨s255.trans (congrArg Value.bool (show decide ((((c : Nat) : Int)) = ((((a : Nat) : Int)) - (1))) = decide ((((d : Nat) : Int) = b ∧ ((c : Nat) : Int) = a + 1) ∨ (((d : Nat) : Int) = b + 1 ∧ (((c : Nat) : Int) = a ∨ ((c : Nat) : Int) = a - 1))) from by first | exact (decide_eq_true (by omega)).symm | exact (decide_eq_false (by omega)).symm | exact decide_eq_decide.2 (by omega))), s247, s248, s249, s250, s251, s252, s253, s254, s246, K163, B161, B159, B162⟩
      · skip
        refine wq_region ?_
        refine wl_v (.int .i64 (((d : Nat) : Int))) rfl rfl (y_mov rfl s176 ⟨rfl, rfl⟩) ?_
        refine wl_v (.int .i64 (((b : Nat) : Int))) rfl rfl (y_mov rfl s174 ⟨rfl, rfl⟩) ?_
        refine wl_v (.bool false) rfl rfl (y_eqlI rfl rfl rfl (decide_eq_false d178) ⟨rfl, rfl⟩) ?_
        refine wl_v (.bool false) rfl rfl (y_mov rfl rfl ⟨rfl, rfl⟩) ?_
        refine wl_unless 3 true 75 rfl rfl rfl (Or.inl rfl) rfl ?_
        refine wl_unless 3 true 75 rfl rfl rfl (Or.inl rfl) rfl ?_
        refine wl_unless 3 true 75 rfl rfl rfl (Or.inl rfl) rfl ?_
        refine wl_unless 3 true 75 rfl rfl rfl (Or.inl rfl) rfl ?_
        refine wl_v (.bool false) rfl rfl (y_pickF rfl rfl rfl ⟨rfl, rfl⟩) ?_
        refine wl_v (.bool false) rfl rfl (y_mov rfl rfl ⟨rfl, rfl⟩) ?_
        refine wl_vw (.int .i64 (((d : Nat) : Int))) 9 false 81 rfl rfl rfl rfl rfl (y_mov rfl s176 ⟨rfl, rfl⟩) ?_
        refine wl_vw (.int .i64 (((b : Nat) : Int))) 9 false 81 rfl rfl rfl rfl rfl (y_mov rfl s174 ⟨rfl, rfl⟩) ?_
        refine wl_vw (.int .i64 (((b + 1 : Nat) : Int))) 9 false 81 rfl rfl rfl rfl rfl (y_add rfl rfl rfl (i64_n (by omega) (by omega)) ⟨rfl, rfl⟩) ?_
        refine wl_vw (.bool false) 9 false 81 rfl rfl rfl rfl rfl (y_eqlI rfl rfl rfl (decide_eq_false d230) ⟨rfl, rfl⟩) ?_
        refine wl_vw (.bool false) 9 false 81 rfl rfl rfl rfl rfl (y_mov rfl rfl ⟨rfl, rfl⟩) ?_
        refine wl_unless 14 true 86 rfl rfl rfl (Or.inl rfl) rfl ?_
        refine wl_unless 14 true 86 rfl rfl rfl (Or.inl rfl) rfl ?_
        refine wl_unless 14 true 86 rfl rfl rfl (Or.inl rfl) rfl ?_
        refine wl_unless 14 true 86 rfl rfl rfl (Or.inl rfl) rfl ?_
        refine wl_unless 18 false 90 rfl rfl rfl (Or.inr rfl) rfl ?_
        refine wl_unless 18 false 90 rfl rfl rfl (Or.inr rfl) rfl ?_
        refine wl_unless 18 false 90 rfl rfl rfl (Or.inr rfl) rfl ?_
        refine wl_unless 18 false 90 rfl rfl rfl (Or.inr rfl) rfl ?_
        refine wl_unless 14 true 86 rfl rfl rfl (Or.inl rfl) rfl ?_
        refine wl_vw (.bool false) 9 false 81 rfl rfl rfl rfl rfl (y_pickF rfl rfl rfl ⟨rfl, rfl⟩) ?_
        refine wl_v (.bool false) rfl rfl (y_pickF rfl rfl rfl ⟨rfl, rfl⟩) ?_
        refine wl_v (.bool false) rfl rfl (y_asg rfl rfl ⟨rfl, rfl⟩) ?_
        refine wl_nil fun F256 hF257 => ?_
        have s258 : F256 136 = undef := (hF257 136).trans s169
        have s259 : F256 15 = .bool true := (hF257 15).trans s170
        have s260 : F256 18 = v55 := (hF257 18).trans s171
        have s261 : F256 19 = .int .i64 (newVE (((M : Nat) : Int)) (((N : Nat) : Int))) := (hF257 19).trans s172
        have s262 : F256 20 = .int .i64 (((a : Nat) : Int)) := (hF257 20).trans s173
        have s263 : F256 21 = .int .i64 (((b : Nat) : Int)) := (hF257 21).trans s174
        have s264 : F256 22 = .int .i64 (((c : Nat) : Int)) := (hF257 22).trans s175
        have s265 : F256 23 = .int .i64 (((d : Nat) : Int)) := (hF257 23).trans s176
        have s266 : F256 25 = .int .i64 (setO (some (newV ((M : Nat) : Int) ((N : Nat) : Int))) (((a : Nat) : Int)) (((b : Nat) : Int)) (A) (B)) := (hF257 25).trans s177
        have s267 : F256 26 = .bool false := (hF257 26).trans rfl
        clear hF257
        exact ⟨s267.trans (congrArg Value.bool (show false = decide ((((d : Nat) : Int) = b ∧ ((c : Nat) : Int) = a + 1) ∨ (((d : Nat) : Int) = b + 1 ∧ (((c : Nat) : Int) = a ∨ ((c : Nat) : Int) = a - 1))) from by first | exact (decide_eq_true (by omega)).symm | exact (decide_eq_false (by omega)).symm | exact decide_eq_decide.2 (by omega))), s259, s260, s261, s262, s263, s264, s265, s266, s258, K163, B161, B159, B162⟩
  · rintro F268 w269 ⟨s271, s272, s273, s274, s275, s276, s277, s278, s279, s280, K270, B281, B282, B283⟩
    refine then_normal ?_
    refine wq_seq ?_
    refine wq_region ?_
    refine wl_v (v55) rfl rfl (y_mov rfl s273 ⟨rfl, rfl⟩) ?_
    refine wl_v (.int .i64 (((c : Nat) : Int))) rfl rfl (y_mov rfl s277 ⟨rfl, rfl⟩) ?_
    refine wl_v (.int .i64 (((d : Nat) : Int))) rfl rfl (y_mov rfl s278 ⟨rfl, rfl⟩) ?_
    refine wl_call (R := fun v_ w_ => v_ = .agg #[.int .i64 (gOX ((putO (some (newV ((M : Nat) : Int) ((N : Nat) : Int))) (((a : Nat) : Int)) (((b : Nat) : Int)) (A) (B))) (((c : Nat) : Int)) (((d : Nat) : Int))), .int .i64 (gOY ((putO (some (newV ((M : Nat) : Int) ((N : Nat) : Int))) (((a : Nat) : Int)) (((b : Nat) : Int)) (A) (B))) (((c : Nat) : Int)) (((d : Nat) : Int)))] ∧ Kept (fun _ => False) w269 w_) rfl rfl (y_cs rfl rfl rfl (fun _ _ => by kernel_rfl) (ev_func _) (vsC rfl (vsC rfl (vsC rfl vsN))) (vt_guess (v55) ((putO (some (newV ((M : Nat) : Int) ((N : Nat) : Int))) (((a : Nat) : Int)) (((b : Nat) : Int)) (A) (B))) (((c : Nat) : Int)) (((d : Nat) : Int)) (T158) _ (by unfold inI; omega) (by unfold inI; omega) B282 ) (fun e_ w_ h_ => ⟨_, h_.1, rfl, h_.2⟩)) ?_
    rintro _ w284 ⟨rfl, k285⟩
    have B286 := B281.all k285 id
    have B287 := B282.all k285 Apart.none
    have B288 := B283.all k285 id
    have K289 := K270.trans k285 (fun _ _ x => x.elim)
    refine wl_alloc_stc (n := 2) (vs := [.int .i64 (0), .int .i64 (0)]) rfl rfl rfl (by kernel_rfl) fun p290 w291 B293 g294 k292 => ?_
    have gr295 : Grew w0 noB (onB p290) := Grew.new K289 g294
    have ap296 : Apart (onB p290) (onB p1) := Apart.new g294 (onB_live (B286).lt)
    have ap297 : Apart (onB p290) (T158) := Apart.new g294 (B287).live
    have ap298 : Apart (onB p290) (onB p128) := Apart.new g294 (onB_live (B288).lt)
    have B299 := B286.all k292 id
    have B300 := B287.all k292 Apart.none
    have B301 := B288.all k292 id
    have K302 := K289.trans k292 (fun _ _ x => x.elim)
    refine wl_store_stc (us := [.int .i64 (gOX ((putO (some (newV ((M : Nat) : Int) ((N : Nat) : Int))) (((a : Nat) : Int)) (((b : Nat) : Int)) (A) (B))) (((c : Nat) : Int)) (((d : Nat) : Int))), .int .i64 (gOY ((putO (some (newV ((M : Nat) : Int) ((N : Nat) : Int))) (((a : Nat) : Int)) (((b : Nat) : Int)) (A) (B))) (((c : Nat) : Int)) (((d : Nat) : Int)))]) stcT_vector rfl rfl rfl rfl rfl B293 rfl (oneI rfl (oneI rfl oneN)) fun w303 B304 k305 => ?_
    have B306 := B299.all k305 (fun x => (((ap296).symm) p1 rfl x))
    have B307 := B300.all k305 (fun i h x => (((ap297).symm) i h x))
    have B308 := B301.all k305 (fun x => (((ap298).symm) p128 rfl x))
    have K309 := K302.trans k305 (Grew.ok (S := fun _ => False) gr295 noB_le)
    refine wl_nil fun F310 hF311 => ?_
    have s312 : F310 26 = .bool (decide ((((d : Nat) : Int) = b ∧ ((c : Nat) : Int) = a + 1) ∨ (((d : Nat) : Int) = b + 1 ∧ (((c : Nat) : Int) = a ∨ ((c : Nat) : Int) = a - 1)))) := (hF311 26).trans s271
    have s313 : F310 15 = .bool true := (hF311 15).trans s272
    have s314 : F310 18 = v55 := (hF311 18).trans s273
    have s315 : F310 19 = .int .i64 (newVE (((M : Nat) : Int)) (((N : Nat) : Int))) := (hF311 19).trans s274
    have s316 : F310 20 = .int .i64 (((a : Nat) : Int)) := (hF311 20).trans s275
    have s317 : F310 21 = .int .i64 (((b : Nat) : Int)) := (hF311 21).trans s276
    have s318 : F310 22 = .int .i64 (((c : Nat) : Int)) := (hF311 22).trans s277
    have s319 : F310 23 = .int .i64 (((d : Nat) : Int)) := (hF311 23).trans s278
    have s320 : F310 25 = .int .i64 (setO (some (newV ((M : Nat) : Int) ((N : Nat) : Int))) (((a : Nat) : Int)) (((b : Nat) : Int)) (A) (B)) := (hF311 25).trans s279
    have s321 : F310 136 = undef := (hF311 136).trans s280
    have s322 : F310 27 = .pointer (some ⟨p290, 0, none⟩) := (hF311 27).trans rfl
    clear hF311
    refine then_normal ?_
    refine wq_seq ?_
    refine wq_region ?_
    refine wl_v (v55) rfl rfl (y_mov rfl s314 ⟨rfl, rfl⟩) ?_
    refine wl_v (.int .i64 (((a : Nat) : Int))) rfl rfl (y_mov rfl s316 ⟨rfl, rfl⟩) ?_
    refine wl_v (.int .i64 (((b : Nat) : Int))) rfl rfl (y_mov rfl s317 ⟨rfl, rfl⟩) ?_
    refine wl_v (.agg #[.int .i64 (0), .int .i64 (0)]) rfl rfl (y_buildL (l' := []) (cells := #[.int .i64 (0), .int .i64 (0)]) rfl bpN (by kernel_rfl) rfl ⟨rfl, rfl⟩) ?_
    refine wl_call (R := fun v_ w_ => ∃ (T325 : Nat → Prop), .int .i64 (setO ((putO (some (newV ((M : Nat) : Int) ((N : Nat) : Int))) (((a : Nat) : Int)) (((b : Nat) : Int)) (A) (B))) (((a : Nat) : Int)) (((b : Nat) : Int)) (0) (0)) = v_ ∧ Kept (T158) w303 w_ ∧ (Vpo w_ T325 v55 ((putO ((putO (some (newV ((M : Nat) : Int) ((N : Nat) : Int))) (((a : Nat) : Int)) (((b : Nat) : Int)) (A) (B))) (((a : Nat) : Int)) (((b : Nat) : Int)) (0) (0))) ∧ Grew w303 (T158) T325)) rfl rfl (y_cs rfl rfl rfl (fun _ _ => by kernel_rfl) (ev_func _) (vsC rfl (vsC rfl (vsC rfl (vsC rfl vsN)))) (vt_set (v55) ((putO (some (newV ((M : Nat) : Int) ((N : Nat) : Int))) (((a : Nat) : Int)) (((b : Nat) : Int)) (A) (B))) (((a : Nat) : Int)) (((b : Nat) : Int)) (0) (0) (T158) _ (by unfold inI; omega) (by unfold inI; omega) B307 ) (fun e_ w_ h_ => by obtain ⟨T325_, he_, hr_⟩ := h_; exact ⟨_, he_, T325_, rfl, hr_⟩)) ?_
    rintro _ w323 ⟨T325, rfl, k324, ⟨B326, g327⟩⟩
    have B328 := B306.all k324 (fun x => (((ap165).symm) p1 rfl x))
    have B329 := B308.all k324 (fun x => (((ap166).symm) p128 rfl x))
    have B330 := B304.all k324 (fun x => ((ap297) p290 rfl x))
    have K331 := K309.trans k324 (fun i hi x => ((Grew.ok (S := fun _ => False) gr164 noB_le) i hi x))
    have gr332 := gr164.trans K309 g327
    have ap333 : Apart T325 (onB p1) := (ap165).grew g327 (onB_live (B306).lt)
    have ap334 : Apart T325 (onB p128) := (ap166).grew g327 (onB_live (B308).lt)
    have ap335 : Apart T325 (onB p290) := ((ap297).symm).grew g327 (onB_live (B304).lt)
    refine wl_v (.int .i64 (setO ((putO (some (newV ((M : Nat) : Int) ((N : Nat) : Int))) (((a : Nat) : Int)) (((b : Nat) : Int)) (A) (B))) (((a : Nat) : Int)) (((b : Nat) : Int)) (0) (0))) rfl rfl (y_asg rfl rfl ⟨rfl, rfl⟩) ?_
    refine wl_nil fun F336 hF337 => ?_
    have s338 : F336 26 = .bool (decide ((((d : Nat) : Int) = b ∧ ((c : Nat) : Int) = a + 1) ∨ (((d : Nat) : Int) = b + 1 ∧ (((c : Nat) : Int) = a ∨ ((c : Nat) : Int) = a - 1)))) := (hF337 26).trans s312
    have s339 : F336 15 = .bool true := (hF337 15).trans s313
    have s340 : F336 18 = v55 := (hF337 18).trans s314
    have s341 : F336 19 = .int .i64 (newVE (((M : Nat) : Int)) (((N : Nat) : Int))) := (hF337 19).trans s315
    have s342 : F336 22 = .int .i64 (((c : Nat) : Int)) := (hF337 22).trans s318
    have s343 : F336 23 = .int .i64 (((d : Nat) : Int)) := (hF337 23).trans s319
    have s344 : F336 25 = .int .i64 (setO (some (newV ((M : Nat) : Int) ((N : Nat) : Int))) (((a : Nat) : Int)) (((b : Nat) : Int)) (A) (B)) := (hF337 25).trans s320
    have s345 : F336 136 = undef := (hF337 136).trans s321
    have s346 : F336 27 = .pointer (some ⟨p290, 0, none⟩) := (hF337 27).trans s322
    have s347 : F336 28 = .int .i64 (setO ((putO (some (newV ((M : Nat) : Int) ((N : Nat) : Int))) (((a : Nat) : Int)) (((b : Nat) : Int)) (A) (B))) (((a : Nat) : Int)) (((b : Nat) : Int)) (0) (0)) := (hF337 28).trans rfl
    clear hF337
    refine then_normal ?_
    refine wq_seq ?_
    by_cases d348 : (((d : Nat) : Int) = b ∧ ((c : Nat) : Int) = a + 1) ∨ (((d : Nat) : Int) = b + 1 ∧ (((c : Nat) : Int) = a ∨ ((c : Nat) : Int) = a - 1))
    · skip
      refine wq_region ?_
      refine wl_v (.bool true) rfl rfl (y_mov rfl s339 ⟨rfl, rfl⟩) ?_
      refine wl_v (.bool true) rfl rfl (y_mov rfl rfl ⟨rfl, rfl⟩) ?_
      refine wl_vw (.int .i64 (newVE (((M : Nat) : Int)) (((N : Nat) : Int)))) 1 true 108 rfl rfl rfl rfl rfl (y_mov rfl s341 ⟨rfl, rfl⟩) ?_
      refine wl_vw (.bool true) 1 true 108 rfl rfl rfl rfl rfl (y_eqlI rfl rfl rfl (decide_eq_true (newVE_yes hs)) ⟨rfl, rfl⟩) ?_
      refine wl_v (.bool true) rfl rfl (y_pickT rfl rfl rfl ⟨rfl, rfl⟩) ?_
      refine wl_v (.bool true) rfl rfl (y_mov rfl rfl ⟨rfl, rfl⟩) ?_
      refine wl_vw (.int .i64 (setO (some (newV ((M : Nat) : Int) ((N : Nat) : Int))) (((a : Nat) : Int)) (((b : Nat) : Int)) (A) (B))) 5 true 112 rfl rfl rfl rfl rfl (y_mov rfl s344 ⟨rfl, rfl⟩) ?_
      refine wl_vw (.bool true) 5 true 112 rfl rfl rfl rfl rfl (y_eqlI rfl rfl rfl (decide_eq_true (set_yes hin hv).1) ⟨rfl, rfl⟩) ?_
      refine wl_v (.bool true) rfl rfl (y_pickT rfl rfl rfl ⟨rfl, rfl⟩) ?_
      refine wl_v (.bool true) rfl rfl (y_mov rfl rfl ⟨rfl, rfl⟩) ?_
      refine wl_vw (.int .i64 (setO ((putO (some (newV ((M : Nat) : Int) ((N : Nat) : Int))) (((a : Nat) : Int)) (((b : Nat) : Int)) (A) (B))) (((a : Nat) : Int)) (((b : Nat) : Int)) (0) (0))) 9 true 116 rfl rfl rfl rfl rfl (y_mov rfl s347 ⟨rfl, rfl⟩) ?_
      refine wl_vw (.bool true) 9 true 116 rfl rfl rfl rfl rfl (y_eqlI rfl rfl rfl (decide_eq_true (by rw [show setO (putO (some (newV ((M : Nat) : Int) ((N : Nat) : Int))) (a : Nat) (b : Nat) A B) (a : Nat) (b : Nat) 0 0 = setE (setV (newV ((M : Nat) : Int) ((N : Nat) : Int)) (a : Nat) (b : Nat) A B) (a : Nat) (b : Nat) 0 0 from rfl]; exact (set_yes (by unfold inV; rw [(setV_w _ _ _ _ _).1, (setV_w _ _ _ _ _).2]; exact hin) (by decide)).1)) ⟨rfl, rfl⟩) ?_
      refine wl_v (.bool true) rfl rfl (y_pickT rfl rfl rfl ⟨rfl, rfl⟩) ?_
      refine wl_v (.bool true) rfl rfl (y_mov rfl rfl ⟨rfl, rfl⟩) ?_
      refine wl_vw (.bool true) 13 true 120 rfl rfl rfl rfl rfl (y_mov rfl (Eq.trans s338 (congrArg Value.bool (decide_eq_true d348))) ⟨rfl, rfl⟩) ?_
      refine wl_vw (.bool true) 13 true 120 rfl rfl rfl rfl rfl (y_mov rfl rfl ⟨rfl, rfl⟩) ?_
      refine wl_unless 15 false 122 rfl rfl rfl (Or.inl rfl) rfl ?_
      refine wl_unless 15 false 122 rfl rfl rfl (Or.inl rfl) rfl ?_
      refine wl_unless 15 false 122 rfl rfl rfl (Or.inl rfl) rfl ?_
      refine wl_vw (.bool true) 13 true 120 rfl rfl rfl rfl rfl (y_pickT rfl rfl rfl ⟨rfl, rfl⟩) ?_
      refine wl_v (.bool true) rfl rfl (y_pickT rfl rfl rfl ⟨rfl, rfl⟩) ?_
      refine wl_v (.bool true) rfl rfl (y_mov rfl rfl ⟨rfl, rfl⟩) ?_
      refine wl_vw (v55) 21 true 128 rfl rfl rfl rfl rfl (y_mov rfl s340 ⟨rfl, rfl⟩) ?_
      refine wl_vw (.int .i64 (((c : Nat) : Int))) 21 true 128 rfl rfl rfl rfl rfl (y_mov rfl s342 ⟨rfl, rfl⟩) ?_
      refine wl_vw (.int .i64 (((d : Nat) : Int))) 21 true 128 rfl rfl rfl rfl rfl (y_mov rfl s343 ⟨rfl, rfl⟩) ?_
      refine wl_callw (R := fun v_ w_ => v_ = .agg #[.int .i64 (gOX ((putO ((putO (some (newV ((M : Nat) : Int) ((N : Nat) : Int))) (((a : Nat) : Int)) (((b : Nat) : Int)) (A) (B))) (((a : Nat) : Int)) (((b : Nat) : Int)) (0) (0))) (((c : Nat) : Int)) (((d : Nat) : Int))), .int .i64 (gOY ((putO ((putO (some (newV ((M : Nat) : Int) ((N : Nat) : Int))) (((a : Nat) : Int)) (((b : Nat) : Int)) (A) (B))) (((a : Nat) : Int)) (((b : Nat) : Int)) (0) (0))) (((c : Nat) : Int)) (((d : Nat) : Int)))] ∧ Kept (fun _ => False) w323 w_) 21 true 128 rfl rfl rfl rfl rfl (y_cs rfl rfl rfl (fun _ _ => by kernel_rfl) (ev_func _) (vsC rfl (vsC rfl (vsC rfl vsN))) (vt_guess (v55) ((putO ((putO (some (newV ((M : Nat) : Int) ((N : Nat) : Int))) (((a : Nat) : Int)) (((b : Nat) : Int)) (A) (B))) (((a : Nat) : Int)) (((b : Nat) : Int)) (0) (0))) (((c : Nat) : Int)) (((d : Nat) : Int)) (T325) _ (by unfold inI; omega) (by unfold inI; omega) B326 ) (fun e_ w_ h_ => ⟨_, h_.1, rfl, h_.2⟩)) ?_
      rintro _ w349 ⟨rfl, k350⟩
      have B351 := B328.all k350 id
      have B352 := B326.all k350 Apart.none
      have B353 := B329.all k350 id
      have B354 := B330.all k350 id
      have K355 := K331.trans k350 (fun _ _ x => x.elim)
      refine wl_vw (.agg #[.int .i64 (0), .int .i64 (0)]) 21 true 128 rfl rfl rfl rfl rfl (y_buildL (l' := []) (cells := #[.int .i64 (0), .int .i64 (0)]) rfl bpN (by kernel_rfl) rfl ⟨rfl, rfl⟩) ?_
      refine wl_vw (.bool true) 21 true 128 rfl rfl rfl rfl rfl (y_eqlVec rfl rfl rfl ((by have e := lay_again (m := (M : Nat)) (n := (N : Nat)) (a := (a : Nat)) (b := (b : Nat)) (X := A) (Y := B) (c := (c : Nat)) (d := (d : Nat)) hv hin; show sameVec (gX (setV (setV (newV (M : Nat) (N : Nat)) (a : Nat) (b : Nat) A B) (a : Nat) (b : Nat) 0 0) (c : Nat) (d : Nat)) (gY (setV (setV (newV (M : Nat) (N : Nat)) (a : Nat) (b : Nat) A B) (a : Nat) (b : Nat) 0 0) (c : Nat) (d : Nat)) 0 0 = true; rw [e.1, e.2]; rfl)) ⟨rfl, rfl⟩) ?_
      refine wl_v (.bool true) rfl rfl (y_pickT rfl rfl rfl ⟨rfl, rfl⟩) ?_
      refine wl_v (.bool true) rfl rfl (y_asg rfl rfl ⟨rfl, rfl⟩) ?_
      refine wl_nil fun F356 hF357 => ?_
      have s358 : F356 136 = undef := (hF357 136).trans s345
      have s359 : F356 14 = .bool true := (hF357 14).trans rfl
      clear hF357
      refine then_normal ?_
      refine wq_ret ?_
      exact end_tmp (v := .bool true) s358 rfl rfl s359 ⟨rfl, K355⟩
    · skip
      refine wq_region ?_
      refine wl_v (.bool true) rfl rfl (y_mov rfl s339 ⟨rfl, rfl⟩) ?_
      refine wl_v (.bool true) rfl rfl (y_mov rfl rfl ⟨rfl, rfl⟩) ?_
      refine wl_vw (.int .i64 (newVE (((M : Nat) : Int)) (((N : Nat) : Int)))) 1 true 108 rfl rfl rfl rfl rfl (y_mov rfl s341 ⟨rfl, rfl⟩) ?_
      refine wl_vw (.bool true) 1 true 108 rfl rfl rfl rfl rfl (y_eqlI rfl rfl rfl (decide_eq_true (newVE_yes hs)) ⟨rfl, rfl⟩) ?_
      refine wl_v (.bool true) rfl rfl (y_pickT rfl rfl rfl ⟨rfl, rfl⟩) ?_
      refine wl_v (.bool true) rfl rfl (y_mov rfl rfl ⟨rfl, rfl⟩) ?_
      refine wl_vw (.int .i64 (setO (some (newV ((M : Nat) : Int) ((N : Nat) : Int))) (((a : Nat) : Int)) (((b : Nat) : Int)) (A) (B))) 5 true 112 rfl rfl rfl rfl rfl (y_mov rfl s344 ⟨rfl, rfl⟩) ?_
      refine wl_vw (.bool true) 5 true 112 rfl rfl rfl rfl rfl (y_eqlI rfl rfl rfl (decide_eq_true (set_yes hin hv).1) ⟨rfl, rfl⟩) ?_
      refine wl_v (.bool true) rfl rfl (y_pickT rfl rfl rfl ⟨rfl, rfl⟩) ?_
      refine wl_v (.bool true) rfl rfl (y_mov rfl rfl ⟨rfl, rfl⟩) ?_
      refine wl_vw (.int .i64 (setO ((putO (some (newV ((M : Nat) : Int) ((N : Nat) : Int))) (((a : Nat) : Int)) (((b : Nat) : Int)) (A) (B))) (((a : Nat) : Int)) (((b : Nat) : Int)) (0) (0))) 9 true 116 rfl rfl rfl rfl rfl (y_mov rfl s347 ⟨rfl, rfl⟩) ?_
      refine wl_vw (.bool true) 9 true 116 rfl rfl rfl rfl rfl (y_eqlI rfl rfl rfl (decide_eq_true (by rw [show setO (putO (some (newV ((M : Nat) : Int) ((N : Nat) : Int))) (a : Nat) (b : Nat) A B) (a : Nat) (b : Nat) 0 0 = setE (setV (newV ((M : Nat) : Int) ((N : Nat) : Int)) (a : Nat) (b : Nat) A B) (a : Nat) (b : Nat) 0 0 from rfl]; exact (set_yes (by unfold inV; rw [(setV_w _ _ _ _ _).1, (setV_w _ _ _ _ _).2]; exact hin) (by decide)).1)) ⟨rfl, rfl⟩) ?_
      refine wl_v (.bool true) rfl rfl (y_pickT rfl rfl rfl ⟨rfl, rfl⟩) ?_
      refine wl_v (.bool true) rfl rfl (y_mov rfl rfl ⟨rfl, rfl⟩) ?_
      refine wl_vw (.bool false) 13 true 120 rfl rfl rfl rfl rfl (y_mov rfl (Eq.trans s338 (congrArg Value.bool (decide_eq_false d348))) ⟨rfl, rfl⟩) ?_
      refine wl_vw (.bool false) 13 true 120 rfl rfl rfl rfl rfl (y_mov rfl rfl ⟨rfl, rfl⟩) ?_
      refine wl_vw (.agg #[.int .i64 (gOX ((putO (some (newV ((M : Nat) : Int) ((N : Nat) : Int))) (((a : Nat) : Int)) (((b : Nat) : Int)) (A) (B))) (((c : Nat) : Int)) (((d : Nat) : Int))), .int .i64 (gOY ((putO (some (newV ((M : Nat) : Int) ((N : Nat) : Int))) (((a : Nat) : Int)) (((b : Nat) : Int)) (A) (B))) (((c : Nat) : Int)) (((d : Nat) : Int)))]) 15 false 122 rfl rfl rfl rfl rfl (y_load_stc stcT_vector rfl s346 B330 ⟨rfl, rfl⟩) ?_
      refine wl_vw (.agg #[.int .i64 (0), .int .i64 (0)]) 15 false 122 rfl rfl rfl rfl rfl (y_buildL (l' := []) (cells := #[.int .i64 (0), .int .i64 (0)]) rfl bpN (by kernel_rfl) rfl ⟨rfl, rfl⟩) ?_
      refine wl_vw (.bool true) 15 false 122 rfl rfl rfl rfl rfl (y_eqlVec rfl rfl rfl ((by have e := lay_far (m := (M : Nat)) (n := (N : Nat)) (a := (a : Nat)) (b := (b : Nat)) (X := A) (Y := B) (c := (c : Nat)) (d := (d : Nat)) hv hin (by assumption); show sameVec (gX (setV (newV (M : Nat) (N : Nat)) (a : Nat) (b : Nat) A B) (c : Nat) (d : Nat)) (gY (setV (newV (M : Nat) (N : Nat)) (a : Nat) (b : Nat) A B) (c : Nat) (d : Nat)) 0 0 = true; rw [e.1, e.2]; rfl)) ⟨rfl, rfl⟩) ?_
      refine wl_vw (.bool true) 13 true 120 rfl rfl rfl rfl rfl (y_pickF rfl rfl rfl ⟨rfl, rfl⟩) ?_
      refine wl_v (.bool true) rfl rfl (y_pickT rfl rfl rfl ⟨rfl, rfl⟩) ?_
      refine wl_v (.bool true) rfl rfl (y_mov rfl rfl ⟨rfl, rfl⟩) ?_
      refine wl_vw (v55) 21 true 128 rfl rfl rfl rfl rfl (y_mov rfl s340 ⟨rfl, rfl⟩) ?_
      refine wl_vw (.int .i64 (((c : Nat) : Int))) 21 true 128 rfl rfl rfl rfl rfl (y_mov rfl s342 ⟨rfl, rfl⟩) ?_
      refine wl_vw (.int .i64 (((d : Nat) : Int))) 21 true 128 rfl rfl rfl rfl rfl (y_mov rfl s343 ⟨rfl, rfl⟩) ?_
      refine wl_callw (R := fun v_ w_ => v_ = .agg #[.int .i64 (gOX ((putO ((putO (some (newV ((M : Nat) : Int) ((N : Nat) : Int))) (((a : Nat) : Int)) (((b : Nat) : Int)) (A) (B))) (((a : Nat) : Int)) (((b : Nat) : Int)) (0) (0))) (((c : Nat) : Int)) (((d : Nat) : Int))), .int .i64 (gOY ((putO ((putO (some (newV ((M : Nat) : Int) ((N : Nat) : Int))) (((a : Nat) : Int)) (((b : Nat) : Int)) (A) (B))) (((a : Nat) : Int)) (((b : Nat) : Int)) (0) (0))) (((c : Nat) : Int)) (((d : Nat) : Int)))] ∧ Kept (fun _ => False) w323 w_) 21 true 128 rfl rfl rfl rfl rfl (y_cs rfl rfl rfl (fun _ _ => by kernel_rfl) (ev_func _) (vsC rfl (vsC rfl (vsC rfl vsN))) (vt_guess (v55) ((putO ((putO (some (newV ((M : Nat) : Int) ((N : Nat) : Int))) (((a : Nat) : Int)) (((b : Nat) : Int)) (A) (B))) (((a : Nat) : Int)) (((b : Nat) : Int)) (0) (0))) (((c : Nat) : Int)) (((d : Nat) : Int)) (T325) _ (by unfold inI; omega) (by unfold inI; omega) B326 ) (fun e_ w_ h_ => ⟨_, h_.1, rfl, h_.2⟩)) ?_
      rintro _ w360 ⟨rfl, k361⟩
      have B362 := B328.all k361 id
      have B363 := B326.all k361 Apart.none
      have B364 := B329.all k361 id
      have B365 := B330.all k361 id
      have K366 := K331.trans k361 (fun _ _ x => x.elim)
      refine wl_vw (.agg #[.int .i64 (0), .int .i64 (0)]) 21 true 128 rfl rfl rfl rfl rfl (y_buildL (l' := []) (cells := #[.int .i64 (0), .int .i64 (0)]) rfl bpN (by kernel_rfl) rfl ⟨rfl, rfl⟩) ?_
      refine wl_vw (.bool true) 21 true 128 rfl rfl rfl rfl rfl (y_eqlVec rfl rfl rfl ((by have e := lay_again (m := (M : Nat)) (n := (N : Nat)) (a := (a : Nat)) (b := (b : Nat)) (X := A) (Y := B) (c := (c : Nat)) (d := (d : Nat)) hv hin; show sameVec (gX (setV (setV (newV (M : Nat) (N : Nat)) (a : Nat) (b : Nat) A B) (a : Nat) (b : Nat) 0 0) (c : Nat) (d : Nat)) (gY (setV (setV (newV (M : Nat) (N : Nat)) (a : Nat) (b : Nat) A B) (a : Nat) (b : Nat) 0 0) (c : Nat) (d : Nat)) 0 0 = true; rw [e.1, e.2]; rfl)) ⟨rfl, rfl⟩) ?_
      refine wl_v (.bool true) rfl rfl (y_pickT rfl rfl rfl ⟨rfl, rfl⟩) ?_
      refine wl_v (.bool true) rfl rfl (y_asg rfl rfl ⟨rfl, rfl⟩) ?_
      refine wl_nil fun F367 hF368 => ?_
      have s369 : F367 136 = undef := (hF368 136).trans s345
      have s370 : F367 14 = .bool true := (hF368 14).trans rfl
      clear hF368
      refine then_normal ?_
      refine wq_ret ?_
      exact end_tmp (v := .bool true) s369 rfl rfl s370 ⟨rfl, K366⟩
end Go.Proofs.Ythhagejcgobfgaa
namespace Go.Proofs.Ythhagejcgobfgaa
open Go.RowKit

theorem nat_u8 {n : Int} (h : (Lit.int .u8 n).wf = true) : ∃ m : Nat, n = (m : Int) ∧ m < 256 := by
  have := bounds_u8 h
  exact ⟨n.toNat, by omega, by omega⟩
end Go.Proofs.Ythhagejcgobfgaa
namespace Go.Proofs.Ythhagejcgobfgaa
open Go.ChangeShapes Go.WideShapes Go.ChangeAt Go.RowKit Go.Deep

section
variable {H : Type} {enc : TypeId × Value → H} {w : World} {base : Nat} {spare : Nat → Bool} {held : Bool}
theorem Try.cellsVec : Try.prog.cellsOf 33 = 2 := by kernel_rfl
theorem Try.cellsVecI : Try.prog.cellsOf 3 = 1 := by kernel_rfl
theorem vec_open {r : Reach} {b0 : Nat} {v : Value} {d : DataW H} {ps : List MemPlace} (hval : Value.okWide Try.prog w r b0 33 v) (h : DataW.Trod enc Try.prog w base spare held 33 v d ps) :
    ∃ X Y : Int, v = .agg #[.int .i64 X, .int .i64 Y] := by
  obtain ⟨cs, rfl, hsz⟩ := okWide_struct Try.underlying33 hval
  rw [Try.cellsVec] at hsz
  obtain ⟨cs⟩ := cs
  obtain ⟨fuel, hf⟩ := h
  match cs, hsz with
  | [c0, c1], _ =>
    obtain ⟨y0, y1, n, _, _, h0, h1⟩ := trod_struct2 (cs := [c0, c1]) Try.underlying33 hf
    simp only [Try.cellsVecI, List.drop_zero, List.drop_succ_cons, List.take_succ_cons, List.take_zero] at h0 h1
    obtain ⟨X, hX, _, _⟩ := DataW.trod_int Try.underlying3 h0
    obtain ⟨Y, hY, _, _⟩ := DataW.trod_int Try.underlying3 h1
    simp only [List.cons.injEq, and_true] at hX hY
    subst hX; subst hY
    exact ⟨X, Y, rfl⟩
end
end Go.Proofs.Ythhagejcgobfgaa
