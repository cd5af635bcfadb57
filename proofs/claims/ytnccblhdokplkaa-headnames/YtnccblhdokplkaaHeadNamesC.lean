/- What HeadNames reaches of my texts, part 3. -/
import Derived.Test.YtnccblhdokplkaaHeadNamesB
set_option maxRecDepth 100000
set_option maxRecDepth 100000
namespace Go.Proofs.Ytnccblhdokplkaa
open Go.RowKit

set_option maxRecDepth 100000 in
theorem awake11 : opB 8 16 300 1000 = [8, 16, 0, 0, 1, 44, 0, 0, 3, 232] ∧ seqE 8 16 300 1000 = 0 ∧ wrB 1 5 2 700 [9] = [1, 5, 0, 0, 0, 2, 0, 0, 2, 188, 9] ∧ headE 1 5 2 700 = 0 ∧ rdE [] = 110 ∧ headE 3 0 0 0 = 110 := by
  refine ⟨?_, ?_, ?_, ?_, ?_, ?_⟩ <;> decide +kernel
theorem awake11a : headOk 1 5 2 700 ∧ seqOk 8 16 300 1000 := by decide +kernel
theorem text_same {l m : List Nat} (h : l = m) : ((textOf l).toList == (textOf m).toList) = true := by rw [h]; exact beq_self_eq_true _

set_option maxHeartbeats 4000000 in
set_option maxRecDepth 100000 in
theorem hawake_any (w0 : World) :
    Calls Try.prog 9 #[] w0 fun e w' => e = .returned (.bool true) ∧ Kept (fun _ => False) w0 w' := by
  refine calls_wq (args := []) 99 Try.func9 rfl rfl (Nat.le_of_ble_eq_true rfl) ?_
  have K0 := Kept.refl (fun _ => False) w0
  have hf := Lib.hid awake11
  have hw := Lib.hid (rd_write awake11a.1 [9])
  have ho := Lib.hid (od_open awake11a.2)
  refine wq_seq ?_
  refine wq_region ?_
  refine wl_v (.bool false) rfl rfl (y_asg rfl rfl ⟨rfl, rfl⟩) ?_
  refine wl_nil fun F1 hF2 => ?_
  have s3 : F1 99 = undef := (hF2 99).trans rfl
  clear hF2
  refine then_normal ?_
  refine wq_seq ?_
  refine wq_region ?_
  refine wl_v (.agg #[.int .i64 (8), .int .i64 (16), .int .i64 (300), .int .i64 (1000)]) rfl rfl (y_buildL (l' := [(0, .int .i64 (8)), (1, .int .i64 (16)), (2, .int .i64 (300)), (3, .int .i64 (1000))]) (cells := #[.int .i64 (8), .int .i64 (16), .int .i64 (300), .int .i64 (1000)]) rfl (bpC rfl (bpC rfl (bpC rfl (bpC rfl bpN)))) (by kernel_rfl) rfl ⟨rfl, rfl⟩) ?_
  refine wl_call (R := fun v_ w_ => ∃ (v4 : Value) (T7 : Nat → Prop), .tuple #[v4, .int .i64 (seqE (8) (16) (300) (1000))] = v_ ∧ Kept (fun _ => False) w0 w_ ∧ (Owb w_ T7 v4 ((opB (8) (16) (300) (1000))) ∧ Grew w0 noB T7)) rfl rfl (y_cs rfl rfl rfl (fun _ _ => by kernel_rfl) (ev_func _) (vsC rfl vsN) (hd_open (8) (16) (300) (1000)  _   ) (fun e_ w_ h_ => by obtain ⟨v4_, T7_, he_, hr_⟩ := h_; exact ⟨_, he_, v4_, T7_, rfl, hr_⟩)) ?_
  rintro _ w5 ⟨v4, T7, rfl, k6, ⟨B8, g9⟩⟩
  have K10 := K0.trans k6 (fun _ _ x => x.elim)
  have gr11 : Grew w0 noB (T7) := Grew.new K0 g9
  refine wl_v (.tuple #[v4, .int .i64 (seqE (8) (16) (300) (1000))]) rfl rfl (y_mov rfl rfl ⟨rfl, rfl⟩) ?_
  refine wl_v (v4) rfl rfl (y_ext rfl rfl rfl ⟨rfl, rfl⟩) ?_
  refine wl_v (.int .i64 (seqE (8) (16) (300) (1000))) rfl rfl (y_ext rfl rfl rfl ⟨rfl, rfl⟩) ?_
  refine wl_v (v4) rfl rfl (y_asg rfl rfl ⟨rfl, rfl⟩) ?_
  refine wl_v (.int .i64 (seqE (8) (16) (300) (1000))) rfl rfl (y_asg rfl rfl ⟨rfl, rfl⟩) ?_
  refine wl_nil fun F12 hF13 => ?_
  have s14 : F12 99 = undef := (hF13 99).trans s3
  have s15 : F12 1 = v4 := (hF13 1).trans rfl
  have s16 : F12 2 = .int .i64 (seqE (8) (16) (300) (1000)) := (hF13 2).trans rfl
  clear hF13
  refine then_normal ?_
  refine wq_seq ?_
  refine wq_region ?_
  refine wl_v (.agg #[.int .i64 (1), .int .i64 (5), .int .i64 (2), .int .i64 (700)]) rfl rfl (y_buildL (l' := [(0, .int .i64 (1)), (1, .int .i64 (5)), (2, .int .i64 (2)), (3, .int .i64 (700))]) (cells := #[.int .i64 (1), .int .i64 (5), .int .i64 (2), .int .i64 (700)]) rfl (bpC rfl (bpC rfl (bpC rfl (bpC rfl bpN)))) (by kernel_rfl) rfl ⟨rfl, rfl⟩) ?_
  refine wl_builtB1 (n := 9) rfl rfl rfl rfl (by omega) (by omega) fun v17 w18 T22 B20 g21 k19 => ?_
  have gr23 : Grew w0 noB (T22) := Grew.new K10 g21
  have ap24 : Apart (T22) (T7) := Apart.new g21 (B8).live
  have B25 := B8.all k19 Apart.none
  have K26 := K10.trans k19 (fun _ _ x => x.elim)
  refine wl_call (R := fun v_ w_ => ∃ (v27 : Value) (T30 : Nat → Prop), .tuple #[v27, .int .i64 (headE (1) (5) (2) (700))] = v_ ∧ Kept (fun _ => False) w18 w_ ∧ (Owb w_ T30 v27 ((wrB (1) (5) (2) (700) ([9]))) ∧ Grew w18 noB T30)) rfl rfl (y_cs rfl rfl rfl (fun _ _ => by kernel_rfl) (ev_func _) (vsC rfl (vsC rfl vsN)) (hd_write (1) (5) (2) (700) (v17) ([9]) (T22) _ (by decide) (B20).byt ) (fun e_ w_ h_ => by obtain ⟨v27_, T30_, he_, hr_⟩ := h_; exact ⟨_, he_, v27_, T30_, rfl, hr_⟩)) ?_
  rintro _ w28 ⟨v27, T30, rfl, k29, ⟨B31, g32⟩⟩
  have B33 := B25.all k29 Apart.none
  have B34 := B20.all k29 Apart.none
  have K35 := K26.trans k29 (fun _ _ x => x.elim)
  have gr36 : Grew w0 noB (T30) := Grew.new K26 g32
  have ap37 : Apart (T30) (T7) := Apart.new g32 (B25).live
  have ap38 : Apart (T30) (T22) := Apart.new g32 (B20).live
  refine wl_v (.tuple #[v27, .int .i64 (headE (1) (5) (2) (700))]) rfl rfl (y_mov rfl rfl ⟨rfl, rfl⟩) ?_
  refine wl_v (v27) rfl rfl (y_ext rfl rfl rfl ⟨rfl, rfl⟩) ?_
  refine wl_v (.int .i64 (headE (1) (5) (2) (700))) rfl rfl (y_ext rfl rfl rfl ⟨rfl, rfl⟩) ?_
  refine wl_v (v27) rfl rfl (y_asg rfl rfl ⟨rfl, rfl⟩) ?_
  refine wl_v (.int .i64 (headE (1) (5) (2) (700))) rfl rfl (y_asg rfl rfl ⟨rfl, rfl⟩) ?_
  refine wl_nil fun F39 hF40 => ?_
  have s41 : F39 99 = undef := (hF40 99).trans s14
  have s42 : F39 1 = v4 := (hF40 1).trans s15
  have s43 : F39 2 = .int .i64 (seqE (8) (16) (300) (1000)) := (hF40 2).trans s16
  have s44 : F39 3 = v27 := (hF40 3).trans rfl
  have s45 : F39 4 = .int .i64 (headE (1) (5) (2) (700)) := (hF40 4).trans rfl
  clear hF40
  refine then_normal ?_
  refine wq_seq ?_
  refine wq_region ?_
  refine wl_v (v27) rfl rfl (y_mov rfl s44 ⟨rfl, rfl⟩) ?_
  refine wl_call (R := fun v_ w_ => ∃ (v46 : Value) (T49 : Nat → Prop), .tuple #[.agg #[.int .i64 (rdH t0 ((wrB (1) (5) (2) (700) ([9])))), .int .i64 (rdH t1 ((wrB (1) (5) (2) (700) ([9])))), .int .i64 (rdH t2 ((wrB (1) (5) (2) (700) ([9])))), .int .i64 (rdH t3 ((wrB (1) (5) (2) (700) ([9]))))], v46, .int .i64 (rdE ((wrB (1) (5) (2) (700) ([9]))))] = v_ ∧ Kept (fun _ => False) w28 w_ ∧ (Owb w_ T49 v46 ((rdP ((wrB (1) (5) (2) (700) ([9]))))) ∧ Grew w28 noB T49)) rfl rfl (y_cs rfl rfl rfl (fun _ _ => by kernel_rfl) (ev_func _) (vsC rfl vsN) (hd_read (v27) ((wrB (1) (5) (2) (700) ([9]))) (T30) _ (by rw [hf.out.2.2.1]; decide) (B31).byt ) (fun e_ w_ h_ => by obtain ⟨v46_, T49_, he_, hr_⟩ := h_; exact ⟨_, he_, v46_, T49_, rfl, hr_⟩)) ?_
  rintro _ w47 ⟨v46, T49, rfl, k48, ⟨B50, g51⟩⟩
  have B52 := B33.all k48 Apart.none
  have B53 := B34.all k48 Apart.none
  have B54 := B31.all k48 Apart.none
  have K55 := K35.trans k48 (fun _ _ x => x.elim)
  have gr56 : Grew w0 noB (T49) := Grew.new K35 g51
  have ap57 : Apart (T49) (T7) := Apart.new g51 (B33).live
  have ap58 : Apart (T49) (T22) := Apart.new g51 (B34).live
  have ap59 : Apart (T49) (T30) := Apart.new g51 (B31).live
  refine wl_v (.tuple #[.agg #[.int .i64 (rdH t0 ((wrB (1) (5) (2) (700) ([9])))), .int .i64 (rdH t1 ((wrB (1) (5) (2) (700) ([9])))), .int .i64 (rdH t2 ((wrB (1) (5) (2) (700) ([9])))), .int .i64 (rdH t3 ((wrB (1) (5) (2) (700) ([9]))))], v46, .int .i64 (rdE ((wrB (1) (5) (2) (700) ([9]))))]) rfl rfl (y_mov rfl rfl ⟨rfl, rfl⟩) ?_
  refine wl_v (.agg #[.int .i64 (rdH t0 ((wrB (1) (5) (2) (700) ([9])))), .int .i64 (rdH t1 ((wrB (1) (5) (2) (700) ([9])))), .int .i64 (rdH t2 ((wrB (1) (5) (2) (700) ([9])))), .int .i64 (rdH t3 ((wrB (1) (5) (2) (700) ([9]))))]) rfl rfl (y_ext rfl rfl rfl ⟨rfl, rfl⟩) ?_
  refine wl_v (v46) rfl rfl (y_ext rfl rfl rfl ⟨rfl, rfl⟩) ?_
  refine wl_v (.int .i64 (rdE ((wrB (1) (5) (2) (700) ([9]))))) rfl rfl (y_ext rfl rfl rfl ⟨rfl, rfl⟩) ?_
  refine wl_alloc_stc (n := 4) (vs := [.int .i64 (0), .int .i64 (0), .int .i64 (0), .int .i64 (0)]) rfl rfl rfl (by kernel_rfl) fun p60 w61 B63 g64 k62 => ?_
  have gr65 : Grew w0 noB (onB p60) := Grew.new K55 g64
  have ap66 : Apart (onB p60) (T7) := Apart.new g64 (B52).live
  have ap67 : Apart (onB p60) (T22) := Apart.new g64 (B53).live
  have ap68 : Apart (onB p60) (T30) := Apart.new g64 (B54).live
  have ap69 : Apart (onB p60) (T49) := Apart.new g64 (B50).live
  have B70 := B52.all k62 Apart.none
  have B71 := B53.all k62 Apart.none
  have B72 := B54.all k62 Apart.none
  have B73 := B50.all k62 Apart.none
  have K74 := K55.trans k62 (fun _ _ x => x.elim)
  refine wl_store_stc (us := [.int .i64 (rdH t0 ((wrB (1) (5) (2) (700) ([9])))), .int .i64 (rdH t1 ((wrB (1) (5) (2) (700) ([9])))), .int .i64 (rdH t2 ((wrB (1) (5) (2) (700) ([9])))), .int .i64 (rdH t3 ((wrB (1) (5) (2) (700) ([9]))))]) stcT_head rfl rfl rfl rfl rfl B63 rfl (oneI rfl (oneI rfl (oneI rfl (oneI rfl oneN)))) fun w75 B76 k77 => ?_
  have B78 := B70.all k77 (fun i h x => (((ap66).symm) i h x))
  have B79 := B71.all k77 (fun i h x => (((ap67).symm) i h x))
  have B80 := B72.all k77 (fun i h x => (((ap68).symm) i h x))
  have B81 := B73.all k77 (fun i h x => (((ap69).symm) i h x))
  have K82 := K74.trans k77 (Grew.ok (S := fun _ => False) gr65 noB_le)
  refine wl_v (v46) rfl rfl (y_asg rfl rfl ⟨rfl, rfl⟩) ?_
  refine wl_v (.int .i64 (rdE ((wrB (1) (5) (2) (700) ([9]))))) rfl rfl (y_asg rfl rfl ⟨rfl, rfl⟩) ?_
  refine wl_nil fun F83 hF84 => ?_
  have s85 : F83 99 = undef := (hF84 99).trans s41
  have s86 : F83 1 = v4 := (hF84 1).trans s42
  have s87 : F83 2 = .int .i64 (seqE (8) (16) (300) (1000)) := (hF84 2).trans s43
  have s88 : F83 3 = v27 := (hF84 3).trans s44
  have s89 : F83 4 = .int .i64 (headE (1) (5) (2) (700)) := (hF84 4).trans s45
  have s90 : F83 5 = .pointer (some ⟨p60, 0, none⟩) := (hF84 5).trans rfl
  have s91 : F83 6 = v46 := (hF84 6).trans rfl
  have s92 : F83 7 = .int .i64 (rdE ((wrB (1) (5) (2) (700) ([9])))) := (hF84 7).trans rfl
  clear hF84
  refine then_normal ?_
  refine wq_seq ?_
  refine wq_region ?_
  refine wl_v (v4) rfl rfl (y_mov rfl s86 ⟨rfl, rfl⟩) ?_
  refine wl_call (R := fun v_ w_ => v_ = .tuple #[.agg #[.int .i64 (od t0 ((opB (8) (16) (300) (1000)))), .int .i64 (od t1 ((opB (8) (16) (300) (1000)))), .int .i64 (od t2 ((opB (8) (16) (300) (1000)))), .int .i64 (od t3 ((opB (8) (16) (300) (1000))))], .int .i64 (odE ((opB (8) (16) (300) (1000))))] ∧ Kept (fun _ => False) w75 w_) rfl rfl (y_cs rfl rfl rfl (fun _ _ => by kernel_rfl) (ev_func _) (vsC rfl vsN) (hd_opened (v4) ((opB (8) (16) (300) (1000))) (T7) _  (B78).byt ) (fun e_ w_ h_ => ⟨_, h_.1, rfl, h_.2⟩)) ?_
  rintro _ w93 ⟨rfl, k94⟩
  have B95 := B78.all k94 Apart.none
  have B96 := B79.all k94 Apart.none
  have B97 := B80.all k94 Apart.none
  have B98 := B81.all k94 Apart.none
  have B99 := B76.all k94 id
  have K100 := K82.trans k94 (fun _ _ x => x.elim)
  refine wl_v (.tuple #[.agg #[.int .i64 (od t0 ((opB (8) (16) (300) (1000)))), .int .i64 (od t1 ((opB (8) (16) (300) (1000)))), .int .i64 (od t2 ((opB (8) (16) (300) (1000)))), .int .i64 (od t3 ((opB (8) (16) (300) (1000))))], .int .i64 (odE ((opB (8) (16) (300) (1000))))]) rfl rfl (y_mov rfl rfl ⟨rfl, rfl⟩) ?_
  refine wl_v (.agg #[.int .i64 (od t0 ((opB (8) (16) (300) (1000)))), .int .i64 (od t1 ((opB (8) (16) (300) (1000)))), .int .i64 (od t2 ((opB (8) (16) (300) (1000)))), .int .i64 (od t3 ((opB (8) (16) (300) (1000))))]) rfl rfl (y_ext rfl rfl rfl ⟨rfl, rfl⟩) ?_
  refine wl_v (.int .i64 (odE ((opB (8) (16) (300) (1000))))) rfl rfl (y_ext rfl rfl rfl ⟨rfl, rfl⟩) ?_
  refine wl_alloc_stc (n := 4) (vs := [.int .i64 (0), .int .i64 (0), .int .i64 (0), .int .i64 (0)]) rfl rfl rfl (by kernel_rfl) fun p101 w102 B104 g105 k103 => ?_
  have gr106 : Grew w0 noB (onB p101) := Grew.new K100 g105
  have ap107 : Apart (onB p101) (T7) := Apart.new g105 (B95).live
  have ap108 : Apart (onB p101) (T22) := Apart.new g105 (B96).live
  have ap109 : Apart (onB p101) (T30) := Apart.new g105 (B97).live
  have ap110 : Apart (onB p101) (T49) := Apart.new g105 (B98).live
  have ap111 : Apart (onB p101) (onB p60) := Apart.new g105 (onB_live (B99).lt)
  have B112 := B95.all k103 Apart.none
  have B113 := B96.all k103 Apart.none
  have B114 := B97.all k103 Apart.none
  have B115 := B98.all k103 Apart.none
  have B116 := B99.all k103 id
  have K117 := K100.trans k103 (fun _ _ x => x.elim)
  refine wl_store_stc (us := [.int .i64 (od t0 ((opB (8) (16) (300) (1000)))), .int .i64 (od t1 ((opB (8) (16) (300) (1000)))), .int .i64 (od t2 ((opB (8) (16) (300) (1000)))), .int .i64 (od t3 ((opB (8) (16) (300) (1000))))]) stcT_seq rfl rfl rfl rfl rfl B104 rfl (oneI rfl (oneI rfl (oneI rfl (oneI rfl oneN)))) fun w118 B119 k120 => ?_
  have B121 := B112.all k120 (fun i h x => (((ap107).symm) i h x))
  have B122 := B113.all k120 (fun i h x => (((ap108).symm) i h x))
  have B123 := B114.all k120 (fun i h x => (((ap109).symm) i h x))
  have B124 := B115.all k120 (fun i h x => (((ap110).symm) i h x))
  have B125 := B116.all k120 (fun x => (((ap111).symm) p60 rfl x))
  have K126 := K117.trans k120 (Grew.ok (S := fun _ => False) gr106 noB_le)
  refine wl_v (.int .i64 (odE ((opB (8) (16) (300) (1000))))) rfl rfl (y_asg rfl rfl ⟨rfl, rfl⟩) ?_
  refine wl_nil fun F127 hF128 => ?_
  have s129 : F127 99 = undef := (hF128 99).trans s85
  have s130 : F127 1 = v4 := (hF128 1).trans s86
  have s131 : F127 2 = .int .i64 (seqE (8) (16) (300) (1000)) := (hF128 2).trans s87
  have s132 : F127 3 = v27 := (hF128 3).trans s88
  have s133 : F127 4 = .int .i64 (headE (1) (5) (2) (700)) := (hF128 4).trans s89
  have s134 : F127 5 = .pointer (some ⟨p60, 0, none⟩) := (hF128 5).trans s90
  have s135 : F127 6 = v46 := (hF128 6).trans s91
  have s136 : F127 7 = .int .i64 (rdE ((wrB (1) (5) (2) (700) ([9])))) := (hF128 7).trans s92
  have s137 : F127 8 = .pointer (some ⟨p101, 0, none⟩) := (hF128 8).trans rfl
  have s138 : F127 9 = .int .i64 (odE ((opB (8) (16) (300) (1000)))) := (hF128 9).trans rfl
  clear hF128
  refine then_normal ?_
  refine wq_seq ?_
  refine wq_region ?_
  refine wl_call (R := fun v_ w_ => ∃ (v139 : Value) (T142 : Nat → Prop), .tuple #[.agg #[.int .i64 (rdH t0 ([])), .int .i64 (rdH t1 ([])), .int .i64 (rdH t2 ([])), .int .i64 (rdH t3 ([]))], v139, .int .i64 (rdE ([]))] = v_ ∧ Kept (fun _ => False) w118 w_ ∧ (Owb w_ T142 v139 ((rdP ([]))) ∧ Grew w118 noB T142)) rfl rfl (y_cs rfl rfl rfl (fun _ _ => by kernel_rfl) (ev_func _) (vsC rfl vsN) (hd_read (.slice none 0 0) ([]) (noB) _ (by decide) (Byt.nil _) ) (fun e_ w_ h_ => by obtain ⟨v139_, T142_, he_, hr_⟩ := h_; exact ⟨_, he_, v139_, T142_, rfl, hr_⟩)) ?_
  rintro _ w140 ⟨v139, T142, rfl, k141, ⟨B143, g144⟩⟩
  have B145 := B121.all k141 Apart.none
  have B146 := B122.all k141 Apart.none
  have B147 := B123.all k141 Apart.none
  have B148 := B124.all k141 Apart.none
  have B149 := B125.all k141 id
  have B150 := B119.all k141 id
  have K151 := K126.trans k141 (fun _ _ x => x.elim)
  have gr152 : Grew w0 noB (T142) := Grew.new K126 g144
  have ap153 : Apart (T142) (T7) := Apart.new g144 (B121).live
  have ap154 : Apart (T142) (T22) := Apart.new g144 (B122).live
  have ap155 : Apart (T142) (T30) := Apart.new g144 (B123).live
  have ap156 : Apart (T142) (T49) := Apart.new g144 (B124).live
  have ap157 : Apart (T142) (onB p60) := Apart.new g144 (onB_live (B125).lt)
  have ap158 : Apart (T142) (onB p101) := Apart.new g144 (onB_live (B119).lt)
  refine wl_v (.tuple #[.agg #[.int .i64 (rdH t0 ([])), .int .i64 (rdH t1 ([])), .int .i64 (rdH t2 ([])), .int .i64 (rdH t3 ([]))], v139, .int .i64 (rdE ([]))]) rfl rfl (y_mov rfl rfl ⟨rfl, rfl⟩) ?_
  refine wl_v (.agg #[.int .i64 (rdH t0 ([])), .int .i64 (rdH t1 ([])), .int .i64 (rdH t2 ([])), .int .i64 (rdH t3 ([]))]) rfl rfl (y_ext rfl rfl rfl ⟨rfl, rfl⟩) ?_
  refine wl_v (v139) rfl rfl (y_ext rfl rfl rfl ⟨rfl, rfl⟩) ?_
  refine wl_v (.int .i64 (rdE ([]))) rfl rfl (y_ext rfl rfl rfl ⟨rfl, rfl⟩) ?_
  refine wl_alloc_stc (n := 4) (vs := [.int .i64 (0), .int .i64 (0), .int .i64 (0), .int .i64 (0)]) rfl rfl rfl (by kernel_rfl) fun p159 w160 B162 g163 k161 => ?_
  have gr164 : Grew w0 noB (onB p159) := Grew.new K151 g163
  have ap165 : Apart (onB p159) (T7) := Apart.new g163 (B145).live
  have ap166 : Apart (onB p159) (T22) := Apart.new g163 (B146).live
  have ap167 : Apart (onB p159) (T30) := Apart.new g163 (B147).live
  have ap168 : Apart (onB p159) (T49) := Apart.new g163 (B148).live
  have ap169 : Apart (onB p159) (onB p60) := Apart.new g163 (onB_live (B149).lt)
  have ap170 : Apart (onB p159) (onB p101) := Apart.new g163 (onB_live (B150).lt)
  have ap171 : Apart (onB p159) (T142) := Apart.new g163 (B143).live
  have B172 := B145.all k161 Apart.none
  have B173 := B146.all k161 Apart.none
  have B174 := B147.all k161 Apart.none
  have B175 := B148.all k161 Apart.none
  have B176 := B149.all k161 id
  have B177 := B150.all k161 id
  have B178 := B143.all k161 Apart.none
  have K179 := K151.trans k161 (fun _ _ x => x.elim)
  refine wl_store_stc (us := [.int .i64 (rdH t0 ([])), .int .i64 (rdH t1 ([])), .int .i64 (rdH t2 ([])), .int .i64 (rdH t3 ([]))]) stcT_head rfl rfl rfl rfl rfl B162 rfl (oneI rfl (oneI rfl (oneI rfl (oneI rfl oneN)))) fun w180 B181 k182 => ?_
  have B183 := B172.all k182 (fun i h x => (((ap165).symm) i h x))
  have B184 := B173.all k182 (fun i h x => (((ap166).symm) i h x))
  have B185 := B174.all k182 (fun i h x => (((ap167).symm) i h x))
  have B186 := B175.all k182 (fun i h x => (((ap168).symm) i h x))
  have B187 := B176.all k182 (fun x => (((ap169).symm) p60 rfl x))
  have B188 := B177.all k182 (fun x => (((ap170).symm) p101 rfl x))
  have B189 := B178.all k182 (fun i h x => (((ap171).symm) i h x))
  have K190 := K179.trans k182 (Grew.ok (S := fun _ => False) gr164 noB_le)
  refine wl_v (v139) rfl rfl (y_asg rfl rfl ⟨rfl, rfl⟩) ?_
  refine wl_v (.int .i64 (rdE ([]))) rfl rfl (y_asg rfl rfl ⟨rfl, rfl⟩) ?_
  refine wl_nil fun F191 hF192 => ?_
  have s193 : F191 99 = undef := (hF192 99).trans s129
  have s194 : F191 1 = v4 := (hF192 1).trans s130
  have s195 : F191 2 = .int .i64 (seqE (8) (16) (300) (1000)) := (hF192 2).trans s131
  have s196 : F191 3 = v27 := (hF192 3).trans s132
  have s197 : F191 4 = .int .i64 (headE (1) (5) (2) (700)) := (hF192 4).trans s133
  have s198 : F191 5 = .pointer (some ⟨p60, 0, none⟩) := (hF192 5).trans s134
  have s199 : F191 6 = v46 := (hF192 6).trans s135
  have s200 : F191 7 = .int .i64 (rdE ((wrB (1) (5) (2) (700) ([9])))) := (hF192 7).trans s136
  have s201 : F191 8 = .pointer (some ⟨p101, 0, none⟩) := (hF192 8).trans s137
  have s202 : F191 9 = .int .i64 (odE ((opB (8) (16) (300) (1000)))) := (hF192 9).trans s138
  have s203 : F191 12 = .int .i64 (rdE ([])) := (hF192 12).trans rfl
  clear hF192
  refine then_normal ?_
  refine wq_seq ?_
  refine wq_region ?_
  refine wl_v (v4) rfl rfl (y_mov rfl s194 ⟨rfl, rfl⟩) ?_
  refine wl_v (.string (textOf ((opB (8) (16) (300) (1000))))) rfl rfl (y_text rfl (bytes_at rfl (B183).byt) ⟨rfl, rfl⟩) ?_
  refine wl_builtBn (xs := [.const (.int .u8 (8)), .const (.int .u8 (16)), .const (.int .u8 (0)), .const (.int .u8 (0)), .const (.int .u8 (1)), .const (.int .u8 (44)), .const (.int .u8 (0)), .const (.int .u8 (0)), .const (.int .u8 (3)), .const (.int .u8 (232))]) (vs := [.int .u8 (8), .int .u8 (16), .int .u8 (0), .int .u8 (0), .int .u8 (1), .int .u8 (44), .int .u8 (0), .int .u8 (0), .int .u8 (3), .int .u8 (232)]) (l := [8, 16, 0, 0, 1, 44, 0, 0, 3, 232]) rfl rfl rfl rfl rfl (vsC rfl (vsC rfl (vsC rfl (vsC rfl (vsC rfl (vsC rfl (vsC rfl (vsC rfl (vsC rfl (vsC rfl vsN)))))))))) rfl (Nat.le_of_ble_eq_true rfl) (Nat.le_of_ble_eq_true rfl) (by first | decide | (simp only [List.forall_mem_cons]; simp; omega)) fun v204 w205 T209 B207 g208 k206 => ?_
  have gr210 : Grew w0 noB (T209) := Grew.new K190 g208
  have ap211 : Apart (T209) (T7) := Apart.new g208 (B183).live
  have ap212 : Apart (T209) (T22) := Apart.new g208 (B184).live
  have ap213 : Apart (T209) (T30) := Apart.new g208 (B185).live
  have ap214 : Apart (T209) (T49) := Apart.new g208 (B186).live
  have ap215 : Apart (T209) (onB p60) := Apart.new g208 (onB_live (B187).lt)
  have ap216 : Apart (T209) (onB p101) := Apart.new g208 (onB_live (B188).lt)
  have ap217 : Apart (T209) (T142) := Apart.new g208 (B189).live
  have ap218 : Apart (T209) (onB p159) := Apart.new g208 (onB_live (B181).lt)
  have B219 := B183.all k206 Apart.none
  have B220 := B184.all k206 Apart.none
  have B221 := B185.all k206 Apart.none
  have B222 := B186.all k206 Apart.none
  have B223 := B187.all k206 id
  have B224 := B188.all k206 id
  have B225 := B189.all k206 Apart.none
  have B226 := B181.all k206 id
  have K227 := K190.trans k206 (fun _ _ x => x.elim)
  refine wl_v (.string (textOf ([8, 16, 0, 0, 1, 44, 0, 0, 3, 232]))) rfl rfl (y_text rfl (bytes_at rfl (B207).byt) ⟨rfl, rfl⟩) ?_
  refine wl_v (.bool true) rfl rfl (y_eqlS rfl rfl rfl (text_same hf.out.1) ⟨rfl, rfl⟩) ?_
  refine wl_v (.bool true) rfl rfl (y_mov rfl rfl ⟨rfl, rfl⟩) ?_
  refine wl_vw (.int .i64 (seqE (8) (16) (300) (1000))) 5 true 45 rfl rfl rfl rfl rfl (y_mov rfl s195 ⟨rfl, rfl⟩) ?_
  refine wl_vw (.bool true) 5 true 45 rfl rfl rfl rfl rfl (y_eqlI rfl rfl rfl (decide_eq_true hf.out.2.1) ⟨rfl, rfl⟩) ?_
  refine wl_v (.bool true) rfl rfl (y_pickT rfl rfl rfl ⟨rfl, rfl⟩) ?_
  refine wl_v (.bool true) rfl rfl (y_mov rfl rfl ⟨rfl, rfl⟩) ?_
  refine wl_vw (v27) 9 true 49 rfl rfl rfl rfl rfl (y_mov rfl s196 ⟨rfl, rfl⟩) ?_
  refine wl_vw (.string (textOf ((wrB (1) (5) (2) (700) ([9]))))) 9 true 49 rfl rfl rfl rfl rfl (y_text rfl (bytes_at rfl (B221).byt) ⟨rfl, rfl⟩) ?_
  refine wl_when 9 true 49 rfl rfl rfl rfl rfl (y_builtBn (xs := [.const (.int .u8 (1)), .const (.int .u8 (5)), .const (.int .u8 (0)), .const (.int .u8 (0)), .const (.int .u8 (0)), .const (.int .u8 (2)), .const (.int .u8 (0)), .const (.int .u8 (0)), .const (.int .u8 (2)), .const (.int .u8 (188)), .const (.int .u8 (9))]) (vs := [.int .u8 (1), .int .u8 (5), .int .u8 (0), .int .u8 (0), .int .u8 (0), .int .u8 (2), .int .u8 (0), .int .u8 (0), .int .u8 (2), .int .u8 (188), .int .u8 (9)]) (l := [1, 5, 0, 0, 0, 2, 0, 0, 2, 188, 9]) rfl rfl rfl (vsC rfl (vsC rfl (vsC rfl (vsC rfl (vsC rfl (vsC rfl (vsC rfl (vsC rfl (vsC rfl (vsC rfl (vsC rfl vsN))))))))))) rfl (Nat.le_of_ble_eq_true rfl) (Nat.le_of_ble_eq_true rfl) (by first | decide | (simp only [List.forall_mem_cons]; simp; omega)) fun v228 w229 T233 B231 g232 k230 => ?_)
  have gr234 : Grew w0 noB (T233) := Grew.new K227 g232
  have ap235 : Apart (T233) (T7) := Apart.new g232 (B219).live
  have ap236 : Apart (T233) (T22) := Apart.new g232 (B220).live
  have ap237 : Apart (T233) (T30) := Apart.new g232 (B221).live
  have ap238 : Apart (T233) (T49) := Apart.new g232 (B222).live
  have ap239 : Apart (T233) (onB p60) := Apart.new g232 (onB_live (B223).lt)
  have ap240 : Apart (T233) (onB p101) := Apart.new g232 (onB_live (B224).lt)
  have ap241 : Apart (T233) (T142) := Apart.new g232 (B225).live
  have ap242 : Apart (T233) (onB p159) := Apart.new g232 (onB_live (B226).lt)
  have ap243 : Apart (T233) (T209) := Apart.new g232 (B207).live
  have B244 := B219.all k230 Apart.none
  have B245 := B220.all k230 Apart.none
  have B246 := B221.all k230 Apart.none
  have B247 := B222.all k230 Apart.none
  have B248 := B223.all k230 id
  have B249 := B224.all k230 id
  have B250 := B225.all k230 Apart.none
  have B251 := B226.all k230 id
  have B252 := B207.all k230 Apart.none
  have K253 := K227.trans k230 (fun _ _ x => x.elim)
  refine wl_vw (.string (textOf ([1, 5, 0, 0, 0, 2, 0, 0, 2, 188, 9]))) 9 true 49 rfl rfl rfl rfl rfl (y_text rfl (bytes_at rfl (B231).byt) ⟨rfl, rfl⟩) ?_
  refine wl_vw (.bool true) 9 true 49 rfl rfl rfl rfl rfl (y_eqlS rfl rfl rfl (text_same hf.out.2.2.1) ⟨rfl, rfl⟩) ?_
  refine wl_v (.bool true) rfl rfl (y_pickT rfl rfl rfl ⟨rfl, rfl⟩) ?_
  refine wl_v (.bool true) rfl rfl (y_mov rfl rfl ⟨rfl, rfl⟩) ?_
  refine wl_vw (.int .i64 (headE (1) (5) (2) (700))) 16 true 56 rfl rfl rfl rfl rfl (y_mov rfl s197 ⟨rfl, rfl⟩) ?_
  refine wl_vw (.bool true) 16 true 56 rfl rfl rfl rfl rfl (y_eqlI rfl rfl rfl (decide_eq_true hf.out.2.2.2.1) ⟨rfl, rfl⟩) ?_
  refine wl_v (.bool true) rfl rfl (y_pickT rfl rfl rfl ⟨rfl, rfl⟩) ?_
  refine wl_v (.bool true) rfl rfl (y_mov rfl rfl ⟨rfl, rfl⟩) ?_
  refine wl_vw (.agg #[.int .i64 (rdH t0 ((wrB (1) (5) (2) (700) ([9])))), .int .i64 (rdH t1 ((wrB (1) (5) (2) (700) ([9])))), .int .i64 (rdH t2 ((wrB (1) (5) (2) (700) ([9])))), .int .i64 (rdH t3 ((wrB (1) (5) (2) (700) ([9]))))]) 20 true 60 rfl rfl rfl rfl rfl (y_load_stc stcT_head rfl s198 B248 ⟨rfl, rfl⟩) ?_
  refine wl_vw (.agg #[.int .i64 (1), .int .i64 (5), .int .i64 (2), .int .i64 (700)]) 20 true 60 rfl rfl rfl rfl rfl (y_buildL (l' := [(0, .int .i64 (1)), (1, .int .i64 (5)), (2, .int .i64 (2)), (3, .int .i64 (700))]) (cells := #[.int .i64 (1), .int .i64 (5), .int .i64 (2), .int .i64 (700)]) rfl (bpC rfl (bpC rfl (bpC rfl (bpC rfl bpN)))) (by kernel_rfl) rfl ⟨rfl, rfl⟩) ?_
  refine wl_vw (.bool true) 20 true 60 rfl rfl rfl rfl rfl (y_eqlSI (xs := [rdH t0 ((wrB (1) (5) (2) (700) ([9]))), rdH t1 ((wrB (1) (5) (2) (700) ([9]))), rdH t2 ((wrB (1) (5) (2) (700) ([9]))), rdH t3 ((wrB (1) (5) (2) (700) ([9])))]) (ys := [1, 5, 2, 700]) structI_head rfl rfl rfl rfl rfl (sameI_of (by rw [hw.out.2.1, hw.out.2.2.1, hw.out.2.2.2.1, hw.out.2.2.2.2.1])) ⟨rfl, rfl⟩) ?_
  refine wl_v (.bool true) rfl rfl (y_pickT rfl rfl rfl ⟨rfl, rfl⟩) ?_
  refine wl_v (.bool true) rfl rfl (y_mov rfl rfl ⟨rfl, rfl⟩) ?_
  refine wl_vw (v46) 25 true 65 rfl rfl rfl rfl rfl (y_mov rfl s199 ⟨rfl, rfl⟩) ?_
  refine wl_vw (.string (textOf ((rdP ((wrB (1) (5) (2) (700) ([9]))))))) 25 true 65 rfl rfl rfl rfl rfl (y_text rfl (bytes_at rfl (B247).byt) ⟨rfl, rfl⟩) ?_
  refine wl_when 25 true 65 rfl rfl rfl rfl rfl (y_builtBn (xs := [.const (.int .u8 (9))]) (vs := [.int .u8 (9)]) (l := [9]) rfl rfl rfl (vsC rfl vsN) rfl (Nat.le_of_ble_eq_true rfl) (Nat.le_of_ble_eq_true rfl) (by first | decide | (simp only [List.forall_mem_cons]; simp; omega)) fun v254 w255 T259 B257 g258 k256 => ?_)
  have gr260 : Grew w0 noB (T259) := Grew.new K253 g258
  have ap261 : Apart (T259) (T7) := Apart.new g258 (B244).live
  have ap262 : Apart (T259) (T22) := Apart.new g258 (B245).live
  have ap263 : Apart (T259) (T30) := Apart.new g258 (B246).live
  have ap264 : Apart (T259) (T49) := Apart.new g258 (B247).live
  have ap265 : Apart (T259) (onB p60) := Apart.new g258 (onB_live (B248).lt)
  have ap266 : Apart (T259) (onB p101) := Apart.new g258 (onB_live (B249).lt)
  have ap267 : Apart (T259) (T142) := Apart.new g258 (B250).live
  have ap268 : Apart (T259) (onB p159) := Apart.new g258 (onB_live (B251).lt)
  have ap269 : Apart (T259) (T209) := Apart.new g258 (B252).live
  have ap270 : Apart (T259) (T233) := Apart.new g258 (B231).live
  have B271 := B244.all k256 Apart.none
  have B272 := B245.all k256 Apart.none
  have B273 := B246.all k256 Apart.none
  have B274 := B247.all k256 Apart.none
  have B275 := B248.all k256 id
  have B276 := B249.all k256 id
  have B277 := B250.all k256 Apart.none
  have B278 := B251.all k256 id
  have B279 := B252.all k256 Apart.none
  have B280 := B231.all k256 Apart.none
  have K281 := K253.trans k256 (fun _ _ x => x.elim)
  refine wl_vw (.string (textOf ([9]))) 25 true 65 rfl rfl rfl rfl rfl (y_text rfl (bytes_at rfl (B257).byt) ⟨rfl, rfl⟩) ?_
  refine wl_vw (.bool true) 25 true 65 rfl rfl rfl rfl rfl (y_eqlS rfl rfl rfl (text_same hw.out.2.2.2.2.2.1) ⟨rfl, rfl⟩) ?_
  refine wl_v (.bool true) rfl rfl (y_pickT rfl rfl rfl ⟨rfl, rfl⟩) ?_
  refine wl_v (.bool true) rfl rfl (y_mov rfl rfl ⟨rfl, rfl⟩) ?_
  refine wl_vw (.int .i64 (rdE ((wrB (1) (5) (2) (700) ([9]))))) 32 true 72 rfl rfl rfl rfl rfl (y_mov rfl s200 ⟨rfl, rfl⟩) ?_
  refine wl_vw (.bool true) 32 true 72 rfl rfl rfl rfl rfl (y_eqlI rfl rfl rfl (decide_eq_true hw.out.2.2.2.2.2.2) ⟨rfl, rfl⟩) ?_
  refine wl_v (.bool true) rfl rfl (y_pickT rfl rfl rfl ⟨rfl, rfl⟩) ?_
  refine wl_v (.bool true) rfl rfl (y_mov rfl rfl ⟨rfl, rfl⟩) ?_
  refine wl_vw (.agg #[.int .i64 (od t0 ((opB (8) (16) (300) (1000)))), .int .i64 (od t1 ((opB (8) (16) (300) (1000)))), .int .i64 (od t2 ((opB (8) (16) (300) (1000)))), .int .i64 (od t3 ((opB (8) (16) (300) (1000))))]) 36 true 76 rfl rfl rfl rfl rfl (y_load_stc stcT_seq rfl s201 B276 ⟨rfl, rfl⟩) ?_
  refine wl_vw (.agg #[.int .i64 (8), .int .i64 (16), .int .i64 (300), .int .i64 (1000)]) 36 true 76 rfl rfl rfl rfl rfl (y_buildL (l' := [(0, .int .i64 (8)), (1, .int .i64 (16)), (2, .int .i64 (300)), (3, .int .i64 (1000))]) (cells := #[.int .i64 (8), .int .i64 (16), .int .i64 (300), .int .i64 (1000)]) rfl (bpC rfl (bpC rfl (bpC rfl (bpC rfl bpN)))) (by kernel_rfl) rfl ⟨rfl, rfl⟩) ?_
  refine wl_vw (.bool true) 36 true 76 rfl rfl rfl rfl rfl (y_eqlSI (xs := [od t0 ((opB (8) (16) (300) (1000))), od t1 ((opB (8) (16) (300) (1000))), od t2 ((opB (8) (16) (300) (1000))), od t3 ((opB (8) (16) (300) (1000)))]) (ys := [8, 16, 300, 1000]) structI_seq rfl rfl rfl rfl rfl (sameI_of (by rw [ho.out.2.1, ho.out.2.2.1, ho.out.2.2.2.1, ho.out.2.2.2.2.1])) ⟨rfl, rfl⟩) ?_
  refine wl_v (.bool true) rfl rfl (y_pickT rfl rfl rfl ⟨rfl, rfl⟩) ?_
  refine wl_v (.bool true) rfl rfl (y_mov rfl rfl ⟨rfl, rfl⟩) ?_
  refine wl_vw (.int .i64 (odE ((opB (8) (16) (300) (1000))))) 41 true 81 rfl rfl rfl rfl rfl (y_mov rfl s202 ⟨rfl, rfl⟩) ?_
  refine wl_vw (.bool true) 41 true 81 rfl rfl rfl rfl rfl (y_eqlI rfl rfl rfl (decide_eq_true ho.out.2.2.2.2.2) ⟨rfl, rfl⟩) ?_
  refine wl_v (.bool true) rfl rfl (y_pickT rfl rfl rfl ⟨rfl, rfl⟩) ?_
  refine wl_v (.bool true) rfl rfl (y_mov rfl rfl ⟨rfl, rfl⟩) ?_
  refine wl_vw (.int .i64 (rdE ([]))) 45 true 85 rfl rfl rfl rfl rfl (y_mov rfl s203 ⟨rfl, rfl⟩) ?_
  refine wl_vw (.bool true) 45 true 85 rfl rfl rfl rfl rfl (y_eqlI rfl rfl rfl (decide_eq_true hf.out.2.2.2.2.1) ⟨rfl, rfl⟩) ?_
  refine wl_v (.bool true) rfl rfl (y_pickT rfl rfl rfl ⟨rfl, rfl⟩) ?_
  refine wl_v (.bool true) rfl rfl (y_mov rfl rfl ⟨rfl, rfl⟩) ?_
  refine wl_vw (.agg #[.int .i64 (3), .int .i64 (0), .int .i64 (0), .int .i64 (0)]) 49 true 89 rfl rfl rfl rfl rfl (y_buildL (l' := [(0, .int .i64 (3))]) (cells := #[.int .i64 (3), .int .i64 (0), .int .i64 (0), .int .i64 (0)]) rfl (bpC rfl bpN) (by kernel_rfl) rfl ⟨rfl, rfl⟩) ?_
  refine wl_callw (R := fun v_ w_ => v_ = .int .i64 (headE (3) (0) (0) (0)) ∧ Kept (fun _ => False) w255 w_) 49 true 89 rfl rfl rfl rfl rfl (y_cs rfl rfl rfl (fun _ _ => by kernel_rfl) (ev_func _) (vsC rfl vsN) (hd_head (3) (0) (0) (0)  _   ) (fun e_ w_ h_ => ⟨_, h_.1, rfl, h_.2⟩)) ?_
  rintro _ w282 ⟨rfl, k283⟩
  have B284 := B271.all k283 Apart.none
  have B285 := B272.all k283 Apart.none
  have B286 := B273.all k283 Apart.none
  have B287 := B274.all k283 Apart.none
  have B288 := B275.all k283 id
  have B289 := B276.all k283 id
  have B290 := B277.all k283 Apart.none
  have B291 := B278.all k283 id
  have B292 := B279.all k283 Apart.none
  have B293 := B280.all k283 Apart.none
  have B294 := B257.all k283 Apart.none
  have K295 := K281.trans k283 (fun _ _ x => x.elim)
  refine wl_vw (.bool true) 49 true 89 rfl rfl rfl rfl rfl (y_eqlI rfl rfl rfl (decide_eq_true hf.out.2.2.2.2.2) ⟨rfl, rfl⟩) ?_
  refine wl_v (.bool true) rfl rfl (y_pickT rfl rfl rfl ⟨rfl, rfl⟩) ?_
  refine wl_v (.bool true) rfl rfl (y_mov rfl rfl ⟨rfl, rfl⟩) ?_
  refine wl_vw (.agg #[.int .i64 (od t0 ((opB (8) (16) (300) (1000)))), .int .i64 (od t1 ((opB (8) (16) (300) (1000)))), .int .i64 (od t2 ((opB (8) (16) (300) (1000)))), .int .i64 (od t3 ((opB (8) (16) (300) (1000))))]) 54 true 94 rfl rfl rfl rfl rfl (y_load_stc stcT_seq rfl s201 B289 ⟨rfl, rfl⟩) ?_
  refine wl_callw (R := fun v_ w_ => v_ = .int .i64 (seqE (od t0 ((opB (8) (16) (300) (1000)))) (od t1 ((opB (8) (16) (300) (1000)))) (od t2 ((opB (8) (16) (300) (1000)))) (od t3 ((opB (8) (16) (300) (1000))))) ∧ Kept (fun _ => False) w282 w_) 54 true 94 rfl rfl rfl rfl rfl (y_cs rfl rfl rfl (fun _ _ => by kernel_rfl) (ev_func _) (vsC rfl vsN) (hd_seq (od t0 ((opB (8) (16) (300) (1000)))) (od t1 ((opB (8) (16) (300) (1000)))) (od t2 ((opB (8) (16) (300) (1000)))) (od t3 ((opB (8) (16) (300) (1000))))  _   ) (fun e_ w_ h_ => ⟨_, h_.1, rfl, h_.2⟩)) ?_
  rintro _ w296 ⟨rfl, k297⟩
  have B298 := B284.all k297 Apart.none
  have B299 := B285.all k297 Apart.none
  have B300 := B286.all k297 Apart.none
  have B301 := B287.all k297 Apart.none
  have B302 := B288.all k297 id
  have B303 := B289.all k297 id
  have B304 := B290.all k297 Apart.none
  have B305 := B291.all k297 id
  have B306 := B292.all k297 Apart.none
  have B307 := B293.all k297 Apart.none
  have B308 := B294.all k297 Apart.none
  have K309 := K295.trans k297 (fun _ _ x => x.elim)
  refine wl_vw (.bool true) 54 true 94 rfl rfl rfl rfl rfl (y_eqlI rfl rfl rfl (decide_eq_true (by rw [ho.out.2.1, ho.out.2.2.1, ho.out.2.2.2.1, ho.out.2.2.2.2.1]; exact hf.out.2.1)) ⟨rfl, rfl⟩) ?_
  refine wl_v (.bool true) rfl rfl (y_pickT rfl rfl rfl ⟨rfl, rfl⟩) ?_
  refine wl_v (.bool true) rfl rfl (y_asg rfl rfl ⟨rfl, rfl⟩) ?_
  refine wl_nil fun F310 hF311 => ?_
  have s312 : F310 99 = undef := (hF311 99).trans s193
  have s313 : F310 0 = .bool true := (hF311 0).trans rfl
  clear hF311
  refine then_normal ?_
  refine wq_ret ?_
  exact end_tmp (v := .bool true) s312 rfl rfl s313 ⟨rfl, K309⟩

set_option maxHeartbeats 4000000 in
set_option maxRecDepth 100000 in
theorem hnames_walk (w0 : World) :
    Calls Try.prog 3 #[] w0 fun e w' => e = .returned (.bool true) ∧ Kept (fun _ => False) w0 w' := by
  refine calls_wq (args := []) 16 Try.func3 rfl rfl (Nat.le_of_ble_eq_true rfl) ?_
  have K0 := Kept.refl (fun _ => False) w0
  refine wq_seq ?_
  refine wq_region ?_
  refine wl_v (.bool false) rfl rfl (y_asg rfl rfl ⟨rfl, rfl⟩) ?_
  refine wl_nil fun F1 hF2 => ?_
  have s3 : F1 16 = undef := (hF2 16).trans rfl
  clear hF2
  refine then_normal ?_
  refine wq_seq ?_
  refine wq_region ?_
  refine wl_call (R := fun v_ w_ => v_ = .bool true ∧ Kept (fun _ => False) w0 w_) rfl rfl (y_cs rfl rfl rfl (fun _ _ => by kernel_rfl) (ev_func _) vsN (hawake_any   _   ) (fun e_ w_ h_ => ⟨_, h_.1, rfl, h_.2⟩)) ?_
  rintro _ w4 ⟨rfl, k5⟩
  have K6 := K0.trans k5 (fun _ _ x => x.elim)
  refine wl_v (.bool true) rfl rfl (y_asg rfl rfl ⟨rfl, rfl⟩) ?_
  refine wl_nil fun F7 hF8 => ?_
  have s9 : F7 16 = undef := (hF8 16).trans s3
  have s10 : F7 1 = .bool true := (hF8 1).trans rfl
  clear hF8
  refine then_normal ?_
  refine wq_seq ?_
  refine wq_region ?_
  refine wl_v (.bool true) rfl rfl (y_mov rfl s10 ⟨rfl, rfl⟩) ?_
  refine wl_v (.bool true) rfl rfl (y_mov rfl rfl ⟨rfl, rfl⟩) ?_
  refine wl_v (.bool true) rfl rfl (y_pickT rfl rfl rfl ⟨rfl, rfl⟩) ?_
  refine wl_v (.bool true) rfl rfl (y_mov rfl rfl ⟨rfl, rfl⟩) ?_
  refine wl_v (.bool true) rfl rfl (y_pickT rfl rfl rfl ⟨rfl, rfl⟩) ?_
  refine wl_v (.bool true) rfl rfl (y_mov rfl rfl ⟨rfl, rfl⟩) ?_
  refine wl_v (.bool true) rfl rfl (y_pickT rfl rfl rfl ⟨rfl, rfl⟩) ?_
  refine wl_v (.bool true) rfl rfl (y_mov rfl rfl ⟨rfl, rfl⟩) ?_
  refine wl_v (.bool true) rfl rfl (y_pickT rfl rfl rfl ⟨rfl, rfl⟩) ?_
  refine wl_v (.bool true) rfl rfl (y_mov rfl rfl ⟨rfl, rfl⟩) ?_
  refine wl_v (.bool true) rfl rfl (y_pickT rfl rfl rfl ⟨rfl, rfl⟩) ?_
  refine wl_v (.bool true) rfl rfl (y_mov rfl rfl ⟨rfl, rfl⟩) ?_
  refine wl_v (.bool true) rfl rfl (y_pickT rfl rfl rfl ⟨rfl, rfl⟩) ?_
  refine wl_v (.bool true) rfl rfl (y_asg rfl rfl ⟨rfl, rfl⟩) ?_
  refine wl_nil fun F11 hF12 => ?_
  have s13 : F11 16 = undef := (hF12 16).trans s9
  have s14 : F11 0 = .bool true := (hF12 0).trans rfl
  clear hF12
  refine then_normal ?_
  refine wq_ret ?_
  exact end_tmp (v := .bool true) s13 rfl rfl s14 ⟨rfl, K6⟩

end Go.Proofs.Ytnccblhdokplkaa
