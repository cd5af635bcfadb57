/- What HeadTells reaches of my texts, part 4. -/
import Derived.Test.YtnccblhdokplkaaHeadTellsC
set_option maxRecDepth 100000
set_option maxRecDepth 100000
namespace Go.Proofs.Ytnccblhdokplkaa
open Go.RowKit

set_option maxRecDepth 100000 in
theorem awake11 : opB 8 16 300 1000 = [8, 16, 0, 0, 1, 44, 0, 0, 3, 232] ∧ seqE 8 16 300 1000 = 0 ∧ wrB 1 5 2 700 [9] = [1, 5, 0, 0, 0, 2, 0, 0, 2, 188, 9] ∧ headE 1 5 2 700 = 0 ∧ rdE [] = 110 ∧ headE 3 0 0 0 = 110 := by
  refine ⟨?_, ?_, ?_, ?_, ?_, ?_⟩ <;> decide +kernel
theorem awake11a : headOk 1 5 2 700 ∧ seqOk 8 16 300 1000 := by decide +kernel
theorem text_same {l m : List Nat} (h : l = m) : ((textOf l).toList == (textOf m).toList) = true := by rw [h]; exact beq_self_eq_true _

set_option maxHeartbeats 4000000 in
set_option maxRecDepth 100000 in
theorem hawake_any (w0 : World) :
    Calls Try.prog 9 #[] w0 fun e w' => e = .returned (.bool true) ∧ Kept (fun _ => False) w0 w' := by
  refine calls_wq (args := []) 99 Try.func9 rfl rfl (Nat.le_of_ble_eq_true rfl) ?_
  have K0 := Kept.refl (fun _ => False) w0
  have hf := Lib.hid awake11
  have hw := Lib.hid (rd_write awake11a.1 [9])
  have ho := Lib.hid (od_open awake11a.2)
  refine wq_seq ?_
  refine wq_region ?_
  refine wl_v (.bool false) rfl rfl (y_asg rfl rfl ⟨rfl, rfl⟩) ?_
  refine wl_nil fun F1 hF2 => ?_
  have s3 : F1 99 = undef := (hF2 99).trans rfl
  clear hF2
  refine then_normal ?_
  refine wq_seq ?_
  refine wq_region ?_
  refine wl_v (.agg #[.int .i64 (8), .int .i64 (16), .int .i64 (300), .int .i64 (1000)]) rfl rfl (y_buildL (l' := [(0, .int .i64 (8)), (1, .int .i64 (16)), (2, .int .i64 (300)), (3, .int .i64 (1000))]) (cells := #[.int .i64 (8), .int .i64 (16), .int .i64 (300), .int .i64 (1000)]) rfl (bpC rfl (bpC rfl (bpC rfl (bpC rfl bpN)))) (by kernel_rfl) rfl ⟨rfl, rfl⟩) ?_
  refine wl_call (R := fun v_ w_ => ∃ (v4 : Value) (T7 : Nat → Prop), .tuple #[v4, .int .i64 (seqE (8) (16) (300) (1000))] = v_ ∧ Kept (fun _ => False) w0 w_ ∧ (Owb w_ T7 v4 ((opB (8) (16) (300) (1000))) ∧ Grew w0 noB T7)) rfl rfl (y_cs rfl rfl rfl (fun _ _ => by kernel_rfl) (ev_func _) (vsC rfl vsN) (hd_open (8) (16) (300) (1000)  _   ) (fun e_ w_ h_ => by obtain ⟨v4_, T7_, he_, hr_⟩ := h_; exact ⟨_, he_, v4_, T7_, rfl, hr_⟩)) ?_
  rintro _ w5 ⟨v4, T7, rfl, k6, ⟨B8, g9⟩⟩
  have K10 := K0.trans k6 (fun _ _ x => x.elim)
  have gr11 : Grew w0 noB (T7) := Grew.new K0 g9
  refine wl_v (.tuple #[v4, .int .i64 (seqE (8) (16) (300) (1000))]) rfl rfl (y_mov rfl rfl ⟨rfl, rfl⟩) ?_
  refine wl_v (v4) rfl rfl (y_ext rfl rfl rfl ⟨rfl, rfl⟩) ?_
  refine wl_v (.int .i64 (seqE (8) (16) (300) (1000))) rfl rfl (y_ext rfl rfl rfl ⟨rfl, rfl⟩) ?_
  refine wl_v (v4) rfl rfl (y_asg rfl rfl ⟨rfl, rfl⟩) ?_
  refine wl_v (.int .i64 (seqE (8) (16) (300) (1000))) rfl rfl (y_asg rfl rfl ⟨rfl, rfl⟩) ?_
  refine wl_nil fun F12 hF13 => ?_
  have s14 : F12 99 = undef := (hF13 99).trans s3
  have s15 : F12 1 = v4 := (hF13 1).trans rfl
  have s16 : F12 2 = .int .i64 (seqE (8) (16) (300) (1000)) := (hF13 2).trans rfl
  clear hF13
  refine then_normal ?_
  refine wq_seq ?_
  refine wq_region ?_
  refine wl_v (.agg #[.int .i64 (1), .int .i64 (5), .int .i64 (2), .int .i64 (700)]) rfl rfl (y_buildL (l' := [(0, .int .i64 (1)), (1, .int .i64 (5)), (2, .int .i64 (2)), (3, .int .i64 (700))]) (cells := #[.int .i64 (1), .int .i64 (5), .int .i64 (2), .int .i64 (700)]) rfl (bpC rfl (bpC rfl (bpC rfl (bpC rfl bpN)))) (by kernel_rfl) rfl ⟨rfl, rfl⟩) ?_
  refine wl_builtB1 (n := 9) rfl rfl rfl rfl (by omega) (by omega) fun v17 w18 T22 B20 g21 k19 => ?_
  have gr23 : Grew w0 noB (T22) := Grew.new K10 g21
  have ap24 : Apart (T22) (T7) := Apart.new g21 (B8).live
  have B25 := B8.all k19 Apart.none
  have K26 := K10.trans k19 (fun _ _ x => x.elim)
  refine wl_call (R := fun v_ w_ => ∃ (v27 : Value) (T30 : Nat → Prop), .tuple #[v27, .int .i64 (headE (1) (5) (2) (700))] = v_ ∧ Kept (fun _ => False) w18 w_ ∧ (Owb w_ T30 v27 ((wrB (1) (5) (2) (700) ([9]))) ∧ Grew w18 noB T30)) rfl rfl (y_cs rfl rfl rfl (fun _ _ => by kernel_rfl) (ev_func _) (vsC rfl (vsC rfl vsN)) (hd_write (1) (5) (2) (700) (v17) ([9]) (T22) _ (by decide) (B20).byt ) (fun e_ w_ h_ => by obtain ⟨v27_, T30_, he_, hr_⟩ := h_; exact ⟨_, he_, v27_, T30_, rfl, hr_⟩)) ?_
  rintro _ w28 ⟨v27, T30, rfl, k29, ⟨B31, g32⟩⟩
  have B33 := B25.all k29 Apart.none
  have B34 := B20.all k29 Apart.none
  have K35 := K26.trans k29 (fun _ _ x => x.elim)
  have gr36 : Grew w0 noB (T30) := Grew.new K26 g32
  have ap37 : Apart (T30) (T7) := Apart.new g32 (B25).live
  have ap38 : Apart (T30) (T22) := Apart.new g32 (B20).live
  refine wl_v (.tuple #[v27, .int .i64 (headE (1) (5) (2) (700))]) rfl rfl (y_mov rfl rfl ⟨rfl, rfl⟩) ?_
  refine wl_v (v27) rfl rfl (y_ext rfl rfl rfl ⟨rfl, rfl⟩) ?_
  refine wl_v (.int .i64 (headE (1) (5) (2) (700))) rfl rfl (y_ext rfl rfl rfl ⟨rfl, rfl⟩) ?_
  refine wl_v (v27) rfl rfl (y_asg rfl rfl ⟨rfl, rfl⟩) ?_
  refine wl_v (.int .i64 (headE (1) (5) (2) (700))) rfl rfl (y_asg rfl rfl ⟨rfl, rfl⟩) ?_
  refine wl_nil fun F39 hF40 => ?_
  have s41 : F39 99 = undef := (hF40 99).trans s14
  have s42 : F39 1 = v4 := (hF40 1).trans s15
  have s43 : F39 2 = .int .i64 (seqE (8) (16) (300) (1000)) := (hF40 2).trans s16
  have s44 : F39 3 = v27 := (hF40 3).trans rfl
  have s45 : F39 4 = .int .i64 (headE (1) (5) (2) (700)) := (hF40 4).trans rfl
  clear hF40
  refine then_normal ?_
  refine wq_seq ?_
  refine wq_region ?_
  refine wl_v (v27) rfl rfl (y_mov rfl s44 ⟨rfl, rfl⟩) ?_
  refine wl_call (R := fun v_ w_ => ∃ (v46 : Value) (T49 : Nat → Prop), .tuple #[.agg #[.int .i64 (rdH t0 ((wrB (1) (5) (2) (700) ([9])))), .int .i64 (rdH t1 ((wrB (1) (5) (2) (700) ([9])))), .int .i64 (rdH t2 ((wrB (1) (5) (2) (700) ([9])))), .int .i64 (rdH t3 ((wrB (1) (5) (2) (700) ([9]))))], v46, .int .i64 (rdE ((wrB (1) (5) (2) (700) ([9]))))] = v_ ∧ Kept (fun _ => False) w28 w_ ∧ (Owb w_ T49 v46 ((rdP ((wrB (1) (5) (2) (700) ([9]))))) ∧ Grew w28 noB T49)) rfl rfl (y_cs rfl rfl rfl (fun _ _ => by kernel_rfl) (ev_func _) (vsC rfl vsN) (hd_read (v27) ((wrB (1) (5) (2) (700) ([9]))) (T30) _ (by rw [hf.out.2.2.1]; decide) (B31).byt ) (fun e_ w_ h_ => by obtain ⟨v46_, T49_, he_, hr_⟩ := h_; exact ⟨_, he_, v46_, T49_, rfl, hr_⟩)) ?_
  rintro _ w47 ⟨v46, T49, rfl, k48, ⟨B50, g51⟩⟩
  have B52 := B33.all k48 Apart.none
  have B53 := B34.all k48 Apart.none
  have B54 := B31.all k48 Apart.none
  have K55 := K35.trans k48 (fun _ _ x => x.elim)
  have gr56 : Grew w0 noB (T49) := Grew.new K35 g51
  have ap57 : Apart (T49) (T7) := Apart.new g51 (B33).live
  have ap58 : Apart (T49) (T22) := Apart.new g51 (B34).live
  have ap59 : Apart (T49) (T30) := Apart.new g51 (B31).live
  refine wl_v (.tuple #[.agg #[.int .i64 (rdH t0 ((wrB (1) (5) (2) (700) ([9])))), .int .i64 (rdH t1 ((wrB (1) (5) (2) (700) ([9])))), .int .i64 (rdH t2 ((wrB (1) (5) (2) (700) ([9])))), .int .i64 (rdH t3 ((wrB (1) (5) (2) (700) ([9]))))], v46, .int .i64 (rdE ((wrB (1) (5) (2) (700) ([9]))))]) rfl rfl (y_mov rfl rfl ⟨rfl, rfl⟩) ?_
  refine wl_v (.agg #[.int .i64 (rdH t0 ((wrB (1) (5) (2) (700) ([9])))), .int .i64 (rdH t1 ((wrB (1) (5) (2) (700) ([9])))), .int .i64 (rdH t2 ((wrB (1) (5) (2) (700) ([9])))), .int .i64 (rdH t3 ((wrB (1) (5) (2) (700) ([9]))))]) rfl rfl (y_ext rfl rfl rfl ⟨rfl, rfl⟩) ?_
  refine wl_v (v46) rfl rfl (y_ext rfl rfl rfl ⟨rfl, rfl⟩) ?_
  refine wl_v (.int .i64 (rdE ((wrB (1) (5) (2) (700) ([9]))))) rfl rfl (y_ext rfl rfl rfl ⟨rfl, rfl⟩) ?_
  refine wl_alloc_stc (n := 4) (vs := [.int .i64 (0), .int .i64 (0), .int .i64 (0), .int .i64 (0)]) rfl rfl rfl (by kernel_rfl) fun p60 w61 B63 g64 k62 => ?_
  have gr65 : Grew w0 noB (onB p60) := Grew.new K55 g64
  have ap66 : Apart (onB p60) (T7) := Apart.new g64 (B52).live
  have ap67 : Apart (onB p60) (T22) := Apart.new g64 (B53).live
  have ap68 : Apart (onB p60) (T30) := Apart.new g64 (B54).live
  have ap69 : Apart (onB p60) (T49) := Apart.new g64 (B50).live
  have B70 := B52.all k62 Apart.none
  have B71 := B53.all k62 Apart.none
  have B72 := B54.all k62 Apart.none
  have B73 := B50.all k62 Apart.none
  have K74 := K55.trans k62 (fun _ _ x => x.elim)
  refine wl_store_stc (us := [.int .i64 (rdH t0 ((wrB (1) (5) (2) (700) ([9])))), .int .i64 (rdH t1 ((wrB (1) (5) (2) (700) ([9])))), .int .i64 (rdH t2 ((wrB (1) (5) (2) (700) ([9])))), .int .i64 (rdH t3 ((wrB (1) (5) (2) (700) ([9]))))]) stcT_head rfl rfl rfl rfl rfl B63 rfl (oneI rfl (oneI rfl (oneI rfl (oneI rfl oneN)))) fun w75 B76 k77 => ?_
  have B78 := B70.all k77 (fun i h x => (((ap66).symm) i h x))
  have B79 := B71.all k77 (fun i h x => (((ap67).symm) i h x))
  have B80 := B72.all k77 (fun i h x => (((ap68).symm) i h x))
  have B81 := B73.all k77 (fun i h x => (((ap69).symm) i h x))
  have K82 := K74.trans k77 (Grew.ok (S := fun _ => False) gr65 noB_le)
  refine wl_v (v46) rfl rfl (y_asg rfl rfl ⟨rfl, rfl⟩) ?_
  refine wl_v (.int .i64 (rdE ((wrB (1) (5) (2) (700) ([9]))))) rfl rfl (y_asg rfl rfl ⟨rfl, rfl⟩) ?_
  refine wl_nil fun F83 hF84 => ?_
  have s85 : F83 99 = undef := (hF84 99).trans s41
  have s86 : F83 1 = v4 := (hF84 1).trans s42
  have s87 : F83 2 = .int .i64 (seqE (8) (16) (300) (1000)) := (hF84 2).trans s43
  have s88 : F83 3 = v27 := (hF84 3).trans s44
  have s89 : F83 4 = .int .i64 (headE (1) (5) (2) (700)) := (hF84 4).trans s45
  have s90 : F83 5 = .pointer (some ⟨p60, 0, none⟩) := (hF84 5).trans rfl
  have s91 : F83 6 = v46 := (hF84 6).trans rfl
  have s92 : F83 7 = .int .i64 (rdE ((wrB (1) (5) (2) (700) ([9])))) := (hF84 7).trans rfl
  clear hF84
  refine then_normal ?_
  refine wq_seq ?_
  refine wq_region ?_
  refine wl_v (v4) rfl rfl (y_mov rfl s86 ⟨rfl, rfl⟩) ?_
  refine wl_call (R := fun v_ w_ => v_ = .tuple #[.agg #[.int .i64 (od t0 ((opB (8) (16) (300) (1000)))), .int .i64 (od t1 ((opB (8) (16) (300) (1000)))), .int .i64 (od t2 ((opB (8) (16) (300) (1000)))), .int .i64 (od t3 ((opB (8) (16) (300) (1000))))], .int .i64 (odE ((opB (8) (16) (300) (1000))))] ∧ Kept (fun _ => False) w75 w_) rfl rfl (y_cs rfl rfl rfl (fun _ _ => by kernel_rfl) (ev_func _) (vsC rfl vsN) (hd_opened (v4) ((opB (8) (16) (300) (1000))) (T7) _  (B78).byt ) (fun e_ w_ h_ => ⟨_, h_.1, rfl, h_.2⟩)) ?_
  rintro _ w93 ⟨rfl, k94⟩
  have B95 := B78.all k94 Apart.none
  have B96 := B79.all k94 Apart.none
  have B97 := B80.all k94 Apart.none
  have B98 := B81.all k94 Apart.none
  have B99 := B76.all k94 id
  have K100 := K82.trans k94 (fun _ _ x => x.elim)
  refine wl_v (.tuple #[.agg #[.int .i64 (od t0 ((opB (8) (16) (300) (1000)))), .int .i64 (od t1 ((opB (8) (16) (300) (1000)))), .int .i64 (od t2 ((opB (8) (16) (300) (1000)))), .int .i64 (od t3 ((opB (8) (16) (300) (1000))))], .int .i64 (odE ((opB (8) (16) (300) (1000))))]) rfl rfl (y_mov rfl rfl ⟨rfl, rfl⟩) ?_
  refine wl_v (.agg #[.int .i64 (od t0 ((opB (8) (16) (300) (1000)))), .int .i64 (od t1 ((opB (8) (16) (300) (1000)))), .int .i64 (od t2 ((opB (8) (16) (300) (1000)))), .int .i64 (od t3 ((opB (8) (16) (300) (1000))))]) rfl rfl (y_ext rfl rfl rfl ⟨rfl, rfl⟩) ?_
  refine wl_v (.int .i64 (odE ((opB (8) (16) (300) (1000))))) rfl rfl (y_ext rfl rfl rfl ⟨rfl, rfl⟩) ?_
  refine wl_alloc_stc (n := 4) (vs := [.int .i64 (0), .int .i64 (0), .int .i64 (0), .int .i64 (0)]) rfl rfl rfl (by kernel_rfl) fun p101 w102 B104 g105 k103 => ?_
  have gr106 : Grew w0 noB (onB p101) := Grew.new K100 g105
  have ap107 : Apart (onB p101) (T7) := Apart.new g105 (B95).live
  have ap108 : Apart (onB p101) (T22) := Apart.new g105 (B96).live
  have ap109 : Apart (onB p101) (T30) := Apart.new g105 (B97).live
  have ap110 : Apart (onB p101) (T49) := Apart.new g105 (B98).live
  have ap111 : Apart (onB p101) (onB p60) := Apart.new g105 (onB_live (B99).lt)
  have B112 := B95.all k103 Apart.none
  have B113 := B96.all k103 Apart.none
  have B114 := B97.all k103 Apart.none
  have B115 := B98.all k103 Apart.none
  have B116 := B99.all k103 id
  have K117 := K100.trans k103 (fun _ _ x => x.elim)
  refine wl_store_stc (us := [.int .i64 (od t0 ((opB (8) (16) (300) (1000)))), .int .i64 (od t1 ((opB (8) (16) (300) (1000)))), .int .i64 (od t2 ((opB (8) (16) (300) (1000)))), .int .i64 (od t3 ((opB (8) (16) (300) (1000))))]) stcT_seq rfl rfl rfl rfl rfl B104 rfl (oneI rfl (oneI rfl (oneI rfl (oneI rfl oneN)))) fun w118 B119 k120 => ?_
  have B121 := B112.all k120 (fun i h x => (((ap107).symm) i h x))
  have B122 := B113.all k120 (fun i h x => (((ap108).symm) i h x))
  have B123 := B114.all k120 (fun i h x => (((ap109).symm) i h x))
  have B124 := B115.all k120 (fun i h x => (((ap110).symm) i h x))
  have B125 := B116.all k120 (fun x => (((ap111).symm) p60 rfl x))
  have K126 := K117.trans k120 (Grew.ok (S := fun _ => False) gr106 noB_le)
  refine wl_v (.int .i64 (odE ((opB (8) (16) (300) (1000))))) rfl rfl (y_asg rfl rfl ⟨rfl, rfl⟩) ?_
  refine wl_nil fun F127 hF128 => ?_
  have s129 : F127 99 = undef := (hF128 99).trans s85
  have s130 : F127 1 = v4 := (hF128 1).trans s86
  have s131 : F127 2 = .int .i64 (seqE (8) (16) (300) (1000)) := (hF128 2).trans s87
  have s132 : F127 3 = v27 := (hF128 3).trans s88
  have s133 : F127 4 = .int .i64 (headE (1) (5) (2) (700)) := (hF128 4).trans s89
  have s134 : F127 5 = .pointer (some ⟨p60, 0, none⟩) := (hF128 5).trans s90
  have s135 : F127 6 = v46 := (hF128 6).trans s91
  have s136 : F127 7 = .int .i64 (rdE ((wrB (1) (5) (2) (700) ([9])))) := (hF128 7).trans s92
  have s137 : F127 8 = .pointer (some ⟨p101, 0, none⟩) := (hF128 8).trans rfl
  have s138 : F127 9 = .int .i64 (odE ((opB (8) (16) (300) (1000)))) := (hF128 9).trans rfl
  clear hF128
  refine then_normal ?_
  refine wq_seq ?_
  refine wq_region ?_
  refine wl_call (R := fun v_ w_ => ∃ (v139 : Value) (T142 : Nat → Prop), .tuple #[.agg #[.int .i64 (rdH t0 ([])), .int .i64 (rdH t1 ([])), .int .i64 (rdH t2 ([])), .int .i64 (rdH t3 ([]))], v139, .int .i64 (rdE ([]))] = v_ ∧ Kept (fun _ => False) w118 w_ ∧ (Owb w_ T142 v139 ((rdP ([]))) ∧ Grew w118 noB T142)) rfl rfl (y_cs rfl rfl rfl (fun _ _ => by kernel_rfl) (ev_func _) (vsC rfl vsN) (hd_read (.slice none 0 0) ([]) (noB) _ (by decide) (Byt.nil _) ) (fun e_ w_ h_ => by obtain ⟨v139_, T142_, he_, hr_⟩ := h_; exact ⟨_, he_, v139_, T142_, rfl, hr_⟩)) ?_
  rintro _ w140 ⟨v139, T142, rfl, k141, ⟨B143, g144⟩⟩
  have B145 := B121.all k141 Apart.none
  have B146 := B122.all k141 Apart.none
  have B147 := B123.all k141 Apart.none
  have B148 := B124.all k141 Apart.none
  have B149 := B125.all k141 id
  have B150 := B119.all k141 id
  have K151 := K126.trans k141 (fun _ _ x => x.elim)
  have gr152 : Grew w0 noB (T142) := Grew.new K126 g144
  have ap153 : Apart (T142) (T7) := Apart.new g144 (B121).live
  have ap154 : Apart (T142) (T22) := Apart.new g144 (B122).live
  have ap155 : Apart (T142) (T30) := Apart.new g144 (B123).live
  have ap156 : Apart (T142) (T49) := Apart.new g144 (B124).live
  have ap157 : Apart (T142) (onB p60) := Apart.new g144 (onB_live (B125).lt)
  have ap158 : Apart (T142) (onB p101) := Apart.new g144 (onB_live (B119).lt)
  refine wl_v (.tuple #[.agg #[.int .i64 (rdH t0 ([])), .int .i64 (rdH t1 ([])), .int .i64 (rdH t2 ([])), .int .i64 (rdH t3 ([]))], v139, .int .i64 (rdE ([]))]) rfl rfl (y_mov rfl rfl ⟨rfl, rfl⟩) ?_
  refine wl_v (.agg #[.int .i64 (rdH t0 ([])), .int .i64 (rdH t1 ([])), .int .i64 (rdH t2 ([])), .int .i64 (rdH t3 ([]))]) rfl rfl (y_ext rfl rfl rfl ⟨rfl, rfl⟩) ?_
  refine wl_v (v139) rfl rfl (y_ext rfl rfl rfl ⟨rfl, rfl⟩) ?_
  refine wl_v (.int .i64 (rdE ([]))) rfl rfl (y_ext rfl rfl rfl ⟨rfl, rfl⟩) ?_
  refine wl_alloc_stc (n := 4) (vs := [.int .i64 (0), .int .i64 (0), .int .i64 (0), .int .i64 (0)]) rfl rfl rfl (by kernel_rfl) fun p159 w160 B162 g163 k161 => ?_
  have gr164 : Grew w0 noB (onB p159) := Grew.new K151 g163
  have ap165 : Apart (onB p159) (T7) := Apart.new g163 (B145).live
  have ap166 : Apart (onB p159) (T22) := Apart.new g163 (B146).live
  have ap167 : Apart (onB p159) (T30) := Apart.new g163 (B147).live
  have ap168 : Apart (onB p159) (T49) := Apart.new g163 (B148).live
  have ap169 : Apart (onB p159) (onB p60) := Apart.new g163 (onB_live (B149).lt)
  have ap170 : Apart (onB p159) (onB p101) := Apart.new g163 (onB_live (B150).lt)
  have ap171 : Apart (onB p159) (T142) := Apart.new g163 (B143).live
  have B172 := B145.all k161 Apart.none
  have B173 := B146.all k161 Apart.none
  have B174 := B147.all k161 Apart.none
  have B175 := B148.all k161 Apart.none
  have B176 := B149.all k161 id
  have B177 := B150.all k161 id
  have B178 := B143.all k161 Apart.none
  have K179 := K151.trans k161 (fun _ _ x => x.elim)
  refine wl_store_stc (us := [.int .i64 (rdH t0 ([])), .int .i64 (rdH t1 ([])), .int .i64 (rdH t2 ([])), .int .i64 (rdH t3 ([]))]) stcT_head rfl rfl rfl rfl rfl B162 rfl (oneI rfl (oneI rfl (oneI rfl (oneI rfl oneN)))) fun w180 B181 k182 => ?_
  have B183 := B172.all k182 (fun i h x => (((ap165).symm) i h x))
  have B184 := B173.all k182 (fun i h x => (((ap166).symm) i h x))
  have B185 := B174.all k182 (fun i h x => (((ap167).symm) i h x))
  have B186 := B175.all k182 (fun i h x => (((ap168).symm) i h x))
  have B187 := B176.all k182 (fun x => (((ap169).symm) p60 rfl x))
  have B188 := B177.all k182 (fun x => (((ap170).symm) p101 rfl x))
  have B189 := B178.all k182 (fun i h x => (((ap171).symm) i h x))
  have K190 := K179.trans k182 (Grew.ok (S := fun _ => False) gr164 noB_le)
  refine wl_v (v139) rfl rfl (y_asg rfl rfl ⟨rfl, rfl⟩) ?_
  refine wl_v (.int .i64 (rdE ([]))) rfl rfl (y_asg rfl rfl ⟨rfl, rfl⟩) ?_
  refine wl_nil fun F191 hF192 => ?_
  have s193 : F191 99 = undef := (hF192 99).trans s129
  have s194 : F191 1 = v4 := (hF192 1).trans s130
  have s195 : F191 2 = .int .i64 (seqE (8) (16) (300) (1000)) := (hF192 2).trans s131
  have s196 : F191 3 = v27 := (hF192 3).trans s132
  have s197 : F191 4 = .int .i64 (headE (1) (5) (2) (700)) := (hF192 4).trans s133
  have s198 : F191 5 = .pointer (some ⟨p60, 0, none⟩) := (hF192 5).trans s134
  have s199 : F191 6 = v46 := (hF192 6).trans s135
  have s200 : F191 7 = .int .i64 (rdE ((wrB (1) (5) (2) (700) ([9])))) := (hF192 7).trans s136
  have s201 : F191 8 = .pointer (some ⟨p101, 0, none⟩) := (hF192 8).trans s137
  have s202 : F191 9 = .int .i64 (odE ((opB (8) (16) (300) (1000)))) := (hF192 9).trans s138
  have s203 : F191 12 = .int .i64 (rdE ([])) := (hF192 12).trans rfl
  clear hF192
  refine then_normal ?_
  refine wq_seq ?_
  refine wq_region ?_
  refine wl_v (v4) rfl rfl (y_mov rfl s194 ⟨rfl, rfl⟩) ?_
  refine wl_v (.string (textOf ((opB (8) (16) (300) (1000))))) rfl rfl (y_text rfl (bytes_at rfl (B183).byt) ⟨rfl, rfl⟩) ?_
  refine wl_builtBn (xs := [.const (.int .u8 (8)), .const (.int .u8 (16)), .const (.int .u8 (0)), .const (.int .u8 (0)), .const (.int .u8 (1)), .const (.int .u8 (44)), .const (.int .u8 (0)), .const (.int .u8 (0)), .const (.int .u8 (3)), .const (.int .u8 (232))]) (vs := [.int .u8 (8), .int .u8 (16), .int .u8 (0), .int .u8 (0), .int .u8 (1), .int .u8 (44), .int .u8 (0), .int .u8 (0), .int .u8 (3), .int .u8 (232)]) (l := [8, 16, 0, 0, 1, 44, 0, 0, 3, 232]) rfl rfl rfl rfl rfl (vsC rfl (vsC rfl (vsC rfl (vsC rfl (vsC rfl (vsC rfl (vsC rfl (vsC rfl (vsC rfl (vsC rfl vsN)))))))))) rfl (Nat.le_of_ble_eq_true rfl) (Nat.le_of_ble_eq_true rfl) (by first | decide | (simp only [List.forall_mem_cons]; simp; omega)) fun v204 w205 T209 B207 g208 k206 => ?_
  have gr210 : Grew w0 noB (T209) := Grew.new K190 g208
  have ap211 : Apart (T209) (T7) := Apart.new g208 (B183).live
  have ap212 : Apart (T209) (T22) := Apart.new g208 (B184).live
  have ap213 : Apart (T209) (T30) := Apart.new g208 (B185).live
  have ap214 : Apart (T209) (T49) := Apart.new g208 (B186).live
  have ap215 : Apart (T209) (onB p60) := Apart.new g208 (onB_live (B187).lt)
  have ap216 : Apart (T209) (onB p101) := Apart.new g208 (onB_live (B188).lt)
  have ap217 : Apart (T209) (T142) := Apart.new g208 (B189).live
  have ap218 : Apart (T209) (onB p159) := Apart.new g208 (onB_live (B181).lt)
  have B219 := B183.all k206 Apart.none
  have B220 := B184.all k206 Apart.none
  have B221 := B185.all k206 Apart.none
  have B222 := B186.all k206 Apart.none
  have B223 := B187.all k206 id
  have B224 := B188.all k206 id
  have B225 := B189.all k206 Apart.none
  have B226 := B181.all k206 id
  have K227 := K190.trans k206 (fun _ _ x => x.elim)
  refine wl_v (.string (textOf ([8, 16, 0, 0, 1, 44, 0, 0, 3, 232]))) rfl rfl (y_text rfl (bytes_at rfl (B207).byt) ⟨rfl, rfl⟩) ?_
  refine wl_v (.bool true) rfl rfl (y_eqlS rfl rfl rfl (text_same hf.out.1) ⟨rfl, rfl⟩) ?_
  refine wl_v (.bool true) rfl rfl (y_mov rfl rfl ⟨rfl, rfl⟩) ?_
  refine wl_vw (.int .i64 (seqE (8) (16) (300) (1000))) 5 true 45 rfl rfl rfl rfl rfl (y_mov rfl s195 ⟨rfl, rfl⟩) ?_
  refine wl_vw (.bool true) 5 true 45 rfl rfl rfl rfl rfl (y_eqlI rfl rfl rfl (decide_eq_true hf.out.2.1) ⟨rfl, rfl⟩) ?_
  refine wl_v (.bool true) rfl rfl (y_pickT rfl rfl rfl ⟨rfl, rfl⟩) ?_
  refine wl_v (.bool true) rfl rfl (y_mov rfl rfl ⟨rfl, rfl⟩) ?_
  refine wl_vw (v27) 9 true 49 rfl rfl rfl rfl rfl (y_mov rfl s196 ⟨rfl, rfl⟩) ?_
  refine wl_vw (.string (textOf ((wrB (1) (5) (2) (700) ([9]))))) 9 true 49 rfl rfl rfl rfl rfl (y_text rfl (bytes_at rfl (B221).byt) ⟨rfl, rfl⟩) ?_
  refine wl_when 9 true 49 rfl rfl rfl rfl rfl (y_builtBn (xs := [.const (.int .u8 (1)), .const (.int .u8 (5)), .const (.int .u8 (0)), .const (.int .u8 (0)), .const (.int .u8 (0)), .const (.int .u8 (2)), .const (.int .u8 (0)), .const (.int .u8 (0)), .const (.int .u8 (2)), .const (.int .u8 (188)), .const (.int .u8 (9))]) (vs := [.int .u8 (1), .int .u8 (5), .int .u8 (0), .int .u8 (0), .int .u8 (0), .int .u8 (2), .int .u8 (0), .int .u8 (0), .int .u8 (2), .int .u8 (188), .int .u8 (9)]) (l := [1, 5, 0, 0, 0, 2, 0, 0, 2, 188, 9]) rfl rfl rfl (vsC rfl (vsC rfl (vsC rfl (vsC rfl (vsC rfl (vsC rfl (vsC rfl (vsC rfl (vsC rfl (vsC rfl (vsC rfl vsN))))))))))) rfl (Nat.le_of_ble_eq_true rfl) (Nat.le_of_ble_eq_true rfl) (by first | decide | (simp only [List.forall_mem_cons]; simp; omega)) fun v228 w229 T233 B231 g232 k230 => ?_)
  have gr234 : Grew w0 noB (T233) := Grew.new K227 g232
  have ap235 : Apart (T233) (T7) := Apart.new g232 (B219).live
  have ap236 : Apart (T233) (T22) := Apart.new g232 (B220).live
  have ap237 : Apart (T233) (T30) := Apart.new g232 (B221).live
  have ap238 : Apart (T233) (T49) := Apart.new g232 (B222).live
  have ap239 : Apart (T233) (onB p60) := Apart.new g232 (onB_live (B223).lt)
  have ap240 : Apart (T233) (onB p101) := Apart.new g232 (onB_live (B224).lt)
  have ap241 : Apart (T233) (T142) := Apart.new g232 (B225).live
  have ap242 : Apart (T233) (onB p159) := Apart.new g232 (onB_live (B226).lt)
  have ap243 : Apart (T233) (T209) := Apart.new g232 (B207).live
  have B244 := B219.all k230 Apart.none
  have B245 := B220.all k230 Apart.none
  have B246 := B221.all k230 Apart.none
  have B247 := B222.all k230 Apart.none
  have B248 := B223.all k230 id
  have B249 := B224.all k230 id
  have B250 := B225.all k230 Apart.none
  have B251 := B226.all k230 id
  have B252 := B207.all k230 Apart.none
  have K253 := K227.trans k230 (fun _ _ x => x.elim)
  refine wl_vw (.string (textOf ([1, 5, 0, 0, 0, 2, 0, 0, 2, 188, 9]))) 9 true 49 rfl rfl rfl rfl rfl (y_text rfl (bytes_at rfl (B231).byt) ⟨rfl, rfl⟩) ?_
  refine wl_vw (.bool true) 9 true 49 rfl rfl rfl rfl rfl (y_eqlS rfl rfl rfl (text_same hf.out.2.2.1) ⟨rfl, rfl⟩) ?_
  refine wl_v (.bool true) rfl rfl (y_pickT rfl rfl rfl ⟨rfl, rfl⟩) ?_
  refine wl_v (.bool true) rfl rfl (y_mov rfl rfl ⟨rfl, rfl⟩) ?_
  refine wl_vw (.int .i64 (headE (1) (5) (2) (700))) 16 true 56 rfl rfl rfl rfl rfl (y_mov rfl s197 ⟨rfl, rfl⟩) ?_
  refine wl_vw (.bool true) 16 true 56 rfl rfl rfl rfl rfl (y_eqlI rfl rfl rfl (decide_eq_true hf.out.2.2.2.1) ⟨rfl, rfl⟩) ?_
  refine wl_v (.bool true) rfl rfl (y_pickT rfl rfl rfl ⟨rfl, rfl⟩) ?_
  refine wl_v (.bool true) rfl rfl (y_mov rfl rfl ⟨rfl, rfl⟩) ?_
  refine wl_vw (.agg #[.int .i64 (rdH t0 ((wrB (1) (5) (2) (700) ([9])))), .int .i64 (rdH t1 ((wrB (1) (5) (2) (700) ([9])))), .int .i64 (rdH t2 ((wrB (1) (5) (2) (700) ([9])))), .int .i64 (rdH t3 ((wrB (1) (5) (2) (700) ([9]))))]) 20 true 60 rfl rfl rfl rfl rfl (y_load_stc stcT_head rfl s198 B248 ⟨rfl, rfl⟩) ?_
  refine wl_vw (.agg #[.int .i64 (1), .int .i64 (5), .int .i64 (2), .int .i64 (700)]) 20 true 60 rfl rfl rfl rfl rfl (y_buildL (l' := [(0, .int .i64 (1)), (1, .int .i64 (5)), (2, .int .i64 (2)), (3, .int .i64 (700))]) (cells := #[.int .i64 (1), .int .i64 (5), .int .i64 (2), .int .i64 (700)]) rfl (bpC rfl (bpC rfl (bpC rfl (bpC rfl bpN)))) (by kernel_rfl) rfl ⟨rfl, rfl⟩) ?_
  refine wl_vw (.bool true) 20 true 60 rfl rfl rfl rfl rfl (y_eqlSI (xs := [rdH t0 ((wrB (1) (5) (2) (700) ([9]))), rdH t1 ((wrB (1) (5) (2) (700) ([9]))), rdH t2 ((wrB (1) (5) (2) (700) ([9]))), rdH t3 ((wrB (1) (5) (2) (700) ([9])))]) (ys := [1, 5, 2, 700]) structI_head rfl rfl rfl rfl rfl (sameI_of (by rw [hw.out.2.1, hw.out.2.2.1, hw.out.2.2.2.1, hw.out.2.2.2.2.1])) ⟨rfl, rfl⟩) ?_
  refine wl_v (.bool true) rfl rfl (y_pickT rfl rfl rfl ⟨rfl, rfl⟩) ?_
  refine wl_v (.bool true) rfl rfl (y_mov rfl rfl ⟨rfl, rfl⟩) ?_
  refine wl_vw (v46) 25 true 65 rfl rfl rfl rfl rfl (y_mov rfl s199 ⟨rfl, rfl⟩) ?_
  refine wl_vw (.string (textOf ((rdP ((wrB (1) (5) (2) (700) ([9]))))))) 25 true 65 rfl rfl rfl rfl rfl (y_text rfl (bytes_at rfl (B247).byt) ⟨rfl, rfl⟩) ?_
  refine wl_when 25 true 65 rfl rfl rfl rfl rfl (y_builtBn (xs := [.const (.int .u8 (9))]) (vs := [.int .u8 (9)]) (l := [9]) rfl rfl rfl (vsC rfl vsN) rfl (Nat.le_of_ble_eq_true rfl) (Nat.le_of_ble_eq_true rfl) (by first | decide | (simp only [List.forall_mem_cons]; simp; omega)) fun v254 w255 T259 B257 g258 k256 => ?_)
  have gr260 : Grew w0 noB (T259) := Grew.new K253 g258
  have ap261 : Apart (T259) (T7) := Apart.new g258 (B244).live
  have ap262 : Apart (T259) (T22) := Apart.new g258 (B245).live
  have ap263 : Apart (T259) (T30) := Apart.new g258 (B246).live
  have ap264 : Apart (T259) (T49) := Apart.new g258 (B247).live
  have ap265 : Apart (T259) (onB p60) := Apart.new g258 (onB_live (B248).lt)
  have ap266 : Apart (T259) (onB p101) := Apart.new g258 (onB_live (B249).lt)
  have ap267 : Apart (T259) (T142) := Apart.new g258 (B250).live
  have ap268 : Apart (T259) (onB p159) := Apart.new g258 (onB_live (B251).lt)
  have ap269 : Apart (T259) (T209) := Apart.new g258 (B252).live
  have ap270 : Apart (T259) (T233) := Apart.new g258 (B231).live
  have B271 := B244.all k256 Apart.none
  have B272 := B245.all k256 Apart.none
  have B273 := B246.all k256 Apart.none
  have B274 := B247.all k256 Apart.none
  have B275 := B248.all k256 id
  have B276 := B249.all k256 id
  have B277 := B250.all k256 Apart.none
  have B278 := B251.all k256 id
  have B279 := B252.all k256 Apart.none
  have B280 := B231.all k256 Apart.none
  have K281 := K253.trans k256 (fun _ _ x => x.elim)
  refine wl_vw (.string (textOf ([9]))) 25 true 65 rfl rfl rfl rfl rfl (y_text rfl (bytes_at rfl (B257).byt) ⟨rfl, rfl⟩) ?_
  refine wl_vw (.bool true) 25 true 65 rfl rfl rfl rfl rfl (y_eqlS rfl rfl rfl (text_same hw.out.2.2.2.2.2.1) ⟨rfl, rfl⟩) ?_
  refine wl_v (.bool true) rfl rfl (y_pickT rfl rfl rfl ⟨rfl, rfl⟩) ?_
  refine wl_v (.bool true) rfl rfl (y_mov rfl rfl ⟨rfl, rfl⟩) ?_
  refine wl_vw (.int .i64 (rdE ((wrB (1) (5) (2) (700) ([9]))))) 32 true 72 rfl rfl rfl rfl rfl (y_mov rfl s200 ⟨rfl, rfl⟩) ?_
  refine wl_vw (.bool true) 32 true 72 rfl rfl rfl rfl rfl (y_eqlI rfl rfl rfl (decide_eq_true hw.out.2.2.2.2.2.2) ⟨rfl, rfl⟩) ?_
  refine wl_v (.bool true) rfl rfl (y_pickT rfl rfl rfl ⟨rfl, rfl⟩) ?_
  refine wl_v (.bool true) rfl rfl (y_mov rfl rfl ⟨rfl, rfl⟩) ?_
  refine wl_vw (.agg #[.int .i64 (od t0 ((opB (8) (16) (300) (1000)))), .int .i64 (od t1 ((opB (8) (16) (300) (1000)))), .int .i64 (od t2 ((opB (8) (16) (300) (1000)))), .int .i64 (od t3 ((opB (8) (16) (300) (1000))))]) 36 true 76 rfl rfl rfl rfl rfl (y_load_stc stcT_seq rfl s201 B276 ⟨rfl, rfl⟩) ?_
  refine wl_vw (.agg #[.int .i64 (8), .int .i64 (16), .int .i64 (300), .int .i64 (1000)]) 36 true 76 rfl rfl rfl rfl rfl (y_buildL (l' := [(0, .int .i64 (8)), (1, .int .i64 (16)), (2, .int .i64 (300)), (3, .int .i64 (1000))]) (cells := #[.int .i64 (8), .int .i64 (16), .int .i64 (300), .int .i64 (1000)]) rfl (bpC rfl (bpC rfl (bpC rfl (bpC rfl bpN)))) (by kernel_rfl) rfl ⟨rfl, rfl⟩) ?_
  refine wl_vw (.bool true) 36 true 76 rfl rfl rfl rfl rfl (y_eqlSI (xs := [od t0 ((opB (8) (16) (300) (1000))), od t1 ((opB (8) (16) (300) (1000))), od t2 ((opB (8) (16) (300) (1000))), od t3 ((opB (8) (16) (300) (1000)))]) (ys := [8, 16, 300, 1000]) structI_seq rfl rfl rfl rfl rfl (sameI_of (by rw [ho.out.2.1, ho.out.2.2.1, ho.out.2.2.2.1, ho.out.2.2.2.2.1])) ⟨rfl, rfl⟩) ?_
  refine wl_v (.bool true) rfl rfl (y_pickT rfl rfl rfl ⟨rfl, rfl⟩) ?_
  refine wl_v (.bool true) rfl rfl (y_mov rfl rfl ⟨rfl, rfl⟩) ?_
  refine wl_vw (.int .i64 (odE ((opB (8) (16) (300) (1000))))) 41 true 81 rfl rfl rfl rfl rfl (y_mov rfl s202 ⟨rfl, rfl⟩) ?_
  refine wl_vw (.bool true) 41 true 81 rfl rfl rfl rfl rfl (y_eqlI rfl rfl rfl (decide_eq_true ho.out.2.2.2.2.2) ⟨rfl, rfl⟩) ?_
  refine wl_v (.bool true) rfl rfl (y_pickT rfl rfl rfl ⟨rfl, rfl⟩) ?_
  refine wl_v (.bool true) rfl rfl (y_mov rfl rfl ⟨rfl, rfl⟩) ?_
  refine wl_vw (.int .i64 (rdE ([]))) 45 true 85 rfl rfl rfl rfl rfl (y_mov rfl s203 ⟨rfl, rfl⟩) ?_
  refine wl_vw (.bool true) 45 true 85 rfl rfl rfl rfl rfl (y_eqlI rfl rfl rfl (decide_eq_true hf.out.2.2.2.2.1) ⟨rfl, rfl⟩) ?_
  refine wl_v (.bool true) rfl rfl (y_pickT rfl rfl rfl ⟨rfl, rfl⟩) ?_
  refine wl_v (.bool true) rfl rfl (y_mov rfl rfl ⟨rfl, rfl⟩) ?_
  refine wl_vw (.agg #[.int .i64 (3), .int .i64 (0), .int .i64 (0), .int .i64 (0)]) 49 true 89 rfl rfl rfl rfl rfl (y_buildL (l' := [(0, .int .i64 (3))]) (cells := #[.int .i64 (3), .int .i64 (0), .int .i64 (0), .int .i64 (0)]) rfl (bpC rfl bpN) (by kernel_rfl) rfl ⟨rfl, rfl⟩) ?_
  refine wl_callw (R := fun v_ w_ => v_ = .int .i64 (headE (3) (0) (0) (0)) ∧ Kept (fun _ => False) w255 w_) 49 true 89 rfl rfl rfl rfl rfl (y_cs rfl rfl rfl (fun _ _ => by kernel_rfl) (ev_func _) (vsC rfl vsN) (hd_head (3) (0) (0) (0)  _   ) (fun e_ w_ h_ => ⟨_, h_.1, rfl, h_.2⟩)) ?_
  rintro _ w282 ⟨rfl, k283⟩
  have B284 := B271.all k283 Apart.none
  have B285 := B272.all k283 Apart.none
  have B286 := B273.all k283 Apart.none
  have B287 := B274.all k283 Apart.none
  have B288 := B275.all k283 id
  have B289 := B276.all k283 id
  have B290 := B277.all k283 Apart.none
  have B291 := B278.all k283 id
  have B292 := B279.all k283 Apart.none
  have B293 := B280.all k283 Apart.none
  have B294 := B257.all k283 Apart.none
  have K295 := K281.trans k283 (fun _ _ x => x.elim)
  refine wl_vw (.bool true) 49 true 89 rfl rfl rfl rfl rfl (y_eqlI rfl rfl rfl (decide_eq_true hf.out.2.2.2.2.2) ⟨rfl, rfl⟩) ?_
  refine wl_v (.bool true) rfl rfl (y_pickT rfl rfl rfl ⟨rfl, rfl⟩) ?_
  refine wl_v (.bool true) rfl rfl (y_mov rfl rfl ⟨rfl, rfl⟩) ?_
  refine wl_vw (.agg #[.int .i64 (od t0 ((opB (8) (16) (300) (1000)))), .int .i64 (od t1 ((opB (8) (16) (300) (1000)))), .int .i64 (od t2 ((opB (8) (16) (300) (1000)))), .int .i64 (od t3 ((opB (8) (16) (300) (1000))))]) 54 true 94 rfl rfl rfl rfl rfl (y_load_stc stcT_seq rfl s201 B289 ⟨rfl, rfl⟩) ?_
  refine wl_callw (R := fun v_ w_ => v_ = .int .i64 (seqE (od t0 ((opB (8) (16) (300) (1000)))) (od t1 ((opB (8) (16) (300) (1000)))) (od t2 ((opB (8) (16) (300) (1000)))) (od t3 ((opB (8) (16) (300) (1000))))) ∧ Kept (fun _ => False) w282 w_) 54 true 94 rfl rfl rfl rfl rfl (y_cs rfl rfl rfl (fun _ _ => by kernel_rfl) (ev_func _) (vsC rfl vsN) (hd_seq (od t0 ((opB (8) (16) (300) (1000)))) (od t1 ((opB (8) (16) (300) (1000)))) (od t2 ((opB (8) (16) (300) (1000)))) (od t3 ((opB (8) (16) (300) (1000))))  _   ) (fun e_ w_ h_ => ⟨_, h_.1, rfl, h_.2⟩)) ?_
  rintro _ w296 ⟨rfl, k297⟩
  have B298 := B284.all k297 Apart.none
  have B299 := B285.all k297 Apart.none
  have B300 := B286.all k297 Apart.none
  have B301 := B287.all k297 Apart.none
  have B302 := B288.all k297 id
  have B303 := B289.all k297 id
  have B304 := B290.all k297 Apart.none
  have B305 := B291.all k297 id
  have B306 := B292.all k297 Apart.none
  have B307 := B293.all k297 Apart.none
  have B308 := B294.all k297 Apart.none
  have K309 := K295.trans k297 (fun _ _ x => x.elim)
  refine wl_vw (.bool true) 54 true 94 rfl rfl rfl rfl rfl (y_eqlI rfl rfl rfl (decide_eq_true (by rw [ho.out.2.1, ho.out.2.2.1, ho.out.2.2.2.1, ho.out.2.2.2.2.1]; exact hf.out.2.1)) ⟨rfl, rfl⟩) ?_
  refine wl_v (.bool true) rfl rfl (y_pickT rfl rfl rfl ⟨rfl, rfl⟩) ?_
  refine wl_v (.bool true) rfl rfl (y_asg rfl rfl ⟨rfl, rfl⟩) ?_
  refine wl_nil fun F310 hF311 => ?_
  have s312 : F310 99 = undef := (hF311 99).trans s193
  have s313 : F310 0 = .bool true := (hF311 0).trans rfl
  clear hF311
  refine then_normal ?_
  refine wq_ret ?_
  exact end_tmp (v := .bool true) s312 rfl rfl s313 ⟨rfl, K309⟩

set_option maxHeartbeats 4000000 in
set_option maxRecDepth 100000 in
theorem htells_walk (W H R B K Q D F : Int) (v : Value) (l : List Nat) (T_b : Nat → Prop) (w0 : World) (h_b : Byt w0 T_b v (l)) :
    Calls Try.prog 4 #[.agg #[.int .i64 (W), .int .i64 (H), .int .i64 (R), .int .i64 (B)], .agg #[.int .i64 (K), .int .i64 (Q), .int .i64 (D), .int .i64 (F)], v] w0 fun e w' => e = .returned (.bool true) ∧ Kept (fun _ => False) w0 w' := by
  refine calls_wq (args := [.agg #[.int .i64 (W), .int .i64 (H), .int .i64 (R), .int .i64 (B)], .agg #[.int .i64 (K), .int .i64 (Q), .int .i64 (D), .int .i64 (F)], v]) 143 Try.func4 rfl rfl (Nat.le_of_ble_eq_true rfl) ?_
  have K0 := Kept.refl (fun _ => False) w0
  have g_b := Grew.refl w0 T_b
  refine wq_seq ?_
  refine wq_region ?_
  refine wl_box_stc (vs := [.int .i64 (W), .int .i64 (H), .int .i64 (R), .int .i64 (B)]) rfl rfl rfl rfl fun p1 w2 B4 g5 k3 => ?_
  have gr6 : Grew w0 noB (onB p1) := Grew.new K0 g5
  have ap7 : Apart (onB p1) (T_b) := Apart.new g5 (h_b).live
  have B8 := h_b.all k3 Apart.none
  have K9 := K0.trans k3 (fun _ _ x => x.elim)
  refine wl_box_stc (vs := [.int .i64 (K), .int .i64 (Q), .int .i64 (D), .int .i64 (F)]) rfl rfl rfl rfl fun p10 w11 B13 g14 k12 => ?_
  have gr15 : Grew w0 noB (onB p10) := Grew.new K9 g14
  have ap16 : Apart (onB p10) (T_b) := Apart.new g14 (B8).live
  have ap17 : Apart (onB p10) (onB p1) := Apart.new g14 (onB_live (B4).lt)
  have B18 := B8.all k12 Apart.none
  have B19 := B4.all k12 id
  have K20 := K9.trans k12 (fun _ _ x => x.elim)
  refine wl_v (.bool false) rfl rfl (y_asg rfl rfl ⟨rfl, rfl⟩) ?_
  refine wl_nil fun F21 hF22 => ?_
  have s23 : F21 2 = v := (hF22 2).trans rfl
  have s24 : F21 143 = undef := (hF22 143).trans rfl
  have s25 : F21 3 = .pointer (some ⟨p1, 0, none⟩) := (hF22 3).trans rfl
  have s26 : F21 4 = .pointer (some ⟨p10, 0, none⟩) := (hF22 4).trans rfl
  clear hF22
  refine then_normal ?_
  refine wq_seq ?_
  refine wq_region ?_
  refine wl_call (R := fun v_ w_ => v_ = .bool true ∧ Kept (fun _ => False) w11 w_) rfl rfl (y_cs rfl rfl rfl (fun _ _ => by kernel_rfl) (ev_func _) vsN (hawake_any   _   ) (fun e_ w_ h_ => ⟨_, h_.1, rfl, h_.2⟩)) ?_
  rintro _ w27 ⟨rfl, k28⟩
  have B29 := B18.all k28 Apart.none
  have B30 := B19.all k28 id
  have B31 := B13.all k28 id
  have K32 := K20.trans k28 (fun _ _ x => x.elim)
  refine wl_v (.bool true) rfl rfl (y_asg rfl rfl ⟨rfl, rfl⟩) ?_
  refine wl_nil fun F33 hF34 => ?_
  have s35 : F33 2 = v := (hF34 2).trans s23
  have s36 : F33 143 = undef := (hF34 143).trans s24
  have s37 : F33 3 = .pointer (some ⟨p1, 0, none⟩) := (hF34 3).trans s25
  have s38 : F33 4 = .pointer (some ⟨p10, 0, none⟩) := (hF34 4).trans s26
  have s39 : F33 7 = .bool true := (hF34 7).trans rfl
  clear hF34
  refine then_normal ?_
  refine wq_seq ?_
  refine wq_seq ?_
  refine wq_region ?_
  refine wl_v (v) rfl rfl (y_mov rfl s35 ⟨rfl, rfl⟩) ?_
  refine wl_v (.int .i64 ((((l).length : Nat) : Int))) rfl rfl (y_lenV rfl rfl rfl B29 ⟨rfl, rfl⟩) ?_
  refine wl_v (.bool (decide ((500) < ((((l).length : Nat) : Int))))) rfl rfl (y_gtr rfl rfl rfl rfl ⟨rfl, rfl⟩) ?_
  refine wl_nil fun F40 hF41 => ?_
  have s42 : F40 2 = v := (hF41 2).trans s35
  have s43 : F40 143 = undef := (hF41 143).trans s36
  have s44 : F40 3 = .pointer (some ⟨p1, 0, none⟩) := (hF41 3).trans s37
  have s45 : F40 4 = .pointer (some ⟨p10, 0, none⟩) := (hF41 4).trans s38
  have s46 : F40 7 = .bool true := (hF41 7).trans s39
  have s47 : F40 30 = .bool (decide ((500) < ((((l).length : Nat) : Int)))) := (hF41 30).trans rfl
  clear hF41
  refine then_normal ?_
  refine wq_cond s47 (fun c48 => ?_) (fun c48 => ?_)
  · replace c48 := of_decide_eq_true c48
    refine wq_seq ?_
    refine wq_region ?_
    refine wl_v (.bool true) rfl rfl (y_mov rfl s46 ⟨rfl, rfl⟩) ?_
    refine wl_v (.bool true) rfl rfl (y_asg rfl rfl ⟨rfl, rfl⟩) ?_
    refine wl_nil fun F49 hF50 => ?_
    have s51 : F49 143 = undef := (hF50 143).trans s43
    have s52 : F49 6 = .bool true := (hF50 6).trans rfl
    clear hF50
    refine then_normal ?_
    refine wq_ret ?_
    refine then_ret ?_
    exact end_tmp (v := .bool true) s51 rfl rfl s52 ⟨rfl, K32⟩
  · replace c48 := of_decide_eq_false c48
    refine wq_skip ?_
    refine then_normal ?_
    refine wq_seq ?_
    refine wq_region ?_
    refine wl_v (.agg #[.int .i64 (W), .int .i64 (H), .int .i64 (R), .int .i64 (B)]) rfl rfl (y_load_stc stcT_seq rfl s44 B30 ⟨rfl, rfl⟩) ?_
    refine wl_call (R := fun v_ w_ => ∃ (v53 : Value) (T56 : Nat → Prop), .tuple #[v53, .int .i64 (seqE (W) (H) (R) (B))] = v_ ∧ Kept (fun _ => False) w27 w_ ∧ (Owb w_ T56 v53 ((opB (W) (H) (R) (B))) ∧ Grew w27 noB T56)) rfl rfl (y_cs rfl rfl rfl (fun _ _ => by kernel_rfl) (ev_func _) (vsC rfl vsN) (hd_open (W) (H) (R) (B)  _   ) (fun e_ w_ h_ => by obtain ⟨v53_, T56_, he_, hr_⟩ := h_; exact ⟨_, he_, v53_, T56_, rfl, hr_⟩)) ?_
    rintro _ w54 ⟨v53, T56, rfl, k55, ⟨B57, g58⟩⟩
    have B59 := B29.all k55 Apart.none
    have B60 := B30.all k55 id
    have B61 := B31.all k55 id
    have K62 := K32.trans k55 (fun _ _ x => x.elim)
    have gr63 : Grew w0 noB (T56) := Grew.new K32 g58
    have ap64 : Apart (T56) (T_b) := Apart.new g58 (B29).live
    have ap65 : Apart (T56) (onB p1) := Apart.new g58 (onB_live (B30).lt)
    have ap66 : Apart (T56) (onB p10) := Apart.new g58 (onB_live (B31).lt)
    refine wl_v (.tuple #[v53, .int .i64 (seqE (W) (H) (R) (B))]) rfl rfl (y_mov rfl rfl ⟨rfl, rfl⟩) ?_
    refine wl_v (v53) rfl rfl (y_ext rfl rfl rfl ⟨rfl, rfl⟩) ?_
    refine wl_v (.int .i64 (seqE (W) (H) (R) (B))) rfl rfl (y_ext rfl rfl rfl ⟨rfl, rfl⟩) ?_
    refine wl_v (v53) rfl rfl (y_asg rfl rfl ⟨rfl, rfl⟩) ?_
    refine wl_v (.int .i64 (seqE (W) (H) (R) (B))) rfl rfl (y_asg rfl rfl ⟨rfl, rfl⟩) ?_
    refine wl_nil fun F67 hF68 => ?_
    have s69 : F67 2 = v := (hF68 2).trans s42
    have s70 : F67 143 = undef := (hF68 143).trans s43
    have s71 : F67 3 = .pointer (some ⟨p1, 0, none⟩) := (hF68 3).trans s44
    have s72 : F67 4 = .pointer (some ⟨p10, 0, none⟩) := (hF68 4).trans s45
    have s73 : F67 7 = .bool true := (hF68 7).trans s46
    have s74 : F67 8 = v53 := (hF68 8).trans rfl
    have s75 : F67 9 = .int .i64 (seqE (W) (H) (R) (B)) := (hF68 9).trans rfl
    clear hF68
    refine then_normal ?_
    refine wq_seq ?_
    refine wq_region ?_
    refine wl_v (.agg #[.int .i64 (W), .int .i64 (H), .int .i64 (R), .int .i64 (B)]) rfl rfl (y_load_stc stcT_seq rfl s71 B60 ⟨rfl, rfl⟩) ?_
    refine wl_call (R := fun v_ w_ => ∃ (v76 : Value) (T79 : Nat → Prop), .tuple #[v76, .int .i64 (seqE (W) (H) (R) (B))] = v_ ∧ Kept (fun _ => False) w54 w_ ∧ (Owb w_ T79 v76 ((opB (W) (H) (R) (B))) ∧ Grew w54 noB T79)) rfl rfl (y_cs rfl rfl rfl (fun _ _ => by kernel_rfl) (ev_func _) (vsC rfl vsN) (href_open (W) (H) (R) (B)  _   ) (fun e_ w_ h_ => by obtain ⟨v76_, T79_, he_, hr_⟩ := h_; exact ⟨_, he_, v76_, T79_, rfl, hr_⟩)) ?_
    rintro _ w77 ⟨v76, T79, rfl, k78, ⟨B80, g81⟩⟩
    have B82 := B59.all k78 Apart.none
    have B83 := B60.all k78 id
    have B84 := B61.all k78 id
    have B85 := B57.all k78 Apart.none
    have K86 := K62.trans k78 (fun _ _ x => x.elim)
    have gr87 : Grew w0 noB (T79) := Grew.new K62 g81
    have ap88 : Apart (T79) (T_b) := Apart.new g81 (B59).live
    have ap89 : Apart (T79) (onB p1) := Apart.new g81 (onB_live (B60).lt)
    have ap90 : Apart (T79) (onB p10) := Apart.new g81 (onB_live (B61).lt)
    have ap91 : Apart (T79) (T56) := Apart.new g81 (B57).live
    refine wl_v (.tuple #[v76, .int .i64 (seqE (W) (H) (R) (B))]) rfl rfl (y_mov rfl rfl ⟨rfl, rfl⟩) ?_
    refine wl_v (v76) rfl rfl (y_ext rfl rfl rfl ⟨rfl, rfl⟩) ?_
    refine wl_v (.int .i64 (seqE (W) (H) (R) (B))) rfl rfl (y_ext rfl rfl rfl ⟨rfl, rfl⟩) ?_
    refine wl_v (v76) rfl rfl (y_asg rfl rfl ⟨rfl, rfl⟩) ?_
    refine wl_v (.int .i64 (seqE (W) (H) (R) (B))) rfl rfl (y_asg rfl rfl ⟨rfl, rfl⟩) ?_
    refine wl_nil fun F92 hF93 => ?_
    have s94 : F92 2 = v := (hF93 2).trans s69
    have s95 : F92 143 = undef := (hF93 143).trans s70
    have s96 : F92 3 = .pointer (some ⟨p1, 0, none⟩) := (hF93 3).trans s71
    have s97 : F92 4 = .pointer (some ⟨p10, 0, none⟩) := (hF93 4).trans s72
    have s98 : F92 7 = .bool true := (hF93 7).trans s73
    have s99 : F92 8 = v53 := (hF93 8).trans s74
    have s100 : F92 9 = .int .i64 (seqE (W) (H) (R) (B)) := (hF93 9).trans s75
    have s101 : F92 10 = v76 := (hF93 10).trans rfl
    have s102 : F92 11 = .int .i64 (seqE (W) (H) (R) (B)) := (hF93 11).trans rfl
    clear hF93
    refine then_normal ?_
    refine wq_seq ?_
    refine wq_region ?_
    refine wl_v (.agg #[.int .i64 (K), .int .i64 (Q), .int .i64 (D), .int .i64 (F)]) rfl rfl (y_load_stc stcT_head rfl s97 B84 ⟨rfl, rfl⟩) ?_
    refine wl_v (v) rfl rfl (y_mov rfl s94 ⟨rfl, rfl⟩) ?_
    refine wl_call (R := fun v_ w_ => ∃ (v103 : Value) (T106 : Nat → Prop), .tuple #[v103, .int .i64 (headE (K) (Q) (D) (F))] = v_ ∧ Kept (fun _ => False) w77 w_ ∧ (Owb w_ T106 v103 ((wrB (K) (Q) (D) (F) (l))) ∧ Grew w77 noB T106)) rfl rfl (y_cs rfl rfl rfl (fun _ _ => by kernel_rfl) (ev_func _) (vsC rfl (vsC rfl vsN)) (hd_write (K) (Q) (D) (F) (v) (l) (T_b) _ (by omega) B82 ) (fun e_ w_ h_ => by obtain ⟨v103_, T106_, he_, hr_⟩ := h_; exact ⟨_, he_, v103_, T106_, rfl, hr_⟩)) ?_
    rintro _ w104 ⟨v103, T106, rfl, k105, ⟨B107, g108⟩⟩
    have B109 := B82.all k105 Apart.none
    have B110 := B83.all k105 id
    have B111 := B84.all k105 id
    have B112 := B85.all k105 Apart.none
    have B113 := B80.all k105 Apart.none
    have K114 := K86.trans k105 (fun _ _ x => x.elim)
    have gr115 : Grew w0 noB (T106) := Grew.new K86 g108
    have ap116 : Apart (T106) (T_b) := Apart.new g108 (B82).live
    have ap117 : Apart (T106) (onB p1) := Apart.new g108 (onB_live (B83).lt)
    have ap118 : Apart (T106) (onB p10) := Apart.new g108 (onB_live (B84).lt)
    have ap119 : Apart (T106) (T56) := Apart.new g108 (B85).live
    have ap120 : Apart (T106) (T79) := Apart.new g108 (B80).live
    refine wl_v (.tuple #[v103, .int .i64 (headE (K) (Q) (D) (F))]) rfl rfl (y_mov rfl rfl ⟨rfl, rfl⟩) ?_
    refine wl_v (v103) rfl rfl (y_ext rfl rfl rfl ⟨rfl, rfl⟩) ?_
    refine wl_v (.int .i64 (headE (K) (Q) (D) (F))) rfl rfl (y_ext rfl rfl rfl ⟨rfl, rfl⟩) ?_
    refine wl_v (v103) rfl rfl (y_asg rfl rfl ⟨rfl, rfl⟩) ?_
    refine wl_v (.int .i64 (headE (K) (Q) (D) (F))) rfl rfl (y_asg rfl rfl ⟨rfl, rfl⟩) ?_
    refine wl_nil fun F121 hF122 => ?_
    have s123 : F121 2 = v := (hF122 2).trans s94
    have s124 : F121 143 = undef := (hF122 143).trans s95
    have s125 : F121 3 = .pointer (some ⟨p1, 0, none⟩) := (hF122 3).trans s96
    have s126 : F121 4 = .pointer (some ⟨p10, 0, none⟩) := (hF122 4).trans s97
    have s127 : F121 7 = .bool true := (hF122 7).trans s98
    have s128 : F121 8 = v53 := (hF122 8).trans s99
    have s129 : F121 9 = .int .i64 (seqE (W) (H) (R) (B)) := (hF122 9).trans s100
    have s130 : F121 10 = v76 := (hF122 10).trans s101
    have s131 : F121 11 = .int .i64 (seqE (W) (H) (R) (B)) := (hF122 11).trans s102
    have s132 : F121 12 = v103 := (hF122 12).trans rfl
    have s133 : F121 13 = .int .i64 (headE (K) (Q) (D) (F)) := (hF122 13).trans rfl
    clear hF122
    refine then_normal ?_
    refine wq_seq ?_
    refine wq_region ?_
    refine wl_v (.agg #[.int .i64 (K), .int .i64 (Q), .int .i64 (D), .int .i64 (F)]) rfl rfl (y_load_stc stcT_head rfl s126 B111 ⟨rfl, rfl⟩) ?_
    refine wl_v (v) rfl rfl (y_mov rfl s123 ⟨rfl, rfl⟩) ?_
    refine wl_call (R := fun v_ w_ => ∃ (v134 : Value) (T137 : Nat → Prop), .tuple #[v134, .int .i64 (headE (K) (Q) (D) (F))] = v_ ∧ Kept (fun _ => False) w104 w_ ∧ (Owb w_ T137 v134 ((wrB (K) (Q) (D) (F) (l))) ∧ Grew w104 noB T137)) rfl rfl (y_cs rfl rfl rfl (fun _ _ => by kernel_rfl) (ev_func _) (vsC rfl (vsC rfl vsN)) (href_write (K) (Q) (D) (F) (v) (l) (T_b) _ (by omega) B109 ) (fun e_ w_ h_ => by obtain ⟨v134_, T137_, he_, hr_⟩ := h_; exact ⟨_, he_, v134_, T137_, rfl, hr_⟩)) ?_
    rintro _ w135 ⟨v134, T137, rfl, k136, ⟨B138, g139⟩⟩
    have B140 := B109.all k136 Apart.none
    have B141 := B110.all k136 id
    have B142 := B111.all k136 id
    have B143 := B112.all k136 Apart.none
    have B144 := B113.all k136 Apart.none
    have B145 := B107.all k136 Apart.none
    have K146 := K114.trans k136 (fun _ _ x => x.elim)
    have gr147 : Grew w0 noB (T137) := Grew.new K114 g139
    have ap148 : Apart (T137) (T_b) := Apart.new g139 (B109).live
    have ap149 : Apart (T137) (onB p1) := Apart.new g139 (onB_live (B110).lt)
    have ap150 : Apart (T137) (onB p10) := Apart.new g139 (onB_live (B111).lt)
    have ap151 : Apart (T137) (T56) := Apart.new g139 (B112).live
    have ap152 : Apart (T137) (T79) := Apart.new g139 (B113).live
    have ap153 : Apart (T137) (T106) := Apart.new g139 (B107).live
    refine wl_v (.tuple #[v134, .int .i64 (headE (K) (Q) (D) (F))]) rfl rfl (y_mov rfl rfl ⟨rfl, rfl⟩) ?_
    refine wl_v (v134) rfl rfl (y_ext rfl rfl rfl ⟨rfl, rfl⟩) ?_
    refine wl_v (.int .i64 (headE (K) (Q) (D) (F))) rfl rfl (y_ext rfl rfl rfl ⟨rfl, rfl⟩) ?_
    refine wl_v (v134) rfl rfl (y_asg rfl rfl ⟨rfl, rfl⟩) ?_
    refine wl_v (.int .i64 (headE (K) (Q) (D) (F))) rfl rfl (y_asg rfl rfl ⟨rfl, rfl⟩) ?_
    refine wl_nil fun F154 hF155 => ?_
    have s156 : F154 2 = v := (hF155 2).trans s123
    have s157 : F154 143 = undef := (hF155 143).trans s124
    have s158 : F154 3 = .pointer (some ⟨p1, 0, none⟩) := (hF155 3).trans s125
    have s159 : F154 4 = .pointer (some ⟨p10, 0, none⟩) := (hF155 4).trans s126
    have s160 : F154 7 = .bool true := (hF155 7).trans s127
    have s161 : F154 8 = v53 := (hF155 8).trans s128
    have s162 : F154 9 = .int .i64 (seqE (W) (H) (R) (B)) := (hF155 9).trans s129
    have s163 : F154 10 = v76 := (hF155 10).trans s130
    have s164 : F154 11 = .int .i64 (seqE (W) (H) (R) (B)) := (hF155 11).trans s131
    have s165 : F154 12 = v103 := (hF155 12).trans s132
    have s166 : F154 13 = .int .i64 (headE (K) (Q) (D) (F)) := (hF155 13).trans s133
    have s167 : F154 14 = v134 := (hF155 14).trans rfl
    have s168 : F154 15 = .int .i64 (headE (K) (Q) (D) (F)) := (hF155 15).trans rfl
    clear hF155
    refine then_normal ?_
    refine wq_seq ?_
    refine wq_region ?_
    refine wl_v (v53) rfl rfl (y_mov rfl s161 ⟨rfl, rfl⟩) ?_
    refine wl_v (.string (textOf ((opB (W) (H) (R) (B))))) rfl rfl (y_text rfl (bytes_at rfl (B143).byt) ⟨rfl, rfl⟩) ?_
    refine wl_v (v76) rfl rfl (y_mov rfl s163 ⟨rfl, rfl⟩) ?_
    refine wl_v (.string (textOf ((opB (W) (H) (R) (B))))) rfl rfl (y_text rfl (bytes_at rfl (B144).byt) ⟨rfl, rfl⟩) ?_
    refine wl_v (.bool true) rfl rfl (y_eqlS rfl rfl rfl (beq_self_eq_true _) ⟨rfl, rfl⟩) ?_
    refine wl_v (.bool true) rfl rfl (y_mov rfl rfl ⟨rfl, rfl⟩) ?_
    refine wl_vw (.int .i64 (seqE (W) (H) (R) (B))) 5 true 59 rfl rfl rfl rfl rfl (y_mov rfl s162 ⟨rfl, rfl⟩) ?_
    refine wl_vw (.int .i64 (seqE (W) (H) (R) (B))) 5 true 59 rfl rfl rfl rfl rfl (y_mov rfl s164 ⟨rfl, rfl⟩) ?_
    refine wl_vw (.bool true) 5 true 59 rfl rfl rfl rfl rfl (y_eqlI rfl rfl rfl (decide_eq_true rfl) ⟨rfl, rfl⟩) ?_
    refine wl_v (.bool true) rfl rfl (y_pickT rfl rfl rfl ⟨rfl, rfl⟩) ?_
    refine wl_v (.bool true) rfl rfl (y_mov rfl rfl ⟨rfl, rfl⟩) ?_
    refine wl_vw (v103) 10 true 64 rfl rfl rfl rfl rfl (y_mov rfl s165 ⟨rfl, rfl⟩) ?_
    refine wl_vw (.string (textOf ((wrB (K) (Q) (D) (F) (l))))) 10 true 64 rfl rfl rfl rfl rfl (y_text rfl (bytes_at rfl (B145).byt) ⟨rfl, rfl⟩) ?_
    refine wl_vw (v134) 10 true 64 rfl rfl rfl rfl rfl (y_mov rfl s167 ⟨rfl, rfl⟩) ?_
    refine wl_vw (.string (textOf ((wrB (K) (Q) (D) (F) (l))))) 10 true 64 rfl rfl rfl rfl rfl (y_text rfl (bytes_at rfl (B138).byt) ⟨rfl, rfl⟩) ?_
    refine wl_vw (.bool true) 10 true 64 rfl rfl rfl rfl rfl (y_eqlS rfl rfl rfl (beq_self_eq_true _) ⟨rfl, rfl⟩) ?_
    refine wl_v (.bool true) rfl rfl (y_pickT rfl rfl rfl ⟨rfl, rfl⟩) ?_
    refine wl_v (.bool true) rfl rfl (y_mov rfl rfl ⟨rfl, rfl⟩) ?_
    refine wl_vw (.int .i64 (headE (K) (Q) (D) (F))) 17 true 71 rfl rfl rfl rfl rfl (y_mov rfl s166 ⟨rfl, rfl⟩) ?_
    refine wl_vw (.int .i64 (headE (K) (Q) (D) (F))) 17 true 71 rfl rfl rfl rfl rfl (y_mov rfl s168 ⟨rfl, rfl⟩) ?_
    refine wl_vw (.bool true) 17 true 71 rfl rfl rfl rfl rfl (y_eqlI rfl rfl rfl (decide_eq_true rfl) ⟨rfl, rfl⟩) ?_
    refine wl_v (.bool true) rfl rfl (y_pickT rfl rfl rfl ⟨rfl, rfl⟩) ?_
    refine wl_v (.bool true) rfl rfl (y_asg rfl rfl ⟨rfl, rfl⟩) ?_
    refine wl_nil fun F169 hF170 => ?_
    have s171 : F169 2 = v := (hF170 2).trans s156
    have s172 : F169 143 = undef := (hF170 143).trans s157
    have s173 : F169 3 = .pointer (some ⟨p1, 0, none⟩) := (hF170 3).trans s158
    have s174 : F169 4 = .pointer (some ⟨p10, 0, none⟩) := (hF170 4).trans s159
    have s175 : F169 7 = .bool true := (hF170 7).trans s160
    have s176 : F169 16 = .bool true := (hF170 16).trans rfl
    clear hF170
    refine then_normal ?_
    refine wq_seq ?_
    refine wq_region ?_
    refine wl_v (v) rfl rfl (y_mov rfl s171 ⟨rfl, rfl⟩) ?_
    refine wl_call (R := fun v_ w_ => v_ = .tuple #[.agg #[.int .i64 (od t0 (l)), .int .i64 (od t1 (l)), .int .i64 (od t2 (l)), .int .i64 (od t3 (l))], .int .i64 (odE (l))] ∧ Kept (fun _ => False) w135 w_) rfl rfl (y_cs rfl rfl rfl (fun _ _ => by kernel_rfl) (ev_func _) (vsC rfl vsN) (hd_opened (v) (l) (T_b) _  B140 ) (fun e_ w_ h_ => ⟨_, h_.1, rfl, h_.2⟩)) ?_
    rintro _ w177 ⟨rfl, k178⟩
    have B179 := B140.all k178 Apart.none
    have B180 := B141.all k178 id
    have B181 := B142.all k178 id
    have B182 := B143.all k178 Apart.none
    have B183 := B144.all k178 Apart.none
    have B184 := B145.all k178 Apart.none
    have B185 := B138.all k178 Apart.none
    have K186 := K146.trans k178 (fun _ _ x => x.elim)
    refine wl_v (.tuple #[.agg #[.int .i64 (od t0 (l)), .int .i64 (od t1 (l)), .int .i64 (od t2 (l)), .int .i64 (od t3 (l))], .int .i64 (odE (l))]) rfl rfl (y_mov rfl rfl ⟨rfl, rfl⟩) ?_
    refine wl_v (.agg #[.int .i64 (od t0 (l)), .int .i64 (od t1 (l)), .int .i64 (od t2 (l)), .int .i64 (od t3 (l))]) rfl rfl (y_ext rfl rfl rfl ⟨rfl, rfl⟩) ?_
    refine wl_v (.int .i64 (odE (l))) rfl rfl (y_ext rfl rfl rfl ⟨rfl, rfl⟩) ?_
    refine wl_alloc_stc (n := 4) (vs := [.int .i64 (0), .int .i64 (0), .int .i64 (0), .int .i64 (0)]) rfl rfl rfl (by kernel_rfl) fun p187 w188 B190 g191 k189 => ?_
    have gr192 : Grew w0 noB (onB p187) := Grew.new K186 g191
    have ap193 : Apart (onB p187) (T_b) := Apart.new g191 (B179).live
    have ap194 : Apart (onB p187) (onB p1) := Apart.new g191 (onB_live (B180).lt)
    have ap195 : Apart (onB p187) (onB p10) := Apart.new g191 (onB_live (B181).lt)
    have ap196 : Apart (onB p187) (T56) := Apart.new g191 (B182).live
    have ap197 : Apart (onB p187) (T79) := Apart.new g191 (B183).live
    have ap198 : Apart (onB p187) (T106) := Apart.new g191 (B184).live
    have ap199 : Apart (onB p187) (T137) := Apart.new g191 (B185).live
    have B200 := B179.all k189 Apart.none
    have B201 := B180.all k189 id
    have B202 := B181.all k189 id
    have B203 := B182.all k189 Apart.none
    have B204 := B183.all k189 Apart.none
    have B205 := B184.all k189 Apart.none
    have B206 := B185.all k189 Apart.none
    have K207 := K186.trans k189 (fun _ _ x => x.elim)
    refine wl_store_stc (us := [.int .i64 (od t0 (l)), .int .i64 (od t1 (l)), .int .i64 (od t2 (l)), .int .i64 (od t3 (l))]) stcT_seq rfl rfl rfl rfl rfl B190 rfl (oneI rfl (oneI rfl (oneI rfl (oneI rfl oneN)))) fun w208 B209 k210 => ?_
    have B211 := B200.all k210 (fun i h x => (((ap193).symm) i h x))
    have B212 := B201.all k210 (fun x => (((ap194).symm) p1 rfl x))
    have B213 := B202.all k210 (fun x => (((ap195).symm) p10 rfl x))
    have B214 := B203.all k210 (fun i h x => (((ap196).symm) i h x))
    have B215 := B204.all k210 (fun i h x => (((ap197).symm) i h x))
    have B216 := B205.all k210 (fun i h x => (((ap198).symm) i h x))
    have B217 := B206.all k210 (fun i h x => (((ap199).symm) i h x))
    have K218 := K207.trans k210 (Grew.ok (S := fun _ => False) gr192 noB_le)
    refine wl_v (.int .i64 (odE (l))) rfl rfl (y_asg rfl rfl ⟨rfl, rfl⟩) ?_
    refine wl_nil fun F219 hF220 => ?_
    have s221 : F219 2 = v := (hF220 2).trans s171
    have s222 : F219 143 = undef := (hF220 143).trans s172
    have s223 : F219 3 = .pointer (some ⟨p1, 0, none⟩) := (hF220 3).trans s173
    have s224 : F219 4 = .pointer (some ⟨p10, 0, none⟩) := (hF220 4).trans s174
    have s225 : F219 7 = .bool true := (hF220 7).trans s175
    have s226 : F219 16 = .bool true := (hF220 16).trans s176
    have s227 : F219 17 = .pointer (some ⟨p187, 0, none⟩) := (hF220 17).trans rfl
    have s228 : F219 18 = .int .i64 (odE (l)) := (hF220 18).trans rfl
    clear hF220
    refine then_normal ?_
    refine wq_seq ?_
    refine wq_region ?_
    refine wl_v (v) rfl rfl (y_mov rfl s221 ⟨rfl, rfl⟩) ?_
    refine wl_call (R := fun v_ w_ => v_ = .tuple #[.agg #[.int .i64 (od t0 (l)), .int .i64 (od t1 (l)), .int .i64 (od t2 (l)), .int .i64 (od t3 (l))], .int .i64 (odE (l))] ∧ Kept (fun _ => False) w208 w_) rfl rfl (y_cs rfl rfl rfl (fun _ _ => by kernel_rfl) (ev_func _) (vsC rfl vsN) (href_opened (v) (l) (T_b) _  B211 ) (fun e_ w_ h_ => ⟨_, h_.1, rfl, h_.2⟩)) ?_
    rintro _ w229 ⟨rfl, k230⟩
    have B231 := B211.all k230 Apart.none
    have B232 := B212.all k230 id
    have B233 := B213.all k230 id
    have B234 := B214.all k230 Apart.none
    have B235 := B215.all k230 Apart.none
    have B236 := B216.all k230 Apart.none
    have B237 := B217.all k230 Apart.none
    have B238 := B209.all k230 id
    have K239 := K218.trans k230 (fun _ _ x => x.elim)
    refine wl_v (.tuple #[.agg #[.int .i64 (od t0 (l)), .int .i64 (od t1 (l)), .int .i64 (od t2 (l)), .int .i64 (od t3 (l))], .int .i64 (odE (l))]) rfl rfl (y_mov rfl rfl ⟨rfl, rfl⟩) ?_
    refine wl_v (.agg #[.int .i64 (od t0 (l)), .int .i64 (od t1 (l)), .int .i64 (od t2 (l)), .int .i64 (od t3 (l))]) rfl rfl (y_ext rfl rfl rfl ⟨rfl, rfl⟩) ?_
    refine wl_v (.int .i64 (odE (l))) rfl rfl (y_ext rfl rfl rfl ⟨rfl, rfl⟩) ?_
    refine wl_alloc_stc (n := 4) (vs := [.int .i64 (0), .int .i64 (0), .int .i64 (0), .int .i64 (0)]) rfl rfl rfl (by kernel_rfl) fun p240 w241 B243 g244 k242 => ?_
    have gr245 : Grew w0 noB (onB p240) := Grew.new K239 g244
    have ap246 : Apart (onB p240) (T_b) := Apart.new g244 (B231).live
    have ap247 : Apart (onB p240) (onB p1) := Apart.new g244 (onB_live (B232).lt)
    have ap248 : Apart (onB p240) (onB p10) := Apart.new g244 (onB_live (B233).lt)
    have ap249 : Apart (onB p240) (T56) := Apart.new g244 (B234).live
    have ap250 : Apart (onB p240) (T79) := Apart.new g244 (B235).live
    have ap251 : Apart (onB p240) (T106) := Apart.new g244 (B236).live
    have ap252 : Apart (onB p240) (T137) := Apart.new g244 (B237).live
    have ap253 : Apart (onB p240) (onB p187) := Apart.new g244 (onB_live (B238).lt)
    have B254 := B231.all k242 Apart.none
    have B255 := B232.all k242 id
    have B256 := B233.all k242 id
    have B257 := B234.all k242 Apart.none
    have B258 := B235.all k242 Apart.none
    have B259 := B236.all k242 Apart.none
    have B260 := B237.all k242 Apart.none
    have B261 := B238.all k242 id
    have K262 := K239.trans k242 (fun _ _ x => x.elim)
    refine wl_store_stc (us := [.int .i64 (od t0 (l)), .int .i64 (od t1 (l)), .int .i64 (od t2 (l)), .int .i64 (od t3 (l))]) stcT_seq rfl rfl rfl rfl rfl B243 rfl (oneI rfl (oneI rfl (oneI rfl (oneI rfl oneN)))) fun w263 B264 k265 => ?_
    have B266 := B254.all k265 (fun i h x => (((ap246).symm) i h x))
    have B267 := B255.all k265 (fun x => (((ap247).symm) p1 rfl x))
    have B268 := B256.all k265 (fun x => (((ap248).symm) p10 rfl x))
    have B269 := B257.all k265 (fun i h x => (((ap249).symm) i h x))
    have B270 := B258.all k265 (fun i h x => (((ap250).symm) i h x))
    have B271 := B259.all k265 (fun i h x => (((ap251).symm) i h x))
    have B272 := B260.all k265 (fun i h x => (((ap252).symm) i h x))
    have B273 := B261.all k265 (fun x => (((ap253).symm) p187 rfl x))
    have K274 := K262.trans k265 (Grew.ok (S := fun _ => False) gr245 noB_le)
    refine wl_v (.int .i64 (odE (l))) rfl rfl (y_asg rfl rfl ⟨rfl, rfl⟩) ?_
    refine wl_nil fun F275 hF276 => ?_
    have s277 : F275 2 = v := (hF276 2).trans s221
    have s278 : F275 143 = undef := (hF276 143).trans s222
    have s279 : F275 3 = .pointer (some ⟨p1, 0, none⟩) := (hF276 3).trans s223
    have s280 : F275 4 = .pointer (some ⟨p10, 0, none⟩) := (hF276 4).trans s224
    have s281 : F275 7 = .bool true := (hF276 7).trans s225
    have s282 : F275 16 = .bool true := (hF276 16).trans s226
    have s283 : F275 17 = .pointer (some ⟨p187, 0, none⟩) := (hF276 17).trans s227
    have s284 : F275 18 = .int .i64 (odE (l)) := (hF276 18).trans s228
    have s285 : F275 19 = .pointer (some ⟨p240, 0, none⟩) := (hF276 19).trans rfl
    have s286 : F275 20 = .int .i64 (odE (l)) := (hF276 20).trans rfl
    clear hF276
    refine then_normal ?_
    refine wq_seq ?_
    refine wq_region ?_
    refine wl_v (v) rfl rfl (y_mov rfl s277 ⟨rfl, rfl⟩) ?_
    refine wl_call (R := fun v_ w_ => ∃ (v287 : Value) (T290 : Nat → Prop), .tuple #[.agg #[.int .i64 (rdH t0 (l)), .int .i64 (rdH t1 (l)), .int .i64 (rdH t2 (l)), .int .i64 (rdH t3 (l))], v287, .int .i64 (rdE (l))] = v_ ∧ Kept (fun _ => False) w263 w_ ∧ (Owb w_ T290 v287 ((rdP (l))) ∧ Grew w263 noB T290)) rfl rfl (y_cs rfl rfl rfl (fun _ _ => by kernel_rfl) (ev_func _) (vsC rfl vsN) (hd_read (v) (l) (T_b) _ (by omega) B266 ) (fun e_ w_ h_ => by obtain ⟨v287_, T290_, he_, hr_⟩ := h_; exact ⟨_, he_, v287_, T290_, rfl, hr_⟩)) ?_
    rintro _ w288 ⟨v287, T290, rfl, k289, ⟨B291, g292⟩⟩
    have B293 := B266.all k289 Apart.none
    have B294 := B267.all k289 id
    have B295 := B268.all k289 id
    have B296 := B269.all k289 Apart.none
    have B297 := B270.all k289 Apart.none
    have B298 := B271.all k289 Apart.none
    have B299 := B272.all k289 Apart.none
    have B300 := B273.all k289 id
    have B301 := B264.all k289 id
    have K302 := K274.trans k289 (fun _ _ x => x.elim)
    have gr303 : Grew w0 noB (T290) := Grew.new K274 g292
    have ap304 : Apart (T290) (T_b) := Apart.new g292 (B266).live
    have ap305 : Apart (T290) (onB p1) := Apart.new g292 (onB_live (B267).lt)
    have ap306 : Apart (T290) (onB p10) := Apart.new g292 (onB_live (B268).lt)
    have ap307 : Apart (T290) (T56) := Apart.new g292 (B269).live
    have ap308 : Apart (T290) (T79) := Apart.new g292 (B270).live
    have ap309 : Apart (T290) (T106) := Apart.new g292 (B271).live
    have ap310 : Apart (T290) (T137) := Apart.new g292 (B272).live
    have ap311 : Apart (T290) (onB p187) := Apart.new g292 (onB_live (B273).lt)
    have ap312 : Apart (T290) (onB p240) := Apart.new g292 (onB_live (B264).lt)
    refine wl_v (.tuple #[.agg #[.int .i64 (rdH t0 (l)), .int .i64 (rdH t1 (l)), .int .i64 (rdH t2 (l)), .int .i64 (rdH t3 (l))], v287, .int .i64 (rdE (l))]) rfl rfl (y_mov rfl rfl ⟨rfl, rfl⟩) ?_
    refine wl_v (.agg #[.int .i64 (rdH t0 (l)), .int .i64 (rdH t1 (l)), .int .i64 (rdH t2 (l)), .int .i64 (rdH t3 (l))]) rfl rfl (y_ext rfl rfl rfl ⟨rfl, rfl⟩) ?_
    refine wl_v (v287) rfl rfl (y_ext rfl rfl rfl ⟨rfl, rfl⟩) ?_
    refine wl_v (.int .i64 (rdE (l))) rfl rfl (y_ext rfl rfl rfl ⟨rfl, rfl⟩) ?_
    refine wl_alloc_stc (n := 4) (vs := [.int .i64 (0), .int .i64 (0), .int .i64 (0), .int .i64 (0)]) rfl rfl rfl (by kernel_rfl) fun p313 w314 B316 g317 k315 => ?_
    have gr318 : Grew w0 noB (onB p313) := Grew.new K302 g317
    have ap319 : Apart (onB p313) (T_b) := Apart.new g317 (B293).live
    have ap320 : Apart (onB p313) (onB p1) := Apart.new g317 (onB_live (B294).lt)
    have ap321 : Apart (onB p313) (onB p10) := Apart.new g317 (onB_live (B295).lt)
    have ap322 : Apart (onB p313) (T56) := Apart.new g317 (B296).live
    have ap323 : Apart (onB p313) (T79) := Apart.new g317 (B297).live
    have ap324 : Apart (onB p313) (T106) := Apart.new g317 (B298).live
    have ap325 : Apart (onB p313) (T137) := Apart.new g317 (B299).live
    have ap326 : Apart (onB p313) (onB p187) := Apart.new g317 (onB_live (B300).lt)
    have ap327 : Apart (onB p313) (onB p240) := Apart.new g317 (onB_live (B301).lt)
    have ap328 : Apart (onB p313) (T290) := Apart.new g317 (B291).live
    have B329 := B293.all k315 Apart.none
    have B330 := B294.all k315 id
    have B331 := B295.all k315 id
    have B332 := B296.all k315 Apart.none
    have B333 := B297.all k315 Apart.none
    have B334 := B298.all k315 Apart.none
    have B335 := B299.all k315 Apart.none
    have B336 := B300.all k315 id
    have B337 := B301.all k315 id
    have B338 := B291.all k315 Apart.none
    have K339 := K302.trans k315 (fun _ _ x => x.elim)
    refine wl_store_stc (us := [.int .i64 (rdH t0 (l)), .int .i64 (rdH t1 (l)), .int .i64 (rdH t2 (l)), .int .i64 (rdH t3 (l))]) stcT_head rfl rfl rfl rfl rfl B316 rfl (oneI rfl (oneI rfl (oneI rfl (oneI rfl oneN)))) fun w340 B341 k342 => ?_
    have B343 := B329.all k342 (fun i h x => (((ap319).symm) i h x))
    have B344 := B330.all k342 (fun x => (((ap320).symm) p1 rfl x))
    have B345 := B331.all k342 (fun x => (((ap321).symm) p10 rfl x))
    have B346 := B332.all k342 (fun i h x => (((ap322).symm) i h x))
    have B347 := B333.all k342 (fun i h x => (((ap323).symm) i h x))
    have B348 := B334.all k342 (fun i h x => (((ap324).symm) i h x))
    have B349 := B335.all k342 (fun i h x => (((ap325).symm) i h x))
    have B350 := B336.all k342 (fun x => (((ap326).symm) p187 rfl x))
    have B351 := B337.all k342 (fun x => (((ap327).symm) p240 rfl x))
    have B352 := B338.all k342 (fun i h x => (((ap328).symm) i h x))
    have K353 := K339.trans k342 (Grew.ok (S := fun _ => False) gr318 noB_le)
    refine wl_v (v287) rfl rfl (y_asg rfl rfl ⟨rfl, rfl⟩) ?_
    refine wl_v (.int .i64 (rdE (l))) rfl rfl (y_asg rfl rfl ⟨rfl, rfl⟩) ?_
    refine wl_nil fun F354 hF355 => ?_
    have s356 : F354 2 = v := (hF355 2).trans s277
    have s357 : F354 143 = undef := (hF355 143).trans s278
    have s358 : F354 3 = .pointer (some ⟨p1, 0, none⟩) := (hF355 3).trans s279
    have s359 : F354 4 = .pointer (some ⟨p10, 0, none⟩) := (hF355 4).trans s280
    have s360 : F354 7 = .bool true := (hF355 7).trans s281
    have s361 : F354 16 = .bool true := (hF355 16).trans s282
    have s362 : F354 17 = .pointer (some ⟨p187, 0, none⟩) := (hF355 17).trans s283
    have s363 : F354 18 = .int .i64 (odE (l)) := (hF355 18).trans s284
    have s364 : F354 19 = .pointer (some ⟨p240, 0, none⟩) := (hF355 19).trans s285
    have s365 : F354 20 = .int .i64 (odE (l)) := (hF355 20).trans s286
    have s366 : F354 21 = .pointer (some ⟨p313, 0, none⟩) := (hF355 21).trans rfl
    have s367 : F354 22 = v287 := (hF355 22).trans rfl
    have s368 : F354 23 = .int .i64 (rdE (l)) := (hF355 23).trans rfl
    clear hF355
    refine then_normal ?_
    refine wq_seq ?_
    refine wq_region ?_
    refine wl_v (v) rfl rfl (y_mov rfl s356 ⟨rfl, rfl⟩) ?_
    refine wl_call (R := fun v_ w_ => ∃ (v369 : Value) (T372 : Nat → Prop), .tuple #[.agg #[.int .i64 (rdH t0 (l)), .int .i64 (rdH t1 (l)), .int .i64 (rdH t2 (l)), .int .i64 (rdH t3 (l))], v369, .int .i64 (rdE (l))] = v_ ∧ Kept (fun _ => False) w340 w_ ∧ (Owb w_ T372 v369 ((rdP (l))) ∧ Grew w340 noB T372)) rfl rfl (y_cs rfl rfl rfl (fun _ _ => by kernel_rfl) (ev_func _) (vsC rfl vsN) (href_read (v) (l) (T_b) _ (by omega) B343 ) (fun e_ w_ h_ => by obtain ⟨v369_, T372_, he_, hr_⟩ := h_; exact ⟨_, he_, v369_, T372_, rfl, hr_⟩)) ?_
    rintro _ w370 ⟨v369, T372, rfl, k371, ⟨B373, g374⟩⟩
    have B375 := B343.all k371 Apart.none
    have B376 := B344.all k371 id
    have B377 := B345.all k371 id
    have B378 := B346.all k371 Apart.none
    have B379 := B347.all k371 Apart.none
    have B380 := B348.all k371 Apart.none
    have B381 := B349.all k371 Apart.none
    have B382 := B350.all k371 id
    have B383 := B351.all k371 id
    have B384 := B352.all k371 Apart.none
    have B385 := B341.all k371 id
    have K386 := K353.trans k371 (fun _ _ x => x.elim)
    have gr387 : Grew w0 noB (T372) := Grew.new K353 g374
    have ap388 : Apart (T372) (T_b) := Apart.new g374 (B343).live
    have ap389 : Apart (T372) (onB p1) := Apart.new g374 (onB_live (B344).lt)
    have ap390 : Apart (T372) (onB p10) := Apart.new g374 (onB_live (B345).lt)
    have ap391 : Apart (T372) (T56) := Apart.new g374 (B346).live
    have ap392 : Apart (T372) (T79) := Apart.new g374 (B347).live
    have ap393 : Apart (T372) (T106) := Apart.new g374 (B348).live
    have ap394 : Apart (T372) (T137) := Apart.new g374 (B349).live
    have ap395 : Apart (T372) (onB p187) := Apart.new g374 (onB_live (B350).lt)
    have ap396 : Apart (T372) (onB p240) := Apart.new g374 (onB_live (B351).lt)
    have ap397 : Apart (T372) (T290) := Apart.new g374 (B352).live
    have ap398 : Apart (T372) (onB p313) := Apart.new g374 (onB_live (B341).lt)
    refine wl_v (.tuple #[.agg #[.int .i64 (rdH t0 (l)), .int .i64 (rdH t1 (l)), .int .i64 (rdH t2 (l)), .int .i64 (rdH t3 (l))], v369, .int .i64 (rdE (l))]) rfl rfl (y_mov rfl rfl ⟨rfl, rfl⟩) ?_
    refine wl_v (.agg #[.int .i64 (rdH t0 (l)), .int .i64 (rdH t1 (l)), .int .i64 (rdH t2 (l)), .int .i64 (rdH t3 (l))]) rfl rfl (y_ext rfl rfl rfl ⟨rfl, rfl⟩) ?_
    refine wl_v (v369) rfl rfl (y_ext rfl rfl rfl ⟨rfl, rfl⟩) ?_
    refine wl_v (.int .i64 (rdE (l))) rfl rfl (y_ext rfl rfl rfl ⟨rfl, rfl⟩) ?_
    refine wl_alloc_stc (n := 4) (vs := [.int .i64 (0), .int .i64 (0), .int .i64 (0), .int .i64 (0)]) rfl rfl rfl (by kernel_rfl) fun p399 w400 B402 g403 k401 => ?_
    have gr404 : Grew w0 noB (onB p399) := Grew.new K386 g403
    have ap405 : Apart (onB p399) (T_b) := Apart.new g403 (B375).live
    have ap406 : Apart (onB p399) (onB p1) := Apart.new g403 (onB_live (B376).lt)
    have ap407 : Apart (onB p399) (onB p10) := Apart.new g403 (onB_live (B377).lt)
    have ap408 : Apart (onB p399) (T56) := Apart.new g403 (B378).live
    have ap409 : Apart (onB p399) (T79) := Apart.new g403 (B379).live
    have ap410 : Apart (onB p399) (T106) := Apart.new g403 (B380).live
    have ap411 : Apart (onB p399) (T137) := Apart.new g403 (B381).live
    have ap412 : Apart (onB p399) (onB p187) := Apart.new g403 (onB_live (B382).lt)
    have ap413 : Apart (onB p399) (onB p240) := Apart.new g403 (onB_live (B383).lt)
    have ap414 : Apart (onB p399) (T290) := Apart.new g403 (B384).live
    have ap415 : Apart (onB p399) (onB p313) := Apart.new g403 (onB_live (B385).lt)
    have ap416 : Apart (onB p399) (T372) := Apart.new g403 (B373).live
    have B417 := B375.all k401 Apart.none
    have B418 := B376.all k401 id
    have B419 := B377.all k401 id
    have B420 := B378.all k401 Apart.none
    have B421 := B379.all k401 Apart.none
    have B422 := B380.all k401 Apart.none
    have B423 := B381.all k401 Apart.none
    have B424 := B382.all k401 id
    have B425 := B383.all k401 id
    have B426 := B384.all k401 Apart.none
    have B427 := B385.all k401 id
    have B428 := B373.all k401 Apart.none
    have K429 := K386.trans k401 (fun _ _ x => x.elim)
    refine wl_store_stc (us := [.int .i64 (rdH t0 (l)), .int .i64 (rdH t1 (l)), .int .i64 (rdH t2 (l)), .int .i64 (rdH t3 (l))]) stcT_head rfl rfl rfl rfl rfl B402 rfl (oneI rfl (oneI rfl (oneI rfl (oneI rfl oneN)))) fun w430 B431 k432 => ?_
    have B433 := B417.all k432 (fun i h x => (((ap405).symm) i h x))
    have B434 := B418.all k432 (fun x => (((ap406).symm) p1 rfl x))
    have B435 := B419.all k432 (fun x => (((ap407).symm) p10 rfl x))
    have B436 := B420.all k432 (fun i h x => (((ap408).symm) i h x))
    have B437 := B421.all k432 (fun i h x => (((ap409).symm) i h x))
    have B438 := B422.all k432 (fun i h x => (((ap410).symm) i h x))
    have B439 := B423.all k432 (fun i h x => (((ap411).symm) i h x))
    have B440 := B424.all k432 (fun x => (((ap412).symm) p187 rfl x))
    have B441 := B425.all k432 (fun x => (((ap413).symm) p240 rfl x))
    have B442 := B426.all k432 (fun i h x => (((ap414).symm) i h x))
    have B443 := B427.all k432 (fun x => (((ap415).symm) p313 rfl x))
    have B444 := B428.all k432 (fun i h x => (((ap416).symm) i h x))
    have K445 := K429.trans k432 (Grew.ok (S := fun _ => False) gr404 noB_le)
    refine wl_v (v369) rfl rfl (y_asg rfl rfl ⟨rfl, rfl⟩) ?_
    refine wl_v (.int .i64 (rdE (l))) rfl rfl (y_asg rfl rfl ⟨rfl, rfl⟩) ?_
    refine wl_nil fun F446 hF447 => ?_
    have s448 : F446 143 = undef := (hF447 143).trans s357
    have s449 : F446 3 = .pointer (some ⟨p1, 0, none⟩) := (hF447 3).trans s358
    have s450 : F446 4 = .pointer (some ⟨p10, 0, none⟩) := (hF447 4).trans s359
    have s451 : F446 7 = .bool true := (hF447 7).trans s360
    have s452 : F446 16 = .bool true := (hF447 16).trans s361
    have s453 : F446 17 = .pointer (some ⟨p187, 0, none⟩) := (hF447 17).trans s362
    have s454 : F446 18 = .int .i64 (odE (l)) := (hF447 18).trans s363
    have s455 : F446 19 = .pointer (some ⟨p240, 0, none⟩) := (hF447 19).trans s364
    have s456 : F446 20 = .int .i64 (odE (l)) := (hF447 20).trans s365
    have s457 : F446 21 = .pointer (some ⟨p313, 0, none⟩) := (hF447 21).trans s366
    have s458 : F446 22 = v287 := (hF447 22).trans s367
    have s459 : F446 23 = .int .i64 (rdE (l)) := (hF447 23).trans s368
    have s460 : F446 24 = .pointer (some ⟨p399, 0, none⟩) := (hF447 24).trans rfl
    have s461 : F446 25 = v369 := (hF447 25).trans rfl
    have s462 : F446 26 = .int .i64 (rdE (l)) := (hF447 26).trans rfl
    clear hF447
    refine then_normal ?_
    refine wq_seq ?_
    refine wq_said [some 98, some 99, some 100, some 101, some 102, some 103, some 104, some 105, some 106, some 107, some 108, some 109, some 110, some 111, some 112, some 113, some 114, some 115, some 116, some 117, some 118, some 119, some 120, some 121, some 122, some 123, some 124, some 125, some 126, some 127, some 128, some 129, some 130, some 131, some 132, some 133, some 134, some 135, some 136, some 137, some 138, some 139, some 140, some 141, some 142, some 6] [Pd.eq (.bool true), Pd.eq (.bool true), Pd.eq (.bool true), Pd.eq (.bool true), Pd.eq (.bool true), Pd.eq (.agg #[.int .i64 (W), .int .i64 (H), .int .i64 (R), .int .i64 (B)]), Pd.eq (.int .i64 (seqE (W) (H) (R) (B))), Pd.eq (.agg #[.int .i64 (W), .int .i64 (H), .int .i64 (R), .int .i64 (B)]), Pd.eq (.int .i64 (seqE (W) (H) (R) (B))), Pd.eq (.bool true), Pd.eq (.bool true), Pd.eq (.bool true), Pd.eq (.agg #[.int .i64 (K), .int .i64 (Q), .int .i64 (D), .int .i64 (F)]), Pd.eq (.int .i64 (headE (K) (Q) (D) (F))), Pd.eq (.agg #[.int .i64 (K), .int .i64 (Q), .int .i64 (D), .int .i64 (F)]), Pd.eq (.int .i64 (headE (K) (Q) (D) (F))), Pd.eq (.bool true), Pd.eq (.bool true), Pd.eq (.bool true), Pd.eq (.agg #[.int .i64 (od t0 (l)), .int .i64 (od t1 (l)), .int .i64 (od t2 (l)), .int .i64 (od t3 (l))]), Pd.eq (.agg #[.int .i64 (od t0 (l)), .int .i64 (od t1 (l)), .int .i64 (od t2 (l)), .int .i64 (od t3 (l))]), Pd.eq (.bool true), Pd.eq (.bool true), Pd.eq (.bool true), Pd.eq (.int .i64 (odE (l))), Pd.eq (.int .i64 (odE (l))), Pd.eq (.bool true), Pd.eq (.bool true), Pd.eq (.bool true), Pd.eq (.agg #[.int .i64 (rdH t0 (l)), .int .i64 (rdH t1 (l)), .int .i64 (rdH t2 (l)), .int .i64 (rdH t3 (l))]), Pd.eq (.agg #[.int .i64 (rdH t0 (l)), .int .i64 (rdH t1 (l)), .int .i64 (rdH t2 (l)), .int .i64 (rdH t3 (l))]), Pd.eq (.bool true), Pd.eq (.bool true), Pd.eq (.bool true), Pd.eq (v287), Pd.eq (.string (textOf ((rdP (l))))), Pd.eq (v369), Pd.eq (.string (textOf ((rdP (l))))), Pd.eq (.bool true), Pd.eq (.bool true), Pd.eq (.bool true), Pd.eq (.int .i64 (rdE (l))), Pd.eq (.int .i64 (rdE (l))), Pd.eq (.bool true), Pd.eq (.bool true), Pd.eq (.bool true)] (by kernel_rfl) (by kernel_rfl) ?_ ?_
    · refine stepsF_cons ?_ ?_
      · refine StepF.one rfl fun F_ w_ hR hout hD => ?_
        exact (y_mov rfl ((hout 7 rfl (by decide)).trans s451) ⟨rfl, Kept.refl _ _⟩)
      refine stepsF_cons ?_ ?_
      · refine StepF.one rfl fun F_ w_ hR hout hD => ?_
        have g98 : F_ 98 = .bool true := (hD.get 0 rfl rfl rfl)
        exact (y_mov rfl g98 ⟨rfl, Kept.refl _ _⟩)
      refine stepsF_cons ?_ ?_
      · refine StepF.when 1 true 99 rfl rfl fun F_ w_ hR hout hD => ?_
        have g99 : F_ 99 = .bool true := (hD.get 0 rfl rfl rfl)
        exact ⟨g99, (y_mov rfl ((hout 16 rfl (by decide)).trans s452) ⟨rfl, Kept.refl _ _⟩)⟩
      refine stepsF_cons ?_ ?_
      · refine StepF.one rfl fun F_ w_ hR hout hD => ?_
        have g99 : F_ 99 = .bool true := (hD.get 0 rfl rfl rfl)
        have g100 : F_ 100 = .bool true := (hD.get 1 rfl rfl rfl)
        exact (y_pickT rfl g99 g100 ⟨rfl, Kept.refl _ _⟩)
      refine stepsF_cons ?_ ?_
      · refine StepF.one rfl fun F_ w_ hR hout hD => ?_
        have g101 : F_ 101 = .bool true := (hD.get 0 rfl rfl rfl)
        exact (y_mov rfl g101 ⟨rfl, Kept.refl _ _⟩)
      refine stepsF_cons ?_ ?_
      · refine StepF.when 4 true 102 rfl rfl fun F_ w_ hR hout hD => ?_
        have g102 : F_ 102 = .bool true := (hD.get 0 rfl rfl rfl)
        exact ⟨g102, (y_load_stc stcT_seq rfl ((hout 3 rfl (by decide)).trans s449) (B434.all hR id) ⟨rfl, Kept.refl _ _⟩)⟩
      refine stepsF_cons ?_ ?_
      · refine StepF.when 4 true 102 rfl rfl fun F_ w_ hR hout hD => ?_
        have g102 : F_ 102 = .bool true := (hD.get 1 rfl rfl rfl)
        have g103 : F_ 103 = .agg #[.int .i64 (W), .int .i64 (H), .int .i64 (R), .int .i64 (B)] := (hD.get 0 rfl rfl rfl)
        exact ⟨g102, (y_cs rfl rfl rfl (fun _ _ => by kernel_rfl) (ev_func _) (vsC g103 vsN) (hd_seq (W) (H) (R) (B)  _   ) (fun e_ w_ h_ => ⟨_, h_.1, rfl, h_.2⟩))⟩
      refine stepsF_cons ?_ ?_
      · refine StepF.when 4 true 102 rfl rfl fun F_ w_ hR hout hD => ?_
        have g102 : F_ 102 = .bool true := (hD.get 0 rfl rfl rfl)
        exact ⟨g102, (y_load_stc stcT_seq rfl ((hout 3 rfl (by decide)).trans s449) (B434.all hR id) ⟨rfl, Kept.refl _ _⟩)⟩
      refine stepsF_cons ?_ ?_
      · refine StepF.when 4 true 102 rfl rfl fun F_ w_ hR hout hD => ?_
        have g102 : F_ 102 = .bool true := (hD.get 2 rfl rfl rfl)
        have g105 : F_ 105 = .agg #[.int .i64 (W), .int .i64 (H), .int .i64 (R), .int .i64 (B)] := (hD.get 0 rfl rfl rfl)
        exact ⟨g102, (y_cs rfl rfl rfl (fun _ _ => by kernel_rfl) (ev_func _) (vsC g105 vsN) (href_seq (W) (H) (R) (B)  _   ) (fun e_ w_ h_ => ⟨_, h_.1, rfl, h_.2⟩))⟩
      refine stepsF_cons ?_ ?_
      · refine StepF.when 4 true 102 rfl rfl fun F_ w_ hR hout hD => ?_
        have g102 : F_ 102 = .bool true := (hD.get 2 rfl rfl rfl)
        have g104 : F_ 104 = .int .i64 (seqE (W) (H) (R) (B)) := (hD.get 0 rfl rfl rfl)
        have g106 : F_ 106 = .int .i64 (seqE (W) (H) (R) (B)) := (hD.get 1 rfl rfl rfl)
        exact ⟨g102, (y_eqlI rfl g104 g106 (decide_eq_true rfl) ⟨rfl, Kept.refl _ _⟩)⟩
      refine stepsF_cons ?_ ?_
      · refine StepF.one rfl fun F_ w_ hR hout hD => ?_
        have g102 : F_ 102 = .bool true := (hD.get 0 rfl rfl rfl)
        have g107 : F_ 107 = .bool true := (hD.get 1 rfl rfl rfl)
        exact (y_pickT rfl g102 g107 ⟨rfl, Kept.refl _ _⟩)
      refine stepsF_cons ?_ ?_
      · refine StepF.one rfl fun F_ w_ hR hout hD => ?_
        have g108 : F_ 108 = .bool true := (hD.get 0 rfl rfl rfl)
        exact (y_mov rfl g108 ⟨rfl, Kept.refl _ _⟩)
      refine stepsF_cons ?_ ?_
      · refine StepF.when 11 true 109 rfl rfl fun F_ w_ hR hout hD => ?_
        have g109 : F_ 109 = .bool true := (hD.get 0 rfl rfl rfl)
        exact ⟨g109, (y_load_stc stcT_head rfl ((hout 4 rfl (by decide)).trans s450) (B435.all hR id) ⟨rfl, Kept.refl _ _⟩)⟩
      refine stepsF_cons ?_ ?_
      · refine StepF.when 11 true 109 rfl rfl fun F_ w_ hR hout hD => ?_
        have g109 : F_ 109 = .bool true := (hD.get 1 rfl rfl rfl)
        have g110 : F_ 110 = .agg #[.int .i64 (K), .int .i64 (Q), .int .i64 (D), .int .i64 (F)] := (hD.get 0 rfl rfl rfl)
        exact ⟨g109, (y_cs rfl rfl rfl (fun _ _ => by kernel_rfl) (ev_func _) (vsC g110 vsN) (hd_head (K) (Q) (D) (F)  _   ) (fun e_ w_ h_ => ⟨_, h_.1, rfl, h_.2⟩))⟩
      refine stepsF_cons ?_ ?_
      · refine StepF.when 11 true 109 rfl rfl fun F_ w_ hR hout hD => ?_
        have g109 : F_ 109 = .bool true := (hD.get 0 rfl rfl rfl)
        exact ⟨g109, (y_load_stc stcT_head rfl ((hout 4 rfl (by decide)).trans s450) (B435.all hR id) ⟨rfl, Kept.refl _ _⟩)⟩
      refine stepsF_cons ?_ ?_
      · refine StepF.when 11 true 109 rfl rfl fun F_ w_ hR hout hD => ?_
        have g109 : F_ 109 = .bool true := (hD.get 2 rfl rfl rfl)
        have g112 : F_ 112 = .agg #[.int .i64 (K), .int .i64 (Q), .int .i64 (D), .int .i64 (F)] := (hD.get 0 rfl rfl rfl)
        exact ⟨g109, (y_cs rfl rfl rfl (fun _ _ => by kernel_rfl) (ev_func _) (vsC g112 vsN) (href_head (K) (Q) (D) (F)  _   ) (fun e_ w_ h_ => ⟨_, h_.1, rfl, h_.2⟩))⟩
      refine stepsF_cons ?_ ?_
      · refine StepF.when 11 true 109 rfl rfl fun F_ w_ hR hout hD => ?_
        have g109 : F_ 109 = .bool true := (hD.get 2 rfl rfl rfl)
        have g111 : F_ 111 = .int .i64 (headE (K) (Q) (D) (F)) := (hD.get 0 rfl rfl rfl)
        have g113 : F_ 113 = .int .i64 (headE (K) (Q) (D) (F)) := (hD.get 1 rfl rfl rfl)
        exact ⟨g109, (y_eqlI rfl g111 g113 (decide_eq_true rfl) ⟨rfl, Kept.refl _ _⟩)⟩
      refine stepsF_cons ?_ ?_
      · refine StepF.one rfl fun F_ w_ hR hout hD => ?_
        have g109 : F_ 109 = .bool true := (hD.get 0 rfl rfl rfl)
        have g114 : F_ 114 = .bool true := (hD.get 1 rfl rfl rfl)
        exact (y_pickT rfl g109 g114 ⟨rfl, Kept.refl _ _⟩)
      refine stepsF_cons ?_ ?_
      · refine StepF.one rfl fun F_ w_ hR hout hD => ?_
        have g115 : F_ 115 = .bool true := (hD.get 0 rfl rfl rfl)
        exact (y_mov rfl g115 ⟨rfl, Kept.refl _ _⟩)
      refine stepsF_cons ?_ ?_
      · refine StepF.when 18 true 116 rfl rfl fun F_ w_ hR hout hD => ?_
        have g116 : F_ 116 = .bool true := (hD.get 0 rfl rfl rfl)
        exact ⟨g116, (y_load_stc stcT_seq rfl ((hout 17 rfl (by decide)).trans s453) (B440.all hR id) ⟨rfl, Kept.refl _ _⟩)⟩
      refine stepsF_cons ?_ ?_
      · refine StepF.when 18 true 116 rfl rfl fun F_ w_ hR hout hD => ?_
        have g116 : F_ 116 = .bool true := (hD.get 0 rfl rfl rfl)
        exact ⟨g116, (y_load_stc stcT_seq rfl ((hout 19 rfl (by decide)).trans s455) (B441.all hR id) ⟨rfl, Kept.refl _ _⟩)⟩
      refine stepsF_cons ?_ ?_
      · refine StepF.when 18 true 116 rfl rfl fun F_ w_ hR hout hD => ?_
        have g116 : F_ 116 = .bool true := (hD.get 2 rfl rfl rfl)
        have g117 : F_ 117 = .agg #[.int .i64 (od t0 (l)), .int .i64 (od t1 (l)), .int .i64 (od t2 (l)), .int .i64 (od t3 (l))] := (hD.get 0 rfl rfl rfl)
        have g118 : F_ 118 = .agg #[.int .i64 (od t0 (l)), .int .i64 (od t1 (l)), .int .i64 (od t2 (l)), .int .i64 (od t3 (l))] := (hD.get 1 rfl rfl rfl)
        exact ⟨g116, (y_eqlSI (xs := [od t0 (l), od t1 (l), od t2 (l), od t3 (l)]) (ys := [od t0 (l), od t1 (l), od t2 (l), od t3 (l)]) structI_seq rfl g117 g118 rfl rfl (sameI_self _) ⟨rfl, Kept.refl _ _⟩)⟩
      refine stepsF_cons ?_ ?_
      · refine StepF.one rfl fun F_ w_ hR hout hD => ?_
        have g116 : F_ 116 = .bool true := (hD.get 0 rfl rfl rfl)
        have g119 : F_ 119 = .bool true := (hD.get 1 rfl rfl rfl)
        exact (y_pickT rfl g116 g119 ⟨rfl, Kept.refl _ _⟩)
      refine stepsF_cons ?_ ?_
      · refine StepF.one rfl fun F_ w_ hR hout hD => ?_
        have g120 : F_ 120 = .bool true := (hD.get 0 rfl rfl rfl)
        exact (y_mov rfl g120 ⟨rfl, Kept.refl _ _⟩)
      refine stepsF_cons ?_ ?_
      · refine StepF.when 23 true 121 rfl rfl fun F_ w_ hR hout hD => ?_
        have g121 : F_ 121 = .bool true := (hD.get 0 rfl rfl rfl)
        exact ⟨g121, (y_mov rfl ((hout 18 rfl (by decide)).trans s454) ⟨rfl, Kept.refl _ _⟩)⟩
      refine stepsF_cons ?_ ?_
      · refine StepF.when 23 true 121 rfl rfl fun F_ w_ hR hout hD => ?_
        have g121 : F_ 121 = .bool true := (hD.get 0 rfl rfl rfl)
        exact ⟨g121, (y_mov rfl ((hout 20 rfl (by decide)).trans s456) ⟨rfl, Kept.refl _ _⟩)⟩
      refine stepsF_cons ?_ ?_
      · refine StepF.when 23 true 121 rfl rfl fun F_ w_ hR hout hD => ?_
        have g121 : F_ 121 = .bool true := (hD.get 2 rfl rfl rfl)
        have g122 : F_ 122 = .int .i64 (odE (l)) := (hD.get 0 rfl rfl rfl)
        have g123 : F_ 123 = .int .i64 (odE (l)) := (hD.get 1 rfl rfl rfl)
        exact ⟨g121, (y_eqlI rfl g122 g123 (decide_eq_true rfl) ⟨rfl, Kept.refl _ _⟩)⟩
      refine stepsF_cons ?_ ?_
      · refine StepF.one rfl fun F_ w_ hR hout hD => ?_
        have g121 : F_ 121 = .bool true := (hD.get 0 rfl rfl rfl)
        have g124 : F_ 124 = .bool true := (hD.get 1 rfl rfl rfl)
        exact (y_pickT rfl g121 g124 ⟨rfl, Kept.refl _ _⟩)
      refine stepsF_cons ?_ ?_
      · refine StepF.one rfl fun F_ w_ hR hout hD => ?_
        have g125 : F_ 125 = .bool true := (hD.get 0 rfl rfl rfl)
        exact (y_mov rfl g125 ⟨rfl, Kept.refl _ _⟩)
      refine stepsF_cons ?_ ?_
      · refine StepF.when 28 true 126 rfl rfl fun F_ w_ hR hout hD => ?_
        have g126 : F_ 126 = .bool true := (hD.get 0 rfl rfl rfl)
        exact ⟨g126, (y_load_stc stcT_head rfl ((hout 21 rfl (by decide)).trans s457) (B443.all hR id) ⟨rfl, Kept.refl _ _⟩)⟩
      refine stepsF_cons ?_ ?_
      · refine StepF.when 28 true 126 rfl rfl fun F_ w_ hR hout hD => ?_
        have g126 : F_ 126 = .bool true := (hD.get 0 rfl rfl rfl)
        exact ⟨g126, (y_load_stc stcT_head rfl ((hout 24 rfl (by decide)).trans s460) (B431.all hR id) ⟨rfl, Kept.refl _ _⟩)⟩
      refine stepsF_cons ?_ ?_
      · refine StepF.when 28 true 126 rfl rfl fun F_ w_ hR hout hD => ?_
        have g126 : F_ 126 = .bool true := (hD.get 2 rfl rfl rfl)
        have g127 : F_ 127 = .agg #[.int .i64 (rdH t0 (l)), .int .i64 (rdH t1 (l)), .int .i64 (rdH t2 (l)), .int .i64 (rdH t3 (l))] := (hD.get 0 rfl rfl rfl)
        have g128 : F_ 128 = .agg #[.int .i64 (rdH t0 (l)), .int .i64 (rdH t1 (l)), .int .i64 (rdH t2 (l)), .int .i64 (rdH t3 (l))] := (hD.get 1 rfl rfl rfl)
        exact ⟨g126, (y_eqlSI (xs := [rdH t0 (l), rdH t1 (l), rdH t2 (l), rdH t3 (l)]) (ys := [rdH t0 (l), rdH t1 (l), rdH t2 (l), rdH t3 (l)]) structI_head rfl g127 g128 rfl rfl (sameI_self _) ⟨rfl, Kept.refl _ _⟩)⟩
      refine stepsF_cons ?_ ?_
      · refine StepF.one rfl fun F_ w_ hR hout hD => ?_
        have g126 : F_ 126 = .bool true := (hD.get 0 rfl rfl rfl)
        have g129 : F_ 129 = .bool true := (hD.get 1 rfl rfl rfl)
        exact (y_pickT rfl g126 g129 ⟨rfl, Kept.refl _ _⟩)
      refine stepsF_cons ?_ ?_
      · refine StepF.one rfl fun F_ w_ hR hout hD => ?_
        have g130 : F_ 130 = .bool true := (hD.get 0 rfl rfl rfl)
        exact (y_mov rfl g130 ⟨rfl, Kept.refl _ _⟩)
      refine stepsF_cons ?_ ?_
      · refine StepF.when 33 true 131 rfl rfl fun F_ w_ hR hout hD => ?_
        have g131 : F_ 131 = .bool true := (hD.get 0 rfl rfl rfl)
        exact ⟨g131, (y_mov rfl ((hout 22 rfl (by decide)).trans s458) ⟨rfl, Kept.refl _ _⟩)⟩
      refine stepsF_cons ?_ ?_
      · refine StepF.when 33 true 131 rfl rfl fun F_ w_ hR hout hD => ?_
        have g131 : F_ 131 = .bool true := (hD.get 1 rfl rfl rfl)
        have g132 : F_ 132 = v287 := (hD.get 0 rfl rfl rfl)
        exact ⟨g131, (y_text rfl (bytes_at g132 ((B442.all hR Apart.none)).byt) ⟨rfl, Kept.refl _ _⟩)⟩
      refine stepsF_cons ?_ ?_
      · refine StepF.when 33 true 131 rfl rfl fun F_ w_ hR hout hD => ?_
        have g131 : F_ 131 = .bool true := (hD.get 0 rfl rfl rfl)
        exact ⟨g131, (y_mov rfl ((hout 25 rfl (by decide)).trans s461) ⟨rfl, Kept.refl _ _⟩)⟩
      refine stepsF_cons ?_ ?_
      · refine StepF.when 33 true 131 rfl rfl fun F_ w_ hR hout hD => ?_
        have g131 : F_ 131 = .bool true := (hD.get 1 rfl rfl rfl)
        have g134 : F_ 134 = v369 := (hD.get 0 rfl rfl rfl)
        exact ⟨g131, (y_text rfl (bytes_at g134 ((B444.all hR Apart.none)).byt) ⟨rfl, Kept.refl _ _⟩)⟩
      refine stepsF_cons ?_ ?_
      · refine StepF.when 33 true 131 rfl rfl fun F_ w_ hR hout hD => ?_
        have g131 : F_ 131 = .bool true := (hD.get 2 rfl rfl rfl)
        have g133 : F_ 133 = .string (textOf ((rdP (l)))) := (hD.get 0 rfl rfl rfl)
        have g135 : F_ 135 = .string (textOf ((rdP (l)))) := (hD.get 1 rfl rfl rfl)
        exact ⟨g131, (y_eqlS rfl g133 g135 (beq_self_eq_true _) ⟨rfl, Kept.refl _ _⟩)⟩
      refine stepsF_cons ?_ ?_
      · refine StepF.one rfl fun F_ w_ hR hout hD => ?_
        have g131 : F_ 131 = .bool true := (hD.get 0 rfl rfl rfl)
        have g136 : F_ 136 = .bool true := (hD.get 1 rfl rfl rfl)
        exact (y_pickT rfl g131 g136 ⟨rfl, Kept.refl _ _⟩)
      refine stepsF_cons ?_ ?_
      · refine StepF.one rfl fun F_ w_ hR hout hD => ?_
        have g137 : F_ 137 = .bool true := (hD.get 0 rfl rfl rfl)
        exact (y_mov rfl g137 ⟨rfl, Kept.refl _ _⟩)
      refine stepsF_cons ?_ ?_
      · refine StepF.when 40 true 138 rfl rfl fun F_ w_ hR hout hD => ?_
        have g138 : F_ 138 = .bool true := (hD.get 0 rfl rfl rfl)
        exact ⟨g138, (y_mov rfl ((hout 23 rfl (by decide)).trans s459) ⟨rfl, Kept.refl _ _⟩)⟩
      refine stepsF_cons ?_ ?_
      · refine StepF.when 40 true 138 rfl rfl fun F_ w_ hR hout hD => ?_
        have g138 : F_ 138 = .bool true := (hD.get 0 rfl rfl rfl)
        exact ⟨g138, (y_mov rfl ((hout 26 rfl (by decide)).trans s462) ⟨rfl, Kept.refl _ _⟩)⟩
      refine stepsF_cons ?_ ?_
      · refine StepF.when 40 true 138 rfl rfl fun F_ w_ hR hout hD => ?_
        have g138 : F_ 138 = .bool true := (hD.get 2 rfl rfl rfl)
        have g139 : F_ 139 = .int .i64 (rdE (l)) := (hD.get 0 rfl rfl rfl)
        have g140 : F_ 140 = .int .i64 (rdE (l)) := (hD.get 1 rfl rfl rfl)
        exact ⟨g138, (y_eqlI rfl g139 g140 (decide_eq_true rfl) ⟨rfl, Kept.refl _ _⟩)⟩
      refine stepsF_cons ?_ ?_
      · refine StepF.one rfl fun F_ w_ hR hout hD => ?_
        have g138 : F_ 138 = .bool true := (hD.get 0 rfl rfl rfl)
        have g141 : F_ 141 = .bool true := (hD.get 1 rfl rfl rfl)
        exact (y_pickT rfl g138 g141 ⟨rfl, Kept.refl _ _⟩)
      refine stepsF_cons ?_ ?_
      · refine StepF.one rfl fun F_ w_ hR hout hD => ?_
        have g142 : F_ 142 = .bool true := (hD.get 0 rfl rfl rfl)
        exact (y_asg rfl g142 ⟨rfl, Kept.refl _ _⟩)
      exact stepsF_nil
    intro v463 F464 w465 k466 G467 hF468
    have B470 := B433.all k466 Apart.none
    have B471 := B434.all k466 id
    have B472 := B435.all k466 id
    have B473 := B436.all k466 Apart.none
    have B474 := B437.all k466 Apart.none
    have B475 := B438.all k466 Apart.none
    have B476 := B439.all k466 Apart.none
    have B477 := B440.all k466 id
    have B478 := B441.all k466 id
    have B479 := B442.all k466 Apart.none
    have B480 := B443.all k466 id
    have B481 := B444.all k466 Apart.none
    have B482 := B431.all k466 id
    have K483 := K445.trans k466 (fun _ _ x => x.elim)
    have s484 : F464 143 = undef := (hF468 143).trans s448
    have s485 : F464 6 = .bool true := (hF468 6).trans (G467 45 (by decide))
    clear G467 hF468
    refine then_normal ?_
    refine wq_ret ?_
    exact end_tmp (v := .bool true) s484 rfl rfl s485 ⟨rfl, K483⟩
end Go.Proofs.Ytnccblhdokplkaa
set_option maxRecDepth 100000
namespace Go.Proofs.Ytnccblhdokplkaa
open Go.ChangeShapes Go.WideShapes Go.ChangeAt Go.RowKit

section
variable {H : Type} {enc : TypeId × Value → H} {w : World} {base : Nat} {spare : Nat → Bool} {held : Bool}

theorem BytesArg.of_row {a : Option Addr} {len cap : Nat} {zs : List Int}
    (h : (a = none ∧ len = 0 ∧ cap = 0 ∧ zs = []) ∨ ∃ x, a = some x ∧ len ≤ cap ∧ cap ≤ maxLen ∧ len ≤ zs.length ∧ (∀ i, i < zs.length → w.cell? (x.add i) = some (.int .u8 (zs.getD i 0))) ∧ ∀ n ∈ zs, (Lit.int .u8 n).wf = true) :
    ∃ l : List Nat, BytesArg w (.slice a len cap) l := by
  rcases h with ⟨rfl, rfl, rfl, rfl⟩ | ⟨x, rfl, hlc, hcm, hz, hcell, hwf⟩
  · exact ⟨[], BytesArg.nil w⟩
  · have hlen : ((zs.take len).map Int.toNat).length = len := by simp; omega
    refine ⟨(zs.take len).map Int.toNat, some x, cap, by rw [hlen], by rw [hlen]; exact hlc, hcm, by simp, ?_, ?_⟩
    · intro y hy
      obtain ⟨z, hz1, rfl⟩ := List.mem_map.1 hy
      have := bounds_u8 (hwf z (List.mem_of_mem_take hz1))
      omega
    · intro hpos
      rw [hlen] at hpos
      have hpos' : 0 < zs.length := by omega
      obtain ⟨b, off, rfl, hc⟩ := ints_at hcell hpos'
      refine ⟨b, off, rfl, World.block_lt_of_cell? w _ (hc 0 hpos'), fun i hi => ?_⟩
      rw [hlen] at hi
      have hi' : i < zs.length := by omega
      rw [hc i hi']
      have hwi := bounds_u8 (hwf zs[i] (List.getElem_mem hi'))
      simp [List.getD, hi', hi]
      omega

theorem bytes_open {fuel : Nat} {v : Value} {x : DataW H × List MemPlace}
    (h : DataW.trod enc Try.prog w base spare held fuel 27 [v] = some x) : ∃ l : List Nat, BytesArg w v l := by
  rcases open_ints Try.underlying27 Try.underlying5 (by kernel_rfl) h with ⟨hcs, _⟩ | ⟨a, len, cap, zs, hcs, _, hl, hm, hz, _, hcell, hwz⟩
  · simp at hcs
    subst hcs
    exact ⟨[], BytesArg.nil w⟩
  · simp at hcs
    subst hcs
    exact BytesArg.of_row (.inr ⟨a, rfl, hl, hm, by have := hz; split at this <;> omega, hcell, hwz⟩)

end
end Go.Proofs.Ytnccblhdokplkaa
set_option maxRecDepth 100000
namespace Go.Proofs.Ytnccblhdokplkaa
open Go.ChangeShapes Go.WideShapes Go.ChangeAt Go.RowKit Go.Deep Go.Joins

section
variable {H : Type} {enc : TypeId × Value → H} {w : World} {base : Nat} {spare : Nat → Bool} {held : Bool}
theorem Try.cellsI : Try.prog.cellsOf 3 = 1 := by kernel_rfl
theorem Try.cells_sequence : Try.prog.cellsOf 24 = 4 := by kernel_rfl
theorem sequence_open {r : Reach} {b0 : Nat} {v : Value} {d : DataW H} {ps : List MemPlace} (hval : Value.okWide Try.prog w r b0 24 v) (h : DataW.Trod enc Try.prog w base spare held 24 v d ps) :
    ∃ a b c e : Int, v = .agg #[.int .i64 a, .int .i64 b, .int .i64 c, .int .i64 e] := by
  obtain ⟨cs, rfl, hsz⟩ := okWide_struct Try.underlying24 hval
  rw [Try.cells_sequence] at hsz
  obtain ⟨cs⟩ := cs
  obtain ⟨fuel, hf⟩ := h
  match cs, hsz with
  | [c0, c1, c2, c3], _ =>
    obtain ⟨y0, y1, y2, y3, n, _, _, h0, h1, h2, h3⟩ := trod_struct4 (cs := [c0, c1, c2, c3]) Try.underlying24 hf
    simp only [Try.cellsI, List.drop_zero, List.drop_succ_cons, List.take_succ_cons, List.take_zero] at h0 h1 h2 h3
    obtain ⟨a, ha, _, _⟩ := DataW.trod_int Try.underlying3 h0
    obtain ⟨b, hb, _, _⟩ := DataW.trod_int Try.underlying3 h1
    obtain ⟨c, hc, _, _⟩ := DataW.trod_int Try.underlying3 h2
    obtain ⟨e, he, _, _⟩ := DataW.trod_int Try.underlying3 h3
    simp only [List.cons.injEq, and_true] at ha hb hc he
    subst ha; subst hb; subst hc; subst he
    exact ⟨a, b, c, e, rfl⟩
theorem Try.cells_head : Try.prog.cellsOf 26 = 4 := by kernel_rfl
theorem head_open {r : Reach} {b0 : Nat} {v : Value} {d : DataW H} {ps : List MemPlace} (hval : Value.okWide Try.prog w r b0 26 v) (h : DataW.Trod enc Try.prog w base spare held 26 v d ps) :
    ∃ a b c e : Int, v = .agg #[.int .i64 a, .int .i64 b, .int .i64 c, .int .i64 e] := by
  obtain ⟨cs, rfl, hsz⟩ := okWide_struct Try.underlying26 hval
  rw [Try.cells_head] at hsz
  obtain ⟨cs⟩ := cs
  obtain ⟨fuel, hf⟩ := h
  match cs, hsz with
  | [c0, c1, c2, c3], _ =>
    obtain ⟨y0, y1, y2, y3, n, _, _, h0, h1, h2, h3⟩ := trod_struct4 (cs := [c0, c1, c2, c3]) Try.underlying26 hf
    simp only [Try.cellsI, List.drop_zero, List.drop_succ_cons, List.take_succ_cons, List.take_zero] at h0 h1 h2 h3
    obtain ⟨a, ha, _, _⟩ := DataW.trod_int Try.underlying3 h0
    obtain ⟨b, hb, _, _⟩ := DataW.trod_int Try.underlying3 h1
    obtain ⟨c, hc, _, _⟩ := DataW.trod_int Try.underlying3 h2
    obtain ⟨e, he, _, _⟩ := DataW.trod_int Try.underlying3 h3
    simp only [List.cons.injEq, and_true] at ha hb hc he
    subst ha; subst hb; subst hc; subst he
    exact ⟨a, b, c, e, rfl⟩
end
end Go.Proofs.Ytnccblhdokplkaa
