/- What HeadBack reaches of my texts, part 3. -/
import Derived.Test.YtnccblhdokplkaaHeadBackB
set_option maxRecDepth 100000
set_option maxRecDepth 100000
namespace Go.Proofs.Ytnccblhdokplkaa
open Go.RowKit

set_option maxRecDepth 100000 in
theorem awake11 : opB 8 16 300 1000 = [8, 16, 0, 0, 1, 44, 0, 0, 3, 232] ∧ seqE 8 16 300 1000 = 0 ∧ wrB 1 5 2 700 [9] = [1, 5, 0, 0, 0, 2, 0, 0, 2, 188, 9] ∧ headE 1 5 2 700 = 0 ∧ rdE [] = 110 ∧ headE 3 0 0 0 = 110 := by
  refine ⟨?_, ?_, ?_, ?_, ?_, ?_⟩ <;> decide +kernel
theorem awake11a : headOk 1 5 2 700 ∧ seqOk 8 16 300 1000 := by decide +kernel
theorem rdE_iff {l : List Nat} : rdE l = 0 ↔ rdOkH l := by
  unfold rdE; by_cases h : rdOkH l
  · rw [if_pos h]; exact iff_of_true rfl h
  · rw [if_neg h]; exact iff_of_false (by decide) h
theorem rd_not {l : List Nat} (h : ¬ rdOkH l) : rdH t0 l = 0 ∧ rdH t1 l = 0 ∧ rdH t2 l = 0 ∧ rdH t3 l = 0 ∧ rdP l = [] := ⟨if_neg h, if_neg h, if_neg h, if_neg h, if_neg h⟩
theorem wrB_yes {K Q D F : Int} (h : headOk K Q D F) (p : List Nat) : wrB K Q D F p = tenB K Q D F ++ p := if_pos h
theorem text_same {l m : List Nat} (h : l = m) : ((textOf l).toList == (textOf m).toList) = true := by rw [h]; exact beq_self_eq_true _

set_option maxHeartbeats 4000000 in
set_option maxRecDepth 100000 in
theorem hawake_any (w0 : World) :
    Calls Try.prog 9 #[] w0 fun e w' => e = .returned (.bool true) ∧ Kept (fun _ => False) w0 w' := by
  refine calls_wq (args := []) 99 Try.func9 rfl rfl (Nat.le_of_ble_eq_true rfl) ?_
  have K0 := Kept.refl (fun _ => False) w0
  have hf := Lib.hid awake11
  have hw := Lib.hid (rd_write awake11a.1 [9])
  have ho := Lib.hid (od_open awake11a.2)
  refine wq_seq ?_
  refine wq_region ?_
  refine wl_v (.bool false) rfl rfl (y_asg rfl rfl ⟨rfl, rfl⟩) ?_
  refine wl_nil fun F1 hF2 => ?_
  have s3 : F1 99 = undef := (hF2 99).trans rfl
  clear hF2
  refine then_normal ?_
  refine wq_seq ?_
  refine wq_region ?_
  refine wl_v (.agg #[.int .i64 (8), .int .i64 (16), .int .i64 (300), .int .i64 (1000)]) rfl rfl (y_buildL (l' := [(0, .int .i64 (8)), (1, .int .i64 (16)), (2, .int .i64 (300)), (3, .int .i64 (1000))]) (cells := #[.int .i64 (8), .int .i64 (16), .int .i64 (300), .int .i64 (1000)]) rfl (bpC rfl (bpC rfl (bpC rfl (bpC rfl bpN)))) (by kernel_rfl) rfl ⟨rfl, rfl⟩) ?_
  refine wl_call (R := fun v_ w_ => ∃ (v4 : Value) (T7 : Nat → Prop), .tuple #[v4, .int .i64 (seqE (8) (16) (300) (1000))] = v_ ∧ Kept (fun _ => False) w0 w_ ∧ (Owb w_ T7 v4 ((opB (8) (16) (300) (1000))) ∧ Grew w0 noB T7)) rfl rfl (y_cs rfl rfl rfl (fun _ _ => by kernel_rfl) (ev_func _) (vsC rfl vsN) (hd_open (8) (16) (300) (1000)  _   ) (fun e_ w_ h_ => by obtain ⟨v4_, T7_, he_, hr_⟩ := h_; exact ⟨_, he_, v4_, T7_, rfl, hr_⟩)) ?_
  rintro _ w5 ⟨v4, T7, rfl, k6, ⟨B8, g9⟩⟩
  have K10 := K0.trans k6 (fun _ _ x => x.elim)
  have gr11 : Grew w0 noB (T7) := Grew.new K0 g9
  refine wl_v (.tuple #[v4, .int .i64 (seqE (8) (16) (300) (1000))]) rfl rfl (y_mov rfl rfl ⟨rfl, rfl⟩) ?_
  refine wl_v (v4) rfl rfl (y_ext rfl rfl rfl ⟨rfl, rfl⟩) ?_
  refine wl_v (.int .i64 (seqE (8) (16) (300) (1000))) rfl rfl (y_ext rfl rfl rfl ⟨rfl, rfl⟩) ?_
  refine wl_v (v4) rfl rfl (y_asg rfl rfl ⟨rfl, rfl⟩) ?_
  refine wl_v (.int .i64 (seqE (8) (16) (300) (1000))) rfl rfl (y_asg rfl rfl ⟨rfl, rfl⟩) ?_
  refine wl_nil fun F12 hF13 => ?_
  have s14 : F12 99 = undef := (hF13 99).trans s3
  have s15 : F12 1 = v4 := (hF13 1).trans rfl
  have s16 : F12 2 = .int .i64 (seqE (8) (16) (300) (1000)) := (hF13 2).trans rfl
  clear hF13
  refine then_normal ?_
  refine wq_seq ?_
  refine wq_region ?_
  refine wl_v (.agg #[.int .i64 (1), .int .i64 (5), .int .i64 (2), .int .i64 (700)]) rfl rfl (y_buildL (l' := [(0, .int .i64 (1)), (1, .int .i64 (5)), (2, .int .i64 (2)), (3, .int .i64 (700))]) (cells := #[.int .i64 (1), .int .i64 (5), .int .i64 (2), .int .i64 (700)]) rfl (bpC rfl (bpC rfl (bpC rfl (bpC rfl bpN)))) (by kernel_rfl) rfl ⟨rfl, rfl⟩) ?_
  refine wl_builtB1 (n := 9) rfl rfl rfl rfl (by omega) (by omega) fun v17 w18 T22 B20 g21 k19 => ?_
  have gr23 : Grew w0 noB (T22) := Grew.new K10 g21
  have ap24 : Apart (T22) (T7) := Apart.new g21 (B8).live
  have B25 := B8.all k19 Apart.none
  have K26 := K10.trans k19 (fun _ _ x => x.elim)
  refine wl_call (R := fun v_ w_ => ∃ (v27 : Value) (T30 : Nat → Prop), .tuple #[v27, .int .i64 (headE (1) (5) (2) (700))] = v_ ∧ Kept (fun _ => False) w18 w_ ∧ (Owb w_ T30 v27 ((wrB (1) (5) (2) (700) ([9]))) ∧ Grew w18 noB T30)) rfl rfl (y_cs rfl rfl rfl (fun _ _ => by kernel_rfl) (ev_func _) (vsC rfl (vsC rfl vsN)) (hd_write (1) (5) (2) (700) (v17) ([9]) (T22) _ (by decide) (B20).byt ) (fun e_ w_ h_ => by obtain ⟨v27_, T30_, he_, hr_⟩ := h_; exact ⟨_, he_, v27_, T30_, rfl, hr_⟩)) ?_
  rintro _ w28 ⟨v27, T30, rfl, k29, ⟨B31, g32⟩⟩
  have B33 := B25.all k29 Apart.none
  have B34 := B20.all k29 Apart.none
  have K35 := K26.trans k29 (fun _ _ x => x.elim)
  have gr36 : Grew w0 noB (T30) := Grew.new K26 g32
  have ap37 : Apart (T30) (T7) := Apart.new g32 (B25).live
  have ap38 : Apart (T30) (T22) := Apart.new g32 (B20).live
  refine wl_v (.tuple #[v27, .int .i64 (headE (1) (5) (2) (700))]) rfl rfl (y_mov rfl rfl ⟨rfl, rfl⟩) ?_
  refine wl_v (v27) rfl rfl (y_ext rfl rfl rfl ⟨rfl, rfl⟩) ?_
  refine wl_v (.int .i64 (headE (1) (5) (2) (700))) rfl rfl (y_ext rfl rfl rfl ⟨rfl, rfl⟩) ?_
  refine wl_v (v27) rfl rfl (y_asg rfl rfl ⟨rfl, rfl⟩) ?_
  refine wl_v (.int .i64 (headE (1) (5) (2) (700))) rfl rfl (y_asg rfl rfl ⟨rfl, rfl⟩) ?_
  refine wl_nil fun F39 hF40 => ?_
  have s41 : F39 99 = undef := (hF40 99).trans s14
  have s42 : F39 1 = v4 := (hF40 1).trans s15
  have s43 : F39 2 = .int .i64 (seqE (8) (16) (300) (1000)) := (hF40 2).trans s16
  have s44 : F39 3 = v27 := (hF40 3).trans rfl
  have s45 : F39 4 = .int .i64 (headE (1) (5) (2) (700)) := (hF40 4).trans rfl
  clear hF40
  refine then_normal ?_
  refine wq_seq ?_
  refine wq_region ?_
  refine wl_v (v27) rfl rfl (y_mov rfl s44 ⟨rfl, rfl⟩) ?_
  refine wl_call (R := fun v_ w_ => ∃ (v46 : Value) (T49 : Nat → Prop), .tuple #[.agg #[.int .i64 (rdH t0 ((wrB (1) (5) (2) (700) ([9])))), .int .i64 (rdH t1 ((wrB (1) (5) (2) (700) ([9])))), .int .i64 (rdH t2 ((wrB (1) (5) (2) (700) ([9])))), .int .i64 (rdH t3 ((wrB (1) (5) (2) (700) ([9]))))], v46, .int .i64 (rdE ((wrB (1) (5) (2) (700) ([9]))))] = v_ ∧ Kept (fun _ => False) w28 w_ ∧ (Owb w_ T49 v46 ((rdP ((wrB (1) (5) (2) (700) ([9]))))) ∧ Grew w28 noB T49)) rfl rfl (y_cs rfl rfl rfl (fun _ _ => by kernel_rfl) (ev_func _) (vsC rfl vsN) (hd_read (v27) ((wrB (1) (5) (2) (700) ([9]))) (T30) _ (by rw [hf.out.2.2.1]; decide) (B31).byt ) (fun e_ w_ h_ => by obtain ⟨v46_, T49_, he_, hr_⟩ := h_; exact ⟨_, he_, v46_, T49_, rfl, hr_⟩)) ?_
  rintro _ w47 ⟨v46, T49, rfl, k48, ⟨B50, g51⟩⟩
  have B52 := B33.all k48 Apart.none
  have B53 := B34.all k48 Apart.none
  have B54 := B31.all k48 Apart.none
  have K55 := K35.trans k48 (fun _ _ x => x.elim)
  have gr56 : Grew w0 noB (T49) := Grew.new K35 g51
  have ap57 : Apart (T49) (T7) := Apart.new g51 (B33).live
  have ap58 : Apart (T49) (T22) := Apart.new g51 (B34).live
  have ap59 : Apart (T49) (T30) := Apart.new g51 (B31).live
  refine wl_v (.tuple #[.agg #[.int .i64 (rdH t0 ((wrB (1) (5) (2) (700) ([9])))), .int .i64 (rdH t1 ((wrB (1) (5) (2) (700) ([9])))), .int .i64 (rdH t2 ((wrB (1) (5) (2) (700) ([9])))), .int .i64 (rdH t3 ((wrB (1) (5) (2) (700) ([9]))))], v46, .int .i64 (rdE ((wrB (1) (5) (2) (700) ([9]))))]) rfl rfl (y_mov rfl rfl ⟨rfl, rfl⟩) ?_
  refine wl_v (.agg #[.int .i64 (rdH t0 ((wrB (1) (5) (2) (700) ([9])))), .int .i64 (rdH t1 ((wrB (1) (5) (2) (700) ([9])))), .int .i64 (rdH t2 ((wrB (1) (5) (2) (700) ([9])))), .int .i64 (rdH t3 ((wrB (1) (5) (2) (700) ([9]))))]) rfl rfl (y_ext rfl rfl rfl ⟨rfl, rfl⟩) ?_
  refine wl_v (v46) rfl rfl (y_ext rfl rfl rfl ⟨rfl, rfl⟩) ?_
  refine wl_v (.int .i64 (rdE ((wrB (1) (5) (2) (700) ([9]))))) rfl rfl (y_ext rfl rfl rfl ⟨rfl, rfl⟩) ?_
  refine wl_alloc_stc (n := 4) (vs := [.int .i64 (0), .int .i64 (0), .int .i64 (0), .int .i64 (0)]) rfl rfl rfl (by kernel_rfl) fun p60 w61 B63 g64 k62 => ?_
  have gr65 : Grew w0 noB (onB p60) := Grew.new K55 g64
  have ap66 : Apart (onB p60) (T7) := Apart.new g64 (B52).live
  have ap67 : Apart (onB p60) (T22) := Apart.new g64 (B53).live
  have ap68 : Apart (onB p60) (T30) := Apart.new g64 (B54).live
  have ap69 : Apart (onB p60) (T49) := Apart.new g64 (B50).live
  have B70 := B52.all k62 Apart.none
  have B71 := B53.all k62 Apart.none
  have B72 := B54.all k62 Apart.none
  have B73 := B50.all k62 Apart.none
  have K74 := K55.trans k62 (fun _ _ x => x.elim)
  refine wl_store_stc (us := [.int .i64 (rdH t0 ((wrB (1) (5) (2) (700) ([9])))), .int .i64 (rdH t1 ((wrB (1) (5) (2) (700) ([9])))), .int .i64 (rdH t2 ((wrB (1) (5) (2) (700) ([9])))), .int .i64 (rdH t3 ((wrB (1) (5) (2) (700) ([9]))))]) stcT_head rfl rfl rfl rfl rfl B63 rfl (oneI rfl (oneI rfl (oneI rfl (oneI rfl oneN)))) fun w75 B76 k77 => ?_
  have B78 := B70.all k77 (fun i h x => (((ap66).symm) i h x))
  have B79 := B71.all k77 (fun i h x => (((ap67).symm) i h x))
  have B80 := B72.all k77 (fun i h x => (((ap68).symm) i h x))
  have B81 := B73.all k77 (fun i h x => (((ap69).symm) i h x))
  have K82 := K74.trans k77 (Grew.ok (S := fun _ => False) gr65 noB_le)
  refine wl_v (v46) rfl rfl (y_asg rfl rfl ⟨rfl, rfl⟩) ?_
  refine wl_v (.int .i64 (rdE ((wrB (1) (5) (2) (700) ([9]))))) rfl rfl (y_asg rfl rfl ⟨rfl, rfl⟩) ?_
  refine wl_nil fun F83 hF84 => ?_
  have s85 : F83 99 = undef := (hF84 99).trans s41
  have s86 : F83 1 = v4 := (hF84 1).trans s42
  have s87 : F83 2 = .int .i64 (seqE (8) (16) (300) (1000)) := (hF84 2).trans s43
  have s88 : F83 3 = v27 := (hF84 3).trans s44
  have s89 : F83 4 = .int .i64 (headE (1) (5) (2) (700)) := (hF84 4).trans s45
  have s90 : F83 5 = .pointer (some ⟨p60, 0, none⟩) := (hF84 5).trans rfl
  have s91 : F83 6 = v46 := (hF84 6).trans rfl
  have s92 : F83 7 = .int .i64 (rdE ((wrB (1) (5) (2) (700) ([9])))) := (hF84 7).trans rfl
  clear hF84
  refine then_normal ?_
  refine wq_seq ?_
  refine wq_region ?_
  refine wl_v (v4) rfl rfl (y_mov rfl s86 ⟨rfl, rfl⟩) ?_
  refine wl_call (R := fun v_ w_ => v_ = .tuple #[.agg #[.int .i64 (od t0 ((opB (8) (16) (300) (1000)))), .int .i64 (od t1 ((opB (8) (16) (300) (1000)))), .int .i64 (od t2 ((opB (8) (16) (300) (1000)))), .int .i64 (od t3 ((opB (8) (16) (300) (1000))))], .int .i64 (odE ((opB (8) (16) (300) (1000))))] ∧ Kept (fun _ => False) w75 w_) rfl rfl (y_cs rfl rfl rfl (fun _ _ => by kernel_rfl) (ev_func _) (vsC rfl vsN) (hd_opened (v4) ((opB (8) (16) (300) (1000))) (T7) _  (B78).byt ) (fun e_ w_ h_ => ⟨_, h_.1, rfl, h_.2⟩)) ?_
  rintro _ w93 ⟨rfl, k94⟩
  have B95 := B78.all k94 Apart.none
  have B96 := B79.all k94 Apart.none
  have B97 := B80.all k94 Apart.none
  have B98 := B81.all k94 Apart.none
  have B99 := B76.all k94 id
  have K100 := K82.trans k94 (fun _ _ x => x.elim)
  refine wl_v (.tuple #[.agg #[.int .i64 (od t0 ((opB (8) (16) (300) (1000)))), .int .i64 (od t1 ((opB (8) (16) (300) (1000)))), .int .i64 (od t2 ((opB (8) (16) (300) (1000)))), .int .i64 (od t3 ((opB (8) (16) (300) (1000))))], .int .i64 (odE ((opB (8) (16) (300) (1000))))]) rfl rfl (y_mov rfl rfl ⟨rfl, rfl⟩) ?_
  refine wl_v (.agg #[.int .i64 (od t0 ((opB (8) (16) (300) (1000)))), .int .i64 (od t1 ((opB (8) (16) (300) (1000)))), .int .i64 (od t2 ((opB (8) (16) (300) (1000)))), .int .i64 (od t3 ((opB (8) (16) (300) (1000))))]) rfl rfl (y_ext rfl rfl rfl ⟨rfl, rfl⟩) ?_
  refine wl_v (.int .i64 (odE ((opB (8) (16) (300) (1000))))) rfl rfl (y_ext rfl rfl rfl ⟨rfl, rfl⟩) ?_
  refine wl_alloc_stc (n := 4) (vs := [.int .i64 (0), .int .i64 (0), .int .i64 (0), .int .i64 (0)]) rfl rfl rfl (by kernel_rfl) fun p101 w102 B104 g105 k103 => ?_
  have gr106 : Grew w0 noB (onB p101) := Grew.new K100 g105
  have ap107 : Apart (onB p101) (T7) := Apart.new g105 (B95).live
  have ap108 : Apart (onB p101) (T22) := Apart.new g105 (B96).live
  have ap109 : Apart (onB p101) (T30) := Apart.new g105 (B97).live
  have ap110 : Apart (onB p101) (T49) := Apart.new g105 (B98).live
  have ap111 : Apart (onB p101) (onB p60) := Apart.new g105 (onB_live (B99).lt)
  have B112 := B95.all k103 Apart.none
  have B113 := B96.all k103 Apart.none
  have B114 := B97.all k103 Apart.none
  have B115 := B98.all k103 Apart.none
  have B116 := B99.all k103 id
  have K117 := K100.trans k103 (fun _ _ x => x.elim)
  refine wl_store_stc (us := [.int .i64 (od t0 ((opB (8) (16) (300) (1000)))), .int .i64 (od t1 ((opB (8) (16) (300) (1000)))), .int .i64 (od t2 ((opB (8) (16) (300) (1000)))), .int .i64 (od t3 ((opB (8) (16) (300) (1000))))]) stcT_seq rfl rfl rfl rfl rfl B104 rfl (oneI rfl (oneI rfl (oneI rfl (oneI rfl oneN)))) fun w118 B119 k120 => ?_
  have B121 := B112.all k120 (fun i h x => (((ap107).symm) i h x))
  have B122 := B113.all k120 (fun i h x => (((ap108).symm) i h x))
  have B123 := B114.all k120 (fun i h x => (((ap109).symm) i h x))
  have B124 := B115.all k120 (fun i h x => (((ap110).symm) i h x))
  have B125 := B116.all k120 (fun x => (((ap111).symm) p60 rfl x))
  have K126 := K117.trans k120 (Grew.ok (S := fun _ => False) gr106 noB_le)
  refine wl_v (.int .i64 (odE ((opB (8) (16) (300) (1000))))) rfl rfl (y_asg rfl rfl ⟨rfl, rfl⟩) ?_
  refine wl_nil fun F127 hF128 => ?_
  have s129 : F127 99 = undef := (hF128 99).trans s85
  have s130 : F127 1 = v4 := (hF128 1).trans s86
  have s131 : F127 2 = .int .i64 (seqE (8) (16) (300) (1000)) := (hF128 2).trans s87
  have s132 : F127 3 = v27 := (hF128 3).trans s88
  have s133 : F127 4 = .int .i64 (headE (1) (5) (2) (700)) := (hF128 4).trans s89
  have s134 : F127 5 = .pointer (some ⟨p60, 0, none⟩) := (hF128 5).trans s90
  have s135 : F127 6 = v46 := (hF128 6).trans s91
  have s136 : F127 7 = .int .i64 (rdE ((wrB (1) (5) (2) (700) ([9])))) := (hF128 7).trans s92
  have s137 : F127 8 = .pointer (some ⟨p101, 0, none⟩) := (hF128 8).trans rfl
  have s138 : F127 9 = .int .i64 (odE ((opB (8) (16) (300) (1000)))) := (hF128 9).trans rfl
  clear hF128
  refine then_normal ?_
  refine wq_seq ?_
  refine wq_region ?_
  refine wl_call (R := fun v_ w_ => ∃ (v139 : Value) (T142 : Nat → Prop), .tuple #[.agg #[.int .i64 (rdH t0 ([])), .int .i64 (rdH t1 ([])), .int .i64 (rdH t2 ([])), .int .i64 (rdH t3 ([]))], v139, .int .i64 (rdE ([]))] = v_ ∧ Kept (fun _ => False) w118 w_ ∧ (Owb w_ T142 v139 ((rdP ([]))) ∧ Grew w118 noB T142)) rfl rfl (y_cs rfl rfl rfl (fun _ _ => by kernel_rfl) (ev_func _) (vsC rfl vsN) (hd_read (.slice none 0 0) ([]) (noB) _ (by decide) (Byt.nil _) ) (fun e_ w_ h_ => by obtain ⟨v139_, T142_, he_, hr_⟩ := h_; exact ⟨_, he_, v139_, T142_, rfl, hr_⟩)) ?_
  rintro _ w140 ⟨v139, T142, rfl, k141, ⟨B143, g144⟩⟩
  have B145 := B121.all k141 Apart.none
  have B146 := B122.all k141 Apart.none
  have B147 := B123.all k141 Apart.none
  have B148 := B124.all k141 Apart.none
  have B149 := B125.all k141 id
  have B150 := B119.all k141 id
  have K151 := K126.trans k141 (fun _ _ x => x.elim)
  have gr152 : Grew w0 noB (T142) := Grew.new K126 g144
  have ap153 : Apart (T142) (T7) := Apart.new g144 (B121).live
  have ap154 : Apart (T142) (T22) := Apart.new g144 (B122).live
  have ap155 : Apart (T142) (T30) := Apart.new g144 (B123).live
  have ap156 : Apart (T142) (T49) := Apart.new g144 (B124).live
  have ap157 : Apart (T142) (onB p60) := Apart.new g144 (onB_live (B125).lt)
  have ap158 : Apart (T142) (onB p101) := Apart.new g144 (onB_live (B119).lt)
  refine wl_v (.tuple #[.agg #[.int .i64 (rdH t0 ([])), .int .i64 (rdH t1 ([])), .int .i64 (rdH t2 ([])), .int .i64 (rdH t3 ([]))], v139, .int .i64 (rdE ([]))]) rfl rfl (y_mov rfl rfl ⟨rfl, rfl⟩) ?_
  refine wl_v (.agg #[.int .i64 (rdH t0 ([])), .int .i64 (rdH t1 ([])), .int .i64 (rdH t2 ([])), .int .i64 (rdH t3 ([]))]) rfl rfl (y_ext rfl rfl rfl ⟨rfl, rfl⟩) ?_
  refine wl_v (v139) rfl rfl (y_ext rfl rfl rfl ⟨rfl, rfl⟩) ?_
  refine wl_v (.int .i64 (rdE ([]))) rfl rfl (y_ext rfl rfl rfl ⟨rfl, rfl⟩) ?_
  refine wl_alloc_stc (n := 4) (vs := [.int .i64 (0), .int .i64 (0), .int .i64 (0), .int .i64 (0)]) rfl rfl rfl (by kernel_rfl) fun p159 w160 B162 g163 k161 => ?_
  have gr164 : Grew w0 noB (onB p159) := Grew.new K151 g163
  have ap165 : Apart (onB p159) (T7) := Apart.new g163 (B145).live
  have ap166 : Apart (onB p159) (T22) := Apart.new g163 (B146).live
  have ap167 : Apart (onB p159) (T30) := Apart.new g163 (B147).live
  have ap168 : Apart (onB p159) (T49) := Apart.new g163 (B148).live
  have ap169 : Apart (onB p159) (onB p60) := Apart.new g163 (onB_live (B149).lt)
  have ap170 : Apart (onB p159) (onB p101) := Apart.new g163 (onB_live (B150).lt)
  have ap171 : Apart (onB p159) (T142) := Apart.new g163 (B143).live
  have B172 := B145.all k161 Apart.none
  have B173 := B146.all k161 Apart.none
  have B174 := B147.all k161 Apart.none
  have B175 := B148.all k161 Apart.none
  have B176 := B149.all k161 id
  have B177 := B150.all k161 id
  have B178 := B143.all k161 Apart.none
  have K179 := K151.trans k161 (fun _ _ x => x.elim)
  refine wl_store_stc (us := [.int .i64 (rdH t0 ([])), .int .i64 (rdH t1 ([])), .int .i64 (rdH t2 ([])), .int .i64 (rdH t3 ([]))]) stcT_head rfl rfl rfl rfl rfl B162 rfl (oneI rfl (oneI rfl (oneI rfl (oneI rfl oneN)))) fun w180 B181 k182 => ?_
  have B183 := B172.all k182 (fun i h x => (((ap165).symm) i h x))
  have B184 := B173.all k182 (fun i h x => (((ap166).symm) i h x))
  have B185 := B174.all k182 (fun i h x => (((ap167).symm) i h x))
  have B186 := B175.all k182 (fun i h x => (((ap168).symm) i h x))
  have B187 := B176.all k182 (fun x => (((ap169).symm) p60 rfl x))
  have B188 := B177.all k182 (fun x => (((ap170).symm) p101 rfl x))
  have B189 := B178.all k182 (fun i h x => (((ap171).symm) i h x))
  have K190 := K179.trans k182 (Grew.ok (S := fun _ => False) gr164 noB_le)
  refine wl_v (v139) rfl rfl (y_asg rfl rfl ⟨rfl, rfl⟩) ?_
  refine wl_v (.int .i64 (rdE ([]))) rfl rfl (y_asg rfl rfl ⟨rfl, rfl⟩) ?_
  refine wl_nil fun F191 hF192 => ?_
  have s193 : F191 99 = undef := (hF192 99).trans s129
  have s194 : F191 1 = v4 := (hF192 1).trans s130
  have s195 : F191 2 = .int .i64 (seqE (8) (16) (300) (1000)) := (hF192 2).trans s131
  have s196 : F191 3 = v27 := (hF192 3).trans s132
  have s197 : F191 4 = .int .i64 (headE (1) (5) (2) (700)) := (hF192 4).trans s133
  have s198 : F191 5 = .pointer (some ⟨p60, 0, none⟩) := (hF192 5).trans s134
  have s199 : F191 6 = v46 := (hF192 6).trans s135
  have s200 : F191 7 = .int .i64 (rdE ((wrB (1) (5) (2) (700) ([9])))) := (hF192 7).trans s136
  have s201 : F191 8 = .pointer (some ⟨p101, 0, none⟩) := (hF192 8).trans s137
  have s202 : F191 9 = .int .i64 (odE ((opB (8) (16) (300) (1000)))) := (hF192 9).trans s138
  have s203 : F191 12 = .int .i64 (rdE ([])) := (hF192 12).trans rfl
  clear hF192
  refine then_normal ?_
  refine wq_seq ?_
  refine wq_region ?_
  refine wl_v (v4) rfl rfl (y_mov rfl s194 ⟨rfl, rfl⟩) ?_
  refine wl_v (.string (textOf ((opB (8) (16) (300) (1000))))) rfl rfl (y_text rfl (bytes_at rfl (B183).byt) ⟨rfl, rfl⟩) ?_
  refine wl_builtBn (xs := [.const (.int .u8 (8)), .const (.int .u8 (16)), .const (.int .u8 (0)), .const (.int .u8 (0)), .const (.int .u8 (1)), .const (.int .u8 (44)), .const (.int .u8 (0)), .const (.int .u8 (0)), .const (.int .u8 (3)), .const (.int .u8 (232))]) (vs := [.int .u8 (8), .int .u8 (16), .int .u8 (0), .int .u8 (0), .int .u8 (1), .int .u8 (44), .int .u8 (0), .int .u8 (0), .int .u8 (3), .int .u8 (232)]) (l := [8, 16, 0, 0, 1, 44, 0, 0, 3, 232]) rfl rfl rfl rfl rfl (vsC rfl (vsC rfl (vsC rfl (vsC rfl (vsC rfl (vsC rfl (vsC rfl (vsC rfl (vsC rfl (vsC rfl vsN)))))))))) rfl (Nat.le_of_ble_eq_true rfl) (Nat.le_of_ble_eq_true rfl) (by first | decide | (simp only [List.forall_mem_cons]; simp; omega)) fun v204 w205 T209 B207 g208 k206 => ?_
  have gr210 : Grew w0 noB (T209) := Grew.new K190 g208
  have ap211 : Apart (T209) (T7) := Apart.new g208 (B183).live
  have ap212 : Apart (T209) (T22) := Apart.new g208 (B184).live
  have ap213 : Apart (T209) (T30) := Apart.new g208 (B185).live
  have ap214 : Apart (T209) (T49) := Apart.new g208 (B186).live
  have ap215 : Apart (T209) (onB p60) := Apart.new g208 (onB_live (B187).lt)
  have ap216 : Apart (T209) (onB p101) := Apart.new g208 (onB_live (B188).lt)
  have ap217 : Apart (T209) (T142) := Apart.new g208 (B189).live
  have ap218 : Apart (T209) (onB p159) := Apart.new g208 (onB_live (B181).lt)
  have B219 := B183.all k206 Apart.none
  have B220 := B184.all k206 Apart.none
  have B221 := B185.all k206 Apart.none
  have B222 := B186.all k206 Apart.none
  have B223 := B187.all k206 id
  have B224 := B188.all k206 id
  have B225 := B189.all k206 Apart.none
  have B226 := B181.all k206 id
  have K227 := K190.trans k206 (fun _ _ x => x.elim)
  refine wl_v (.string (textOf ([8, 16, 0, 0, 1, 44, 0, 0, 3, 232]))) rfl rfl (y_text rfl (bytes_at rfl (B207).byt) ⟨rfl, rfl⟩) ?_
  refine wl_v (.bool true) rfl rfl (y_eqlS rfl rfl rfl (text_same hf.out.1) ⟨rfl, rfl⟩) ?_
  refine wl_v (.bool true) rfl rfl (y_mov rfl rfl ⟨rfl, rfl⟩) ?_
  refine wl_vw (.int .i64 (seqE (8) (16) (300) (1000))) 5 true 45 rfl rfl rfl rfl rfl (y_mov rfl s195 ⟨rfl, rfl⟩) ?_
  refine wl_vw (.bool true) 5 true 45 rfl rfl rfl rfl rfl (y_eqlI rfl rfl rfl (decide_eq_true hf.out.2.1) ⟨rfl, rfl⟩) ?_
  refine wl_v (.bool true) rfl rfl (y_pickT rfl rfl rfl ⟨rfl, rfl⟩) ?_
  refine wl_v (.bool true) rfl rfl (y_mov rfl rfl ⟨rfl, rfl⟩) ?_
  refine wl_vw (v27) 9 true 49 rfl rfl rfl rfl rfl (y_mov rfl s196 ⟨rfl, rfl⟩) ?_
  refine wl_vw (.string (textOf ((wrB (1) (5) (2) (700) ([9]))))) 9 true 49 rfl rfl rfl rfl rfl (y_text rfl (bytes_at rfl (B221).byt) ⟨rfl, rfl⟩) ?_
  refine wl_when 9 true 49 rfl rfl rfl rfl rfl (y_builtBn (xs := [.const (.int .u8 (1)), .const (.int .u8 (5)), .const (.int .u8 (0)), .const (.int .u8 (0)), .const (.int .u8 (0)), .const (.int .u8 (2)), .const (.int .u8 (0)), .const (.int .u8 (0)), .const (.int .u8 (2)), .const (.int .u8 (188)), .const (.int .u8 (9))]) (vs := [.int .u8 (1), .int .u8 (5), .int .u8 (0), .int .u8 (0), .int .u8 (0), .int .u8 (2), .int .u8 (0), .int .u8 (0), .int .u8 (2), .int .u8 (188), .int .u8 (9)]) (l := [1, 5, 0, 0, 0, 2, 0, 0, 2, 188, 9]) rfl rfl rfl (vsC rfl (vsC rfl (vsC rfl (vsC rfl (vsC rfl (vsC rfl (vsC rfl (vsC rfl (vsC rfl (vsC rfl (vsC rfl vsN))))))))))) rfl (Nat.le_of_ble_eq_true rfl) (Nat.le_of_ble_eq_true rfl) (by first | decide | (simp only [List.forall_mem_cons]; simp; omega)) fun v228 w229 T233 B231 g232 k230 => ?_)
  have gr234 : Grew w0 noB (T233) := Grew.new K227 g232
  have ap235 : Apart (T233) (T7) := Apart.new g232 (B219).live
  have ap236 : Apart (T233) (T22) := Apart.new g232 (B220).live
  have ap237 : Apart (T233) (T30) := Apart.new g232 (B221).live
  have ap238 : Apart (T233) (T49) := Apart.new g232 (B222).live
  have ap239 : Apart (T233) (onB p60) := Apart.new g232 (onB_live (B223).lt)
  have ap240 : Apart (T233) (onB p101) := Apart.new g232 (onB_live (B224).lt)
  have ap241 : Apart (T233) (T142) := Apart.new g232 (B225).live
  have ap242 : Apart (T233) (onB p159) := Apart.new g232 (onB_live (B226).lt)
  have ap243 : Apart (T233) (T209) := Apart.new g232 (B207).live
  have B244 := B219.all k230 Apart.none
  have B245 := B220.all k230 Apart.none
  have B246 := B221.all k230 Apart.none
  have B247 := B222.all k230 Apart.none
  have B248 := B223.all k230 id
  have B249 := B224.all k230 id
  have B250 := B225.all k230 Apart.none
  have B251 := B226.all k230 id
  have B252 := B207.all k230 Apart.none
  have K253 := K227.trans k230 (fun _ _ x => x.elim)
  refine wl_vw (.string (textOf ([1, 5, 0, 0, 0, 2, 0, 0, 2, 188, 9]))) 9 true 49 rfl rfl rfl rfl rfl (y_text rfl (bytes_at rfl (B231).byt) ⟨rfl, rfl⟩) ?_
  refine wl_vw (.bool true) 9 true 49 rfl rfl rfl rfl rfl (y_eqlS rfl rfl rfl (text_same hf.out.2.2.1) ⟨rfl, rfl⟩) ?_
  refine wl_v (.bool true) rfl rfl (y_pickT rfl rfl rfl ⟨rfl, rfl⟩) ?_
  refine wl_v (.bool true) rfl rfl (y_mov rfl rfl ⟨rfl, rfl⟩) ?_
  refine wl_vw (.int .i64 (headE (1) (5) (2) (700))) 16 true 56 rfl rfl rfl rfl rfl (y_mov rfl s197 ⟨rfl, rfl⟩) ?_
  refine wl_vw (.bool true) 16 true 56 rfl rfl rfl rfl rfl (y_eqlI rfl rfl rfl (decide_eq_true hf.out.2.2.2.1) ⟨rfl, rfl⟩) ?_
  refine wl_v (.bool true) rfl rfl (y_pickT rfl rfl rfl ⟨rfl, rfl⟩) ?_
  refine wl_v (.bool true) rfl rfl (y_mov rfl rfl ⟨rfl, rfl⟩) ?_
  refine wl_vw (.agg #[.int .i64 (rdH t0 ((wrB (1) (5) (2) (700) ([9])))), .int .i64 (rdH t1 ((wrB (1) (5) (2) (700) ([9])))), .int .i64 (rdH t2 ((wrB (1) (5) (2) (700) ([9])))), .int .i64 (rdH t3 ((wrB (1) (5) (2) (700) ([9]))))]) 20 true 60 rfl rfl rfl rfl rfl (y_load_stc stcT_head rfl s198 B248 ⟨rfl, rfl⟩) ?_
  refine wl_vw (.agg #[.int .i64 (1), .int .i64 (5), .int .i64 (2), .int .i64 (700)]) 20 true 60 rfl rfl rfl rfl rfl (y_buildL (l' := [(0, .int .i64 (1)), (1, .int .i64 (5)), (2, .int .i64 (2)), (3, .int .i64 (700))]) (cells := #[.int .i64 (1), .int .i64 (5), .int .i64 (2), .int .i64 (700)]) rfl (bpC rfl (bpC rfl (bpC rfl (bpC rfl bpN)))) (by kernel_rfl) rfl ⟨rfl, rfl⟩) ?_
  refine wl_vw (.bool true) 20 true 60 rfl rfl rfl rfl rfl (y_eqlSI (xs := [rdH t0 ((wrB (1) (5) (2) (700) ([9]))), rdH t1 ((wrB (1) (5) (2) (700) ([9]))), rdH t2 ((wrB (1) (5) (2) (700) ([9]))), rdH t3 ((wrB (1) (5) (2) (700) ([9])))]) (ys := [1, 5, 2, 700]) structI_head rfl rfl rfl rfl rfl (sameI_of (by rw [hw.out.2.1, hw.out.2.2.1, hw.out.2.2.2.1, hw.out.2.2.2.2.1])) ⟨rfl, rfl⟩) ?_
  refine wl_v (.bool true) rfl rfl (y_pickT rfl rfl rfl ⟨rfl, rfl⟩) ?_
  refine wl_v (.bool true) rfl rfl (y_mov rfl rfl ⟨rfl, rfl⟩) ?_
  refine wl_vw (v46) 25 true 65 rfl rfl rfl rfl rfl (y_mov rfl s199 ⟨rfl, rfl⟩) ?_
  refine wl_vw (.string (textOf ((rdP ((wrB (1) (5) (2) (700) ([9]))))))) 25 true 65 rfl rfl rfl rfl rfl (y_text rfl (bytes_at rfl (B247).byt) ⟨rfl, rfl⟩) ?_
  refine wl_when 25 true 65 rfl rfl rfl rfl rfl (y_builtBn (xs := [.const (.int .u8 (9))]) (vs := [.int .u8 (9)]) (l := [9]) rfl rfl rfl (vsC rfl vsN) rfl (Nat.le_of_ble_eq_true rfl) (Nat.le_of_ble_eq_true rfl) (by first | decide | (simp only [List.forall_mem_cons]; simp; omega)) fun v254 w255 T259 B257 g258 k256 => ?_)
  have gr260 : Grew w0 noB (T259) := Grew.new K253 g258
  have ap261 : Apart (T259) (T7) := Apart.new g258 (B244).live
  have ap262 : Apart (T259) (T22) := Apart.new g258 (B245).live
  have ap263 : Apart (T259) (T30) := Apart.new g258 (B246).live
  have ap264 : Apart (T259) (T49) := Apart.new g258 (B247).live
  have ap265 : Apart (T259) (onB p60) := Apart.new g258 (onB_live (B248).lt)
  have ap266 : Apart (T259) (onB p101) := Apart.new g258 (onB_live (B249).lt)
  have ap267 : Apart (T259) (T142) := Apart.new g258 (B250).live
  have ap268 : Apart (T259) (onB p159) := Apart.new g258 (onB_live (B251).lt)
  have ap269 : Apart (T259) (T209) := Apart.new g258 (B252).live
  have ap270 : Apart (T259) (T233) := Apart.new g258 (B231).live
  have B271 := B244.all k256 Apart.none
  have B272 := B245.all k256 Apart.none
  have B273 := B246.all k256 Apart.none
  have B274 := B247.all k256 Apart.none
  have B275 := B248.all k256 id
  have B276 := B249.all k256 id
  have B277 := B250.all k256 Apart.none
  have B278 := B251.all k256 id
  have B279 := B252.all k256 Apart.none
  have B280 := B231.all k256 Apart.none
  have K281 := K253.trans k256 (fun _ _ x => x.elim)
  refine wl_vw (.string (textOf ([9]))) 25 true 65 rfl rfl rfl rfl rfl (y_text rfl (bytes_at rfl (B257).byt) ⟨rfl, rfl⟩) ?_
  refine wl_vw (.bool true) 25 true 65 rfl rfl rfl rfl rfl (y_eqlS rfl rfl rfl (text_same hw.out.2.2.2.2.2.1) ⟨rfl, rfl⟩) ?_
  refine wl_v (.bool true) rfl rfl (y_pickT rfl rfl rfl ⟨rfl, rfl⟩) ?_
  refine wl_v (.bool true) rfl rfl (y_mov rfl rfl ⟨rfl, rfl⟩) ?_
  refine wl_vw (.int .i64 (rdE ((wrB (1) (5) (2) (700) ([9]))))) 32 true 72 rfl rfl rfl rfl rfl (y_mov rfl s200 ⟨rfl, rfl⟩) ?_
  refine wl_vw (.bool true) 32 true 72 rfl rfl rfl rfl rfl (y_eqlI rfl rfl rfl (decide_eq_true hw.out.2.2.2.2.2.2) ⟨rfl, rfl⟩) ?_
  refine wl_v (.bool true) rfl rfl (y_pickT rfl rfl rfl ⟨rfl, rfl⟩) ?_
  refine wl_v (.bool true) rfl rfl (y_mov rfl rfl ⟨rfl, rfl⟩) ?_
  refine wl_vw (.agg #[.int .i64 (od t0 ((opB (8) (16) (300) (1000)))), .int .i64 (od t1 ((opB (8) (16) (300) (1000)))), .int .i64 (od t2 ((opB (8) (16) (300) (1000)))), .int .i64 (od t3 ((opB (8) (16) (300) (1000))))]) 36 true 76 rfl rfl rfl rfl rfl (y_load_stc stcT_seq rfl s201 B276 ⟨rfl, rfl⟩) ?_
  refine wl_vw (.agg #[.int .i64 (8), .int .i64 (16), .int .i64 (300), .int .i64 (1000)]) 36 true 76 rfl rfl rfl rfl rfl (y_buildL (l' := [(0, .int .i64 (8)), (1, .int .i64 (16)), (2, .int .i64 (300)), (3, .int .i64 (1000))]) (cells := #[.int .i64 (8), .int .i64 (16), .int .i64 (300), .int .i64 (1000)]) rfl (bpC rfl (bpC rfl (bpC rfl (bpC rfl bpN)))) (by kernel_rfl) rfl ⟨rfl, rfl⟩) ?_
  refine wl_vw (.bool true) 36 true 76 rfl rfl rfl rfl rfl (y_eqlSI (xs := [od t0 ((opB (8) (16) (300) (1000))), od t1 ((opB (8) (16) (300) (1000))), od t2 ((opB (8) (16) (300) (1000))), od t3 ((opB (8) (16) (300) (1000)))]) (ys := [8, 16, 300, 1000]) structI_seq rfl rfl rfl rfl rfl (sameI_of (by rw [ho.out.2.1, ho.out.2.2.1, ho.out.2.2.2.1, ho.out.2.2.2.2.1])) ⟨rfl, rfl⟩) ?_
  refine wl_v (.bool true) rfl rfl (y_pickT rfl rfl rfl ⟨rfl, rfl⟩) ?_
  refine wl_v (.bool true) rfl rfl (y_mov rfl rfl ⟨rfl, rfl⟩) ?_
  refine wl_vw (.int .i64 (odE ((opB (8) (16) (300) (1000))))) 41 true 81 rfl rfl rfl rfl rfl (y_mov rfl s202 ⟨rfl, rfl⟩) ?_
  refine wl_vw (.bool true) 41 true 81 rfl rfl rfl rfl rfl (y_eqlI rfl rfl rfl (decide_eq_true ho.out.2.2.2.2.2) ⟨rfl, rfl⟩) ?_
  refine wl_v (.bool true) rfl rfl (y_pickT rfl rfl rfl ⟨rfl, rfl⟩) ?_
  refine wl_v (.bool true) rfl rfl (y_mov rfl rfl ⟨rfl, rfl⟩) ?_
  refine wl_vw (.int .i64 (rdE ([]))) 45 true 85 rfl rfl rfl rfl rfl (y_mov rfl s203 ⟨rfl, rfl⟩) ?_
  refine wl_vw (.bool true) 45 true 85 rfl rfl rfl rfl rfl (y_eqlI rfl rfl rfl (decide_eq_true hf.out.2.2.2.2.1) ⟨rfl, rfl⟩) ?_
  refine wl_v (.bool true) rfl rfl (y_pickT rfl rfl rfl ⟨rfl, rfl⟩) ?_
  refine wl_v (.bool true) rfl rfl (y_mov rfl rfl ⟨rfl, rfl⟩) ?_
  refine wl_vw (.agg #[.int .i64 (3), .int .i64 (0), .int .i64 (0), .int .i64 (0)]) 49 true 89 rfl rfl rfl rfl rfl (y_buildL (l' := [(0, .int .i64 (3))]) (cells := #[.int .i64 (3), .int .i64 (0), .int .i64 (0), .int .i64 (0)]) rfl (bpC rfl bpN) (by kernel_rfl) rfl ⟨rfl, rfl⟩) ?_
  refine wl_callw (R := fun v_ w_ => v_ = .int .i64 (headE (3) (0) (0) (0)) ∧ Kept (fun _ => False) w255 w_) 49 true 89 rfl rfl rfl rfl rfl (y_cs rfl rfl rfl (fun _ _ => by kernel_rfl) (ev_func _) (vsC rfl vsN) (hd_head (3) (0) (0) (0)  _   ) (fun e_ w_ h_ => ⟨_, h_.1, rfl, h_.2⟩)) ?_
  rintro _ w282 ⟨rfl, k283⟩
  have B284 := B271.all k283 Apart.none
  have B285 := B272.all k283 Apart.none
  have B286 := B273.all k283 Apart.none
  have B287 := B274.all k283 Apart.none
  have B288 := B275.all k283 id
  have B289 := B276.all k283 id
  have B290 := B277.all k283 Apart.none
  have B291 := B278.all k283 id
  have B292 := B279.all k283 Apart.none
  have B293 := B280.all k283 Apart.none
  have B294 := B257.all k283 Apart.none
  have K295 := K281.trans k283 (fun _ _ x => x.elim)
  refine wl_vw (.bool true) 49 true 89 rfl rfl rfl rfl rfl (y_eqlI rfl rfl rfl (decide_eq_true hf.out.2.2.2.2.2) ⟨rfl, rfl⟩) ?_
  refine wl_v (.bool true) rfl rfl (y_pickT rfl rfl rfl ⟨rfl, rfl⟩) ?_
  refine wl_v (.bool true) rfl rfl (y_mov rfl rfl ⟨rfl, rfl⟩) ?_
  refine wl_vw (.agg #[.int .i64 (od t0 ((opB (8) (16) (300) (1000)))), .int .i64 (od t1 ((opB (8) (16) (300) (1000)))), .int .i64 (od t2 ((opB (8) (16) (300) (1000)))), .int .i64 (od t3 ((opB (8) (16) (300) (1000))))]) 54 true 94 rfl rfl rfl rfl rfl (y_load_stc stcT_seq rfl s201 B289 ⟨rfl, rfl⟩) ?_
  refine wl_callw (R := fun v_ w_ => v_ = .int .i64 (seqE (od t0 ((opB (8) (16) (300) (1000)))) (od t1 ((opB (8) (16) (300) (1000)))) (od t2 ((opB (8) (16) (300) (1000)))) (od t3 ((opB (8) (16) (300) (1000))))) ∧ Kept (fun _ => False) w282 w_) 54 true 94 rfl rfl rfl rfl rfl (y_cs rfl rfl rfl (fun _ _ => by kernel_rfl) (ev_func _) (vsC rfl vsN) (hd_seq (od t0 ((opB (8) (16) (300) (1000)))) (od t1 ((opB (8) (16) (300) (1000)))) (od t2 ((opB (8) (16) (300) (1000)))) (od t3 ((opB (8) (16) (300) (1000))))  _   ) (fun e_ w_ h_ => ⟨_, h_.1, rfl, h_.2⟩)) ?_
  rintro _ w296 ⟨rfl, k297⟩
  have B298 := B284.all k297 Apart.none
  have B299 := B285.all k297 Apart.none
  have B300 := B286.all k297 Apart.none
  have B301 := B287.all k297 Apart.none
  have B302 := B288.all k297 id
  have B303 := B289.all k297 id
  have B304 := B290.all k297 Apart.none
  have B305 := B291.all k297 id
  have B306 := B292.all k297 Apart.none
  have B307 := B293.all k297 Apart.none
  have B308 := B294.all k297 Apart.none
  have K309 := K295.trans k297 (fun _ _ x => x.elim)
  refine wl_vw (.bool true) 54 true 94 rfl rfl rfl rfl rfl (y_eqlI rfl rfl rfl (decide_eq_true (by rw [ho.out.2.1, ho.out.2.2.1, ho.out.2.2.2.1, ho.out.2.2.2.2.1]; exact hf.out.2.1)) ⟨rfl, rfl⟩) ?_
  refine wl_v (.bool true) rfl rfl (y_pickT rfl rfl rfl ⟨rfl, rfl⟩) ?_
  refine wl_v (.bool true) rfl rfl (y_asg rfl rfl ⟨rfl, rfl⟩) ?_
  refine wl_nil fun F310 hF311 => ?_
  have s312 : F310 99 = undef := (hF311 99).trans s193
  have s313 : F310 0 = .bool true := (hF311 0).trans rfl
  clear hF311
  refine then_normal ?_
  refine wq_ret ?_
  exact end_tmp (v := .bool true) s312 rfl rfl s313 ⟨rfl, K309⟩

theorem opB_len {W H R B : Int} (h : seqOk W H R B) : (opB W H R B).length = 10 := by
  rw [show opB W H R B = tenB W H R B from if_pos h]; exact tenB_length W H R B
theorem wrB_len {K Q D F : Int} (h : headOk K Q D F) (p : List Nat) : (wrB K Q D F p).length = p.length + 10 := by
  rw [wrB_yes h, List.length_append, tenB_length]; omega
theorem wrB_le (K Q D F : Int) (p : List Nat) : (wrB K Q D F p).length ≤ p.length + 10 := by
  by_cases h : headOk K Q D F
  · exact Nat.le_of_eq (wrB_len h p)
  · rw [show wrB K Q D F p = [] from if_neg h]; exact Nat.zero_le _
theorem not_same {xs ys : List Int} (h : xs = ys) : (!sameI xs ys) = false := by rw [sameI_of h]; rfl
theorem not_text {l m : List Nat} (h : l = m) : (!((textOf l).toList == (textOf m).toList)) = false := by rw [text_same h]; rfl
set_option maxHeartbeats 4000000 in
set_option maxRecDepth 100000 in
theorem hback_walk (W H R B K Q D F : Int) (v : Value) (l : List Nat) (T_b : Nat → Prop) (w0 : World) (h_b : Byt w0 T_b v (l)) :
    Calls Try.prog 5 #[.agg #[.int .i64 (W), .int .i64 (H), .int .i64 (R), .int .i64 (B)], .agg #[.int .i64 (K), .int .i64 (Q), .int .i64 (D), .int .i64 (F)], v] w0 fun e w' => e = .returned (.bool true) ∧ Kept (fun _ => False) w0 w' := by
  refine calls_wq (args := [.agg #[.int .i64 (W), .int .i64 (H), .int .i64 (R), .int .i64 (B)], .agg #[.int .i64 (K), .int .i64 (Q), .int .i64 (D), .int .i64 (F)], v]) 128 Try.func5 rfl rfl (Nat.le_of_ble_eq_true rfl) ?_
  have K0 := Kept.refl (fun _ => False) w0
  have h256 := h_b.1.lt256
  have hle := wrB_le K Q D F l
  have hyo : ∀ h0 : seqE W H R B = 0, od t0 (opB W H R B) = W ∧ od t1 (opB W H R B) = H ∧ od t2 (opB W H R B) = R ∧ od t3 (opB W H R B) = B ∧ odE (opB W H R B) = 0 := fun h0 => (od_open (seqE_iff.1 h0)).2
  have hyh : ∀ h0 : headE K Q D F = 0, rdOkH (wrB K Q D F l) ∧ rdH t0 (wrB K Q D F l) = K ∧ rdH t1 (wrB K Q D F l) = Q ∧ rdH t2 (wrB K Q D F l) = D ∧ rdH t3 (wrB K Q D F l) = F ∧ rdP (wrB K Q D F l) = l ∧ rdE (wrB K Q D F l) = 0 := fun h0 => rd_write (headE_iff.1 h0) l
  have g_b := Grew.refl w0 T_b
  refine wq_seq ?_
  refine wq_region ?_
  refine wl_box_stc (vs := [.int .i64 (W), .int .i64 (H), .int .i64 (R), .int .i64 (B)]) rfl rfl rfl rfl fun p1 w2 B4 g5 k3 => ?_
  have gr6 : Grew w0 noB (onB p1) := Grew.new K0 g5
  have ap7 : Apart (onB p1) (T_b) := Apart.new g5 (h_b).live
  have B8 := h_b.all k3 Apart.none
  have K9 := K0.trans k3 (fun _ _ x => x.elim)
  refine wl_box_stc (vs := [.int .i64 (K), .int .i64 (Q), .int .i64 (D), .int .i64 (F)]) rfl rfl rfl rfl fun p10 w11 B13 g14 k12 => ?_
  have gr15 : Grew w0 noB (onB p10) := Grew.new K9 g14
  have ap16 : Apart (onB p10) (T_b) := Apart.new g14 (B8).live
  have ap17 : Apart (onB p10) (onB p1) := Apart.new g14 (onB_live (B4).lt)
  have B18 := B8.all k12 Apart.none
  have B19 := B4.all k12 id
  have K20 := K9.trans k12 (fun _ _ x => x.elim)
  refine wl_v (.bool false) rfl rfl (y_asg rfl rfl ⟨rfl, rfl⟩) ?_
  refine wl_nil fun F21 hF22 => ?_
  have s23 : F21 2 = v := (hF22 2).trans rfl
  have s24 : F21 128 = undef := (hF22 128).trans rfl
  have s25 : F21 3 = .pointer (some ⟨p1, 0, none⟩) := (hF22 3).trans rfl
  have s26 : F21 4 = .pointer (some ⟨p10, 0, none⟩) := (hF22 4).trans rfl
  clear hF22
  refine then_normal ?_
  refine wq_seq ?_
  refine wq_region ?_
  refine wl_call (R := fun v_ w_ => v_ = .bool true ∧ Kept (fun _ => False) w11 w_) rfl rfl (y_cs rfl rfl rfl (fun _ _ => by kernel_rfl) (ev_func _) vsN (hawake_any   _   ) (fun e_ w_ h_ => ⟨_, h_.1, rfl, h_.2⟩)) ?_
  rintro _ w27 ⟨rfl, k28⟩
  have B29 := B18.all k28 Apart.none
  have B30 := B19.all k28 id
  have B31 := B13.all k28 id
  have K32 := K20.trans k28 (fun _ _ x => x.elim)
  refine wl_v (.bool true) rfl rfl (y_asg rfl rfl ⟨rfl, rfl⟩) ?_
  refine wl_nil fun F33 hF34 => ?_
  have s35 : F33 2 = v := (hF34 2).trans s23
  have s36 : F33 128 = undef := (hF34 128).trans s24
  have s37 : F33 3 = .pointer (some ⟨p1, 0, none⟩) := (hF34 3).trans s25
  have s38 : F33 4 = .pointer (some ⟨p10, 0, none⟩) := (hF34 4).trans s26
  have s39 : F33 7 = .bool true := (hF34 7).trans rfl
  clear hF34
  refine then_normal ?_
  refine wq_seq ?_
  refine wq_seq ?_
  refine wq_region ?_
  refine wl_v (v) rfl rfl (y_mov rfl s35 ⟨rfl, rfl⟩) ?_
  refine wl_v (.int .i64 ((((l).length : Nat) : Int))) rfl rfl (y_lenV rfl rfl rfl B29 ⟨rfl, rfl⟩) ?_
  refine wl_v (.bool (decide ((500) < ((((l).length : Nat) : Int))))) rfl rfl (y_gtr rfl rfl rfl rfl ⟨rfl, rfl⟩) ?_
  refine wl_nil fun F40 hF41 => ?_
  have s42 : F40 2 = v := (hF41 2).trans s35
  have s43 : F40 128 = undef := (hF41 128).trans s36
  have s44 : F40 3 = .pointer (some ⟨p1, 0, none⟩) := (hF41 3).trans s37
  have s45 : F40 4 = .pointer (some ⟨p10, 0, none⟩) := (hF41 4).trans s38
  have s46 : F40 7 = .bool true := (hF41 7).trans s39
  have s47 : F40 25 = .bool (decide ((500) < ((((l).length : Nat) : Int)))) := (hF41 25).trans rfl
  clear hF41
  refine then_normal ?_
  refine wq_cond s47 (fun c48 => ?_) (fun c48 => ?_)
  · replace c48 := of_decide_eq_true c48
    refine wq_seq ?_
    refine wq_region ?_
    refine wl_v (.bool true) rfl rfl (y_mov rfl s46 ⟨rfl, rfl⟩) ?_
    refine wl_v (.bool true) rfl rfl (y_asg rfl rfl ⟨rfl, rfl⟩) ?_
    refine wl_nil fun F49 hF50 => ?_
    have s51 : F49 128 = undef := (hF50 128).trans s43
    have s52 : F49 6 = .bool true := (hF50 6).trans rfl
    clear hF50
    refine then_normal ?_
    refine wq_ret ?_
    refine then_ret ?_
    exact end_tmp (v := .bool true) s51 rfl rfl s52 ⟨rfl, K32⟩
  · replace c48 := of_decide_eq_false c48
    refine wq_skip ?_
    refine then_normal ?_
    refine wq_seq ?_
    refine wq_region ?_
    refine wl_v (.agg #[.int .i64 (W), .int .i64 (H), .int .i64 (R), .int .i64 (B)]) rfl rfl (y_load_stc stcT_seq rfl s44 B30 ⟨rfl, rfl⟩) ?_
    refine wl_call (R := fun v_ w_ => ∃ (v53 : Value) (T56 : Nat → Prop), .tuple #[v53, .int .i64 (seqE (W) (H) (R) (B))] = v_ ∧ Kept (fun _ => False) w27 w_ ∧ (Owb w_ T56 v53 ((opB (W) (H) (R) (B))) ∧ Grew w27 noB T56)) rfl rfl (y_cs rfl rfl rfl (fun _ _ => by kernel_rfl) (ev_func _) (vsC rfl vsN) (hd_open (W) (H) (R) (B)  _   ) (fun e_ w_ h_ => by obtain ⟨v53_, T56_, he_, hr_⟩ := h_; exact ⟨_, he_, v53_, T56_, rfl, hr_⟩)) ?_
    rintro _ w54 ⟨v53, T56, rfl, k55, ⟨B57, g58⟩⟩
    have B59 := B29.all k55 Apart.none
    have B60 := B30.all k55 id
    have B61 := B31.all k55 id
    have K62 := K32.trans k55 (fun _ _ x => x.elim)
    have gr63 : Grew w0 noB (T56) := Grew.new K32 g58
    have ap64 : Apart (T56) (T_b) := Apart.new g58 (B29).live
    have ap65 : Apart (T56) (onB p1) := Apart.new g58 (onB_live (B30).lt)
    have ap66 : Apart (T56) (onB p10) := Apart.new g58 (onB_live (B31).lt)
    refine wl_v (.tuple #[v53, .int .i64 (seqE (W) (H) (R) (B))]) rfl rfl (y_mov rfl rfl ⟨rfl, rfl⟩) ?_
    refine wl_v (v53) rfl rfl (y_ext rfl rfl rfl ⟨rfl, rfl⟩) ?_
    refine wl_v (.int .i64 (seqE (W) (H) (R) (B))) rfl rfl (y_ext rfl rfl rfl ⟨rfl, rfl⟩) ?_
    refine wl_v (v53) rfl rfl (y_asg rfl rfl ⟨rfl, rfl⟩) ?_
    refine wl_v (.int .i64 (seqE (W) (H) (R) (B))) rfl rfl (y_asg rfl rfl ⟨rfl, rfl⟩) ?_
    refine wl_nil fun F67 hF68 => ?_
    have s69 : F67 2 = v := (hF68 2).trans s42
    have s70 : F67 128 = undef := (hF68 128).trans s43
    have s71 : F67 3 = .pointer (some ⟨p1, 0, none⟩) := (hF68 3).trans s44
    have s72 : F67 4 = .pointer (some ⟨p10, 0, none⟩) := (hF68 4).trans s45
    have s73 : F67 7 = .bool true := (hF68 7).trans s46
    have s74 : F67 8 = v53 := (hF68 8).trans rfl
    have s75 : F67 9 = .int .i64 (seqE (W) (H) (R) (B)) := (hF68 9).trans rfl
    clear hF68
    refine then_normal ?_
    refine wq_seq ?_
    refine wq_region ?_
    refine wl_v (v53) rfl rfl (y_mov rfl s74 ⟨rfl, rfl⟩) ?_
    refine wl_call (R := fun v_ w_ => v_ = .tuple #[.agg #[.int .i64 (od t0 ((opB (W) (H) (R) (B)))), .int .i64 (od t1 ((opB (W) (H) (R) (B)))), .int .i64 (od t2 ((opB (W) (H) (R) (B)))), .int .i64 (od t3 ((opB (W) (H) (R) (B))))], .int .i64 (odE ((opB (W) (H) (R) (B))))] ∧ Kept (fun _ => False) w54 w_) rfl rfl (y_cs rfl rfl rfl (fun _ _ => by kernel_rfl) (ev_func _) (vsC rfl vsN) (hd_opened (v53) ((opB (W) (H) (R) (B))) (T56) _  (B57).byt ) (fun e_ w_ h_ => ⟨_, h_.1, rfl, h_.2⟩)) ?_
    rintro _ w76 ⟨rfl, k77⟩
    have B78 := B59.all k77 Apart.none
    have B79 := B60.all k77 id
    have B80 := B61.all k77 id
    have B81 := B57.all k77 Apart.none
    have K82 := K62.trans k77 (fun _ _ x => x.elim)
    refine wl_v (.tuple #[.agg #[.int .i64 (od t0 ((opB (W) (H) (R) (B)))), .int .i64 (od t1 ((opB (W) (H) (R) (B)))), .int .i64 (od t2 ((opB (W) (H) (R) (B)))), .int .i64 (od t3 ((opB (W) (H) (R) (B))))], .int .i64 (odE ((opB (W) (H) (R) (B))))]) rfl rfl (y_mov rfl rfl ⟨rfl, rfl⟩) ?_
    refine wl_v (.agg #[.int .i64 (od t0 ((opB (W) (H) (R) (B)))), .int .i64 (od t1 ((opB (W) (H) (R) (B)))), .int .i64 (od t2 ((opB (W) (H) (R) (B)))), .int .i64 (od t3 ((opB (W) (H) (R) (B))))]) rfl rfl (y_ext rfl rfl rfl ⟨rfl, rfl⟩) ?_
    refine wl_v (.int .i64 (odE ((opB (W) (H) (R) (B))))) rfl rfl (y_ext rfl rfl rfl ⟨rfl, rfl⟩) ?_
    refine wl_alloc_stc (n := 4) (vs := [.int .i64 (0), .int .i64 (0), .int .i64 (0), .int .i64 (0)]) rfl rfl rfl (by kernel_rfl) fun p83 w84 B86 g87 k85 => ?_
    have gr88 : Grew w0 noB (onB p83) := Grew.new K82 g87
    have ap89 : Apart (onB p83) (T_b) := Apart.new g87 (B78).live
    have ap90 : Apart (onB p83) (onB p1) := Apart.new g87 (onB_live (B79).lt)
    have ap91 : Apart (onB p83) (onB p10) := Apart.new g87 (onB_live (B80).lt)
    have ap92 : Apart (onB p83) (T56) := Apart.new g87 (B81).live
    have B93 := B78.all k85 Apart.none
    have B94 := B79.all k85 id
    have B95 := B80.all k85 id
    have B96 := B81.all k85 Apart.none
    have K97 := K82.trans k85 (fun _ _ x => x.elim)
    refine wl_store_stc (us := [.int .i64 (od t0 ((opB (W) (H) (R) (B)))), .int .i64 (od t1 ((opB (W) (H) (R) (B)))), .int .i64 (od t2 ((opB (W) (H) (R) (B)))), .int .i64 (od t3 ((opB (W) (H) (R) (B))))]) stcT_seq rfl rfl rfl rfl rfl B86 rfl (oneI rfl (oneI rfl (oneI rfl (oneI rfl oneN)))) fun w98 B99 k100 => ?_
    have B101 := B93.all k100 (fun i h x => (((ap89).symm) i h x))
    have B102 := B94.all k100 (fun x => (((ap90).symm) p1 rfl x))
    have B103 := B95.all k100 (fun x => (((ap91).symm) p10 rfl x))
    have B104 := B96.all k100 (fun i h x => (((ap92).symm) i h x))
    have K105 := K97.trans k100 (Grew.ok (S := fun _ => False) gr88 noB_le)
    refine wl_v (.int .i64 (odE ((opB (W) (H) (R) (B))))) rfl rfl (y_asg rfl rfl ⟨rfl, rfl⟩) ?_
    refine wl_nil fun F106 hF107 => ?_
    have s108 : F106 2 = v := (hF107 2).trans s69
    have s109 : F106 128 = undef := (hF107 128).trans s70
    have s110 : F106 3 = .pointer (some ⟨p1, 0, none⟩) := (hF107 3).trans s71
    have s111 : F106 4 = .pointer (some ⟨p10, 0, none⟩) := (hF107 4).trans s72
    have s112 : F106 7 = .bool true := (hF107 7).trans s73
    have s113 : F106 8 = v53 := (hF107 8).trans s74
    have s114 : F106 9 = .int .i64 (seqE (W) (H) (R) (B)) := (hF107 9).trans s75
    have s115 : F106 10 = .pointer (some ⟨p83, 0, none⟩) := (hF107 10).trans rfl
    have s116 : F106 11 = .int .i64 (odE ((opB (W) (H) (R) (B)))) := (hF107 11).trans rfl
    clear hF107
    refine then_normal ?_
    refine wq_seq ?_
    refine wq_seq ?_
    by_cases d117 : (seqE (W) (H) (R) (B)) = (0)
    · skip
      refine wq_region ?_
      refine wl_v (.int .i64 (seqE (W) (H) (R) (B))) rfl rfl (y_mov rfl s114 ⟨rfl, rfl⟩) ?_
      refine wl_v (.bool true) rfl rfl (y_eqlI rfl rfl rfl (decide_eq_true d117) ⟨rfl, rfl⟩) ?_
      refine wl_v (.bool true) rfl rfl (y_mov rfl rfl ⟨rfl, rfl⟩) ?_
      refine wl_vw (.agg #[.int .i64 (od t0 ((opB (W) (H) (R) (B)))), .int .i64 (od t1 ((opB (W) (H) (R) (B)))), .int .i64 (od t2 ((opB (W) (H) (R) (B)))), .int .i64 (od t3 ((opB (W) (H) (R) (B))))]) 2 true 39 rfl rfl rfl rfl rfl (y_load_stc stcT_seq rfl s115 B99 ⟨rfl, rfl⟩) ?_
      refine wl_vw (.agg #[.int .i64 (W), .int .i64 (H), .int .i64 (R), .int .i64 (B)]) 2 true 39 rfl rfl rfl rfl rfl (y_load_stc stcT_seq rfl s110 B102 ⟨rfl, rfl⟩) ?_
      refine wl_vw (.bool false) 2 true 39 rfl rfl rfl rfl rfl (y_neqSI (xs := [od t0 ((opB (W) (H) (R) (B))), od t1 ((opB (W) (H) (R) (B))), od t2 ((opB (W) (H) (R) (B))), od t3 ((opB (W) (H) (R) (B)))]) (ys := [W, H, R, B]) structI_seq rfl rfl rfl rfl rfl (not_same (by have h := hyo (by assumption); rw [h.1, h.2.1, h.2.2.1, h.2.2.2.1])) ⟨rfl, rfl⟩) ?_
      refine wl_vw (.bool false) 2 true 39 rfl rfl rfl rfl rfl (y_mov rfl rfl ⟨rfl, rfl⟩) ?_
      refine wl_vw (.int .i64 (odE ((opB (W) (H) (R) (B))))) 6 false 43 rfl rfl rfl rfl rfl (y_mov rfl s116 ⟨rfl, rfl⟩) ?_
      refine wl_vw (.bool false) 6 false 43 rfl rfl rfl rfl rfl (y_neqI rfl rfl rfl (decide_eq_false (fun h => h (hyo (by assumption)).2.2.2.2)) ⟨rfl, rfl⟩) ?_
      refine wl_vw (.bool false) 2 true 39 rfl rfl rfl rfl rfl (y_pickF rfl rfl rfl ⟨rfl, rfl⟩) ?_
      refine wl_vw (.bool false) 2 true 39 rfl rfl rfl rfl rfl (y_mov rfl rfl ⟨rfl, rfl⟩) ?_
      refine wl_vw (v53) 10 false 47 rfl rfl rfl rfl rfl (y_mov rfl s113 ⟨rfl, rfl⟩) ?_
      refine wl_vw (.int .i64 (((((opB (W) (H) (R) (B))).length : Nat) : Int))) 10 false 47 rfl rfl rfl rfl rfl (y_lenV rfl rfl rfl (B104).byt ⟨rfl, rfl⟩) ?_
      refine wl_vw (.bool false) 10 false 47 rfl rfl rfl rfl rfl (y_neqI rfl rfl rfl (decide_eq_false (by have h := opB_len (seqE_iff.1 (by assumption)); omega)) ⟨rfl, rfl⟩) ?_
      refine wl_vw (.bool false) 2 true 39 rfl rfl rfl rfl rfl (y_pickF rfl rfl rfl ⟨rfl, rfl⟩) ?_
      refine wl_v (.bool false) rfl rfl (y_pickT rfl rfl rfl ⟨rfl, rfl⟩) ?_
      refine wl_nil fun F118 hF119 => ?_
      have s120 : F118 2 = v := (hF119 2).trans s108
      have s121 : F118 128 = undef := (hF119 128).trans s109
      have s122 : F118 4 = .pointer (some ⟨p10, 0, none⟩) := (hF119 4).trans s111
      have s123 : F118 7 = .bool true := (hF119 7).trans s112
      have s124 : F118 52 = .bool false := (hF119 52).trans rfl
      clear hF119
      refine then_normal ?_
      refine wq_cond (t := false) s124 (fun e => by cases e) (fun _ => ?_)
      refine wq_skip ?_
      refine then_normal ?_
      refine wq_seq ?_
      refine wq_region ?_
      refine wl_v (.agg #[.int .i64 (K), .int .i64 (Q), .int .i64 (D), .int .i64 (F)]) rfl rfl (y_load_stc stcT_head rfl s122 B103 ⟨rfl, rfl⟩) ?_
      refine wl_v (v) rfl rfl (y_mov rfl s120 ⟨rfl, rfl⟩) ?_
      refine wl_call (R := fun v_ w_ => ∃ (v125 : Value) (T128 : Nat → Prop), .tuple #[v125, .int .i64 (headE (K) (Q) (D) (F))] = v_ ∧ Kept (fun _ => False) w98 w_ ∧ (Owb w_ T128 v125 ((wrB (K) (Q) (D) (F) (l))) ∧ Grew w98 noB T128)) rfl rfl (y_cs rfl rfl rfl (fun _ _ => by kernel_rfl) (ev_func _) (vsC rfl (vsC rfl vsN)) (hd_write (K) (Q) (D) (F) (v) (l) (T_b) _ (by omega) B101 ) (fun e_ w_ h_ => by obtain ⟨v125_, T128_, he_, hr_⟩ := h_; exact ⟨_, he_, v125_, T128_, rfl, hr_⟩)) ?_
      rintro _ w126 ⟨v125, T128, rfl, k127, ⟨B129, g130⟩⟩
      have B131 := B101.all k127 Apart.none
      have B132 := B102.all k127 id
      have B133 := B103.all k127 id
      have B134 := B104.all k127 Apart.none
      have B135 := B99.all k127 id
      have K136 := K105.trans k127 (fun _ _ x => x.elim)
      have gr137 : Grew w0 noB (T128) := Grew.new K105 g130
      have ap138 : Apart (T128) (T_b) := Apart.new g130 (B101).live
      have ap139 : Apart (T128) (onB p1) := Apart.new g130 (onB_live (B102).lt)
      have ap140 : Apart (T128) (onB p10) := Apart.new g130 (onB_live (B103).lt)
      have ap141 : Apart (T128) (T56) := Apart.new g130 (B104).live
      have ap142 : Apart (T128) (onB p83) := Apart.new g130 (onB_live (B99).lt)
      refine wl_v (.tuple #[v125, .int .i64 (headE (K) (Q) (D) (F))]) rfl rfl (y_mov rfl rfl ⟨rfl, rfl⟩) ?_
      refine wl_v (v125) rfl rfl (y_ext rfl rfl rfl ⟨rfl, rfl⟩) ?_
      refine wl_v (.int .i64 (headE (K) (Q) (D) (F))) rfl rfl (y_ext rfl rfl rfl ⟨rfl, rfl⟩) ?_
      refine wl_v (v125) rfl rfl (y_asg rfl rfl ⟨rfl, rfl⟩) ?_
      refine wl_v (.int .i64 (headE (K) (Q) (D) (F))) rfl rfl (y_asg rfl rfl ⟨rfl, rfl⟩) ?_
      refine wl_nil fun F143 hF144 => ?_
      have s145 : F143 2 = v := (hF144 2).trans s120
      have s146 : F143 128 = undef := (hF144 128).trans s121
      have s147 : F143 4 = .pointer (some ⟨p10, 0, none⟩) := (hF144 4).trans s122
      have s148 : F143 7 = .bool true := (hF144 7).trans s123
      have s149 : F143 12 = v125 := (hF144 12).trans rfl
      have s150 : F143 13 = .int .i64 (headE (K) (Q) (D) (F)) := (hF144 13).trans rfl
      clear hF144
      refine then_normal ?_
      refine wq_seq ?_
      refine wq_region ?_
      refine wl_v (v125) rfl rfl (y_mov rfl s149 ⟨rfl, rfl⟩) ?_
      refine wl_call (R := fun v_ w_ => ∃ (v151 : Value) (T154 : Nat → Prop), .tuple #[.agg #[.int .i64 (rdH t0 ((wrB (K) (Q) (D) (F) (l)))), .int .i64 (rdH t1 ((wrB (K) (Q) (D) (F) (l)))), .int .i64 (rdH t2 ((wrB (K) (Q) (D) (F) (l)))), .int .i64 (rdH t3 ((wrB (K) (Q) (D) (F) (l))))], v151, .int .i64 (rdE ((wrB (K) (Q) (D) (F) (l))))] = v_ ∧ Kept (fun _ => False) w126 w_ ∧ (Owb w_ T154 v151 ((rdP ((wrB (K) (Q) (D) (F) (l))))) ∧ Grew w126 noB T154)) rfl rfl (y_cs rfl rfl rfl (fun _ _ => by kernel_rfl) (ev_func _) (vsC rfl vsN) (hd_read (v125) ((wrB (K) (Q) (D) (F) (l))) (T128) _ (by omega) (B129).byt ) (fun e_ w_ h_ => by obtain ⟨v151_, T154_, he_, hr_⟩ := h_; exact ⟨_, he_, v151_, T154_, rfl, hr_⟩)) ?_
      rintro _ w152 ⟨v151, T154, rfl, k153, ⟨B155, g156⟩⟩
      have B157 := B131.all k153 Apart.none
      have B158 := B132.all k153 id
      have B159 := B133.all k153 id
      have B160 := B134.all k153 Apart.none
      have B161 := B135.all k153 id
      have B162 := B129.all k153 Apart.none
      have K163 := K136.trans k153 (fun _ _ x => x.elim)
      have gr164 : Grew w0 noB (T154) := Grew.new K136 g156
      have ap165 : Apart (T154) (T_b) := Apart.new g156 (B131).live
      have ap166 : Apart (T154) (onB p1) := Apart.new g156 (onB_live (B132).lt)
      have ap167 : Apart (T154) (onB p10) := Apart.new g156 (onB_live (B133).lt)
      have ap168 : Apart (T154) (T56) := Apart.new g156 (B134).live
      have ap169 : Apart (T154) (onB p83) := Apart.new g156 (onB_live (B135).lt)
      have ap170 : Apart (T154) (T128) := Apart.new g156 (B129).live
      refine wl_v (.tuple #[.agg #[.int .i64 (rdH t0 ((wrB (K) (Q) (D) (F) (l)))), .int .i64 (rdH t1 ((wrB (K) (Q) (D) (F) (l)))), .int .i64 (rdH t2 ((wrB (K) (Q) (D) (F) (l)))), .int .i64 (rdH t3 ((wrB (K) (Q) (D) (F) (l))))], v151, .int .i64 (rdE ((wrB (K) (Q) (D) (F) (l))))]) rfl rfl (y_mov rfl rfl ⟨rfl, rfl⟩) ?_
      refine wl_v (.agg #[.int .i64 (rdH t0 ((wrB (K) (Q) (D) (F) (l)))), .int .i64 (rdH t1 ((wrB (K) (Q) (D) (F) (l)))), .int .i64 (rdH t2 ((wrB (K) (Q) (D) (F) (l)))), .int .i64 (rdH t3 ((wrB (K) (Q) (D) (F) (l))))]) rfl rfl (y_ext rfl rfl rfl ⟨rfl, rfl⟩) ?_
      refine wl_v (v151) rfl rfl (y_ext rfl rfl rfl ⟨rfl, rfl⟩) ?_
      refine wl_v (.int .i64 (rdE ((wrB (K) (Q) (D) (F) (l))))) rfl rfl (y_ext rfl rfl rfl ⟨rfl, rfl⟩) ?_
      refine wl_alloc_stc (n := 4) (vs := [.int .i64 (0), .int .i64 (0), .int .i64 (0), .int .i64 (0)]) rfl rfl rfl (by kernel_rfl) fun p171 w172 B174 g175 k173 => ?_
      have gr176 : Grew w0 noB (onB p171) := Grew.new K163 g175
      have ap177 : Apart (onB p171) (T_b) := Apart.new g175 (B157).live
      have ap178 : Apart (onB p171) (onB p1) := Apart.new g175 (onB_live (B158).lt)
      have ap179 : Apart (onB p171) (onB p10) := Apart.new g175 (onB_live (B159).lt)
      have ap180 : Apart (onB p171) (T56) := Apart.new g175 (B160).live
      have ap181 : Apart (onB p171) (onB p83) := Apart.new g175 (onB_live (B161).lt)
      have ap182 : Apart (onB p171) (T128) := Apart.new g175 (B162).live
      have ap183 : Apart (onB p171) (T154) := Apart.new g175 (B155).live
      have B184 := B157.all k173 Apart.none
      have B185 := B158.all k173 id
      have B186 := B159.all k173 id
      have B187 := B160.all k173 Apart.none
      have B188 := B161.all k173 id
      have B189 := B162.all k173 Apart.none
      have B190 := B155.all k173 Apart.none
      have K191 := K163.trans k173 (fun _ _ x => x.elim)
      refine wl_store_stc (us := [.int .i64 (rdH t0 ((wrB (K) (Q) (D) (F) (l)))), .int .i64 (rdH t1 ((wrB (K) (Q) (D) (F) (l)))), .int .i64 (rdH t2 ((wrB (K) (Q) (D) (F) (l)))), .int .i64 (rdH t3 ((wrB (K) (Q) (D) (F) (l))))]) stcT_head rfl rfl rfl rfl rfl B174 rfl (oneI rfl (oneI rfl (oneI rfl (oneI rfl oneN)))) fun w192 B193 k194 => ?_
      have B195 := B184.all k194 (fun i h x => (((ap177).symm) i h x))
      have B196 := B185.all k194 (fun x => (((ap178).symm) p1 rfl x))
      have B197 := B186.all k194 (fun x => (((ap179).symm) p10 rfl x))
      have B198 := B187.all k194 (fun i h x => (((ap180).symm) i h x))
      have B199 := B188.all k194 (fun x => (((ap181).symm) p83 rfl x))
      have B200 := B189.all k194 (fun i h x => (((ap182).symm) i h x))
      have B201 := B190.all k194 (fun i h x => (((ap183).symm) i h x))
      have K202 := K191.trans k194 (Grew.ok (S := fun _ => False) gr176 noB_le)
      refine wl_v (v151) rfl rfl (y_asg rfl rfl ⟨rfl, rfl⟩) ?_
      refine wl_v (.int .i64 (rdE ((wrB (K) (Q) (D) (F) (l))))) rfl rfl (y_asg rfl rfl ⟨rfl, rfl⟩) ?_
      refine wl_nil fun F203 hF204 => ?_
      have s205 : F203 2 = v := (hF204 2).trans s145
      have s206 : F203 128 = undef := (hF204 128).trans s146
      have s207 : F203 4 = .pointer (some ⟨p10, 0, none⟩) := (hF204 4).trans s147
      have s208 : F203 7 = .bool true := (hF204 7).trans s148
      have s209 : F203 12 = v125 := (hF204 12).trans s149
      have s210 : F203 13 = .int .i64 (headE (K) (Q) (D) (F)) := (hF204 13).trans s150
      have s211 : F203 14 = .pointer (some ⟨p171, 0, none⟩) := (hF204 14).trans rfl
      have s212 : F203 15 = v151 := (hF204 15).trans rfl
      have s213 : F203 16 = .int .i64 (rdE ((wrB (K) (Q) (D) (F) (l)))) := (hF204 16).trans rfl
      clear hF204
      refine then_normal ?_
      refine wq_seq ?_
      refine wq_seq ?_
      by_cases d214 : (headE (K) (Q) (D) (F)) = (0)
      · skip
        refine wq_region ?_
        refine wl_v (.int .i64 (headE (K) (Q) (D) (F))) rfl rfl (y_mov rfl s210 ⟨rfl, rfl⟩) ?_
        refine wl_v (.bool true) rfl rfl (y_eqlI rfl rfl rfl (decide_eq_true d214) ⟨rfl, rfl⟩) ?_
        refine wl_v (.bool true) rfl rfl (y_mov rfl rfl ⟨rfl, rfl⟩) ?_
        refine wl_vw (.agg #[.int .i64 (rdH t0 ((wrB (K) (Q) (D) (F) (l)))), .int .i64 (rdH t1 ((wrB (K) (Q) (D) (F) (l)))), .int .i64 (rdH t2 ((wrB (K) (Q) (D) (F) (l)))), .int .i64 (rdH t3 ((wrB (K) (Q) (D) (F) (l))))]) 2 true 67 rfl rfl rfl rfl rfl (y_load_stc stcT_head rfl s211 B193 ⟨rfl, rfl⟩) ?_
        refine wl_vw (.agg #[.int .i64 (K), .int .i64 (Q), .int .i64 (D), .int .i64 (F)]) 2 true 67 rfl rfl rfl rfl rfl (y_load_stc stcT_head rfl s207 B197 ⟨rfl, rfl⟩) ?_
        refine wl_vw (.bool false) 2 true 67 rfl rfl rfl rfl rfl (y_neqSI (xs := [rdH t0 ((wrB (K) (Q) (D) (F) (l))), rdH t1 ((wrB (K) (Q) (D) (F) (l))), rdH t2 ((wrB (K) (Q) (D) (F) (l))), rdH t3 ((wrB (K) (Q) (D) (F) (l)))]) (ys := [K, Q, D, F]) structI_head rfl rfl rfl rfl rfl (not_same (by have h := hyh (by assumption); rw [h.2.1, h.2.2.1, h.2.2.2.1, h.2.2.2.2.1])) ⟨rfl, rfl⟩) ?_
        refine wl_vw (.bool false) 2 true 67 rfl rfl rfl rfl rfl (y_mov rfl rfl ⟨rfl, rfl⟩) ?_
        refine wl_vw (v151) 6 false 71 rfl rfl rfl rfl rfl (y_mov rfl s212 ⟨rfl, rfl⟩) ?_
        refine wl_vw (.string (textOf ((rdP ((wrB (K) (Q) (D) (F) (l))))))) 6 false 71 rfl rfl rfl rfl rfl (y_text rfl (bytes_at rfl (B201).byt) ⟨rfl, rfl⟩) ?_
        refine wl_vw (v) 6 false 71 rfl rfl rfl rfl rfl (y_mov rfl s205 ⟨rfl, rfl⟩) ?_
        refine wl_vw (.string (textOf (l))) 6 false 71 rfl rfl rfl rfl rfl (y_text rfl (bytes_at rfl B195) ⟨rfl, rfl⟩) ?_
        refine wl_vw (.bool false) 6 false 71 rfl rfl rfl rfl rfl (y_neqS rfl rfl rfl (not_text (hyh (by assumption)).2.2.2.2.2.1) ⟨rfl, rfl⟩) ?_
        refine wl_vw (.bool false) 2 true 67 rfl rfl rfl rfl rfl (y_pickF rfl rfl rfl ⟨rfl, rfl⟩) ?_
        refine wl_vw (.bool false) 2 true 67 rfl rfl rfl rfl rfl (y_mov rfl rfl ⟨rfl, rfl⟩) ?_
        refine wl_vw (.int .i64 (rdE ((wrB (K) (Q) (D) (F) (l))))) 13 false 78 rfl rfl rfl rfl rfl (y_mov rfl s213 ⟨rfl, rfl⟩) ?_
        refine wl_vw (.bool false) 13 false 78 rfl rfl rfl rfl rfl (y_neqI rfl rfl rfl (decide_eq_false (fun h => h (hyh (by assumption)).2.2.2.2.2.2)) ⟨rfl, rfl⟩) ?_
        refine wl_vw (.bool false) 2 true 67 rfl rfl rfl rfl rfl (y_pickF rfl rfl rfl ⟨rfl, rfl⟩) ?_
        refine wl_vw (.bool false) 2 true 67 rfl rfl rfl rfl rfl (y_mov rfl rfl ⟨rfl, rfl⟩) ?_
        refine wl_vw (v125) 17 false 82 rfl rfl rfl rfl rfl (y_mov rfl s209 ⟨rfl, rfl⟩) ?_
        refine wl_vw (.int .i64 (((((wrB (K) (Q) (D) (F) (l))).length : Nat) : Int))) 17 false 82 rfl rfl rfl rfl rfl (y_lenV rfl rfl rfl (B200).byt ⟨rfl, rfl⟩) ?_
        refine wl_vw (v) 17 false 82 rfl rfl rfl rfl rfl (y_mov rfl s205 ⟨rfl, rfl⟩) ?_
        refine wl_vw (.int .i64 ((((l).length : Nat) : Int))) 17 false 82 rfl rfl rfl rfl rfl (y_lenV rfl rfl rfl B195 ⟨rfl, rfl⟩) ?_
        refine wl_vw (.int .i64 (((((l).length) + 10 : Nat) : Int))) 17 false 82 rfl rfl rfl rfl rfl (y_add rfl rfl rfl (i64_n (by omega) (by omega)) ⟨rfl, rfl⟩) ?_
        refine wl_vw (.bool false) 17 false 82 rfl rfl rfl rfl rfl (y_neqI rfl rfl rfl (decide_eq_false (by have h := wrB_len (headE_iff.1 (by assumption)) l; omega)) ⟨rfl, rfl⟩) ?_
        refine wl_vw (.bool false) 2 true 67 rfl rfl rfl rfl rfl (y_pickF rfl rfl rfl ⟨rfl, rfl⟩) ?_
        refine wl_v (.bool false) rfl rfl (y_pickT rfl rfl rfl ⟨rfl, rfl⟩) ?_
        refine wl_nil fun F215 hF216 => ?_
        have s217 : F215 2 = v := (hF216 2).trans s205
        have s218 : F215 128 = undef := (hF216 128).trans s206
        have s219 : F215 7 = .bool true := (hF216 7).trans s208
        have s220 : F215 90 = .bool false := (hF216 90).trans rfl
        clear hF216
        refine then_normal ?_
        refine wq_cond (t := false) s220 (fun e => by cases e) (fun _ => ?_)
        refine wq_skip ?_
        refine then_normal ?_
        refine wq_seq ?_
        refine wq_region ?_
        refine wl_v (v) rfl rfl (y_mov rfl s217 ⟨rfl, rfl⟩) ?_
        refine wl_call (R := fun v_ w_ => ∃ (v221 : Value) (T224 : Nat → Prop), .tuple #[.agg #[.int .i64 (rdH t0 (l)), .int .i64 (rdH t1 (l)), .int .i64 (rdH t2 (l)), .int .i64 (rdH t3 (l))], v221, .int .i64 (rdE (l))] = v_ ∧ Kept (fun _ => False) w192 w_ ∧ (Owb w_ T224 v221 ((rdP (l))) ∧ Grew w192 noB T224)) rfl rfl (y_cs rfl rfl rfl (fun _ _ => by kernel_rfl) (ev_func _) (vsC rfl vsN) (hd_read (v) (l) (T_b) _ (by omega) B195 ) (fun e_ w_ h_ => by obtain ⟨v221_, T224_, he_, hr_⟩ := h_; exact ⟨_, he_, v221_, T224_, rfl, hr_⟩)) ?_
        rintro _ w222 ⟨v221, T224, rfl, k223, ⟨B225, g226⟩⟩
        have B227 := B195.all k223 Apart.none
        have B228 := B196.all k223 id
        have B229 := B197.all k223 id
        have B230 := B198.all k223 Apart.none
        have B231 := B199.all k223 id
        have B232 := B200.all k223 Apart.none
        have B233 := B201.all k223 Apart.none
        have B234 := B193.all k223 id
        have K235 := K202.trans k223 (fun _ _ x => x.elim)
        have gr236 : Grew w0 noB (T224) := Grew.new K202 g226
        have ap237 : Apart (T224) (T_b) := Apart.new g226 (B195).live
        have ap238 : Apart (T224) (onB p1) := Apart.new g226 (onB_live (B196).lt)
        have ap239 : Apart (T224) (onB p10) := Apart.new g226 (onB_live (B197).lt)
        have ap240 : Apart (T224) (T56) := Apart.new g226 (B198).live
        have ap241 : Apart (T224) (onB p83) := Apart.new g226 (onB_live (B199).lt)
        have ap242 : Apart (T224) (T128) := Apart.new g226 (B200).live
        have ap243 : Apart (T224) (T154) := Apart.new g226 (B201).live
        have ap244 : Apart (T224) (onB p171) := Apart.new g226 (onB_live (B193).lt)
        refine wl_v (.tuple #[.agg #[.int .i64 (rdH t0 (l)), .int .i64 (rdH t1 (l)), .int .i64 (rdH t2 (l)), .int .i64 (rdH t3 (l))], v221, .int .i64 (rdE (l))]) rfl rfl (y_mov rfl rfl ⟨rfl, rfl⟩) ?_
        refine wl_v (.agg #[.int .i64 (rdH t0 (l)), .int .i64 (rdH t1 (l)), .int .i64 (rdH t2 (l)), .int .i64 (rdH t3 (l))]) rfl rfl (y_ext rfl rfl rfl ⟨rfl, rfl⟩) ?_
        refine wl_v (v221) rfl rfl (y_ext rfl rfl rfl ⟨rfl, rfl⟩) ?_
        refine wl_v (.int .i64 (rdE (l))) rfl rfl (y_ext rfl rfl rfl ⟨rfl, rfl⟩) ?_
        refine wl_alloc_stc (n := 4) (vs := [.int .i64 (0), .int .i64 (0), .int .i64 (0), .int .i64 (0)]) rfl rfl rfl (by kernel_rfl) fun p245 w246 B248 g249 k247 => ?_
        have gr250 : Grew w0 noB (onB p245) := Grew.new K235 g249
        have ap251 : Apart (onB p245) (T_b) := Apart.new g249 (B227).live
        have ap252 : Apart (onB p245) (onB p1) := Apart.new g249 (onB_live (B228).lt)
        have ap253 : Apart (onB p245) (onB p10) := Apart.new g249 (onB_live (B229).lt)
        have ap254 : Apart (onB p245) (T56) := Apart.new g249 (B230).live
        have ap255 : Apart (onB p245) (onB p83) := Apart.new g249 (onB_live (B231).lt)
        have ap256 : Apart (onB p245) (T128) := Apart.new g249 (B232).live
        have ap257 : Apart (onB p245) (T154) := Apart.new g249 (B233).live
        have ap258 : Apart (onB p245) (onB p171) := Apart.new g249 (onB_live (B234).lt)
        have ap259 : Apart (onB p245) (T224) := Apart.new g249 (B225).live
        have B260 := B227.all k247 Apart.none
        have B261 := B228.all k247 id
        have B262 := B229.all k247 id
        have B263 := B230.all k247 Apart.none
        have B264 := B231.all k247 id
        have B265 := B232.all k247 Apart.none
        have B266 := B233.all k247 Apart.none
        have B267 := B234.all k247 id
        have B268 := B225.all k247 Apart.none
        have K269 := K235.trans k247 (fun _ _ x => x.elim)
        refine wl_store_stc (us := [.int .i64 (rdH t0 (l)), .int .i64 (rdH t1 (l)), .int .i64 (rdH t2 (l)), .int .i64 (rdH t3 (l))]) stcT_head rfl rfl rfl rfl rfl B248 rfl (oneI rfl (oneI rfl (oneI rfl (oneI rfl oneN)))) fun w270 B271 k272 => ?_
        have B273 := B260.all k272 (fun i h x => (((ap251).symm) i h x))
        have B274 := B261.all k272 (fun x => (((ap252).symm) p1 rfl x))
        have B275 := B262.all k272 (fun x => (((ap253).symm) p10 rfl x))
        have B276 := B263.all k272 (fun i h x => (((ap254).symm) i h x))
        have B277 := B264.all k272 (fun x => (((ap255).symm) p83 rfl x))
        have B278 := B265.all k272 (fun i h x => (((ap256).symm) i h x))
        have B279 := B266.all k272 (fun i h x => (((ap257).symm) i h x))
        have B280 := B267.all k272 (fun x => (((ap258).symm) p171 rfl x))
        have B281 := B268.all k272 (fun i h x => (((ap259).symm) i h x))
        have K282 := K269.trans k272 (Grew.ok (S := fun _ => False) gr250 noB_le)
        refine wl_v (v221) rfl rfl (y_asg rfl rfl ⟨rfl, rfl⟩) ?_
        refine wl_v (.int .i64 (rdE (l))) rfl rfl (y_asg rfl rfl ⟨rfl, rfl⟩) ?_
        refine wl_nil fun F283 hF284 => ?_
        have s285 : F283 2 = v := (hF284 2).trans s217
        have s286 : F283 128 = undef := (hF284 128).trans s218
        have s287 : F283 7 = .bool true := (hF284 7).trans s219
        have s288 : F283 17 = .pointer (some ⟨p245, 0, none⟩) := (hF284 17).trans rfl
        have s289 : F283 18 = v221 := (hF284 18).trans rfl
        have s290 : F283 19 = .int .i64 (rdE (l)) := (hF284 19).trans rfl
        clear hF284
        refine then_normal ?_
        refine wq_seq ?_
        refine wq_seq ?_
        refine wq_region ?_
        refine wl_v (.int .i64 (rdE (l))) rfl rfl (y_mov rfl s290 ⟨rfl, rfl⟩) ?_
        refine wl_v (.bool (decide ((rdE (l)) ≠ (0)))) rfl rfl (y_neqI rfl rfl rfl rfl ⟨rfl, rfl⟩) ?_
        refine wl_nil fun F291 hF292 => ?_
        have s293 : F291 2 = v := (hF292 2).trans s285
        have s294 : F291 128 = undef := (hF292 128).trans s286
        have s295 : F291 7 = .bool true := (hF292 7).trans s287
        have s296 : F291 17 = .pointer (some ⟨p245, 0, none⟩) := (hF292 17).trans s288
        have s297 : F291 18 = v221 := (hF292 18).trans s289
        have s298 : F291 98 = .bool (decide ((rdE (l)) ≠ (0))) := (hF292 98).trans rfl
        clear hF292
        refine then_normal ?_
        refine wq_cond s298 (fun c299 => ?_) (fun c299 => ?_)
        · replace c299 := of_decide_eq_true c299
          refine wq_seq ?_
          have hno := rd_not (l := l) (fun h => absurd (rdE_iff.2 h) (by assumption))
          refine wq_region ?_
          refine wl_v (.bool true) rfl rfl (y_mov rfl s295 ⟨rfl, rfl⟩) ?_
          refine wl_v (.bool true) rfl rfl (y_mov rfl rfl ⟨rfl, rfl⟩) ?_
          refine wl_vw (.agg #[.int .i64 (rdH t0 (l)), .int .i64 (rdH t1 (l)), .int .i64 (rdH t2 (l)), .int .i64 (rdH t3 (l))]) 1 true 100 rfl rfl rfl rfl rfl (y_load_stc stcT_head rfl s296 B271 ⟨rfl, rfl⟩) ?_
          refine wl_vw (.agg #[.int .i64 (0), .int .i64 (0), .int .i64 (0), .int .i64 (0)]) 1 true 100 rfl rfl rfl rfl rfl (y_buildL (l' := []) (cells := #[.int .i64 (0), .int .i64 (0), .int .i64 (0), .int .i64 (0)]) rfl bpN (by kernel_rfl) rfl ⟨rfl, rfl⟩) ?_
          refine wl_vw (.bool true) 1 true 100 rfl rfl rfl rfl rfl (y_eqlSI (xs := [rdH t0 (l), rdH t1 (l), rdH t2 (l), rdH t3 (l)]) (ys := [0, 0, 0, 0]) structI_head rfl rfl rfl rfl rfl (sameI_of (by rw [hno.1, hno.2.1, hno.2.2.1, hno.2.2.2.1])) ⟨rfl, rfl⟩) ?_
          refine wl_v (.bool true) rfl rfl (y_pickT rfl rfl rfl ⟨rfl, rfl⟩) ?_
          refine wl_v (.bool true) rfl rfl (y_mov rfl rfl ⟨rfl, rfl⟩) ?_
          refine wl_vw (v221) 6 true 105 rfl rfl rfl rfl rfl (y_mov rfl s297 ⟨rfl, rfl⟩) ?_
          refine wl_vw (.int .i64 (((((rdP (l))).length : Nat) : Int))) 6 true 105 rfl rfl rfl rfl rfl (y_lenV rfl rfl rfl (B281).byt ⟨rfl, rfl⟩) ?_
          refine wl_vw (.bool true) 6 true 105 rfl rfl rfl rfl rfl (y_eqlI rfl rfl rfl (decide_eq_true (by rw [hno.2.2.2.2]; rfl)) ⟨rfl, rfl⟩) ?_
          refine wl_v (.bool true) rfl rfl (y_pickT rfl rfl rfl ⟨rfl, rfl⟩) ?_
          refine wl_v (.bool true) rfl rfl (y_asg rfl rfl ⟨rfl, rfl⟩) ?_
          refine wl_nil fun F300 hF301 => ?_
          have s302 : F300 128 = undef := (hF301 128).trans s294
          have s303 : F300 6 = .bool true := (hF301 6).trans rfl
          clear hF301
          refine then_normal ?_
          refine wq_ret ?_
          refine then_ret ?_
          exact end_tmp (v := .bool true) s302 rfl rfl s303 ⟨rfl, K282⟩
        · replace c299 := of_decide_eq_false c299
          refine wq_skip ?_
          refine then_normal ?_
          refine wq_seq ?_
          have hyes := rdE_iff.1 (show rdE l = 0 by first | assumption | (apply Decidable.byContradiction; assumption))
          refine wq_region ?_
          refine wl_v (.agg #[.int .i64 (rdH t0 (l)), .int .i64 (rdH t1 (l)), .int .i64 (rdH t2 (l)), .int .i64 (rdH t3 (l))]) rfl rfl (y_load_stc stcT_head rfl s296 B271 ⟨rfl, rfl⟩) ?_
          refine wl_v (v221) rfl rfl (y_mov rfl s297 ⟨rfl, rfl⟩) ?_
          refine wl_call (R := fun v_ w_ => ∃ (v304 : Value) (T307 : Nat → Prop), .tuple #[v304, .int .i64 (headE (rdH t0 (l)) (rdH t1 (l)) (rdH t2 (l)) (rdH t3 (l)))] = v_ ∧ Kept (fun _ => False) w270 w_ ∧ (Owb w_ T307 v304 ((wrB (rdH t0 (l)) (rdH t1 (l)) (rdH t2 (l)) (rdH t3 (l)) ((rdP (l))))) ∧ Grew w270 noB T307)) rfl rfl (y_cs rfl rfl rfl (fun _ _ => by kernel_rfl) (ev_func _) (vsC rfl (vsC rfl vsN)) (hd_write (rdH t0 (l)) (rdH t1 (l)) (rdH t2 (l)) (rdH t3 (l)) (v221) ((rdP (l))) (T224) _ (by unfold rdP; rw [if_pos hyes, List.length_drop]; omega) (B281).byt ) (fun e_ w_ h_ => by obtain ⟨v304_, T307_, he_, hr_⟩ := h_; exact ⟨_, he_, v304_, T307_, rfl, hr_⟩)) ?_
          rintro _ w305 ⟨v304, T307, rfl, k306, ⟨B308, g309⟩⟩
          have B310 := B273.all k306 Apart.none
          have B311 := B274.all k306 id
          have B312 := B275.all k306 id
          have B313 := B276.all k306 Apart.none
          have B314 := B277.all k306 id
          have B315 := B278.all k306 Apart.none
          have B316 := B279.all k306 Apart.none
          have B317 := B280.all k306 id
          have B318 := B281.all k306 Apart.none
          have B319 := B271.all k306 id
          have K320 := K282.trans k306 (fun _ _ x => x.elim)
          have gr321 : Grew w0 noB (T307) := Grew.new K282 g309
          have ap322 : Apart (T307) (T_b) := Apart.new g309 (B273).live
          have ap323 : Apart (T307) (onB p1) := Apart.new g309 (onB_live (B274).lt)
          have ap324 : Apart (T307) (onB p10) := Apart.new g309 (onB_live (B275).lt)
          have ap325 : Apart (T307) (T56) := Apart.new g309 (B276).live
          have ap326 : Apart (T307) (onB p83) := Apart.new g309 (onB_live (B277).lt)
          have ap327 : Apart (T307) (T128) := Apart.new g309 (B278).live
          have ap328 : Apart (T307) (T154) := Apart.new g309 (B279).live
          have ap329 : Apart (T307) (onB p171) := Apart.new g309 (onB_live (B280).lt)
          have ap330 : Apart (T307) (T224) := Apart.new g309 (B281).live
          have ap331 : Apart (T307) (onB p245) := Apart.new g309 (onB_live (B271).lt)
          refine wl_v (.tuple #[v304, .int .i64 (headE (rdH t0 (l)) (rdH t1 (l)) (rdH t2 (l)) (rdH t3 (l)))]) rfl rfl (y_mov rfl rfl ⟨rfl, rfl⟩) ?_
          refine wl_v (v304) rfl rfl (y_ext rfl rfl rfl ⟨rfl, rfl⟩) ?_
          refine wl_v (.int .i64 (headE (rdH t0 (l)) (rdH t1 (l)) (rdH t2 (l)) (rdH t3 (l)))) rfl rfl (y_ext rfl rfl rfl ⟨rfl, rfl⟩) ?_
          refine wl_v (v304) rfl rfl (y_asg rfl rfl ⟨rfl, rfl⟩) ?_
          refine wl_v (.int .i64 (headE (rdH t0 (l)) (rdH t1 (l)) (rdH t2 (l)) (rdH t3 (l)))) rfl rfl (y_asg rfl rfl ⟨rfl, rfl⟩) ?_
          refine wl_nil fun F332 hF333 => ?_
          have s334 : F332 2 = v := (hF333 2).trans s293
          have s335 : F332 128 = undef := (hF333 128).trans s294
          have s336 : F332 7 = .bool true := (hF333 7).trans s295
          have s337 : F332 20 = v304 := (hF333 20).trans rfl
          have s338 : F332 21 = .int .i64 (headE (rdH t0 (l)) (rdH t1 (l)) (rdH t2 (l)) (rdH t3 (l))) := (hF333 21).trans rfl
          clear hF333
          refine then_normal ?_
          refine wq_seq ?_
          refine wq_region ?_
          refine wl_v (.bool true) rfl rfl (y_mov rfl s336 ⟨rfl, rfl⟩) ?_
          refine wl_v (.bool true) rfl rfl (y_mov rfl rfl ⟨rfl, rfl⟩) ?_
          refine wl_vw (v304) 1 true 117 rfl rfl rfl rfl rfl (y_mov rfl s337 ⟨rfl, rfl⟩) ?_
          refine wl_vw (.string (textOf ((wrB (rdH t0 (l)) (rdH t1 (l)) (rdH t2 (l)) (rdH t3 (l)) ((rdP (l))))))) 1 true 117 rfl rfl rfl rfl rfl (y_text rfl (bytes_at rfl (B308).byt) ⟨rfl, rfl⟩) ?_
          refine wl_vw (v) 1 true 117 rfl rfl rfl rfl rfl (y_mov rfl s334 ⟨rfl, rfl⟩) ?_
          refine wl_vw (.string (textOf (l))) 1 true 117 rfl rfl rfl rfl rfl (y_text rfl (bytes_at rfl B310) ⟨rfl, rfl⟩) ?_
          refine wl_vw (.bool true) 1 true 117 rfl rfl rfl rfl rfl (y_eqlS rfl rfl rfl (text_same (write_rd h256 hyes)) ⟨rfl, rfl⟩) ?_
          refine wl_v (.bool true) rfl rfl (y_pickT rfl rfl rfl ⟨rfl, rfl⟩) ?_
          refine wl_v (.bool true) rfl rfl (y_mov rfl rfl ⟨rfl, rfl⟩) ?_
          refine wl_vw (.int .i64 (headE (rdH t0 (l)) (rdH t1 (l)) (rdH t2 (l)) (rdH t3 (l)))) 8 true 124 rfl rfl rfl rfl rfl (y_mov rfl s338 ⟨rfl, rfl⟩) ?_
          refine wl_vw (.bool true) 8 true 124 rfl rfl rfl rfl rfl (y_eqlI rfl rfl rfl (decide_eq_true (headE_iff.2 (by unfold rdH; rw [if_pos hyes, if_pos hyes, if_pos hyes, if_pos hyes]; exact hyes.2))) ⟨rfl, rfl⟩) ?_
          refine wl_v (.bool true) rfl rfl (y_pickT rfl rfl rfl ⟨rfl, rfl⟩) ?_
          refine wl_v (.bool true) rfl rfl (y_asg rfl rfl ⟨rfl, rfl⟩) ?_
          refine wl_nil fun F339 hF340 => ?_
          have s341 : F339 128 = undef := (hF340 128).trans s335
          have s342 : F339 6 = .bool true := (hF340 6).trans rfl
          clear hF340
          refine then_normal ?_
          refine wq_ret ?_
          exact end_tmp (v := .bool true) s341 rfl rfl s342 ⟨rfl, K320⟩
      · skip
        refine wq_region ?_
        refine wl_v (.int .i64 (headE (K) (Q) (D) (F))) rfl rfl (y_mov rfl s210 ⟨rfl, rfl⟩) ?_
        refine wl_v (.bool false) rfl rfl (y_eqlI rfl rfl rfl (decide_eq_false d214) ⟨rfl, rfl⟩) ?_
        refine wl_v (.bool false) rfl rfl (y_mov rfl rfl ⟨rfl, rfl⟩) ?_
        refine wl_unless 2 true 67 rfl rfl rfl (Or.inl rfl) rfl ?_
        refine wl_unless 2 true 67 rfl rfl rfl (Or.inl rfl) rfl ?_
        refine wl_unless 2 true 67 rfl rfl rfl (Or.inl rfl) rfl ?_
        refine wl_unless 2 true 67 rfl rfl rfl (Or.inl rfl) rfl ?_
        refine wl_unless 6 false 71 rfl rfl rfl (Or.inr rfl) rfl ?_
        refine wl_unless 6 false 71 rfl rfl rfl (Or.inr rfl) rfl ?_
        refine wl_unless 6 false 71 rfl rfl rfl (Or.inr rfl) rfl ?_
        refine wl_unless 6 false 71 rfl rfl rfl (Or.inr rfl) rfl ?_
        refine wl_unless 6 false 71 rfl rfl rfl (Or.inr rfl) rfl ?_
        refine wl_unless 2 true 67 rfl rfl rfl (Or.inl rfl) rfl ?_
        refine wl_unless 2 true 67 rfl rfl rfl (Or.inl rfl) rfl ?_
        refine wl_unless 13 false 78 rfl rfl rfl (Or.inr rfl) rfl ?_
        refine wl_unless 13 false 78 rfl rfl rfl (Or.inr rfl) rfl ?_
        refine wl_unless 2 true 67 rfl rfl rfl (Or.inl rfl) rfl ?_
        refine wl_unless 2 true 67 rfl rfl rfl (Or.inl rfl) rfl ?_
        refine wl_unless 17 false 82 rfl rfl rfl (Or.inr rfl) rfl ?_
        refine wl_unless 17 false 82 rfl rfl rfl (Or.inr rfl) rfl ?_
        refine wl_unless 17 false 82 rfl rfl rfl (Or.inr rfl) rfl ?_
        refine wl_unless 17 false 82 rfl rfl rfl (Or.inr rfl) rfl ?_
        refine wl_unless 17 false 82 rfl rfl rfl (Or.inr rfl) rfl ?_
        refine wl_unless 17 false 82 rfl rfl rfl (Or.inr rfl) rfl ?_
        refine wl_unless 2 true 67 rfl rfl rfl (Or.inl rfl) rfl ?_
        refine wl_v (.bool false) rfl rfl (y_pickF rfl rfl rfl ⟨rfl, rfl⟩) ?_
        refine wl_nil fun F343 hF344 => ?_
        have s345 : F343 2 = v := (hF344 2).trans s205
        have s346 : F343 128 = undef := (hF344 128).trans s206
        have s347 : F343 7 = .bool true := (hF344 7).trans s208
        have s348 : F343 90 = .bool false := (hF344 90).trans rfl
        clear hF344
        refine then_normal ?_
        refine wq_cond (t := false) s348 (fun e => by cases e) (fun _ => ?_)
        refine wq_skip ?_
        refine then_normal ?_
        refine wq_seq ?_
        refine wq_region ?_
        refine wl_v (v) rfl rfl (y_mov rfl s345 ⟨rfl, rfl⟩) ?_
        refine wl_call (R := fun v_ w_ => ∃ (v349 : Value) (T352 : Nat → Prop), .tuple #[.agg #[.int .i64 (rdH t0 (l)), .int .i64 (rdH t1 (l)), .int .i64 (rdH t2 (l)), .int .i64 (rdH t3 (l))], v349, .int .i64 (rdE (l))] = v_ ∧ Kept (fun _ => False) w192 w_ ∧ (Owb w_ T352 v349 ((rdP (l))) ∧ Grew w192 noB T352)) rfl rfl (y_cs rfl rfl rfl (fun _ _ => by kernel_rfl) (ev_func _) (vsC rfl vsN) (hd_read (v) (l) (T_b) _ (by omega) B195 ) (fun e_ w_ h_ => by obtain ⟨v349_, T352_, he_, hr_⟩ := h_; exact ⟨_, he_, v349_, T352_, rfl, hr_⟩)) ?_
        rintro _ w350 ⟨v349, T352, rfl, k351, ⟨B353, g354⟩⟩
        have B355 := B195.all k351 Apart.none
        have B356 := B196.all k351 id
        have B357 := B197.all k351 id
        have B358 := B198.all k351 Apart.none
        have B359 := B199.all k351 id
        have B360 := B200.all k351 Apart.none
        have B361 := B201.all k351 Apart.none
        have B362 := B193.all k351 id
        have K363 := K202.trans k351 (fun _ _ x => x.elim)
        have gr364 : Grew w0 noB (T352) := Grew.new K202 g354
        have ap365 : Apart (T352) (T_b) := Apart.new g354 (B195).live
        have ap366 : Apart (T352) (onB p1) := Apart.new g354 (onB_live (B196).lt)
        have ap367 : Apart (T352) (onB p10) := Apart.new g354 (onB_live (B197).lt)
        have ap368 : Apart (T352) (T56) := Apart.new g354 (B198).live
        have ap369 : Apart (T352) (onB p83) := Apart.new g354 (onB_live (B199).lt)
        have ap370 : Apart (T352) (T128) := Apart.new g354 (B200).live
        have ap371 : Apart (T352) (T154) := Apart.new g354 (B201).live
        have ap372 : Apart (T352) (onB p171) := Apart.new g354 (onB_live (B193).lt)
        refine wl_v (.tuple #[.agg #[.int .i64 (rdH t0 (l)), .int .i64 (rdH t1 (l)), .int .i64 (rdH t2 (l)), .int .i64 (rdH t3 (l))], v349, .int .i64 (rdE (l))]) rfl rfl (y_mov rfl rfl ⟨rfl, rfl⟩) ?_
        refine wl_v (.agg #[.int .i64 (rdH t0 (l)), .int .i64 (rdH t1 (l)), .int .i64 (rdH t2 (l)), .int .i64 (rdH t3 (l))]) rfl rfl (y_ext rfl rfl rfl ⟨rfl, rfl⟩) ?_
        refine wl_v (v349) rfl rfl (y_ext rfl rfl rfl ⟨rfl, rfl⟩) ?_
        refine wl_v (.int .i64 (rdE (l))) rfl rfl (y_ext rfl rfl rfl ⟨rfl, rfl⟩) ?_
        refine wl_alloc_stc (n := 4) (vs := [.int .i64 (0), .int .i64 (0), .int .i64 (0), .int .i64 (0)]) rfl rfl rfl (by kernel_rfl) fun p373 w374 B376 g377 k375 => ?_
        have gr378 : Grew w0 noB (onB p373) := Grew.new K363 g377
        have ap379 : Apart (onB p373) (T_b) := Apart.new g377 (B355).live
        have ap380 : Apart (onB p373) (onB p1) := Apart.new g377 (onB_live (B356).lt)
        have ap381 : Apart (onB p373) (onB p10) := Apart.new g377 (onB_live (B357).lt)
        have ap382 : Apart (onB p373) (T56) := Apart.new g377 (B358).live
        have ap383 : Apart (onB p373) (onB p83) := Apart.new g377 (onB_live (B359).lt)
        have ap384 : Apart (onB p373) (T128) := Apart.new g377 (B360).live
        have ap385 : Apart (onB p373) (T154) := Apart.new g377 (B361).live
        have ap386 : Apart (onB p373) (onB p171) := Apart.new g377 (onB_live (B362).lt)
        have ap387 : Apart (onB p373) (T352) := Apart.new g377 (B353).live
        have B388 := B355.all k375 Apart.none
        have B389 := B356.all k375 id
        have B390 := B357.all k375 id
        have B391 := B358.all k375 Apart.none
        have B392 := B359.all k375 id
        have B393 := B360.all k375 Apart.none
        have B394 := B361.all k375 Apart.none
        have B395 := B362.all k375 id
        have B396 := B353.all k375 Apart.none
        have K397 := K363.trans k375 (fun _ _ x => x.elim)
        refine wl_store_stc (us := [.int .i64 (rdH t0 (l)), .int .i64 (rdH t1 (l)), .int .i64 (rdH t2 (l)), .int .i64 (rdH t3 (l))]) stcT_head rfl rfl rfl rfl rfl B376 rfl (oneI rfl (oneI rfl (oneI rfl (oneI rfl oneN)))) fun w398 B399 k400 => ?_
        have B401 := B388.all k400 (fun i h x => (((ap379).symm) i h x))
        have B402 := B389.all k400 (fun x => (((ap380).symm) p1 rfl x))
        have B403 := B390.all k400 (fun x => (((ap381).symm) p10 rfl x))
        have B404 := B391.all k400 (fun i h x => (((ap382).symm) i h x))
        have B405 := B392.all k400 (fun x => (((ap383).symm) p83 rfl x))
        have B406 := B393.all k400 (fun i h x => (((ap384).symm) i h x))
        have B407 := B394.all k400 (fun i h x => (((ap385).symm) i h x))
        have B408 := B395.all k400 (fun x => (((ap386).symm) p171 rfl x))
        have B409 := B396.all k400 (fun i h x => (((ap387).symm) i h x))
        have K410 := K397.trans k400 (Grew.ok (S := fun _ => False) gr378 noB_le)
        refine wl_v (v349) rfl rfl (y_asg rfl rfl ⟨rfl, rfl⟩) ?_
        refine wl_v (.int .i64 (rdE (l))) rfl rfl (y_asg rfl rfl ⟨rfl, rfl⟩) ?_
        refine wl_nil fun F411 hF412 => ?_
        have s413 : F411 2 = v := (hF412 2).trans s345
        have s414 : F411 128 = undef := (hF412 128).trans s346
        have s415 : F411 7 = .bool true := (hF412 7).trans s347
        have s416 : F411 17 = .pointer (some ⟨p373, 0, none⟩) := (hF412 17).trans rfl
        have s417 : F411 18 = v349 := (hF412 18).trans rfl
        have s418 : F411 19 = .int .i64 (rdE (l)) := (hF412 19).trans rfl
        clear hF412
        refine then_normal ?_
        refine wq_seq ?_
        refine wq_seq ?_
        refine wq_region ?_
        refine wl_v (.int .i64 (rdE (l))) rfl rfl (y_mov rfl s418 ⟨rfl, rfl⟩) ?_
        refine wl_v (.bool (decide ((rdE (l)) ≠ (0)))) rfl rfl (y_neqI rfl rfl rfl rfl ⟨rfl, rfl⟩) ?_
        refine wl_nil fun F419 hF420 => ?_
        have s421 : F419 2 = v := (hF420 2).trans s413
        have s422 : F419 128 = undef := (hF420 128).trans s414
        have s423 : F419 7 = .bool true := (hF420 7).trans s415
        have s424 : F419 17 = .pointer (some ⟨p373, 0, none⟩) := (hF420 17).trans s416
        have s425 : F419 18 = v349 := (hF420 18).trans s417
        have s426 : F419 98 = .bool (decide ((rdE (l)) ≠ (0))) := (hF420 98).trans rfl
        clear hF420
        refine then_normal ?_
        refine wq_cond s426 (fun c427 => ?_) (fun c427 => ?_)
        · replace c427 := of_decide_eq_true c427
          refine wq_seq ?_
          have hno := rd_not (l := l) (fun h => absurd (rdE_iff.2 h) (by assumption))
          refine wq_region ?_
          refine wl_v (.bool true) rfl rfl (y_mov rfl s423 ⟨rfl, rfl⟩) ?_
          refine wl_v (.bool true) rfl rfl (y_mov rfl rfl ⟨rfl, rfl⟩) ?_
          refine wl_vw (.agg #[.int .i64 (rdH t0 (l)), .int .i64 (rdH t1 (l)), .int .i64 (rdH t2 (l)), .int .i64 (rdH t3 (l))]) 1 true 100 rfl rfl rfl rfl rfl (y_load_stc stcT_head rfl s424 B399 ⟨rfl, rfl⟩) ?_
          refine wl_vw (.agg #[.int .i64 (0), .int .i64 (0), .int .i64 (0), .int .i64 (0)]) 1 true 100 rfl rfl rfl rfl rfl (y_buildL (l' := []) (cells := #[.int .i64 (0), .int .i64 (0), .int .i64 (0), .int .i64 (0)]) rfl bpN (by kernel_rfl) rfl ⟨rfl, rfl⟩) ?_
          refine wl_vw (.bool true) 1 true 100 rfl rfl rfl rfl rfl (y_eqlSI (xs := [rdH t0 (l), rdH t1 (l), rdH t2 (l), rdH t3 (l)]) (ys := [0, 0, 0, 0]) structI_head rfl rfl rfl rfl rfl (sameI_of (by rw [hno.1, hno.2.1, hno.2.2.1, hno.2.2.2.1])) ⟨rfl, rfl⟩) ?_
          refine wl_v (.bool true) rfl rfl (y_pickT rfl rfl rfl ⟨rfl, rfl⟩) ?_
          refine wl_v (.bool true) rfl rfl (y_mov rfl rfl ⟨rfl, rfl⟩) ?_
          refine wl_vw (v349) 6 true 105 rfl rfl rfl rfl rfl (y_mov rfl s425 ⟨rfl, rfl⟩) ?_
          refine wl_vw (.int .i64 (((((rdP (l))).length : Nat) : Int))) 6 true 105 rfl rfl rfl rfl rfl (y_lenV rfl rfl rfl (B409).byt ⟨rfl, rfl⟩) ?_
          refine wl_vw (.bool true) 6 true 105 rfl rfl rfl rfl rfl (y_eqlI rfl rfl rfl (decide_eq_true (by rw [hno.2.2.2.2]; rfl)) ⟨rfl, rfl⟩) ?_
          refine wl_v (.bool true) rfl rfl (y_pickT rfl rfl rfl ⟨rfl, rfl⟩) ?_
          refine wl_v (.bool true) rfl rfl (y_asg rfl rfl ⟨rfl, rfl⟩) ?_
          refine wl_nil fun F428 hF429 => ?_
          have s430 : F428 128 = undef := (hF429 128).trans s422
          have s431 : F428 6 = .bool true := (hF429 6).trans rfl
          clear hF429
          refine then_normal ?_
          refine wq_ret ?_
          refine then_ret ?_
          exact end_tmp (v := .bool true) s430 rfl rfl s431 ⟨rfl, K410⟩
        · replace c427 := of_decide_eq_false c427
          refine wq_skip ?_
          refine then_normal ?_
          refine wq_seq ?_
          have hyes := rdE_iff.1 (show rdE l = 0 by first | assumption | (apply Decidable.byContradiction; assumption))
          refine wq_region ?_
          refine wl_v (.agg #[.int .i64 (rdH t0 (l)), .int .i64 (rdH t1 (l)), .int .i64 (rdH t2 (l)), .int .i64 (rdH t3 (l))]) rfl rfl (y_load_stc stcT_head rfl s424 B399 ⟨rfl, rfl⟩) ?_
          refine wl_v (v349) rfl rfl (y_mov rfl s425 ⟨rfl, rfl⟩) ?_
          refine wl_call (R := fun v_ w_ => ∃ (v432 : Value) (T435 : Nat → Prop), .tuple #[v432, .int .i64 (headE (rdH t0 (l)) (rdH t1 (l)) (rdH t2 (l)) (rdH t3 (l)))] = v_ ∧ Kept (fun _ => False) w398 w_ ∧ (Owb w_ T435 v432 ((wrB (rdH t0 (l)) (rdH t1 (l)) (rdH t2 (l)) (rdH t3 (l)) ((rdP (l))))) ∧ Grew w398 noB T435)) rfl rfl (y_cs rfl rfl rfl (fun _ _ => by kernel_rfl) (ev_func _) (vsC rfl (vsC rfl vsN)) (hd_write (rdH t0 (l)) (rdH t1 (l)) (rdH t2 (l)) (rdH t3 (l)) (v349) ((rdP (l))) (T352) _ (by unfold rdP; rw [if_pos hyes, List.length_drop]; omega) (B409).byt ) (fun e_ w_ h_ => by obtain ⟨v432_, T435_, he_, hr_⟩ := h_; exact ⟨_, he_, v432_, T435_, rfl, hr_⟩)) ?_
          rintro _ w433 ⟨v432, T435, rfl, k434, ⟨B436, g437⟩⟩
          have B438 := B401.all k434 Apart.none
          have B439 := B402.all k434 id
          have B440 := B403.all k434 id
          have B441 := B404.all k434 Apart.none
          have B442 := B405.all k434 id
          have B443 := B406.all k434 Apart.none
          have B444 := B407.all k434 Apart.none
          have B445 := B408.all k434 id
          have B446 := B409.all k434 Apart.none
          have B447 := B399.all k434 id
          have K448 := K410.trans k434 (fun _ _ x => x.elim)
          have gr449 : Grew w0 noB (T435) := Grew.new K410 g437
          have ap450 : Apart (T435) (T_b) := Apart.new g437 (B401).live
          have ap451 : Apart (T435) (onB p1) := Apart.new g437 (onB_live (B402).lt)
          have ap452 : Apart (T435) (onB p10) := Apart.new g437 (onB_live (B403).lt)
          have ap453 : Apart (T435) (T56) := Apart.new g437 (B404).live
          have ap454 : Apart (T435) (onB p83) := Apart.new g437 (onB_live (B405).lt)
          have ap455 : Apart (T435) (T128) := Apart.new g437 (B406).live
          have ap456 : Apart (T435) (T154) := Apart.new g437 (B407).live
          have ap457 : Apart (T435) (onB p171) := Apart.new g437 (onB_live (B408).lt)
          have ap458 : Apart (T435) (T352) := Apart.new g437 (B409).live
          have ap459 : Apart (T435) (onB p373) := Apart.new g437 (onB_live (B399).lt)
          refine wl_v (.tuple #[v432, .int .i64 (headE (rdH t0 (l)) (rdH t1 (l)) (rdH t2 (l)) (rdH t3 (l)))]) rfl rfl (y_mov rfl rfl ⟨rfl, rfl⟩) ?_
          refine wl_v (v432) rfl rfl (y_ext rfl rfl rfl ⟨rfl, rfl⟩) ?_
          refine wl_v (.int .i64 (headE (rdH t0 (l)) (rdH t1 (l)) (rdH t2 (l)) (rdH t3 (l)))) rfl rfl (y_ext rfl rfl rfl ⟨rfl, rfl⟩) ?_
          refine wl_v (v432) rfl rfl (y_asg rfl rfl ⟨rfl, rfl⟩) ?_
          refine wl_v (.int .i64 (headE (rdH t0 (l)) (rdH t1 (l)) (rdH t2 (l)) (rdH t3 (l)))) rfl rfl (y_asg rfl rfl ⟨rfl, rfl⟩) ?_
          refine wl_nil fun F460 hF461 => ?_
          have s462 : F460 2 = v := (hF461 2).trans s421
          have s463 : F460 128 = undef := (hF461 128).trans s422
          have s464 : F460 7 = .bool true := (hF461 7).trans s423
          have s465 : F460 20 = v432 := (hF461 20).trans rfl
          have s466 : F460 21 = .int .i64 (headE (rdH t0 (l)) (rdH t1 (l)) (rdH t2 (l)) (rdH t3 (l))) := (hF461 21).trans rfl
          clear hF461
          refine then_normal ?_
          refine wq_seq ?_
          refine wq_region ?_
          refine wl_v (.bool true) rfl rfl (y_mov rfl s464 ⟨rfl, rfl⟩) ?_
          refine wl_v (.bool true) rfl rfl (y_mov rfl rfl ⟨rfl, rfl⟩) ?_
          refine wl_vw (v432) 1 true 117 rfl rfl rfl rfl rfl (y_mov rfl s465 ⟨rfl, rfl⟩) ?_
          refine wl_vw (.string (textOf ((wrB (rdH t0 (l)) (rdH t1 (l)) (rdH t2 (l)) (rdH t3 (l)) ((rdP (l))))))) 1 true 117 rfl rfl rfl rfl rfl (y_text rfl (bytes_at rfl (B436).byt) ⟨rfl, rfl⟩) ?_
          refine wl_vw (v) 1 true 117 rfl rfl rfl rfl rfl (y_mov rfl s462 ⟨rfl, rfl⟩) ?_
          refine wl_vw (.string (textOf (l))) 1 true 117 rfl rfl rfl rfl rfl (y_text rfl (bytes_at rfl B438) ⟨rfl, rfl⟩) ?_
          refine wl_vw (.bool true) 1 true 117 rfl rfl rfl rfl rfl (y_eqlS rfl rfl rfl (text_same (write_rd h256 hyes)) ⟨rfl, rfl⟩) ?_
          refine wl_v (.bool true) rfl rfl (y_pickT rfl rfl rfl ⟨rfl, rfl⟩) ?_
          refine wl_v (.bool true) rfl rfl (y_mov rfl rfl ⟨rfl, rfl⟩) ?_
          refine wl_vw (.int .i64 (headE (rdH t0 (l)) (rdH t1 (l)) (rdH t2 (l)) (rdH t3 (l)))) 8 true 124 rfl rfl rfl rfl rfl (y_mov rfl s466 ⟨rfl, rfl⟩) ?_
          refine wl_vw (.bool true) 8 true 124 rfl rfl rfl rfl rfl (y_eqlI rfl rfl rfl (decide_eq_true (headE_iff.2 (by unfold rdH; rw [if_pos hyes, if_pos hyes, if_pos hyes, if_pos hyes]; exact hyes.2))) ⟨rfl, rfl⟩) ?_
          refine wl_v (.bool true) rfl rfl (y_pickT rfl rfl rfl ⟨rfl, rfl⟩) ?_
          refine wl_v (.bool true) rfl rfl (y_asg rfl rfl ⟨rfl, rfl⟩) ?_
          refine wl_nil fun F467 hF468 => ?_
          have s469 : F467 128 = undef := (hF468 128).trans s463
          have s470 : F467 6 = .bool true := (hF468 6).trans rfl
          clear hF468
          refine then_normal ?_
          refine wq_ret ?_
          exact end_tmp (v := .bool true) s469 rfl rfl s470 ⟨rfl, K448⟩
    · skip
      refine wq_region ?_
      refine wl_v (.int .i64 (seqE (W) (H) (R) (B))) rfl rfl (y_mov rfl s114 ⟨rfl, rfl⟩) ?_
      refine wl_v (.bool false) rfl rfl (y_eqlI rfl rfl rfl (decide_eq_false d117) ⟨rfl, rfl⟩) ?_
      refine wl_v (.bool false) rfl rfl (y_mov rfl rfl ⟨rfl, rfl⟩) ?_
      refine wl_unless 2 true 39 rfl rfl rfl (Or.inl rfl) rfl ?_
      refine wl_unless 2 true 39 rfl rfl rfl (Or.inl rfl) rfl ?_
      refine wl_unless 2 true 39 rfl rfl rfl (Or.inl rfl) rfl ?_
      refine wl_unless 2 true 39 rfl rfl rfl (Or.inl rfl) rfl ?_
      refine wl_unless 6 false 43 rfl rfl rfl (Or.inr rfl) rfl ?_
      refine wl_unless 6 false 43 rfl rfl rfl (Or.inr rfl) rfl ?_
      refine wl_unless 2 true 39 rfl rfl rfl (Or.inl rfl) rfl ?_
      refine wl_unless 2 true 39 rfl rfl rfl (Or.inl rfl) rfl ?_
      refine wl_unless 10 false 47 rfl rfl rfl (Or.inr rfl) rfl ?_
      refine wl_unless 10 false 47 rfl rfl rfl (Or.inr rfl) rfl ?_
      refine wl_unless 10 false 47 rfl rfl rfl (Or.inr rfl) rfl ?_
      refine wl_unless 2 true 39 rfl rfl rfl (Or.inl rfl) rfl ?_
      refine wl_v (.bool false) rfl rfl (y_pickF rfl rfl rfl ⟨rfl, rfl⟩) ?_
      refine wl_nil fun F471 hF472 => ?_
      have s473 : F471 2 = v := (hF472 2).trans s108
      have s474 : F471 128 = undef := (hF472 128).trans s109
      have s475 : F471 4 = .pointer (some ⟨p10, 0, none⟩) := (hF472 4).trans s111
      have s476 : F471 7 = .bool true := (hF472 7).trans s112
      have s477 : F471 52 = .bool false := (hF472 52).trans rfl
      clear hF472
      refine then_normal ?_
      refine wq_cond (t := false) s477 (fun e => by cases e) (fun _ => ?_)
      refine wq_skip ?_
      refine then_normal ?_
      refine wq_seq ?_
      refine wq_region ?_
      refine wl_v (.agg #[.int .i64 (K), .int .i64 (Q), .int .i64 (D), .int .i64 (F)]) rfl rfl (y_load_stc stcT_head rfl s475 B103 ⟨rfl, rfl⟩) ?_
      refine wl_v (v) rfl rfl (y_mov rfl s473 ⟨rfl, rfl⟩) ?_
      refine wl_call (R := fun v_ w_ => ∃ (v478 : Value) (T481 : Nat → Prop), .tuple #[v478, .int .i64 (headE (K) (Q) (D) (F))] = v_ ∧ Kept (fun _ => False) w98 w_ ∧ (Owb w_ T481 v478 ((wrB (K) (Q) (D) (F) (l))) ∧ Grew w98 noB T481)) rfl rfl (y_cs rfl rfl rfl (fun _ _ => by kernel_rfl) (ev_func _) (vsC rfl (vsC rfl vsN)) (hd_write (K) (Q) (D) (F) (v) (l) (T_b) _ (by omega) B101 ) (fun e_ w_ h_ => by obtain ⟨v478_, T481_, he_, hr_⟩ := h_; exact ⟨_, he_, v478_, T481_, rfl, hr_⟩)) ?_
      rintro _ w479 ⟨v478, T481, rfl, k480, ⟨B482, g483⟩⟩
      have B484 := B101.all k480 Apart.none
      have B485 := B102.all k480 id
      have B486 := B103.all k480 id
      have B487 := B104.all k480 Apart.none
      have B488 := B99.all k480 id
      have K489 := K105.trans k480 (fun _ _ x => x.elim)
      have gr490 : Grew w0 noB (T481) := Grew.new K105 g483
      have ap491 : Apart (T481) (T_b) := Apart.new g483 (B101).live
      have ap492 : Apart (T481) (onB p1) := Apart.new g483 (onB_live (B102).lt)
      have ap493 : Apart (T481) (onB p10) := Apart.new g483 (onB_live (B103).lt)
      have ap494 : Apart (T481) (T56) := Apart.new g483 (B104).live
      have ap495 : Apart (T481) (onB p83) := Apart.new g483 (onB_live (B99).lt)
      refine wl_v (.tuple #[v478, .int .i64 (headE (K) (Q) (D) (F))]) rfl rfl (y_mov rfl rfl ⟨rfl, rfl⟩) ?_
      refine wl_v (v478) rfl rfl (y_ext rfl rfl rfl ⟨rfl, rfl⟩) ?_
      refine wl_v (.int .i64 (headE (K) (Q) (D) (F))) rfl rfl (y_ext rfl rfl rfl ⟨rfl, rfl⟩) ?_
      refine wl_v (v478) rfl rfl (y_asg rfl rfl ⟨rfl, rfl⟩) ?_
      refine wl_v (.int .i64 (headE (K) (Q) (D) (F))) rfl rfl (y_asg rfl rfl ⟨rfl, rfl⟩) ?_
      refine wl_nil fun F496 hF497 => ?_
      have s498 : F496 2 = v := (hF497 2).trans s473
      have s499 : F496 128 = undef := (hF497 128).trans s474
      have s500 : F496 4 = .pointer (some ⟨p10, 0, none⟩) := (hF497 4).trans s475
      have s501 : F496 7 = .bool true := (hF497 7).trans s476
      have s502 : F496 12 = v478 := (hF497 12).trans rfl
      have s503 : F496 13 = .int .i64 (headE (K) (Q) (D) (F)) := (hF497 13).trans rfl
      clear hF497
      refine then_normal ?_
      refine wq_seq ?_
      refine wq_region ?_
      refine wl_v (v478) rfl rfl (y_mov rfl s502 ⟨rfl, rfl⟩) ?_
      refine wl_call (R := fun v_ w_ => ∃ (v504 : Value) (T507 : Nat → Prop), .tuple #[.agg #[.int .i64 (rdH t0 ((wrB (K) (Q) (D) (F) (l)))), .int .i64 (rdH t1 ((wrB (K) (Q) (D) (F) (l)))), .int .i64 (rdH t2 ((wrB (K) (Q) (D) (F) (l)))), .int .i64 (rdH t3 ((wrB (K) (Q) (D) (F) (l))))], v504, .int .i64 (rdE ((wrB (K) (Q) (D) (F) (l))))] = v_ ∧ Kept (fun _ => False) w479 w_ ∧ (Owb w_ T507 v504 ((rdP ((wrB (K) (Q) (D) (F) (l))))) ∧ Grew w479 noB T507)) rfl rfl (y_cs rfl rfl rfl (fun _ _ => by kernel_rfl) (ev_func _) (vsC rfl vsN) (hd_read (v478) ((wrB (K) (Q) (D) (F) (l))) (T481) _ (by omega) (B482).byt ) (fun e_ w_ h_ => by obtain ⟨v504_, T507_, he_, hr_⟩ := h_; exact ⟨_, he_, v504_, T507_, rfl, hr_⟩)) ?_
      rintro _ w505 ⟨v504, T507, rfl, k506, ⟨B508, g509⟩⟩
      have B510 := B484.all k506 Apart.none
      have B511 := B485.all k506 id
      have B512 := B486.all k506 id
      have B513 := B487.all k506 Apart.none
      have B514 := B488.all k506 id
      have B515 := B482.all k506 Apart.none
      have K516 := K489.trans k506 (fun _ _ x => x.elim)
      have gr517 : Grew w0 noB (T507) := Grew.new K489 g509
      have ap518 : Apart (T507) (T_b) := Apart.new g509 (B484).live
      have ap519 : Apart (T507) (onB p1) := Apart.new g509 (onB_live (B485).lt)
      have ap520 : Apart (T507) (onB p10) := Apart.new g509 (onB_live (B486).lt)
      have ap521 : Apart (T507) (T56) := Apart.new g509 (B487).live
      have ap522 : Apart (T507) (onB p83) := Apart.new g509 (onB_live (B488).lt)
      have ap523 : Apart (T507) (T481) := Apart.new g509 (B482).live
      refine wl_v (.tuple #[.agg #[.int .i64 (rdH t0 ((wrB (K) (Q) (D) (F) (l)))), .int .i64 (rdH t1 ((wrB (K) (Q) (D) (F) (l)))), .int .i64 (rdH t2 ((wrB (K) (Q) (D) (F) (l)))), .int .i64 (rdH t3 ((wrB (K) (Q) (D) (F) (l))))], v504, .int .i64 (rdE ((wrB (K) (Q) (D) (F) (l))))]) rfl rfl (y_mov rfl rfl ⟨rfl, rfl⟩) ?_
      refine wl_v (.agg #[.int .i64 (rdH t0 ((wrB (K) (Q) (D) (F) (l)))), .int .i64 (rdH t1 ((wrB (K) (Q) (D) (F) (l)))), .int .i64 (rdH t2 ((wrB (K) (Q) (D) (F) (l)))), .int .i64 (rdH t3 ((wrB (K) (Q) (D) (F) (l))))]) rfl rfl (y_ext rfl rfl rfl ⟨rfl, rfl⟩) ?_
      refine wl_v (v504) rfl rfl (y_ext rfl rfl rfl ⟨rfl, rfl⟩) ?_
      refine wl_v (.int .i64 (rdE ((wrB (K) (Q) (D) (F) (l))))) rfl rfl (y_ext rfl rfl rfl ⟨rfl, rfl⟩) ?_
      refine wl_alloc_stc (n := 4) (vs := [.int .i64 (0), .int .i64 (0), .int .i64 (0), .int .i64 (0)]) rfl rfl rfl (by kernel_rfl) fun p524 w525 B527 g528 k526 => ?_
      have gr529 : Grew w0 noB (onB p524) := Grew.new K516 g528
      have ap530 : Apart (onB p524) (T_b) := Apart.new g528 (B510).live
      have ap531 : Apart (onB p524) (onB p1) := Apart.new g528 (onB_live (B511).lt)
      have ap532 : Apart (onB p524) (onB p10) := Apart.new g528 (onB_live (B512).lt)
      have ap533 : Apart (onB p524) (T56) := Apart.new g528 (B513).live
      have ap534 : Apart (onB p524) (onB p83) := Apart.new g528 (onB_live (B514).lt)
      have ap535 : Apart (onB p524) (T481) := Apart.new g528 (B515).live
      have ap536 : Apart (onB p524) (T507) := Apart.new g528 (B508).live
      have B537 := B510.all k526 Apart.none
      have B538 := B511.all k526 id
      have B539 := B512.all k526 id
      have B540 := B513.all k526 Apart.none
      have B541 := B514.all k526 id
      have B542 := B515.all k526 Apart.none
      have B543 := B508.all k526 Apart.none
      have K544 := K516.trans k526 (fun _ _ x => x.elim)
      refine wl_store_stc (us := [.int .i64 (rdH t0 ((wrB (K) (Q) (D) (F) (l)))), .int .i64 (rdH t1 ((wrB (K) (Q) (D) (F) (l)))), .int .i64 (rdH t2 ((wrB (K) (Q) (D) (F) (l)))), .int .i64 (rdH t3 ((wrB (K) (Q) (D) (F) (l))))]) stcT_head rfl rfl rfl rfl rfl B527 rfl (oneI rfl (oneI rfl (oneI rfl (oneI rfl oneN)))) fun w545 B546 k547 => ?_
      have B548 := B537.all k547 (fun i h x => (((ap530).symm) i h x))
      have B549 := B538.all k547 (fun x => (((ap531).symm) p1 rfl x))
      have B550 := B539.all k547 (fun x => (((ap532).symm) p10 rfl x))
      have B551 := B540.all k547 (fun i h x => (((ap533).symm) i h x))
      have B552 := B541.all k547 (fun x => (((ap534).symm) p83 rfl x))
      have B553 := B542.all k547 (fun i h x => (((ap535).symm) i h x))
      have B554 := B543.all k547 (fun i h x => (((ap536).symm) i h x))
      have K555 := K544.trans k547 (Grew.ok (S := fun _ => False) gr529 noB_le)
      refine wl_v (v504) rfl rfl (y_asg rfl rfl ⟨rfl, rfl⟩) ?_
      refine wl_v (.int .i64 (rdE ((wrB (K) (Q) (D) (F) (l))))) rfl rfl (y_asg rfl rfl ⟨rfl, rfl⟩) ?_
      refine wl_nil fun F556 hF557 => ?_
      have s558 : F556 2 = v := (hF557 2).trans s498
      have s559 : F556 128 = undef := (hF557 128).trans s499
      have s560 : F556 4 = .pointer (some ⟨p10, 0, none⟩) := (hF557 4).trans s500
      have s561 : F556 7 = .bool true := (hF557 7).trans s501
      have s562 : F556 12 = v478 := (hF557 12).trans s502
      have s563 : F556 13 = .int .i64 (headE (K) (Q) (D) (F)) := (hF557 13).trans s503
      have s564 : F556 14 = .pointer (some ⟨p524, 0, none⟩) := (hF557 14).trans rfl
      have s565 : F556 15 = v504 := (hF557 15).trans rfl
      have s566 : F556 16 = .int .i64 (rdE ((wrB (K) (Q) (D) (F) (l)))) := (hF557 16).trans rfl
      clear hF557
      refine then_normal ?_
      refine wq_seq ?_
      refine wq_seq ?_
      by_cases d567 : (headE (K) (Q) (D) (F)) = (0)
      · skip
        refine wq_region ?_
        refine wl_v (.int .i64 (headE (K) (Q) (D) (F))) rfl rfl (y_mov rfl s563 ⟨rfl, rfl⟩) ?_
        refine wl_v (.bool true) rfl rfl (y_eqlI rfl rfl rfl (decide_eq_true d567) ⟨rfl, rfl⟩) ?_
        refine wl_v (.bool true) rfl rfl (y_mov rfl rfl ⟨rfl, rfl⟩) ?_
        refine wl_vw (.agg #[.int .i64 (rdH t0 ((wrB (K) (Q) (D) (F) (l)))), .int .i64 (rdH t1 ((wrB (K) (Q) (D) (F) (l)))), .int .i64 (rdH t2 ((wrB (K) (Q) (D) (F) (l)))), .int .i64 (rdH t3 ((wrB (K) (Q) (D) (F) (l))))]) 2 true 67 rfl rfl rfl rfl rfl (y_load_stc stcT_head rfl s564 B546 ⟨rfl, rfl⟩) ?_
        refine wl_vw (.agg #[.int .i64 (K), .int .i64 (Q), .int .i64 (D), .int .i64 (F)]) 2 true 67 rfl rfl rfl rfl rfl (y_load_stc stcT_head rfl s560 B550 ⟨rfl, rfl⟩) ?_
        refine wl_vw (.bool false) 2 true 67 rfl rfl rfl rfl rfl (y_neqSI (xs := [rdH t0 ((wrB (K) (Q) (D) (F) (l))), rdH t1 ((wrB (K) (Q) (D) (F) (l))), rdH t2 ((wrB (K) (Q) (D) (F) (l))), rdH t3 ((wrB (K) (Q) (D) (F) (l)))]) (ys := [K, Q, D, F]) structI_head rfl rfl rfl rfl rfl (not_same (by have h := hyh (by assumption); rw [h.2.1, h.2.2.1, h.2.2.2.1, h.2.2.2.2.1])) ⟨rfl, rfl⟩) ?_
        refine wl_vw (.bool false) 2 true 67 rfl rfl rfl rfl rfl (y_mov rfl rfl ⟨rfl, rfl⟩) ?_
        refine wl_vw (v504) 6 false 71 rfl rfl rfl rfl rfl (y_mov rfl s565 ⟨rfl, rfl⟩) ?_
        refine wl_vw (.string (textOf ((rdP ((wrB (K) (Q) (D) (F) (l))))))) 6 false 71 rfl rfl rfl rfl rfl (y_text rfl (bytes_at rfl (B554).byt) ⟨rfl, rfl⟩) ?_
        refine wl_vw (v) 6 false 71 rfl rfl rfl rfl rfl (y_mov rfl s558 ⟨rfl, rfl⟩) ?_
        refine wl_vw (.string (textOf (l))) 6 false 71 rfl rfl rfl rfl rfl (y_text rfl (bytes_at rfl B548) ⟨rfl, rfl⟩) ?_
        refine wl_vw (.bool false) 6 false 71 rfl rfl rfl rfl rfl (y_neqS rfl rfl rfl (not_text (hyh (by assumption)).2.2.2.2.2.1) ⟨rfl, rfl⟩) ?_
        refine wl_vw (.bool false) 2 true 67 rfl rfl rfl rfl rfl (y_pickF rfl rfl rfl ⟨rfl, rfl⟩) ?_
        refine wl_vw (.bool false) 2 true 67 rfl rfl rfl rfl rfl (y_mov rfl rfl ⟨rfl, rfl⟩) ?_
        refine wl_vw (.int .i64 (rdE ((wrB (K) (Q) (D) (F) (l))))) 13 false 78 rfl rfl rfl rfl rfl (y_mov rfl s566 ⟨rfl, rfl⟩) ?_
        refine wl_vw (.bool false) 13 false 78 rfl rfl rfl rfl rfl (y_neqI rfl rfl rfl (decide_eq_false (fun h => h (hyh (by assumption)).2.2.2.2.2.2)) ⟨rfl, rfl⟩) ?_
        refine wl_vw (.bool false) 2 true 67 rfl rfl rfl rfl rfl (y_pickF rfl rfl rfl ⟨rfl, rfl⟩) ?_
        refine wl_vw (.bool false) 2 true 67 rfl rfl rfl rfl rfl (y_mov rfl rfl ⟨rfl, rfl⟩) ?_
        refine wl_vw (v478) 17 false 82 rfl rfl rfl rfl rfl (y_mov rfl s562 ⟨rfl, rfl⟩) ?_
        refine wl_vw (.int .i64 (((((wrB (K) (Q) (D) (F) (l))).length : Nat) : Int))) 17 false 82 rfl rfl rfl rfl rfl (y_lenV rfl rfl rfl (B553).byt ⟨rfl, rfl⟩) ?_
        refine wl_vw (v) 17 false 82 rfl rfl rfl rfl rfl (y_mov rfl s558 ⟨rfl, rfl⟩) ?_
        refine wl_vw (.int .i64 ((((l).length : Nat) : Int))) 17 false 82 rfl rfl rfl rfl rfl (y_lenV rfl rfl rfl B548 ⟨rfl, rfl⟩) ?_
        refine wl_vw (.int .i64 (((((l).length) + 10 : Nat) : Int))) 17 false 82 rfl rfl rfl rfl rfl (y_add rfl rfl rfl (i64_n (by omega) (by omega)) ⟨rfl, rfl⟩) ?_
        refine wl_vw (.bool false) 17 false 82 rfl rfl rfl rfl rfl (y_neqI rfl rfl rfl (decide_eq_false (by have h := wrB_len (headE_iff.1 (by assumption)) l; omega)) ⟨rfl, rfl⟩) ?_
        refine wl_vw (.bool false) 2 true 67 rfl rfl rfl rfl rfl (y_pickF rfl rfl rfl ⟨rfl, rfl⟩) ?_
        refine wl_v (.bool false) rfl rfl (y_pickT rfl rfl rfl ⟨rfl, rfl⟩) ?_
        refine wl_nil fun F568 hF569 => ?_
        have s570 : F568 2 = v := (hF569 2).trans s558
        have s571 : F568 128 = undef := (hF569 128).trans s559
        have s572 : F568 7 = .bool true := (hF569 7).trans s561
        have s573 : F568 90 = .bool false := (hF569 90).trans rfl
        clear hF569
        refine then_normal ?_
        refine wq_cond (t := false) s573 (fun e => by cases e) (fun _ => ?_)
        refine wq_skip ?_
        refine then_normal ?_
        refine wq_seq ?_
        refine wq_region ?_
        refine wl_v (v) rfl rfl (y_mov rfl s570 ⟨rfl, rfl⟩) ?_
        refine wl_call (R := fun v_ w_ => ∃ (v574 : Value) (T577 : Nat → Prop), .tuple #[.agg #[.int .i64 (rdH t0 (l)), .int .i64 (rdH t1 (l)), .int .i64 (rdH t2 (l)), .int .i64 (rdH t3 (l))], v574, .int .i64 (rdE (l))] = v_ ∧ Kept (fun _ => False) w545 w_ ∧ (Owb w_ T577 v574 ((rdP (l))) ∧ Grew w545 noB T577)) rfl rfl (y_cs rfl rfl rfl (fun _ _ => by kernel_rfl) (ev_func _) (vsC rfl vsN) (hd_read (v) (l) (T_b) _ (by omega) B548 ) (fun e_ w_ h_ => by obtain ⟨v574_, T577_, he_, hr_⟩ := h_; exact ⟨_, he_, v574_, T577_, rfl, hr_⟩)) ?_
        rintro _ w575 ⟨v574, T577, rfl, k576, ⟨B578, g579⟩⟩
        have B580 := B548.all k576 Apart.none
        have B581 := B549.all k576 id
        have B582 := B550.all k576 id
        have B583 := B551.all k576 Apart.none
        have B584 := B552.all k576 id
        have B585 := B553.all k576 Apart.none
        have B586 := B554.all k576 Apart.none
        have B587 := B546.all k576 id
        have K588 := K555.trans k576 (fun _ _ x => x.elim)
        have gr589 : Grew w0 noB (T577) := Grew.new K555 g579
        have ap590 : Apart (T577) (T_b) := Apart.new g579 (B548).live
        have ap591 : Apart (T577) (onB p1) := Apart.new g579 (onB_live (B549).lt)
        have ap592 : Apart (T577) (onB p10) := Apart.new g579 (onB_live (B550).lt)
        have ap593 : Apart (T577) (T56) := Apart.new g579 (B551).live
        have ap594 : Apart (T577) (onB p83) := Apart.new g579 (onB_live (B552).lt)
        have ap595 : Apart (T577) (T481) := Apart.new g579 (B553).live
        have ap596 : Apart (T577) (T507) := Apart.new g579 (B554).live
        have ap597 : Apart (T577) (onB p524) := Apart.new g579 (onB_live (B546).lt)
        refine wl_v (.tuple #[.agg #[.int .i64 (rdH t0 (l)), .int .i64 (rdH t1 (l)), .int .i64 (rdH t2 (l)), .int .i64 (rdH t3 (l))], v574, .int .i64 (rdE (l))]) rfl rfl (y_mov rfl rfl ⟨rfl, rfl⟩) ?_
        refine wl_v (.agg #[.int .i64 (rdH t0 (l)), .int .i64 (rdH t1 (l)), .int .i64 (rdH t2 (l)), .int .i64 (rdH t3 (l))]) rfl rfl (y_ext rfl rfl rfl ⟨rfl, rfl⟩) ?_
        refine wl_v (v574) rfl rfl (y_ext rfl rfl rfl ⟨rfl, rfl⟩) ?_
        refine wl_v (.int .i64 (rdE (l))) rfl rfl (y_ext rfl rfl rfl ⟨rfl, rfl⟩) ?_
        refine wl_alloc_stc (n := 4) (vs := [.int .i64 (0), .int .i64 (0), .int .i64 (0), .int .i64 (0)]) rfl rfl rfl (by kernel_rfl) fun p598 w599 B601 g602 k600 => ?_
        have gr603 : Grew w0 noB (onB p598) := Grew.new K588 g602
        have ap604 : Apart (onB p598) (T_b) := Apart.new g602 (B580).live
        have ap605 : Apart (onB p598) (onB p1) := Apart.new g602 (onB_live (B581).lt)
        have ap606 : Apart (onB p598) (onB p10) := Apart.new g602 (onB_live (B582).lt)
        have ap607 : Apart (onB p598) (T56) := Apart.new g602 (B583).live
        have ap608 : Apart (onB p598) (onB p83) := Apart.new g602 (onB_live (B584).lt)
        have ap609 : Apart (onB p598) (T481) := Apart.new g602 (B585).live
        have ap610 : Apart (onB p598) (T507) := Apart.new g602 (B586).live
        have ap611 : Apart (onB p598) (onB p524) := Apart.new g602 (onB_live (B587).lt)
        have ap612 : Apart (onB p598) (T577) := Apart.new g602 (B578).live
        have B613 := B580.all k600 Apart.none
        have B614 := B581.all k600 id
        have B615 := B582.all k600 id
        have B616 := B583.all k600 Apart.none
        have B617 := B584.all k600 id
        have B618 := B585.all k600 Apart.none
        have B619 := B586.all k600 Apart.none
        have B620 := B587.all k600 id
        have B621 := B578.all k600 Apart.none
        have K622 := K588.trans k600 (fun _ _ x => x.elim)
        refine wl_store_stc (us := [.int .i64 (rdH t0 (l)), .int .i64 (rdH t1 (l)), .int .i64 (rdH t2 (l)), .int .i64 (rdH t3 (l))]) stcT_head rfl rfl rfl rfl rfl B601 rfl (oneI rfl (oneI rfl (oneI rfl (oneI rfl oneN)))) fun w623 B624 k625 => ?_
        have B626 := B613.all k625 (fun i h x => (((ap604).symm) i h x))
        have B627 := B614.all k625 (fun x => (((ap605).symm) p1 rfl x))
        have B628 := B615.all k625 (fun x => (((ap606).symm) p10 rfl x))
        have B629 := B616.all k625 (fun i h x => (((ap607).symm) i h x))
        have B630 := B617.all k625 (fun x => (((ap608).symm) p83 rfl x))
        have B631 := B618.all k625 (fun i h x => (((ap609).symm) i h x))
        have B632 := B619.all k625 (fun i h x => (((ap610).symm) i h x))
        have B633 := B620.all k625 (fun x => (((ap611).symm) p524 rfl x))
        have B634 := B621.all k625 (fun i h x => (((ap612).symm) i h x))
        have K635 := K622.trans k625 (Grew.ok (S := fun _ => False) gr603 noB_le)
        refine wl_v (v574) rfl rfl (y_asg rfl rfl ⟨rfl, rfl⟩) ?_
        refine wl_v (.int .i64 (rdE (l))) rfl rfl (y_asg rfl rfl ⟨rfl, rfl⟩) ?_
        refine wl_nil fun F636 hF637 => ?_
        have s638 : F636 2 = v := (hF637 2).trans s570
        have s639 : F636 128 = undef := (hF637 128).trans s571
        have s640 : F636 7 = .bool true := (hF637 7).trans s572
        have s641 : F636 17 = .pointer (some ⟨p598, 0, none⟩) := (hF637 17).trans rfl
        have s642 : F636 18 = v574 := (hF637 18).trans rfl
        have s643 : F636 19 = .int .i64 (rdE (l)) := (hF637 19).trans rfl
        clear hF637
        refine then_normal ?_
        refine wq_seq ?_
        refine wq_seq ?_
        refine wq_region ?_
        refine wl_v (.int .i64 (rdE (l))) rfl rfl (y_mov rfl s643 ⟨rfl, rfl⟩) ?_
        refine wl_v (.bool (decide ((rdE (l)) ≠ (0)))) rfl rfl (y_neqI rfl rfl rfl rfl ⟨rfl, rfl⟩) ?_
        refine wl_nil fun F644 hF645 => ?_
        have s646 : F644 2 = v := (hF645 2).trans s638
        have s647 : F644 128 = undef := (hF645 128).trans s639
        have s648 : F644 7 = .bool true := (hF645 7).trans s640
        have s649 : F644 17 = .pointer (some ⟨p598, 0, none⟩) := (hF645 17).trans s641
        have s650 : F644 18 = v574 := (hF645 18).trans s642
        have s651 : F644 98 = .bool (decide ((rdE (l)) ≠ (0))) := (hF645 98).trans rfl
        clear hF645
        refine then_normal ?_
        refine wq_cond s651 (fun c652 => ?_) (fun c652 => ?_)
        · replace c652 := of_decide_eq_true c652
          refine wq_seq ?_
          have hno := rd_not (l := l) (fun h => absurd (rdE_iff.2 h) (by assumption))
          refine wq_region ?_
          refine wl_v (.bool true) rfl rfl (y_mov rfl s648 ⟨rfl, rfl⟩) ?_
          refine wl_v (.bool true) rfl rfl (y_mov rfl rfl ⟨rfl, rfl⟩) ?_
          refine wl_vw (.agg #[.int .i64 (rdH t0 (l)), .int .i64 (rdH t1 (l)), .int .i64 (rdH t2 (l)), .int .i64 (rdH t3 (l))]) 1 true 100 rfl rfl rfl rfl rfl (y_load_stc stcT_head rfl s649 B624 ⟨rfl, rfl⟩) ?_
          refine wl_vw (.agg #[.int .i64 (0), .int .i64 (0), .int .i64 (0), .int .i64 (0)]) 1 true 100 rfl rfl rfl rfl rfl (y_buildL (l' := []) (cells := #[.int .i64 (0), .int .i64 (0), .int .i64 (0), .int .i64 (0)]) rfl bpN (by kernel_rfl) rfl ⟨rfl, rfl⟩) ?_
          refine wl_vw (.bool true) 1 true 100 rfl rfl rfl rfl rfl (y_eqlSI (xs := [rdH t0 (l), rdH t1 (l), rdH t2 (l), rdH t3 (l)]) (ys := [0, 0, 0, 0]) structI_head rfl rfl rfl rfl rfl (sameI_of (by rw [hno.1, hno.2.1, hno.2.2.1, hno.2.2.2.1])) ⟨rfl, rfl⟩) ?_
          refine wl_v (.bool true) rfl rfl (y_pickT rfl rfl rfl ⟨rfl, rfl⟩) ?_
          refine wl_v (.bool true) rfl rfl (y_mov rfl rfl ⟨rfl, rfl⟩) ?_
          refine wl_vw (v574) 6 true 105 rfl rfl rfl rfl rfl (y_mov rfl s650 ⟨rfl, rfl⟩) ?_
          refine wl_vw (.int .i64 (((((rdP (l))).length : Nat) : Int))) 6 true 105 rfl rfl rfl rfl rfl (y_lenV rfl rfl rfl (B634).byt ⟨rfl, rfl⟩) ?_
          refine wl_vw (.bool true) 6 true 105 rfl rfl rfl rfl rfl (y_eqlI rfl rfl rfl (decide_eq_true (by rw [hno.2.2.2.2]; rfl)) ⟨rfl, rfl⟩) ?_
          refine wl_v (.bool true) rfl rfl (y_pickT rfl rfl rfl ⟨rfl, rfl⟩) ?_
          refine wl_v (.bool true) rfl rfl (y_asg rfl rfl ⟨rfl, rfl⟩) ?_
          refine wl_nil fun F653 hF654 => ?_
          have s655 : F653 128 = undef := (hF654 128).trans s647
          have s656 : F653 6 = .bool true := (hF654 6).trans rfl
          clear hF654
          refine then_normal ?_
          refine wq_ret ?_
          refine then_ret ?_
          exact end_tmp (v := .bool true) s655 rfl rfl s656 ⟨rfl, K635⟩
        · replace c652 := of_decide_eq_false c652
          refine wq_skip ?_
          refine then_normal ?_
          refine wq_seq ?_
          have hyes := rdE_iff.1 (show rdE l = 0 by first | assumption | (apply Decidable.byContradiction; assumption))
          refine wq_region ?_
          refine wl_v (.agg #[.int .i64 (rdH t0 (l)), .int .i64 (rdH t1 (l)), .int .i64 (rdH t2 (l)), .int .i64 (rdH t3 (l))]) rfl rfl (y_load_stc stcT_head rfl s649 B624 ⟨rfl, rfl⟩) ?_
          refine wl_v (v574) rfl rfl (y_mov rfl s650 ⟨rfl, rfl⟩) ?_
          refine wl_call (R := fun v_ w_ => ∃ (v657 : Value) (T660 : Nat → Prop), .tuple #[v657, .int .i64 (headE (rdH t0 (l)) (rdH t1 (l)) (rdH t2 (l)) (rdH t3 (l)))] = v_ ∧ Kept (fun _ => False) w623 w_ ∧ (Owb w_ T660 v657 ((wrB (rdH t0 (l)) (rdH t1 (l)) (rdH t2 (l)) (rdH t3 (l)) ((rdP (l))))) ∧ Grew w623 noB T660)) rfl rfl (y_cs rfl rfl rfl (fun _ _ => by kernel_rfl) (ev_func _) (vsC rfl (vsC rfl vsN)) (hd_write (rdH t0 (l)) (rdH t1 (l)) (rdH t2 (l)) (rdH t3 (l)) (v574) ((rdP (l))) (T577) _ (by unfold rdP; rw [if_pos hyes, List.length_drop]; omega) (B634).byt ) (fun e_ w_ h_ => by obtain ⟨v657_, T660_, he_, hr_⟩ := h_; exact ⟨_, he_, v657_, T660_, rfl, hr_⟩)) ?_
          rintro _ w658 ⟨v657, T660, rfl, k659, ⟨B661, g662⟩⟩
          have B663 := B626.all k659 Apart.none
          have B664 := B627.all k659 id
          have B665 := B628.all k659 id
          have B666 := B629.all k659 Apart.none
          have B667 := B630.all k659 id
          have B668 := B631.all k659 Apart.none
          have B669 := B632.all k659 Apart.none
          have B670 := B633.all k659 id
          have B671 := B634.all k659 Apart.none
          have B672 := B624.all k659 id
          have K673 := K635.trans k659 (fun _ _ x => x.elim)
          have gr674 : Grew w0 noB (T660) := Grew.new K635 g662
          have ap675 : Apart (T660) (T_b) := Apart.new g662 (B626).live
          have ap676 : Apart (T660) (onB p1) := Apart.new g662 (onB_live (B627).lt)
          have ap677 : Apart (T660) (onB p10) := Apart.new g662 (onB_live (B628).lt)
          have ap678 : Apart (T660) (T56) := Apart.new g662 (B629).live
          have ap679 : Apart (T660) (onB p83) := Apart.new g662 (onB_live (B630).lt)
          have ap680 : Apart (T660) (T481) := Apart.new g662 (B631).live
          have ap681 : Apart (T660) (T507) := Apart.new g662 (B632).live
          have ap682 : Apart (T660) (onB p524) := Apart.new g662 (onB_live (B633).lt)
          have ap683 : Apart (T660) (T577) := Apart.new g662 (B634).live
          have ap684 : Apart (T660) (onB p598) := Apart.new g662 (onB_live (B624).lt)
          refine wl_v (.tuple #[v657, .int .i64 (headE (rdH t0 (l)) (rdH t1 (l)) (rdH t2 (l)) (rdH t3 (l)))]) rfl rfl (y_mov rfl rfl ⟨rfl, rfl⟩) ?_
          refine wl_v (v657) rfl rfl (y_ext rfl rfl rfl ⟨rfl, rfl⟩) ?_
          refine wl_v (.int .i64 (headE (rdH t0 (l)) (rdH t1 (l)) (rdH t2 (l)) (rdH t3 (l)))) rfl rfl (y_ext rfl rfl rfl ⟨rfl, rfl⟩) ?_
          refine wl_v (v657) rfl rfl (y_asg rfl rfl ⟨rfl, rfl⟩) ?_
          refine wl_v (.int .i64 (headE (rdH t0 (l)) (rdH t1 (l)) (rdH t2 (l)) (rdH t3 (l)))) rfl rfl (y_asg rfl rfl ⟨rfl, rfl⟩) ?_
          refine wl_nil fun F685 hF686 => ?_
          have s687 : F685 2 = v := (hF686 2).trans s646
          have s688 : F685 128 = undef := (hF686 128).trans s647
          have s689 : F685 7 = .bool true := (hF686 7).trans s648
          have s690 : F685 20 = v657 := (hF686 20).trans rfl
          have s691 : F685 21 = .int .i64 (headE (rdH t0 (l)) (rdH t1 (l)) (rdH t2 (l)) (rdH t3 (l))) := (hF686 21).trans rfl
          clear hF686
          refine then_normal ?_
          refine wq_seq ?_
          refine wq_region ?_
          refine wl_v (.bool true) rfl rfl (y_mov rfl s689 ⟨rfl, rfl⟩) ?_
          refine wl_v (.bool true) rfl rfl (y_mov rfl rfl ⟨rfl, rfl⟩) ?_
          refine wl_vw (v657) 1 true 117 rfl rfl rfl rfl rfl (y_mov rfl s690 ⟨rfl, rfl⟩) ?_
          refine wl_vw (.string (textOf ((wrB (rdH t0 (l)) (rdH t1 (l)) (rdH t2 (l)) (rdH t3 (l)) ((rdP (l))))))) 1 true 117 rfl rfl rfl rfl rfl (y_text rfl (bytes_at rfl (B661).byt) ⟨rfl, rfl⟩) ?_
          refine wl_vw (v) 1 true 117 rfl rfl rfl rfl rfl (y_mov rfl s687 ⟨rfl, rfl⟩) ?_
          refine wl_vw (.string (textOf (l))) 1 true 117 rfl rfl rfl rfl rfl (y_text rfl (bytes_at rfl B663) ⟨rfl, rfl⟩) ?_
          refine wl_vw (.bool true) 1 true 117 rfl rfl rfl rfl rfl (y_eqlS rfl rfl rfl (text_same (write_rd h256 hyes)) ⟨rfl, rfl⟩) ?_
          refine wl_v (.bool true) rfl rfl (y_pickT rfl rfl rfl ⟨rfl, rfl⟩) ?_
          refine wl_v (.bool true) rfl rfl (y_mov rfl rfl ⟨rfl, rfl⟩) ?_
          refine wl_vw (.int .i64 (headE (rdH t0 (l)) (rdH t1 (l)) (rdH t2 (l)) (rdH t3 (l)))) 8 true 124 rfl rfl rfl rfl rfl (y_mov rfl s691 ⟨rfl, rfl⟩) ?_
          refine wl_vw (.bool true) 8 true 124 rfl rfl rfl rfl rfl (y_eqlI rfl rfl rfl (decide_eq_true (headE_iff.2 (by unfold rdH; rw [if_pos hyes, if_pos hyes, if_pos hyes, if_pos hyes]; exact hyes.2))) ⟨rfl, rfl⟩) ?_
          refine wl_v (.bool true) rfl rfl (y_pickT rfl rfl rfl ⟨rfl, rfl⟩) ?_
          refine wl_v (.bool true) rfl rfl (y_asg rfl rfl ⟨rfl, rfl⟩) ?_
          refine wl_nil fun F692 hF693 => ?_
          have s694 : F692 128 = undef := (hF693 128).trans s688
          have s695 : F692 6 = .bool true := (hF693 6).trans rfl
          clear hF693
          refine then_normal ?_
          refine wq_ret ?_
          exact end_tmp (v := .bool true) s694 rfl rfl s695 ⟨rfl, K673⟩
      · skip
        refine wq_region ?_
        refine wl_v (.int .i64 (headE (K) (Q) (D) (F))) rfl rfl (y_mov rfl s563 ⟨rfl, rfl⟩) ?_
        refine wl_v (.bool false) rfl rfl (y_eqlI rfl rfl rfl (decide_eq_false d567) ⟨rfl, rfl⟩) ?_
        refine wl_v (.bool false) rfl rfl (y_mov rfl rfl ⟨rfl, rfl⟩) ?_
        refine wl_unless 2 true 67 rfl rfl rfl (Or.inl rfl) rfl ?_
        refine wl_unless 2 true 67 rfl rfl rfl (Or.inl rfl) rfl ?_
        refine wl_unless 2 true 67 rfl rfl rfl (Or.inl rfl) rfl ?_
        refine wl_unless 2 true 67 rfl rfl rfl (Or.inl rfl) rfl ?_
        refine wl_unless 6 false 71 rfl rfl rfl (Or.inr rfl) rfl ?_
        refine wl_unless 6 false 71 rfl rfl rfl (Or.inr rfl) rfl ?_
        refine wl_unless 6 false 71 rfl rfl rfl (Or.inr rfl) rfl ?_
        refine wl_unless 6 false 71 rfl rfl rfl (Or.inr rfl) rfl ?_
        refine wl_unless 6 false 71 rfl rfl rfl (Or.inr rfl) rfl ?_
        refine wl_unless 2 true 67 rfl rfl rfl (Or.inl rfl) rfl ?_
        refine wl_unless 2 true 67 rfl rfl rfl (Or.inl rfl) rfl ?_
        refine wl_unless 13 false 78 rfl rfl rfl (Or.inr rfl) rfl ?_
        refine wl_unless 13 false 78 rfl rfl rfl (Or.inr rfl) rfl ?_
        refine wl_unless 2 true 67 rfl rfl rfl (Or.inl rfl) rfl ?_
        refine wl_unless 2 true 67 rfl rfl rfl (Or.inl rfl) rfl ?_
        refine wl_unless 17 false 82 rfl rfl rfl (Or.inr rfl) rfl ?_
        refine wl_unless 17 false 82 rfl rfl rfl (Or.inr rfl) rfl ?_
        refine wl_unless 17 false 82 rfl rfl rfl (Or.inr rfl) rfl ?_
        refine wl_unless 17 false 82 rfl rfl rfl (Or.inr rfl) rfl ?_
        refine wl_unless 17 false 82 rfl rfl rfl (Or.inr rfl) rfl ?_
        refine wl_unless 17 false 82 rfl rfl rfl (Or.inr rfl) rfl ?_
        refine wl_unless 2 true 67 rfl rfl rfl (Or.inl rfl) rfl ?_
        refine wl_v (.bool false) rfl rfl (y_pickF rfl rfl rfl ⟨rfl, rfl⟩) ?_
        refine wl_nil fun F696 hF697 => ?_
        have s698 : F696 2 = v := (hF697 2).trans s558
        have s699 : F696 128 = undef := (hF697 128).trans s559
        have s700 : F696 7 = .bool true := (hF697 7).trans s561
        have s701 : F696 90 = .bool false := (hF697 90).trans rfl
        clear hF697
        refine then_normal ?_
        refine wq_cond (t := false) s701 (fun e => by cases e) (fun _ => ?_)
        refine wq_skip ?_
        refine then_normal ?_
        refine wq_seq ?_
        refine wq_region ?_
        refine wl_v (v) rfl rfl (y_mov rfl s698 ⟨rfl, rfl⟩) ?_
        refine wl_call (R := fun v_ w_ => ∃ (v702 : Value) (T705 : Nat → Prop), .tuple #[.agg #[.int .i64 (rdH t0 (l)), .int .i64 (rdH t1 (l)), .int .i64 (rdH t2 (l)), .int .i64 (rdH t3 (l))], v702, .int .i64 (rdE (l))] = v_ ∧ Kept (fun _ => False) w545 w_ ∧ (Owb w_ T705 v702 ((rdP (l))) ∧ Grew w545 noB T705)) rfl rfl (y_cs rfl rfl rfl (fun _ _ => by kernel_rfl) (ev_func _) (vsC rfl vsN) (hd_read (v) (l) (T_b) _ (by omega) B548 ) (fun e_ w_ h_ => by obtain ⟨v702_, T705_, he_, hr_⟩ := h_; exact ⟨_, he_, v702_, T705_, rfl, hr_⟩)) ?_
        rintro _ w703 ⟨v702, T705, rfl, k704, ⟨B706, g707⟩⟩
        have B708 := B548.all k704 Apart.none
        have B709 := B549.all k704 id
        have B710 := B550.all k704 id
        have B711 := B551.all k704 Apart.none
        have B712 := B552.all k704 id
        have B713 := B553.all k704 Apart.none
        have B714 := B554.all k704 Apart.none
        have B715 := B546.all k704 id
        have K716 := K555.trans k704 (fun _ _ x => x.elim)
        have gr717 : Grew w0 noB (T705) := Grew.new K555 g707
        have ap718 : Apart (T705) (T_b) := Apart.new g707 (B548).live
        have ap719 : Apart (T705) (onB p1) := Apart.new g707 (onB_live (B549).lt)
        have ap720 : Apart (T705) (onB p10) := Apart.new g707 (onB_live (B550).lt)
        have ap721 : Apart (T705) (T56) := Apart.new g707 (B551).live
        have ap722 : Apart (T705) (onB p83) := Apart.new g707 (onB_live (B552).lt)
        have ap723 : Apart (T705) (T481) := Apart.new g707 (B553).live
        have ap724 : Apart (T705) (T507) := Apart.new g707 (B554).live
        have ap725 : Apart (T705) (onB p524) := Apart.new g707 (onB_live (B546).lt)
        refine wl_v (.tuple #[.agg #[.int .i64 (rdH t0 (l)), .int .i64 (rdH t1 (l)), .int .i64 (rdH t2 (l)), .int .i64 (rdH t3 (l))], v702, .int .i64 (rdE (l))]) rfl rfl (y_mov rfl rfl ⟨rfl, rfl⟩) ?_
        refine wl_v (.agg #[.int .i64 (rdH t0 (l)), .int .i64 (rdH t1 (l)), .int .i64 (rdH t2 (l)), .int .i64 (rdH t3 (l))]) rfl rfl (y_ext rfl rfl rfl ⟨rfl, rfl⟩) ?_
        refine wl_v (v702) rfl rfl (y_ext rfl rfl rfl ⟨rfl, rfl⟩) ?_
        refine wl_v (.int .i64 (rdE (l))) rfl rfl (y_ext rfl rfl rfl ⟨rfl, rfl⟩) ?_
        refine wl_alloc_stc (n := 4) (vs := [.int .i64 (0), .int .i64 (0), .int .i64 (0), .int .i64 (0)]) rfl rfl rfl (by kernel_rfl) fun p726 w727 B729 g730 k728 => ?_
        have gr731 : Grew w0 noB (onB p726) := Grew.new K716 g730
        have ap732 : Apart (onB p726) (T_b) := Apart.new g730 (B708).live
        have ap733 : Apart (onB p726) (onB p1) := Apart.new g730 (onB_live (B709).lt)
        have ap734 : Apart (onB p726) (onB p10) := Apart.new g730 (onB_live (B710).lt)
        have ap735 : Apart (onB p726) (T56) := Apart.new g730 (B711).live
        have ap736 : Apart (onB p726) (onB p83) := Apart.new g730 (onB_live (B712).lt)
        have ap737 : Apart (onB p726) (T481) := Apart.new g730 (B713).live
        have ap738 : Apart (onB p726) (T507) := Apart.new g730 (B714).live
        have ap739 : Apart (onB p726) (onB p524) := Apart.new g730 (onB_live (B715).lt)
        have ap740 : Apart (onB p726) (T705) := Apart.new g730 (B706).live
        have B741 := B708.all k728 Apart.none
        have B742 := B709.all k728 id
        have B743 := B710.all k728 id
        have B744 := B711.all k728 Apart.none
        have B745 := B712.all k728 id
        have B746 := B713.all k728 Apart.none
        have B747 := B714.all k728 Apart.none
        have B748 := B715.all k728 id
        have B749 := B706.all k728 Apart.none
        have K750 := K716.trans k728 (fun _ _ x => x.elim)
        refine wl_store_stc (us := [.int .i64 (rdH t0 (l)), .int .i64 (rdH t1 (l)), .int .i64 (rdH t2 (l)), .int .i64 (rdH t3 (l))]) stcT_head rfl rfl rfl rfl rfl B729 rfl (oneI rfl (oneI rfl (oneI rfl (oneI rfl oneN)))) fun w751 B752 k753 => ?_
        have B754 := B741.all k753 (fun i h x => (((ap732).symm) i h x))
        have B755 := B742.all k753 (fun x => (((ap733).symm) p1 rfl x))
        have B756 := B743.all k753 (fun x => (((ap734).symm) p10 rfl x))
        have B757 := B744.all k753 (fun i h x => (((ap735).symm) i h x))
        have B758 := B745.all k753 (fun x => (((ap736).symm) p83 rfl x))
        have B759 := B746.all k753 (fun i h x => (((ap737).symm) i h x))
        have B760 := B747.all k753 (fun i h x => (((ap738).symm) i h x))
        have B761 := B748.all k753 (fun x => (((ap739).symm) p524 rfl x))
        have B762 := B749.all k753 (fun i h x => (((ap740).symm) i h x))
        have K763 := K750.trans k753 (Grew.ok (S := fun _ => False) gr731 noB_le)
        refine wl_v (v702) rfl rfl (y_asg rfl rfl ⟨rfl, rfl⟩) ?_
        refine wl_v (.int .i64 (rdE (l))) rfl rfl (y_asg rfl rfl ⟨rfl, rfl⟩) ?_
        refine wl_nil fun F764 hF765 => ?_
        have s766 : F764 2 = v := (hF765 2).trans s698
        have s767 : F764 128 = undef := (hF765 128).trans s699
        have s768 : F764 7 = .bool true := (hF765 7).trans s700
        have s769 : F764 17 = .pointer (some ⟨p726, 0, none⟩) := (hF765 17).trans rfl
        have s770 : F764 18 = v702 := (hF765 18).trans rfl
        have s771 : F764 19 = .int .i64 (rdE (l)) := (hF765 19).trans rfl
        clear hF765
        refine then_normal ?_
        refine wq_seq ?_
        refine wq_seq ?_
        refine wq_region ?_
        refine wl_v (.int .i64 (rdE (l))) rfl rfl (y_mov rfl s771 ⟨rfl, rfl⟩) ?_
        refine wl_v (.bool (decide ((rdE (l)) ≠ (0)))) rfl rfl (y_neqI rfl rfl rfl rfl ⟨rfl, rfl⟩) ?_
        refine wl_nil fun F772 hF773 => ?_
        have s774 : F772 2 = v := (hF773 2).trans s766
        have s775 : F772 128 = undef := (hF773 128).trans s767
        have s776 : F772 7 = .bool true := (hF773 7).trans s768
        have s777 : F772 17 = .pointer (some ⟨p726, 0, none⟩) := (hF773 17).trans s769
        have s778 : F772 18 = v702 := (hF773 18).trans s770
        have s779 : F772 98 = .bool (decide ((rdE (l)) ≠ (0))) := (hF773 98).trans rfl
        clear hF773
        refine then_normal ?_
        refine wq_cond s779 (fun c780 => ?_) (fun c780 => ?_)
        · replace c780 := of_decide_eq_true c780
          refine wq_seq ?_
          have hno := rd_not (l := l) (fun h => absurd (rdE_iff.2 h) (by assumption))
          refine wq_region ?_
          refine wl_v (.bool true) rfl rfl (y_mov rfl s776 ⟨rfl, rfl⟩) ?_
          refine wl_v (.bool true) rfl rfl (y_mov rfl rfl ⟨rfl, rfl⟩) ?_
          refine wl_vw (.agg #[.int .i64 (rdH t0 (l)), .int .i64 (rdH t1 (l)), .int .i64 (rdH t2 (l)), .int .i64 (rdH t3 (l))]) 1 true 100 rfl rfl rfl rfl rfl (y_load_stc stcT_head rfl s777 B752 ⟨rfl, rfl⟩) ?_
          refine wl_vw (.agg #[.int .i64 (0), .int .i64 (0), .int .i64 (0), .int .i64 (0)]) 1 true 100 rfl rfl rfl rfl rfl (y_buildL (l' := []) (cells := #[.int .i64 (0), .int .i64 (0), .int .i64 (0), .int .i64 (0)]) rfl bpN (by kernel_rfl) rfl ⟨rfl, rfl⟩) ?_
          refine wl_vw (.bool true) 1 true 100 rfl rfl rfl rfl rfl (y_eqlSI (xs := [rdH t0 (l), rdH t1 (l), rdH t2 (l), rdH t3 (l)]) (ys := [0, 0, 0, 0]) structI_head rfl rfl rfl rfl rfl (sameI_of (by rw [hno.1, hno.2.1, hno.2.2.1, hno.2.2.2.1])) ⟨rfl, rfl⟩) ?_
          refine wl_v (.bool true) rfl rfl (y_pickT rfl rfl rfl ⟨rfl, rfl⟩) ?_
          refine wl_v (.bool true) rfl rfl (y_mov rfl rfl ⟨rfl, rfl⟩) ?_
          refine wl_vw (v702) 6 true 105 rfl rfl rfl rfl rfl (y_mov rfl s778 ⟨rfl, rfl⟩) ?_
          refine wl_vw (.int .i64 (((((rdP (l))).length : Nat) : Int))) 6 true 105 rfl rfl rfl rfl rfl (y_lenV rfl rfl rfl (B762).byt ⟨rfl, rfl⟩) ?_
          refine wl_vw (.bool true) 6 true 105 rfl rfl rfl rfl rfl (y_eqlI rfl rfl rfl (decide_eq_true (by rw [hno.2.2.2.2]; rfl)) ⟨rfl, rfl⟩) ?_
          refine wl_v (.bool true) rfl rfl (y_pickT rfl rfl rfl ⟨rfl, rfl⟩) ?_
          refine wl_v (.bool true) rfl rfl (y_asg rfl rfl ⟨rfl, rfl⟩) ?_
          refine wl_nil fun F781 hF782 => ?_
          have s783 : F781 128 = undef := (hF782 128).trans s775
          have s784 : F781 6 = .bool true := (hF782 6).trans rfl
          clear hF782
          refine then_normal ?_
          refine wq_ret ?_
          refine then_ret ?_
          exact end_tmp (v := .bool true) s783 rfl rfl s784 ⟨rfl, K763⟩
        · replace c780 := of_decide_eq_false c780
          refine wq_skip ?_
          refine then_normal ?_
          refine wq_seq ?_
          have hyes := rdE_iff.1 (show rdE l = 0 by first | assumption | (apply Decidable.byContradiction; assumption))
          refine wq_region ?_
          refine wl_v (.agg #[.int .i64 (rdH t0 (l)), .int .i64 (rdH t1 (l)), .int .i64 (rdH t2 (l)), .int .i64 (rdH t3 (l))]) rfl rfl (y_load_stc stcT_head rfl s777 B752 ⟨rfl, rfl⟩) ?_
          refine wl_v (v702) rfl rfl (y_mov rfl s778 ⟨rfl, rfl⟩) ?_
          refine wl_call (R := fun v_ w_ => ∃ (v785 : Value) (T788 : Nat → Prop), .tuple #[v785, .int .i64 (headE (rdH t0 (l)) (rdH t1 (l)) (rdH t2 (l)) (rdH t3 (l)))] = v_ ∧ Kept (fun _ => False) w751 w_ ∧ (Owb w_ T788 v785 ((wrB (rdH t0 (l)) (rdH t1 (l)) (rdH t2 (l)) (rdH t3 (l)) ((rdP (l))))) ∧ Grew w751 noB T788)) rfl rfl (y_cs rfl rfl rfl (fun _ _ => by kernel_rfl) (ev_func _) (vsC rfl (vsC rfl vsN)) (hd_write (rdH t0 (l)) (rdH t1 (l)) (rdH t2 (l)) (rdH t3 (l)) (v702) ((rdP (l))) (T705) _ (by unfold rdP; rw [if_pos hyes, List.length_drop]; omega) (B762).byt ) (fun e_ w_ h_ => by obtain ⟨v785_, T788_, he_, hr_⟩ := h_; exact ⟨_, he_, v785_, T788_, rfl, hr_⟩)) ?_
          rintro _ w786 ⟨v785, T788, rfl, k787, ⟨B789, g790⟩⟩
          have B791 := B754.all k787 Apart.none
          have B792 := B755.all k787 id
          have B793 := B756.all k787 id
          have B794 := B757.all k787 Apart.none
          have B795 := B758.all k787 id
          have B796 := B759.all k787 Apart.none
          have B797 := B760.all k787 Apart.none
          have B798 := B761.all k787 id
          have B799 := B762.all k787 Apart.none
          have B800 := B752.all k787 id
          have K801 := K763.trans k787 (fun _ _ x => x.elim)
          have gr802 : Grew w0 noB (T788) := Grew.new K763 g790
          have ap803 : Apart (T788) (T_b) := Apart.new g790 (B754).live
          have ap804 : Apart (T788) (onB p1) := Apart.new g790 (onB_live (B755).lt)
          have ap805 : Apart (T788) (onB p10) := Apart.new g790 (onB_live (B756).lt)
          have ap806 : Apart (T788) (T56) := Apart.new g790 (B757).live
          have ap807 : Apart (T788) (onB p83) := Apart.new g790 (onB_live (B758).lt)
          have ap808 : Apart (T788) (T481) := Apart.new g790 (B759).live
          have ap809 : Apart (T788) (T507) := Apart.new g790 (B760).live
          have ap810 : Apart (T788) (onB p524) := Apart.new g790 (onB_live (B761).lt)
          have ap811 : Apart (T788) (T705) := Apart.new g790 (B762).live
          have ap812 : Apart (T788) (onB p726) := Apart.new g790 (onB_live (B752).lt)
          refine wl_v (.tuple #[v785, .int .i64 (headE (rdH t0 (l)) (rdH t1 (l)) (rdH t2 (l)) (rdH t3 (l)))]) rfl rfl (y_mov rfl rfl ⟨rfl, rfl⟩) ?_
          refine wl_v (v785) rfl rfl (y_ext rfl rfl rfl ⟨rfl, rfl⟩) ?_
          refine wl_v (.int .i64 (headE (rdH t0 (l)) (rdH t1 (l)) (rdH t2 (l)) (rdH t3 (l)))) rfl rfl (y_ext rfl rfl rfl ⟨rfl, rfl⟩) ?_
          refine wl_v (v785) rfl rfl (y_asg rfl rfl ⟨rfl, rfl⟩) ?_
          refine wl_v (.int .i64 (headE (rdH t0 (l)) (rdH t1 (l)) (rdH t2 (l)) (rdH t3 (l)))) rfl rfl (y_asg rfl rfl ⟨rfl, rfl⟩) ?_
          refine wl_nil fun F813 hF814 => ?_
          have s815 : F813 2 = v := (hF814 2).trans s774
          have s816 : F813 128 = undef := (hF814 128).trans s775
          have s817 : F813 7 = .bool true := (hF814 7).trans s776
          have s818 : F813 20 = v785 := (hF814 20).trans rfl
          have s819 : F813 21 = .int .i64 (headE (rdH t0 (l)) (rdH t1 (l)) (rdH t2 (l)) (rdH t3 (l))) := (hF814 21).trans rfl
          clear hF814
          refine then_normal ?_
          refine wq_seq ?_
          refine wq_region ?_
          refine wl_v (.bool true) rfl rfl (y_mov rfl s817 ⟨rfl, rfl⟩) ?_
          refine wl_v (.bool true) rfl rfl (y_mov rfl rfl ⟨rfl, rfl⟩) ?_
          refine wl_vw (v785) 1 true 117 rfl rfl rfl rfl rfl (y_mov rfl s818 ⟨rfl, rfl⟩) ?_
          refine wl_vw (.string (textOf ((wrB (rdH t0 (l)) (rdH t1 (l)) (rdH t2 (l)) (rdH t3 (l)) ((rdP (l))))))) 1 true 117 rfl rfl rfl rfl rfl (y_text rfl (bytes_at rfl (B789).byt) ⟨rfl, rfl⟩) ?_
          refine wl_vw (v) 1 true 117 rfl rfl rfl rfl rfl (y_mov rfl s815 ⟨rfl, rfl⟩) ?_
          refine wl_vw (.string (textOf (l))) 1 true 117 rfl rfl rfl rfl rfl (y_text rfl (bytes_at rfl B791) ⟨rfl, rfl⟩) ?_
          refine wl_vw (.bool true) 1 true 117 rfl rfl rfl rfl rfl (y_eqlS rfl rfl rfl (text_same (write_rd h256 hyes)) ⟨rfl, rfl⟩) ?_
          refine wl_v (.bool true) rfl rfl (y_pickT rfl rfl rfl ⟨rfl, rfl⟩) ?_
          refine wl_v (.bool true) rfl rfl (y_mov rfl rfl ⟨rfl, rfl⟩) ?_
          refine wl_vw (.int .i64 (headE (rdH t0 (l)) (rdH t1 (l)) (rdH t2 (l)) (rdH t3 (l)))) 8 true 124 rfl rfl rfl rfl rfl (y_mov rfl s819 ⟨rfl, rfl⟩) ?_
          refine wl_vw (.bool true) 8 true 124 rfl rfl rfl rfl rfl (y_eqlI rfl rfl rfl (decide_eq_true (headE_iff.2 (by unfold rdH; rw [if_pos hyes, if_pos hyes, if_pos hyes, if_pos hyes]; exact hyes.2))) ⟨rfl, rfl⟩) ?_
          refine wl_v (.bool true) rfl rfl (y_pickT rfl rfl rfl ⟨rfl, rfl⟩) ?_
          refine wl_v (.bool true) rfl rfl (y_asg rfl rfl ⟨rfl, rfl⟩) ?_
          refine wl_nil fun F820 hF821 => ?_
          have s822 : F820 128 = undef := (hF821 128).trans s816
          have s823 : F820 6 = .bool true := (hF821 6).trans rfl
          clear hF821
          refine then_normal ?_
          refine wq_ret ?_
          exact end_tmp (v := .bool true) s822 rfl rfl s823 ⟨rfl, K801⟩
end Go.Proofs.Ytnccblhdokplkaa
set_option maxRecDepth 100000
namespace Go.Proofs.Ytnccblhdokplkaa
open Go.ChangeShapes Go.WideShapes Go.ChangeAt Go.RowKit

section
variable {H : Type} {enc : TypeId × Value → H} {w : World} {base : Nat} {spare : Nat → Bool} {held : Bool}

theorem BytesArg.of_row {a : Option Addr} {len cap : Nat} {zs : List Int}
    (h : (a = none ∧ len = 0 ∧ cap = 0 ∧ zs = []) ∨ ∃ x, a = some x ∧ len ≤ cap ∧ cap ≤ maxLen ∧ len ≤ zs.length ∧ (∀ i, i < zs.length → w.cell? (x.add i) = some (.int .u8 (zs.getD i 0))) ∧ ∀ n ∈ zs, (Lit.int .u8 n).wf = true) :
    ∃ l : List Nat, BytesArg w (.slice a len cap) l := by
  rcases h with ⟨rfl, rfl, rfl, rfl⟩ | ⟨x, rfl, hlc, hcm, hz, hcell, hwf⟩
  · exact ⟨[], BytesArg.nil w⟩
  · have hlen : ((zs.take len).map Int.toNat).length = len := by simp; omega
    refine ⟨(zs.take len).map Int.toNat, some x, cap, by rw [hlen], by rw [hlen]; exact hlc, hcm, by simp, ?_, ?_⟩
    · intro y hy
      obtain ⟨z, hz1, rfl⟩ := List.mem_map.1 hy
      have := bounds_u8 (hwf z (List.mem_of_mem_take hz1))
      omega
    · intro hpos
      rw [hlen] at hpos
      have hpos' : 0 < zs.length := by omega
      obtain ⟨b, off, rfl, hc⟩ := ints_at hcell hpos'
      refine ⟨b, off, rfl, World.block_lt_of_cell? w _ (hc 0 hpos'), fun i hi => ?_⟩
      rw [hlen] at hi
      have hi' : i < zs.length := by omega
      rw [hc i hi']
      have hwi := bounds_u8 (hwf zs[i] (List.getElem_mem hi'))
      simp [List.getD, hi', hi]
      omega

theorem bytes_open {fuel : Nat} {v : Value} {x : DataW H × List MemPlace}
    (h : DataW.trod enc Try.prog w base spare held fuel 27 [v] = some x) : ∃ l : List Nat, BytesArg w v l := by
  rcases open_ints Try.underlying27 Try.underlying5 (by kernel_rfl) h with ⟨hcs, _⟩ | ⟨a, len, cap, zs, hcs, _, hl, hm, hz, _, hcell, hwz⟩
  · simp at hcs
    subst hcs
    exact ⟨[], BytesArg.nil w⟩
  · simp at hcs
    subst hcs
    exact BytesArg.of_row (.inr ⟨a, rfl, hl, hm, by have := hz; split at this <;> omega, hcell, hwz⟩)

end
end Go.Proofs.Ytnccblhdokplkaa
set_option maxRecDepth 100000
namespace Go.Proofs.Ytnccblhdokplkaa
open Go.ChangeShapes Go.WideShapes Go.ChangeAt Go.RowKit Go.Deep Go.Joins

section
variable {H : Type} {enc : TypeId × Value → H} {w : World} {base : Nat} {spare : Nat → Bool} {held : Bool}
theorem Try.cellsI : Try.prog.cellsOf 3 = 1 := by kernel_rfl
theorem Try.cells_sequence : Try.prog.cellsOf 24 = 4 := by kernel_rfl
theorem sequence_open {r : Reach} {b0 : Nat} {v : Value} {d : DataW H} {ps : List MemPlace} (hval : Value.okWide Try.prog w r b0 24 v) (h : DataW.Trod enc Try.prog w base spare held 24 v d ps) :
    ∃ a b c e : Int, v = .agg #[.int .i64 a, .int .i64 b, .int .i64 c, .int .i64 e] := by
  obtain ⟨cs, rfl, hsz⟩ := okWide_struct Try.underlying24 hval
  rw [Try.cells_sequence] at hsz
  obtain ⟨cs⟩ := cs
  obtain ⟨fuel, hf⟩ := h
  match cs, hsz with
  | [c0, c1, c2, c3], _ =>
    obtain ⟨y0, y1, y2, y3, n, _, _, h0, h1, h2, h3⟩ := trod_struct4 (cs := [c0, c1, c2, c3]) Try.underlying24 hf
    simp only [Try.cellsI, List.drop_zero, List.drop_succ_cons, List.take_succ_cons, List.take_zero] at h0 h1 h2 h3
    obtain ⟨a, ha, _, _⟩ := DataW.trod_int Try.underlying3 h0
    obtain ⟨b, hb, _, _⟩ := DataW.trod_int Try.underlying3 h1
    obtain ⟨c, hc, _, _⟩ := DataW.trod_int Try.underlying3 h2
    obtain ⟨e, he, _, _⟩ := DataW.trod_int Try.underlying3 h3
    simp only [List.cons.injEq, and_true] at ha hb hc he
    subst ha; subst hb; subst hc; subst he
    exact ⟨a, b, c, e, rfl⟩
theorem Try.cells_head : Try.prog.cellsOf 26 = 4 := by kernel_rfl
theorem head_open {r : Reach} {b0 : Nat} {v : Value} {d : DataW H} {ps : List MemPlace} (hval : Value.okWide Try.prog w r b0 26 v) (h : DataW.Trod enc Try.prog w base spare held 26 v d ps) :
    ∃ a b c e : Int, v = .agg #[.int .i64 a, .int .i64 b, .int .i64 c, .int .i64 e] := by
  obtain ⟨cs, rfl, hsz⟩ := okWide_struct Try.underlying26 hval
  rw [Try.cells_head] at hsz
  obtain ⟨cs⟩ := cs
  obtain ⟨fuel, hf⟩ := h
  match cs, hsz with
  | [c0, c1, c2, c3], _ =>
    obtain ⟨y0, y1, y2, y3, n, _, _, h0, h1, h2, h3⟩ := trod_struct4 (cs := [c0, c1, c2, c3]) Try.underlying26 hf
    simp only [Try.cellsI, List.drop_zero, List.drop_succ_cons, List.take_succ_cons, List.take_zero] at h0 h1 h2 h3
    obtain ⟨a, ha, _, _⟩ := DataW.trod_int Try.underlying3 h0
    obtain ⟨b, hb, _, _⟩ := DataW.trod_int Try.underlying3 h1
    obtain ⟨c, hc, _, _⟩ := DataW.trod_int Try.underlying3 h2
    obtain ⟨e, he, _, _⟩ := DataW.trod_int Try.underlying3 h3
    simp only [List.cons.injEq, and_true] at ha hb hc he
    subst ha; subst hb; subst hc; subst he
    exact ⟨a, b, c, e, rfl⟩
end
end Go.Proofs.Ytnccblhdokplkaa
