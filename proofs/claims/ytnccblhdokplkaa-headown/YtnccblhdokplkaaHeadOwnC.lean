/- What HeadOwn reaches of my texts, part 3. -/
import Derived.Test.YtnccblhdokplkaaHeadOwnB
set_option maxRecDepth 100000
set_option maxRecDepth 100000
namespace Go.Proofs.Ytnccblhdokplkaa
open Go.RowKit

set_option maxRecDepth 100000 in
theorem awake11 : opB 8 16 300 1000 = [8, 16, 0, 0, 1, 44, 0, 0, 3, 232] ∧ seqE 8 16 300 1000 = 0 ∧ wrB 1 5 2 700 [9] = [1, 5, 0, 0, 0, 2, 0, 0, 2, 188, 9] ∧ headE 1 5 2 700 = 0 ∧ rdE [] = 110 ∧ headE 3 0 0 0 = 110 := by
  refine ⟨?_, ?_, ?_, ?_, ?_, ?_⟩ <;> decide +kernel
theorem awake11a : headOk 1 5 2 700 ∧ seqOk 8 16 300 1000 := by decide +kernel
theorem wrB_yes {K Q D F : Int} (h : headOk K Q D F) (p : List Nat) : wrB K Q D F p = tenB K Q D F ++ p := if_pos h
theorem text_same {l m : List Nat} (h : l = m) : ((textOf l).toList == (textOf m).toList) = true := by rw [h]; exact beq_self_eq_true _

set_option maxHeartbeats 4000000 in
set_option maxRecDepth 100000 in
theorem hawake_any (w0 : World) :
    Calls Try.prog 9 #[] w0 fun e w' => e = .returned (.bool true) ∧ Kept (fun _ => False) w0 w' := by
  refine calls_wq (args := []) 99 Try.func9 rfl rfl (Nat.le_of_ble_eq_true rfl) ?_
  have K0 := Kept.refl (fun _ => False) w0
  have hf := Lib.hid awake11
  have hw := Lib.hid (rd_write awake11a.1 [9])
  have ho := Lib.hid (od_open awake11a.2)
  refine wq_seq ?_
  refine wq_region ?_
  refine wl_v (.bool false) rfl rfl (y_asg rfl rfl ⟨rfl, rfl⟩) ?_
  refine wl_nil fun F1 hF2 => ?_
  have s3 : F1 99 = undef := (hF2 99).trans rfl
  clear hF2
  refine then_normal ?_
  refine wq_seq ?_
  refine wq_region ?_
  refine wl_v (.agg #[.int .i64 (8), .int .i64 (16), .int .i64 (300), .int .i64 (1000)]) rfl rfl (y_buildL (l' := [(0, .int .i64 (8)), (1, .int .i64 (16)), (2, .int .i64 (300)), (3, .int .i64 (1000))]) (cells := #[.int .i64 (8), .int .i64 (16), .int .i64 (300), .int .i64 (1000)]) rfl (bpC rfl (bpC rfl (bpC rfl (bpC rfl bpN)))) (by kernel_rfl) rfl ⟨rfl, rfl⟩) ?_
  refine wl_call (R := fun v_ w_ => ∃ (v4 : Value) (T7 : Nat → Prop), .tuple #[v4, .int .i64 (seqE (8) (16) (300) (1000))] = v_ ∧ Kept (fun _ => False) w0 w_ ∧ (Owb w_ T7 v4 ((opB (8) (16) (300) (1000))) ∧ Grew w0 noB T7)) rfl rfl (y_cs rfl rfl rfl (fun _ _ => by kernel_rfl) (ev_func _) (vsC rfl vsN) (hd_open (8) (16) (300) (1000)  _   ) (fun e_ w_ h_ => by obtain ⟨v4_, T7_, he_, hr_⟩ := h_; exact ⟨_, he_, v4_, T7_, rfl, hr_⟩)) ?_
  rintro _ w5 ⟨v4, T7, rfl, k6, ⟨B8, g9⟩⟩
  have K10 := K0.trans k6 (fun _ _ x => x.elim)
  have gr11 : Grew w0 noB (T7) := Grew.new K0 g9
  refine wl_v (.tuple #[v4, .int .i64 (seqE (8) (16) (300) (1000))]) rfl rfl (y_mov rfl rfl ⟨rfl, rfl⟩) ?_
  refine wl_v (v4) rfl rfl (y_ext rfl rfl rfl ⟨rfl, rfl⟩) ?_
  refine wl_v (.int .i64 (seqE (8) (16) (300) (1000))) rfl rfl (y_ext rfl rfl rfl ⟨rfl, rfl⟩) ?_
  refine wl_v (v4) rfl rfl (y_asg rfl rfl ⟨rfl, rfl⟩) ?_
  refine wl_v (.int .i64 (seqE (8) (16) (300) (1000))) rfl rfl (y_asg rfl rfl ⟨rfl, rfl⟩) ?_
  refine wl_nil fun F12 hF13 => ?_
  have s14 : F12 99 = undef := (hF13 99).trans s3
  have s15 : F12 1 = v4 := (hF13 1).trans rfl
  have s16 : F12 2 = .int .i64 (seqE (8) (16) (300) (1000)) := (hF13 2).trans rfl
  clear hF13
  refine then_normal ?_
  refine wq_seq ?_
  refine wq_region ?_
  refine wl_v (.agg #[.int .i64 (1), .int .i64 (5), .int .i64 (2), .int .i64 (700)]) rfl rfl (y_buildL (l' := [(0, .int .i64 (1)), (1, .int .i64 (5)), (2, .int .i64 (2)), (3, .int .i64 (700))]) (cells := #[.int .i64 (1), .int .i64 (5), .int .i64 (2), .int .i64 (700)]) rfl (bpC rfl (bpC rfl (bpC rfl (bpC rfl bpN)))) (by kernel_rfl) rfl ⟨rfl, rfl⟩) ?_
  refine wl_builtB1 (n := 9) rfl rfl rfl rfl (by omega) (by omega) fun v17 w18 T22 B20 g21 k19 => ?_
  have gr23 : Grew w0 noB (T22) := Grew.new K10 g21
  have ap24 : Apart (T22) (T7) := Apart.new g21 (B8).live
  have B25 := B8.all k19 Apart.none
  have K26 := K10.trans k19 (fun _ _ x => x.elim)
  refine wl_call (R := fun v_ w_ => ∃ (v27 : Value) (T30 : Nat → Prop), .tuple #[v27, .int .i64 (headE (1) (5) (2) (700))] = v_ ∧ Kept (fun _ => False) w18 w_ ∧ (Owb w_ T30 v27 ((wrB (1) (5) (2) (700) ([9]))) ∧ Grew w18 noB T30)) rfl rfl (y_cs rfl rfl rfl (fun _ _ => by kernel_rfl) (ev_func _) (vsC rfl (vsC rfl vsN)) (hd_write (1) (5) (2) (700) (v17) ([9]) (T22) _ (by decide) (B20).byt ) (fun e_ w_ h_ => by obtain ⟨v27_, T30_, he_, hr_⟩ := h_; exact ⟨_, he_, v27_, T30_, rfl, hr_⟩)) ?_
  rintro _ w28 ⟨v27, T30, rfl, k29, ⟨B31, g32⟩⟩
  have B33 := B25.all k29 Apart.none
  have B34 := B20.all k29 Apart.none
  have K35 := K26.trans k29 (fun _ _ x => x.elim)
  have gr36 : Grew w0 noB (T30) := Grew.new K26 g32
  have ap37 : Apart (T30) (T7) := Apart.new g32 (B25).live
  have ap38 : Apart (T30) (T22) := Apart.new g32 (B20).live
  refine wl_v (.tuple #[v27, .int .i64 (headE (1) (5) (2) (700))]) rfl rfl (y_mov rfl rfl ⟨rfl, rfl⟩) ?_
  refine wl_v (v27) rfl rfl (y_ext rfl rfl rfl ⟨rfl, rfl⟩) ?_
  refine wl_v (.int .i64 (headE (1) (5) (2) (700))) rfl rfl (y_ext rfl rfl rfl ⟨rfl, rfl⟩) ?_
  refine wl_v (v27) rfl rfl (y_asg rfl rfl ⟨rfl, rfl⟩) ?_
  refine wl_v (.int .i64 (headE (1) (5) (2) (700))) rfl rfl (y_asg rfl rfl ⟨rfl, rfl⟩) ?_
  refine wl_nil fun F39 hF40 => ?_
  have s41 : F39 99 = undef := (hF40 99).trans s14
  have s42 : F39 1 = v4 := (hF40 1).trans s15
  have s43 : F39 2 = .int .i64 (seqE (8) (16) (300) (1000)) := (hF40 2).trans s16
  have s44 : F39 3 = v27 := (hF40 3).trans rfl
  have s45 : F39 4 = .int .i64 (headE (1) (5) (2) (700)) := (hF40 4).trans rfl
  clear hF40
  refine then_normal ?_
  refine wq_seq ?_
  refine wq_region ?_
  refine wl_v (v27) rfl rfl (y_mov rfl s44 ⟨rfl, rfl⟩) ?_
  refine wl_call (R := fun v_ w_ => ∃ (v46 : Value) (T49 : Nat → Prop), .tuple #[.agg #[.int .i64 (rdH t0 ((wrB (1) (5) (2) (700) ([9])))), .int .i64 (rdH t1 ((wrB (1) (5) (2) (700) ([9])))), .int .i64 (rdH t2 ((wrB (1) (5) (2) (700) ([9])))), .int .i64 (rdH t3 ((wrB (1) (5) (2) (700) ([9]))))], v46, .int .i64 (rdE ((wrB (1) (5) (2) (700) ([9]))))] = v_ ∧ Kept (fun _ => False) w28 w_ ∧ (Owb w_ T49 v46 ((rdP ((wrB (1) (5) (2) (700) ([9]))))) ∧ Grew w28 noB T49)) rfl rfl (y_cs rfl rfl rfl (fun _ _ => by kernel_rfl) (ev_func _) (vsC rfl vsN) (hd_read (v27) ((wrB (1) (5) (2) (700) ([9]))) (T30) _ (by rw [hf.out.2.2.1]; decide) (B31).byt ) (fun e_ w_ h_ => by obtain ⟨v46_, T49_, he_, hr_⟩ := h_; exact ⟨_, he_, v46_, T49_, rfl, hr_⟩)) ?_
  rintro _ w47 ⟨v46, T49, rfl, k48, ⟨B50, g51⟩⟩
  have B52 := B33.all k48 Apart.none
  have B53 := B34.all k48 Apart.none
  have B54 := B31.all k48 Apart.none
  have K55 := K35.trans k48 (fun _ _ x => x.elim)
  have gr56 : Grew w0 noB (T49) := Grew.new K35 g51
  have ap57 : Apart (T49) (T7) := Apart.new g51 (B33).live
  have ap58 : Apart (T49) (T22) := Apart.new g51 (B34).live
  have ap59 : Apart (T49) (T30) := Apart.new g51 (B31).live
  refine wl_v (.tuple #[.agg #[.int .i64 (rdH t0 ((wrB (1) (5) (2) (700) ([9])))), .int .i64 (rdH t1 ((wrB (1) (5) (2) (700) ([9])))), .int .i64 (rdH t2 ((wrB (1) (5) (2) (700) ([9])))), .int .i64 (rdH t3 ((wrB (1) (5) (2) (700) ([9]))))], v46, .int .i64 (rdE ((wrB (1) (5) (2) (700) ([9]))))]) rfl rfl (y_mov rfl rfl ⟨rfl, rfl⟩) ?_
  refine wl_v (.agg #[.int .i64 (rdH t0 ((wrB (1) (5) (2) (700) ([9])))), .int .i64 (rdH t1 ((wrB (1) (5) (2) (700) ([9])))), .int .i64 (rdH t2 ((wrB (1) (5) (2) (700) ([9])))), .int .i64 (rdH t3 ((wrB (1) (5) (2) (700) ([9]))))]) rfl rfl (y_ext rfl rfl rfl ⟨rfl, rfl⟩) ?_
  refine wl_v (v46) rfl rfl (y_ext rfl rfl rfl ⟨rfl, rfl⟩) ?_
  refine wl_v (.int .i64 (rdE ((wrB (1) (5) (2) (700) ([9]))))) rfl rfl (y_ext rfl rfl rfl ⟨rfl, rfl⟩) ?_
  refine wl_alloc_stc (n := 4) (vs := [.int .i64 (0), .int .i64 (0), .int .i64 (0), .int .i64 (0)]) rfl rfl rfl (by kernel_rfl) fun p60 w61 B63 g64 k62 => ?_
  have gr65 : Grew w0 noB (onB p60) := Grew.new K55 g64
  have ap66 : Apart (onB p60) (T7) := Apart.new g64 (B52).live
  have ap67 : Apart (onB p60) (T22) := Apart.new g64 (B53).live
  have ap68 : Apart (onB p60) (T30) := Apart.new g64 (B54).live
  have ap69 : Apart (onB p60) (T49) := Apart.new g64 (B50).live
  have B70 := B52.all k62 Apart.none
  have B71 := B53.all k62 Apart.none
  have B72 := B54.all k62 Apart.none
  have B73 := B50.all k62 Apart.none
  have K74 := K55.trans k62 (fun _ _ x => x.elim)
  refine wl_store_stc (us := [.int .i64 (rdH t0 ((wrB (1) (5) (2) (700) ([9])))), .int .i64 (rdH t1 ((wrB (1) (5) (2) (700) ([9])))), .int .i64 (rdH t2 ((wrB (1) (5) (2) (700) ([9])))), .int .i64 (rdH t3 ((wrB (1) (5) (2) (700) ([9]))))]) stcT_head rfl rfl rfl rfl rfl B63 rfl (oneI rfl (oneI rfl (oneI rfl (oneI rfl oneN)))) fun w75 B76 k77 => ?_
  have B78 := B70.all k77 (fun i h x => (((ap66).symm) i h x))
  have B79 := B71.all k77 (fun i h x => (((ap67).symm) i h x))
  have B80 := B72.all k77 (fun i h x => (((ap68).symm) i h x))
  have B81 := B73.all k77 (fun i h x => (((ap69).symm) i h x))
  have K82 := K74.trans k77 (Grew.ok (S := fun _ => False) gr65 noB_le)
  refine wl_v (v46) rfl rfl (y_asg rfl rfl ⟨rfl, rfl⟩) ?_
  refine wl_v (.int .i64 (rdE ((wrB (1) (5) (2) (700) ([9]))))) rfl rfl (y_asg rfl rfl ⟨rfl, rfl⟩) ?_
  refine wl_nil fun F83 hF84 => ?_
  have s85 : F83 99 = undef := (hF84 99).trans s41
  have s86 : F83 1 = v4 := (hF84 1).trans s42
  have s87 : F83 2 = .int .i64 (seqE (8) (16) (300) (1000)) := (hF84 2).trans s43
  have s88 : F83 3 = v27 := (hF84 3).trans s44
  have s89 : F83 4 = .int .i64 (headE (1) (5) (2) (700)) := (hF84 4).trans s45
  have s90 : F83 5 = .pointer (some ⟨p60, 0, none⟩) := (hF84 5).trans rfl
  have s91 : F83 6 = v46 := (hF84 6).trans rfl
  have s92 : F83 7 = .int .i64 (rdE ((wrB (1) (5) (2) (700) ([9])))) := (hF84 7).trans rfl
  clear hF84
  refine then_normal ?_
  refine wq_seq ?_
  refine wq_region ?_
  refine wl_v (v4) rfl rfl (y_mov rfl s86 ⟨rfl, rfl⟩) ?_
  refine wl_call (R := fun v_ w_ => v_ = .tuple #[.agg #[.int .i64 (od t0 ((opB (8) (16) (300) (1000)))), .int .i64 (od t1 ((opB (8) (16) (300) (1000)))), .int .i64 (od t2 ((opB (8) (16) (300) (1000)))), .int .i64 (od t3 ((opB (8) (16) (300) (1000))))], .int .i64 (odE ((opB (8) (16) (300) (1000))))] ∧ Kept (fun _ => False) w75 w_) rfl rfl (y_cs rfl rfl rfl (fun _ _ => by kernel_rfl) (ev_func _) (vsC rfl vsN) (hd_opened (v4) ((opB (8) (16) (300) (1000))) (T7) _  (B78).byt ) (fun e_ w_ h_ => ⟨_, h_.1, rfl, h_.2⟩)) ?_
  rintro _ w93 ⟨rfl, k94⟩
  have B95 := B78.all k94 Apart.none
  have B96 := B79.all k94 Apart.none
  have B97 := B80.all k94 Apart.none
  have B98 := B81.all k94 Apart.none
  have B99 := B76.all k94 id
  have K100 := K82.trans k94 (fun _ _ x => x.elim)
  refine wl_v (.tuple #[.agg #[.int .i64 (od t0 ((opB (8) (16) (300) (1000)))), .int .i64 (od t1 ((opB (8) (16) (300) (1000)))), .int .i64 (od t2 ((opB (8) (16) (300) (1000)))), .int .i64 (od t3 ((opB (8) (16) (300) (1000))))], .int .i64 (odE ((opB (8) (16) (300) (1000))))]) rfl rfl (y_mov rfl rfl ⟨rfl, rfl⟩) ?_
  refine wl_v (.agg #[.int .i64 (od t0 ((opB (8) (16) (300) (1000)))), .int .i64 (od t1 ((opB (8) (16) (300) (1000)))), .int .i64 (od t2 ((opB (8) (16) (300) (1000)))), .int .i64 (od t3 ((opB (8) (16) (300) (1000))))]) rfl rfl (y_ext rfl rfl rfl ⟨rfl, rfl⟩) ?_
  refine wl_v (.int .i64 (odE ((opB (8) (16) (300) (1000))))) rfl rfl (y_ext rfl rfl rfl ⟨rfl, rfl⟩) ?_
  refine wl_alloc_stc (n := 4) (vs := [.int .i64 (0), .int .i64 (0), .int .i64 (0), .int .i64 (0)]) rfl rfl rfl (by kernel_rfl) fun p101 w102 B104 g105 k103 => ?_
  have gr106 : Grew w0 noB (onB p101) := Grew.new K100 g105
  have ap107 : Apart (onB p101) (T7) := Apart.new g105 (B95).live
  have ap108 : Apart (onB p101) (T22) := Apart.new g105 (B96).live
  have ap109 : Apart (onB p101) (T30) := Apart.new g105 (B97).live
  have ap110 : Apart (onB p101) (T49) := Apart.new g105 (B98).live
  have ap111 : Apart (onB p101) (onB p60) := Apart.new g105 (onB_live (B99).lt)
  have B112 := B95.all k103 Apart.none
  have B113 := B96.all k103 Apart.none
  have B114 := B97.all k103 Apart.none
  have B115 := B98.all k103 Apart.none
  have B116 := B99.all k103 id
  have K117 := K100.trans k103 (fun _ _ x => x.elim)
  refine wl_store_stc (us := [.int .i64 (od t0 ((opB (8) (16) (300) (1000)))), .int .i64 (od t1 ((opB (8) (16) (300) (1000)))), .int .i64 (od t2 ((opB (8) (16) (300) (1000)))), .int .i64 (od t3 ((opB (8) (16) (300) (1000))))]) stcT_seq rfl rfl rfl rfl rfl B104 rfl (oneI rfl (oneI rfl (oneI rfl (oneI rfl oneN)))) fun w118 B119 k120 => ?_
  have B121 := B112.all k120 (fun i h x => (((ap107).symm) i h x))
  have B122 := B113.all k120 (fun i h x => (((ap108).symm) i h x))
  have B123 := B114.all k120 (fun i h x => (((ap109).symm) i h x))
  have B124 := B115.all k120 (fun i h x => (((ap110).symm) i h x))
  have B125 := B116.all k120 (fun x => (((ap111).symm) p60 rfl x))
  have K126 := K117.trans k120 (Grew.ok (S := fun _ => False) gr106 noB_le)
  refine wl_v (.int .i64 (odE ((opB (8) (16) (300) (1000))))) rfl rfl (y_asg rfl rfl ⟨rfl, rfl⟩) ?_
  refine wl_nil fun F127 hF128 => ?_
  have s129 : F127 99 = undef := (hF128 99).trans s85
  have s130 : F127 1 = v4 := (hF128 1).trans s86
  have s131 : F127 2 = .int .i64 (seqE (8) (16) (300) (1000)) := (hF128 2).trans s87
  have s132 : F127 3 = v27 := (hF128 3).trans s88
  have s133 : F127 4 = .int .i64 (headE (1) (5) (2) (700)) := (hF128 4).trans s89
  have s134 : F127 5 = .pointer (some ⟨p60, 0, none⟩) := (hF128 5).trans s90
  have s135 : F127 6 = v46 := (hF128 6).trans s91
  have s136 : F127 7 = .int .i64 (rdE ((wrB (1) (5) (2) (700) ([9])))) := (hF128 7).trans s92
  have s137 : F127 8 = .pointer (some ⟨p101, 0, none⟩) := (hF128 8).trans rfl
  have s138 : F127 9 = .int .i64 (odE ((opB (8) (16) (300) (1000)))) := (hF128 9).trans rfl
  clear hF128
  refine then_normal ?_
  refine wq_seq ?_
  refine wq_region ?_
  refine wl_call (R := fun v_ w_ => ∃ (v139 : Value) (T142 : Nat → Prop), .tuple #[.agg #[.int .i64 (rdH t0 ([])), .int .i64 (rdH t1 ([])), .int .i64 (rdH t2 ([])), .int .i64 (rdH t3 ([]))], v139, .int .i64 (rdE ([]))] = v_ ∧ Kept (fun _ => False) w118 w_ ∧ (Owb w_ T142 v139 ((rdP ([]))) ∧ Grew w118 noB T142)) rfl rfl (y_cs rfl rfl rfl (fun _ _ => by kernel_rfl) (ev_func _) (vsC rfl vsN) (hd_read (.slice none 0 0) ([]) (noB) _ (by decide) (Byt.nil _) ) (fun e_ w_ h_ => by obtain ⟨v139_, T142_, he_, hr_⟩ := h_; exact ⟨_, he_, v139_, T142_, rfl, hr_⟩)) ?_
  rintro _ w140 ⟨v139, T142, rfl, k141, ⟨B143, g144⟩⟩
  have B145 := B121.all k141 Apart.none
  have B146 := B122.all k141 Apart.none
  have B147 := B123.all k141 Apart.none
  have B148 := B124.all k141 Apart.none
  have B149 := B125.all k141 id
  have B150 := B119.all k141 id
  have K151 := K126.trans k141 (fun _ _ x => x.elim)
  have gr152 : Grew w0 noB (T142) := Grew.new K126 g144
  have ap153 : Apart (T142) (T7) := Apart.new g144 (B121).live
  have ap154 : Apart (T142) (T22) := Apart.new g144 (B122).live
  have ap155 : Apart (T142) (T30) := Apart.new g144 (B123).live
  have ap156 : Apart (T142) (T49) := Apart.new g144 (B124).live
  have ap157 : Apart (T142) (onB p60) := Apart.new g144 (onB_live (B125).lt)
  have ap158 : Apart (T142) (onB p101) := Apart.new g144 (onB_live (B119).lt)
  refine wl_v (.tuple #[.agg #[.int .i64 (rdH t0 ([])), .int .i64 (rdH t1 ([])), .int .i64 (rdH t2 ([])), .int .i64 (rdH t3 ([]))], v139, .int .i64 (rdE ([]))]) rfl rfl (y_mov rfl rfl ⟨rfl, rfl⟩) ?_
  refine wl_v (.agg #[.int .i64 (rdH t0 ([])), .int .i64 (rdH t1 ([])), .int .i64 (rdH t2 ([])), .int .i64 (rdH t3 ([]))]) rfl rfl (y_ext rfl rfl rfl ⟨rfl, rfl⟩) ?_
  refine wl_v (v139) rfl rfl (y_ext rfl rfl rfl ⟨rfl, rfl⟩) ?_
  refine wl_v (.int .i64 (rdE ([]))) rfl rfl (y_ext rfl rfl rfl ⟨rfl, rfl⟩) ?_
  refine wl_alloc_stc (n := 4) (vs := [.int .i64 (0), .int .i64 (0), .int .i64 (0), .int .i64 (0)]) rfl rfl rfl (by kernel_rfl) fun p159 w160 B162 g163 k161 => ?_
  have gr164 : Grew w0 noB (onB p159) := Grew.new K151 g163
  have ap165 : Apart (onB p159) (T7) := Apart.new g163 (B145).live
  have ap166 : Apart (onB p159) (T22) := Apart.new g163 (B146).live
  have ap167 : Apart (onB p159) (T30) := Apart.new g163 (B147).live
  have ap168 : Apart (onB p159) (T49) := Apart.new g163 (B148).live
  have ap169 : Apart (onB p159) (onB p60) := Apart.new g163 (onB_live (B149).lt)
  have ap170 : Apart (onB p159) (onB p101) := Apart.new g163 (onB_live (B150).lt)
  have ap171 : Apart (onB p159) (T142) := Apart.new g163 (B143).live
  have B172 := B145.all k161 Apart.none
  have B173 := B146.all k161 Apart.none
  have B174 := B147.all k161 Apart.none
  have B175 := B148.all k161 Apart.none
  have B176 := B149.all k161 id
  have B177 := B150.all k161 id
  have B178 := B143.all k161 Apart.none
  have K179 := K151.trans k161 (fun _ _ x => x.elim)
  refine wl_store_stc (us := [.int .i64 (rdH t0 ([])), .int .i64 (rdH t1 ([])), .int .i64 (rdH t2 ([])), .int .i64 (rdH t3 ([]))]) stcT_head rfl rfl rfl rfl rfl B162 rfl (oneI rfl (oneI rfl (oneI rfl (oneI rfl oneN)))) fun w180 B181 k182 => ?_
  have B183 := B172.all k182 (fun i h x => (((ap165).symm) i h x))
  have B184 := B173.all k182 (fun i h x => (((ap166).symm) i h x))
  have B185 := B174.all k182 (fun i h x => (((ap167).symm) i h x))
  have B186 := B175.all k182 (fun i h x => (((ap168).symm) i h x))
  have B187 := B176.all k182 (fun x => (((ap169).symm) p60 rfl x))
  have B188 := B177.all k182 (fun x => (((ap170).symm) p101 rfl x))
  have B189 := B178.all k182 (fun i h x => (((ap171).symm) i h x))
  have K190 := K179.trans k182 (Grew.ok (S := fun _ => False) gr164 noB_le)
  refine wl_v (v139) rfl rfl (y_asg rfl rfl ⟨rfl, rfl⟩) ?_
  refine wl_v (.int .i64 (rdE ([]))) rfl rfl (y_asg rfl rfl ⟨rfl, rfl⟩) ?_
  refine wl_nil fun F191 hF192 => ?_
  have s193 : F191 99 = undef := (hF192 99).trans s129
  have s194 : F191 1 = v4 := (hF192 1).trans s130
  have s195 : F191 2 = .int .i64 (seqE (8) (16) (300) (1000)) := (hF192 2).trans s131
  have s196 : F191 3 = v27 := (hF192 3).trans s132
  have s197 : F191 4 = .int .i64 (headE (1) (5) (2) (700)) := (hF192 4).trans s133
  have s198 : F191 5 = .pointer (some ⟨p60, 0, none⟩) := (hF192 5).trans s134
  have s199 : F191 6 = v46 := (hF192 6).trans s135
  have s200 : F191 7 = .int .i64 (rdE ((wrB (1) (5) (2) (700) ([9])))) := (hF192 7).trans s136
  have s201 : F191 8 = .pointer (some ⟨p101, 0, none⟩) := (hF192 8).trans s137
  have s202 : F191 9 = .int .i64 (odE ((opB (8) (16) (300) (1000)))) := (hF192 9).trans s138
  have s203 : F191 12 = .int .i64 (rdE ([])) := (hF192 12).trans rfl
  clear hF192
  refine then_normal ?_
  refine wq_seq ?_
  refine wq_region ?_
  refine wl_v (v4) rfl rfl (y_mov rfl s194 ⟨rfl, rfl⟩) ?_
  refine wl_v (.string (textOf ((opB (8) (16) (300) (1000))))) rfl rfl (y_text rfl (bytes_at rfl (B183).byt) ⟨rfl, rfl⟩) ?_
  refine wl_builtBn (xs := [.const (.int .u8 (8)), .const (.int .u8 (16)), .const (.int .u8 (0)), .const (.int .u8 (0)), .const (.int .u8 (1)), .const (.int .u8 (44)), .const (.int .u8 (0)), .const (.int .u8 (0)), .const (.int .u8 (3)), .const (.int .u8 (232))]) (vs := [.int .u8 (8), .int .u8 (16), .int .u8 (0), .int .u8 (0), .int .u8 (1), .int .u8 (44), .int .u8 (0), .int .u8 (0), .int .u8 (3), .int .u8 (232)]) (l := [8, 16, 0, 0, 1, 44, 0, 0, 3, 232]) rfl rfl rfl rfl rfl (vsC rfl (vsC rfl (vsC rfl (vsC rfl (vsC rfl (vsC rfl (vsC rfl (vsC rfl (vsC rfl (vsC rfl vsN)))))))))) rfl (Nat.le_of_ble_eq_true rfl) (Nat.le_of_ble_eq_true rfl) (by first | decide | (simp only [List.forall_mem_cons]; simp; omega)) fun v204 w205 T209 B207 g208 k206 => ?_
  have gr210 : Grew w0 noB (T209) := Grew.new K190 g208
  have ap211 : Apart (T209) (T7) := Apart.new g208 (B183).live
  have ap212 : Apart (T209) (T22) := Apart.new g208 (B184).live
  have ap213 : Apart (T209) (T30) := Apart.new g208 (B185).live
  have ap214 : Apart (T209) (T49) := Apart.new g208 (B186).live
  have ap215 : Apart (T209) (onB p60) := Apart.new g208 (onB_live (B187).lt)
  have ap216 : Apart (T209) (onB p101) := Apart.new g208 (onB_live (B188).lt)
  have ap217 : Apart (T209) (T142) := Apart.new g208 (B189).live
  have ap218 : Apart (T209) (onB p159) := Apart.new g208 (onB_live (B181).lt)
  have B219 := B183.all k206 Apart.none
  have B220 := B184.all k206 Apart.none
  have B221 := B185.all k206 Apart.none
  have B222 := B186.all k206 Apart.none
  have B223 := B187.all k206 id
  have B224 := B188.all k206 id
  have B225 := B189.all k206 Apart.none
  have B226 := B181.all k206 id
  have K227 := K190.trans k206 (fun _ _ x => x.elim)
  refine wl_v (.string (textOf ([8, 16, 0, 0, 1, 44, 0, 0, 3, 232]))) rfl rfl (y_text rfl (bytes_at rfl (B207).byt) ⟨rfl, rfl⟩) ?_
  refine wl_v (.bool true) rfl rfl (y_eqlS rfl rfl rfl (text_same hf.out.1) ⟨rfl, rfl⟩) ?_
  refine wl_v (.bool true) rfl rfl (y_mov rfl rfl ⟨rfl, rfl⟩) ?_
  refine wl_vw (.int .i64 (seqE (8) (16) (300) (1000))) 5 true 45 rfl rfl rfl rfl rfl (y_mov rfl s195 ⟨rfl, rfl⟩) ?_
  refine wl_vw (.bool true) 5 true 45 rfl rfl rfl rfl rfl (y_eqlI rfl rfl rfl (decide_eq_true hf.out.2.1) ⟨rfl, rfl⟩) ?_
  refine wl_v (.bool true) rfl rfl (y_pickT rfl rfl rfl ⟨rfl, rfl⟩) ?_
  refine wl_v (.bool true) rfl rfl (y_mov rfl rfl ⟨rfl, rfl⟩) ?_
  refine wl_vw (v27) 9 true 49 rfl rfl rfl rfl rfl (y_mov rfl s196 ⟨rfl, rfl⟩) ?_
  refine wl_vw (.string (textOf ((wrB (1) (5) (2) (700) ([9]))))) 9 true 49 rfl rfl rfl rfl rfl (y_text rfl (bytes_at rfl (B221).byt) ⟨rfl, rfl⟩) ?_
  refine wl_when 9 true 49 rfl rfl rfl rfl rfl (y_builtBn (xs := [.const (.int .u8 (1)), .const (.int .u8 (5)), .const (.int .u8 (0)), .const (.int .u8 (0)), .const (.int .u8 (0)), .const (.int .u8 (2)), .const (.int .u8 (0)), .const (.int .u8 (0)), .const (.int .u8 (2)), .const (.int .u8 (188)), .const (.int .u8 (9))]) (vs := [.int .u8 (1), .int .u8 (5), .int .u8 (0), .int .u8 (0), .int .u8 (0), .int .u8 (2), .int .u8 (0), .int .u8 (0), .int .u8 (2), .int .u8 (188), .int .u8 (9)]) (l := [1, 5, 0, 0, 0, 2, 0, 0, 2, 188, 9]) rfl rfl rfl (vsC rfl (vsC rfl (vsC rfl (vsC rfl (vsC rfl (vsC rfl (vsC rfl (vsC rfl (vsC rfl (vsC rfl (vsC rfl vsN))))))))))) rfl (Nat.le_of_ble_eq_true rfl) (Nat.le_of_ble_eq_true rfl) (by first | decide | (simp only [List.forall_mem_cons]; simp; omega)) fun v228 w229 T233 B231 g232 k230 => ?_)
  have gr234 : Grew w0 noB (T233) := Grew.new K227 g232
  have ap235 : Apart (T233) (T7) := Apart.new g232 (B219).live
  have ap236 : Apart (T233) (T22) := Apart.new g232 (B220).live
  have ap237 : Apart (T233) (T30) := Apart.new g232 (B221).live
  have ap238 : Apart (T233) (T49) := Apart.new g232 (B222).live
  have ap239 : Apart (T233) (onB p60) := Apart.new g232 (onB_live (B223).lt)
  have ap240 : Apart (T233) (onB p101) := Apart.new g232 (onB_live (B224).lt)
  have ap241 : Apart (T233) (T142) := Apart.new g232 (B225).live
  have ap242 : Apart (T233) (onB p159) := Apart.new g232 (onB_live (B226).lt)
  have ap243 : Apart (T233) (T209) := Apart.new g232 (B207).live
  have B244 := B219.all k230 Apart.none
  have B245 := B220.all k230 Apart.none
  have B246 := B221.all k230 Apart.none
  have B247 := B222.all k230 Apart.none
  have B248 := B223.all k230 id
  have B249 := B224.all k230 id
  have B250 := B225.all k230 Apart.none
  have B251 := B226.all k230 id
  have B252 := B207.all k230 Apart.none
  have K253 := K227.trans k230 (fun _ _ x => x.elim)
  refine wl_vw (.string (textOf ([1, 5, 0, 0, 0, 2, 0, 0, 2, 188, 9]))) 9 true 49 rfl rfl rfl rfl rfl (y_text rfl (bytes_at rfl (B231).byt) ⟨rfl, rfl⟩) ?_
  refine wl_vw (.bool true) 9 true 49 rfl rfl rfl rfl rfl (y_eqlS rfl rfl rfl (text_same hf.out.2.2.1) ⟨rfl, rfl⟩) ?_
  refine wl_v (.bool true) rfl rfl (y_pickT rfl rfl rfl ⟨rfl, rfl⟩) ?_
  refine wl_v (.bool true) rfl rfl (y_mov rfl rfl ⟨rfl, rfl⟩) ?_
  refine wl_vw (.int .i64 (headE (1) (5) (2) (700))) 16 true 56 rfl rfl rfl rfl rfl (y_mov rfl s197 ⟨rfl, rfl⟩) ?_
  refine wl_vw (.bool true) 16 true 56 rfl rfl rfl rfl rfl (y_eqlI rfl rfl rfl (decide_eq_true hf.out.2.2.2.1) ⟨rfl, rfl⟩) ?_
  refine wl_v (.bool true) rfl rfl (y_pickT rfl rfl rfl ⟨rfl, rfl⟩) ?_
  refine wl_v (.bool true) rfl rfl (y_mov rfl rfl ⟨rfl, rfl⟩) ?_
  refine wl_vw (.agg #[.int .i64 (rdH t0 ((wrB (1) (5) (2) (700) ([9])))), .int .i64 (rdH t1 ((wrB (1) (5) (2) (700) ([9])))), .int .i64 (rdH t2 ((wrB (1) (5) (2) (700) ([9])))), .int .i64 (rdH t3 ((wrB (1) (5) (2) (700) ([9]))))]) 20 true 60 rfl rfl rfl rfl rfl (y_load_stc stcT_head rfl s198 B248 ⟨rfl, rfl⟩) ?_
  refine wl_vw (.agg #[.int .i64 (1), .int .i64 (5), .int .i64 (2), .int .i64 (700)]) 20 true 60 rfl rfl rfl rfl rfl (y_buildL (l' := [(0, .int .i64 (1)), (1, .int .i64 (5)), (2, .int .i64 (2)), (3, .int .i64 (700))]) (cells := #[.int .i64 (1), .int .i64 (5), .int .i64 (2), .int .i64 (700)]) rfl (bpC rfl (bpC rfl (bpC rfl (bpC rfl bpN)))) (by kernel_rfl) rfl ⟨rfl, rfl⟩) ?_
  refine wl_vw (.bool true) 20 true 60 rfl rfl rfl rfl rfl (y_eqlSI (xs := [rdH t0 ((wrB (1) (5) (2) (700) ([9]))), rdH t1 ((wrB (1) (5) (2) (700) ([9]))), rdH t2 ((wrB (1) (5) (2) (700) ([9]))), rdH t3 ((wrB (1) (5) (2) (700) ([9])))]) (ys := [1, 5, 2, 700]) structI_head rfl rfl rfl rfl rfl (sameI_of (by rw [hw.out.2.1, hw.out.2.2.1, hw.out.2.2.2.1, hw.out.2.2.2.2.1])) ⟨rfl, rfl⟩) ?_
  refine wl_v (.bool true) rfl rfl (y_pickT rfl rfl rfl ⟨rfl, rfl⟩) ?_
  refine wl_v (.bool true) rfl rfl (y_mov rfl rfl ⟨rfl, rfl⟩) ?_
  refine wl_vw (v46) 25 true 65 rfl rfl rfl rfl rfl (y_mov rfl s199 ⟨rfl, rfl⟩) ?_
  refine wl_vw (.string (textOf ((rdP ((wrB (1) (5) (2) (700) ([9]))))))) 25 true 65 rfl rfl rfl rfl rfl (y_text rfl (bytes_at rfl (B247).byt) ⟨rfl, rfl⟩) ?_
  refine wl_when 25 true 65 rfl rfl rfl rfl rfl (y_builtBn (xs := [.const (.int .u8 (9))]) (vs := [.int .u8 (9)]) (l := [9]) rfl rfl rfl (vsC rfl vsN) rfl (Nat.le_of_ble_eq_true rfl) (Nat.le_of_ble_eq_true rfl) (by first | decide | (simp only [List.forall_mem_cons]; simp; omega)) fun v254 w255 T259 B257 g258 k256 => ?_)
  have gr260 : Grew w0 noB (T259) := Grew.new K253 g258
  have ap261 : Apart (T259) (T7) := Apart.new g258 (B244).live
  have ap262 : Apart (T259) (T22) := Apart.new g258 (B245).live
  have ap263 : Apart (T259) (T30) := Apart.new g258 (B246).live
  have ap264 : Apart (T259) (T49) := Apart.new g258 (B247).live
  have ap265 : Apart (T259) (onB p60) := Apart.new g258 (onB_live (B248).lt)
  have ap266 : Apart (T259) (onB p101) := Apart.new g258 (onB_live (B249).lt)
  have ap267 : Apart (T259) (T142) := Apart.new g258 (B250).live
  have ap268 : Apart (T259) (onB p159) := Apart.new g258 (onB_live (B251).lt)
  have ap269 : Apart (T259) (T209) := Apart.new g258 (B252).live
  have ap270 : Apart (T259) (T233) := Apart.new g258 (B231).live
  have B271 := B244.all k256 Apart.none
  have B272 := B245.all k256 Apart.none
  have B273 := B246.all k256 Apart.none
  have B274 := B247.all k256 Apart.none
  have B275 := B248.all k256 id
  have B276 := B249.all k256 id
  have B277 := B250.all k256 Apart.none
  have B278 := B251.all k256 id
  have B279 := B252.all k256 Apart.none
  have B280 := B231.all k256 Apart.none
  have K281 := K253.trans k256 (fun _ _ x => x.elim)
  refine wl_vw (.string (textOf ([9]))) 25 true 65 rfl rfl rfl rfl rfl (y_text rfl (bytes_at rfl (B257).byt) ⟨rfl, rfl⟩) ?_
  refine wl_vw (.bool true) 25 true 65 rfl rfl rfl rfl rfl (y_eqlS rfl rfl rfl (text_same hw.out.2.2.2.2.2.1) ⟨rfl, rfl⟩) ?_
  refine wl_v (.bool true) rfl rfl (y_pickT rfl rfl rfl ⟨rfl, rfl⟩) ?_
  refine wl_v (.bool true) rfl rfl (y_mov rfl rfl ⟨rfl, rfl⟩) ?_
  refine wl_vw (.int .i64 (rdE ((wrB (1) (5) (2) (700) ([9]))))) 32 true 72 rfl rfl rfl rfl rfl (y_mov rfl s200 ⟨rfl, rfl⟩) ?_
  refine wl_vw (.bool true) 32 true 72 rfl rfl rfl rfl rfl (y_eqlI rfl rfl rfl (decide_eq_true hw.out.2.2.2.2.2.2) ⟨rfl, rfl⟩) ?_
  refine wl_v (.bool true) rfl rfl (y_pickT rfl rfl rfl ⟨rfl, rfl⟩) ?_
  refine wl_v (.bool true) rfl rfl (y_mov rfl rfl ⟨rfl, rfl⟩) ?_
  refine wl_vw (.agg #[.int .i64 (od t0 ((opB (8) (16) (300) (1000)))), .int .i64 (od t1 ((opB (8) (16) (300) (1000)))), .int .i64 (od t2 ((opB (8) (16) (300) (1000)))), .int .i64 (od t3 ((opB (8) (16) (300) (1000))))]) 36 true 76 rfl rfl rfl rfl rfl (y_load_stc stcT_seq rfl s201 B276 ⟨rfl, rfl⟩) ?_
  refine wl_vw (.agg #[.int .i64 (8), .int .i64 (16), .int .i64 (300), .int .i64 (1000)]) 36 true 76 rfl rfl rfl rfl rfl (y_buildL (l' := [(0, .int .i64 (8)), (1, .int .i64 (16)), (2, .int .i64 (300)), (3, .int .i64 (1000))]) (cells := #[.int .i64 (8), .int .i64 (16), .int .i64 (300), .int .i64 (1000)]) rfl (bpC rfl (bpC rfl (bpC rfl (bpC rfl bpN)))) (by kernel_rfl) rfl ⟨rfl, rfl⟩) ?_
  refine wl_vw (.bool true) 36 true 76 rfl rfl rfl rfl rfl (y_eqlSI (xs := [od t0 ((opB (8) (16) (300) (1000))), od t1 ((opB (8) (16) (300) (1000))), od t2 ((opB (8) (16) (300) (1000))), od t3 ((opB (8) (16) (300) (1000)))]) (ys := [8, 16, 300, 1000]) structI_seq rfl rfl rfl rfl rfl (sameI_of (by rw [ho.out.2.1, ho.out.2.2.1, ho.out.2.2.2.1, ho.out.2.2.2.2.1])) ⟨rfl, rfl⟩) ?_
  refine wl_v (.bool true) rfl rfl (y_pickT rfl rfl rfl ⟨rfl, rfl⟩) ?_
  refine wl_v (.bool true) rfl rfl (y_mov rfl rfl ⟨rfl, rfl⟩) ?_
  refine wl_vw (.int .i64 (odE ((opB (8) (16) (300) (1000))))) 41 true 81 rfl rfl rfl rfl rfl (y_mov rfl s202 ⟨rfl, rfl⟩) ?_
  refine wl_vw (.bool true) 41 true 81 rfl rfl rfl rfl rfl (y_eqlI rfl rfl rfl (decide_eq_true ho.out.2.2.2.2.2) ⟨rfl, rfl⟩) ?_
  refine wl_v (.bool true) rfl rfl (y_pickT rfl rfl rfl ⟨rfl, rfl⟩) ?_
  refine wl_v (.bool true) rfl rfl (y_mov rfl rfl ⟨rfl, rfl⟩) ?_
  refine wl_vw (.int .i64 (rdE ([]))) 45 true 85 rfl rfl rfl rfl rfl (y_mov rfl s203 ⟨rfl, rfl⟩) ?_
  refine wl_vw (.bool true) 45 true 85 rfl rfl rfl rfl rfl (y_eqlI rfl rfl rfl (decide_eq_true hf.out.2.2.2.2.1) ⟨rfl, rfl⟩) ?_
  refine wl_v (.bool true) rfl rfl (y_pickT rfl rfl rfl ⟨rfl, rfl⟩) ?_
  refine wl_v (.bool true) rfl rfl (y_mov rfl rfl ⟨rfl, rfl⟩) ?_
  refine wl_vw (.agg #[.int .i64 (3), .int .i64 (0), .int .i64 (0), .int .i64 (0)]) 49 true 89 rfl rfl rfl rfl rfl (y_buildL (l' := [(0, .int .i64 (3))]) (cells := #[.int .i64 (3), .int .i64 (0), .int .i64 (0), .int .i64 (0)]) rfl (bpC rfl bpN) (by kernel_rfl) rfl ⟨rfl, rfl⟩) ?_
  refine wl_callw (R := fun v_ w_ => v_ = .int .i64 (headE (3) (0) (0) (0)) ∧ Kept (fun _ => False) w255 w_) 49 true 89 rfl rfl rfl rfl rfl (y_cs rfl rfl rfl (fun _ _ => by kernel_rfl) (ev_func _) (vsC rfl vsN) (hd_head (3) (0) (0) (0)  _   ) (fun e_ w_ h_ => ⟨_, h_.1, rfl, h_.2⟩)) ?_
  rintro _ w282 ⟨rfl, k283⟩
  have B284 := B271.all k283 Apart.none
  have B285 := B272.all k283 Apart.none
  have B286 := B273.all k283 Apart.none
  have B287 := B274.all k283 Apart.none
  have B288 := B275.all k283 id
  have B289 := B276.all k283 id
  have B290 := B277.all k283 Apart.none
  have B291 := B278.all k283 id
  have B292 := B279.all k283 Apart.none
  have B293 := B280.all k283 Apart.none
  have B294 := B257.all k283 Apart.none
  have K295 := K281.trans k283 (fun _ _ x => x.elim)
  refine wl_vw (.bool true) 49 true 89 rfl rfl rfl rfl rfl (y_eqlI rfl rfl rfl (decide_eq_true hf.out.2.2.2.2.2) ⟨rfl, rfl⟩) ?_
  refine wl_v (.bool true) rfl rfl (y_pickT rfl rfl rfl ⟨rfl, rfl⟩) ?_
  refine wl_v (.bool true) rfl rfl (y_mov rfl rfl ⟨rfl, rfl⟩) ?_
  refine wl_vw (.agg #[.int .i64 (od t0 ((opB (8) (16) (300) (1000)))), .int .i64 (od t1 ((opB (8) (16) (300) (1000)))), .int .i64 (od t2 ((opB (8) (16) (300) (1000)))), .int .i64 (od t3 ((opB (8) (16) (300) (1000))))]) 54 true 94 rfl rfl rfl rfl rfl (y_load_stc stcT_seq rfl s201 B289 ⟨rfl, rfl⟩) ?_
  refine wl_callw (R := fun v_ w_ => v_ = .int .i64 (seqE (od t0 ((opB (8) (16) (300) (1000)))) (od t1 ((opB (8) (16) (300) (1000)))) (od t2 ((opB (8) (16) (300) (1000)))) (od t3 ((opB (8) (16) (300) (1000))))) ∧ Kept (fun _ => False) w282 w_) 54 true 94 rfl rfl rfl rfl rfl (y_cs rfl rfl rfl (fun _ _ => by kernel_rfl) (ev_func _) (vsC rfl vsN) (hd_seq (od t0 ((opB (8) (16) (300) (1000)))) (od t1 ((opB (8) (16) (300) (1000)))) (od t2 ((opB (8) (16) (300) (1000)))) (od t3 ((opB (8) (16) (300) (1000))))  _   ) (fun e_ w_ h_ => ⟨_, h_.1, rfl, h_.2⟩)) ?_
  rintro _ w296 ⟨rfl, k297⟩
  have B298 := B284.all k297 Apart.none
  have B299 := B285.all k297 Apart.none
  have B300 := B286.all k297 Apart.none
  have B301 := B287.all k297 Apart.none
  have B302 := B288.all k297 id
  have B303 := B289.all k297 id
  have B304 := B290.all k297 Apart.none
  have B305 := B291.all k297 id
  have B306 := B292.all k297 Apart.none
  have B307 := B293.all k297 Apart.none
  have B308 := B294.all k297 Apart.none
  have K309 := K295.trans k297 (fun _ _ x => x.elim)
  refine wl_vw (.bool true) 54 true 94 rfl rfl rfl rfl rfl (y_eqlI rfl rfl rfl (decide_eq_true (by rw [ho.out.2.1, ho.out.2.2.1, ho.out.2.2.2.1, ho.out.2.2.2.2.1]; exact hf.out.2.1)) ⟨rfl, rfl⟩) ?_
  refine wl_v (.bool true) rfl rfl (y_pickT rfl rfl rfl ⟨rfl, rfl⟩) ?_
  refine wl_v (.bool true) rfl rfl (y_asg rfl rfl ⟨rfl, rfl⟩) ?_
  refine wl_nil fun F310 hF311 => ?_
  have s312 : F310 99 = undef := (hF311 99).trans s193
  have s313 : F310 0 = .bool true := (hF311 0).trans rfl
  clear hF311
  refine then_normal ?_
  refine wq_ret ?_
  exact end_tmp (v := .bool true) s312 rfl rfl s313 ⟨rfl, K309⟩

theorem wrB_len {K Q D F : Int} (h : headOk K Q D F) (p : List Nat) : (wrB K Q D F p).length = p.length + 10 := by
  rw [wrB_yes h, List.length_append, tenB_length]; omega
theorem wrB_le (K Q D F : Int) (p : List Nat) : (wrB K Q D F p).length ≤ p.length + 10 := by
  by_cases h : headOk K Q D F
  · exact Nat.le_of_eq (wrB_len h p)
  · rw [show wrB K Q D F p = [] from if_neg h]; exact Nat.zero_le _
end Go.Proofs.Ytnccblhdokplkaa
set_option maxRecDepth 100000
namespace Go.Proofs.Ytnccblhdokplkaa
open Go.RowKit

theorem xor_255 : ∀ x : Nat, x < 256 → bits .xor .u8 (x : Int) 255 = ((255 - x : Nat) : Int) := by decide +kernel
def xorTo (l : List Nat) : Nat → List Nat
  | 0 => l
  | i + 1 => (xorTo l i).set i (255 - (xorTo l i).getD i 0)
theorem xorTo_len (l : List Nat) (i : Nat) : (xorTo l i).length = l.length := by
  induction i with
  | zero => rfl
  | succ i ih => unfold xorTo; rw [List.length_set]; exact ih
theorem rdP_le (l : List Nat) : (rdP l).length ≤ l.length := by
  unfold rdP; split
  · rw [List.length_drop]; omega
  · exact Nat.zero_le _
set_option maxHeartbeats 4000000 in
set_option maxRecDepth 100000 in
theorem hown_walk (K Q D F : Int) (v : Value) (l : List Nat) (T_b : Nat → Prop) (w0 : World) (h_b : Byt w0 T_b v (l)) :
    Calls Try.prog 8 #[.agg #[.int .i64 (K), .int .i64 (Q), .int .i64 (D), .int .i64 (F)], v] w0 fun e w' => e = .returned (.bool true) ∧ Kept (fun _ => False) w0 w' := by
  refine calls_wq (args := [.agg #[.int .i64 (K), .int .i64 (Q), .int .i64 (D), .int .i64 (F)], v]) 80 Try.func8 rfl rfl (Nat.le_of_ble_eq_true rfl) ?_
  have K0 := Kept.refl (fun _ => False) w0
  have hle := wrB_le K Q D F l
  have hrp := rdP_le (wrB K Q D F l)
  have hyh : ∀ h0 : headE K Q D F = 0, rdP (wrB K Q D F l) = l ∧ rdE (wrB K Q D F l) = 0 := fun h0 => (rd_write (headE_iff.1 h0) l).2.2.2.2.2
  have g_b := Grew.refl w0 T_b
  refine wq_seq ?_
  refine wq_region ?_
  refine wl_box_stc (vs := [.int .i64 (K), .int .i64 (Q), .int .i64 (D), .int .i64 (F)]) rfl rfl rfl rfl fun p1 w2 B4 g5 k3 => ?_
  have gr6 : Grew w0 noB (onB p1) := Grew.new K0 g5
  have ap7 : Apart (onB p1) (T_b) := Apart.new g5 (h_b).live
  have B8 := h_b.all k3 Apart.none
  have K9 := K0.trans k3 (fun _ _ x => x.elim)
  refine wl_v (.bool false) rfl rfl (y_asg rfl rfl ⟨rfl, rfl⟩) ?_
  refine wl_nil fun F10 hF11 => ?_
  have s12 : F10 1 = v := (hF11 1).trans rfl
  have s13 : F10 80 = undef := (hF11 80).trans rfl
  have s14 : F10 2 = .pointer (some ⟨p1, 0, none⟩) := (hF11 2).trans rfl
  clear hF11
  refine then_normal ?_
  refine wq_seq ?_
  refine wq_region ?_
  refine wl_call (R := fun v_ w_ => v_ = .bool true ∧ Kept (fun _ => False) w2 w_) rfl rfl (y_cs rfl rfl rfl (fun _ _ => by kernel_rfl) (ev_func _) vsN (hawake_any   _   ) (fun e_ w_ h_ => ⟨_, h_.1, rfl, h_.2⟩)) ?_
  rintro _ w15 ⟨rfl, k16⟩
  have B17 := B8.all k16 Apart.none
  have B18 := B4.all k16 id
  have K19 := K9.trans k16 (fun _ _ x => x.elim)
  refine wl_v (.bool true) rfl rfl (y_asg rfl rfl ⟨rfl, rfl⟩) ?_
  refine wl_nil fun F20 hF21 => ?_
  have s22 : F20 1 = v := (hF21 1).trans s12
  have s23 : F20 80 = undef := (hF21 80).trans s13
  have s24 : F20 2 = .pointer (some ⟨p1, 0, none⟩) := (hF21 2).trans s14
  have s25 : F20 5 = .bool true := (hF21 5).trans rfl
  clear hF21
  refine then_normal ?_
  refine wq_seq ?_
  refine wq_seq ?_
  refine wq_region ?_
  refine wl_v (v) rfl rfl (y_mov rfl s22 ⟨rfl, rfl⟩) ?_
  refine wl_v (.int .i64 ((((l).length : Nat) : Int))) rfl rfl (y_lenV rfl rfl rfl B17 ⟨rfl, rfl⟩) ?_
  refine wl_v (.bool (decide ((300) < ((((l).length : Nat) : Int))))) rfl rfl (y_gtr rfl rfl rfl rfl ⟨rfl, rfl⟩) ?_
  refine wl_nil fun F26 hF27 => ?_
  have s28 : F26 1 = v := (hF27 1).trans s22
  have s29 : F26 80 = undef := (hF27 80).trans s23
  have s30 : F26 2 = .pointer (some ⟨p1, 0, none⟩) := (hF27 2).trans s24
  have s31 : F26 5 = .bool true := (hF27 5).trans s25
  have s32 : F26 19 = .bool (decide ((300) < ((((l).length : Nat) : Int)))) := (hF27 19).trans rfl
  clear hF27
  refine then_normal ?_
  refine wq_cond s32 (fun c33 => ?_) (fun c33 => ?_)
  · replace c33 := of_decide_eq_true c33
    refine wq_seq ?_
    refine wq_region ?_
    refine wl_v (.bool true) rfl rfl (y_mov rfl s31 ⟨rfl, rfl⟩) ?_
    refine wl_v (.bool true) rfl rfl (y_asg rfl rfl ⟨rfl, rfl⟩) ?_
    refine wl_nil fun F34 hF35 => ?_
    have s36 : F34 80 = undef := (hF35 80).trans s29
    have s37 : F34 4 = .bool true := (hF35 4).trans rfl
    clear hF35
    refine then_normal ?_
    refine wq_ret ?_
    refine then_ret ?_
    exact end_tmp (v := .bool true) s36 rfl rfl s37 ⟨rfl, K19⟩
  · replace c33 := of_decide_eq_false c33
    refine wq_skip ?_
    refine then_normal ?_
    refine wq_seq ?_
    refine wq_region ?_
    refine wl_v (v) rfl rfl (y_mov rfl s28 ⟨rfl, rfl⟩) ?_
    refine wl_v (.string (textOf (l))) rfl rfl (y_text rfl (bytes_at rfl B17) ⟨rfl, rfl⟩) ?_
    refine wl_v (.string (textOf (l))) rfl rfl (y_asg rfl rfl ⟨rfl, rfl⟩) ?_
    refine wl_nil fun F38 hF39 => ?_
    have s40 : F38 1 = v := (hF39 1).trans s28
    have s41 : F38 80 = undef := (hF39 80).trans s29
    have s42 : F38 2 = .pointer (some ⟨p1, 0, none⟩) := (hF39 2).trans s30
    have s43 : F38 5 = .bool true := (hF39 5).trans s31
    have s44 : F38 6 = .string (textOf (l)) := (hF39 6).trans rfl
    clear hF39
    refine then_normal ?_
    refine wq_seq ?_
    refine wq_region ?_
    refine wl_v (.agg #[.int .i64 (K), .int .i64 (Q), .int .i64 (D), .int .i64 (F)]) rfl rfl (y_load_stc stcT_head rfl s42 B18 ⟨rfl, rfl⟩) ?_
    refine wl_v (v) rfl rfl (y_mov rfl s40 ⟨rfl, rfl⟩) ?_
    refine wl_call (R := fun v_ w_ => ∃ (v45 : Value) (T48 : Nat → Prop), .tuple #[v45, .int .i64 (headE (K) (Q) (D) (F))] = v_ ∧ Kept (fun _ => False) w15 w_ ∧ (Owb w_ T48 v45 ((wrB (K) (Q) (D) (F) (l))) ∧ Grew w15 noB T48)) rfl rfl (y_cs rfl rfl rfl (fun _ _ => by kernel_rfl) (ev_func _) (vsC rfl (vsC rfl vsN)) (hd_write (K) (Q) (D) (F) (v) (l) (T_b) _ (by omega) B17 ) (fun e_ w_ h_ => by obtain ⟨v45_, T48_, he_, hr_⟩ := h_; exact ⟨_, he_, v45_, T48_, rfl, hr_⟩)) ?_
    rintro _ w46 ⟨v45, T48, rfl, k47, ⟨B49, g50⟩⟩
    have B51 := B17.all k47 Apart.none
    have B52 := B18.all k47 id
    have K53 := K19.trans k47 (fun _ _ x => x.elim)
    have gr54 : Grew w0 noB (T48) := Grew.new K19 g50
    have ap55 : Apart (T48) (T_b) := Apart.new g50 (B17).live
    have ap56 : Apart (T48) (onB p1) := Apart.new g50 (onB_live (B18).lt)
    refine wl_v (.tuple #[v45, .int .i64 (headE (K) (Q) (D) (F))]) rfl rfl (y_mov rfl rfl ⟨rfl, rfl⟩) ?_
    refine wl_v (v45) rfl rfl (y_ext rfl rfl rfl ⟨rfl, rfl⟩) ?_
    refine wl_v (.int .i64 (headE (K) (Q) (D) (F))) rfl rfl (y_ext rfl rfl rfl ⟨rfl, rfl⟩) ?_
    refine wl_v (v45) rfl rfl (y_asg rfl rfl ⟨rfl, rfl⟩) ?_
    refine wl_v (.int .i64 (headE (K) (Q) (D) (F))) rfl rfl (y_asg rfl rfl ⟨rfl, rfl⟩) ?_
    refine wl_nil fun F57 hF58 => ?_
    have s59 : F57 1 = v := (hF58 1).trans s40
    have s60 : F57 80 = undef := (hF58 80).trans s41
    have s61 : F57 5 = .bool true := (hF58 5).trans s43
    have s62 : F57 6 = .string (textOf (l)) := (hF58 6).trans s44
    have s63 : F57 7 = v45 := (hF58 7).trans rfl
    have s64 : F57 8 = .int .i64 (headE (K) (Q) (D) (F)) := (hF58 8).trans rfl
    clear hF58
    refine then_normal ?_
    refine wq_seq ?_
    refine wq_region ?_
    refine wl_v (v45) rfl rfl (y_mov rfl s63 ⟨rfl, rfl⟩) ?_
    refine wl_call (R := fun v_ w_ => ∃ (v65 : Value) (T68 : Nat → Prop), .tuple #[.agg #[.int .i64 (rdH t0 ((wrB (K) (Q) (D) (F) (l)))), .int .i64 (rdH t1 ((wrB (K) (Q) (D) (F) (l)))), .int .i64 (rdH t2 ((wrB (K) (Q) (D) (F) (l)))), .int .i64 (rdH t3 ((wrB (K) (Q) (D) (F) (l))))], v65, .int .i64 (rdE ((wrB (K) (Q) (D) (F) (l))))] = v_ ∧ Kept (fun _ => False) w46 w_ ∧ (Owb w_ T68 v65 ((rdP ((wrB (K) (Q) (D) (F) (l))))) ∧ Grew w46 noB T68)) rfl rfl (y_cs rfl rfl rfl (fun _ _ => by kernel_rfl) (ev_func _) (vsC rfl vsN) (hd_read (v45) ((wrB (K) (Q) (D) (F) (l))) (T48) _ (by omega) (B49).byt ) (fun e_ w_ h_ => by obtain ⟨v65_, T68_, he_, hr_⟩ := h_; exact ⟨_, he_, v65_, T68_, rfl, hr_⟩)) ?_
    rintro _ w66 ⟨v65, T68, rfl, k67, ⟨B69, g70⟩⟩
    have B71 := B51.all k67 Apart.none
    have B72 := B52.all k67 id
    have B73 := B49.all k67 Apart.none
    have K74 := K53.trans k67 (fun _ _ x => x.elim)
    have gr75 : Grew w0 noB (T68) := Grew.new K53 g70
    have ap76 : Apart (T68) (T_b) := Apart.new g70 (B51).live
    have ap77 : Apart (T68) (onB p1) := Apart.new g70 (onB_live (B52).lt)
    have ap78 : Apart (T68) (T48) := Apart.new g70 (B49).live
    refine wl_v (.tuple #[.agg #[.int .i64 (rdH t0 ((wrB (K) (Q) (D) (F) (l)))), .int .i64 (rdH t1 ((wrB (K) (Q) (D) (F) (l)))), .int .i64 (rdH t2 ((wrB (K) (Q) (D) (F) (l)))), .int .i64 (rdH t3 ((wrB (K) (Q) (D) (F) (l))))], v65, .int .i64 (rdE ((wrB (K) (Q) (D) (F) (l))))]) rfl rfl (y_mov rfl rfl ⟨rfl, rfl⟩) ?_
    refine wl_v (.agg #[.int .i64 (rdH t0 ((wrB (K) (Q) (D) (F) (l)))), .int .i64 (rdH t1 ((wrB (K) (Q) (D) (F) (l)))), .int .i64 (rdH t2 ((wrB (K) (Q) (D) (F) (l)))), .int .i64 (rdH t3 ((wrB (K) (Q) (D) (F) (l))))]) rfl rfl (y_ext rfl rfl rfl ⟨rfl, rfl⟩) ?_
    refine wl_v (v65) rfl rfl (y_ext rfl rfl rfl ⟨rfl, rfl⟩) ?_
    refine wl_v (.int .i64 (rdE ((wrB (K) (Q) (D) (F) (l))))) rfl rfl (y_ext rfl rfl rfl ⟨rfl, rfl⟩) ?_
    refine wl_alloc_stc (n := 4) (vs := [.int .i64 (0), .int .i64 (0), .int .i64 (0), .int .i64 (0)]) rfl rfl rfl (by kernel_rfl) fun p79 w80 B82 g83 k81 => ?_
    have gr84 : Grew w0 noB (onB p79) := Grew.new K74 g83
    have ap85 : Apart (onB p79) (T_b) := Apart.new g83 (B71).live
    have ap86 : Apart (onB p79) (onB p1) := Apart.new g83 (onB_live (B72).lt)
    have ap87 : Apart (onB p79) (T48) := Apart.new g83 (B73).live
    have ap88 : Apart (onB p79) (T68) := Apart.new g83 (B69).live
    have B89 := B71.all k81 Apart.none
    have B90 := B72.all k81 id
    have B91 := B73.all k81 Apart.none
    have B92 := B69.all k81 Apart.none
    have K93 := K74.trans k81 (fun _ _ x => x.elim)
    refine wl_store_stc (us := [.int .i64 (rdH t0 ((wrB (K) (Q) (D) (F) (l)))), .int .i64 (rdH t1 ((wrB (K) (Q) (D) (F) (l)))), .int .i64 (rdH t2 ((wrB (K) (Q) (D) (F) (l)))), .int .i64 (rdH t3 ((wrB (K) (Q) (D) (F) (l))))]) stcT_head rfl rfl rfl rfl rfl B82 rfl (oneI rfl (oneI rfl (oneI rfl (oneI rfl oneN)))) fun w94 B95 k96 => ?_
    have B97 := B89.all k96 (fun i h x => (((ap85).symm) i h x))
    have B98 := B90.all k96 (fun x => (((ap86).symm) p1 rfl x))
    have B99 := B91.all k96 (fun i h x => (((ap87).symm) i h x))
    have B100 := B92.all k96 (fun i h x => (((ap88).symm) i h x))
    have K101 := K93.trans k96 (Grew.ok (S := fun _ => False) gr84 noB_le)
    refine wl_v (v65) rfl rfl (y_asg rfl rfl ⟨rfl, rfl⟩) ?_
    refine wl_v (.int .i64 (rdE ((wrB (K) (Q) (D) (F) (l))))) rfl rfl (y_asg rfl rfl ⟨rfl, rfl⟩) ?_
    refine wl_nil fun F102 hF103 => ?_
    have s104 : F102 1 = v := (hF103 1).trans s59
    have s105 : F102 80 = undef := (hF103 80).trans s60
    have s106 : F102 5 = .bool true := (hF103 5).trans s61
    have s107 : F102 6 = .string (textOf (l)) := (hF103 6).trans s62
    have s108 : F102 7 = v45 := (hF103 7).trans s63
    have s109 : F102 8 = .int .i64 (headE (K) (Q) (D) (F)) := (hF103 8).trans s64
    have s110 : F102 10 = v65 := (hF103 10).trans rfl
    have s111 : F102 11 = .int .i64 (rdE ((wrB (K) (Q) (D) (F) (l)))) := (hF103 11).trans rfl
    clear hF103
    refine then_normal ?_
    refine wq_seq ?_
    refine wq_seq ?_
    refine wq_region ?_
    refine wl_v (.int .i64 (0)) rfl rfl (y_asg rfl rfl ⟨rfl, rfl⟩) ?_
    refine wl_nil fun F112 hF113 => ?_
    have s114 : F112 1 = v := (hF113 1).trans s104
    have s115 : F112 80 = undef := (hF113 80).trans s105
    have s116 : F112 5 = .bool true := (hF113 5).trans s106
    have s117 : F112 6 = .string (textOf (l)) := (hF113 6).trans s107
    have s118 : F112 7 = v45 := (hF113 7).trans s108
    have s119 : F112 8 = .int .i64 (headE (K) (Q) (D) (F)) := (hF113 8).trans s109
    have s120 : F112 10 = v65 := (hF113 10).trans s110
    have s121 : F112 11 = .int .i64 (rdE ((wrB (K) (Q) (D) (F) (l)))) := (hF113 11).trans s111
    have s122 : F112 12 = .int .i64 (0) := (hF113 12).trans rfl
    clear hF113
    refine then_normal ?_
    refine wq_block ?_
    refine wq_loop (fun nn FF ww => ∃ (i : Nat), ∃ (T123 : Nat → Prop), (i ≤ (rdP (wrB K Q D F l)).length) ∧ nn = (rdP (wrB K Q D F l)).length - i ∧ FF 1 = v ∧ FF 5 = .bool true ∧ FF 6 = .string (textOf (l)) ∧ FF 7 = v45 ∧ FF 8 = .int .i64 (headE (K) (Q) (D) (F)) ∧ FF 10 = v65 ∧ FF 11 = .int .i64 (rdE ((wrB (K) (Q) (D) (F) (l)))) ∧ FF 80 = undef ∧ FF 12 = .int .i64 (((i : Nat) : Int)) ∧ Kept (fun _ => False) w0 ww ∧ Byt ww (T_b) v (l) ∧ Stc ww p1 26 [.int .i64 (K), .int .i64 (Q), .int .i64 (D), .int .i64 (F)] ∧ Owb ww (T48) v45 ((wrB (K) (Q) (D) (F) (l))) ∧ Owb ww (T123) v65 (xorTo (rdP (wrB K Q D F l)) i) ∧ Stc ww p79 26 [.int .i64 (rdH t0 ((wrB (K) (Q) (D) (F) (l)))), .int .i64 (rdH t1 ((wrB (K) (Q) (D) (F) (l)))), .int .i64 (rdH t2 ((wrB (K) (Q) (D) (F) (l)))), .int .i64 (rdH t3 ((wrB (K) (Q) (D) (F) (l))))] ∧ Grew w0 (noB) T123 ∧ Apart (T123) (T_b) ∧ Apart (T123) (onB p1) ∧ Apart (T123) (T48) ∧ Apart (T123) (onB p79)) ((rdP (wrB K Q D F l)).length - (0)) ⟨0, T68, by omega, rfl, s114, s116, s117, s118, s119, s120, s121, s115, s122, K101, B97, B98, B99, B100, B95, gr75, ap76, ap77, ap78, (ap88).symm⟩ ?_
    rintro n127 F124 w125 ⟨i, T123, i128, hn127, s129, s130, s131, s132, s133, s134, s135, s136, s137, K126, B138, B139, B140, B141, B142, gr143, ap144, ap145, ap146, ap147⟩
    refine wq_seq ?_
    refine wq_seq ?_
    have hxl := xorTo_len (rdP (wrB K Q D F l)) i
    refine wq_region ?_
    refine wl_v (.int .i64 (((i : Nat) : Int))) rfl rfl (y_mov rfl s137 ⟨rfl, rfl⟩) ?_
    refine wl_v (v65) rfl rfl (y_mov rfl s134 ⟨rfl, rfl⟩) ?_
    refine wl_v (.int .i64 ((((xorTo (rdP (wrB K Q D F l)) i).length : Nat) : Int))) rfl rfl (y_lenV rfl rfl rfl (B141).byt ⟨rfl, rfl⟩) ?_
    refine wl_v (.bool (decide ((((i : Nat) : Int)) < ((((xorTo (rdP (wrB K Q D F l)) i).length : Nat) : Int))))) rfl rfl (y_lss rfl rfl rfl rfl ⟨rfl, rfl⟩) ?_
    refine wl_nil fun F148 hF149 => ?_
    have s150 : F148 1 = v := (hF149 1).trans s129
    have s151 : F148 5 = .bool true := (hF149 5).trans s130
    have s152 : F148 6 = .string (textOf (l)) := (hF149 6).trans s131
    have s153 : F148 7 = v45 := (hF149 7).trans s132
    have s154 : F148 8 = .int .i64 (headE (K) (Q) (D) (F)) := (hF149 8).trans s133
    have s155 : F148 10 = v65 := (hF149 10).trans s134
    have s156 : F148 11 = .int .i64 (rdE ((wrB (K) (Q) (D) (F) (l)))) := (hF149 11).trans s135
    have s157 : F148 80 = undef := (hF149 80).trans s136
    have s158 : F148 12 = .int .i64 (((i : Nat) : Int)) := (hF149 12).trans s137
    have s159 : F148 38 = .bool (decide ((((i : Nat) : Int)) < ((((xorTo (rdP (wrB K Q D F l)) i).length : Nat) : Int)))) := (hF149 38).trans rfl
    clear hF149
    refine then_normal ?_
    refine wq_cond s159 (fun c160 => ?_) (fun c160 => ?_)
    · replace c160 := of_decide_eq_true c160
      refine wq_skip ?_
      refine then_normal ?_
      refine wq_seq ?_
      refine wq_block ?_
      have hil : i < (xorTo (rdP (wrB K Q D F l)) i).length := by rw [xorTo_len]; omega
      refine wq_region ?_
      refine wl_v (v65) rfl rfl (y_mov rfl s155 ⟨rfl, rfl⟩) ?_
      refine wl_v (.int .i64 (((i : Nat) : Int))) rfl rfl (y_mov rfl s158 ⟨rfl, rfl⟩) ?_
      refine wl_v (v65) rfl rfl (y_mov rfl s155 ⟨rfl, rfl⟩) ?_
      refine wl_v (.int .i64 (((i : Nat) : Int))) rfl rfl (y_mov rfl s158 ⟨rfl, rfl⟩) ?_
      refine wl_v (bytAddr (v65) (i)) rfl rfl (y_atB (i) rfl rfl rfl (by omega) (B141).byt (hil) ⟨rfl, rfl⟩) ?_
      have u161 := getD_lt (B141).lt256 (i)
      refine wl_v (.int .u8 ((((xorTo (rdP (wrB K Q D F l)) i).getD (i) 0 : Nat) : Int))) rfl rfl (y_ldB rfl rfl (B141).byt (hil) ⟨rfl, rfl⟩) ?_
      refine wl_v (.int .u8 ((((255 - (xorTo (rdP (wrB K Q D F l)) i).getD i 0) : Nat) : Int))) rfl rfl (y_xorR rfl rfl rfl (xor_255 _ (by assumption)) ⟨rfl, rfl⟩) ?_
      refine wl_v (bytAddr (v65) (i)) rfl rfl (y_atB (i) rfl rfl rfl (by omega) (B141).byt (hil) ⟨rfl, rfl⟩) ?_
      refine wl_setB (n := (255 - (xorTo (rdP (wrB K Q D F l)) i).getD i 0)) rfl rfl rfl rfl rfl (by omega) B141 (hil) (by omega) fun w162 B163 k164 => ?_
      have B165 := B138.all k164 (fun i h x => (((ap144).symm) i h x))
      have B166 := B139.all k164 (fun x => (((ap145).symm) p1 rfl x))
      have B167 := B140.all k164 (fun i h x => (((ap146).symm) i h x))
      have B168 := B142.all k164 (fun x => (((ap147).symm) p79 rfl x))
      have K169 := K126.trans k164 (Grew.ok (S := fun _ => False) gr143 noB_le)
      refine wl_nil fun F170 hF171 => ?_
      have s172 : F170 1 = v := (hF171 1).trans s150
      have s173 : F170 5 = .bool true := (hF171 5).trans s151
      have s174 : F170 6 = .string (textOf (l)) := (hF171 6).trans s152
      have s175 : F170 7 = v45 := (hF171 7).trans s153
      have s176 : F170 8 = .int .i64 (headE (K) (Q) (D) (F)) := (hF171 8).trans s154
      have s177 : F170 10 = v65 := (hF171 10).trans s155
      have s178 : F170 11 = .int .i64 (rdE ((wrB (K) (Q) (D) (F) (l)))) := (hF171 11).trans s156
      have s179 : F170 80 = undef := (hF171 80).trans s157
      have s180 : F170 12 = .int .i64 (((i : Nat) : Int)) := (hF171 12).trans s158
      clear hF171
      refine in_normal ?_
      refine then_normal ?_
      refine wq_region ?_
      refine wl_v (.int .i64 (((i : Nat) : Int))) rfl rfl (y_mov rfl s180 ⟨rfl, rfl⟩) ?_
      refine wl_v (.int .i64 (((i + 1 : Nat) : Int))) rfl rfl (y_add rfl rfl rfl (i64_n (by omega) (by omega)) ⟨rfl, rfl⟩) ?_
      refine wl_v (.int .i64 (((i + 1 : Nat) : Int))) rfl rfl (y_asg rfl rfl ⟨rfl, rfl⟩) ?_
      refine wl_nil fun F181 hF182 => ?_
      have s183 : F181 1 = v := (hF182 1).trans s172
      have s184 : F181 5 = .bool true := (hF182 5).trans s173
      have s185 : F181 6 = .string (textOf (l)) := (hF182 6).trans s174
      have s186 : F181 7 = v45 := (hF182 7).trans s175
      have s187 : F181 8 = .int .i64 (headE (K) (Q) (D) (F)) := (hF182 8).trans s176
      have s188 : F181 10 = v65 := (hF182 10).trans s177
      have s189 : F181 11 = .int .i64 (rdE ((wrB (K) (Q) (D) (F) (l)))) := (hF182 11).trans s178
      have s190 : F181 80 = undef := (hF182 80).trans s179
      have s191 : F181 12 = .int .i64 (((i + 1 : Nat) : Int)) := (hF182 12).trans rfl
      clear hF182
      exact then_normal ⟨((rdP (wrB K Q D F l)).length - (i + 1)), by omega, i + 1, T123, by omega, rfl, s183, s184, s185, s186, s187, s188, s189, s190, s191, K169, B165, B166, B167, B163, B168, gr143, ap144, ap145, ap146, ap147⟩
    · replace c160 := of_decide_eq_false c160
      refine wq_exit ?_
      refine then_exit ?_
      refine then_exit ?_
      have l192 : (rdP (wrB K Q D F l)).length = i := by omega
      subst l192
      refine in_here ?_
      refine then_normal ?_
      refine wq_seq ?_
      refine wq_region ?_
      refine wl_v (v45) rfl rfl (y_mov rfl s153 ⟨rfl, rfl⟩) ?_
      refine wl_call (R := fun v_ w_ => ∃ (v193 : Value) (T196 : Nat → Prop), .tuple #[.agg #[.int .i64 (rdH t0 ((wrB (K) (Q) (D) (F) (l)))), .int .i64 (rdH t1 ((wrB (K) (Q) (D) (F) (l)))), .int .i64 (rdH t2 ((wrB (K) (Q) (D) (F) (l)))), .int .i64 (rdH t3 ((wrB (K) (Q) (D) (F) (l))))], v193, .int .i64 (rdE ((wrB (K) (Q) (D) (F) (l))))] = v_ ∧ Kept (fun _ => False) w125 w_ ∧ (Owb w_ T196 v193 ((rdP ((wrB (K) (Q) (D) (F) (l))))) ∧ Grew w125 noB T196)) rfl rfl (y_cs rfl rfl rfl (fun _ _ => by kernel_rfl) (ev_func _) (vsC rfl vsN) (hd_read (v45) ((wrB (K) (Q) (D) (F) (l))) (T48) _ (by omega) (B140).byt ) (fun e_ w_ h_ => by obtain ⟨v193_, T196_, he_, hr_⟩ := h_; exact ⟨_, he_, v193_, T196_, rfl, hr_⟩)) ?_
      rintro _ w194 ⟨v193, T196, rfl, k195, ⟨B197, g198⟩⟩
      have B199 := B138.all k195 Apart.none
      have B200 := B139.all k195 id
      have B201 := B140.all k195 Apart.none
      have B202 := B141.all k195 Apart.none
      have B203 := B142.all k195 id
      have K204 := K126.trans k195 (fun _ _ x => x.elim)
      have gr205 : Grew w0 noB (T196) := Grew.new K126 g198
      have ap206 : Apart (T196) (T_b) := Apart.new g198 (B138).live
      have ap207 : Apart (T196) (onB p1) := Apart.new g198 (onB_live (B139).lt)
      have ap208 : Apart (T196) (T48) := Apart.new g198 (B140).live
      have ap209 : Apart (T196) (T123) := Apart.new g198 (B141).live
      have ap210 : Apart (T196) (onB p79) := Apart.new g198 (onB_live (B142).lt)
      refine wl_v (.tuple #[.agg #[.int .i64 (rdH t0 ((wrB (K) (Q) (D) (F) (l)))), .int .i64 (rdH t1 ((wrB (K) (Q) (D) (F) (l)))), .int .i64 (rdH t2 ((wrB (K) (Q) (D) (F) (l)))), .int .i64 (rdH t3 ((wrB (K) (Q) (D) (F) (l))))], v193, .int .i64 (rdE ((wrB (K) (Q) (D) (F) (l))))]) rfl rfl (y_mov rfl rfl ⟨rfl, rfl⟩) ?_
      refine wl_v (.agg #[.int .i64 (rdH t0 ((wrB (K) (Q) (D) (F) (l)))), .int .i64 (rdH t1 ((wrB (K) (Q) (D) (F) (l)))), .int .i64 (rdH t2 ((wrB (K) (Q) (D) (F) (l)))), .int .i64 (rdH t3 ((wrB (K) (Q) (D) (F) (l))))]) rfl rfl (y_ext rfl rfl rfl ⟨rfl, rfl⟩) ?_
      refine wl_v (v193) rfl rfl (y_ext rfl rfl rfl ⟨rfl, rfl⟩) ?_
      refine wl_v (.int .i64 (rdE ((wrB (K) (Q) (D) (F) (l))))) rfl rfl (y_ext rfl rfl rfl ⟨rfl, rfl⟩) ?_
      refine wl_alloc_stc (n := 4) (vs := [.int .i64 (0), .int .i64 (0), .int .i64 (0), .int .i64 (0)]) rfl rfl rfl (by kernel_rfl) fun p211 w212 B214 g215 k213 => ?_
      have gr216 : Grew w0 noB (onB p211) := Grew.new K204 g215
      have ap217 : Apart (onB p211) (T_b) := Apart.new g215 (B199).live
      have ap218 : Apart (onB p211) (onB p1) := Apart.new g215 (onB_live (B200).lt)
      have ap219 : Apart (onB p211) (T48) := Apart.new g215 (B201).live
      have ap220 : Apart (onB p211) (T123) := Apart.new g215 (B202).live
      have ap221 : Apart (onB p211) (onB p79) := Apart.new g215 (onB_live (B203).lt)
      have ap222 : Apart (onB p211) (T196) := Apart.new g215 (B197).live
      have B223 := B199.all k213 Apart.none
      have B224 := B200.all k213 id
      have B225 := B201.all k213 Apart.none
      have B226 := B202.all k213 Apart.none
      have B227 := B203.all k213 id
      have B228 := B197.all k213 Apart.none
      have K229 := K204.trans k213 (fun _ _ x => x.elim)
      refine wl_store_stc (us := [.int .i64 (rdH t0 ((wrB (K) (Q) (D) (F) (l)))), .int .i64 (rdH t1 ((wrB (K) (Q) (D) (F) (l)))), .int .i64 (rdH t2 ((wrB (K) (Q) (D) (F) (l)))), .int .i64 (rdH t3 ((wrB (K) (Q) (D) (F) (l))))]) stcT_head rfl rfl rfl rfl rfl B214 rfl (oneI rfl (oneI rfl (oneI rfl (oneI rfl oneN)))) fun w230 B231 k232 => ?_
      have B233 := B223.all k232 (fun i h x => (((ap217).symm) i h x))
      have B234 := B224.all k232 (fun x => (((ap218).symm) p1 rfl x))
      have B235 := B225.all k232 (fun i h x => (((ap219).symm) i h x))
      have B236 := B226.all k232 (fun i h x => (((ap220).symm) i h x))
      have B237 := B227.all k232 (fun x => (((ap221).symm) p79 rfl x))
      have B238 := B228.all k232 (fun i h x => (((ap222).symm) i h x))
      have K239 := K229.trans k232 (Grew.ok (S := fun _ => False) gr216 noB_le)
      refine wl_v (v193) rfl rfl (y_asg rfl rfl ⟨rfl, rfl⟩) ?_
      refine wl_v (.int .i64 (rdE ((wrB (K) (Q) (D) (F) (l))))) rfl rfl (y_asg rfl rfl ⟨rfl, rfl⟩) ?_
      refine wl_nil fun F240 hF241 => ?_
      have s242 : F240 1 = v := (hF241 1).trans s150
      have s243 : F240 5 = .bool true := (hF241 5).trans s151
      have s244 : F240 6 = .string (textOf (l)) := (hF241 6).trans s152
      have s245 : F240 8 = .int .i64 (headE (K) (Q) (D) (F)) := (hF241 8).trans s154
      have s246 : F240 11 = .int .i64 (rdE ((wrB (K) (Q) (D) (F) (l)))) := (hF241 11).trans s156
      have s247 : F240 80 = undef := (hF241 80).trans s157
      have s248 : F240 14 = v193 := (hF241 14).trans rfl
      have s249 : F240 15 = .int .i64 (rdE ((wrB (K) (Q) (D) (F) (l)))) := (hF241 15).trans rfl
      clear hF241
      refine then_normal ?_
      refine wq_seq ?_
      by_cases d250 : (headE (K) (Q) (D) (F)) ≠ (0)
      · skip
        refine wq_region ?_
        refine wl_v (.bool true) rfl rfl (y_mov rfl s243 ⟨rfl, rfl⟩) ?_
        refine wl_v (.bool true) rfl rfl (y_mov rfl rfl ⟨rfl, rfl⟩) ?_
        refine wl_vw (v) 1 true 56 rfl rfl rfl rfl rfl (y_mov rfl s242 ⟨rfl, rfl⟩) ?_
        refine wl_vw (.string (textOf (l))) 1 true 56 rfl rfl rfl rfl rfl (y_text rfl (bytes_at rfl B233) ⟨rfl, rfl⟩) ?_
        refine wl_vw (.string (textOf (l))) 1 true 56 rfl rfl rfl rfl rfl (y_mov rfl s244 ⟨rfl, rfl⟩) ?_
        refine wl_vw (.bool true) 1 true 56 rfl rfl rfl rfl rfl (y_eqlS rfl rfl rfl (beq_self_eq_true _) ⟨rfl, rfl⟩) ?_
        refine wl_v (.bool true) rfl rfl (y_pickT rfl rfl rfl ⟨rfl, rfl⟩) ?_
        refine wl_v (.bool true) rfl rfl (y_mov rfl rfl ⟨rfl, rfl⟩) ?_
        refine wl_vw (.int .i64 (headE (K) (Q) (D) (F))) 7 true 62 rfl rfl rfl rfl rfl (y_mov rfl s245 ⟨rfl, rfl⟩) ?_
        refine wl_vw (.bool true) 7 true 62 rfl rfl rfl rfl rfl (y_neqI rfl rfl rfl (decide_eq_true d250) ⟨rfl, rfl⟩) ?_
        refine wl_vw (.bool true) 7 true 62 rfl rfl rfl rfl rfl (y_mov rfl rfl ⟨rfl, rfl⟩) ?_
        refine wl_unless 10 false 65 rfl rfl rfl (Or.inl rfl) rfl ?_
        refine wl_unless 10 false 65 rfl rfl rfl (Or.inl rfl) rfl ?_
        refine wl_unless 10 false 65 rfl rfl rfl (Or.inl rfl) rfl ?_
        refine wl_unless 13 true 68 rfl rfl rfl (Or.inr rfl) rfl ?_
        refine wl_unless 13 true 68 rfl rfl rfl (Or.inr rfl) rfl ?_
        refine wl_unless 10 false 65 rfl rfl rfl (Or.inl rfl) rfl ?_
        refine wl_unless 10 false 65 rfl rfl rfl (Or.inl rfl) rfl ?_
        refine wl_unless 17 true 72 rfl rfl rfl (Or.inr rfl) rfl ?_
        refine wl_unless 17 true 72 rfl rfl rfl (Or.inr rfl) rfl ?_
        refine wl_unless 17 true 72 rfl rfl rfl (Or.inr rfl) rfl ?_
        refine wl_unless 17 true 72 rfl rfl rfl (Or.inr rfl) rfl ?_
        refine wl_unless 10 false 65 rfl rfl rfl (Or.inl rfl) rfl ?_
        refine wl_vw (.bool true) 7 true 62 rfl rfl rfl rfl rfl (y_pickT rfl rfl rfl ⟨rfl, rfl⟩) ?_
        refine wl_v (.bool true) rfl rfl (y_pickT rfl rfl rfl ⟨rfl, rfl⟩) ?_
        refine wl_v (.bool true) rfl rfl (y_asg rfl rfl ⟨rfl, rfl⟩) ?_
        refine wl_nil fun F251 hF252 => ?_
        have s253 : F251 80 = undef := (hF252 80).trans s247
        have s254 : F251 4 = .bool true := (hF252 4).trans rfl
        clear hF252
        refine then_normal ?_
        refine wq_ret ?_
        exact end_tmp (v := .bool true) s253 rfl rfl s254 ⟨rfl, K239⟩
      · skip
        refine wq_region ?_
        refine wl_v (.bool true) rfl rfl (y_mov rfl s243 ⟨rfl, rfl⟩) ?_
        refine wl_v (.bool true) rfl rfl (y_mov rfl rfl ⟨rfl, rfl⟩) ?_
        refine wl_vw (v) 1 true 56 rfl rfl rfl rfl rfl (y_mov rfl s242 ⟨rfl, rfl⟩) ?_
        refine wl_vw (.string (textOf (l))) 1 true 56 rfl rfl rfl rfl rfl (y_text rfl (bytes_at rfl B233) ⟨rfl, rfl⟩) ?_
        refine wl_vw (.string (textOf (l))) 1 true 56 rfl rfl rfl rfl rfl (y_mov rfl s244 ⟨rfl, rfl⟩) ?_
        refine wl_vw (.bool true) 1 true 56 rfl rfl rfl rfl rfl (y_eqlS rfl rfl rfl (beq_self_eq_true _) ⟨rfl, rfl⟩) ?_
        refine wl_v (.bool true) rfl rfl (y_pickT rfl rfl rfl ⟨rfl, rfl⟩) ?_
        refine wl_v (.bool true) rfl rfl (y_mov rfl rfl ⟨rfl, rfl⟩) ?_
        refine wl_vw (.int .i64 (headE (K) (Q) (D) (F))) 7 true 62 rfl rfl rfl rfl rfl (y_mov rfl s245 ⟨rfl, rfl⟩) ?_
        refine wl_vw (.bool false) 7 true 62 rfl rfl rfl rfl rfl (y_neqI rfl rfl rfl (decide_eq_false d250) ⟨rfl, rfl⟩) ?_
        refine wl_vw (.bool false) 7 true 62 rfl rfl rfl rfl rfl (y_mov rfl rfl ⟨rfl, rfl⟩) ?_
        refine wl_vw (.int .i64 (rdE ((wrB (K) (Q) (D) (F) (l))))) 10 false 65 rfl rfl rfl rfl rfl (y_mov rfl s246 ⟨rfl, rfl⟩) ?_
        refine wl_vw (.bool true) 10 false 65 rfl rfl rfl rfl rfl (y_eqlI rfl rfl rfl (decide_eq_true (hyh (by first | assumption | (apply Decidable.byContradiction; assumption))).2) ⟨rfl, rfl⟩) ?_
        refine wl_vw (.bool true) 10 false 65 rfl rfl rfl rfl rfl (y_mov rfl rfl ⟨rfl, rfl⟩) ?_
        refine wl_vw (.int .i64 (rdE ((wrB (K) (Q) (D) (F) (l))))) 13 true 68 rfl rfl rfl rfl rfl (y_mov rfl s249 ⟨rfl, rfl⟩) ?_
        refine wl_vw (.bool true) 13 true 68 rfl rfl rfl rfl rfl (y_eqlI rfl rfl rfl (decide_eq_true (hyh (by first | assumption | (apply Decidable.byContradiction; assumption))).2) ⟨rfl, rfl⟩) ?_
        refine wl_vw (.bool true) 10 false 65 rfl rfl rfl rfl rfl (y_pickT rfl rfl rfl ⟨rfl, rfl⟩) ?_
        refine wl_vw (.bool true) 10 false 65 rfl rfl rfl rfl rfl (y_mov rfl rfl ⟨rfl, rfl⟩) ?_
        refine wl_vw (v193) 17 true 72 rfl rfl rfl rfl rfl (y_mov rfl s248 ⟨rfl, rfl⟩) ?_
        refine wl_vw (.string (textOf ((rdP ((wrB (K) (Q) (D) (F) (l))))))) 17 true 72 rfl rfl rfl rfl rfl (y_text rfl (bytes_at rfl (B238).byt) ⟨rfl, rfl⟩) ?_
        refine wl_vw (.string (textOf (l))) 17 true 72 rfl rfl rfl rfl rfl (y_mov rfl s244 ⟨rfl, rfl⟩) ?_
        refine wl_vw (.bool true) 17 true 72 rfl rfl rfl rfl rfl (y_eqlS rfl rfl rfl (text_same (hyh (by first | assumption | (apply Decidable.byContradiction; assumption))).1) ⟨rfl, rfl⟩) ?_
        refine wl_vw (.bool true) 10 false 65 rfl rfl rfl rfl rfl (y_pickT rfl rfl rfl ⟨rfl, rfl⟩) ?_
        refine wl_vw (.bool true) 7 true 62 rfl rfl rfl rfl rfl (y_pickF rfl rfl rfl ⟨rfl, rfl⟩) ?_
        refine wl_v (.bool true) rfl rfl (y_pickT rfl rfl rfl ⟨rfl, rfl⟩) ?_
        refine wl_v (.bool true) rfl rfl (y_asg rfl rfl ⟨rfl, rfl⟩) ?_
        refine wl_nil fun F255 hF256 => ?_
        have s257 : F255 80 = undef := (hF256 80).trans s247
        have s258 : F255 4 = .bool true := (hF256 4).trans rfl
        clear hF256
        refine then_normal ?_
        refine wq_ret ?_
        exact end_tmp (v := .bool true) s257 rfl rfl s258 ⟨rfl, K239⟩
end Go.Proofs.Ytnccblhdokplkaa
set_option maxRecDepth 100000
namespace Go.Proofs.Ytnccblhdokplkaa
open Go.ChangeShapes Go.WideShapes Go.ChangeAt Go.RowKit

section
variable {H : Type} {enc : TypeId × Value → H} {w : World} {base : Nat} {spare : Nat → Bool} {held : Bool}

theorem BytesArg.of_row {a : Option Addr} {len cap : Nat} {zs : List Int}
    (h : (a = none ∧ len = 0 ∧ cap = 0 ∧ zs = []) ∨ ∃ x, a = some x ∧ len ≤ cap ∧ cap ≤ maxLen ∧ len ≤ zs.length ∧ (∀ i, i < zs.length → w.cell? (x.add i) = some (.int .u8 (zs.getD i 0))) ∧ ∀ n ∈ zs, (Lit.int .u8 n).wf = true) :
    ∃ l : List Nat, BytesArg w (.slice a len cap) l := by
  rcases h with ⟨rfl, rfl, rfl, rfl⟩ | ⟨x, rfl, hlc, hcm, hz, hcell, hwf⟩
  · exact ⟨[], BytesArg.nil w⟩
  · have hlen : ((zs.take len).map Int.toNat).length = len := by simp; omega
    refine ⟨(zs.take len).map Int.toNat, some x, cap, by rw [hlen], by rw [hlen]; exact hlc, hcm, by simp, ?_, ?_⟩
    · intro y hy
      obtain ⟨z, hz1, rfl⟩ := List.mem_map.1 hy
      have := bounds_u8 (hwf z (List.mem_of_mem_take hz1))
      omega
    · intro hpos
      rw [hlen] at hpos
      have hpos' : 0 < zs.length := by omega
      obtain ⟨b, off, rfl, hc⟩ := ints_at hcell hpos'
      refine ⟨b, off, rfl, World.block_lt_of_cell? w _ (hc 0 hpos'), fun i hi => ?_⟩
      rw [hlen] at hi
      have hi' : i < zs.length := by omega
      rw [hc i hi']
      have hwi := bounds_u8 (hwf zs[i] (List.getElem_mem hi'))
      simp [List.getD, hi', hi]
      omega

theorem bytes_open {fuel : Nat} {v : Value} {x : DataW H × List MemPlace}
    (h : DataW.trod enc Try.prog w base spare held fuel 27 [v] = some x) : ∃ l : List Nat, BytesArg w v l := by
  rcases open_ints Try.underlying27 Try.underlying5 (by kernel_rfl) h with ⟨hcs, _⟩ | ⟨a, len, cap, zs, hcs, _, hl, hm, hz, _, hcell, hwz⟩
  · simp at hcs
    subst hcs
    exact ⟨[], BytesArg.nil w⟩
  · simp at hcs
    subst hcs
    exact BytesArg.of_row (.inr ⟨a, rfl, hl, hm, by have := hz; split at this <;> omega, hcell, hwz⟩)

end
end Go.Proofs.Ytnccblhdokplkaa
set_option maxRecDepth 100000
namespace Go.Proofs.Ytnccblhdokplkaa
open Go.ChangeShapes Go.WideShapes Go.ChangeAt Go.RowKit Go.Deep Go.Joins

section
variable {H : Type} {enc : TypeId × Value → H} {w : World} {base : Nat} {spare : Nat → Bool} {held : Bool}
theorem Try.cellsI : Try.prog.cellsOf 3 = 1 := by kernel_rfl
theorem Try.cells_head : Try.prog.cellsOf 26 = 4 := by kernel_rfl
theorem head_open {r : Reach} {b0 : Nat} {v : Value} {d : DataW H} {ps : List MemPlace} (hval : Value.okWide Try.prog w r b0 26 v) (h : DataW.Trod enc Try.prog w base spare held 26 v d ps) :
    ∃ a b c e : Int, v = .agg #[.int .i64 a, .int .i64 b, .int .i64 c, .int .i64 e] := by
  obtain ⟨cs, rfl, hsz⟩ := okWide_struct Try.underlying26 hval
  rw [Try.cells_head] at hsz
  obtain ⟨cs⟩ := cs
  obtain ⟨fuel, hf⟩ := h
  match cs, hsz with
  | [c0, c1, c2, c3], _ =>
    obtain ⟨y0, y1, y2, y3, n, _, _, h0, h1, h2, h3⟩ := trod_struct4 (cs := [c0, c1, c2, c3]) Try.underlying26 hf
    simp only [Try.cellsI, List.drop_zero, List.drop_succ_cons, List.take_succ_cons, List.take_zero] at h0 h1 h2 h3
    obtain ⟨a, ha, _, _⟩ := DataW.trod_int Try.underlying3 h0
    obtain ⟨b, hb, _, _⟩ := DataW.trod_int Try.underlying3 h1
    obtain ⟨c, hc, _, _⟩ := DataW.trod_int Try.underlying3 h2
    obtain ⟨e, he, _, _⟩ := DataW.trod_int Try.underlying3 h3
    simp only [List.cons.injEq, and_true] at ha hb hc he
    subst ha; subst hb; subst hc; subst he
    exact ⟨a, b, c, e, rfl⟩
end
end Go.Proofs.Ytnccblhdokplkaa
