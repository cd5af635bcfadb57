/- What IntraTells reaches of my texts, part 6. -/
import Derived.Test.YtdggilbgjijfmaaIntraTellsE
namespace Go.Proofs.Ytdggilbgjijfmaa
open Go.RowKit

set_option maxHeartbeats 4000000 in
set_option maxRecDepth 100000 in
theorem iawake (w0 : World) :
    Calls Try.prog 9 #[] w0 fun e w' => e = .returned (.bool true) ∧ Kept (fun _ => False) w0 w' := by
  refine calls_wq (args := []) 99 Try.func9 rfl rfl (Nat.le_of_ble_eq_true rfl) ?_
  have K0 := Kept.refl (fun _ => False) w0
  have hf := Lib.hid awake8
  refine wq_seq ?_
  refine wq_region ?_
  refine wl_v (.bool false) rfl rfl (y_asg rfl rfl ⟨rfl, rfl⟩) ?_
  refine wl_nil fun F1 hF2 => ?_
  have s3 : F1 99 = undef := (hF2 99).trans rfl
  clear hF2
  refine then_normal ?_
  refine wq_seq ?_
  refine wq_region ?_
  refine wl_call (R := fun v_ w_ => ∃ (v4 : Value) (T9 : Nat → Prop) (v5 : Value) (T10 : Nat → Prop) (v6 : Value) (T11 : Nat → Prop), .tuple #[.agg #[.int .i64 ((newF (8) (8) (7)).W), .int .i64 ((newF (8) (8) (7)).H), v4, v5, v6], .int .i64 (newE (8) (8))] = v_ ∧ Kept (fun _ => False) w0 w_ ∧ (Owb w_ T9 v4 ((newF (8) (8) (7)).p0) ∧ Grew w0 noB T9) ∧ (Owb w_ T10 v5 ((newF (8) (8) (7)).p1) ∧ Grew w0 noB T10) ∧ (Owb w_ T11 v6 ((newF (8) (8) (7)).p2) ∧ Grew w0 noB T11) ∧ Apart T9 T10 ∧ Apart T9 T11 ∧ Apart T10 T11) rfl rfl (y_cs rfl rfl rfl (fun _ _ => by kernel_rfl) (ev_func _) (vsC rfl (vsC rfl (vsC rfl vsN))) (pl_new (8) (8) (7)  _ (by omega)  ) (fun e_ w_ h_ => by obtain ⟨v4_, T9_, v5_, T10_, v6_, T11_, he_, hr_⟩ := h_; exact ⟨_, he_, v4_, T9_, v5_, T10_, v6_, T11_, rfl, hr_⟩)) ?_
  rintro _ w7 ⟨v4, T9, v5, T10, v6, T11, rfl, k8, ⟨B12, g15⟩, ⟨B13, g16⟩, ⟨B14, g17⟩, ap18, ap19, ap20⟩
  have K21 := K0.trans k8 (fun _ _ x => x.elim)
  have gr22 : Grew w0 noB (T9) := Grew.new K0 g15
  have gr23 : Grew w0 noB (T10) := Grew.new K0 g16
  have gr24 : Grew w0 noB (T11) := Grew.new K0 g17
  refine wl_v (.tuple #[.agg #[.int .i64 ((newF (8) (8) (7)).W), .int .i64 ((newF (8) (8) (7)).H), v4, v5, v6], .int .i64 (newE (8) (8))]) rfl rfl (y_mov rfl rfl ⟨rfl, rfl⟩) ?_
  refine wl_v (.agg #[.int .i64 ((newF (8) (8) (7)).W), .int .i64 ((newF (8) (8) (7)).H), v4, v5, v6]) rfl rfl (y_ext rfl rfl rfl ⟨rfl, rfl⟩) ?_
  refine wl_v (.int .i64 (newE (8) (8))) rfl rfl (y_ext rfl rfl rfl ⟨rfl, rfl⟩) ?_
  refine wl_alloc_stc (n := 5) (vs := [.int .i64 (0), .int .i64 (0), .slice none 0 0, .slice none 0 0, .slice none 0 0]) rfl rfl rfl (by kernel_rfl) fun p25 w26 B28 g29 k27 => ?_
  have gr30 : Grew w0 noB (onB p25) := Grew.new K21 g29
  have ap31 : Apart (onB p25) (T9) := Apart.new g29 (B12).live
  have ap32 : Apart (onB p25) (T10) := Apart.new g29 (B13).live
  have ap33 : Apart (onB p25) (T11) := Apart.new g29 (B14).live
  have B34 := B12.all k27 Apart.none
  have B35 := B13.all k27 Apart.none
  have B36 := B14.all k27 Apart.none
  have K37 := K21.trans k27 (fun _ _ x => x.elim)
  refine wl_store_stc (us := [.int .i64 ((newF (8) (8) (7)).W), .int .i64 ((newF (8) (8) (7)).H), v4, v5, v6]) stcT_frame rfl rfl rfl rfl rfl B28 rfl (oneI rfl (oneI rfl (oneI (B34).one (oneI (B35).one (oneI (B36).one oneN))))) fun w38 B39 k40 => ?_
  have B41 := B34.all k40 (fun i h x => (((ap31).symm) i h x))
  have B42 := B35.all k40 (fun i h x => (((ap32).symm) i h x))
  have B43 := B36.all k40 (fun i h x => (((ap33).symm) i h x))
  have K44 := K37.trans k40 (Grew.ok (S := fun _ => False) gr30 noB_le)
  refine wl_v (.int .i64 (newE (8) (8))) rfl rfl (y_asg rfl rfl ⟨rfl, rfl⟩) ?_
  refine wl_nil fun F45 hF46 => ?_
  have s47 : F45 99 = undef := (hF46 99).trans s3
  have s48 : F45 1 = .pointer (some ⟨p25, 0, none⟩) := (hF46 1).trans rfl
  clear hF46
  refine then_normal ?_
  refine wq_seq ?_
  refine wq_region ?_
  refine wl_v (.agg #[.int .i64 ((newF (8) (8) (7)).W), .int .i64 ((newF (8) (8) (7)).H), v4, v5, v6]) rfl rfl (y_load_stc stcT_frame rfl s48 B39 ⟨rfl, rfl⟩) ?_
  refine wl_call (R := fun v_ w_ => v_ = .tuple #[blkV (predB (newF (8) (8) (7)) (0) (4) (4) (0)), .int .i64 (predE (newF (8) (8) (7)) (0) (4) (4) (0))] ∧ Kept (fun _ => False) w38 w_) rfl rfl (y_cs rfl rfl rfl (fun _ _ => by kernel_rfl) (ev_func _) (vsC rfl (vsC rfl (vsC rfl (vsC rfl (vsC rfl vsN))))) (il_predict (0) (4) (4) (0) (newF (8) (8) (7)) (v4) (v5) (v6) (T9) (T10) (T11) _  (B41).byt (B42).byt (B43).byt ) (fun e_ w_ h_ => ⟨_, h_.1, rfl, h_.2⟩)) ?_
  rintro _ w49 ⟨rfl, k50⟩
  have B51 := B41.all k50 Apart.none
  have B52 := B42.all k50 Apart.none
  have B53 := B43.all k50 Apart.none
  have B54 := B39.all k50 id
  have K55 := K44.trans k50 (fun _ _ x => x.elim)
  refine wl_v (.tuple #[blkV (predB (newF (8) (8) (7)) (0) (4) (4) (0)), .int .i64 (predE (newF (8) (8) (7)) (0) (4) (4) (0))]) rfl rfl (y_mov rfl rfl ⟨rfl, rfl⟩) ?_
  refine wl_v (blkV (predB (newF (8) (8) (7)) (0) (4) (4) (0))) rfl rfl (y_ext rfl rfl rfl ⟨rfl, rfl⟩) ?_
  refine wl_v (.int .i64 (predE (newF (8) (8) (7)) (0) (4) (4) (0))) rfl rfl (y_ext rfl rfl rfl ⟨rfl, rfl⟩) ?_
  refine wl_alloc_blk rfl rfl rfl blkT_block.2.2 fun p56 w57 e60 B58 k59 => ?_
  have g61 := onB_new (Nat.le_of_eq e60.symm)
  have gr62 : Grew w0 noB (onB p56) := Grew.new K55 g61
  have ap63 : Apart (onB p56) (T9) := Apart.new g61 (B51).live
  have ap64 : Apart (onB p56) (T10) := Apart.new g61 (B52).live
  have ap65 : Apart (onB p56) (T11) := Apart.new g61 (B53).live
  have ap66 : Apart (onB p56) (onB p25) := Apart.new g61 (onB_live (B54).lt)
  clear e60 g61
  have B67 := B51.all k59 Apart.none
  have B68 := B52.all k59 Apart.none
  have B69 := B53.all k59 Apart.none
  have B70 := B54.all k59 id
  have K71 := K55.trans k59 (fun _ _ x => x.elim)
  refine wl_store_blk blkT_block rfl rfl rfl rfl rfl B58 fun w72 B73 k74 => ?_
  have B75 := B67.all k74 (fun i h x => (((ap63).symm) i h x))
  have B76 := B68.all k74 (fun i h x => (((ap64).symm) i h x))
  have B77 := B69.all k74 (fun i h x => (((ap65).symm) i h x))
  have B78 := B70.all k74 (fun x => (((ap66).symm) p25 rfl x))
  have K79 := K71.trans k74 (Grew.ok (S := fun _ => False) gr62 noB_le)
  refine wl_v (.int .i64 (predE (newF (8) (8) (7)) (0) (4) (4) (0))) rfl rfl (y_asg rfl rfl ⟨rfl, rfl⟩) ?_
  refine wl_nil fun F80 hF81 => ?_
  have s82 : F80 99 = undef := (hF81 99).trans s47
  have s83 : F80 1 = .pointer (some ⟨p25, 0, none⟩) := (hF81 1).trans s48
  have s84 : F80 3 = .pointer (some ⟨p56, 0, none⟩) := (hF81 3).trans rfl
  have s85 : F80 4 = .int .i64 (predE (newF (8) (8) (7)) (0) (4) (4) (0)) := (hF81 4).trans rfl
  clear hF81
  refine then_normal ?_
  refine wq_seq ?_
  refine wq_region ?_
  refine wl_v (.agg #[.int .i64 ((newF (8) (8) (7)).W), .int .i64 ((newF (8) (8) (7)).H), v4, v5, v6]) rfl rfl (y_load_stc stcT_frame rfl s83 B78 ⟨rfl, rfl⟩) ?_
  refine wl_call (R := fun v_ w_ => v_ = .tuple #[blkV (predB (newF (8) (8) (7)) (0) (0) (0) (0)), .int .i64 (predE (newF (8) (8) (7)) (0) (0) (0) (0))] ∧ Kept (fun _ => False) w72 w_) rfl rfl (y_cs rfl rfl rfl (fun _ _ => by kernel_rfl) (ev_func _) (vsC rfl (vsC rfl (vsC rfl (vsC rfl (vsC rfl vsN))))) (il_predict (0) (0) (0) (0) (newF (8) (8) (7)) (v4) (v5) (v6) (T9) (T10) (T11) _  (B75).byt (B76).byt (B77).byt ) (fun e_ w_ h_ => ⟨_, h_.1, rfl, h_.2⟩)) ?_
  rintro _ w86 ⟨rfl, k87⟩
  have B88 := B75.all k87 Apart.none
  have B89 := B76.all k87 Apart.none
  have B90 := B77.all k87 Apart.none
  have B91 := B78.all k87 id
  have B92 := B73.all k87 id
  have K93 := K79.trans k87 (fun _ _ x => x.elim)
  refine wl_v (.tuple #[blkV (predB (newF (8) (8) (7)) (0) (0) (0) (0)), .int .i64 (predE (newF (8) (8) (7)) (0) (0) (0) (0))]) rfl rfl (y_mov rfl rfl ⟨rfl, rfl⟩) ?_
  refine wl_v (blkV (predB (newF (8) (8) (7)) (0) (0) (0) (0))) rfl rfl (y_ext rfl rfl rfl ⟨rfl, rfl⟩) ?_
  refine wl_v (.int .i64 (predE (newF (8) (8) (7)) (0) (0) (0) (0))) rfl rfl (y_ext rfl rfl rfl ⟨rfl, rfl⟩) ?_
  refine wl_alloc_blk rfl rfl rfl blkT_block.2.2 fun p94 w95 e98 B96 k97 => ?_
  have g99 := onB_new (Nat.le_of_eq e98.symm)
  have gr100 : Grew w0 noB (onB p94) := Grew.new K93 g99
  have ap101 : Apart (onB p94) (T9) := Apart.new g99 (B88).live
  have ap102 : Apart (onB p94) (T10) := Apart.new g99 (B89).live
  have ap103 : Apart (onB p94) (T11) := Apart.new g99 (B90).live
  have ap104 : Apart (onB p94) (onB p25) := Apart.new g99 (onB_live (B91).lt)
  have ap105 : Apart (onB p94) (onB p56) := Apart.new g99 (onB_live (B92).lt)
  clear e98 g99
  have B106 := B88.all k97 Apart.none
  have B107 := B89.all k97 Apart.none
  have B108 := B90.all k97 Apart.none
  have B109 := B91.all k97 id
  have B110 := B92.all k97 id
  have K111 := K93.trans k97 (fun _ _ x => x.elim)
  refine wl_store_blk blkT_block rfl rfl rfl rfl rfl B96 fun w112 B113 k114 => ?_
  have B115 := B106.all k114 (fun i h x => (((ap101).symm) i h x))
  have B116 := B107.all k114 (fun i h x => (((ap102).symm) i h x))
  have B117 := B108.all k114 (fun i h x => (((ap103).symm) i h x))
  have B118 := B109.all k114 (fun x => (((ap104).symm) p25 rfl x))
  have B119 := B110.all k114 (fun x => (((ap105).symm) p56 rfl x))
  have K120 := K111.trans k114 (Grew.ok (S := fun _ => False) gr100 noB_le)
  refine wl_v (.int .i64 (predE (newF (8) (8) (7)) (0) (0) (0) (0))) rfl rfl (y_asg rfl rfl ⟨rfl, rfl⟩) ?_
  refine wl_nil fun F121 hF122 => ?_
  have s123 : F121 99 = undef := (hF122 99).trans s82
  have s124 : F121 1 = .pointer (some ⟨p25, 0, none⟩) := (hF122 1).trans s83
  have s125 : F121 3 = .pointer (some ⟨p56, 0, none⟩) := (hF122 3).trans s84
  have s126 : F121 4 = .int .i64 (predE (newF (8) (8) (7)) (0) (4) (4) (0)) := (hF122 4).trans s85
  have s127 : F121 5 = .pointer (some ⟨p94, 0, none⟩) := (hF122 5).trans rfl
  clear hF122
  refine then_normal ?_
  refine wq_seq ?_
  refine wq_region ?_
  refine wl_v (.agg #[.int .i64 ((newF (8) (8) (7)).W), .int .i64 ((newF (8) (8) (7)).H), v4, v5, v6]) rfl rfl (y_load_stc stcT_frame rfl s124 B118 ⟨rfl, rfl⟩) ?_
  refine wl_call (R := fun v_ w_ => v_ = .tuple #[blkV (predB (newF (8) (8) (7)) (0) (0) (4) (1)), .int .i64 (predE (newF (8) (8) (7)) (0) (0) (4) (1))] ∧ Kept (fun _ => False) w112 w_) rfl rfl (y_cs rfl rfl rfl (fun _ _ => by kernel_rfl) (ev_func _) (vsC rfl (vsC rfl (vsC rfl (vsC rfl (vsC rfl vsN))))) (il_predict (0) (0) (4) (1) (newF (8) (8) (7)) (v4) (v5) (v6) (T9) (T10) (T11) _  (B115).byt (B116).byt (B117).byt ) (fun e_ w_ h_ => ⟨_, h_.1, rfl, h_.2⟩)) ?_
  rintro _ w128 ⟨rfl, k129⟩
  have B130 := B115.all k129 Apart.none
  have B131 := B116.all k129 Apart.none
  have B132 := B117.all k129 Apart.none
  have B133 := B118.all k129 id
  have B134 := B119.all k129 id
  have B135 := B113.all k129 id
  have K136 := K120.trans k129 (fun _ _ x => x.elim)
  refine wl_v (.tuple #[blkV (predB (newF (8) (8) (7)) (0) (0) (4) (1)), .int .i64 (predE (newF (8) (8) (7)) (0) (0) (4) (1))]) rfl rfl (y_mov rfl rfl ⟨rfl, rfl⟩) ?_
  refine wl_v (blkV (predB (newF (8) (8) (7)) (0) (0) (4) (1))) rfl rfl (y_ext rfl rfl rfl ⟨rfl, rfl⟩) ?_
  refine wl_v (.int .i64 (predE (newF (8) (8) (7)) (0) (0) (4) (1))) rfl rfl (y_ext rfl rfl rfl ⟨rfl, rfl⟩) ?_
  refine wl_alloc_blk rfl rfl rfl blkT_block.2.2 fun p137 w138 e141 B139 k140 => ?_
  have g142 := onB_new (Nat.le_of_eq e141.symm)
  have gr143 : Grew w0 noB (onB p137) := Grew.new K136 g142
  have ap144 : Apart (onB p137) (T9) := Apart.new g142 (B130).live
  have ap145 : Apart (onB p137) (T10) := Apart.new g142 (B131).live
  have ap146 : Apart (onB p137) (T11) := Apart.new g142 (B132).live
  have ap147 : Apart (onB p137) (onB p25) := Apart.new g142 (onB_live (B133).lt)
  have ap148 : Apart (onB p137) (onB p56) := Apart.new g142 (onB_live (B134).lt)
  have ap149 : Apart (onB p137) (onB p94) := Apart.new g142 (onB_live (B135).lt)
  clear e141 g142
  have B150 := B130.all k140 Apart.none
  have B151 := B131.all k140 Apart.none
  have B152 := B132.all k140 Apart.none
  have B153 := B133.all k140 id
  have B154 := B134.all k140 id
  have B155 := B135.all k140 id
  have K156 := K136.trans k140 (fun _ _ x => x.elim)
  refine wl_store_blk blkT_block rfl rfl rfl rfl rfl B139 fun w157 B158 k159 => ?_
  have B160 := B150.all k159 (fun i h x => (((ap144).symm) i h x))
  have B161 := B151.all k159 (fun i h x => (((ap145).symm) i h x))
  have B162 := B152.all k159 (fun i h x => (((ap146).symm) i h x))
  have B163 := B153.all k159 (fun x => (((ap147).symm) p25 rfl x))
  have B164 := B154.all k159 (fun x => (((ap148).symm) p56 rfl x))
  have B165 := B155.all k159 (fun x => (((ap149).symm) p94 rfl x))
  have K166 := K156.trans k159 (Grew.ok (S := fun _ => False) gr143 noB_le)
  refine wl_v (.int .i64 (predE (newF (8) (8) (7)) (0) (0) (4) (1))) rfl rfl (y_asg rfl rfl ⟨rfl, rfl⟩) ?_
  refine wl_nil fun F167 hF168 => ?_
  have s169 : F167 99 = undef := (hF168 99).trans s123
  have s170 : F167 1 = .pointer (some ⟨p25, 0, none⟩) := (hF168 1).trans s124
  have s171 : F167 3 = .pointer (some ⟨p56, 0, none⟩) := (hF168 3).trans s125
  have s172 : F167 4 = .int .i64 (predE (newF (8) (8) (7)) (0) (4) (4) (0)) := (hF168 4).trans s126
  have s173 : F167 5 = .pointer (some ⟨p94, 0, none⟩) := (hF168 5).trans s127
  have s174 : F167 7 = .pointer (some ⟨p137, 0, none⟩) := (hF168 7).trans rfl
  clear hF168
  refine then_normal ?_
  refine wq_seq ?_
  refine wq_region ?_
  refine wl_v (.agg #[.int .i64 ((newF (8) (8) (7)).W), .int .i64 ((newF (8) (8) (7)).H), v4, v5, v6]) rfl rfl (y_load_stc stcT_frame rfl s170 B163 ⟨rfl, rfl⟩) ?_
  refine wl_call (R := fun v_ w_ => v_ = .tuple #[blkV (predB (newF (8) (8) (7)) (0) (0) (0) (4)), .int .i64 (predE (newF (8) (8) (7)) (0) (0) (0) (4))] ∧ Kept (fun _ => False) w157 w_) rfl rfl (y_cs rfl rfl rfl (fun _ _ => by kernel_rfl) (ev_func _) (vsC rfl (vsC rfl (vsC rfl (vsC rfl (vsC rfl vsN))))) (il_predict (0) (0) (0) (4) (newF (8) (8) (7)) (v4) (v5) (v6) (T9) (T10) (T11) _  (B160).byt (B161).byt (B162).byt ) (fun e_ w_ h_ => ⟨_, h_.1, rfl, h_.2⟩)) ?_
  rintro _ w175 ⟨rfl, k176⟩
  have B177 := B160.all k176 Apart.none
  have B178 := B161.all k176 Apart.none
  have B179 := B162.all k176 Apart.none
  have B180 := B163.all k176 id
  have B181 := B164.all k176 id
  have B182 := B165.all k176 id
  have B183 := B158.all k176 id
  have K184 := K166.trans k176 (fun _ _ x => x.elim)
  refine wl_v (.tuple #[blkV (predB (newF (8) (8) (7)) (0) (0) (0) (4)), .int .i64 (predE (newF (8) (8) (7)) (0) (0) (0) (4))]) rfl rfl (y_mov rfl rfl ⟨rfl, rfl⟩) ?_
  refine wl_v (blkV (predB (newF (8) (8) (7)) (0) (0) (0) (4))) rfl rfl (y_ext rfl rfl rfl ⟨rfl, rfl⟩) ?_
  refine wl_v (.int .i64 (predE (newF (8) (8) (7)) (0) (0) (0) (4))) rfl rfl (y_ext rfl rfl rfl ⟨rfl, rfl⟩) ?_
  refine wl_alloc_blk rfl rfl rfl blkT_block.2.2 fun p185 w186 e189 B187 k188 => ?_
  have g190 := onB_new (Nat.le_of_eq e189.symm)
  have gr191 : Grew w0 noB (onB p185) := Grew.new K184 g190
  have ap192 : Apart (onB p185) (T9) := Apart.new g190 (B177).live
  have ap193 : Apart (onB p185) (T10) := Apart.new g190 (B178).live
  have ap194 : Apart (onB p185) (T11) := Apart.new g190 (B179).live
  have ap195 : Apart (onB p185) (onB p25) := Apart.new g190 (onB_live (B180).lt)
  have ap196 : Apart (onB p185) (onB p56) := Apart.new g190 (onB_live (B181).lt)
  have ap197 : Apart (onB p185) (onB p94) := Apart.new g190 (onB_live (B182).lt)
  have ap198 : Apart (onB p185) (onB p137) := Apart.new g190 (onB_live (B183).lt)
  clear e189 g190
  have B199 := B177.all k188 Apart.none
  have B200 := B178.all k188 Apart.none
  have B201 := B179.all k188 Apart.none
  have B202 := B180.all k188 id
  have B203 := B181.all k188 id
  have B204 := B182.all k188 id
  have B205 := B183.all k188 id
  have K206 := K184.trans k188 (fun _ _ x => x.elim)
  refine wl_store_blk blkT_block rfl rfl rfl rfl rfl B187 fun w207 B208 k209 => ?_
  have B210 := B199.all k209 (fun i h x => (((ap192).symm) i h x))
  have B211 := B200.all k209 (fun i h x => (((ap193).symm) i h x))
  have B212 := B201.all k209 (fun i h x => (((ap194).symm) i h x))
  have B213 := B202.all k209 (fun x => (((ap195).symm) p25 rfl x))
  have B214 := B203.all k209 (fun x => (((ap196).symm) p56 rfl x))
  have B215 := B204.all k209 (fun x => (((ap197).symm) p94 rfl x))
  have B216 := B205.all k209 (fun x => (((ap198).symm) p137 rfl x))
  have K217 := K206.trans k209 (Grew.ok (S := fun _ => False) gr191 noB_le)
  refine wl_v (.int .i64 (predE (newF (8) (8) (7)) (0) (0) (0) (4))) rfl rfl (y_asg rfl rfl ⟨rfl, rfl⟩) ?_
  refine wl_nil fun F218 hF219 => ?_
  have s220 : F218 99 = undef := (hF219 99).trans s169
  have s221 : F218 1 = .pointer (some ⟨p25, 0, none⟩) := (hF219 1).trans s170
  have s222 : F218 3 = .pointer (some ⟨p56, 0, none⟩) := (hF219 3).trans s171
  have s223 : F218 4 = .int .i64 (predE (newF (8) (8) (7)) (0) (4) (4) (0)) := (hF219 4).trans s172
  have s224 : F218 5 = .pointer (some ⟨p94, 0, none⟩) := (hF219 5).trans s173
  have s225 : F218 7 = .pointer (some ⟨p137, 0, none⟩) := (hF219 7).trans s174
  have s226 : F218 10 = .int .i64 (predE (newF (8) (8) (7)) (0) (0) (0) (4)) := (hF219 10).trans rfl
  clear hF219
  refine then_normal ?_
  refine wq_seq ?_
  refine wq_region ?_
  refine wl_v (.agg #[.int .i64 (0), .int .i64 (0), .slice none 0 0, .slice none 0 0, .slice none 0 0]) rfl rfl (y_buildL (l' := []) (cells := #[.int .i64 (0), .int .i64 (0), .slice none 0 0, .slice none 0 0, .slice none 0 0]) rfl bpN (by kernel_rfl) rfl ⟨rfl, rfl⟩) ?_
  refine wl_call (R := fun v_ w_ => v_ = .tuple #[blkV (predB (FD.mk (0) (0) ([]) ([]) ([])) (0) (0) (0) (0)), .int .i64 (predE (FD.mk (0) (0) ([]) ([]) ([])) (0) (0) (0) (0))] ∧ Kept (fun _ => False) w207 w_) rfl rfl (y_cs rfl rfl rfl (fun _ _ => by kernel_rfl) (ev_func _) (vsC rfl (vsC rfl (vsC rfl (vsC rfl (vsC rfl vsN))))) (il_predict (0) (0) (0) (0) (FD.mk (0) (0) ([]) ([]) ([])) (.slice none 0 0) (.slice none 0 0) (.slice none 0 0) (noB) (noB) (noB) _  (Byt.nil _) (Byt.nil _) (Byt.nil _) ) (fun e_ w_ h_ => ⟨_, h_.1, rfl, h_.2⟩)) ?_
  rintro _ w227 ⟨rfl, k228⟩
  have B229 := B210.all k228 Apart.none
  have B230 := B211.all k228 Apart.none
  have B231 := B212.all k228 Apart.none
  have B232 := B213.all k228 id
  have B233 := B214.all k228 id
  have B234 := B215.all k228 id
  have B235 := B216.all k228 id
  have B236 := B208.all k228 id
  have K237 := K217.trans k228 (fun _ _ x => x.elim)
  refine wl_v (.tuple #[blkV (predB (FD.mk (0) (0) ([]) ([]) ([])) (0) (0) (0) (0)), .int .i64 (predE (FD.mk (0) (0) ([]) ([]) ([])) (0) (0) (0) (0))]) rfl rfl (y_mov rfl rfl ⟨rfl, rfl⟩) ?_
  refine wl_v (blkV (predB (FD.mk (0) (0) ([]) ([]) ([])) (0) (0) (0) (0))) rfl rfl (y_ext rfl rfl rfl ⟨rfl, rfl⟩) ?_
  refine wl_v (.int .i64 (predE (FD.mk (0) (0) ([]) ([]) ([])) (0) (0) (0) (0))) rfl rfl (y_ext rfl rfl rfl ⟨rfl, rfl⟩) ?_
  refine wl_alloc_blk rfl rfl rfl blkT_block.2.2 fun p238 w239 e242 B240 k241 => ?_
  have g243 := onB_new (Nat.le_of_eq e242.symm)
  have gr244 : Grew w0 noB (onB p238) := Grew.new K237 g243
  have ap245 : Apart (onB p238) (T9) := Apart.new g243 (B229).live
  have ap246 : Apart (onB p238) (T10) := Apart.new g243 (B230).live
  have ap247 : Apart (onB p238) (T11) := Apart.new g243 (B231).live
  have ap248 : Apart (onB p238) (onB p25) := Apart.new g243 (onB_live (B232).lt)
  have ap249 : Apart (onB p238) (onB p56) := Apart.new g243 (onB_live (B233).lt)
  have ap250 : Apart (onB p238) (onB p94) := Apart.new g243 (onB_live (B234).lt)
  have ap251 : Apart (onB p238) (onB p137) := Apart.new g243 (onB_live (B235).lt)
  have ap252 : Apart (onB p238) (onB p185) := Apart.new g243 (onB_live (B236).lt)
  clear e242 g243
  have B253 := B229.all k241 Apart.none
  have B254 := B230.all k241 Apart.none
  have B255 := B231.all k241 Apart.none
  have B256 := B232.all k241 id
  have B257 := B233.all k241 id
  have B258 := B234.all k241 id
  have B259 := B235.all k241 id
  have B260 := B236.all k241 id
  have K261 := K237.trans k241 (fun _ _ x => x.elim)
  refine wl_store_blk blkT_block rfl rfl rfl rfl rfl B240 fun w262 B263 k264 => ?_
  have B265 := B253.all k264 (fun i h x => (((ap245).symm) i h x))
  have B266 := B254.all k264 (fun i h x => (((ap246).symm) i h x))
  have B267 := B255.all k264 (fun i h x => (((ap247).symm) i h x))
  have B268 := B256.all k264 (fun x => (((ap248).symm) p25 rfl x))
  have B269 := B257.all k264 (fun x => (((ap249).symm) p56 rfl x))
  have B270 := B258.all k264 (fun x => (((ap250).symm) p94 rfl x))
  have B271 := B259.all k264 (fun x => (((ap251).symm) p137 rfl x))
  have B272 := B260.all k264 (fun x => (((ap252).symm) p185 rfl x))
  have K273 := K261.trans k264 (Grew.ok (S := fun _ => False) gr244 noB_le)
  refine wl_v (.int .i64 (predE (FD.mk (0) (0) ([]) ([]) ([])) (0) (0) (0) (0))) rfl rfl (y_asg rfl rfl ⟨rfl, rfl⟩) ?_
  refine wl_nil fun F274 hF275 => ?_
  have s276 : F274 99 = undef := (hF275 99).trans s220
  have s277 : F274 1 = .pointer (some ⟨p25, 0, none⟩) := (hF275 1).trans s221
  have s278 : F274 3 = .pointer (some ⟨p56, 0, none⟩) := (hF275 3).trans s222
  have s279 : F274 4 = .int .i64 (predE (newF (8) (8) (7)) (0) (4) (4) (0)) := (hF275 4).trans s223
  have s280 : F274 5 = .pointer (some ⟨p94, 0, none⟩) := (hF275 5).trans s224
  have s281 : F274 7 = .pointer (some ⟨p137, 0, none⟩) := (hF275 7).trans s225
  have s282 : F274 10 = .int .i64 (predE (newF (8) (8) (7)) (0) (0) (0) (4)) := (hF275 10).trans s226
  have s283 : F274 12 = .int .i64 (predE (FD.mk (0) (0) ([]) ([]) ([])) (0) (0) (0) (0)) := (hF275 12).trans rfl
  clear hF275
  refine then_normal ?_
  refine wq_seq ?_
  refine wq_region ?_
  refine wl_v (.agg #[.int .i64 ((newF (8) (8) (7)).W), .int .i64 ((newF (8) (8) (7)).H), v4, v5, v6]) rfl rfl (y_load_stc stcT_frame rfl s277 B268 ⟨rfl, rfl⟩) ?_
  refine wl_v (blkV (predB (newF (8) (8) (7)) (0) (4) (4) (0))) rfl rfl (y_load_blk blkT_block rfl s278 B269 ⟨rfl, rfl⟩) ?_
  refine wl_call (R := fun v_ w_ => v_ = .tuple #[.int .i64 ((bestF (newF (8) (8) (7)) (0) (4) (4) (predB (newF (8) (8) (7)) (0) (4) (4) (0))).1), .int .i64 ((bestF (newF (8) (8) (7)) (0) (4) (4) (predB (newF (8) (8) (7)) (0) (4) (4) (0))).2)] ∧ Kept (fun _ => False) w262 w_) rfl rfl (y_cs rfl rfl rfl (fun _ _ => by kernel_rfl) (ev_func _) (vsC rfl (vsC rfl (vsC rfl (vsC rfl (vsC rfl vsN))))) (il_best (0) (4) (4) (predB (newF (8) (8) (7)) (0) (4) (4) (0)) (newF (8) (8) (7)) (v4) (v5) (v6) (T9) (T10) (T11) _  (B265).byt (B266).byt (B267).byt ) (fun e_ w_ h_ => ⟨_, h_.1, rfl, h_.2⟩)) ?_
  rintro _ w284 ⟨rfl, k285⟩
  have B286 := B265.all k285 Apart.none
  have B287 := B266.all k285 Apart.none
  have B288 := B267.all k285 Apart.none
  have B289 := B268.all k285 id
  have B290 := B269.all k285 id
  have B291 := B270.all k285 id
  have B292 := B271.all k285 id
  have B293 := B272.all k285 id
  have B294 := B263.all k285 id
  have K295 := K273.trans k285 (fun _ _ x => x.elim)
  refine wl_v (.tuple #[.int .i64 ((bestF (newF (8) (8) (7)) (0) (4) (4) (predB (newF (8) (8) (7)) (0) (4) (4) (0))).1), .int .i64 ((bestF (newF (8) (8) (7)) (0) (4) (4) (predB (newF (8) (8) (7)) (0) (4) (4) (0))).2)]) rfl rfl (y_mov rfl rfl ⟨rfl, rfl⟩) ?_
  refine wl_v (.int .i64 ((bestF (newF (8) (8) (7)) (0) (4) (4) (predB (newF (8) (8) (7)) (0) (4) (4) (0))).1)) rfl rfl (y_ext rfl rfl rfl ⟨rfl, rfl⟩) ?_
  refine wl_v (.int .i64 ((bestF (newF (8) (8) (7)) (0) (4) (4) (predB (newF (8) (8) (7)) (0) (4) (4) (0))).2)) rfl rfl (y_ext rfl rfl rfl ⟨rfl, rfl⟩) ?_
  refine wl_v (.int .i64 ((bestF (newF (8) (8) (7)) (0) (4) (4) (predB (newF (8) (8) (7)) (0) (4) (4) (0))).1)) rfl rfl (y_asg rfl rfl ⟨rfl, rfl⟩) ?_
  refine wl_v (.int .i64 ((bestF (newF (8) (8) (7)) (0) (4) (4) (predB (newF (8) (8) (7)) (0) (4) (4) (0))).2)) rfl rfl (y_asg rfl rfl ⟨rfl, rfl⟩) ?_
  refine wl_nil fun F296 hF297 => ?_
  have s298 : F296 99 = undef := (hF297 99).trans s276
  have s299 : F296 3 = .pointer (some ⟨p56, 0, none⟩) := (hF297 3).trans s278
  have s300 : F296 4 = .int .i64 (predE (newF (8) (8) (7)) (0) (4) (4) (0)) := (hF297 4).trans s279
  have s301 : F296 5 = .pointer (some ⟨p94, 0, none⟩) := (hF297 5).trans s280
  have s302 : F296 7 = .pointer (some ⟨p137, 0, none⟩) := (hF297 7).trans s281
  have s303 : F296 10 = .int .i64 (predE (newF (8) (8) (7)) (0) (0) (0) (4)) := (hF297 10).trans s282
  have s304 : F296 12 = .int .i64 (predE (FD.mk (0) (0) ([]) ([]) ([])) (0) (0) (0) (0)) := (hF297 12).trans s283
  have s305 : F296 13 = .int .i64 ((bestF (newF (8) (8) (7)) (0) (4) (4) (predB (newF (8) (8) (7)) (0) (4) (4) (0))).1) := (hF297 13).trans rfl
  have s306 : F296 14 = .int .i64 ((bestF (newF (8) (8) (7)) (0) (4) (4) (predB (newF (8) (8) (7)) (0) (4) (4) (0))).2) := (hF297 14).trans rfl
  clear hF297
  refine then_normal ?_
  refine wq_seq ?_
  refine wq_region ?_
  refine wl_v (.int .i64 (predE (newF (8) (8) (7)) (0) (4) (4) (0))) rfl rfl (y_mov rfl s300 ⟨rfl, rfl⟩) ?_
  refine wl_v (.bool true) rfl rfl (y_eqlI rfl rfl rfl (decide_eq_true hf.out.1) ⟨rfl, rfl⟩) ?_
  refine wl_v (.bool true) rfl rfl (y_mov rfl rfl ⟨rfl, rfl⟩) ?_
  refine wl_vw (.pointer (some ⟨p56, 9, none⟩)) 2 true 52 rfl rfl rfl rfl rfl (y_atR (9) (s := 1) rfl s299 rfl (by omega) Try.underlying29 (by omega) (by kernel_rfl) (by omega) ⟨rfl, rfl⟩) ?_
  refine wl_vw (.int .i64 ((predB (newF (8) (8) (7)) (0) (4) (4) (0)) (9))) 2 true 52 rfl rfl rfl rfl rfl (y_ldR rfl rfl Try.underlying3 ((B290).cell (by omega)) ⟨rfl, rfl⟩) ?_
  refine wl_vw (.bool true) 2 true 52 rfl rfl rfl rfl rfl (y_eqlI rfl rfl rfl (decide_eq_true hf.out.2.1) ⟨rfl, rfl⟩) ?_
  refine wl_v (.bool true) rfl rfl (y_pickT rfl rfl rfl ⟨rfl, rfl⟩) ?_
  refine wl_v (.bool true) rfl rfl (y_mov rfl rfl ⟨rfl, rfl⟩) ?_
  refine wl_vw (.pointer (some ⟨p94, 3, none⟩)) 7 true 57 rfl rfl rfl rfl rfl (y_atR (3) (s := 1) rfl s301 rfl (by omega) Try.underlying29 (by omega) (by kernel_rfl) (by omega) ⟨rfl, rfl⟩) ?_
  refine wl_vw (.int .i64 ((predB (newF (8) (8) (7)) (0) (0) (0) (0)) (3))) 7 true 57 rfl rfl rfl rfl rfl (y_ldR rfl rfl Try.underlying3 ((B291).cell (by omega)) ⟨rfl, rfl⟩) ?_
  refine wl_vw (.bool true) 7 true 57 rfl rfl rfl rfl rfl (y_eqlI rfl rfl rfl (decide_eq_true hf.out.2.2.1) ⟨rfl, rfl⟩) ?_
  refine wl_v (.bool true) rfl rfl (y_pickT rfl rfl rfl ⟨rfl, rfl⟩) ?_
  refine wl_v (.bool true) rfl rfl (y_mov rfl rfl ⟨rfl, rfl⟩) ?_
  refine wl_vw (.pointer (some ⟨p137, 0, none⟩)) 12 true 62 rfl rfl rfl rfl rfl (y_atR (0) (s := 1) rfl s302 rfl (by omega) Try.underlying29 (by omega) (by kernel_rfl) (by omega) ⟨rfl, rfl⟩) ?_
  refine wl_vw (.int .i64 ((predB (newF (8) (8) (7)) (0) (0) (4) (1)) (0))) 12 true 62 rfl rfl rfl rfl rfl (y_ldR rfl rfl Try.underlying3 ((B292).cell (by omega)) ⟨rfl, rfl⟩) ?_
  refine wl_vw (.bool true) 12 true 62 rfl rfl rfl rfl rfl (y_eqlI rfl rfl rfl (decide_eq_true hf.out.2.2.2.1) ⟨rfl, rfl⟩) ?_
  refine wl_v (.bool true) rfl rfl (y_pickT rfl rfl rfl ⟨rfl, rfl⟩) ?_
  refine wl_v (.bool true) rfl rfl (y_mov rfl rfl ⟨rfl, rfl⟩) ?_
  refine wl_vw (.int .i64 (predE (newF (8) (8) (7)) (0) (0) (0) (4))) 17 true 67 rfl rfl rfl rfl rfl (y_mov rfl s303 ⟨rfl, rfl⟩) ?_
  refine wl_vw (.bool true) 17 true 67 rfl rfl rfl rfl rfl (y_eqlI rfl rfl rfl (decide_eq_true hf.out.2.2.2.2.1) ⟨rfl, rfl⟩) ?_
  refine wl_v (.bool true) rfl rfl (y_pickT rfl rfl rfl ⟨rfl, rfl⟩) ?_
  refine wl_v (.bool true) rfl rfl (y_mov rfl rfl ⟨rfl, rfl⟩) ?_
  refine wl_vw (.int .i64 (predE (FD.mk (0) (0) ([]) ([]) ([])) (0) (0) (0) (0))) 21 true 71 rfl rfl rfl rfl rfl (y_mov rfl s304 ⟨rfl, rfl⟩) ?_
  refine wl_vw (.bool true) 21 true 71 rfl rfl rfl rfl rfl (y_eqlI rfl rfl rfl (decide_eq_true hf.out.2.2.2.2.2.1) ⟨rfl, rfl⟩) ?_
  refine wl_v (.bool true) rfl rfl (y_pickT rfl rfl rfl ⟨rfl, rfl⟩) ?_
  refine wl_v (.bool true) rfl rfl (y_mov rfl rfl ⟨rfl, rfl⟩) ?_
  refine wl_vw (.int .i64 ((bestF (newF (8) (8) (7)) (0) (4) (4) (predB (newF (8) (8) (7)) (0) (4) (4) (0))).1)) 25 true 75 rfl rfl rfl rfl rfl (y_mov rfl s305 ⟨rfl, rfl⟩) ?_
  refine wl_vw (.bool true) 25 true 75 rfl rfl rfl rfl rfl (y_eqlI rfl rfl rfl (decide_eq_true hf.out.2.2.2.2.2.2.1) ⟨rfl, rfl⟩) ?_
  refine wl_v (.bool true) rfl rfl (y_pickT rfl rfl rfl ⟨rfl, rfl⟩) ?_
  refine wl_v (.bool true) rfl rfl (y_mov rfl rfl ⟨rfl, rfl⟩) ?_
  refine wl_vw (.int .i64 ((bestF (newF (8) (8) (7)) (0) (4) (4) (predB (newF (8) (8) (7)) (0) (4) (4) (0))).2)) 29 true 79 rfl rfl rfl rfl rfl (y_mov rfl s306 ⟨rfl, rfl⟩) ?_
  refine wl_vw (.bool true) 29 true 79 rfl rfl rfl rfl rfl (y_eqlI rfl rfl rfl (decide_eq_true hf.out.2.2.2.2.2.2.2.1) ⟨rfl, rfl⟩) ?_
  refine wl_v (.bool true) rfl rfl (y_pickT rfl rfl rfl ⟨rfl, rfl⟩) ?_
  refine wl_v (.bool true) rfl rfl (y_mov rfl rfl ⟨rfl, rfl⟩) ?_
  refine wl_vw (blkV (predB (newF (8) (8) (7)) (0) (4) (4) (0))) 33 true 83 rfl rfl rfl rfl rfl (y_load_blk blkT_block rfl s299 B290 ⟨rfl, rfl⟩) ?_
  refine wl_vw (blkV (predB (newF (8) (8) (7)) (0) (0) (0) (0))) 33 true 83 rfl rfl rfl rfl rfl (y_load_blk blkT_block rfl s301 B291 ⟨rfl, rfl⟩) ?_
  refine wl_callw (R := fun v_ w_ => v_ = .int .i64 (costF (predB (newF (8) (8) (7)) (0) (4) (4) (0)) (predB (newF (8) (8) (7)) (0) (0) (0) (0))) ∧ Kept (fun _ => False) w284 w_) 33 true 83 rfl rfl rfl rfl rfl (y_cs rfl rfl rfl (fun _ _ => by kernel_rfl) (ev_func _) (vsC rfl (vsC rfl vsN)) (il_cost (predB (newF (8) (8) (7)) (0) (4) (4) (0)) (predB (newF (8) (8) (7)) (0) (0) (0) (0))  _   ) (fun e_ w_ h_ => ⟨_, h_.1, rfl, h_.2⟩)) ?_
  rintro _ w307 ⟨rfl, k308⟩
  have B309 := B286.all k308 Apart.none
  have B310 := B287.all k308 Apart.none
  have B311 := B288.all k308 Apart.none
  have B312 := B289.all k308 id
  have B313 := B290.all k308 id
  have B314 := B291.all k308 id
  have B315 := B292.all k308 id
  have B316 := B293.all k308 id
  have B317 := B294.all k308 id
  have K318 := K295.trans k308 (fun _ _ x => x.elim)
  refine wl_vw (.bool true) 33 true 83 rfl rfl rfl rfl rfl (y_eqlI rfl rfl rfl (decide_eq_true hf.out.2.2.2.2.2.2.2.2) ⟨rfl, rfl⟩) ?_
  refine wl_v (.bool true) rfl rfl (y_pickT rfl rfl rfl ⟨rfl, rfl⟩) ?_
  refine wl_v (.bool true) rfl rfl (y_mov rfl rfl ⟨rfl, rfl⟩) ?_
  refine wl_v (.bool true) rfl rfl (y_pickT rfl rfl rfl ⟨rfl, rfl⟩) ?_
  refine wl_v (.bool true) rfl rfl (y_mov rfl rfl ⟨rfl, rfl⟩) ?_
  refine wl_v (.bool true) rfl rfl (y_pickT rfl rfl rfl ⟨rfl, rfl⟩) ?_
  refine wl_v (.bool true) rfl rfl (y_mov rfl rfl ⟨rfl, rfl⟩) ?_
  refine wl_v (.bool true) rfl rfl (y_pickT rfl rfl rfl ⟨rfl, rfl⟩) ?_
  refine wl_v (.bool true) rfl rfl (y_mov rfl rfl ⟨rfl, rfl⟩) ?_
  refine wl_v (.bool true) rfl rfl (y_pickT rfl rfl rfl ⟨rfl, rfl⟩) ?_
  refine wl_v (.bool true) rfl rfl (y_mov rfl rfl ⟨rfl, rfl⟩) ?_
  refine wl_v (.bool true) rfl rfl (y_pickT rfl rfl rfl ⟨rfl, rfl⟩) ?_
  refine wl_v (.bool true) rfl rfl (y_asg rfl rfl ⟨rfl, rfl⟩) ?_
  refine wl_nil fun F319 hF320 => ?_
  have s321 : F319 99 = undef := (hF320 99).trans s298
  have s322 : F319 0 = .bool true := (hF320 0).trans rfl
  clear hF320
  refine then_normal ?_
  refine wq_ret ?_
  exact end_tmp (v := .bool true) s321 rfl rfl s322 ⟨rfl, K318⟩

set_option maxHeartbeats 4000000 in
set_option maxRecDepth 100000 in
theorem itells_walk (f : FD) (f0 f1 f2 : Value) (p x y mode : Int) (b : Nat → Int) (T_f0 : Nat → Prop) (T_f1 : Nat → Prop) (T_f2 : Nat → Prop) (w0 : World) (h_f0 : Byt w0 T_f0 f0 ((f).p0)) (h_f1 : Byt w0 T_f1 f1 ((f).p1)) (h_f2 : Byt w0 T_f2 f2 ((f).p2)) :
    Calls Try.prog 3 #[.agg #[.int .i64 ((f).W), .int .i64 ((f).H), f0, f1, f2], .int .i64 (p), .int .i64 (x), .int .i64 (y), .int .i64 (mode), blkV (b)] w0 fun e w' => e = .returned (.bool true) ∧ Kept (fun _ => False) w0 w' := by
  refine calls_wq (args := [.agg #[.int .i64 ((f).W), .int .i64 ((f).H), f0, f1, f2], .int .i64 (p), .int .i64 (x), .int .i64 (y), .int .i64 (mode), blkV (b)]) 93 Try.func3 rfl rfl (Nat.le_of_ble_eq_true rfl) ?_
  have K0 := Kept.refl (fun _ => False) w0
  have g_f0 := Grew.refl w0 T_f0
  have g_f1 := Grew.refl w0 T_f1
  have g_f2 := Grew.refl w0 T_f2
  refine wq_seq ?_
  refine wq_region ?_
  refine wl_box_stc (vs := [.int .i64 ((f).W), .int .i64 ((f).H), f0, f1, f2]) rfl rfl rfl rfl fun p1 w2 B4 g5 k3 => ?_
  have gr6 : Grew w0 noB (onB p1) := Grew.new K0 g5
  have ap7 : Apart (onB p1) (T_f0) := Apart.new g5 (h_f0).live
  have ap8 : Apart (onB p1) (T_f1) := Apart.new g5 (h_f1).live
  have ap9 : Apart (onB p1) (T_f2) := Apart.new g5 (h_f2).live
  have B10 := h_f0.all k3 Apart.none
  have B11 := h_f1.all k3 Apart.none
  have B12 := h_f2.all k3 Apart.none
  have K13 := K0.trans k3 (fun _ _ x => x.elim)
  refine wl_box_blk rfl rfl rfl rfl fun p14 w15 e18 B16 k17 => ?_
  have g19 := onB_new (Nat.le_of_eq e18.symm)
  have gr20 : Grew w0 noB (onB p14) := Grew.new K13 g19
  have ap21 : Apart (onB p14) (T_f0) := Apart.new g19 (B10).live
  have ap22 : Apart (onB p14) (T_f1) := Apart.new g19 (B11).live
  have ap23 : Apart (onB p14) (T_f2) := Apart.new g19 (B12).live
  have ap24 : Apart (onB p14) (onB p1) := Apart.new g19 (onB_live (B4).lt)
  clear e18 g19
  have B25 := B10.all k17 Apart.none
  have B26 := B11.all k17 Apart.none
  have B27 := B12.all k17 Apart.none
  have B28 := B4.all k17 id
  have K29 := K13.trans k17 (fun _ _ x => x.elim)
  refine wl_v (.bool false) rfl rfl (y_asg rfl rfl ⟨rfl, rfl⟩) ?_
  refine wl_nil fun F30 hF31 => ?_
  have s32 : F30 1 = .int .i64 (p) := (hF31 1).trans rfl
  have s33 : F30 2 = .int .i64 (x) := (hF31 2).trans rfl
  have s34 : F30 3 = .int .i64 (y) := (hF31 3).trans rfl
  have s35 : F30 4 = .int .i64 (mode) := (hF31 4).trans rfl
  have s36 : F30 93 = undef := (hF31 93).trans rfl
  have s37 : F30 6 = .pointer (some ⟨p1, 0, none⟩) := (hF31 6).trans rfl
  have s38 : F30 11 = .pointer (some ⟨p14, 0, none⟩) := (hF31 11).trans rfl
  clear hF31
  refine then_normal ?_
  refine wq_seq ?_
  refine wq_region ?_
  refine wl_call (R := fun v_ w_ => v_ = .bool true ∧ Kept (fun _ => False) w15 w_) rfl rfl (y_cs rfl rfl rfl (fun _ _ => by kernel_rfl) (ev_func _) vsN (iawake   _   ) (fun e_ w_ h_ => ⟨_, h_.1, rfl, h_.2⟩)) ?_
  rintro _ w39 ⟨rfl, k40⟩
  have B41 := B25.all k40 Apart.none
  have B42 := B26.all k40 Apart.none
  have B43 := B27.all k40 Apart.none
  have B44 := B28.all k40 id
  have B45 := B16.all k40 id
  have K46 := K29.trans k40 (fun _ _ x => x.elim)
  refine wl_v (.bool true) rfl rfl (y_asg rfl rfl ⟨rfl, rfl⟩) ?_
  refine wl_nil fun F47 hF48 => ?_
  have s49 : F47 1 = .int .i64 (p) := (hF48 1).trans s32
  have s50 : F47 2 = .int .i64 (x) := (hF48 2).trans s33
  have s51 : F47 3 = .int .i64 (y) := (hF48 3).trans s34
  have s52 : F47 4 = .int .i64 (mode) := (hF48 4).trans s35
  have s53 : F47 93 = undef := (hF48 93).trans s36
  have s54 : F47 6 = .pointer (some ⟨p1, 0, none⟩) := (hF48 6).trans s37
  have s55 : F47 11 = .pointer (some ⟨p14, 0, none⟩) := (hF48 11).trans s38
  have s56 : F47 13 = .bool true := (hF48 13).trans rfl
  clear hF48
  refine then_normal ?_
  refine wq_seq ?_
  refine wq_seq ?_
  rcases Bool.eq_false_or_eq_true (fewF (f)) with d57 | d57
  · skip
    refine wq_region ?_
    refine wl_v (.agg #[.int .i64 ((f).W), .int .i64 ((f).H), f0, f1, f2]) rfl rfl (y_load_stc stcT_frame rfl s54 B44 ⟨rfl, rfl⟩) ?_
    refine wl_call (R := fun v_ w_ => v_ = .bool true ∧ Kept (fun _ => False) w39 w_) rfl rfl (y_cs rfl rfl rfl (fun _ _ => by kernel_rfl) (ev_func _) (vsC rfl vsN) (flaw_few (f) (f0) (f1) (f2) (T_f0) (T_f1) (T_f2) _  B41 B42 B43 ) (fun e_ w_ h_ => ⟨_, h_.1, (congrArg Value.bool d57), h_.2⟩)) ?_
    rintro _ w58 ⟨rfl, k59⟩
    have B60 := B41.all k59 Apart.none
    have B61 := B42.all k59 Apart.none
    have B62 := B43.all k59 Apart.none
    have B63 := B44.all k59 id
    have B64 := B45.all k59 id
    have K65 := K46.trans k59 (fun _ _ x => x.elim)
    refine wl_v (.bool false) rfl rfl (y_not rfl rfl rfl ⟨rfl, rfl⟩) ?_
    refine wl_nil fun F66 hF67 => ?_
    have s68 : F66 1 = .int .i64 (p) := (hF67 1).trans s49
    have s69 : F66 2 = .int .i64 (x) := (hF67 2).trans s50
    have s70 : F66 3 = .int .i64 (y) := (hF67 3).trans s51
    have s71 : F66 4 = .int .i64 (mode) := (hF67 4).trans s52
    have s72 : F66 93 = undef := (hF67 93).trans s53
    have s73 : F66 6 = .pointer (some ⟨p1, 0, none⟩) := (hF67 6).trans s54
    have s74 : F66 11 = .pointer (some ⟨p14, 0, none⟩) := (hF67 11).trans s55
    have s75 : F66 13 = .bool true := (hF67 13).trans s56
    have s76 : F66 25 = .bool false := (hF67 25).trans rfl
    clear hF67
    refine then_normal ?_
    refine wq_cond (t := false) s76 (fun e => by cases e) (fun _ => ?_)
    refine wq_skip ?_
    refine then_normal ?_
    refine wq_seq ?_
    refine wq_region ?_
    refine wl_v (.agg #[.int .i64 ((f).W), .int .i64 ((f).H), f0, f1, f2]) rfl rfl (y_load_stc stcT_frame rfl s73 B63 ⟨rfl, rfl⟩) ?_
    refine wl_v (.int .i64 (p)) rfl rfl (y_mov rfl s68 ⟨rfl, rfl⟩) ?_
    refine wl_v (.int .i64 (x)) rfl rfl (y_mov rfl s69 ⟨rfl, rfl⟩) ?_
    refine wl_v (.int .i64 (y)) rfl rfl (y_mov rfl s70 ⟨rfl, rfl⟩) ?_
    refine wl_v (.int .i64 (mode)) rfl rfl (y_mov rfl s71 ⟨rfl, rfl⟩) ?_
    refine wl_call (R := fun v_ w_ => v_ = .tuple #[blkV (predB (f) (p) (x) (y) (mode)), .int .i64 (predE (f) (p) (x) (y) (mode))] ∧ Kept (fun _ => False) w58 w_) rfl rfl (y_cs rfl rfl rfl (fun _ _ => by kernel_rfl) (ev_func _) (vsC rfl (vsC rfl (vsC rfl (vsC rfl (vsC rfl vsN))))) (il_predict (p) (x) (y) (mode) (f) (f0) (f1) (f2) (T_f0) (T_f1) (T_f2) _  B60 B61 B62 ) (fun e_ w_ h_ => ⟨_, h_.1, rfl, h_.2⟩)) ?_
    rintro _ w77 ⟨rfl, k78⟩
    have B79 := B60.all k78 Apart.none
    have B80 := B61.all k78 Apart.none
    have B81 := B62.all k78 Apart.none
    have B82 := B63.all k78 id
    have B83 := B64.all k78 id
    have K84 := K65.trans k78 (fun _ _ x => x.elim)
    refine wl_v (.tuple #[blkV (predB (f) (p) (x) (y) (mode)), .int .i64 (predE (f) (p) (x) (y) (mode))]) rfl rfl (y_mov rfl rfl ⟨rfl, rfl⟩) ?_
    refine wl_v (blkV (predB (f) (p) (x) (y) (mode))) rfl rfl (y_ext rfl rfl rfl ⟨rfl, rfl⟩) ?_
    refine wl_v (.int .i64 (predE (f) (p) (x) (y) (mode))) rfl rfl (y_ext rfl rfl rfl ⟨rfl, rfl⟩) ?_
    refine wl_alloc_blk rfl rfl rfl blkT_block.2.2 fun p85 w86 e89 B87 k88 => ?_
    have g90 := onB_new (Nat.le_of_eq e89.symm)
    have gr91 : Grew w0 noB (onB p85) := Grew.new K84 g90
    have ap92 : Apart (onB p85) (T_f0) := Apart.new g90 (B79).live
    have ap93 : Apart (onB p85) (T_f1) := Apart.new g90 (B80).live
    have ap94 : Apart (onB p85) (T_f2) := Apart.new g90 (B81).live
    have ap95 : Apart (onB p85) (onB p1) := Apart.new g90 (onB_live (B82).lt)
    have ap96 : Apart (onB p85) (onB p14) := Apart.new g90 (onB_live (B83).lt)
    clear e89 g90
    have B97 := B79.all k88 Apart.none
    have B98 := B80.all k88 Apart.none
    have B99 := B81.all k88 Apart.none
    have B100 := B82.all k88 id
    have B101 := B83.all k88 id
    have K102 := K84.trans k88 (fun _ _ x => x.elim)
    refine wl_store_blk blkT_block rfl rfl rfl rfl rfl B87 fun w103 B104 k105 => ?_
    have B106 := B97.all k105 (fun i h x => (((ap92).symm) i h x))
    have B107 := B98.all k105 (fun i h x => (((ap93).symm) i h x))
    have B108 := B99.all k105 (fun i h x => (((ap94).symm) i h x))
    have B109 := B100.all k105 (fun x => (((ap95).symm) p1 rfl x))
    have B110 := B101.all k105 (fun x => (((ap96).symm) p14 rfl x))
    have K111 := K102.trans k105 (Grew.ok (S := fun _ => False) gr91 noB_le)
    refine wl_v (.int .i64 (predE (f) (p) (x) (y) (mode))) rfl rfl (y_asg rfl rfl ⟨rfl, rfl⟩) ?_
    refine wl_nil fun F112 hF113 => ?_
    have s114 : F112 1 = .int .i64 (p) := (hF113 1).trans s68
    have s115 : F112 2 = .int .i64 (x) := (hF113 2).trans s69
    have s116 : F112 3 = .int .i64 (y) := (hF113 3).trans s70
    have s117 : F112 4 = .int .i64 (mode) := (hF113 4).trans s71
    have s118 : F112 93 = undef := (hF113 93).trans s72
    have s119 : F112 6 = .pointer (some ⟨p1, 0, none⟩) := (hF113 6).trans s73
    have s120 : F112 11 = .pointer (some ⟨p14, 0, none⟩) := (hF113 11).trans s74
    have s121 : F112 13 = .bool true := (hF113 13).trans s75
    have s122 : F112 14 = .pointer (some ⟨p85, 0, none⟩) := (hF113 14).trans rfl
    have s123 : F112 15 = .int .i64 (predE (f) (p) (x) (y) (mode)) := (hF113 15).trans rfl
    clear hF113
    refine then_normal ?_
    refine wq_seq ?_
    refine wq_region ?_
    refine wl_v (.agg #[.int .i64 ((f).W), .int .i64 ((f).H), f0, f1, f2]) rfl rfl (y_load_stc stcT_frame rfl s119 B109 ⟨rfl, rfl⟩) ?_
    refine wl_v (.int .i64 (p)) rfl rfl (y_mov rfl s114 ⟨rfl, rfl⟩) ?_
    refine wl_v (.int .i64 (x)) rfl rfl (y_mov rfl s115 ⟨rfl, rfl⟩) ?_
    refine wl_v (.int .i64 (y)) rfl rfl (y_mov rfl s116 ⟨rfl, rfl⟩) ?_
    refine wl_v (.int .i64 (mode)) rfl rfl (y_mov rfl s117 ⟨rfl, rfl⟩) ?_
    refine wl_call (R := fun v_ w_ => v_ = .tuple #[blkV (predB (f) (p) (x) (y) (mode)), .int .i64 (predE (f) (p) (x) (y) (mode))] ∧ Kept (fun _ => False) w103 w_) rfl rfl (y_cs rfl rfl rfl (fun _ _ => by kernel_rfl) (ev_func _) (vsC rfl (vsC rfl (vsC rfl (vsC rfl (vsC rfl vsN))))) (iref_predict (p) (x) (y) (mode) (f) (f0) (f1) (f2) (T_f0) (T_f1) (T_f2) _  B106 B107 B108 ) (fun e_ w_ h_ => ⟨_, h_.1, rfl, h_.2⟩)) ?_
    rintro _ w124 ⟨rfl, k125⟩
    have B126 := B106.all k125 Apart.none
    have B127 := B107.all k125 Apart.none
    have B128 := B108.all k125 Apart.none
    have B129 := B109.all k125 id
    have B130 := B110.all k125 id
    have B131 := B104.all k125 id
    have K132 := K111.trans k125 (fun _ _ x => x.elim)
    refine wl_v (.tuple #[blkV (predB (f) (p) (x) (y) (mode)), .int .i64 (predE (f) (p) (x) (y) (mode))]) rfl rfl (y_mov rfl rfl ⟨rfl, rfl⟩) ?_
    refine wl_v (blkV (predB (f) (p) (x) (y) (mode))) rfl rfl (y_ext rfl rfl rfl ⟨rfl, rfl⟩) ?_
    refine wl_v (.int .i64 (predE (f) (p) (x) (y) (mode))) rfl rfl (y_ext rfl rfl rfl ⟨rfl, rfl⟩) ?_
    refine wl_alloc_blk rfl rfl rfl blkT_arr.2.2 fun p133 w134 e137 B135 k136 => ?_
    have g138 := onB_new (Nat.le_of_eq e137.symm)
    have gr139 : Grew w0 noB (onB p133) := Grew.new K132 g138
    have ap140 : Apart (onB p133) (T_f0) := Apart.new g138 (B126).live
    have ap141 : Apart (onB p133) (T_f1) := Apart.new g138 (B127).live
    have ap142 : Apart (onB p133) (T_f2) := Apart.new g138 (B128).live
    have ap143 : Apart (onB p133) (onB p1) := Apart.new g138 (onB_live (B129).lt)
    have ap144 : Apart (onB p133) (onB p14) := Apart.new g138 (onB_live (B130).lt)
    have ap145 : Apart (onB p133) (onB p85) := Apart.new g138 (onB_live (B131).lt)
    clear e137 g138
    have B146 := B126.all k136 Apart.none
    have B147 := B127.all k136 Apart.none
    have B148 := B128.all k136 Apart.none
    have B149 := B129.all k136 id
    have B150 := B130.all k136 id
    have B151 := B131.all k136 id
    have K152 := K132.trans k136 (fun _ _ x => x.elim)
    refine wl_store_blk blkT_arr rfl rfl rfl rfl rfl B135 fun w153 B154 k155 => ?_
    have B156 := B146.all k155 (fun i h x => (((ap140).symm) i h x))
    have B157 := B147.all k155 (fun i h x => (((ap141).symm) i h x))
    have B158 := B148.all k155 (fun i h x => (((ap142).symm) i h x))
    have B159 := B149.all k155 (fun x => (((ap143).symm) p1 rfl x))
    have B160 := B150.all k155 (fun x => (((ap144).symm) p14 rfl x))
    have B161 := B151.all k155 (fun x => (((ap145).symm) p85 rfl x))
    have K162 := K152.trans k155 (Grew.ok (S := fun _ => False) gr139 noB_le)
    refine wl_v (.int .i64 (predE (f) (p) (x) (y) (mode))) rfl rfl (y_asg rfl rfl ⟨rfl, rfl⟩) ?_
    refine wl_nil fun F163 hF164 => ?_
    have s165 : F163 1 = .int .i64 (p) := (hF164 1).trans s114
    have s166 : F163 2 = .int .i64 (x) := (hF164 2).trans s115
    have s167 : F163 3 = .int .i64 (y) := (hF164 3).trans s116
    have s168 : F163 93 = undef := (hF164 93).trans s118
    have s169 : F163 6 = .pointer (some ⟨p1, 0, none⟩) := (hF164 6).trans s119
    have s170 : F163 11 = .pointer (some ⟨p14, 0, none⟩) := (hF164 11).trans s120
    have s171 : F163 13 = .bool true := (hF164 13).trans s121
    have s172 : F163 14 = .pointer (some ⟨p85, 0, none⟩) := (hF164 14).trans s122
    have s173 : F163 15 = .int .i64 (predE (f) (p) (x) (y) (mode)) := (hF164 15).trans s123
    have s174 : F163 16 = .pointer (some ⟨p133, 0, none⟩) := (hF164 16).trans rfl
    have s175 : F163 17 = .int .i64 (predE (f) (p) (x) (y) (mode)) := (hF164 17).trans rfl
    clear hF164
    refine then_normal ?_
    refine wq_seq ?_
    refine wq_region ?_
    refine wl_v (.agg #[.int .i64 ((f).W), .int .i64 ((f).H), f0, f1, f2]) rfl rfl (y_load_stc stcT_frame rfl s169 B159 ⟨rfl, rfl⟩) ?_
    refine wl_v (.int .i64 (p)) rfl rfl (y_mov rfl s165 ⟨rfl, rfl⟩) ?_
    refine wl_v (.int .i64 (x)) rfl rfl (y_mov rfl s166 ⟨rfl, rfl⟩) ?_
    refine wl_v (.int .i64 (y)) rfl rfl (y_mov rfl s167 ⟨rfl, rfl⟩) ?_
    refine wl_v (blkV (b)) rfl rfl (y_load_blk blkT_arr rfl s170 B160 ⟨rfl, rfl⟩) ?_
    refine wl_call (R := fun v_ w_ => v_ = .tuple #[.int .i64 ((bestF (f) (p) (x) (y) (b)).1), .int .i64 ((bestF (f) (p) (x) (y) (b)).2)] ∧ Kept (fun _ => False) w153 w_) rfl rfl (y_cs rfl rfl rfl (fun _ _ => by kernel_rfl) (ev_func _) (vsC rfl (vsC rfl (vsC rfl (vsC rfl (vsC rfl vsN))))) (il_best (p) (x) (y) (b) (f) (f0) (f1) (f2) (T_f0) (T_f1) (T_f2) _  B156 B157 B158 ) (fun e_ w_ h_ => ⟨_, h_.1, rfl, h_.2⟩)) ?_
    rintro _ w176 ⟨rfl, k177⟩
    have B178 := B156.all k177 Apart.none
    have B179 := B157.all k177 Apart.none
    have B180 := B158.all k177 Apart.none
    have B181 := B159.all k177 id
    have B182 := B160.all k177 id
    have B183 := B161.all k177 id
    have B184 := B154.all k177 id
    have K185 := K162.trans k177 (fun _ _ x => x.elim)
    refine wl_v (.tuple #[.int .i64 ((bestF (f) (p) (x) (y) (b)).1), .int .i64 ((bestF (f) (p) (x) (y) (b)).2)]) rfl rfl (y_mov rfl rfl ⟨rfl, rfl⟩) ?_
    refine wl_v (.int .i64 ((bestF (f) (p) (x) (y) (b)).1)) rfl rfl (y_ext rfl rfl rfl ⟨rfl, rfl⟩) ?_
    refine wl_v (.int .i64 ((bestF (f) (p) (x) (y) (b)).2)) rfl rfl (y_ext rfl rfl rfl ⟨rfl, rfl⟩) ?_
    refine wl_v (.int .i64 ((bestF (f) (p) (x) (y) (b)).1)) rfl rfl (y_asg rfl rfl ⟨rfl, rfl⟩) ?_
    refine wl_v (.int .i64 ((bestF (f) (p) (x) (y) (b)).2)) rfl rfl (y_asg rfl rfl ⟨rfl, rfl⟩) ?_
    refine wl_nil fun F186 hF187 => ?_
    have s188 : F186 1 = .int .i64 (p) := (hF187 1).trans s165
    have s189 : F186 2 = .int .i64 (x) := (hF187 2).trans s166
    have s190 : F186 3 = .int .i64 (y) := (hF187 3).trans s167
    have s191 : F186 93 = undef := (hF187 93).trans s168
    have s192 : F186 6 = .pointer (some ⟨p1, 0, none⟩) := (hF187 6).trans s169
    have s193 : F186 11 = .pointer (some ⟨p14, 0, none⟩) := (hF187 11).trans s170
    have s194 : F186 13 = .bool true := (hF187 13).trans s171
    have s195 : F186 14 = .pointer (some ⟨p85, 0, none⟩) := (hF187 14).trans s172
    have s196 : F186 15 = .int .i64 (predE (f) (p) (x) (y) (mode)) := (hF187 15).trans s173
    have s197 : F186 16 = .pointer (some ⟨p133, 0, none⟩) := (hF187 16).trans s174
    have s198 : F186 17 = .int .i64 (predE (f) (p) (x) (y) (mode)) := (hF187 17).trans s175
    have s199 : F186 18 = .int .i64 ((bestF (f) (p) (x) (y) (b)).1) := (hF187 18).trans rfl
    have s200 : F186 19 = .int .i64 ((bestF (f) (p) (x) (y) (b)).2) := (hF187 19).trans rfl
    clear hF187
    refine then_normal ?_
    refine wq_seq ?_
    refine wq_region ?_
    refine wl_v (.agg #[.int .i64 ((f).W), .int .i64 ((f).H), f0, f1, f2]) rfl rfl (y_load_stc stcT_frame rfl s192 B181 ⟨rfl, rfl⟩) ?_
    refine wl_v (.int .i64 (p)) rfl rfl (y_mov rfl s188 ⟨rfl, rfl⟩) ?_
    refine wl_v (.int .i64 (x)) rfl rfl (y_mov rfl s189 ⟨rfl, rfl⟩) ?_
    refine wl_v (.int .i64 (y)) rfl rfl (y_mov rfl s190 ⟨rfl, rfl⟩) ?_
    refine wl_v (blkV (b)) rfl rfl (y_load_blk blkT_arr rfl s193 B182 ⟨rfl, rfl⟩) ?_
    refine wl_call (R := fun v_ w_ => v_ = .tuple #[.int .i64 ((bestF (f) (p) (x) (y) (b)).1), .int .i64 ((bestF (f) (p) (x) (y) (b)).2)] ∧ Kept (fun _ => False) w176 w_) rfl rfl (y_cs rfl rfl rfl (fun _ _ => by kernel_rfl) (ev_func _) (vsC rfl (vsC rfl (vsC rfl (vsC rfl (vsC rfl vsN))))) (iref_best (p) (x) (y) (b) (f) (f0) (f1) (f2) (T_f0) (T_f1) (T_f2) _  B178 B179 B180 ) (fun e_ w_ h_ => ⟨_, h_.1, rfl, h_.2⟩)) ?_
    rintro _ w201 ⟨rfl, k202⟩
    have B203 := B178.all k202 Apart.none
    have B204 := B179.all k202 Apart.none
    have B205 := B180.all k202 Apart.none
    have B206 := B181.all k202 id
    have B207 := B182.all k202 id
    have B208 := B183.all k202 id
    have B209 := B184.all k202 id
    have K210 := K185.trans k202 (fun _ _ x => x.elim)
    refine wl_v (.tuple #[.int .i64 ((bestF (f) (p) (x) (y) (b)).1), .int .i64 ((bestF (f) (p) (x) (y) (b)).2)]) rfl rfl (y_mov rfl rfl ⟨rfl, rfl⟩) ?_
    refine wl_v (.int .i64 ((bestF (f) (p) (x) (y) (b)).1)) rfl rfl (y_ext rfl rfl rfl ⟨rfl, rfl⟩) ?_
    refine wl_v (.int .i64 ((bestF (f) (p) (x) (y) (b)).2)) rfl rfl (y_ext rfl rfl rfl ⟨rfl, rfl⟩) ?_
    refine wl_v (.int .i64 ((bestF (f) (p) (x) (y) (b)).1)) rfl rfl (y_asg rfl rfl ⟨rfl, rfl⟩) ?_
    refine wl_v (.int .i64 ((bestF (f) (p) (x) (y) (b)).2)) rfl rfl (y_asg rfl rfl ⟨rfl, rfl⟩) ?_
    refine wl_nil fun F211 hF212 => ?_
    have s213 : F211 93 = undef := (hF212 93).trans s191
    have s214 : F211 11 = .pointer (some ⟨p14, 0, none⟩) := (hF212 11).trans s193
    have s215 : F211 13 = .bool true := (hF212 13).trans s194
    have s216 : F211 14 = .pointer (some ⟨p85, 0, none⟩) := (hF212 14).trans s195
    have s217 : F211 15 = .int .i64 (predE (f) (p) (x) (y) (mode)) := (hF212 15).trans s196
    have s218 : F211 16 = .pointer (some ⟨p133, 0, none⟩) := (hF212 16).trans s197
    have s219 : F211 17 = .int .i64 (predE (f) (p) (x) (y) (mode)) := (hF212 17).trans s198
    have s220 : F211 18 = .int .i64 ((bestF (f) (p) (x) (y) (b)).1) := (hF212 18).trans s199
    have s221 : F211 19 = .int .i64 ((bestF (f) (p) (x) (y) (b)).2) := (hF212 19).trans s200
    have s222 : F211 20 = .int .i64 ((bestF (f) (p) (x) (y) (b)).1) := (hF212 20).trans rfl
    have s223 : F211 21 = .int .i64 ((bestF (f) (p) (x) (y) (b)).2) := (hF212 21).trans rfl
    clear hF212
    refine then_normal ?_
    refine wq_seq ?_
    refine wq_said [some 63, some 64, some 65, some 66, some 67, some 68, some 69, some 70, some 71, some 72, some 73, some 74, some 75, some 76, some 77, some 78, some 79, some 80, some 81, some 82, some 83, some 84, some 85, some 86, some 87, some 88, some 89, some 90, some 91, some 92, some 12] [Pd.eq (.bool true), Pd.eq (.bool true), Pd.eq (blkV (predB (f) (p) (x) (y) (mode))), Pd.eq (blkV (predB (f) (p) (x) (y) (mode))), Pd.eq (.bool true), Pd.eq (.bool true), Pd.eq (.bool true), Pd.eq (.int .i64 (predE (f) (p) (x) (y) (mode))), Pd.eq (.int .i64 (predE (f) (p) (x) (y) (mode))), Pd.eq (.bool true), Pd.eq (.bool true), Pd.eq (.bool true), Pd.eq (blkV (b)), Pd.eq (blkV (predB (f) (p) (x) (y) (mode))), Pd.eq (.int .i64 (costF (b) (predB (f) (p) (x) (y) (mode)))), Pd.eq (blkV (b)), Pd.eq (blkV (predB (f) (p) (x) (y) (mode))), Pd.eq (.int .i64 (costF (b) (predB (f) (p) (x) (y) (mode)))), Pd.eq (.bool true), Pd.eq (.bool true), Pd.eq (.bool true), Pd.eq (.int .i64 ((bestF (f) (p) (x) (y) (b)).1)), Pd.eq (.int .i64 ((bestF (f) (p) (x) (y) (b)).1)), Pd.eq (.bool true), Pd.eq (.bool true), Pd.eq (.bool true), Pd.eq (.int .i64 ((bestF (f) (p) (x) (y) (b)).2)), Pd.eq (.int .i64 ((bestF (f) (p) (x) (y) (b)).2)), Pd.eq (.bool true), Pd.eq (.bool true), Pd.eq (.bool true)] (by kernel_rfl) (by kernel_rfl) ?_ ?_
    · refine stepsF_cons ?_ ?_
      · refine StepF.one rfl fun F_ w_ hR hout hD => ?_
        exact (y_mov rfl ((hout 13 rfl (by decide)).trans s215) ⟨rfl, Kept.refl _ _⟩)
      refine stepsF_cons ?_ ?_
      · refine StepF.one rfl fun F_ w_ hR hout hD => ?_
        have g63 : F_ 63 = .bool true := hD.get 0 rfl rfl rfl
        exact (y_mov rfl g63 ⟨rfl, Kept.refl _ _⟩)
      refine stepsF_cons ?_ ?_
      · refine StepF.when 1 true 64 rfl rfl fun F_ w_ hR hout hD => ?_
        have g64 : F_ 64 = .bool true := hD.get 0 rfl rfl rfl
        exact ⟨g64, (y_load_blk blkT_block rfl ((hout 14 rfl (by decide)).trans s216) (B208.all hR id) ⟨rfl, Kept.refl _ _⟩)⟩
      refine stepsF_cons ?_ ?_
      · refine StepF.when 1 true 64 rfl rfl fun F_ w_ hR hout hD => ?_
        have g64 : F_ 64 = .bool true := hD.get 0 rfl rfl rfl
        exact ⟨g64, (y_load_blk blkT_arr rfl ((hout 16 rfl (by decide)).trans s218) (B209.all hR id) ⟨rfl, Kept.refl _ _⟩)⟩
      refine stepsF_cons ?_ ?_
      · refine StepF.when 1 true 64 rfl rfl fun F_ w_ hR hout hD => ?_
        have g64 : F_ 64 = .bool true := hD.get 2 rfl rfl rfl
        have g65 : F_ 65 = blkV (predB (f) (p) (x) (y) (mode)) := hD.get 0 rfl rfl rfl
        have g66 : F_ 66 = blkV (predB (f) (p) (x) (y) (mode)) := hD.get 1 rfl rfl rfl
        exact ⟨g64, (y_sameR rfl g65 g66 (sameB_self _) ⟨rfl, Kept.refl _ _⟩)⟩
      refine stepsF_cons ?_ ?_
      · refine StepF.one rfl fun F_ w_ hR hout hD => ?_
        have g64 : F_ 64 = .bool true := hD.get 0 rfl rfl rfl
        have g67 : F_ 67 = .bool true := hD.get 1 rfl rfl rfl
        exact (y_pickT rfl g64 g67 ⟨rfl, Kept.refl _ _⟩)
      refine stepsF_cons ?_ ?_
      · refine StepF.one rfl fun F_ w_ hR hout hD => ?_
        have g68 : F_ 68 = .bool true := hD.get 0 rfl rfl rfl
        exact (y_mov rfl g68 ⟨rfl, Kept.refl _ _⟩)
      refine stepsF_cons ?_ ?_
      · refine StepF.when 6 true 69 rfl rfl fun F_ w_ hR hout hD => ?_
        have g69 : F_ 69 = .bool true := hD.get 0 rfl rfl rfl
        exact ⟨g69, (y_mov rfl ((hout 15 rfl (by decide)).trans s217) ⟨rfl, Kept.refl _ _⟩)⟩
      refine stepsF_cons ?_ ?_
      · refine StepF.when 6 true 69 rfl rfl fun F_ w_ hR hout hD => ?_
        have g69 : F_ 69 = .bool true := hD.get 0 rfl rfl rfl
        exact ⟨g69, (y_mov rfl ((hout 17 rfl (by decide)).trans s219) ⟨rfl, Kept.refl _ _⟩)⟩
      refine stepsF_cons ?_ ?_
      · refine StepF.when 6 true 69 rfl rfl fun F_ w_ hR hout hD => ?_
        have g69 : F_ 69 = .bool true := hD.get 2 rfl rfl rfl
        have g70 : F_ 70 = .int .i64 (predE (f) (p) (x) (y) (mode)) := hD.get 0 rfl rfl rfl
        have g71 : F_ 71 = .int .i64 (predE (f) (p) (x) (y) (mode)) := hD.get 1 rfl rfl rfl
        exact ⟨g69, (y_eqlI rfl g70 g71 (decide_eq_true rfl) ⟨rfl, Kept.refl _ _⟩)⟩
      refine stepsF_cons ?_ ?_
      · refine StepF.one rfl fun F_ w_ hR hout hD => ?_
        have g69 : F_ 69 = .bool true := hD.get 0 rfl rfl rfl
        have g72 : F_ 72 = .bool true := hD.get 1 rfl rfl rfl
        exact (y_pickT rfl g69 g72 ⟨rfl, Kept.refl _ _⟩)
      refine stepsF_cons ?_ ?_
      · refine StepF.one rfl fun F_ w_ hR hout hD => ?_
        have g73 : F_ 73 = .bool true := hD.get 0 rfl rfl rfl
        exact (y_mov rfl g73 ⟨rfl, Kept.refl _ _⟩)
      refine stepsF_cons ?_ ?_
      · refine StepF.when 11 true 74 rfl rfl fun F_ w_ hR hout hD => ?_
        have g74 : F_ 74 = .bool true := hD.get 0 rfl rfl rfl
        exact ⟨g74, (y_load_blk blkT_arr rfl ((hout 11 rfl (by decide)).trans s214) (B207.all hR id) ⟨rfl, Kept.refl _ _⟩)⟩
      refine stepsF_cons ?_ ?_
      · refine StepF.when 11 true 74 rfl rfl fun F_ w_ hR hout hD => ?_
        have g74 : F_ 74 = .bool true := hD.get 0 rfl rfl rfl
        exact ⟨g74, (y_load_blk blkT_block rfl ((hout 14 rfl (by decide)).trans s216) (B208.all hR id) ⟨rfl, Kept.refl _ _⟩)⟩
      refine stepsF_cons ?_ ?_
      · refine StepF.when 11 true 74 rfl rfl fun F_ w_ hR hout hD => ?_
        have g74 : F_ 74 = .bool true := hD.get 2 rfl rfl rfl
        have g75 : F_ 75 = blkV (b) := hD.get 0 rfl rfl rfl
        have g76 : F_ 76 = blkV (predB (f) (p) (x) (y) (mode)) := hD.get 1 rfl rfl rfl
        exact ⟨g74, (y_cs rfl rfl rfl (fun _ _ => by kernel_rfl) (ev_func _) (vsC g75 (vsC g76 vsN)) (il_cost (b) (predB (f) (p) (x) (y) (mode))  _   ) (fun e_ w_ h_ => ⟨_, h_.1, rfl, h_.2⟩))⟩
      refine stepsF_cons ?_ ?_
      · refine StepF.when 11 true 74 rfl rfl fun F_ w_ hR hout hD => ?_
        have g74 : F_ 74 = .bool true := hD.get 0 rfl rfl rfl
        exact ⟨g74, (y_load_blk blkT_arr rfl ((hout 11 rfl (by decide)).trans s214) (B207.all hR id) ⟨rfl, Kept.refl _ _⟩)⟩
      refine stepsF_cons ?_ ?_
      · refine StepF.when 11 true 74 rfl rfl fun F_ w_ hR hout hD => ?_
        have g74 : F_ 74 = .bool true := hD.get 0 rfl rfl rfl
        exact ⟨g74, (y_load_blk blkT_arr rfl ((hout 16 rfl (by decide)).trans s218) (B209.all hR id) ⟨rfl, Kept.refl _ _⟩)⟩
      refine stepsF_cons ?_ ?_
      · refine StepF.when 11 true 74 rfl rfl fun F_ w_ hR hout hD => ?_
        have g74 : F_ 74 = .bool true := hD.get 3 rfl rfl rfl
        have g78 : F_ 78 = blkV (b) := hD.get 0 rfl rfl rfl
        have g79 : F_ 79 = blkV (predB (f) (p) (x) (y) (mode)) := hD.get 1 rfl rfl rfl
        exact ⟨g74, (y_cs rfl rfl rfl (fun _ _ => by kernel_rfl) (ev_func _) (vsC g78 (vsC g79 vsN)) (iref_cost (b) (predB (f) (p) (x) (y) (mode))  _   ) (fun e_ w_ h_ => ⟨_, h_.1, rfl, h_.2⟩))⟩
      refine stepsF_cons ?_ ?_
      · refine StepF.when 11 true 74 rfl rfl fun F_ w_ hR hout hD => ?_
        have g74 : F_ 74 = .bool true := hD.get 2 rfl rfl rfl
        have g77 : F_ 77 = .int .i64 (costF (b) (predB (f) (p) (x) (y) (mode))) := hD.get 0 rfl rfl rfl
        have g80 : F_ 80 = .int .i64 (costF (b) (predB (f) (p) (x) (y) (mode))) := hD.get 1 rfl rfl rfl
        exact ⟨g74, (y_eqlI rfl g77 g80 (decide_eq_true rfl) ⟨rfl, Kept.refl _ _⟩)⟩
      refine stepsF_cons ?_ ?_
      · refine StepF.one rfl fun F_ w_ hR hout hD => ?_
        have g74 : F_ 74 = .bool true := hD.get 0 rfl rfl rfl
        have g81 : F_ 81 = .bool true := hD.get 1 rfl rfl rfl
        exact (y_pickT rfl g74 g81 ⟨rfl, Kept.refl _ _⟩)
      refine stepsF_cons ?_ ?_
      · refine StepF.one rfl fun F_ w_ hR hout hD => ?_
        have g82 : F_ 82 = .bool true := hD.get 0 rfl rfl rfl
        exact (y_mov rfl g82 ⟨rfl, Kept.refl _ _⟩)
      refine stepsF_cons ?_ ?_
      · refine StepF.when 20 true 83 rfl rfl fun F_ w_ hR hout hD => ?_
        have g83 : F_ 83 = .bool true := hD.get 0 rfl rfl rfl
        exact ⟨g83, (y_mov rfl ((hout 18 rfl (by decide)).trans s220) ⟨rfl, Kept.refl _ _⟩)⟩
      refine stepsF_cons ?_ ?_
      · refine StepF.when 20 true 83 rfl rfl fun F_ w_ hR hout hD => ?_
        have g83 : F_ 83 = .bool true := hD.get 0 rfl rfl rfl
        exact ⟨g83, (y_mov rfl ((hout 20 rfl (by decide)).trans s222) ⟨rfl, Kept.refl _ _⟩)⟩
      refine stepsF_cons ?_ ?_
      · refine StepF.when 20 true 83 rfl rfl fun F_ w_ hR hout hD => ?_
        have g83 : F_ 83 = .bool true := hD.get 2 rfl rfl rfl
        have g84 : F_ 84 = .int .i64 ((bestF (f) (p) (x) (y) (b)).1) := hD.get 0 rfl rfl rfl
        have g85 : F_ 85 = .int .i64 ((bestF (f) (p) (x) (y) (b)).1) := hD.get 1 rfl rfl rfl
        exact ⟨g83, (y_eqlI rfl g84 g85 (decide_eq_true rfl) ⟨rfl, Kept.refl _ _⟩)⟩
      refine stepsF_cons ?_ ?_
      · refine StepF.one rfl fun F_ w_ hR hout hD => ?_
        have g83 : F_ 83 = .bool true := hD.get 0 rfl rfl rfl
        have g86 : F_ 86 = .bool true := hD.get 1 rfl rfl rfl
        exact (y_pickT rfl g83 g86 ⟨rfl, Kept.refl _ _⟩)
      refine stepsF_cons ?_ ?_
      · refine StepF.one rfl fun F_ w_ hR hout hD => ?_
        have g87 : F_ 87 = .bool true := hD.get 0 rfl rfl rfl
        exact (y_mov rfl g87 ⟨rfl, Kept.refl _ _⟩)
      refine stepsF_cons ?_ ?_
      · refine StepF.when 25 true 88 rfl rfl fun F_ w_ hR hout hD => ?_
        have g88 : F_ 88 = .bool true := hD.get 0 rfl rfl rfl
        exact ⟨g88, (y_mov rfl ((hout 19 rfl (by decide)).trans s221) ⟨rfl, Kept.refl _ _⟩)⟩
      refine stepsF_cons ?_ ?_
      · refine StepF.when 25 true 88 rfl rfl fun F_ w_ hR hout hD => ?_
        have g88 : F_ 88 = .bool true := hD.get 0 rfl rfl rfl
        exact ⟨g88, (y_mov rfl ((hout 21 rfl (by decide)).trans s223) ⟨rfl, Kept.refl _ _⟩)⟩
      refine stepsF_cons ?_ ?_
      · refine StepF.when 25 true 88 rfl rfl fun F_ w_ hR hout hD => ?_
        have g88 : F_ 88 = .bool true := hD.get 2 rfl rfl rfl
        have g89 : F_ 89 = .int .i64 ((bestF (f) (p) (x) (y) (b)).2) := hD.get 0 rfl rfl rfl
        have g90 : F_ 90 = .int .i64 ((bestF (f) (p) (x) (y) (b)).2) := hD.get 1 rfl rfl rfl
        exact ⟨g88, (y_eqlI rfl g89 g90 (decide_eq_true rfl) ⟨rfl, Kept.refl _ _⟩)⟩
      refine stepsF_cons ?_ ?_
      · refine StepF.one rfl fun F_ w_ hR hout hD => ?_
        have g88 : F_ 88 = .bool true := hD.get 0 rfl rfl rfl
        have g91 : F_ 91 = .bool true := hD.get 1 rfl rfl rfl
        exact (y_pickT rfl g88 g91 ⟨rfl, Kept.refl _ _⟩)
      refine stepsF_cons ?_ ?_
      · refine StepF.one rfl fun F_ w_ hR hout hD => ?_
        have g92 : F_ 92 = .bool true := hD.get 0 rfl rfl rfl
        exact (y_asg rfl g92 ⟨rfl, Kept.refl _ _⟩)
      exact stepsF_nil
    intro v224 F225 w226 k227 G228 hF229
    have B231 := B203.all k227 Apart.none
    have B232 := B204.all k227 Apart.none
    have B233 := B205.all k227 Apart.none
    have B234 := B206.all k227 id
    have B235 := B207.all k227 id
    have B236 := B208.all k227 id
    have B237 := B209.all k227 id
    have K238 := K210.trans k227 (fun _ _ x => x.elim)
    have s239 : F225 93 = undef := (hF229 93).trans s213
    have s240 : F225 12 = .bool true := (hF229 12).trans (G228 30 (by decide))
    clear G228 hF229
    refine then_normal ?_
    refine wq_ret ?_
    exact end_tmp (v := .bool true) s239 rfl rfl s240 ⟨rfl, K238⟩
  · skip
    refine wq_region ?_
    refine wl_v (.agg #[.int .i64 ((f).W), .int .i64 ((f).H), f0, f1, f2]) rfl rfl (y_load_stc stcT_frame rfl s54 B44 ⟨rfl, rfl⟩) ?_
    refine wl_call (R := fun v_ w_ => v_ = .bool false ∧ Kept (fun _ => False) w39 w_) rfl rfl (y_cs rfl rfl rfl (fun _ _ => by kernel_rfl) (ev_func _) (vsC rfl vsN) (flaw_few (f) (f0) (f1) (f2) (T_f0) (T_f1) (T_f2) _  B41 B42 B43 ) (fun e_ w_ h_ => ⟨_, h_.1, (congrArg Value.bool d57), h_.2⟩)) ?_
    rintro _ w241 ⟨rfl, k242⟩
    have B243 := B41.all k242 Apart.none
    have B244 := B42.all k242 Apart.none
    have B245 := B43.all k242 Apart.none
    have B246 := B44.all k242 id
    have B247 := B45.all k242 id
    have K248 := K46.trans k242 (fun _ _ x => x.elim)
    refine wl_v (.bool true) rfl rfl (y_not rfl rfl rfl ⟨rfl, rfl⟩) ?_
    refine wl_nil fun F249 hF250 => ?_
    have s251 : F249 1 = .int .i64 (p) := (hF250 1).trans s49
    have s252 : F249 2 = .int .i64 (x) := (hF250 2).trans s50
    have s253 : F249 3 = .int .i64 (y) := (hF250 3).trans s51
    have s254 : F249 4 = .int .i64 (mode) := (hF250 4).trans s52
    have s255 : F249 93 = undef := (hF250 93).trans s53
    have s256 : F249 6 = .pointer (some ⟨p1, 0, none⟩) := (hF250 6).trans s54
    have s257 : F249 11 = .pointer (some ⟨p14, 0, none⟩) := (hF250 11).trans s55
    have s258 : F249 13 = .bool true := (hF250 13).trans s56
    have s259 : F249 25 = .bool true := (hF250 25).trans rfl
    clear hF250
    refine then_normal ?_
    refine wq_cond (t := true) s259 (fun _ => ?_) (fun e => by cases e)
    refine wq_seq ?_
    refine wq_region ?_
    refine wl_v (.bool true) rfl rfl (y_mov rfl s258 ⟨rfl, rfl⟩) ?_
    refine wl_v (.bool true) rfl rfl (y_asg rfl rfl ⟨rfl, rfl⟩) ?_
    refine wl_nil fun F260 hF261 => ?_
    have s262 : F260 93 = undef := (hF261 93).trans s255
    have s263 : F260 12 = .bool true := (hF261 12).trans rfl
    clear hF261
    refine then_normal ?_
    refine wq_ret ?_
    refine then_ret ?_
    exact end_tmp (v := .bool true) s262 rfl rfl s263 ⟨rfl, K248⟩

end Go.Proofs.Ytdggilbgjijfmaa
namespace Go.Proofs.Ytdggilbgjijfmaa
open Go.ChangeShapes Go.WideShapes Go.ChangeAt Go.RowKit

section
variable {H : Type} {enc : TypeId × Value → H} {P : Program} {w : World} {base : Nat} {spare : Nat → Bool} {held : Bool}

/-- The number at a place. -/
def intAt (cs : List Value) (i : Nat) : Int := match cs[i]? with
  | some (.int _ z) => z
  | _ => 0

theorem cells_ints {t e : TypeId} {n fuel : Nat} {k : IntKind} {cs : List Value} {x : DataW H × List MemPlace} (ht : P.underlying t = some (.array n e)) (he : P.underlying e = some (.int k)) (hce : P.cellsOf e = 1) (hct : P.cellsOf t = n)
    (h : DataW.trod enc P w base spare held fuel t cs = some x) : cs.length = n ∧ ∀ i, i < n → cs[i]? = some (.int k (intAt cs i)) ∧ (Lit.int k (intAt cs i)).wf = true := by
  obtain ⟨xs, m, _, _, hl, hn, hel⟩ := DataW.trod_array ht h
  refine ⟨by rw [hl, hct], fun i hi => ?_⟩
  have h1 := hel i hi
  rw [hce, Nat.mul_one, List.getElem?_eq_getElem (by omega)] at h1
  obtain ⟨z, hz, _, hw⟩ := DataW.trod_int he h1
  have h2 : cs[i]? = some (.int k z) := by
    have := congrArg (·[0]?) hz
    simpa [List.getElem?_take, List.getElem?_drop] using this
  have h3 : intAt cs i = z := by unfold intAt; rw [h2]
  rw [h3]; exact ⟨h2, hw⟩

theorem arr_open {r : Reach} {b0 : Nat} {t e : TypeId} {n : Nat} {v : Value} {d : DataW H} {ps : List MemPlace} (ht : P.underlying t = some (.array n e)) (he : P.underlying e = some (.int .i64)) (hce : P.cellsOf e = 1) (hct : P.cellsOf t = n)
    (hval : Value.okWide P w r b0 t v) (h : DataW.Trod enc P w base spare held t v d ps) : ∃ b : Nat → Int, v = .agg (arrL n b).toArray ∧ ∀ i, i < n → -9223372036854775808 ≤ b i ∧ b i ≤ 9223372036854775807 := by
  obtain ⟨cs, rfl, _, _⟩ : ∃ cs, v = .agg cs ∧ cs.size = P.cellsOf t ∧ Row.okWide P w r b0 t cs := by simpa [Value.okWide, ht] using hval
  obtain ⟨fuel, hf⟩ := h
  obtain ⟨hl, hc⟩ := cells_ints ht he hce hct (cs := cs.toList) hf
  refine ⟨intAt cs.toList, ?_, fun i hi => ?_⟩
  · congr 1
    apply Array.ext'
    apply List.ext_getElem?
    intro i
    by_cases hi : i < n
    · rw [(hc i hi).1]; exact (arrL_at hi).symm
    · rw [List.getElem?_eq_none (by omega), List.getElem?_eq_none (by simp [arrL_length]; omega)]
  · have := bounds_i64 (hc i hi).2
    omega
end
end Go.Proofs.Ytdggilbgjijfmaa
namespace Go.Proofs.Ytdggilbgjijfmaa
open Go.ChangeShapes Go.WideShapes Go.ChangeAt Go.RowKit

section
variable {H : Type} {enc : TypeId × Value → H} {w : World} {base : Nat} {spare : Nat → Bool} {held : Bool}

theorem BytesArg.of_row {a : Option Addr} {len cap : Nat} {zs : List Int}
    (h : (a = none ∧ len = 0 ∧ cap = 0 ∧ zs = []) ∨ ∃ x, a = some x ∧ len ≤ cap ∧ cap ≤ maxLen ∧ len ≤ zs.length ∧ (∀ i, i < zs.length → w.cell? (x.add i) = some (.int .u8 (zs.getD i 0))) ∧ ∀ n ∈ zs, (Lit.int .u8 n).wf = true) :
    ∃ l : List Nat, BytesArg w (.slice a len cap) l := by
  rcases h with ⟨rfl, rfl, rfl, rfl⟩ | ⟨x, rfl, hlc, hcm, hz, hcell, hwf⟩
  · exact ⟨[], BytesArg.nil w⟩
  · have hlen : ((zs.take len).map Int.toNat).length = len := by simp; omega
    refine ⟨(zs.take len).map Int.toNat, some x, cap, by rw [hlen], by rw [hlen]; exact hlc, hcm, by simp, ?_, ?_⟩
    · intro y hy
      obtain ⟨z, hz1, rfl⟩ := List.mem_map.1 hy
      have := bounds_u8 (hwf z (List.mem_of_mem_take hz1))
      omega
    · intro hpos
      rw [hlen] at hpos
      have hpos' : 0 < zs.length := by omega
      obtain ⟨b, off, rfl, hc⟩ := ints_at hcell hpos'
      refine ⟨b, off, rfl, World.block_lt_of_cell? w _ (hc 0 hpos'), fun i hi => ?_⟩
      rw [hlen] at hi
      have hi' : i < zs.length := by omega
      rw [hc i hi']
      have hwi := bounds_u8 (hwf zs[i] (List.getElem_mem hi'))
      simp [List.getD, hi', hi]
      omega

theorem bytes_open {fuel : Nat} {v : Value} {x : DataW H × List MemPlace}
    (h : DataW.trod enc Try.prog w base spare held fuel 22 [v] = some x) : ∃ l : List Nat, BytesArg w v l := by
  rcases open_ints Try.underlying22 Try.underlying5 (by kernel_rfl) h with ⟨hcs, _⟩ | ⟨a, len, cap, zs, hcs, _, hl, hm, hz, _, hcell, hwz⟩
  · simp at hcs
    subst hcs
    exact ⟨[], BytesArg.nil w⟩
  · simp at hcs
    subst hcs
    exact BytesArg.of_row (.inr ⟨a, rfl, hl, hm, by have := hz; split at this <;> omega, hcell, hwz⟩)

end
end Go.Proofs.Ytdggilbgjijfmaa
namespace Go.Proofs.Ytdggilbgjijfmaa
open Go.ChangeShapes Go.WideShapes Go.ChangeAt Go.RowKit Go.Deep

section
variable {H : Type} {enc : TypeId × Value → H} {w : World} {base : Nat} {spare : Nat → Bool} {held : Bool}
theorem Try.cellsF : Try.prog.cellsOf 25 = 5 := by kernel_rfl
theorem Try.cellsI : Try.prog.cellsOf 3 = 1 := by kernel_rfl
theorem Try.cellsP : Try.prog.cellsOf 23 = 3 := by kernel_rfl
theorem Try.cellsS : Try.prog.cellsOf 22 = 1 := by kernel_rfl
theorem frame_open {r : Reach} {b0 : Nat} {v : Value} {d : DataW H} {ps : List MemPlace} (hval : Value.okWide Try.prog w r b0 25 v) (h : DataW.Trod enc Try.prog w base spare held 25 v d ps) :
    ∃ (f : FD) (a b c : Value), v = .agg #[.int .i64 f.W, .int .i64 f.H, a, b, c] ∧ BytesArg w a f.p0 ∧ BytesArg w b f.p1 ∧ BytesArg w c f.p2 := by
  obtain ⟨cs, rfl, hsz⟩ := okWide_struct Try.underlying25 hval
  rw [Try.cellsF] at hsz
  obtain ⟨cs⟩ := cs
  obtain ⟨fuel, hf⟩ := h
  match cs, hsz with
  | [c0, c1, c2, c3, c4], _ =>
    obtain ⟨y0, y1, y2, n, _, _, h0, h1, h2⟩ := trod_struct3 (cs := [c0, c1, c2, c3, c4]) Try.underlying25 hf
    simp only [Try.cellsI, Try.cellsP, List.drop_zero, List.drop_succ_cons, List.take_succ_cons, List.take_zero] at h0 h1 h2
    obtain ⟨W, hW, _, _⟩ := DataW.trod_int Try.underlying3 h0
    obtain ⟨Hh, hH, _, _⟩ := DataW.trod_int Try.underlying3 h1
    obtain ⟨xs, m, _, _, _, hn, hel⟩ := DataW.trod_array Try.underlying23 h2
    have e0 := hel 0 (by omega)
    have e1 := hel 1 (by omega)
    have e2 := hel 2 (by omega)
    simp only [Try.cellsS, Nat.mul_one, List.drop_zero, List.drop_succ_cons, List.take_succ_cons, List.take_zero] at e0 e1 e2
    rw [List.getElem?_eq_getElem (by omega)] at e0 e1 e2
    obtain ⟨l0, b0⟩ := bytes_open e0
    obtain ⟨l1, b1⟩ := bytes_open e1
    obtain ⟨l2, b2⟩ := bytes_open e2
    simp only [List.cons.injEq, and_true] at hW hH
    subst hW; subst hH
    exact ⟨⟨W, Hh, l0, l1, l2⟩, c2, c3, c4, rfl, b0, b1, b2⟩
end
end Go.Proofs.Ytdggilbgjijfmaa
