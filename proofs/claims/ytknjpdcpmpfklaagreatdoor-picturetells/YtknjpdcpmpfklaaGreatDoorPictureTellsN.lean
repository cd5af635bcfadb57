/- What PictureTells reaches of my texts, part 14. -/
import Derived.Test.YtknjpdcpmpfklaaGreatDoorPictureTellsM
set_option maxRecDepth 100000
set_option maxHeartbeats 4000000
set_option maxRecDepth 100000
namespace Go.Proofs.YtknjpdcpmpfklaaGreatDoor
open Go.RowKit
theorem run_next {l : List Nat} {k : Int} {w M i : Nat} {t : PSt} {o : List Ch} {X : List Ch × Int × Option Nat} (h : runP l k w (M - i) i t o = X) (hi : i < M) (hc : (chAt l k w i t).2.1 = 0) :
    runP l k w (M - (i + 1)) (i + 1) (stAt l k w i t) (o ++ [(chAt l k w i t).1]) = X := by
  rw [show M - i = (M - (i + 1)) + 1 by omega, runP_yes hc] at h; exact h
theorem run_bad {l : List Nat} {k : Int} {w M i : Nat} {t : PSt} {o : List Ch} {X : List Ch × Int × Option Nat} (h : runP l k w (M - i) i t o = X) (hi : i < M) (hc : (chAt l k w i t).2.1 ≠ 0) : X = ([], (chAt l k w i t).2.1, t.s) := by
  rw [show M - i = (M - (i + 1)) + 1 by omega, runP_no hc] at h; exact h.symm
theorem run_done {l : List Nat} {k : Int} {w M i : Nat} {t : PSt} {o : List Ch} {X : List Ch × Int × Option Nat} (h : runP l k w (M - i) i t o = X) (hi : M ≤ i) : X = (o, 0, t.s) := by
  rw [show M - i = 0 by omega] at h; exact h.symm
theorem chs_bad {l : List Nat} {W H R B K Q D F e : Int} {s : Option Nat} {p : Nat} (hm : mayP W H R B K Q D F) (hp : p ≤ 3) (h : plTo l K W H p = ([], e, s)) (he : e ≠ 0) : chsE l W H R B K Q D F = ([], e) := by
  rw [chsE_yes hm, chsP_bad hp (by rw [h]; exact he), h]
theorem plN_pos {W : Int} {p : Nat} (h : 8 ≤ W) : 0 < plN W p := by unfold plN; split <;> omega
theorem plN_sides {W H : Int} {p : Nat} (hW : 8 ≤ W ∧ W ≤ 64) (hH : 8 ≤ H ∧ H ≤ 64) : sidesOk ((plN W p : Nat) : Int) ((plN H p : Nat) : Int) := by
  have h1 := plN_pos (p := p) hW.1; have h2 := plN_pos (p := p) hH.1
  have h3 := plN_le (p := p) hW.2; have h4 := plN_le (p := p) hH.2
  unfold sidesOk; omega
theorem plOff_le {W H : Int} (hW : W ≤ 64) (hH : H ≤ 64) : ∀ p, p < 4 → plOff W H p ≤ 256 * p := by
  intro p
  induction p with
  | zero => intro _; exact Nat.le_refl 0
  | succ p ih =>
    intro hp
    have h1 := ih (by omega)
    have h2 : plN W p * plN H p ≤ 16 * 16 := Nat.mul_le_mul (plN_le hW) (plN_le hH)
    show plOff W H p + plN W p * plN H p ≤ _
    omega
theorem pcref_choices (W H R B K Q D F : Int) (v : Value) (l : List Nat) (T_b : Nat → Prop) (w0 : World) (hl : l.length ≤ 1000) (h_b : Byt w0 T_b v (l)) :
  Calls Tryz.prog 11 #[.agg #[.int .i64 (W), .int .i64 (H), .int .i64 (R), .int .i64 (B)], .agg #[.int .i64 (K), .int .i64 (Q), .int .i64 (D), .int .i64 (F)], v] w0 fun e w' => ∃ (v1 : Value) (T1 : Nat → Prop), e = .returned (.tuple #[v1, .int .i64 ((chsE l W H R B K Q D F).2)]) ∧ Kept (fun _ => False) w0 w' ∧ (RoO rCh w' T1 v1 ((chsE l W H R B K Q D F).1) ∧ Grew w0 noB T1) := by
 refine calls_wq (args := [.agg #[iv W, iv H, iv R, iv B], .agg #[iv K, iv Q, iv D, iv F], v]) 115 Tryz.func11 rfl rfl (Nat.le_of_ble_eq_true rfl) ?_
 have K0 := Kept.refl (fun _ => False) w0
 have hfr : Fair l := h_b.1.fair (by omega)
 have g_b := Grew.refl w0 T_b
 refine wq_seq (wq_region (wl_box_stc (vs := [iv W, iv H, iv R, iv B]) rfl rfl rfl rfl fun p1 w2 B4 g5 k3 => ?_))
 have B8 := h_b.all k3 Apart.none
 have K9 := K0.tr k3
 refine wl_box_stc (vs := [iv K, iv Q, iv D, iv F]) rfl rfl rfl rfl fun p10 w11 B13 g14 k12 => ?_
 have B18 := B8.all k12 Apart.none
 have B19 := B4.all k12 id
 have K20 := K9.tr k12
 refine wl_v (.slice none 0 0) rfl rfl (y_asg rfl rfl rr) (wl_v (iv 0) rfl rfl (y_asg rfl rfl rr) (wl_nil fun F21 hF22 => ?_))
 have s23 : F21 2 = v := (hF22 2).trans rfl
 have s24 : F21 115 = undef := (hF22 115).trans rfl
 have s25 : F21 3 = pt p1 0 := (hF22 3).trans rfl
 have s26 : F21 4 = pt p10 0 := (hF22 4).trans rfl
 clear hF22
 refine then_normal (wq_seq (wq_seq ?_))
 by_cases d27 : (seqE W H R B) ≠ 0
 ·skip
  refine wq_region (wl_v (.agg #[iv W, iv H, iv R, iv B]) rfl rfl (y_load_stc stcT_seq rfl s25 B19 rr) (wl_cs rfl rfl rfl rfl rfl (fun _ _ => by kernel_rfl) (vsC rfl vsN) (href_seq W H R B  _   ) fun w28 k29 => ?_))
  have K33 := K20.tr k29
  refine wl_v (.bool true) rfl rfl (y_neqI rfl rfl rfl (decide_eq_true d27) rr) (wl_v (.bool true) rfl rfl (y_mov rfl rfl rr) (wl_unless 3 false 23 rfl rfl rfl (Or.inl rfl) rfl (wl_unless 3 false 23 rfl rfl rfl (Or.inl rfl) rfl (wl_unless 3 false 23 rfl rfl rfl (Or.inl rfl) rfl (wl_v (.bool true) rfl rfl (y_pickT rfl rfl rfl rr) (wl_nil fun F34 hF35 => ?_))))))
  have s37 := (hF35 115).trans s24
  have s40 : F34 27 = .bool true := (hF35 27).trans rfl
  clear hF35
  refine then_normal ?_
  refine wq_cond (t := true) s40 (fun _ => ?_) (fun e => by cases e)
  refine wq_seq ?_
  have hR := chsE_no (l := l) (W := W) (H := H) (R := R) (B := B) (K := K) (Q := Q) (D := D) (F := F) (by rintro ⟨z1, z2⟩; first | exact absurd (show seqE W H R B = 0 from if_pos z1) (by assumption) | exact absurd (show headE K Q D F = 0 from if_pos z2) (by assumption))
  refine wq_region (wl_v (.slice none 0 0) rfl rfl (y_asg rfl rfl rr) (wl_v (iv 110) rfl rfl (y_asg rfl rfl rr) (wl_nil fun F41 hF42 => ?_)))
  have s43 := (hF42 115).trans s37
  have s44 : F41 6 = .slice none 0 0 := (hF42 6).trans rfl
  have s45 : F41 7 = iv 110 := (hF42 7).trans rfl
  clear hF42
  refine then_normal (wq_ret (then_ret ?_))
  exact end_2 s43 rfl (res_tmp (v := .slice none 0 0) rfl s44) (res_tmp (v := iv 110) rfl s45) ⟨(.slice none 0 0), noB, (by rw [hR] <;> rfl), K33, ⟨(by rw [hR]; exact (RoO.nil rCh _)), (Grew.refl _ _)⟩⟩
 ·skip
  refine wq_region (wl_v (.agg #[iv W, iv H, iv R, iv B]) rfl rfl (y_load_stc stcT_seq rfl s25 B19 rr) (wl_cs rfl rfl rfl rfl rfl (fun _ _ => by kernel_rfl) (vsC rfl vsN) (href_seq W H R B  _   ) fun w46 k47 => ?_))
  have B48 := B18.all k47 Apart.none
  have B49 := B19.all k47 id
  have B50 := B13.all k47 id
  have K51 := K20.tr k47
  refine wl_v (.bool false) rfl rfl (y_neqI rfl rfl rfl (decide_eq_false d27) rr) (wl_v (.bool false) rfl rfl (y_mov rfl rfl rr) (wl_vw (.agg #[iv K, iv Q, iv D, iv F]) 3 false 23 rfl rfl rfl rfl rfl (y_load_stc stcT_head rfl s26 B50 rr) (wl_callw (R := fun v_ w_ => v_ = iv (headE K Q D F) ∧ Kept (fun _ => False) w46 w_) 3 false 23 rfl rfl rfl rfl rfl (y_cs rfl rfl rfl (fun _ _ => by kernel_rfl) (ev_func _) (vsC rfl vsN) (href_head K Q D F  _   ) (fun e_ w_ h_ => ⟨_, h_.1, rfl, h_.2⟩)) ?_)))
  rintro _ w52 ⟨rfl, k53⟩
  have B54 := B48.all k53 Apart.none
  have B55 := B49.all k53 id
  have B56 := B50.all k53 id
  have K57 := K51.tr k53
  refine wl_vw (.bool (decide ((headE K Q D F) ≠ 0))) 3 false 23 rfl rfl rfl rfl rfl (y_neqI rfl rfl rfl rfl rr) (wl_v (.bool (decide ((headE K Q D F) ≠ 0))) rfl rfl (y_pickF rfl rfl rfl rr) (wl_nil fun F58 hF59 => ?_))
  obtain ⟨s60, s61, s62, s63⟩ := t4 hF59 2 s23 115 s24 3 s25 4 s26
  have s64 : F58 27 = .bool (decide ((headE K Q D F) ≠ 0)) := (hF59 27).trans rfl
  clear hF59
  refine then_normal ?_
  refine wq_cond s64 (fun c65 => ?_) (fun c65 => ?_)
  ·replace c65 := of_decide_eq_true c65
   refine wq_seq ?_
   have hR := chsE_no (l := l) (W := W) (H := H) (R := R) (B := B) (K := K) (Q := Q) (D := D) (F := F) (by rintro ⟨z1, z2⟩; first | exact absurd (show seqE W H R B = 0 from if_pos z1) (by assumption) | exact absurd (show headE K Q D F = 0 from if_pos z2) (by assumption))
   refine wq_region (wl_v (.slice none 0 0) rfl rfl (y_asg rfl rfl rr) (wl_v (iv 110) rfl rfl (y_asg rfl rfl rr) (wl_nil fun F66 hF67 => ?_)))
   have s68 := (hF67 115).trans s61
   have s69 : F66 6 = .slice none 0 0 := (hF67 6).trans rfl
   have s70 : F66 7 = iv 110 := (hF67 7).trans rfl
   clear hF67
   refine then_normal (wq_ret (then_ret ?_))
   exact end_2 s68 rfl (res_tmp (v := .slice none 0 0) rfl s69) (res_tmp (v := iv 110) rfl s70) ⟨(.slice none 0 0), noB, (by rw [hR] <;> rfl), K57, ⟨(by rw [hR]; exact (RoO.nil rCh _)), (Grew.refl _ _)⟩⟩
  ·replace c65 := of_decide_eq_false c65
   refine wq_skip (then_normal (wq_seq ?_))
   have hm : mayP W H R B K Q D F := ⟨seq_is (by first | assumption | (apply Decidable.byContradiction; assumption)), head_is (by first | assumption | (apply Decidable.byContradiction; assumption))⟩
   have hsq := hm.1
   have hsd := seq_side hm.1
   have hof := plOff_le (W := W) (H := H) hsd.2.1 hsd.2.2.2.2.1
   refine wq_region (wl_mv rfl rfl rfl s60 (wl_cs rfl rfl rfl rfl rfl (fun _ _ => by kernel_rfl) (vsC rfl vsN) (t_refbits v l T_b _ (by omega) B54 ) fun w71 k72 => ?_))
   have B73 := B54.all k72 Apart.none
   have B74 := B55.all k72 id
   have B75 := B56.all k72 id
   have K76 := K57.tr k72
   refine wl_v (.agg #[.string (strOf (bitsOf l)), iv 0, .bool false]) rfl rfl (y_buildL (l' := [(0, .string (strOf (bitsOf l)))]) (cells := #[.string (strOf (bitsOf l)), iv 0, .bool false]) rfl (bpC rfl bpN) (by kernel_rfl) rfl rr) (wl_box_rfi (l := l) rfl rfl rfl rfl hfr (by omega) fun p77 w78 T82 B81 g83 k79 => ?_)
   have gr84 : Grew w0 noB T82 := Grew.new K76 g83
   have ap85 : Apart T82 T_b := Apart.new g83 B73.live
   have ap86 : Apart T82 (onB p1) := Apart.new g83 (onB_live B74.lt)
   have ap87 : Apart T82 (onB p10) := Apart.new g83 (onB_live B75.lt)
   have B88 := B73.all k79 Apart.none
   have B89 := B74.all k79 id
   have B90 := B75.all k79 id
   have K91 := K76.tr k79
   refine wl_v (pt p77 0) rfl rfl (y_asg rfl rfl rr) (wl_nil fun F92 hF93 => ?_)
   obtain ⟨s94, s95, s96⟩ := t3 hF93 115 s61 3 s62 4 s63
   have s97 : F92 8 = pt p77 0 := (hF93 8).trans rfl
   clear hF93
   refine then_normal (wq_seq (wq_region (wl_v (.slice none 0 0) rfl rfl (y_asg rfl rfl rr) (wl_nil fun F98 hF99 => ?_))))
   obtain ⟨s100, s101, s102, s103⟩ := t4 hF99 115 s94 3 s95 4 s96 8 s97
   have s104 : F98 9 = .slice none 0 0 := (hF99 9).trans rfl
   clear hF99
   refine then_normal (wq_seq (wq_seq (wq_region (wl_v (iv 0) rfl rfl (y_asg rfl rfl rr) (wl_nil fun F105 hF106 => ?_)))))
   obtain ⟨s107, s108, s109, s110, s111⟩ := t5 hF106 115 s100 3 s101 4 s102 8 s103 9 s104
   have s112 : F105 10 = iv 0 := (hF106 10).trans rfl
   clear hF106
   refine then_normal (wq_block (wq_rounds 4 (wqr_step (wq_seq (wq_seq (wq_region (wl_mv rfl rfl rfl s112 (wl_v (.bool true) rfl rfl (y_lss rfl rfl rfl rfl rr) (wl_nil fun F113 hF114 => ?_)))))))))
   obtain ⟨s115, s116, s117, s118, s119, s120⟩ := t6 hF114 115 s107 3 s108 4 s109 8 s110 9 s111 10 s112
   have s121 : F113 33 = .bool true := (hF114 33).trans rfl
   clear hF114
   refine then_normal ?_
   refine wq_cond (t := true) s121 (fun _ => ?_) (fun e => by cases e)
   refine wq_skip (then_normal (wq_seq (wq_block (wq_seq (wq_region (wl_v (.agg #[iv W, iv H, iv R, iv B]) rfl rfl (y_load_stc stcT_seq rfl s116 B89 rr) (wl_mv rfl rfl rfl s120 (wl_cs rfl rfl rfl rfl rfl (fun _ _ => by kernel_rfl) (vsC rfl (vsC rfl vsN)) (pcref_blocks W H R B 0  _ (by assumption)  ) fun w122 k123 => ?_))))))))
   have B124 := B88.all k123 Apart.none
   have B125 := B89.all k123 id
   have B126 := B90.all k123 id
   have B127 := B81.all k123 Apart.none
   have K128 := K91.tr k123
   refine wl_v (.tuple #[iv ((plN W 0 : Nat) : Int), iv ((plN H 0 : Nat) : Int)]) rfl rfl (y_mov rfl rfl rr) (wl_v (iv ((plN W 0 : Nat) : Int)) rfl rfl (y_ext rfl rfl rfl rr) (wl_v (iv ((plN H 0 : Nat) : Int)) rfl rfl (y_ext rfl rfl rfl rr) (wl_v (iv ((plN W 0 : Nat) : Int)) rfl rfl (y_asg rfl rfl rr) (wl_v (iv ((plN H 0 : Nat) : Int)) rfl rfl (y_asg rfl rfl rr) (wl_nil fun F129 hF130 => ?_)))))
   obtain ⟨s131, s132, s133, s134, s135, s136⟩ := t6 hF130 115 s115 3 s116 4 s117 8 s118 9 s119 10 s120
   have s137 : F129 11 = iv ((plN W 0 : Nat) : Int) := (hF130 11).trans rfl
   have s138 : F129 12 = iv ((plN H 0 : Nat) : Int) := (hF130 12).trans rfl
   clear hF130
   refine then_normal (wq_seq ?_)
   have hw0 := plN_pos (W := W) (p := 0) hsd.1
   have hw1 := plN_le (W := W) (p := 0) hsd.2.1
   have hn1 := plN_le (W := H) (p := 0) hsd.2.2.2.2.1
   have hsk : sidesOk ((plN W 0 : Nat) : Int) ((plN H 0 : Nat) : Int) := plN_sides ⟨hsd.1, hsd.2.1⟩ ⟨hsd.2.2.2.1, hsd.2.2.2.2.1⟩
   have hwn : plN W 0 * plN H 0 ≤ 16 * 16 := Nat.mul_le_mul hw1 hn1
   refine wq_region (wl_mv rfl rfl rfl s137 (wl_mv rfl rfl rfl s138 (wl_call (R := fun v_ w_ => ∃ (v139 : Value) (T142 : Nat → Prop), .tuple #[v139, iv (newVE ((plN W 0 : Nat) : Int) ((plN H 0 : Nat) : Int))] = v_ ∧ Kept (fun _ => False) w122 w_ ∧ (Vfo w_ T142 v139 (optV ((plN W 0 : Nat) : Int) ((plN H 0 : Nat) : Int)) ∧ Grew w122 noB T142)) rfl rfl (y_cs rfl rfl rfl (fun _ _ => by kernel_rfl) (ev_func _) (vsC rfl (vsC rfl vsN)) (mref_vnew ((plN W 0 : Nat) : Int) ((plN H 0 : Nat) : Int)  _   ) (fun e_ w_ h_ => by obtain ⟨v139_, T142_, he_, hr_⟩ := h_; exact ⟨_, he_, v139_, T142_, rfl, hr_⟩)) ?_)))
   rintro _ w140 ⟨v139, T142, rfl, k141, ⟨B143, g144⟩⟩
   have B145 := B124.all k141 Apart.none
   have B146 := B125.all k141 id
   have B147 := B126.all k141 id
   have B148 := B127.all k141 Apart.none
   have K149 := K128.tr k141
   have gr150 : Grew w0 noB T142 := Grew.new K128 g144
   have ap151 : Apart T142 T_b := Apart.new g144 B124.live
   have ap152 : Apart T142 (onB p1) := Apart.new g144 (onB_live B125.lt)
   have ap153 : Apart T142 (onB p10) := Apart.new g144 (onB_live B126.lt)
   have ap154 : Apart T142 T82 := Apart.new g144 B127.live
   refine wl_v (.tuple #[v139, iv (newVE ((plN W 0 : Nat) : Int) ((plN H 0 : Nat) : Int))]) rfl rfl (y_mov rfl rfl rr) (wl_v v139 rfl rfl (y_ext rfl rfl rfl rr) (wl_v (iv (newVE ((plN W 0 : Nat) : Int) ((plN H 0 : Nat) : Int))) rfl rfl (y_ext rfl rfl rfl rr) (wl_v v139 rfl rfl (y_asg rfl rfl rr) (wl_v (iv (newVE ((plN W 0 : Nat) : Int) ((plN H 0 : Nat) : Int))) rfl rfl (y_asg rfl rfl rr) (wl_nil fun F155 hF156 => ?_)))))
   obtain ⟨s157, s158, s159, s160, s161, s162, s163, s164⟩ := t8 hF156 115 s131 3 s132 4 s133 8 s134 9 s135 10 s136 11 s137 12 s138
   have s165 : F155 13 = v139 := (hF156 13).trans rfl
   clear hF156
   refine then_normal (wq_seq (wq_region (wl_mv rfl rfl rfl s163 (wl_mv rfl rfl rfl s164 (wl_call (R := fun v_ w_ => ∃ (v166 : Value) (T169 : Nat → Prop), .tuple #[v166, iv (newVE ((plN W 0 : Nat) : Int) ((plN H 0 : Nat) : Int))] = v_ ∧ Kept (fun _ => False) w140 w_ ∧ (Vfo w_ T169 v166 (optV ((plN W 0 : Nat) : Int) ((plN H 0 : Nat) : Int)) ∧ Grew w140 noB T169)) rfl rfl (y_cs rfl rfl rfl (fun _ _ => by kernel_rfl) (ev_func _) (vsC rfl (vsC rfl vsN)) (mref_vnew ((plN W 0 : Nat) : Int) ((plN H 0 : Nat) : Int)  _   ) (fun e_ w_ h_ => by obtain ⟨v166_, T169_, he_, hr_⟩ := h_; exact ⟨_, he_, v166_, T169_, rfl, hr_⟩)) ?_)))))
   rintro _ w167 ⟨v166, T169, rfl, k168, ⟨B170, g171⟩⟩
   have B172 := B145.all k168 Apart.none
   have B173 := B146.all k168 id
   have B174 := B147.all k168 id
   have B175 := B148.all k168 Apart.none
   have B176 := B143.all k168 Apart.none
   have K177 := K149.tr k168
   have gr178 : Grew w0 noB T169 := Grew.new K149 g171
   have ap179 : Apart T169 T_b := Apart.new g171 B145.live
   have ap180 : Apart T169 (onB p1) := Apart.new g171 (onB_live B146.lt)
   have ap181 : Apart T169 (onB p10) := Apart.new g171 (onB_live B147.lt)
   have ap182 : Apart T169 T82 := Apart.new g171 B148.live
   have ap183 : Apart T169 T142 := Apart.new g171 B143.live
   refine wl_v (.tuple #[v166, iv (newVE ((plN W 0 : Nat) : Int) ((plN H 0 : Nat) : Int))]) rfl rfl (y_mov rfl rfl rr) (wl_v v166 rfl rfl (y_ext rfl rfl rfl rr) (wl_v (iv (newVE ((plN W 0 : Nat) : Int) ((plN H 0 : Nat) : Int))) rfl rfl (y_ext rfl rfl rfl rr) (wl_v v166 rfl rfl (y_asg rfl rfl rr) (wl_v (iv (newVE ((plN W 0 : Nat) : Int) ((plN H 0 : Nat) : Int))) rfl rfl (y_asg rfl rfl rr) (wl_nil fun F184 hF185 => ?_)))))
   obtain ⟨s186, s187, s188, s189, s190, s191, s192, s193, s194⟩ := t9 hF185 115 s157 3 s158 4 s159 8 s160 9 s161 10 s162 11 s163 12 s164 13 s165
   have s195 : F184 15 = v166 := (hF185 15).trans rfl
   clear hF185
   refine then_normal (wq_seq ?_)
   have hofn := hof 0 (by decide)
   have hpl : (plTo l K W H 0).2.1 = 0 := by first | exact hpz | rfl
   have B196 : Vfo w167 T142 v139 (some (newV ((plN W 0 : Nat) : Int) ((plN H 0 : Nat) : Int))) := (by rw [← optV_yes hsk]; exact B176)
   have B197 : Vfo w167 T169 v166 (some (newV ((plN W 0 : Nat) : Int) ((plN H 0 : Nat) : Int))) := (by rw [← optV_yes hsk]; exact B170)
   refine wq_region (wl_v (iv 0) rfl rfl (y_asg rfl rfl rr) (wl_nil fun F198 hF199 => ?_))
   obtain ⟨s200, s201, s202, s203, s204, s205, s206, s207, s208, s209⟩ := t10 hF199 115 s186 3 s187 4 s188 8 s189 9 s190 10 s191 11 s192 12 s193 13 s194 15 s195
   have s210 : F198 17 = iv 0 := (hF199 17).trans rfl
   clear hF199
   refine then_normal (wq_block (wq_loop (fun nn FF ww => ∃ (i0 : Nat), ∃ (ps0 : PSt), ∃ (o0 : List Ch), ∃ (V0 : Value), ∃ (T211 : Nat → Prop), ∃ (T212 : Nat → Prop), ∃ (T213 : Nat → Prop), ∃ (T214 : Nat → Prop), (i0 ≤ (plN W 0 * plN H 0)) ∧ (runP l K (plN W 0) (plN W 0 * plN H 0 - i0) i0 ps0 o0 = plTo l K W H (0 + 1)) ∧ (o0.length = plOff W H 0 + i0) ∧ nn = (plN W 0 * plN H 0) - i0 ∧ FF 3 = pt p1 0 ∧ FF 4 = pt p10 0 ∧ FF 8 = pt p77 0 ∧ FF 10 = iv 0 ∧ FF 11 = iv ((plN W 0 : Nat) : Int) ∧ FF 12 = iv ((plN H 0 : Nat) : Int) ∧ FF 13 = v139 ∧ FF 15 = v166 ∧ FF 115 = undef ∧ FF 9 = V0 ∧ FF 17 = iv ((i0 : Nat) : Int) ∧ Kept (fun _ => False) w0 ww ∧ Byt ww T_b v l ∧ Stc ww p1 23 [iv W, iv H, iv R, iv B] ∧ Stc ww p10 25 [iv K, iv Q, iv D, iv F] ∧ Rfi ww T211 p77 l (ps0.s) ∧ Vfo ww T212 v139 (some ps0.a) ∧ Vfo ww T213 v166 (some ps0.b) ∧ RoO rCh ww T214 V0 o0 ∧ Grew w0 noB T211 ∧ Grew w0 noB T212 ∧ Grew w0 noB T213 ∧ Grew w0 noB T214 ∧ Apart T211 T_b ∧ Apart T211 (onB p1) ∧ Apart T211 (onB p10) ∧ Apart T211 T212 ∧ Apart T211 T213 ∧ Apart T211 T214 ∧ Apart T212 T_b ∧ Apart T212 (onB p1) ∧ Apart T212 (onB p10) ∧ Apart T212 T213 ∧ Apart T212 T214 ∧ Apart T213 T_b ∧ Apart T213 (onB p1) ∧ Apart T213 (onB p10) ∧ Apart T213 T214 ∧ Apart T214 T_b ∧ Apart T214 (onB p1) ∧ Apart T214 (onB p10)) ((plN W 0 * plN H 0) - 0) ⟨0, PSt.mk (newV ((plN W 0 : Nat) : Int) ((plN H 0 : Nat) : Int)) (newV ((plN W 0 : Nat) : Int) ((plN H 0 : Nat) : Int)) (plTo l K W H 0).2.2, (plTo l K W H 0).1, (.slice none 0 0), T82, T142, T169, noB, by omega, ((plTo_yes hpl).symm), (plTo_len 0 hpl), rfl, s201, s202, s203, s205, s206, s207, s208, s209, s200, s204, s210, K177, B172, B173, B174, B175, B196, B197, (RoO.nil rCh _), gr84, gr150, gr178, (Grew.refl _ _), ap85, ap86, ap87, ap154.symm, ap182.symm, Apart.none, ap151, ap152, ap153, ap183.symm, Apart.none, ap179, ap180, ap181, Apart.none, Apart.none.symm, Apart.none.symm, Apart.none.symm⟩ ?_))
   rintro n218 F215 w216 ⟨i0, ps0, o0, V0, T211, T212, T213, T214, i219, hrun, hlo, hn218, s220, s221, s222, s223, s224, s225, s226, s227, s228, s229, s230, K217, B231, B232, B233, B234, B235, B236, B237, gr238, gr239, gr240, gr241, ap242, ap243, ap244, ap245, ap246, ap247, ap248, ap249, ap250, ap251, ap252, ap253, ap254, ap255, ap256, ap257, ap258, ap259⟩
   refine wq_seq (wq_seq (wq_region (wl_mv rfl rfl rfl s230 (wl_mv rfl rfl rfl s224 (wl_mv rfl rfl rfl s225 (wl_v (iv ((plN W 0 * plN H 0 : Nat) : Int)) rfl rfl (y_mul rfl rfl rfl (i64_n (by rw [Int.natCast_mul]) (by omega)) rr) (wl_v (.bool (decide (((i0 : Nat) : Int) < ((plN W 0 * plN H 0 : Nat) : Int)))) rfl rfl (y_lss rfl rfl rfl rfl rr) (wl_nil fun F260 hF261 => ?_))))))))
   obtain ⟨s262, s263, s264, s265, s266, s267, s268, s269, s270, s271, s272⟩ := t11 hF261 3 s220 4 s221 8 s222 10 s223 11 s224 12 s225 13 s226 15 s227 115 s228 9 s229 17 s230
   have s273 : F260 58 = .bool (decide (((i0 : Nat) : Int) < ((plN W 0 * plN H 0 : Nat) : Int))) := (hF261 58).trans rfl
   clear hF261
   refine then_normal ?_
   refine wq_cond s273 (fun c274 => ?_) (fun c274 => ?_)
   ·replace c274 := of_decide_eq_true c274
    refine wq_skip (then_normal (wq_seq (wq_block (wq_seq ?_))))
    have hdv := Nat.div_le_self i0 (plN W 0)
    refine wq_cas (γ := (Nat → Prop)) [(20, 19), (21, 19), (22, 19), (24, 19), (25, 19), (24, 23), (25, 23)] [some 62, some 63, some 64, some 65, some 66, some 67, some 68, some 69, some 70, some 71, some 72, some 73, some 74, some 75, some 76, some 77, some 78, some 79, some 80, some 81, some 61, some 82, some 83, some 18, none, some 19] ⟨fun w_ => Rfi w_ T211 p77 l (ps0.s), T211, fun g_ w_ => (Rfi w_ g_ p77 l ((rdCh l K (gX (ps0.a) (pX (plN W 0) i0) (pY (plN W 0) i0)) (gY (ps0.a) (pX (plN W 0) i0) (pY (plN W 0) i0)) (gX (ps0.b) (pX (plN W 0) i0) (pY (plN W 0) i0)) (gY (ps0.b) (pX (plN W 0) i0) (pY (plN W 0) i0)) (ps0.s)).2.2) ∧ Grew w216 T211 g_), fun g_ => g_, fun p_ w_ => Stc w_ p_ 71 (chL 0 0 0 0 0 (fun _ => (0 : Int))), fun g_ p_ w_ => Stc w_ p_ 71 (chW ((rdCh l K (gX (ps0.a) (pX (plN W 0) i0) (pY (plN W 0) i0)) (gY (ps0.a) (pX (plN W 0) i0) (pY (plN W 0) i0)) (gX (ps0.b) (pX (plN W 0) i0) (pY (plN W 0) i0)) (gY (ps0.b) (pX (plN W 0) i0) (pY (plN W 0) i0)) (ps0.s)).1))⟩ T211 (fun p_ => w216.heap.size ≤ p_) [fun g_ => pt p77 0, fun g_ => pt p10 0, fun g_ => iv K, fun g_ => v139, fun g_ => iv ((i0 : Nat) : Int), fun g_ => iv ((plN W 0 : Nat) : Int), fun g_ => iv (pX (plN W 0) i0), fun g_ => iv ((i0 : Nat) : Int), fun g_ => iv ((plN W 0 : Nat) : Int), fun g_ => iv (pY (plN W 0) i0), fun g_ => .agg #[iv (gX (ps0.a) (pX (plN W 0) i0) (pY (plN W 0) i0)), iv (gY (ps0.a) (pX (plN W 0) i0) (pY (plN W 0) i0))], fun g_ => v166, fun g_ => iv ((i0 : Nat) : Int), fun g_ => iv ((plN W 0 : Nat) : Int), fun g_ => iv (pX (plN W 0) i0), fun g_ => iv ((i0 : Nat) : Int), fun g_ => iv ((plN W 0 : Nat) : Int), fun g_ => iv (pY (plN W 0) i0), fun g_ => .agg #[iv (gX (ps0.b) (pX (plN W 0) i0) (pY (plN W 0) i0)), iv (gY (ps0.b) (pX (plN W 0) i0) (pY (plN W 0) i0))], fun g_ => .tuple #[.agg (chW ((rdCh l K (gX (ps0.a) (pX (plN W 0) i0) (pY (plN W 0) i0)) (gY (ps0.a) (pX (plN W 0) i0) (pY (plN W 0) i0)) (gX (ps0.b) (pX (plN W 0) i0) (pY (plN W 0) i0)) (gY (ps0.b) (pX (plN W 0) i0) (pY (plN W 0) i0)) (ps0.s)).1)).toArray, iv ((rdCh l K (gX (ps0.a) (pX (plN W 0) i0) (pY (plN W 0) i0)) (gY (ps0.a) (pX (plN W 0) i0) (pY (plN W 0) i0)) (gX (ps0.b) (pX (plN W 0) i0) (pY (plN W 0) i0)) (gY (ps0.b) (pX (plN W 0) i0) (pY (plN W 0) i0)) (ps0.s)).2.1)], fun g_ => .tuple #[.agg (chW ((rdCh l K (gX (ps0.a) (pX (plN W 0) i0) (pY (plN W 0) i0)) (gY (ps0.a) (pX (plN W 0) i0) (pY (plN W 0) i0)) (gX (ps0.b) (pX (plN W 0) i0) (pY (plN W 0) i0)) (gY (ps0.b) (pX (plN W 0) i0) (pY (plN W 0) i0)) (ps0.s)).1)).toArray, iv ((rdCh l K (gX (ps0.a) (pX (plN W 0) i0) (pY (plN W 0) i0)) (gY (ps0.a) (pX (plN W 0) i0) (pY (plN W 0) i0)) (gX (ps0.b) (pX (plN W 0) i0) (pY (plN W 0) i0)) (gY (ps0.b) (pX (plN W 0) i0) (pY (plN W 0) i0)) (ps0.s)).2.1)], fun g_ => .agg (chW ((rdCh l K (gX (ps0.a) (pX (plN W 0) i0) (pY (plN W 0) i0)) (gY (ps0.a) (pX (plN W 0) i0) (pY (plN W 0) i0)) (gX (ps0.b) (pX (plN W 0) i0) (pY (plN W 0) i0)) (gY (ps0.b) (pX (plN W 0) i0) (pY (plN W 0) i0)) (ps0.s)).1)).toArray, fun g_ => iv ((rdCh l K (gX (ps0.a) (pX (plN W 0) i0) (pY (plN W 0) i0)) (gY (ps0.a) (pX (plN W 0) i0) (pY (plN W 0) i0)) (gX (ps0.b) (pX (plN W 0) i0) (pY (plN W 0) i0)) (gY (ps0.b) (pX (plN W 0) i0) (pY (plN W 0) i0)) (ps0.s)).2.1), fun _ => undef, fun _ => undef, fun g_ => iv ((rdCh l K (gX (ps0.a) (pX (plN W 0) i0) (pY (plN W 0) i0)) (gY (ps0.a) (pX (plN W 0) i0) (pY (plN W 0) i0)) (gX (ps0.b) (pX (plN W 0) i0) (pY (plN W 0) i0)) (gY (ps0.b) (pX (plN W 0) i0) (pY (plN W 0) i0)) (ps0.s)).2.1)] 19 24 (some 23) noB 0 (by kernel_rfl) (by kernel_rfl) (by kernel_rfl) (by kernel_rfl) ⟨.inr (.inr fun _ _ => rfl), ⟨.inr (.inr fun _ _ => rfl), ⟨.inr (.inr fun _ _ => rfl), ⟨.inr (.inr fun _ _ => rfl), ⟨.inr (.inr fun _ _ => rfl), ⟨.inr (.inr fun _ _ => rfl), ⟨.inr (.inr fun _ _ => rfl), ⟨.inr (.inr fun _ _ => rfl), ⟨.inr (.inr fun _ _ => rfl), ⟨.inr (.inr fun _ _ => rfl), ⟨.inr (.inr fun _ _ => rfl), ⟨.inr (.inr fun _ _ => rfl), ⟨.inr (.inr fun _ _ => rfl), ⟨.inr (.inr fun _ _ => rfl), ⟨.inr (.inr fun _ _ => rfl), ⟨.inr (.inr fun _ _ => rfl), ⟨.inr (.inr fun _ _ => rfl), ⟨.inr (.inr fun _ _ => rfl), ⟨.inr (.inr fun _ _ => rfl), ⟨.inr (.inl rfl), ⟨.inl rfl, ⟨.inl rfl, ⟨.inl rfl, ⟨.inr (.inr fun _ _ => rfl), ⟨.inl rfl, ⟨.inl rfl, trivial⟩⟩⟩⟩⟩⟩⟩⟩⟩⟩⟩⟩⟩⟩⟩⟩⟩⟩⟩⟩⟩⟩⟩⟩⟩⟩ ⟨B234, fun w w1 S1 h k a => h.all k (fun i z => a i z), fun w h i z => h.live i z, fun g w w1 S1 h k a => by obtain ⟨b0_, g0_⟩ := h; exact ⟨b0_.all k (fun i z => a i z), g0_⟩, fun g w h i z => by obtain ⟨b0_, g0_⟩ := h; exact b0_.live i z, fun _ _ _ _ h k z => h.all k z, fun _ _ h => h.lt, fun _ _ _ _ _ h k z => h.all k z, fun _ z => z, fun _ h => .inr h, fun p h z => absurd h (Nat.not_le.2 (B234.live p z))⟩ (fun _ _ _ h => h) (fun e => by cases e) ?_ ?_
    ·refine stepsFX_cons ?_ ?_
     ·refine StepFX.one rfl rfl rfl rfl fun g_ p_ F_ w_ hR hout hD => ?_
      exact (y_mov rfl ((hout 8 rfl (by decide)).trans s264) ⟨rfl, Kept.refl _ _⟩)
     refine stepsFX_cons ?_ ?_
     ·refine StepFX.one rfl rfl rfl rfl fun g_ p_ F_ w_ hR hout hD => ?_
      exact (y_fieldR (n := 1) rfl ((hout 4 rfl (by decide)).trans s263) Tryz.underlying25 rfl (by kernel_rfl) (by decide) rfl ⟨rfl, Kept.refl _ _⟩)
     refine stepsFX_cons ?_ ?_
     ·refine StepFX.one rfl rfl rfl rfl fun g_ p_ F_ w_ hR hout hD => ?_
      have g63 : F_ 63 = pt p10 0 := (hD.get 0 rfl rfl rfl).2 (by decide)
      exact (y_ld_stc rfl g63 Tryz.underlying3 (B233.all hR (ap244.symm p10 rfl)) rfl rfl ⟨rfl, Kept.refl _ _⟩)
     refine stepsFX_cons ?_ ?_
     ·refine StepFX.one rfl rfl rfl rfl fun g_ p_ F_ w_ hR hout hD => ?_
      exact (y_mov rfl ((hout 13 rfl (by decide)).trans s268) ⟨rfl, Kept.refl _ _⟩)
     refine stepsFX_cons ?_ ?_
     ·refine StepFX.one rfl rfl rfl rfl fun g_ p_ F_ w_ hR hout hD => ?_
      exact (y_mov rfl ((hout 17 rfl (by decide)).trans s272) ⟨rfl, Kept.refl _ _⟩)
     refine stepsFX_cons ?_ ?_
     ·refine StepFX.one rfl rfl rfl rfl fun g_ p_ F_ w_ hR hout hD => ?_
      exact (y_mov rfl ((hout 11 rfl (by decide)).trans s266) ⟨rfl, Kept.refl _ _⟩)
     refine stepsFX_cons ?_ ?_
     ·refine StepFX.one rfl rfl rfl rfl fun g_ p_ F_ w_ hR hout hD => ?_
      have g66 : F_ 66 = iv ((i0 : Nat) : Int) := (hD.get 0 rfl rfl rfl).2 (by decide)
      have g67 : F_ 67 = iv ((plN W 0 : Nat) : Int) := (hD.get 1 rfl rfl rfl).2 (by decide)
      exact (y_rem rfl g66 g67 (by first | decide | omega) (rem_nat i0 (plN W 0)) ⟨rfl, Kept.refl _ _⟩)
     refine stepsFX_cons ?_ ?_
     ·refine StepFX.one rfl rfl rfl rfl fun g_ p_ F_ w_ hR hout hD => ?_
      exact (y_mov rfl ((hout 17 rfl (by decide)).trans s272) ⟨rfl, Kept.refl _ _⟩)
     refine stepsFX_cons ?_ ?_
     ·refine StepFX.one rfl rfl rfl rfl fun g_ p_ F_ w_ hR hout hD => ?_
      exact (y_mov rfl ((hout 11 rfl (by decide)).trans s266) ⟨rfl, Kept.refl _ _⟩)
     refine stepsFX_cons ?_ ?_
     ·refine StepFX.one rfl rfl rfl rfl fun g_ p_ F_ w_ hR hout hD => ?_
      have g69 : F_ 69 = iv ((i0 : Nat) : Int) := (hD.get 0 rfl rfl rfl).2 (by decide)
      have g70 : F_ 70 = iv ((plN W 0 : Nat) : Int) := (hD.get 1 rfl rfl rfl).2 (by decide)
      exact (y_quo rfl g69 g70 (by first | decide | omega) (i64_n (quo_nat i0 (plN W 0)) (by omega)) ⟨rfl, Kept.refl _ _⟩)
     refine stepsFX_cons ?_ ?_
     ·refine StepFX.one rfl rfl rfl rfl fun g_ p_ F_ w_ hR hout hD => ?_
      have g65 : F_ 65 = v139 := (hD.get 0 rfl rfl rfl).2 (by decide)
      have g68 : F_ 68 = iv (pX (plN W 0) i0) := (hD.get 1 rfl rfl rfl).2 (by decide)
      have g71 : F_ 71 = iv (pY (plN W 0) i0) := (hD.get 2 rfl rfl rfl).2 (by decide)
      exact (y_cs rfl rfl rfl (fun _ _ => by kernel_rfl) (ev_func _) (vsC g65 (vsC g68 (vsC g71 vsN))) (mref_vguess v139 (ps0.a) (pX (plN W 0) i0) (pY (plN W 0) i0) T212 _  (B235.all hR ap245.symm) ) (fun e_ w_ h_ => ⟨_, h_.1, rfl, h_.2⟩))
     refine stepsFX_cons ?_ ?_
     ·refine StepFX.one rfl rfl rfl rfl fun g_ p_ F_ w_ hR hout hD => ?_
      exact (y_mov rfl ((hout 15 rfl (by decide)).trans s269) ⟨rfl, Kept.refl _ _⟩)
     refine stepsFX_cons ?_ ?_
     ·refine StepFX.one rfl rfl rfl rfl fun g_ p_ F_ w_ hR hout hD => ?_
      exact (y_mov rfl ((hout 17 rfl (by decide)).trans s272) ⟨rfl, Kept.refl _ _⟩)
     refine stepsFX_cons ?_ ?_
     ·refine StepFX.one rfl rfl rfl rfl fun g_ p_ F_ w_ hR hout hD => ?_
      exact (y_mov rfl ((hout 11 rfl (by decide)).trans s266) ⟨rfl, Kept.refl _ _⟩)
     refine stepsFX_cons ?_ ?_
     ·refine StepFX.one rfl rfl rfl rfl fun g_ p_ F_ w_ hR hout hD => ?_
      have g74 : F_ 74 = iv ((i0 : Nat) : Int) := (hD.get 0 rfl rfl rfl).2 (by decide)
      have g75 : F_ 75 = iv ((plN W 0 : Nat) : Int) := (hD.get 1 rfl rfl rfl).2 (by decide)
      exact (y_rem rfl g74 g75 (by first | decide | omega) (rem_nat i0 (plN W 0)) ⟨rfl, Kept.refl _ _⟩)
     refine stepsFX_cons ?_ ?_
     ·refine StepFX.one rfl rfl rfl rfl fun g_ p_ F_ w_ hR hout hD => ?_
      exact (y_mov rfl ((hout 17 rfl (by decide)).trans s272) ⟨rfl, Kept.refl _ _⟩)
     refine stepsFX_cons ?_ ?_
     ·refine StepFX.one rfl rfl rfl rfl fun g_ p_ F_ w_ hR hout hD => ?_
      exact (y_mov rfl ((hout 11 rfl (by decide)).trans s266) ⟨rfl, Kept.refl _ _⟩)
     refine stepsFX_cons ?_ ?_
     ·refine StepFX.one rfl rfl rfl rfl fun g_ p_ F_ w_ hR hout hD => ?_
      have g77 : F_ 77 = iv ((i0 : Nat) : Int) := (hD.get 0 rfl rfl rfl).2 (by decide)
      have g78 : F_ 78 = iv ((plN W 0 : Nat) : Int) := (hD.get 1 rfl rfl rfl).2 (by decide)
      exact (y_quo rfl g77 g78 (by first | decide | omega) (i64_n (quo_nat i0 (plN W 0)) (by omega)) ⟨rfl, Kept.refl _ _⟩)
     refine stepsFX_cons ?_ ?_
     ·refine StepFX.one rfl rfl rfl rfl fun g_ p_ F_ w_ hR hout hD => ?_
      have g73 : F_ 73 = v166 := (hD.get 0 rfl rfl rfl).2 (by decide)
      have g76 : F_ 76 = iv (pX (plN W 0) i0) := (hD.get 1 rfl rfl rfl).2 (by decide)
      have g79 : F_ 79 = iv (pY (plN W 0) i0) := (hD.get 2 rfl rfl rfl).2 (by decide)
      exact (y_cs rfl rfl rfl (fun _ _ => by kernel_rfl) (ev_func _) (vsC g73 (vsC g76 (vsC g79 vsN))) (mref_vguess v166 (ps0.b) (pX (plN W 0) i0) (pY (plN W 0) i0) T213 _  (B236.all hR ap246.symm) ) (fun e_ w_ h_ => ⟨_, h_.1, rfl, h_.2⟩))
     refine stepsFX_cons ?_ ?_
     ·refine StepFX.call rfl rfl rfl rfl fun g_ p_ F_ w_ hR hout hD hP_ => ?_
      have g62 : F_ 62 = pt p77 0 := (hD.get 0 rfl rfl rfl).2 (by decide)
      have g64 : F_ 64 = iv K := (hD.get 1 rfl rfl rfl).2 (by decide)
      have g72 : F_ 72 = .agg #[iv (gX (ps0.a) (pX (plN W 0) i0) (pY (plN W 0) i0)), iv (gY (ps0.a) (pX (plN W 0) i0) (pY (plN W 0) i0))] := (hD.get 2 rfl rfl rfl).2 (by decide)
      have g80 : F_ 80 = .agg #[iv (gX (ps0.b) (pX (plN W 0) i0) (pY (plN W 0) i0)), iv (gY (ps0.b) (pX (plN W 0) i0) (pY (plN W 0) i0))] := (hD.get 3 rfl rfl rfl).2 (by decide)
      exact (y_cs rfl rfl rfl (fun _ _ => by kernel_rfl) (ev_func _) (vsC g62 (vsC g64 (vsC g72 (vsC g80 vsN)))) (bref_read p77 l (ps0.s) K (gX (ps0.a) (pX (plN W 0) i0) (pY (plN W 0) i0)) (gY (ps0.a) (pX (plN W 0) i0) (pY (plN W 0) i0)) (gX (ps0.b) (pX (plN W 0) i0) (pY (plN W 0) i0)) (gY (ps0.b) (pX (plN W 0) i0) (pY (plN W 0) i0)) T211 _  hP_ ) (fun e_ w_ h_ => by obtain ⟨x0_, he_, hk_, ⟨b0_, g0_⟩⟩ := h_; exact ⟨_, he_, x0_, rfl, hk_, ⟨b0_, (Grew.refl w216 _).trans hR g0_⟩, fun b hb => (g0_ b hb).elim (fun z => .inl z) .inr⟩))
     refine stepsFX_cons ?_ ?_
     ·refine StepFX.one rfl rfl rfl rfl fun g_ p_ F_ w_ hR hout hD => ?_
      have g81 : F_ 81 = .tuple #[.agg (chW ((rdCh l K (gX (ps0.a) (pX (plN W 0) i0) (pY (plN W 0) i0)) (gY (ps0.a) (pX (plN W 0) i0) (pY (plN W 0) i0)) (gX (ps0.b) (pX (plN W 0) i0) (pY (plN W 0) i0)) (gY (ps0.b) (pX (plN W 0) i0) (pY (plN W 0) i0)) (ps0.s)).1)).toArray, iv ((rdCh l K (gX (ps0.a) (pX (plN W 0) i0) (pY (plN W 0) i0)) (gY (ps0.a) (pX (plN W 0) i0) (pY (plN W 0) i0)) (gX (ps0.b) (pX (plN W 0) i0) (pY (plN W 0) i0)) (gY (ps0.b) (pX (plN W 0) i0) (pY (plN W 0) i0)) (ps0.s)).2.1)] := (hD.get 0 rfl rfl rfl).2 (by decide)
      exact (y_mov rfl g81 ⟨rfl, Kept.refl _ _⟩)
     refine stepsFX_cons ?_ ?_
     ·refine StepFX.one rfl rfl rfl rfl fun g_ p_ F_ w_ hR hout hD => ?_
      have g61 : F_ 61 = .tuple #[.agg (chW ((rdCh l K (gX (ps0.a) (pX (plN W 0) i0) (pY (plN W 0) i0)) (gY (ps0.a) (pX (plN W 0) i0) (pY (plN W 0) i0)) (gX (ps0.b) (pX (plN W 0) i0) (pY (plN W 0) i0)) (gY (ps0.b) (pX (plN W 0) i0) (pY (plN W 0) i0)) (ps0.s)).1)).toArray, iv ((rdCh l K (gX (ps0.a) (pX (plN W 0) i0) (pY (plN W 0) i0)) (gY (ps0.a) (pX (plN W 0) i0) (pY (plN W 0) i0)) (gX (ps0.b) (pX (plN W 0) i0) (pY (plN W 0) i0)) (gY (ps0.b) (pX (plN W 0) i0) (pY (plN W 0) i0)) (ps0.s)).2.1)] := (hD.get 0 rfl rfl rfl).2 (by decide)
      exact (y_ext rfl g61 rfl ⟨rfl, Kept.refl _ _⟩)
     refine stepsFX_cons ?_ ?_
     ·refine StepFX.one rfl rfl rfl rfl fun g_ p_ F_ w_ hR hout hD => ?_
      have g61 : F_ 61 = .tuple #[.agg (chW ((rdCh l K (gX (ps0.a) (pX (plN W 0) i0) (pY (plN W 0) i0)) (gY (ps0.a) (pX (plN W 0) i0) (pY (plN W 0) i0)) (gX (ps0.b) (pX (plN W 0) i0) (pY (plN W 0) i0)) (gY (ps0.b) (pX (plN W 0) i0) (pY (plN W 0) i0)) (ps0.s)).1)).toArray, iv ((rdCh l K (gX (ps0.a) (pX (plN W 0) i0) (pY (plN W 0) i0)) (gY (ps0.a) (pX (plN W 0) i0) (pY (plN W 0) i0)) (gX (ps0.b) (pX (plN W 0) i0) (pY (plN W 0) i0)) (gY (ps0.b) (pX (plN W 0) i0) (pY (plN W 0) i0)) (ps0.s)).2.1)] := (hD.get 0 rfl rfl rfl).2 (by decide)
      exact (y_ext rfl g61 rfl ⟨rfl, Kept.refl _ _⟩)
     refine stepsFX_cons ?_ ?_
     ·refine StepFX.alloc rfl rfl rfl rfl fun F_ w_ hR => ?_
      exact y_alloc_stc (n := 21) (vs := (chL 0 0 0 0 0 (fun _ => (0 : Int)))) rfl (by kernel_rfl) ⟨_, rfl, Nat.le_refl _, heap_alloc_new _ _, (Kept.refl _ _).alloc _⟩
     refine stepsFX_cons ?_ ?_
     ·refine StepFX.store rfl rfl rfl rfl fun g_ p_ F_ w_ hR hout hD hO_ hZ_ hQ_ => ?_
      have g18 : F_ 18 = pt p_ 0 := (hD.get 0 rfl rfl rfl).1 rfl
      have g82 : F_ 82 = .agg (chW ((rdCh l K (gX (ps0.a) (pX (plN W 0) i0) (pY (plN W 0) i0)) (gY (ps0.a) (pX (plN W 0) i0) (pY (plN W 0) i0)) (gX (ps0.b) (pX (plN W 0) i0) (pY (plN W 0) i0)) (gY (ps0.b) (pX (plN W 0) i0) (pY (plN W 0) i0)) (ps0.s)).1)).toArray := (hD.get 1 rfl rfl rfl).2 (by decide)
      exact y_storeStc (us := (chW ((rdCh l K (gX (ps0.a) (pX (plN W 0) i0) (pY (plN W 0) i0)) (gY (ps0.a) (pX (plN W 0) i0) (pY (plN W 0) i0)) (gX (ps0.b) (pX (plN W 0) i0) (pY (plN W 0) i0)) (gY (ps0.b) (pX (plN W 0) i0) (pY (plN W 0) i0)) (ps0.s)).1))) stcT_choice rfl g18 g82 hZ_ rfl (oneI rfl (oneI rfl (oneI rfl (oneI rfl (oneI rfl (oneI rfl (oneI rfl (oneI rfl (oneI rfl (oneI rfl (oneI rfl (oneI rfl (oneI rfl (oneI rfl (oneI rfl (oneI rfl (oneI rfl (oneI rfl (oneI rfl (oneI rfl (oneI rfl oneN))))))))))))))))))))) fun w2_ b_ k_ => ⟨rfl, k_, b_⟩
     refine stepsFX_cons ?_ ?_
     ·refine StepFX.one rfl rfl rfl rfl fun g_ p_ F_ w_ hR hout hD => ?_
      have g83 : F_ 83 = iv ((rdCh l K (gX (ps0.a) (pX (plN W 0) i0) (pY (plN W 0) i0)) (gY (ps0.a) (pX (plN W 0) i0) (pY (plN W 0) i0)) (gX (ps0.b) (pX (plN W 0) i0) (pY (plN W 0) i0)) (gY (ps0.b) (pX (plN W 0) i0) (pY (plN W 0) i0)) (ps0.s)).2.1) := (hD.get 0 rfl rfl rfl).2 (by decide)
      exact (y_asg rfl g83 ⟨rfl, Kept.refl _ _⟩)
     exact stepsFX_nil
    intro gg275 p276 v277 F278 w279 k280 hp281 hQ282 hG283 hY284 hN285 hA286 hV287 hF288
    obtain ⟨T289, e_gg275⟩ : ∃ z, z = gg275 := ⟨_, rfl⟩; subst e_gg275
    have B290 := B231.all k280 ap242.symm
    have B291 := B232.all k280 (ap243.symm p1 rfl)
    have B292 := B233.all k280 (ap244.symm p10 rfl)
    have B293 := B235.all k280 ap245.symm
    have B294 := B236.all k280 ap246.symm
    have B295 := B237.all k280 ap247.symm
    have K296 := K217.trans k280 (fun i hi x => ((Grew.ok (S := fun _ => False) gr238 noB_le) i hi x))
    obtain ⟨B297, g298⟩ := hQ282
    replace B297 : Rfi w279 T289 p77 l ((rdCh l K (gX (ps0.a) (pX (plN W 0) i0) (pY (plN W 0) i0)) (gY (ps0.a) (pX (plN W 0) i0) (pY (plN W 0) i0)) (gX (ps0.b) (pX (plN W 0) i0) (pY (plN W 0) i0)) (gY (ps0.b) (pX (plN W 0) i0) (pY (plN W 0) i0)) (ps0.s)).2.2) := B297
    replace g298 : Grew w216 T211 T289 := g298
    have gr299 := gr238.trans K217 g298
    have ap300 : Apart T289 T_b := ap242.grew g298 B231.live
    have ap301 : Apart T289 (onB p1) := ap243.grew g298 (onB_live B232.lt)
    have ap302 : Apart T289 (onB p10) := ap244.grew g298 (onB_live B233.lt)
    have ap303 : Apart T289 T212 := ap245.grew g298 B235.live
    have ap304 : Apart T289 T213 := ap246.grew g298 B236.live
    have ap305 : Apart T289 T214 := ap247.grew g298 B237.live
    replace hY284 : Stc w279 p276 71 (chW ((rdCh l K (gX (ps0.a) (pX (plN W 0) i0) (pY (plN W 0) i0)) (gY (ps0.a) (pX (plN W 0) i0) (pY (plN W 0) i0)) (gX (ps0.b) (pX (plN W 0) i0) (pY (plN W 0) i0)) (gY (ps0.b) (pX (plN W 0) i0) (pY (plN W 0) i0)) (ps0.s)).1)) := hY284
    have ap310 : Apart (onB p276) T212 := Apart.new (onB_new hp281) B235.live
    have ap311 : Apart (onB p276) T213 := Apart.new (onB_new hp281) B236.live
    obtain ⟨s314, s315, s316, s317, s318, s319, s320, s321, s322, s323, s324⟩ := t11 hF288 3 s262 4 s263 8 s264 10 s265 11 s266 12 s267 13 s268 15 s269 115 s270 9 s271 17 s272
    have s325 : F278 18 = pt p276 0 := (hF288 18).trans (hA286 23 rfl)
    have s326 : F278 19 = iv ((rdCh l K (gX (ps0.a) (pX (plN W 0) i0) (pY (plN W 0) i0)) (gY (ps0.a) (pX (plN W 0) i0) (pY (plN W 0) i0)) (gX (ps0.b) (pX (plN W 0) i0) (pY (plN W 0) i0)) (gY (ps0.b) (pX (plN W 0) i0) (pY (plN W 0) i0)) (ps0.s)).2.1) := (hF288 19).trans (hV287 25 (by decide) (by decide))
    clear hF288 hV287 hA286 hN285 hG283
    refine then_normal (wq_seq (wq_seq (wq_region (wl_mv rfl rfl rfl s326 (wl_v (.bool (decide (((rdCh l K (gX (ps0.a) (pX (plN W 0) i0) (pY (plN W 0) i0)) (gY (ps0.a) (pX (plN W 0) i0) (pY (plN W 0) i0)) (gX (ps0.b) (pX (plN W 0) i0) (pY (plN W 0) i0)) (gY (ps0.b) (pX (plN W 0) i0) (pY (plN W 0) i0)) (ps0.s)).2.1) ≠ 0))) rfl rfl (y_neqI rfl rfl rfl rfl rr) (wl_nil fun F327 hF328 => ?_))))))
    obtain ⟨s329, s330, s331, s332, s333, s334, s335, s336, s337, s338, s339, s340, s341⟩ := t13 hF328 3 s314 4 s315 8 s316 10 s317 11 s318 12 s319 13 s320 15 s321 115 s322 9 s323 17 s324 18 s325 19 s326
    have s342 : F327 85 = .bool (decide (((rdCh l K (gX (ps0.a) (pX (plN W 0) i0) (pY (plN W 0) i0)) (gY (ps0.a) (pX (plN W 0) i0) (pY (plN W 0) i0)) (gX (ps0.b) (pX (plN W 0) i0) (pY (plN W 0) i0)) (gY (ps0.b) (pX (plN W 0) i0) (pY (plN W 0) i0)) (ps0.s)).2.1) ≠ 0)) := (hF328 85).trans rfl
    clear hF328
    refine then_normal ?_
    refine wq_cond s342 (fun c343 => ?_) (fun c343 => ?_)
    ·replace c343 := of_decide_eq_true c343
     refine wq_seq ?_
     have hcb : (chAt l K (plN W 0) i0 ps0).2.1 ≠ 0 := by assumption
     have hR := chs_bad hm (by decide) (run_bad hrun (by omega) hcb) hcb
     refine wq_region (wl_mv rfl rfl rfl s341 (wl_v (.slice none 0 0) rfl rfl (y_asg rfl rfl rr) (wl_v (iv ((rdCh l K (gX (ps0.a) (pX (plN W 0) i0) (pY (plN W 0) i0)) (gY (ps0.a) (pX (plN W 0) i0) (pY (plN W 0) i0)) (gX (ps0.b) (pX (plN W 0) i0) (pY (plN W 0) i0)) (gY (ps0.b) (pX (plN W 0) i0) (pY (plN W 0) i0)) (ps0.s)).2.1)) rfl rfl (y_asg rfl rfl rr) (wl_nil fun F344 hF345 => ?_))))
     have s346 := (hF345 115).trans s337
     have s347 : F344 6 = .slice none 0 0 := (hF345 6).trans rfl
     have s348 : F344 7 = iv ((rdCh l K (gX (ps0.a) (pX (plN W 0) i0) (pY (plN W 0) i0)) (gY (ps0.a) (pX (plN W 0) i0) (pY (plN W 0) i0)) (gX (ps0.b) (pX (plN W 0) i0) (pY (plN W 0) i0)) (gY (ps0.b) (pX (plN W 0) i0) (pY (plN W 0) i0)) (ps0.s)).2.1) := (hF345 7).trans rfl
     clear hF345
     refine then_normal (wq_ret (then_ret (in_ret (then_ret (then_ret (in_ret (in_ret (then_ret (then_ret (in_ret (then_ret ?_)))))))))))
     exact end_2 s346 rfl (res_tmp (v := .slice none 0 0) rfl s347) (res_tmp (v := iv ((rdCh l K (gX (ps0.a) (pX (plN W 0) i0) (pY (plN W 0) i0)) (gY (ps0.a) (pX (plN W 0) i0) (pY (plN W 0) i0)) (gX (ps0.b) (pX (plN W 0) i0) (pY (plN W 0) i0)) (gY (ps0.b) (pX (plN W 0) i0) (pY (plN W 0) i0)) (ps0.s)).2.1)) rfl s348) ⟨(.slice none 0 0), noB, (by rw [hR] <;> rfl), K296, ⟨(by rw [hR]; exact (RoO.nil rCh _)), (Grew.refl _ _)⟩⟩
    ·replace c343 := of_decide_eq_false c343
     refine wq_skip (then_normal (wq_seq ?_))
     have hc : (chAt l K (plN W 0) i0 ps0).2.1 = 0 := by first | assumption | (apply Decidable.byContradiction; assumption)
     have hdv := Nat.div_le_self i0 (plN W 0)
     refine wq_tail 9 [some 87, some 88, some 89, some 90, some 91, some 92, some 93, some 94, some 95] [Pd.eq v139, Pd.eq (iv ((i0 : Nat) : Int)), Pd.eq (iv ((plN W 0 : Nat) : Int)), Pd.eq (iv (pX (plN W 0) i0)), Pd.eq (iv ((i0 : Nat) : Int)), Pd.eq (iv ((plN W 0 : Nat) : Int)), Pd.eq (iv (pY (plN W 0) i0)), Pd.eq (pt p276 1), Pd.eq (.agg #[iv (((rdCh l K (gX (ps0.a) (pX (plN W 0) i0) (pY (plN W 0) i0)) (gY (ps0.a) (pX (plN W 0) i0) (pY (plN W 0) i0)) (gX (ps0.b) (pX (plN W 0) i0) (pY (plN W 0) i0)) (gY (ps0.b) (pX (plN W 0) i0) (pY (plN W 0) i0)) (ps0.s)).1).px), iv (((rdCh l K (gX (ps0.a) (pX (plN W 0) i0) (pY (plN W 0) i0)) (gY (ps0.a) (pX (plN W 0) i0) (pY (plN W 0) i0)) (gX (ps0.b) (pX (plN W 0) i0) (pY (plN W 0) i0)) (gY (ps0.b) (pX (plN W 0) i0) (pY (plN W 0) i0)) (ps0.s)).1).py)])] (by kernel_rfl) (by kernel_rfl) (by kernel_rfl) ?_ ?_
     ·refine stepsF_cons ?_ ?_
      ·refine StepF.one rfl fun F_ w_ hR hout hD => ?_
       exact (y_mov rfl ((hout 13 rfl (by decide)).trans s335) ⟨rfl, Kept.refl _ _⟩)
      refine stepsF_cons ?_ ?_
      ·refine StepF.one rfl fun F_ w_ hR hout hD => ?_
       exact (y_mov rfl ((hout 17 rfl (by decide)).trans s339) ⟨rfl, Kept.refl _ _⟩)
      refine stepsF_cons ?_ ?_
      ·refine StepF.one rfl fun F_ w_ hR hout hD => ?_
       exact (y_mov rfl ((hout 11 rfl (by decide)).trans s333) ⟨rfl, Kept.refl _ _⟩)
      refine stepsF_cons ?_ ?_
      ·refine StepF.one rfl fun F_ w_ hR hout hD => ?_
       have g88 : F_ 88 = iv ((i0 : Nat) : Int) := (hD.get 0 rfl rfl rfl)
       have g89 : F_ 89 = iv ((plN W 0 : Nat) : Int) := (hD.get 1 rfl rfl rfl)
       exact (y_rem rfl g88 g89 (by first | decide | omega) (rem_nat i0 (plN W 0)) ⟨rfl, Kept.refl _ _⟩)
      refine stepsF_cons ?_ ?_
      ·refine StepF.one rfl fun F_ w_ hR hout hD => ?_
       exact (y_mov rfl ((hout 17 rfl (by decide)).trans s339) ⟨rfl, Kept.refl _ _⟩)
      refine stepsF_cons ?_ ?_
      ·refine StepF.one rfl fun F_ w_ hR hout hD => ?_
       exact (y_mov rfl ((hout 11 rfl (by decide)).trans s333) ⟨rfl, Kept.refl _ _⟩)
      refine stepsF_cons ?_ ?_
      ·refine StepF.one rfl fun F_ w_ hR hout hD => ?_
       have g91 : F_ 91 = iv ((i0 : Nat) : Int) := (hD.get 0 rfl rfl rfl)
       have g92 : F_ 92 = iv ((plN W 0 : Nat) : Int) := (hD.get 1 rfl rfl rfl)
       exact (y_quo rfl g91 g92 (by first | decide | omega) (i64_n (quo_nat i0 (plN W 0)) (by omega)) ⟨rfl, Kept.refl _ _⟩)
      refine stepsF_cons ?_ ?_
      ·refine StepF.one rfl fun F_ w_ hR hout hD => ?_
       exact (y_fieldR (n := 2) rfl ((hout 18 rfl (by decide)).trans s340) Tryz.underlying71 rfl (by kernel_rfl) (by decide) rfl ⟨rfl, Kept.refl _ _⟩)
      refine stepsF_cons ?_ ?_
      ·refine StepF.one rfl fun F_ w_ hR hout hD => ?_
       have g94 : F_ 94 = pt p276 1 := (hD.get 0 rfl rfl rfl)
       exact (y_ldPart (n := 2) stcT_vector rfl g94 (hY284.all hR id) (Nat.le_of_ble_eq_true rfl) rfl ⟨rfl, Kept.refl _ _⟩)
      exact stepsF_nil
     intro v349 F350 w351 k352 G353 hF354
     have B356 := B290.all k352 Apart.none
     have B357 := B291.all k352 id
     have B358 := B292.all k352 id
     have B359 := B297.all k352 Apart.none
     have B360 := B293.all k352 Apart.none
     have B361 := B294.all k352 Apart.none
     have B362 := B295.all k352 Apart.none
     have B363 := hY284.all k352 id
     have K364 := K296.tr k352
     obtain ⟨s365, s366, s367, s368, s369, s370, s371, s372, s373, s374, s375, s376⟩ := t12 hF354 3 s329 4 s330 8 s331 10 s332 11 s333 12 s334 13 s335 15 s336 115 s337 9 s338 17 s339 18 s340
     have s377 : F350 87 = v139 := (hF354 87).trans (G353 0 (by decide))
     have s378 : F350 90 = iv (pX (plN W 0) i0) := (hF354 90).trans (G353 3 (by decide))
     have s379 : F350 93 = iv (pY (plN W 0) i0) := (hF354 93).trans (G353 6 (by decide))
     have s380 : F350 95 = .agg #[iv (((rdCh l K (gX (ps0.a) (pX (plN W 0) i0) (pY (plN W 0) i0)) (gY (ps0.a) (pX (plN W 0) i0) (pY (plN W 0) i0)) (gX (ps0.b) (pX (plN W 0) i0) (pY (plN W 0) i0)) (gY (ps0.b) (pX (plN W 0) i0) (pY (plN W 0) i0)) (ps0.s)).1).px), iv (((rdCh l K (gX (ps0.a) (pX (plN W 0) i0) (pY (plN W 0) i0)) (gY (ps0.a) (pX (plN W 0) i0) (pY (plN W 0) i0)) (gX (ps0.b) (pX (plN W 0) i0) (pY (plN W 0) i0)) (gY (ps0.b) (pX (plN W 0) i0) (pY (plN W 0) i0)) (ps0.s)).1).py)] := (hF354 95).trans (G353 8 (by decide))
     clear G353 hF354
     refine wl_call (R := fun v_ w_ => ∃ (T383 : Nat → Prop), iv (setE (ps0.a) (pX (plN W 0) i0) (pY (plN W 0) i0) (((rdCh l K (gX (ps0.a) (pX (plN W 0) i0) (pY (plN W 0) i0)) (gY (ps0.a) (pX (plN W 0) i0) (pY (plN W 0) i0)) (gX (ps0.b) (pX (plN W 0) i0) (pY (plN W 0) i0)) (gY (ps0.b) (pX (plN W 0) i0) (pY (plN W 0) i0)) (ps0.s)).1).px) (((rdCh l K (gX (ps0.a) (pX (plN W 0) i0) (pY (plN W 0) i0)) (gY (ps0.a) (pX (plN W 0) i0) (pY (plN W 0) i0)) (gX (ps0.b) (pX (plN W 0) i0) (pY (plN W 0) i0)) (gY (ps0.b) (pX (plN W 0) i0) (pY (plN W 0) i0)) (ps0.s)).1).py)) = v_ ∧ Kept T212 w351 w_ ∧ (Vfo w_ T383 v139 (some (setV (ps0.a) (pX (plN W 0) i0) (pY (plN W 0) i0) (((rdCh l K (gX (ps0.a) (pX (plN W 0) i0) (pY (plN W 0) i0)) (gY (ps0.a) (pX (plN W 0) i0) (pY (plN W 0) i0)) (gX (ps0.b) (pX (plN W 0) i0) (pY (plN W 0) i0)) (gY (ps0.b) (pX (plN W 0) i0) (pY (plN W 0) i0)) (ps0.s)).1).px) (((rdCh l K (gX (ps0.a) (pX (plN W 0) i0) (pY (plN W 0) i0)) (gY (ps0.a) (pX (plN W 0) i0) (pY (plN W 0) i0)) (gX (ps0.b) (pX (plN W 0) i0) (pY (plN W 0) i0)) (gY (ps0.b) (pX (plN W 0) i0) (pY (plN W 0) i0)) (ps0.s)).1).py))) ∧ Grew w351 T212 T383)) rfl rfl (y_cs rfl rfl rfl (fun _ _ => by kernel_rfl) (ev_func _) (vsC s377 (vsC s378 (vsC s379 (vsC s380 vsN)))) (mref_vset v139 (ps0.a) (pX (plN W 0) i0) (pY (plN W 0) i0) (((rdCh l K (gX (ps0.a) (pX (plN W 0) i0) (pY (plN W 0) i0)) (gY (ps0.a) (pX (plN W 0) i0) (pY (plN W 0) i0)) (gX (ps0.b) (pX (plN W 0) i0) (pY (plN W 0) i0)) (gY (ps0.b) (pX (plN W 0) i0) (pY (plN W 0) i0)) (ps0.s)).1).px) (((rdCh l K (gX (ps0.a) (pX (plN W 0) i0) (pY (plN W 0) i0)) (gY (ps0.a) (pX (plN W 0) i0) (pY (plN W 0) i0)) (gX (ps0.b) (pX (plN W 0) i0) (pY (plN W 0) i0)) (gY (ps0.b) (pX (plN W 0) i0) (pY (plN W 0) i0)) (ps0.s)).1).py) T212 _  B360 ) (fun e_ w_ h_ => by obtain ⟨T383_, he_, hr_⟩ := h_; exact ⟨_, he_, T383_, rfl, hr_⟩)) ?_
     rintro _ w381 ⟨T383, rfl, k382, ⟨B384, g385⟩⟩
     have B386 := B356.all k382 ap248.symm
     have B387 := B357.all k382 (ap249.symm p1 rfl)
     have B388 := B358.all k382 (ap250.symm p10 rfl)
     have B389 := B359.all k382 ap303
     have B390 := B361.all k382 ap251.symm
     have B391 := B362.all k382 ap252.symm
     have B392 := B363.all k382 (ap310 p276 rfl)
     have K393 := K364.trans k382 (fun i hi x => ((Grew.ok (S := fun _ => False) gr239 noB_le) i hi x))
     have gr394 := gr239.trans K364 g385
     have ap395 : Apart T383 T_b := ap248.grew g385 B356.live
     have ap396 : Apart T383 (onB p1) := ap249.grew g385 (onB_live B357.lt)
     have ap397 : Apart T383 (onB p10) := ap250.grew g385 (onB_live B358.lt)
     have ap398 : Apart T383 T289 := (ap303.symm).grew g385 B359.live
     have ap399 : Apart T383 T213 := ap251.grew g385 B361.live
     have ap400 : Apart T383 T214 := ap252.grew g385 B362.live
     refine wl_nil fun F402 hF403 => ?_
     obtain ⟨s404, s405, s406, s407, s408, s409, s410, s411, s412, s413, s414, s415⟩ := t12 hF403 3 s365 4 s366 8 s367 10 s368 11 s369 12 s370 13 s371 15 s372 115 s373 9 s374 17 s375 18 s376
     clear hF403
     refine then_normal (wq_seq ?_)
     refine wq_tail 9 [some 97, some 98, some 99, some 100, some 101, some 102, some 103, some 104, some 105] [Pd.eq v166, Pd.eq (iv ((i0 : Nat) : Int)), Pd.eq (iv ((plN W 0 : Nat) : Int)), Pd.eq (iv (pX (plN W 0) i0)), Pd.eq (iv ((i0 : Nat) : Int)), Pd.eq (iv ((plN W 0 : Nat) : Int)), Pd.eq (iv (pY (plN W 0) i0)), Pd.eq (pt p276 3), Pd.eq (.agg #[iv (((rdCh l K (gX (ps0.a) (pX (plN W 0) i0) (pY (plN W 0) i0)) (gY (ps0.a) (pX (plN W 0) i0) (pY (plN W 0) i0)) (gX (ps0.b) (pX (plN W 0) i0) (pY (plN W 0) i0)) (gY (ps0.b) (pX (plN W 0) i0) (pY (plN W 0) i0)) (ps0.s)).1).nx), iv (((rdCh l K (gX (ps0.a) (pX (plN W 0) i0) (pY (plN W 0) i0)) (gY (ps0.a) (pX (plN W 0) i0) (pY (plN W 0) i0)) (gX (ps0.b) (pX (plN W 0) i0) (pY (plN W 0) i0)) (gY (ps0.b) (pX (plN W 0) i0) (pY (plN W 0) i0)) (ps0.s)).1).ny)])] (by kernel_rfl) (by kernel_rfl) (by kernel_rfl) ?_ ?_
     ·refine stepsF_cons ?_ ?_
      ·refine StepF.one rfl fun F_ w_ hR hout hD => ?_
       exact (y_mov rfl ((hout 15 rfl (by decide)).trans s411) ⟨rfl, Kept.refl _ _⟩)
      refine stepsF_cons ?_ ?_
      ·refine StepF.one rfl fun F_ w_ hR hout hD => ?_
       exact (y_mov rfl ((hout 17 rfl (by decide)).trans s414) ⟨rfl, Kept.refl _ _⟩)
      refine stepsF_cons ?_ ?_
      ·refine StepF.one rfl fun F_ w_ hR hout hD => ?_
       exact (y_mov rfl ((hout 11 rfl (by decide)).trans s408) ⟨rfl, Kept.refl _ _⟩)
      refine stepsF_cons ?_ ?_
      ·refine StepF.one rfl fun F_ w_ hR hout hD => ?_
       have g98 : F_ 98 = iv ((i0 : Nat) : Int) := (hD.get 0 rfl rfl rfl)
       have g99 : F_ 99 = iv ((plN W 0 : Nat) : Int) := (hD.get 1 rfl rfl rfl)
       exact (y_rem rfl g98 g99 (by first | decide | omega) (rem_nat i0 (plN W 0)) ⟨rfl, Kept.refl _ _⟩)
      refine stepsF_cons ?_ ?_
      ·refine StepF.one rfl fun F_ w_ hR hout hD => ?_
       exact (y_mov rfl ((hout 17 rfl (by decide)).trans s414) ⟨rfl, Kept.refl _ _⟩)
      refine stepsF_cons ?_ ?_
      ·refine StepF.one rfl fun F_ w_ hR hout hD => ?_
       exact (y_mov rfl ((hout 11 rfl (by decide)).trans s408) ⟨rfl, Kept.refl _ _⟩)
      refine stepsF_cons ?_ ?_
      ·refine StepF.one rfl fun F_ w_ hR hout hD => ?_
       have g101 : F_ 101 = iv ((i0 : Nat) : Int) := (hD.get 0 rfl rfl rfl)
       have g102 : F_ 102 = iv ((plN W 0 : Nat) : Int) := (hD.get 1 rfl rfl rfl)
       exact (y_quo rfl g101 g102 (by first | decide | omega) (i64_n (quo_nat i0 (plN W 0)) (by omega)) ⟨rfl, Kept.refl _ _⟩)
      refine stepsF_cons ?_ ?_
      ·refine StepF.one rfl fun F_ w_ hR hout hD => ?_
       exact (y_fieldR (n := 2) rfl ((hout 18 rfl (by decide)).trans s415) Tryz.underlying71 rfl (by kernel_rfl) (by decide) rfl ⟨rfl, Kept.refl _ _⟩)
      refine stepsF_cons ?_ ?_
      ·refine StepF.one rfl fun F_ w_ hR hout hD => ?_
       have g104 : F_ 104 = pt p276 3 := (hD.get 0 rfl rfl rfl)
       exact (y_ldPart (n := 2) stcT_vector rfl g104 (B392.all hR id) (Nat.le_of_ble_eq_true rfl) rfl ⟨rfl, Kept.refl _ _⟩)
      exact stepsF_nil
     intro v416 F417 w418 k419 G420 hF421
     have B423 := B386.all k419 Apart.none
     have B424 := B387.all k419 id
     have B425 := B388.all k419 id
     have B426 := B389.all k419 Apart.none
     have B427 := B384.all k419 Apart.none
     have B428 := B390.all k419 Apart.none
     have B429 := B391.all k419 Apart.none
     have B430 := B392.all k419 id
     have K431 := K393.tr k419
     obtain ⟨s432, s433, s434, s435, s436, s437, s438, s439, s440, s441, s442, s443⟩ := t12 hF421 3 s404 4 s405 8 s406 10 s407 11 s408 12 s409 13 s410 15 s411 115 s412 9 s413 17 s414 18 s415
     have s444 : F417 97 = v166 := (hF421 97).trans (G420 0 (by decide))
     have s445 : F417 100 = iv (pX (plN W 0) i0) := (hF421 100).trans (G420 3 (by decide))
     have s446 : F417 103 = iv (pY (plN W 0) i0) := (hF421 103).trans (G420 6 (by decide))
     have s447 : F417 105 = .agg #[iv (((rdCh l K (gX (ps0.a) (pX (plN W 0) i0) (pY (plN W 0) i0)) (gY (ps0.a) (pX (plN W 0) i0) (pY (plN W 0) i0)) (gX (ps0.b) (pX (plN W 0) i0) (pY (plN W 0) i0)) (gY (ps0.b) (pX (plN W 0) i0) (pY (plN W 0) i0)) (ps0.s)).1).nx), iv (((rdCh l K (gX (ps0.a) (pX (plN W 0) i0) (pY (plN W 0) i0)) (gY (ps0.a) (pX (plN W 0) i0) (pY (plN W 0) i0)) (gX (ps0.b) (pX (plN W 0) i0) (pY (plN W 0) i0)) (gY (ps0.b) (pX (plN W 0) i0) (pY (plN W 0) i0)) (ps0.s)).1).ny)] := (hF421 105).trans (G420 8 (by decide))
     clear G420 hF421
     refine wl_call (R := fun v_ w_ => ∃ (T450 : Nat → Prop), iv (setE (ps0.b) (pX (plN W 0) i0) (pY (plN W 0) i0) (((rdCh l K (gX (ps0.a) (pX (plN W 0) i0) (pY (plN W 0) i0)) (gY (ps0.a) (pX (plN W 0) i0) (pY (plN W 0) i0)) (gX (ps0.b) (pX (plN W 0) i0) (pY (plN W 0) i0)) (gY (ps0.b) (pX (plN W 0) i0) (pY (plN W 0) i0)) (ps0.s)).1).nx) (((rdCh l K (gX (ps0.a) (pX (plN W 0) i0) (pY (plN W 0) i0)) (gY (ps0.a) (pX (plN W 0) i0) (pY (plN W 0) i0)) (gX (ps0.b) (pX (plN W 0) i0) (pY (plN W 0) i0)) (gY (ps0.b) (pX (plN W 0) i0) (pY (plN W 0) i0)) (ps0.s)).1).ny)) = v_ ∧ Kept T213 w418 w_ ∧ (Vfo w_ T450 v166 (some (setV (ps0.b) (pX (plN W 0) i0) (pY (plN W 0) i0) (((rdCh l K (gX (ps0.a) (pX (plN W 0) i0) (pY (plN W 0) i0)) (gY (ps0.a) (pX (plN W 0) i0) (pY (plN W 0) i0)) (gX (ps0.b) (pX (plN W 0) i0) (pY (plN W 0) i0)) (gY (ps0.b) (pX (plN W 0) i0) (pY (plN W 0) i0)) (ps0.s)).1).nx) (((rdCh l K (gX (ps0.a) (pX (plN W 0) i0) (pY (plN W 0) i0)) (gY (ps0.a) (pX (plN W 0) i0) (pY (plN W 0) i0)) (gX (ps0.b) (pX (plN W 0) i0) (pY (plN W 0) i0)) (gY (ps0.b) (pX (plN W 0) i0) (pY (plN W 0) i0)) (ps0.s)).1).ny))) ∧ Grew w418 T213 T450)) rfl rfl (y_cs rfl rfl rfl (fun _ _ => by kernel_rfl) (ev_func _) (vsC s444 (vsC s445 (vsC s446 (vsC s447 vsN)))) (mref_vset v166 (ps0.b) (pX (plN W 0) i0) (pY (plN W 0) i0) (((rdCh l K (gX (ps0.a) (pX (plN W 0) i0) (pY (plN W 0) i0)) (gY (ps0.a) (pX (plN W 0) i0) (pY (plN W 0) i0)) (gX (ps0.b) (pX (plN W 0) i0) (pY (plN W 0) i0)) (gY (ps0.b) (pX (plN W 0) i0) (pY (plN W 0) i0)) (ps0.s)).1).nx) (((rdCh l K (gX (ps0.a) (pX (plN W 0) i0) (pY (plN W 0) i0)) (gY (ps0.a) (pX (plN W 0) i0) (pY (plN W 0) i0)) (gX (ps0.b) (pX (plN W 0) i0) (pY (plN W 0) i0)) (gY (ps0.b) (pX (plN W 0) i0) (pY (plN W 0) i0)) (ps0.s)).1).ny) T213 _  B428 ) (fun e_ w_ h_ => by obtain ⟨T450_, he_, hr_⟩ := h_; exact ⟨_, he_, T450_, rfl, hr_⟩)) ?_
     rintro _ w448 ⟨T450, rfl, k449, ⟨B451, g452⟩⟩
     have B453 := B423.all k449 ap253.symm
     have B454 := B424.all k449 (ap254.symm p1 rfl)
     have B455 := B425.all k449 (ap255.symm p10 rfl)
     have B456 := B426.all k449 ap304
     have B457 := B427.all k449 ap399
     have B458 := B429.all k449 ap256.symm
     have B459 := B430.all k449 (ap311 p276 rfl)
     have K460 := K431.trans k449 (fun i hi x => ((Grew.ok (S := fun _ => False) gr240 noB_le) i hi x))
     have gr461 := gr240.trans K431 g452
     have ap462 : Apart T450 T_b := ap253.grew g452 B423.live
     have ap463 : Apart T450 (onB p1) := ap254.grew g452 (onB_live B424.lt)
     have ap464 : Apart T450 (onB p10) := ap255.grew g452 (onB_live B425.lt)
     have ap465 : Apart T450 T289 := (ap304.symm).grew g452 B426.live
     have ap466 : Apart T450 T383 := (ap399.symm).grew g452 B427.live
     have ap467 : Apart T450 T214 := ap256.grew g452 B429.live
     refine wl_nil fun F469 hF470 => ?_
     obtain ⟨s471, s472, s473, s474, s475, s476, s477, s478, s479, s480, s481, s482⟩ := t12 hF470 3 s432 4 s433 8 s434 10 s435 11 s436 12 s437 13 s438 15 s439 115 s440 9 s441 17 s442 18 s443
     clear hF470
     refine then_normal (wq_region (wl_mv rfl rfl rfl s480 (wl_v (.agg (chW ((rdCh l K (gX (ps0.a) (pX (plN W 0) i0) (pY (plN W 0) i0)) (gY (ps0.a) (pX (plN W 0) i0) (pY (plN W 0) i0)) (gX (ps0.b) (pX (plN W 0) i0) (pY (plN W 0) i0)) (gY (ps0.b) (pX (plN W 0) i0) (pY (plN W 0) i0)) (ps0.s)).1)).toArray) rfl rfl (y_load_stc stcT_choice rfl s482 B459 rr) (wl_builtRo (r := rCh) (xs := [.tmp 108]) (vs := [.agg (chW ((rdCh l K (gX (ps0.a) (pX (plN W 0) i0) (pY (plN W 0) i0)) (gY (ps0.a) (pX (plN W 0) i0) (pY (plN W 0) i0)) (gX (ps0.b) (pX (plN W 0) i0) (pY (plN W 0) i0)) (gY (ps0.b) (pX (plN W 0) i0) (pY (plN W 0) i0)) (ps0.s)).1)).toArray]) (l := [(rdCh l K (gX (ps0.a) (pX (plN W 0) i0) (pY (plN W 0) i0)) (gY (ps0.a) (pX (plN W 0) i0) (pY (plN W 0) i0)) (gX (ps0.b) (pX (plN W 0) i0) (pY (plN W 0) i0)) (gY (ps0.b) (pX (plN W 0) i0) (pY (plN W 0) i0)) (ps0.s)).1]) rfl rfl rfl rfl rfl (vsC rfl vsN) rfl (by first | decide | exact Nat.le_of_ble_eq_true rfl) (by first | decide | exact Nat.le_of_ble_eq_true rfl) fun v483 w484 T488 B486 g487 k485 => ?_))))
     have B498 := B453.all k485 Apart.none
     have B499 := B454.all k485 id
     have B500 := B455.all k485 id
     have B501 := B456.all k485 Apart.none
     have B502 := B457.all k485 Apart.none
     have B503 := B451.all k485 Apart.none
     have B504 := B458.all k485 Apart.none
     have K506 := K460.tr k485
     refine wl_appendRo (r := rCh) rfl rfl rfl rfl rfl rfl B504 B486.roa (by first | omega | (simp; done) | (simp; omega)) fun v507 w508 T512 B510 g511 k509 => ?_
     have gr513 := Grew.trans gr241 K506 g511
     have ap514 : Apart T512 T_b := ap257.grew g511 B498.live
     have ap515 : Apart T512 (onB p1) := ap258.grew g511 (onB_live B499.lt)
     have ap516 : Apart T512 (onB p10) := ap259.grew g511 (onB_live B500.lt)
     have ap517 : Apart T512 T289 := (ap305.symm).grew g511 B501.live
     have ap518 : Apart T512 T383 := (ap400.symm).grew g511 B502.live
     have ap519 : Apart T512 T450 := (ap467.symm).grew g511 B503.live
     have B522 := B498.all k509 ap257.symm
     have B523 := B499.all k509 (ap258.symm p1 rfl)
     have B524 := B500.all k509 (ap259.symm p10 rfl)
     have B525 := B501.all k509 ap305
     have B526 := B502.all k509 ap400
     have B527 := B503.all k509 ap467
     have K530 := K506.trans k509 (Grew.ok (S := fun _ => False) gr241 noB_le)
     refine wl_v v507 rfl rfl (y_asg rfl rfl rr) (wl_nil fun F531 hF532 => ?_)
     obtain ⟨s533, s534, s535, s536, s537, s538, s539, s540, s541, s542⟩ := t10 hF532 3 s471 4 s472 8 s473 10 s474 11 s475 12 s476 13 s477 15 s478 115 s479 17 s481
     have s543 : F531 9 = v507 := (hF532 9).trans rfl
     clear hF532
     refine in_normal (then_normal (wq_region (wl_mv rfl rfl rfl s542 (wl_v (iv ((i0 + 1 : Nat) : Int)) rfl rfl (y_add rfl rfl rfl (i64_n (by omega) (by omega)) rr) (wl_v (iv ((i0 + 1 : Nat) : Int)) rfl rfl (y_asg rfl rfl rr) (wl_nil fun F544 hF545 => ?_))))))
     obtain ⟨s546, s547, s548, s549, s550, s551, s552, s553, s554, s555⟩ := t10 hF545 3 s533 4 s534 8 s535 10 s536 11 s537 12 s538 13 s539 15 s540 115 s541 9 s543
     have s556 : F544 17 = iv ((i0 + 1 : Nat) : Int) := (hF545 17).trans rfl
     clear hF545
     exact then_normal ⟨((plN W 0 * plN H 0) - (i0 + 1)), by omega, i0 + 1, stAt l K (plN W 0) i0 ps0, o0 ++ [(chAt l K (plN W 0) i0 ps0).1], v507, T289, T383, T450, T512, by omega, (run_next hrun (by omega) hc), (by rw [List.length_append, List.length_singleton]; omega), rfl, s546, s547, s548, s549, s550, s551, s552, s553, s554, s555, s556, K530, B522, B523, B524, B525, B526, B527, B510, gr299, gr394, gr461, gr513, ap300, ap301, ap302, ap398.symm, ap465.symm, ap517.symm, ap395, ap396, ap397, ap466.symm, ap518.symm, ap462, ap463, ap464, ap519.symm, ap514, ap515, ap516⟩
   ·replace c274 := of_decide_eq_false c274
    refine wq_exit (then_exit (then_exit ?_))
    have l557 : (plN W 0 * plN H 0) = i0 := by omega
    subst l557
    refine in_here (in_normal (then_normal ?_))
    have hdn := run_done hrun (by omega)
    have hpz : (plTo l K W H (0 + 1)).2.1 = 0 := by rw [hdn]
    have B558 : Rfi w216 T211 p77 l ((plTo l K W H (0 + 1)).2.2) := (by rw [hdn]; exact B234)
    have B559 : RoO rCh w216 T214 V0 ((plTo l K W H (0 + 1)).1) := (by rw [hdn]; exact B237)
    refine wq_region (wl_mv rfl rfl rfl s265 (wl_v (iv ((1 : Nat) : Int)) rfl rfl (y_add rfl rfl rfl (i64_n (by omega) (by omega)) rr) (wl_v (iv ((1 : Nat) : Int)) rfl rfl (y_asg rfl rfl rr) (wl_nil fun F560 hF561 => ?_))))
    obtain ⟨s562, s563, s564, s565, s566⟩ := t5 hF561 3 s262 4 s263 8 s264 115 s270 9 s271
    have s567 : F560 10 = iv ((1 : Nat) : Int) := (hF561 10).trans rfl
    clear hF561
    refine then_normal (wqr_step (wq_seq (wq_seq (wq_region (wl_mv rfl rfl rfl s567 (wl_v (.bool true) rfl rfl (y_lss rfl rfl rfl rfl rr) (wl_nil fun F568 hF569 => ?_)))))))
    obtain ⟨s570, s571, s572, s573, s574, s575⟩ := t6 hF569 3 s562 4 s563 8 s564 115 s565 9 s566 10 s567
    have s576 : F568 33 = .bool true := (hF569 33).trans rfl
    clear hF569
    refine then_normal ?_
    refine wq_cond (t := true) s576 (fun _ => ?_) (fun e => by cases e)
    refine wq_skip (then_normal (wq_seq (wq_block (wq_seq (wq_region (wl_v (.agg #[iv W, iv H, iv R, iv B]) rfl rfl (y_load_stc stcT_seq rfl s570 B232 rr) (wl_mv rfl rfl rfl s575 (wl_cs rfl rfl rfl rfl rfl (fun _ _ => by kernel_rfl) (vsC rfl (vsC rfl vsN)) (pcref_blocks W H R B 1  _ (by assumption)  ) fun w577 k578 => ?_))))))))
    have B579 := B231.all k578 Apart.none
    have B580 := B232.all k578 id
    have B581 := B233.all k578 id
    have B582 := B558.all k578 Apart.none
    have B583 := B235.all k578 Apart.none
    have B584 := B236.all k578 Apart.none
    have B585 := B559.all k578 Apart.none
    have K586 := K217.tr k578
    refine wl_v (.tuple #[iv ((plN W 1 : Nat) : Int), iv ((plN H 1 : Nat) : Int)]) rfl rfl (y_mov rfl rfl rr) (wl_v (iv ((plN W 1 : Nat) : Int)) rfl rfl (y_ext rfl rfl rfl rr) (wl_v (iv ((plN H 1 : Nat) : Int)) rfl rfl (y_ext rfl rfl rfl rr) (wl_v (iv ((plN W 1 : Nat) : Int)) rfl rfl (y_asg rfl rfl rr) (wl_v (iv ((plN H 1 : Nat) : Int)) rfl rfl (y_asg rfl rfl rr) (wl_nil fun F587 hF588 => ?_)))))
    obtain ⟨s589, s590, s591, s592, s593, s594⟩ := t6 hF588 3 s570 4 s571 8 s572 115 s573 9 s574 10 s575
    have s595 : F587 11 = iv ((plN W 1 : Nat) : Int) := (hF588 11).trans rfl
    have s596 : F587 12 = iv ((plN H 1 : Nat) : Int) := (hF588 12).trans rfl
    clear hF588
    refine then_normal (wq_seq ?_)
    have hw0 := plN_pos (W := W) (p := 1) hsd.1
    have hw1 := plN_le (W := W) (p := 1) hsd.2.1
    have hn1 := plN_le (W := H) (p := 1) hsd.2.2.2.2.1
    have hsk : sidesOk ((plN W 1 : Nat) : Int) ((plN H 1 : Nat) : Int) := plN_sides ⟨hsd.1, hsd.2.1⟩ ⟨hsd.2.2.2.1, hsd.2.2.2.2.1⟩
    have hwn : plN W 1 * plN H 1 ≤ 16 * 16 := Nat.mul_le_mul hw1 hn1
    refine wq_region (wl_mv rfl rfl rfl s595 (wl_mv rfl rfl rfl s596 (wl_call (R := fun v_ w_ => ∃ (v597 : Value) (T600 : Nat → Prop), .tuple #[v597, iv (newVE ((plN W 1 : Nat) : Int) ((plN H 1 : Nat) : Int))] = v_ ∧ Kept (fun _ => False) w577 w_ ∧ (Vfo w_ T600 v597 (optV ((plN W 1 : Nat) : Int) ((plN H 1 : Nat) : Int)) ∧ Grew w577 noB T600)) rfl rfl (y_cs rfl rfl rfl (fun _ _ => by kernel_rfl) (ev_func _) (vsC rfl (vsC rfl vsN)) (mref_vnew ((plN W 1 : Nat) : Int) ((plN H 1 : Nat) : Int)  _   ) (fun e_ w_ h_ => by obtain ⟨v597_, T600_, he_, hr_⟩ := h_; exact ⟨_, he_, v597_, T600_, rfl, hr_⟩)) ?_)))
    rintro _ w598 ⟨v597, T600, rfl, k599, ⟨B601, g602⟩⟩
    have B603 := B579.all k599 Apart.none
    have B604 := B580.all k599 id
    have B605 := B581.all k599 id
    have B606 := B582.all k599 Apart.none
    have B607 := B583.all k599 Apart.none
    have B608 := B584.all k599 Apart.none
    have B609 := B585.all k599 Apart.none
    have K610 := K586.tr k599
    have gr611 : Grew w0 noB T600 := Grew.new K586 g602
    have ap612 : Apart T600 T_b := Apart.new g602 B579.live
    have ap613 : Apart T600 (onB p1) := Apart.new g602 (onB_live B580.lt)
    have ap614 : Apart T600 (onB p10) := Apart.new g602 (onB_live B581.lt)
    have ap615 : Apart T600 T211 := Apart.new g602 B582.live
    have ap616 : Apart T600 T212 := Apart.new g602 B583.live
    have ap617 : Apart T600 T213 := Apart.new g602 B584.live
    have ap618 : Apart T600 T214 := Apart.new g602 B585.live
    refine wl_v (.tuple #[v597, iv (newVE ((plN W 1 : Nat) : Int) ((plN H 1 : Nat) : Int))]) rfl rfl (y_mov rfl rfl rr) (wl_v v597 rfl rfl (y_ext rfl rfl rfl rr) (wl_v (iv (newVE ((plN W 1 : Nat) : Int) ((plN H 1 : Nat) : Int))) rfl rfl (y_ext rfl rfl rfl rr) (wl_v v597 rfl rfl (y_asg rfl rfl rr) (wl_v (iv (newVE ((plN W 1 : Nat) : Int) ((plN H 1 : Nat) : Int))) rfl rfl (y_asg rfl rfl rr) (wl_nil fun F619 hF620 => ?_)))))
    obtain ⟨s621, s622, s623, s624, s625, s626, s627, s628⟩ := t8 hF620 3 s589 4 s590 8 s591 115 s592 9 s593 10 s594 11 s595 12 s596
    have s629 : F619 13 = v597 := (hF620 13).trans rfl
    clear hF620
    refine then_normal (wq_seq (wq_region (wl_mv rfl rfl rfl s627 (wl_mv rfl rfl rfl s628 (wl_call (R := fun v_ w_ => ∃ (v630 : Value) (T633 : Nat → Prop), .tuple #[v630, iv (newVE ((plN W 1 : Nat) : Int) ((plN H 1 : Nat) : Int))] = v_ ∧ Kept (fun _ => False) w598 w_ ∧ (Vfo w_ T633 v630 (optV ((plN W 1 : Nat) : Int) ((plN H 1 : Nat) : Int)) ∧ Grew w598 noB T633)) rfl rfl (y_cs rfl rfl rfl (fun _ _ => by kernel_rfl) (ev_func _) (vsC rfl (vsC rfl vsN)) (mref_vnew ((plN W 1 : Nat) : Int) ((plN H 1 : Nat) : Int)  _   ) (fun e_ w_ h_ => by obtain ⟨v630_, T633_, he_, hr_⟩ := h_; exact ⟨_, he_, v630_, T633_, rfl, hr_⟩)) ?_)))))
    rintro _ w631 ⟨v630, T633, rfl, k632, ⟨B634, g635⟩⟩
    have B636 := B603.all k632 Apart.none
    have B637 := B604.all k632 id
    have B638 := B605.all k632 id
    have B639 := B606.all k632 Apart.none
    have B640 := B607.all k632 Apart.none
    have B641 := B608.all k632 Apart.none
    have B642 := B609.all k632 Apart.none
    have B643 := B601.all k632 Apart.none
    have K644 := K610.tr k632
    have gr645 : Grew w0 noB T633 := Grew.new K610 g635
    have ap646 : Apart T633 T_b := Apart.new g635 B603.live
    have ap647 : Apart T633 (onB p1) := Apart.new g635 (onB_live B604.lt)
    have ap648 : Apart T633 (onB p10) := Apart.new g635 (onB_live B605.lt)
    have ap649 : Apart T633 T211 := Apart.new g635 B606.live
    have ap650 : Apart T633 T212 := Apart.new g635 B607.live
    have ap651 : Apart T633 T213 := Apart.new g635 B608.live
    have ap652 : Apart T633 T214 := Apart.new g635 B609.live
    have ap653 : Apart T633 T600 := Apart.new g635 B601.live
    refine wl_v (.tuple #[v630, iv (newVE ((plN W 1 : Nat) : Int) ((plN H 1 : Nat) : Int))]) rfl rfl (y_mov rfl rfl rr) (wl_v v630 rfl rfl (y_ext rfl rfl rfl rr) (wl_v (iv (newVE ((plN W 1 : Nat) : Int) ((plN H 1 : Nat) : Int))) rfl rfl (y_ext rfl rfl rfl rr) (wl_v v630 rfl rfl (y_asg rfl rfl rr) (wl_v (iv (newVE ((plN W 1 : Nat) : Int) ((plN H 1 : Nat) : Int))) rfl rfl (y_asg rfl rfl rr) (wl_nil fun F654 hF655 => ?_)))))
    obtain ⟨s656, s657, s658, s659, s660, s661, s662, s663, s664⟩ := t9 hF655 3 s621 4 s622 8 s623 115 s624 9 s625 10 s626 11 s627 12 s628 13 s629
    have s665 : F654 15 = v630 := (hF655 15).trans rfl
    clear hF655
    refine then_normal (wq_seq ?_)
    have hofn := hof 1 (by decide)
    have hpl : (plTo l K W H 1).2.1 = 0 := by first | exact hpz | rfl
    have B666 : Vfo w631 T600 v597 (some (newV ((plN W 1 : Nat) : Int) ((plN H 1 : Nat) : Int))) := (by rw [← optV_yes hsk]; exact B643)
    have B667 : Vfo w631 T633 v630 (some (newV ((plN W 1 : Nat) : Int) ((plN H 1 : Nat) : Int))) := (by rw [← optV_yes hsk]; exact B634)
    refine wq_region (wl_v (iv 0) rfl rfl (y_asg rfl rfl rr) (wl_nil fun F668 hF669 => ?_))
    obtain ⟨s670, s671, s672, s673, s674, s675, s676, s677, s678, s679⟩ := t10 hF669 3 s656 4 s657 8 s658 115 s659 9 s660 10 s661 11 s662 12 s663 13 s664 15 s665
    have s680 : F668 17 = iv 0 := (hF669 17).trans rfl
    clear hF669
    refine then_normal (wq_block (wq_loop (fun nn FF ww => ∃ (i1 : Nat), ∃ (ps1 : PSt), ∃ (o1 : List Ch), ∃ (V1 : Value), ∃ (T681 : Nat → Prop), ∃ (T682 : Nat → Prop), ∃ (T683 : Nat → Prop), ∃ (T684 : Nat → Prop), (i1 ≤ (plN W 1 * plN H 1)) ∧ (runP l K (plN W 1) (plN W 1 * plN H 1 - i1) i1 ps1 o1 = plTo l K W H (1 + 1)) ∧ (o1.length = plOff W H 1 + i1) ∧ nn = (plN W 1 * plN H 1) - i1 ∧ FF 3 = pt p1 0 ∧ FF 4 = pt p10 0 ∧ FF 8 = pt p77 0 ∧ FF 10 = iv ((1 : Nat) : Int) ∧ FF 11 = iv ((plN W 1 : Nat) : Int) ∧ FF 12 = iv ((plN H 1 : Nat) : Int) ∧ FF 13 = v597 ∧ FF 15 = v630 ∧ FF 115 = undef ∧ FF 9 = V1 ∧ FF 17 = iv ((i1 : Nat) : Int) ∧ Kept (fun _ => False) w0 ww ∧ Byt ww T_b v l ∧ Stc ww p1 23 [iv W, iv H, iv R, iv B] ∧ Stc ww p10 25 [iv K, iv Q, iv D, iv F] ∧ Rfi ww T681 p77 l (ps1.s) ∧ Vfo ww T212 v139 (some ps0.a) ∧ Vfo ww T213 v166 (some ps0.b) ∧ Vfo ww T682 v597 (some ps1.a) ∧ Vfo ww T683 v630 (some ps1.b) ∧ RoO rCh ww T684 V1 o1 ∧ Grew w0 noB T681 ∧ Grew w0 noB T682 ∧ Grew w0 noB T683 ∧ Grew w0 noB T684 ∧ Apart T681 T_b ∧ Apart T681 (onB p1) ∧ Apart T681 (onB p10) ∧ Apart T681 T212 ∧ Apart T681 T213 ∧ Apart T681 T682 ∧ Apart T681 T683 ∧ Apart T681 T684 ∧ Apart T682 T_b ∧ Apart T682 (onB p1) ∧ Apart T682 (onB p10) ∧ Apart T682 T212 ∧ Apart T682 T213 ∧ Apart T682 T683 ∧ Apart T682 T684 ∧ Apart T683 T_b ∧ Apart T683 (onB p1) ∧ Apart T683 (onB p10) ∧ Apart T683 T212 ∧ Apart T683 T213 ∧ Apart T683 T684 ∧ Apart T684 T_b ∧ Apart T684 (onB p1) ∧ Apart T684 (onB p10) ∧ Apart T684 T212 ∧ Apart T684 T213) ((plN W 1 * plN H 1) - 0) ⟨0, PSt.mk (newV ((plN W 1 : Nat) : Int) ((plN H 1 : Nat) : Int)) (newV ((plN W 1 : Nat) : Int) ((plN H 1 : Nat) : Int)) (plTo l K W H 1).2.2, (plTo l K W H 1).1, V0, T211, T600, T633, T214, by omega, ((plTo_yes hpl).symm), (plTo_len 1 hpl), rfl, s670, s671, s672, s675, s676, s677, s678, s679, s673, s674, s680, K644, B636, B637, B638, B639, B640, B641, B666, B667, B642, gr238, gr611, gr645, gr241, ap242, ap243, ap244, ap245, ap246, ap615.symm, ap649.symm, ap247, ap612, ap613, ap614, ap616, ap617, ap653.symm, ap618, ap646, ap647, ap648, ap650, ap651, ap652, ap257, ap258, ap259, ap252.symm, ap256.symm⟩ ?_))
    rintro n688 F685 w686 ⟨i1, ps1, o1, V1, T681, T682, T683, T684, i689, hrun, hlo, hn688, s690, s691, s692, s693, s694, s695, s696, s697, s698, s699, s700, K687, B701, B702, B703, B704, B705, B706, B707, B708, B709, gr710, gr711, gr712, gr713, ap714, ap715, ap716, ap717, ap718, ap719, ap720, ap721, ap722, ap723, ap724, ap725, ap726, ap727, ap728, ap729, ap730, ap731, ap732, ap733, ap734, ap735, ap736, ap737, ap738, ap739⟩
    refine wq_seq (wq_seq (wq_region (wl_mv rfl rfl rfl s700 (wl_mv rfl rfl rfl s694 (wl_mv rfl rfl rfl s695 (wl_v (iv ((plN W 1 * plN H 1 : Nat) : Int)) rfl rfl (y_mul rfl rfl rfl (i64_n (by rw [Int.natCast_mul]) (by omega)) rr) (wl_v (.bool (decide (((i1 : Nat) : Int) < ((plN W 1 * plN H 1 : Nat) : Int)))) rfl rfl (y_lss rfl rfl rfl rfl rr) (wl_nil fun F740 hF741 => ?_))))))))
    obtain ⟨s742, s743, s744, s745, s746, s747, s748, s749, s750, s751, s752⟩ := t11 hF741 3 s690 4 s691 8 s692 10 s693 11 s694 12 s695 13 s696 15 s697 115 s698 9 s699 17 s700
    have s753 : F740 58 = .bool (decide (((i1 : Nat) : Int) < ((plN W 1 * plN H 1 : Nat) : Int))) := (hF741 58).trans rfl
    clear hF741
    refine then_normal ?_
    refine wq_cond s753 (fun c754 => ?_) (fun c754 => ?_)
    ·replace c754 := of_decide_eq_true c754
     refine wq_skip (then_normal (wq_seq (wq_block (wq_seq ?_))))
     have hdv := Nat.div_le_self i1 (plN W 1)
     refine wq_cas (γ := (Nat → Prop)) [(20, 19), (21, 19), (22, 19), (24, 19), (25, 19), (24, 23), (25, 23)] [some 62, some 63, some 64, some 65, some 66, some 67, some 68, some 69, some 70, some 71, some 72, some 73, some 74, some 75, some 76, some 77, some 78, some 79, some 80, some 81, some 61, some 82, some 83, some 18, none, some 19] ⟨fun w_ => Rfi w_ T681 p77 l (ps1.s), T681, fun g_ w_ => (Rfi w_ g_ p77 l ((rdCh l K (gX (ps1.a) (pX (plN W 1) i1) (pY (plN W 1) i1)) (gY (ps1.a) (pX (plN W 1) i1) (pY (plN W 1) i1)) (gX (ps1.b) (pX (plN W 1) i1) (pY (plN W 1) i1)) (gY (ps1.b) (pX (plN W 1) i1) (pY (plN W 1) i1)) (ps1.s)).2.2) ∧ Grew w686 T681 g_), fun g_ => g_, fun p_ w_ => Stc w_ p_ 71 (chL 0 0 0 0 0 (fun _ => (0 : Int))), fun g_ p_ w_ => Stc w_ p_ 71 (chW ((rdCh l K (gX (ps1.a) (pX (plN W 1) i1) (pY (plN W 1) i1)) (gY (ps1.a) (pX (plN W 1) i1) (pY (plN W 1) i1)) (gX (ps1.b) (pX (plN W 1) i1) (pY (plN W 1) i1)) (gY (ps1.b) (pX (plN W 1) i1) (pY (plN W 1) i1)) (ps1.s)).1))⟩ T681 (fun p_ => w686.heap.size ≤ p_) [fun g_ => pt p77 0, fun g_ => pt p10 0, fun g_ => iv K, fun g_ => v597, fun g_ => iv ((i1 : Nat) : Int), fun g_ => iv ((plN W 1 : Nat) : Int), fun g_ => iv (pX (plN W 1) i1), fun g_ => iv ((i1 : Nat) : Int), fun g_ => iv ((plN W 1 : Nat) : Int), fun g_ => iv (pY (plN W 1) i1), fun g_ => .agg #[iv (gX (ps1.a) (pX (plN W 1) i1) (pY (plN W 1) i1)), iv (gY (ps1.a) (pX (plN W 1) i1) (pY (plN W 1) i1))], fun g_ => v630, fun g_ => iv ((i1 : Nat) : Int), fun g_ => iv ((plN W 1 : Nat) : Int), fun g_ => iv (pX (plN W 1) i1), fun g_ => iv ((i1 : Nat) : Int), fun g_ => iv ((plN W 1 : Nat) : Int), fun g_ => iv (pY (plN W 1) i1), fun g_ => .agg #[iv (gX (ps1.b) (pX (plN W 1) i1) (pY (plN W 1) i1)), iv (gY (ps1.b) (pX (plN W 1) i1) (pY (plN W 1) i1))], fun g_ => .tuple #[.agg (chW ((rdCh l K (gX (ps1.a) (pX (plN W 1) i1) (pY (plN W 1) i1)) (gY (ps1.a) (pX (plN W 1) i1) (pY (plN W 1) i1)) (gX (ps1.b) (pX (plN W 1) i1) (pY (plN W 1) i1)) (gY (ps1.b) (pX (plN W 1) i1) (pY (plN W 1) i1)) (ps1.s)).1)).toArray, iv ((rdCh l K (gX (ps1.a) (pX (plN W 1) i1) (pY (plN W 1) i1)) (gY (ps1.a) (pX (plN W 1) i1) (pY (plN W 1) i1)) (gX (ps1.b) (pX (plN W 1) i1) (pY (plN W 1) i1)) (gY (ps1.b) (pX (plN W 1) i1) (pY (plN W 1) i1)) (ps1.s)).2.1)], fun g_ => .tuple #[.agg (chW ((rdCh l K (gX (ps1.a) (pX (plN W 1) i1) (pY (plN W 1) i1)) (gY (ps1.a) (pX (plN W 1) i1) (pY (plN W 1) i1)) (gX (ps1.b) (pX (plN W 1) i1) (pY (plN W 1) i1)) (gY (ps1.b) (pX (plN W 1) i1) (pY (plN W 1) i1)) (ps1.s)).1)).toArray, iv ((rdCh l K (gX (ps1.a) (pX (plN W 1) i1) (pY (plN W 1) i1)) (gY (ps1.a) (pX (plN W 1) i1) (pY (plN W 1) i1)) (gX (ps1.b) (pX (plN W 1) i1) (pY (plN W 1) i1)) (gY (ps1.b) (pX (plN W 1) i1) (pY (plN W 1) i1)) (ps1.s)).2.1)], fun g_ => .agg (chW ((rdCh l K (gX (ps1.a) (pX (plN W 1) i1) (pY (plN W 1) i1)) (gY (ps1.a) (pX (plN W 1) i1) (pY (plN W 1) i1)) (gX (ps1.b) (pX (plN W 1) i1) (pY (plN W 1) i1)) (gY (ps1.b) (pX (plN W 1) i1) (pY (plN W 1) i1)) (ps1.s)).1)).toArray, fun g_ => iv ((rdCh l K (gX (ps1.a) (pX (plN W 1) i1) (pY (plN W 1) i1)) (gY (ps1.a) (pX (plN W 1) i1) (pY (plN W 1) i1)) (gX (ps1.b) (pX (plN W 1) i1) (pY (plN W 1) i1)) (gY (ps1.b) (pX (plN W 1) i1) (pY (plN W 1) i1)) (ps1.s)).2.1), fun _ => undef, fun _ => undef, fun g_ => iv ((rdCh l K (gX (ps1.a) (pX (plN W 1) i1) (pY (plN W 1) i1)) (gY (ps1.a) (pX (plN W 1) i1) (pY (plN W 1) i1)) (gX (ps1.b) (pX (plN W 1) i1) (pY (plN W 1) i1)) (gY (ps1.b) (pX (plN W 1) i1) (pY (plN W 1) i1)) (ps1.s)).2.1)] 19 24 (some 23) noB 0 (by kernel_rfl) (by kernel_rfl) (by kernel_rfl) (by kernel_rfl) ⟨.inr (.inr fun _ _ => rfl), ⟨.inr (.inr fun _ _ => rfl), ⟨.inr (.inr fun _ _ => rfl), ⟨.inr (.inr fun _ _ => rfl), ⟨.inr (.inr fun _ _ => rfl), ⟨.inr (.inr fun _ _ => rfl), ⟨.inr (.inr fun _ _ => rfl), ⟨.inr (.inr fun _ _ => rfl), ⟨.inr (.inr fun _ _ => rfl), ⟨.inr (.inr fun _ _ => rfl), ⟨.inr (.inr fun _ _ => rfl), ⟨.inr (.inr fun _ _ => rfl), ⟨.inr (.inr fun _ _ => rfl), ⟨.inr (.inr fun _ _ => rfl), ⟨.inr (.inr fun _ _ => rfl), ⟨.inr (.inr fun _ _ => rfl), ⟨.inr (.inr fun _ _ => rfl), ⟨.inr (.inr fun _ _ => rfl), ⟨.inr (.inr fun _ _ => rfl), ⟨.inr (.inl rfl), ⟨.inl rfl, ⟨.inl rfl, ⟨.inl rfl, ⟨.inr (.inr fun _ _ => rfl), ⟨.inl rfl, ⟨.inl rfl, trivial⟩⟩⟩⟩⟩⟩⟩⟩⟩⟩⟩⟩⟩⟩⟩⟩⟩⟩⟩⟩⟩⟩⟩⟩⟩⟩ ⟨B704, fun w w1 S1 h k a => h.all k (fun i z => a i z), fun w h i z => h.live i z, fun g w w1 S1 h k a => by obtain ⟨b0_, g0_⟩ := h; exact ⟨b0_.all k (fun i z => a i z), g0_⟩, fun g w h i z => by obtain ⟨b0_, g0_⟩ := h; exact b0_.live i z, fun _ _ _ _ h k z => h.all k z, fun _ _ h => h.lt, fun _ _ _ _ _ h k z => h.all k z, fun _ z => z, fun _ h => .inr h, fun p h z => absurd h (Nat.not_le.2 (B704.live p z))⟩ (fun _ _ _ h => h) (fun e => by cases e) ?_ ?_
     ·refine stepsFX_cons ?_ ?_
      ·refine StepFX.one rfl rfl rfl rfl fun g_ p_ F_ w_ hR hout hD => ?_
       exact (y_mov rfl ((hout 8 rfl (by decide)).trans s744) ⟨rfl, Kept.refl _ _⟩)
      refine stepsFX_cons ?_ ?_
      ·refine StepFX.one rfl rfl rfl rfl fun g_ p_ F_ w_ hR hout hD => ?_
       exact (y_fieldR (n := 1) rfl ((hout 4 rfl (by decide)).trans s743) Tryz.underlying25 rfl (by kernel_rfl) (by decide) rfl ⟨rfl, Kept.refl _ _⟩)
      refine stepsFX_cons ?_ ?_
      ·refine StepFX.one rfl rfl rfl rfl fun g_ p_ F_ w_ hR hout hD => ?_
       have g63 : F_ 63 = pt p10 0 := (hD.get 0 rfl rfl rfl).2 (by decide)
       exact (y_ld_stc rfl g63 Tryz.underlying3 (B703.all hR (ap716.symm p10 rfl)) rfl rfl ⟨rfl, Kept.refl _ _⟩)
      refine stepsFX_cons ?_ ?_
      ·refine StepFX.one rfl rfl rfl rfl fun g_ p_ F_ w_ hR hout hD => ?_
       exact (y_mov rfl ((hout 13 rfl (by decide)).trans s748) ⟨rfl, Kept.refl _ _⟩)
      refine stepsFX_cons ?_ ?_
      ·refine StepFX.one rfl rfl rfl rfl fun g_ p_ F_ w_ hR hout hD => ?_
       exact (y_mov rfl ((hout 17 rfl (by decide)).trans s752) ⟨rfl, Kept.refl _ _⟩)
      refine stepsFX_cons ?_ ?_
      ·refine StepFX.one rfl rfl rfl rfl fun g_ p_ F_ w_ hR hout hD => ?_
       exact (y_mov rfl ((hout 11 rfl (by decide)).trans s746) ⟨rfl, Kept.refl _ _⟩)
      refine stepsFX_cons ?_ ?_
      ·refine StepFX.one rfl rfl rfl rfl fun g_ p_ F_ w_ hR hout hD => ?_
       have g66 : F_ 66 = iv ((i1 : Nat) : Int) := (hD.get 0 rfl rfl rfl).2 (by decide)
       have g67 : F_ 67 = iv ((plN W 1 : Nat) : Int) := (hD.get 1 rfl rfl rfl).2 (by decide)
       exact (y_rem rfl g66 g67 (by first | decide | omega) (rem_nat i1 (plN W 1)) ⟨rfl, Kept.refl _ _⟩)
      refine stepsFX_cons ?_ ?_
      ·refine StepFX.one rfl rfl rfl rfl fun g_ p_ F_ w_ hR hout hD => ?_
       exact (y_mov rfl ((hout 17 rfl (by decide)).trans s752) ⟨rfl, Kept.refl _ _⟩)
      refine stepsFX_cons ?_ ?_
      ·refine StepFX.one rfl rfl rfl rfl fun g_ p_ F_ w_ hR hout hD => ?_
       exact (y_mov rfl ((hout 11 rfl (by decide)).trans s746) ⟨rfl, Kept.refl _ _⟩)
      refine stepsFX_cons ?_ ?_
      ·refine StepFX.one rfl rfl rfl rfl fun g_ p_ F_ w_ hR hout hD => ?_
       have g69 : F_ 69 = iv ((i1 : Nat) : Int) := (hD.get 0 rfl rfl rfl).2 (by decide)
       have g70 : F_ 70 = iv ((plN W 1 : Nat) : Int) := (hD.get 1 rfl rfl rfl).2 (by decide)
       exact (y_quo rfl g69 g70 (by first | decide | omega) (i64_n (quo_nat i1 (plN W 1)) (by omega)) ⟨rfl, Kept.refl _ _⟩)
      refine stepsFX_cons ?_ ?_
      ·refine StepFX.one rfl rfl rfl rfl fun g_ p_ F_ w_ hR hout hD => ?_
       have g65 : F_ 65 = v597 := (hD.get 0 rfl rfl rfl).2 (by decide)
       have g68 : F_ 68 = iv (pX (plN W 1) i1) := (hD.get 1 rfl rfl rfl).2 (by decide)
       have g71 : F_ 71 = iv (pY (plN W 1) i1) := (hD.get 2 rfl rfl rfl).2 (by decide)
       exact (y_cs rfl rfl rfl (fun _ _ => by kernel_rfl) (ev_func _) (vsC g65 (vsC g68 (vsC g71 vsN))) (mref_vguess v597 (ps1.a) (pX (plN W 1) i1) (pY (plN W 1) i1) T682 _  (B707.all hR ap719.symm) ) (fun e_ w_ h_ => ⟨_, h_.1, rfl, h_.2⟩))
      refine stepsFX_cons ?_ ?_
      ·refine StepFX.one rfl rfl rfl rfl fun g_ p_ F_ w_ hR hout hD => ?_
       exact (y_mov rfl ((hout 15 rfl (by decide)).trans s749) ⟨rfl, Kept.refl _ _⟩)
      refine stepsFX_cons ?_ ?_
      ·refine StepFX.one rfl rfl rfl rfl fun g_ p_ F_ w_ hR hout hD => ?_
       exact (y_mov rfl ((hout 17 rfl (by decide)).trans s752) ⟨rfl, Kept.refl _ _⟩)
      refine stepsFX_cons ?_ ?_
      ·refine StepFX.one rfl rfl rfl rfl fun g_ p_ F_ w_ hR hout hD => ?_
       exact (y_mov rfl ((hout 11 rfl (by decide)).trans s746) ⟨rfl, Kept.refl _ _⟩)
      refine stepsFX_cons ?_ ?_
      ·refine StepFX.one rfl rfl rfl rfl fun g_ p_ F_ w_ hR hout hD => ?_
       have g74 : F_ 74 = iv ((i1 : Nat) : Int) := (hD.get 0 rfl rfl rfl).2 (by decide)
       have g75 : F_ 75 = iv ((plN W 1 : Nat) : Int) := (hD.get 1 rfl rfl rfl).2 (by decide)
       exact (y_rem rfl g74 g75 (by first | decide | omega) (rem_nat i1 (plN W 1)) ⟨rfl, Kept.refl _ _⟩)
      refine stepsFX_cons ?_ ?_
      ·refine StepFX.one rfl rfl rfl rfl fun g_ p_ F_ w_ hR hout hD => ?_
       exact (y_mov rfl ((hout 17 rfl (by decide)).trans s752) ⟨rfl, Kept.refl _ _⟩)
      refine stepsFX_cons ?_ ?_
      ·refine StepFX.one rfl rfl rfl rfl fun g_ p_ F_ w_ hR hout hD => ?_
       exact (y_mov rfl ((hout 11 rfl (by decide)).trans s746) ⟨rfl, Kept.refl _ _⟩)
      refine stepsFX_cons ?_ ?_
      ·refine StepFX.one rfl rfl rfl rfl fun g_ p_ F_ w_ hR hout hD => ?_
       have g77 : F_ 77 = iv ((i1 : Nat) : Int) := (hD.get 0 rfl rfl rfl).2 (by decide)
       have g78 : F_ 78 = iv ((plN W 1 : Nat) : Int) := (hD.get 1 rfl rfl rfl).2 (by decide)
       exact (y_quo rfl g77 g78 (by first | decide | omega) (i64_n (quo_nat i1 (plN W 1)) (by omega)) ⟨rfl, Kept.refl _ _⟩)
      refine stepsFX_cons ?_ ?_
      ·refine StepFX.one rfl rfl rfl rfl fun g_ p_ F_ w_ hR hout hD => ?_
       have g73 : F_ 73 = v630 := (hD.get 0 rfl rfl rfl).2 (by decide)
       have g76 : F_ 76 = iv (pX (plN W 1) i1) := (hD.get 1 rfl rfl rfl).2 (by decide)
       have g79 : F_ 79 = iv (pY (plN W 1) i1) := (hD.get 2 rfl rfl rfl).2 (by decide)
       exact (y_cs rfl rfl rfl (fun _ _ => by kernel_rfl) (ev_func _) (vsC g73 (vsC g76 (vsC g79 vsN))) (mref_vguess v630 (ps1.b) (pX (plN W 1) i1) (pY (plN W 1) i1) T683 _  (B708.all hR ap720.symm) ) (fun e_ w_ h_ => ⟨_, h_.1, rfl, h_.2⟩))
      refine stepsFX_cons ?_ ?_
      ·refine StepFX.call rfl rfl rfl rfl fun g_ p_ F_ w_ hR hout hD hP_ => ?_
       have g62 : F_ 62 = pt p77 0 := (hD.get 0 rfl rfl rfl).2 (by decide)
       have g64 : F_ 64 = iv K := (hD.get 1 rfl rfl rfl).2 (by decide)
       have g72 : F_ 72 = .agg #[iv (gX (ps1.a) (pX (plN W 1) i1) (pY (plN W 1) i1)), iv (gY (ps1.a) (pX (plN W 1) i1) (pY (plN W 1) i1))] := (hD.get 2 rfl rfl rfl).2 (by decide)
       have g80 : F_ 80 = .agg #[iv (gX (ps1.b) (pX (plN W 1) i1) (pY (plN W 1) i1)), iv (gY (ps1.b) (pX (plN W 1) i1) (pY (plN W 1) i1))] := (hD.get 3 rfl rfl rfl).2 (by decide)
       exact (y_cs rfl rfl rfl (fun _ _ => by kernel_rfl) (ev_func _) (vsC g62 (vsC g64 (vsC g72 (vsC g80 vsN)))) (bref_read p77 l (ps1.s) K (gX (ps1.a) (pX (plN W 1) i1) (pY (plN W 1) i1)) (gY (ps1.a) (pX (plN W 1) i1) (pY (plN W 1) i1)) (gX (ps1.b) (pX (plN W 1) i1) (pY (plN W 1) i1)) (gY (ps1.b) (pX (plN W 1) i1) (pY (plN W 1) i1)) T681 _  hP_ ) (fun e_ w_ h_ => by obtain ⟨x0_, he_, hk_, ⟨b0_, g0_⟩⟩ := h_; exact ⟨_, he_, x0_, rfl, hk_, ⟨b0_, (Grew.refl w686 _).trans hR g0_⟩, fun b hb => (g0_ b hb).elim (fun z => .inl z) .inr⟩))
      refine stepsFX_cons ?_ ?_
      ·refine StepFX.one rfl rfl rfl rfl fun g_ p_ F_ w_ hR hout hD => ?_
       have g81 : F_ 81 = .tuple #[.agg (chW ((rdCh l K (gX (ps1.a) (pX (plN W 1) i1) (pY (plN W 1) i1)) (gY (ps1.a) (pX (plN W 1) i1) (pY (plN W 1) i1)) (gX (ps1.b) (pX (plN W 1) i1) (pY (plN W 1) i1)) (gY (ps1.b) (pX (plN W 1) i1) (pY (plN W 1) i1)) (ps1.s)).1)).toArray, iv ((rdCh l K (gX (ps1.a) (pX (plN W 1) i1) (pY (plN W 1) i1)) (gY (ps1.a) (pX (plN W 1) i1) (pY (plN W 1) i1)) (gX (ps1.b) (pX (plN W 1) i1) (pY (plN W 1) i1)) (gY (ps1.b) (pX (plN W 1) i1) (pY (plN W 1) i1)) (ps1.s)).2.1)] := (hD.get 0 rfl rfl rfl).2 (by decide)
       exact (y_mov rfl g81 ⟨rfl, Kept.refl _ _⟩)
      refine stepsFX_cons ?_ ?_
      ·refine StepFX.one rfl rfl rfl rfl fun g_ p_ F_ w_ hR hout hD => ?_
       have g61 : F_ 61 = .tuple #[.agg (chW ((rdCh l K (gX (ps1.a) (pX (plN W 1) i1) (pY (plN W 1) i1)) (gY (ps1.a) (pX (plN W 1) i1) (pY (plN W 1) i1)) (gX (ps1.b) (pX (plN W 1) i1) (pY (plN W 1) i1)) (gY (ps1.b) (pX (plN W 1) i1) (pY (plN W 1) i1)) (ps1.s)).1)).toArray, iv ((rdCh l K (gX (ps1.a) (pX (plN W 1) i1) (pY (plN W 1) i1)) (gY (ps1.a) (pX (plN W 1) i1) (pY (plN W 1) i1)) (gX (ps1.b) (pX (plN W 1) i1) (pY (plN W 1) i1)) (gY (ps1.b) (pX (plN W 1) i1) (pY (plN W 1) i1)) (ps1.s)).2.1)] := (hD.get 0 rfl rfl rfl).2 (by decide)
       exact (y_ext rfl g61 rfl ⟨rfl, Kept.refl _ _⟩)
      refine stepsFX_cons ?_ ?_
      ·refine StepFX.one rfl rfl rfl rfl fun g_ p_ F_ w_ hR hout hD => ?_
       have g61 : F_ 61 = .tuple #[.agg (chW ((rdCh l K (gX (ps1.a) (pX (plN W 1) i1) (pY (plN W 1) i1)) (gY (ps1.a) (pX (plN W 1) i1) (pY (plN W 1) i1)) (gX (ps1.b) (pX (plN W 1) i1) (pY (plN W 1) i1)) (gY (ps1.b) (pX (plN W 1) i1) (pY (plN W 1) i1)) (ps1.s)).1)).toArray, iv ((rdCh l K (gX (ps1.a) (pX (plN W 1) i1) (pY (plN W 1) i1)) (gY (ps1.a) (pX (plN W 1) i1) (pY (plN W 1) i1)) (gX (ps1.b) (pX (plN W 1) i1) (pY (plN W 1) i1)) (gY (ps1.b) (pX (plN W 1) i1) (pY (plN W 1) i1)) (ps1.s)).2.1)] := (hD.get 0 rfl rfl rfl).2 (by decide)
       exact (y_ext rfl g61 rfl ⟨rfl, Kept.refl _ _⟩)
      refine stepsFX_cons ?_ ?_
      ·refine StepFX.alloc rfl rfl rfl rfl fun F_ w_ hR => ?_
       exact y_alloc_stc (n := 21) (vs := (chL 0 0 0 0 0 (fun _ => (0 : Int)))) rfl (by kernel_rfl) ⟨_, rfl, Nat.le_refl _, heap_alloc_new _ _, (Kept.refl _ _).alloc _⟩
      refine stepsFX_cons ?_ ?_
      ·refine StepFX.store rfl rfl rfl rfl fun g_ p_ F_ w_ hR hout hD hO_ hZ_ hQ_ => ?_
       have g18 : F_ 18 = pt p_ 0 := (hD.get 0 rfl rfl rfl).1 rfl
       have g82 : F_ 82 = .agg (chW ((rdCh l K (gX (ps1.a) (pX (plN W 1) i1) (pY (plN W 1) i1)) (gY (ps1.a) (pX (plN W 1) i1) (pY (plN W 1) i1)) (gX (ps1.b) (pX (plN W 1) i1) (pY (plN W 1) i1)) (gY (ps1.b) (pX (plN W 1) i1) (pY (plN W 1) i1)) (ps1.s)).1)).toArray := (hD.get 1 rfl rfl rfl).2 (by decide)
       exact y_storeStc (us := (chW ((rdCh l K (gX (ps1.a) (pX (plN W 1) i1) (pY (plN W 1) i1)) (gY (ps1.a) (pX (plN W 1) i1) (pY (plN W 1) i1)) (gX (ps1.b) (pX (plN W 1) i1) (pY (plN W 1) i1)) (gY (ps1.b) (pX (plN W 1) i1) (pY (plN W 1) i1)) (ps1.s)).1))) stcT_choice rfl g18 g82 hZ_ rfl (oneI rfl (oneI rfl (oneI rfl (oneI rfl (oneI rfl (oneI rfl (oneI rfl (oneI rfl (oneI rfl (oneI rfl (oneI rfl (oneI rfl (oneI rfl (oneI rfl (oneI rfl (oneI rfl (oneI rfl (oneI rfl (oneI rfl (oneI rfl (oneI rfl oneN))))))))))))))))))))) fun w2_ b_ k_ => ⟨rfl, k_, b_⟩
      refine stepsFX_cons ?_ ?_
      ·refine StepFX.one rfl rfl rfl rfl fun g_ p_ F_ w_ hR hout hD => ?_
       have g83 : F_ 83 = iv ((rdCh l K (gX (ps1.a) (pX (plN W 1) i1) (pY (plN W 1) i1)) (gY (ps1.a) (pX (plN W 1) i1) (pY (plN W 1) i1)) (gX (ps1.b) (pX (plN W 1) i1) (pY (plN W 1) i1)) (gY (ps1.b) (pX (plN W 1) i1) (pY (plN W 1) i1)) (ps1.s)).2.1) := (hD.get 0 rfl rfl rfl).2 (by decide)
       exact (y_asg rfl g83 ⟨rfl, Kept.refl _ _⟩)
      exact stepsFX_nil
     intro gg755 p756 v757 F758 w759 k760 hp761 hQ762 hG763 hY764 hN765 hA766 hV767 hF768
     obtain ⟨T769, e_gg755⟩ : ∃ z, z = gg755 := ⟨_, rfl⟩; subst e_gg755
     have B770 := B701.all k760 ap714.symm
     have B771 := B702.all k760 (ap715.symm p1 rfl)
     have B772 := B703.all k760 (ap716.symm p10 rfl)
     have B773 := B705.all k760 ap717.symm
     have B774 := B706.all k760 ap718.symm
     have B775 := B707.all k760 ap719.symm
     have B776 := B708.all k760 ap720.symm
     have B777 := B709.all k760 ap721.symm
     have K778 := K687.trans k760 (fun i hi x => ((Grew.ok (S := fun _ => False) gr710 noB_le) i hi x))
     obtain ⟨B779, g780⟩ := hQ762
     replace B779 : Rfi w759 T769 p77 l ((rdCh l K (gX (ps1.a) (pX (plN W 1) i1) (pY (plN W 1) i1)) (gY (ps1.a) (pX (plN W 1) i1) (pY (plN W 1) i1)) (gX (ps1.b) (pX (plN W 1) i1) (pY (plN W 1) i1)) (gY (ps1.b) (pX (plN W 1) i1) (pY (plN W 1) i1)) (ps1.s)).2.2) := B779
     replace g780 : Grew w686 T681 T769 := g780
     have gr781 := gr710.trans K687 g780
     have ap782 : Apart T769 T_b := ap714.grew g780 B701.live
     have ap783 : Apart T769 (onB p1) := ap715.grew g780 (onB_live B702.lt)
     have ap784 : Apart T769 (onB p10) := ap716.grew g780 (onB_live B703.lt)
     have ap785 : Apart T769 T212 := ap717.grew g780 B705.live
     have ap786 : Apart T769 T213 := ap718.grew g780 B706.live
     have ap787 : Apart T769 T682 := ap719.grew g780 B707.live
     have ap788 : Apart T769 T683 := ap720.grew g780 B708.live
     have ap789 : Apart T769 T684 := ap721.grew g780 B709.live
     replace hY764 : Stc w759 p756 71 (chW ((rdCh l K (gX (ps1.a) (pX (plN W 1) i1) (pY (plN W 1) i1)) (gY (ps1.a) (pX (plN W 1) i1) (pY (plN W 1) i1)) (gX (ps1.b) (pX (plN W 1) i1) (pY (plN W 1) i1)) (gY (ps1.b) (pX (plN W 1) i1) (pY (plN W 1) i1)) (ps1.s)).1)) := hY764
     have ap796 : Apart (onB p756) T682 := Apart.new (onB_new hp761) B707.live
     have ap797 : Apart (onB p756) T683 := Apart.new (onB_new hp761) B708.live
     obtain ⟨s800, s801, s802, s803, s804, s805, s806, s807, s808, s809, s810⟩ := t11 hF768 3 s742 4 s743 8 s744 10 s745 11 s746 12 s747 13 s748 15 s749 115 s750 9 s751 17 s752
     have s811 : F758 18 = pt p756 0 := (hF768 18).trans (hA766 23 rfl)
     have s812 : F758 19 = iv ((rdCh l K (gX (ps1.a) (pX (plN W 1) i1) (pY (plN W 1) i1)) (gY (ps1.a) (pX (plN W 1) i1) (pY (plN W 1) i1)) (gX (ps1.b) (pX (plN W 1) i1) (pY (plN W 1) i1)) (gY (ps1.b) (pX (plN W 1) i1) (pY (plN W 1) i1)) (ps1.s)).2.1) := (hF768 19).trans (hV767 25 (by decide) (by decide))
     clear hF768 hV767 hA766 hN765 hG763
     refine then_normal (wq_seq (wq_seq (wq_region (wl_mv rfl rfl rfl s812 (wl_v (.bool (decide (((rdCh l K (gX (ps1.a) (pX (plN W 1) i1) (pY (plN W 1) i1)) (gY (ps1.a) (pX (plN W 1) i1) (pY (plN W 1) i1)) (gX (ps1.b) (pX (plN W 1) i1) (pY (plN W 1) i1)) (gY (ps1.b) (pX (plN W 1) i1) (pY (plN W 1) i1)) (ps1.s)).2.1) ≠ 0))) rfl rfl (y_neqI rfl rfl rfl rfl rr) (wl_nil fun F813 hF814 => ?_))))))
     obtain ⟨s815, s816, s817, s818, s819, s820, s821, s822, s823, s824, s825, s826, s827⟩ := t13 hF814 3 s800 4 s801 8 s802 10 s803 11 s804 12 s805 13 s806 15 s807 115 s808 9 s809 17 s810 18 s811 19 s812
     have s828 : F813 85 = .bool (decide (((rdCh l K (gX (ps1.a) (pX (plN W 1) i1) (pY (plN W 1) i1)) (gY (ps1.a) (pX (plN W 1) i1) (pY (plN W 1) i1)) (gX (ps1.b) (pX (plN W 1) i1) (pY (plN W 1) i1)) (gY (ps1.b) (pX (plN W 1) i1) (pY (plN W 1) i1)) (ps1.s)).2.1) ≠ 0)) := (hF814 85).trans rfl
     clear hF814
     refine then_normal ?_
     refine wq_cond s828 (fun c829 => ?_) (fun c829 => ?_)
     ·replace c829 := of_decide_eq_true c829
      refine wq_seq ?_
      have hcb : (chAt l K (plN W 1) i1 ps1).2.1 ≠ 0 := by assumption
      have hR := chs_bad hm (by decide) (run_bad hrun (by omega) hcb) hcb
      refine wq_region (wl_mv rfl rfl rfl s827 (wl_v (.slice none 0 0) rfl rfl (y_asg rfl rfl rr) (wl_v (iv ((rdCh l K (gX (ps1.a) (pX (plN W 1) i1) (pY (plN W 1) i1)) (gY (ps1.a) (pX (plN W 1) i1) (pY (plN W 1) i1)) (gX (ps1.b) (pX (plN W 1) i1) (pY (plN W 1) i1)) (gY (ps1.b) (pX (plN W 1) i1) (pY (plN W 1) i1)) (ps1.s)).2.1)) rfl rfl (y_asg rfl rfl rr) (wl_nil fun F830 hF831 => ?_))))
      have s832 := (hF831 115).trans s823
      have s833 : F830 6 = .slice none 0 0 := (hF831 6).trans rfl
      have s834 : F830 7 = iv ((rdCh l K (gX (ps1.a) (pX (plN W 1) i1) (pY (plN W 1) i1)) (gY (ps1.a) (pX (plN W 1) i1) (pY (plN W 1) i1)) (gX (ps1.b) (pX (plN W 1) i1) (pY (plN W 1) i1)) (gY (ps1.b) (pX (plN W 1) i1) (pY (plN W 1) i1)) (ps1.s)).2.1) := (hF831 7).trans rfl
      clear hF831
      refine then_normal (wq_ret (then_ret (in_ret (then_ret (then_ret (in_ret (in_ret (then_ret (then_ret (in_ret (then_ret ?_)))))))))))
      exact end_2 s832 rfl (res_tmp (v := .slice none 0 0) rfl s833) (res_tmp (v := iv ((rdCh l K (gX (ps1.a) (pX (plN W 1) i1) (pY (plN W 1) i1)) (gY (ps1.a) (pX (plN W 1) i1) (pY (plN W 1) i1)) (gX (ps1.b) (pX (plN W 1) i1) (pY (plN W 1) i1)) (gY (ps1.b) (pX (plN W 1) i1) (pY (plN W 1) i1)) (ps1.s)).2.1)) rfl s834) ⟨(.slice none 0 0), noB, (by rw [hR] <;> rfl), K778, ⟨(by rw [hR]; exact (RoO.nil rCh _)), (Grew.refl _ _)⟩⟩
     ·replace c829 := of_decide_eq_false c829
      refine wq_skip (then_normal (wq_seq ?_))
      have hc : (chAt l K (plN W 1) i1 ps1).2.1 = 0 := by first | assumption | (apply Decidable.byContradiction; assumption)
      have hdv := Nat.div_le_self i1 (plN W 1)
      refine wq_tail 9 [some 87, some 88, some 89, some 90, some 91, some 92, some 93, some 94, some 95] [Pd.eq v597, Pd.eq (iv ((i1 : Nat) : Int)), Pd.eq (iv ((plN W 1 : Nat) : Int)), Pd.eq (iv (pX (plN W 1) i1)), Pd.eq (iv ((i1 : Nat) : Int)), Pd.eq (iv ((plN W 1 : Nat) : Int)), Pd.eq (iv (pY (plN W 1) i1)), Pd.eq (pt p756 1), Pd.eq (.agg #[iv (((rdCh l K (gX (ps1.a) (pX (plN W 1) i1) (pY (plN W 1) i1)) (gY (ps1.a) (pX (plN W 1) i1) (pY (plN W 1) i1)) (gX (ps1.b) (pX (plN W 1) i1) (pY (plN W 1) i1)) (gY (ps1.b) (pX (plN W 1) i1) (pY (plN W 1) i1)) (ps1.s)).1).px), iv (((rdCh l K (gX (ps1.a) (pX (plN W 1) i1) (pY (plN W 1) i1)) (gY (ps1.a) (pX (plN W 1) i1) (pY (plN W 1) i1)) (gX (ps1.b) (pX (plN W 1) i1) (pY (plN W 1) i1)) (gY (ps1.b) (pX (plN W 1) i1) (pY (plN W 1) i1)) (ps1.s)).1).py)])] (by kernel_rfl) (by kernel_rfl) (by kernel_rfl) ?_ ?_
      ·refine stepsF_cons ?_ ?_
       ·refine StepF.one rfl fun F_ w_ hR hout hD => ?_
        exact (y_mov rfl ((hout 13 rfl (by decide)).trans s821) ⟨rfl, Kept.refl _ _⟩)
       refine stepsF_cons ?_ ?_
       ·refine StepF.one rfl fun F_ w_ hR hout hD => ?_
        exact (y_mov rfl ((hout 17 rfl (by decide)).trans s825) ⟨rfl, Kept.refl _ _⟩)
       refine stepsF_cons ?_ ?_
       ·refine StepF.one rfl fun F_ w_ hR hout hD => ?_
        exact (y_mov rfl ((hout 11 rfl (by decide)).trans s819) ⟨rfl, Kept.refl _ _⟩)
       refine stepsF_cons ?_ ?_
       ·refine StepF.one rfl fun F_ w_ hR hout hD => ?_
        have g88 : F_ 88 = iv ((i1 : Nat) : Int) := (hD.get 0 rfl rfl rfl)
        have g89 : F_ 89 = iv ((plN W 1 : Nat) : Int) := (hD.get 1 rfl rfl rfl)
        exact (y_rem rfl g88 g89 (by first | decide | omega) (rem_nat i1 (plN W 1)) ⟨rfl, Kept.refl _ _⟩)
       refine stepsF_cons ?_ ?_
       ·refine StepF.one rfl fun F_ w_ hR hout hD => ?_
        exact (y_mov rfl ((hout 17 rfl (by decide)).trans s825) ⟨rfl, Kept.refl _ _⟩)
       refine stepsF_cons ?_ ?_
       ·refine StepF.one rfl fun F_ w_ hR hout hD => ?_
        exact (y_mov rfl ((hout 11 rfl (by decide)).trans s819) ⟨rfl, Kept.refl _ _⟩)
       refine stepsF_cons ?_ ?_
       ·refine StepF.one rfl fun F_ w_ hR hout hD => ?_
        have g91 : F_ 91 = iv ((i1 : Nat) : Int) := (hD.get 0 rfl rfl rfl)
        have g92 : F_ 92 = iv ((plN W 1 : Nat) : Int) := (hD.get 1 rfl rfl rfl)
        exact (y_quo rfl g91 g92 (by first | decide | omega) (i64_n (quo_nat i1 (plN W 1)) (by omega)) ⟨rfl, Kept.refl _ _⟩)
       refine stepsF_cons ?_ ?_
       ·refine StepF.one rfl fun F_ w_ hR hout hD => ?_
        exact (y_fieldR (n := 2) rfl ((hout 18 rfl (by decide)).trans s826) Tryz.underlying71 rfl (by kernel_rfl) (by decide) rfl ⟨rfl, Kept.refl _ _⟩)
       refine stepsF_cons ?_ ?_
       ·refine StepF.one rfl fun F_ w_ hR hout hD => ?_
        have g94 : F_ 94 = pt p756 1 := (hD.get 0 rfl rfl rfl)
        exact (y_ldPart (n := 2) stcT_vector rfl g94 (hY764.all hR id) (Nat.le_of_ble_eq_true rfl) rfl ⟨rfl, Kept.refl _ _⟩)
       exact stepsF_nil
      intro v835 F836 w837 k838 G839 hF840
      have B842 := B770.all k838 Apart.none
      have B843 := B771.all k838 id
      have B844 := B772.all k838 id
      have B845 := B779.all k838 Apart.none
      have B846 := B773.all k838 Apart.none
      have B847 := B774.all k838 Apart.none
      have B848 := B775.all k838 Apart.none
      have B849 := B776.all k838 Apart.none
      have B850 := B777.all k838 Apart.none
      have B851 := hY764.all k838 id
      have K852 := K778.tr k838
      obtain ⟨s853, s854, s855, s856, s857, s858, s859, s860, s861, s862, s863, s864⟩ := t12 hF840 3 s815 4 s816 8 s817 10 s818 11 s819 12 s820 13 s821 15 s822 115 s823 9 s824 17 s825 18 s826
      have s865 : F836 87 = v597 := (hF840 87).trans (G839 0 (by decide))
      have s866 : F836 90 = iv (pX (plN W 1) i1) := (hF840 90).trans (G839 3 (by decide))
      have s867 : F836 93 = iv (pY (plN W 1) i1) := (hF840 93).trans (G839 6 (by decide))
      have s868 : F836 95 = .agg #[iv (((rdCh l K (gX (ps1.a) (pX (plN W 1) i1) (pY (plN W 1) i1)) (gY (ps1.a) (pX (plN W 1) i1) (pY (plN W 1) i1)) (gX (ps1.b) (pX (plN W 1) i1) (pY (plN W 1) i1)) (gY (ps1.b) (pX (plN W 1) i1) (pY (plN W 1) i1)) (ps1.s)).1).px), iv (((rdCh l K (gX (ps1.a) (pX (plN W 1) i1) (pY (plN W 1) i1)) (gY (ps1.a) (pX (plN W 1) i1) (pY (plN W 1) i1)) (gX (ps1.b) (pX (plN W 1) i1) (pY (plN W 1) i1)) (gY (ps1.b) (pX (plN W 1) i1) (pY (plN W 1) i1)) (ps1.s)).1).py)] := (hF840 95).trans (G839 8 (by decide))
      clear G839 hF840
      refine wl_call (R := fun v_ w_ => ∃ (T871 : Nat → Prop), iv (setE (ps1.a) (pX (plN W 1) i1) (pY (plN W 1) i1) (((rdCh l K (gX (ps1.a) (pX (plN W 1) i1) (pY (plN W 1) i1)) (gY (ps1.a) (pX (plN W 1) i1) (pY (plN W 1) i1)) (gX (ps1.b) (pX (plN W 1) i1) (pY (plN W 1) i1)) (gY (ps1.b) (pX (plN W 1) i1) (pY (plN W 1) i1)) (ps1.s)).1).px) (((rdCh l K (gX (ps1.a) (pX (plN W 1) i1) (pY (plN W 1) i1)) (gY (ps1.a) (pX (plN W 1) i1) (pY (plN W 1) i1)) (gX (ps1.b) (pX (plN W 1) i1) (pY (plN W 1) i1)) (gY (ps1.b) (pX (plN W 1) i1) (pY (plN W 1) i1)) (ps1.s)).1).py)) = v_ ∧ Kept T682 w837 w_ ∧ (Vfo w_ T871 v597 (some (setV (ps1.a) (pX (plN W 1) i1) (pY (plN W 1) i1) (((rdCh l K (gX (ps1.a) (pX (plN W 1) i1) (pY (plN W 1) i1)) (gY (ps1.a) (pX (plN W 1) i1) (pY (plN W 1) i1)) (gX (ps1.b) (pX (plN W 1) i1) (pY (plN W 1) i1)) (gY (ps1.b) (pX (plN W 1) i1) (pY (plN W 1) i1)) (ps1.s)).1).px) (((rdCh l K (gX (ps1.a) (pX (plN W 1) i1) (pY (plN W 1) i1)) (gY (ps1.a) (pX (plN W 1) i1) (pY (plN W 1) i1)) (gX (ps1.b) (pX (plN W 1) i1) (pY (plN W 1) i1)) (gY (ps1.b) (pX (plN W 1) i1) (pY (plN W 1) i1)) (ps1.s)).1).py))) ∧ Grew w837 T682 T871)) rfl rfl (y_cs rfl rfl rfl (fun _ _ => by kernel_rfl) (ev_func _) (vsC s865 (vsC s866 (vsC s867 (vsC s868 vsN)))) (mref_vset v597 (ps1.a) (pX (plN W 1) i1) (pY (plN W 1) i1) (((rdCh l K (gX (ps1.a) (pX (plN W 1) i1) (pY (plN W 1) i1)) (gY (ps1.a) (pX (plN W 1) i1) (pY (plN W 1) i1)) (gX (ps1.b) (pX (plN W 1) i1) (pY (plN W 1) i1)) (gY (ps1.b) (pX (plN W 1) i1) (pY (plN W 1) i1)) (ps1.s)).1).px) (((rdCh l K (gX (ps1.a) (pX (plN W 1) i1) (pY (plN W 1) i1)) (gY (ps1.a) (pX (plN W 1) i1) (pY (plN W 1) i1)) (gX (ps1.b) (pX (plN W 1) i1) (pY (plN W 1) i1)) (gY (ps1.b) (pX (plN W 1) i1) (pY (plN W 1) i1)) (ps1.s)).1).py) T682 _  B848 ) (fun e_ w_ h_ => by obtain ⟨T871_, he_, hr_⟩ := h_; exact ⟨_, he_, T871_, rfl, hr_⟩)) ?_
      rintro _ w869 ⟨T871, rfl, k870, ⟨B872, g873⟩⟩
      have B874 := B842.all k870 ap722.symm
      have B875 := B843.all k870 (ap723.symm p1 rfl)
      have B876 := B844.all k870 (ap724.symm p10 rfl)
      have B877 := B845.all k870 ap787
      have B878 := B846.all k870 ap725.symm
      have B879 := B847.all k870 ap726.symm
      have B880 := B849.all k870 ap727.symm
      have B881 := B850.all k870 ap728.symm
      have B882 := B851.all k870 (ap796 p756 rfl)
      have K883 := K852.trans k870 (fun i hi x => ((Grew.ok (S := fun _ => False) gr711 noB_le) i hi x))
      have gr884 := gr711.trans K852 g873
      have ap885 : Apart T871 T_b := ap722.grew g873 B842.live
      have ap886 : Apart T871 (onB p1) := ap723.grew g873 (onB_live B843.lt)
      have ap887 : Apart T871 (onB p10) := ap724.grew g873 (onB_live B844.lt)
      have ap888 : Apart T871 T769 := (ap787.symm).grew g873 B845.live
      have ap889 : Apart T871 T212 := ap725.grew g873 B846.live
      have ap890 : Apart T871 T213 := ap726.grew g873 B847.live
      have ap891 : Apart T871 T683 := ap727.grew g873 B849.live
      have ap892 : Apart T871 T684 := ap728.grew g873 B850.live
      refine wl_nil fun F894 hF895 => ?_
      obtain ⟨s896, s897, s898, s899, s900, s901, s902, s903, s904, s905, s906, s907⟩ := t12 hF895 3 s853 4 s854 8 s855 10 s856 11 s857 12 s858 13 s859 15 s860 115 s861 9 s862 17 s863 18 s864
      clear hF895
      refine then_normal (wq_seq ?_)
      refine wq_tail 9 [some 97, some 98, some 99, some 100, some 101, some 102, some 103, some 104, some 105] [Pd.eq v630, Pd.eq (iv ((i1 : Nat) : Int)), Pd.eq (iv ((plN W 1 : Nat) : Int)), Pd.eq (iv (pX (plN W 1) i1)), Pd.eq (iv ((i1 : Nat) : Int)), Pd.eq (iv ((plN W 1 : Nat) : Int)), Pd.eq (iv (pY (plN W 1) i1)), Pd.eq (pt p756 3), Pd.eq (.agg #[iv (((rdCh l K (gX (ps1.a) (pX (plN W 1) i1) (pY (plN W 1) i1)) (gY (ps1.a) (pX (plN W 1) i1) (pY (plN W 1) i1)) (gX (ps1.b) (pX (plN W 1) i1) (pY (plN W 1) i1)) (gY (ps1.b) (pX (plN W 1) i1) (pY (plN W 1) i1)) (ps1.s)).1).nx), iv (((rdCh l K (gX (ps1.a) (pX (plN W 1) i1) (pY (plN W 1) i1)) (gY (ps1.a) (pX (plN W 1) i1) (pY (plN W 1) i1)) (gX (ps1.b) (pX (plN W 1) i1) (pY (plN W 1) i1)) (gY (ps1.b) (pX (plN W 1) i1) (pY (plN W 1) i1)) (ps1.s)).1).ny)])] (by kernel_rfl) (by kernel_rfl) (by kernel_rfl) ?_ ?_
      ·refine stepsF_cons ?_ ?_
       ·refine StepF.one rfl fun F_ w_ hR hout hD => ?_
        exact (y_mov rfl ((hout 15 rfl (by decide)).trans s903) ⟨rfl, Kept.refl _ _⟩)
       refine stepsF_cons ?_ ?_
       ·refine StepF.one rfl fun F_ w_ hR hout hD => ?_
        exact (y_mov rfl ((hout 17 rfl (by decide)).trans s906) ⟨rfl, Kept.refl _ _⟩)
       refine stepsF_cons ?_ ?_
       ·refine StepF.one rfl fun F_ w_ hR hout hD => ?_
        exact (y_mov rfl ((hout 11 rfl (by decide)).trans s900) ⟨rfl, Kept.refl _ _⟩)
       refine stepsF_cons ?_ ?_
       ·refine StepF.one rfl fun F_ w_ hR hout hD => ?_
        have g98 : F_ 98 = iv ((i1 : Nat) : Int) := (hD.get 0 rfl rfl rfl)
        have g99 : F_ 99 = iv ((plN W 1 : Nat) : Int) := (hD.get 1 rfl rfl rfl)
        exact (y_rem rfl g98 g99 (by first | decide | omega) (rem_nat i1 (plN W 1)) ⟨rfl, Kept.refl _ _⟩)
       refine stepsF_cons ?_ ?_
       ·refine StepF.one rfl fun F_ w_ hR hout hD => ?_
        exact (y_mov rfl ((hout 17 rfl (by decide)).trans s906) ⟨rfl, Kept.refl _ _⟩)
       refine stepsF_cons ?_ ?_
       ·refine StepF.one rfl fun F_ w_ hR hout hD => ?_
        exact (y_mov rfl ((hout 11 rfl (by decide)).trans s900) ⟨rfl, Kept.refl _ _⟩)
       refine stepsF_cons ?_ ?_
       ·refine StepF.one rfl fun F_ w_ hR hout hD => ?_
        have g101 : F_ 101 = iv ((i1 : Nat) : Int) := (hD.get 0 rfl rfl rfl)
        have g102 : F_ 102 = iv ((plN W 1 : Nat) : Int) := (hD.get 1 rfl rfl rfl)
        exact (y_quo rfl g101 g102 (by first | decide | omega) (i64_n (quo_nat i1 (plN W 1)) (by omega)) ⟨rfl, Kept.refl _ _⟩)
       refine stepsF_cons ?_ ?_
       ·refine StepF.one rfl fun F_ w_ hR hout hD => ?_
        exact (y_fieldR (n := 2) rfl ((hout 18 rfl (by decide)).trans s907) Tryz.underlying71 rfl (by kernel_rfl) (by decide) rfl ⟨rfl, Kept.refl _ _⟩)
       refine stepsF_cons ?_ ?_
       ·refine StepF.one rfl fun F_ w_ hR hout hD => ?_
        have g104 : F_ 104 = pt p756 3 := (hD.get 0 rfl rfl rfl)
        exact (y_ldPart (n := 2) stcT_vector rfl g104 (B882.all hR id) (Nat.le_of_ble_eq_true rfl) rfl ⟨rfl, Kept.refl _ _⟩)
       exact stepsF_nil
      intro v908 F909 w910 k911 G912 hF913
      have B915 := B874.all k911 Apart.none
      have B916 := B875.all k911 id
      have B917 := B876.all k911 id
      have B918 := B877.all k911 Apart.none
      have B919 := B878.all k911 Apart.none
      have B920 := B879.all k911 Apart.none
      have B921 := B872.all k911 Apart.none
      have B922 := B880.all k911 Apart.none
      have B923 := B881.all k911 Apart.none
      have B924 := B882.all k911 id
      have K925 := K883.tr k911
      obtain ⟨s926, s927, s928, s929, s930, s931, s932, s933, s934, s935, s936, s937⟩ := t12 hF913 3 s896 4 s897 8 s898 10 s899 11 s900 12 s901 13 s902 15 s903 115 s904 9 s905 17 s906 18 s907
      have s938 : F909 97 = v630 := (hF913 97).trans (G912 0 (by decide))
      have s939 : F909 100 = iv (pX (plN W 1) i1) := (hF913 100).trans (G912 3 (by decide))
      have s940 : F909 103 = iv (pY (plN W 1) i1) := (hF913 103).trans (G912 6 (by decide))
      have s941 : F909 105 = .agg #[iv (((rdCh l K (gX (ps1.a) (pX (plN W 1) i1) (pY (plN W 1) i1)) (gY (ps1.a) (pX (plN W 1) i1) (pY (plN W 1) i1)) (gX (ps1.b) (pX (plN W 1) i1) (pY (plN W 1) i1)) (gY (ps1.b) (pX (plN W 1) i1) (pY (plN W 1) i1)) (ps1.s)).1).nx), iv (((rdCh l K (gX (ps1.a) (pX (plN W 1) i1) (pY (plN W 1) i1)) (gY (ps1.a) (pX (plN W 1) i1) (pY (plN W 1) i1)) (gX (ps1.b) (pX (plN W 1) i1) (pY (plN W 1) i1)) (gY (ps1.b) (pX (plN W 1) i1) (pY (plN W 1) i1)) (ps1.s)).1).ny)] := (hF913 105).trans (G912 8 (by decide))
      clear G912 hF913
      refine wl_call (R := fun v_ w_ => ∃ (T944 : Nat → Prop), iv (setE (ps1.b) (pX (plN W 1) i1) (pY (plN W 1) i1) (((rdCh l K (gX (ps1.a) (pX (plN W 1) i1) (pY (plN W 1) i1)) (gY (ps1.a) (pX (plN W 1) i1) (pY (plN W 1) i1)) (gX (ps1.b) (pX (plN W 1) i1) (pY (plN W 1) i1)) (gY (ps1.b) (pX (plN W 1) i1) (pY (plN W 1) i1)) (ps1.s)).1).nx) (((rdCh l K (gX (ps1.a) (pX (plN W 1) i1) (pY (plN W 1) i1)) (gY (ps1.a) (pX (plN W 1) i1) (pY (plN W 1) i1)) (gX (ps1.b) (pX (plN W 1) i1) (pY (plN W 1) i1)) (gY (ps1.b) (pX (plN W 1) i1) (pY (plN W 1) i1)) (ps1.s)).1).ny)) = v_ ∧ Kept T683 w910 w_ ∧ (Vfo w_ T944 v630 (some (setV (ps1.b) (pX (plN W 1) i1) (pY (plN W 1) i1) (((rdCh l K (gX (ps1.a) (pX (plN W 1) i1) (pY (plN W 1) i1)) (gY (ps1.a) (pX (plN W 1) i1) (pY (plN W 1) i1)) (gX (ps1.b) (pX (plN W 1) i1) (pY (plN W 1) i1)) (gY (ps1.b) (pX (plN W 1) i1) (pY (plN W 1) i1)) (ps1.s)).1).nx) (((rdCh l K (gX (ps1.a) (pX (plN W 1) i1) (pY (plN W 1) i1)) (gY (ps1.a) (pX (plN W 1) i1) (pY (plN W 1) i1)) (gX (ps1.b) (pX (plN W 1) i1) (pY (plN W 1) i1)) (gY (ps1.b) (pX (plN W 1) i1) (pY (plN W 1) i1)) (ps1.s)).1).ny))) ∧ Grew w910 T683 T944)) rfl rfl (y_cs rfl rfl rfl (fun _ _ => by kernel_rfl) (ev_func _) (vsC s938 (vsC s939 (vsC s940 (vsC s941 vsN)))) (mref_vset v630 (ps1.b) (pX (plN W 1) i1) (pY (plN W 1) i1) (((rdCh l K (gX (ps1.a) (pX (plN W 1) i1) (pY (plN W 1) i1)) (gY (ps1.a) (pX (plN W 1) i1) (pY (plN W 1) i1)) (gX (ps1.b) (pX (plN W 1) i1) (pY (plN W 1) i1)) (gY (ps1.b) (pX (plN W 1) i1) (pY (plN W 1) i1)) (ps1.s)).1).nx) (((rdCh l K (gX (ps1.a) (pX (plN W 1) i1) (pY (plN W 1) i1)) (gY (ps1.a) (pX (plN W 1) i1) (pY (plN W 1) i1)) (gX (ps1.b) (pX (plN W 1) i1) (pY (plN W 1) i1)) (gY (ps1.b) (pX (plN W 1) i1) (pY (plN W 1) i1)) (ps1.s)).1).ny) T683 _  B922 ) (fun e_ w_ h_ => by obtain ⟨T944_, he_, hr_⟩ := h_; exact ⟨_, he_, T944_, rfl, hr_⟩)) ?_
      rintro _ w942 ⟨T944, rfl, k943, ⟨B945, g946⟩⟩
      have B947 := B915.all k943 ap729.symm
      have B948 := B916.all k943 (ap730.symm p1 rfl)
      have B949 := B917.all k943 (ap731.symm p10 rfl)
      have B950 := B918.all k943 ap788
      have B951 := B919.all k943 ap732.symm
      have B952 := B920.all k943 ap733.symm
      have B953 := B921.all k943 ap891
      have B954 := B923.all k943 ap734.symm
      have B955 := B924.all k943 (ap797 p756 rfl)
      have K956 := K925.trans k943 (fun i hi x => ((Grew.ok (S := fun _ => False) gr712 noB_le) i hi x))
      have gr957 := gr712.trans K925 g946
      have ap958 : Apart T944 T_b := ap729.grew g946 B915.live
      have ap959 : Apart T944 (onB p1) := ap730.grew g946 (onB_live B916.lt)
      have ap960 : Apart T944 (onB p10) := ap731.grew g946 (onB_live B917.lt)
      have ap961 : Apart T944 T769 := (ap788.symm).grew g946 B918.live
      have ap962 : Apart T944 T212 := ap732.grew g946 B919.live
      have ap963 : Apart T944 T213 := ap733.grew g946 B920.live
      have ap964 : Apart T944 T871 := (ap891.symm).grew g946 B921.live
      have ap965 : Apart T944 T684 := ap734.grew g946 B923.live
      refine wl_nil fun F967 hF968 => ?_
      obtain ⟨s969, s970, s971, s972, s973, s974, s975, s976, s977, s978, s979, s980⟩ := t12 hF968 3 s926 4 s927 8 s928 10 s929 11 s930 12 s931 13 s932 15 s933 115 s934 9 s935 17 s936 18 s937
      clear hF968
      refine then_normal (wq_region (wl_mv rfl rfl rfl s978 (wl_v (.agg (chW ((rdCh l K (gX (ps1.a) (pX (plN W 1) i1) (pY (plN W 1) i1)) (gY (ps1.a) (pX (plN W 1) i1) (pY (plN W 1) i1)) (gX (ps1.b) (pX (plN W 1) i1) (pY (plN W 1) i1)) (gY (ps1.b) (pX (plN W 1) i1) (pY (plN W 1) i1)) (ps1.s)).1)).toArray) rfl rfl (y_load_stc stcT_choice rfl s980 B955 rr) (wl_builtRo (r := rCh) (xs := [.tmp 108]) (vs := [.agg (chW ((rdCh l K (gX (ps1.a) (pX (plN W 1) i1) (pY (plN W 1) i1)) (gY (ps1.a) (pX (plN W 1) i1) (pY (plN W 1) i1)) (gX (ps1.b) (pX (plN W 1) i1) (pY (plN W 1) i1)) (gY (ps1.b) (pX (plN W 1) i1) (pY (plN W 1) i1)) (ps1.s)).1)).toArray]) (l := [(rdCh l K (gX (ps1.a) (pX (plN W 1) i1) (pY (plN W 1) i1)) (gY (ps1.a) (pX (plN W 1) i1) (pY (plN W 1) i1)) (gX (ps1.b) (pX (plN W 1) i1) (pY (plN W 1) i1)) (gY (ps1.b) (pX (plN W 1) i1) (pY (plN W 1) i1)) (ps1.s)).1]) rfl rfl rfl rfl rfl (vsC rfl vsN) rfl (by first | decide | exact Nat.le_of_ble_eq_true rfl) (by first | decide | exact Nat.le_of_ble_eq_true rfl) fun v981 w982 T986 B984 g985 k983 => ?_))))
      have B998 := B947.all k983 Apart.none
      have B999 := B948.all k983 id
      have B1000 := B949.all k983 id
      have B1001 := B950.all k983 Apart.none
      have B1002 := B951.all k983 Apart.none
      have B1003 := B952.all k983 Apart.none
      have B1004 := B953.all k983 Apart.none
      have B1005 := B945.all k983 Apart.none
      have B1006 := B954.all k983 Apart.none
      have K1008 := K956.tr k983
      refine wl_appendRo (r := rCh) rfl rfl rfl rfl rfl rfl B1006 B984.roa (by first | omega | (simp; done) | (simp; omega)) fun v1009 w1010 T1014 B1012 g1013 k1011 => ?_
      have gr1015 := Grew.trans gr713 K1008 g1013
      have ap1016 : Apart T1014 T_b := ap735.grew g1013 B998.live
      have ap1017 : Apart T1014 (onB p1) := ap736.grew g1013 (onB_live B999.lt)
      have ap1018 : Apart T1014 (onB p10) := ap737.grew g1013 (onB_live B1000.lt)
      have ap1019 : Apart T1014 T769 := (ap789.symm).grew g1013 B1001.live
      have ap1020 : Apart T1014 T212 := ap738.grew g1013 B1002.live
      have ap1021 : Apart T1014 T213 := ap739.grew g1013 B1003.live
      have ap1022 : Apart T1014 T871 := (ap892.symm).grew g1013 B1004.live
      have ap1023 : Apart T1014 T944 := (ap965.symm).grew g1013 B1005.live
      have B1026 := B998.all k1011 ap735.symm
      have B1027 := B999.all k1011 (ap736.symm p1 rfl)
      have B1028 := B1000.all k1011 (ap737.symm p10 rfl)
      have B1029 := B1001.all k1011 ap789
      have B1030 := B1002.all k1011 ap738.symm
      have B1031 := B1003.all k1011 ap739.symm
      have B1032 := B1004.all k1011 ap892
      have B1033 := B1005.all k1011 ap965
      have K1036 := K1008.trans k1011 (Grew.ok (S := fun _ => False) gr713 noB_le)
      refine wl_v v1009 rfl rfl (y_asg rfl rfl rr) (wl_nil fun F1037 hF1038 => ?_)
      obtain ⟨s1039, s1040, s1041, s1042, s1043, s1044, s1045, s1046, s1047, s1048⟩ := t10 hF1038 3 s969 4 s970 8 s971 10 s972 11 s973 12 s974 13 s975 15 s976 115 s977 17 s979
      have s1049 : F1037 9 = v1009 := (hF1038 9).trans rfl
      clear hF1038
      refine in_normal (then_normal (wq_region (wl_mv rfl rfl rfl s1048 (wl_v (iv ((i1 + 1 : Nat) : Int)) rfl rfl (y_add rfl rfl rfl (i64_n (by omega) (by omega)) rr) (wl_v (iv ((i1 + 1 : Nat) : Int)) rfl rfl (y_asg rfl rfl rr) (wl_nil fun F1050 hF1051 => ?_))))))
      obtain ⟨s1052, s1053, s1054, s1055, s1056, s1057, s1058, s1059, s1060, s1061⟩ := t10 hF1051 3 s1039 4 s1040 8 s1041 10 s1042 11 s1043 12 s1044 13 s1045 15 s1046 115 s1047 9 s1049
      have s1062 : F1050 17 = iv ((i1 + 1 : Nat) : Int) := (hF1051 17).trans rfl
      clear hF1051
      exact then_normal ⟨((plN W 1 * plN H 1) - (i1 + 1)), by omega, i1 + 1, stAt l K (plN W 1) i1 ps1, o1 ++ [(chAt l K (plN W 1) i1 ps1).1], v1009, T769, T871, T944, T1014, by omega, (run_next hrun (by omega) hc), (by rw [List.length_append, List.length_singleton]; omega), rfl, s1052, s1053, s1054, s1055, s1056, s1057, s1058, s1059, s1060, s1061, s1062, K1036, B1026, B1027, B1028, B1029, B1030, B1031, B1032, B1033, B1012, gr781, gr884, gr957, gr1015, ap782, ap783, ap784, ap785, ap786, ap888.symm, ap961.symm, ap1019.symm, ap885, ap886, ap887, ap889, ap890, ap964.symm, ap1022.symm, ap958, ap959, ap960, ap962, ap963, ap1023.symm, ap1016, ap1017, ap1018, ap1020, ap1021⟩
    ·replace c754 := of_decide_eq_false c754
     refine wq_exit (then_exit (then_exit ?_))
     have l1063 : (plN W 1 * plN H 1) = i1 := by omega
     subst l1063
     refine in_here (in_normal (then_normal ?_))
     have hdn := run_done hrun (by omega)
     have hpz : (plTo l K W H (1 + 1)).2.1 = 0 := by rw [hdn]
     have B1064 : Rfi w686 T681 p77 l ((plTo l K W H (1 + 1)).2.2) := (by rw [hdn]; exact B704)
     have B1065 : RoO rCh w686 T684 V1 ((plTo l K W H (1 + 1)).1) := (by rw [hdn]; exact B709)
     refine wq_region (wl_mv rfl rfl rfl s745 (wl_v (iv ((2 : Nat) : Int)) rfl rfl (y_add rfl rfl rfl (i64_n (by omega) (by omega)) rr) (wl_v (iv ((2 : Nat) : Int)) rfl rfl (y_asg rfl rfl rr) (wl_nil fun F1066 hF1067 => ?_))))
     obtain ⟨s1068, s1069, s1070, s1071, s1072⟩ := t5 hF1067 3 s742 4 s743 8 s744 115 s750 9 s751
     have s1073 : F1066 10 = iv ((2 : Nat) : Int) := (hF1067 10).trans rfl
     clear hF1067
     refine then_normal (wqr_step (wq_seq (wq_seq (wq_region (wl_mv rfl rfl rfl s1073 (wl_v (.bool true) rfl rfl (y_lss rfl rfl rfl rfl rr) (wl_nil fun F1074 hF1075 => ?_)))))))
     obtain ⟨s1076, s1077, s1078, s1079, s1080, s1081⟩ := t6 hF1075 3 s1068 4 s1069 8 s1070 115 s1071 9 s1072 10 s1073
     have s1082 : F1074 33 = .bool true := (hF1075 33).trans rfl
     clear hF1075
     refine then_normal ?_
     refine wq_cond (t := true) s1082 (fun _ => ?_) (fun e => by cases e)
     refine wq_skip (then_normal (wq_seq (wq_block (wq_seq (wq_region (wl_v (.agg #[iv W, iv H, iv R, iv B]) rfl rfl (y_load_stc stcT_seq rfl s1076 B702 rr) (wl_mv rfl rfl rfl s1081 (wl_cs rfl rfl rfl rfl rfl (fun _ _ => by kernel_rfl) (vsC rfl (vsC rfl vsN)) (pcref_blocks W H R B 2  _ (by assumption)  ) fun w1083 k1084 => ?_))))))))
     have B1085 := B701.all k1084 Apart.none
     have B1086 := B702.all k1084 id
     have B1087 := B703.all k1084 id
     have B1088 := B1064.all k1084 Apart.none
     have B1089 := B705.all k1084 Apart.none
     have B1090 := B706.all k1084 Apart.none
     have B1091 := B707.all k1084 Apart.none
     have B1092 := B708.all k1084 Apart.none
     have B1093 := B1065.all k1084 Apart.none
     have K1094 := K687.tr k1084
     refine wl_v (.tuple #[iv ((plN W 2 : Nat) : Int), iv ((plN H 2 : Nat) : Int)]) rfl rfl (y_mov rfl rfl rr) (wl_v (iv ((plN W 2 : Nat) : Int)) rfl rfl (y_ext rfl rfl rfl rr) (wl_v (iv ((plN H 2 : Nat) : Int)) rfl rfl (y_ext rfl rfl rfl rr) (wl_v (iv ((plN W 2 : Nat) : Int)) rfl rfl (y_asg rfl rfl rr) (wl_v (iv ((plN H 2 : Nat) : Int)) rfl rfl (y_asg rfl rfl rr) (wl_nil fun F1095 hF1096 => ?_)))))
     obtain ⟨s1097, s1098, s1099, s1100, s1101, s1102⟩ := t6 hF1096 3 s1076 4 s1077 8 s1078 115 s1079 9 s1080 10 s1081
     have s1103 : F1095 11 = iv ((plN W 2 : Nat) : Int) := (hF1096 11).trans rfl
     have s1104 : F1095 12 = iv ((plN H 2 : Nat) : Int) := (hF1096 12).trans rfl
     clear hF1096
     refine then_normal (wq_seq ?_)
     have hw0 := plN_pos (W := W) (p := 2) hsd.1
     have hw1 := plN_le (W := W) (p := 2) hsd.2.1
     have hn1 := plN_le (W := H) (p := 2) hsd.2.2.2.2.1
     have hsk : sidesOk ((plN W 2 : Nat) : Int) ((plN H 2 : Nat) : Int) := plN_sides ⟨hsd.1, hsd.2.1⟩ ⟨hsd.2.2.2.1, hsd.2.2.2.2.1⟩
     have hwn : plN W 2 * plN H 2 ≤ 16 * 16 := Nat.mul_le_mul hw1 hn1
     refine wq_region (wl_mv rfl rfl rfl s1103 (wl_mv rfl rfl rfl s1104 (wl_call (R := fun v_ w_ => ∃ (v1105 : Value) (T1108 : Nat → Prop), .tuple #[v1105, iv (newVE ((plN W 2 : Nat) : Int) ((plN H 2 : Nat) : Int))] = v_ ∧ Kept (fun _ => False) w1083 w_ ∧ (Vfo w_ T1108 v1105 (optV ((plN W 2 : Nat) : Int) ((plN H 2 : Nat) : Int)) ∧ Grew w1083 noB T1108)) rfl rfl (y_cs rfl rfl rfl (fun _ _ => by kernel_rfl) (ev_func _) (vsC rfl (vsC rfl vsN)) (mref_vnew ((plN W 2 : Nat) : Int) ((plN H 2 : Nat) : Int)  _   ) (fun e_ w_ h_ => by obtain ⟨v1105_, T1108_, he_, hr_⟩ := h_; exact ⟨_, he_, v1105_, T1108_, rfl, hr_⟩)) ?_)))
     rintro _ w1106 ⟨v1105, T1108, rfl, k1107, ⟨B1109, g1110⟩⟩
     have B1111 := B1085.all k1107 Apart.none
     have B1112 := B1086.all k1107 id
     have B1113 := B1087.all k1107 id
     have B1114 := B1088.all k1107 Apart.none
     have B1115 := B1089.all k1107 Apart.none
     have B1116 := B1090.all k1107 Apart.none
     have B1117 := B1091.all k1107 Apart.none
     have B1118 := B1092.all k1107 Apart.none
     have B1119 := B1093.all k1107 Apart.none
     have K1120 := K1094.tr k1107
     have gr1121 : Grew w0 noB T1108 := Grew.new K1094 g1110
     have ap1122 : Apart T1108 T_b := Apart.new g1110 B1085.live
     have ap1123 : Apart T1108 (onB p1) := Apart.new g1110 (onB_live B1086.lt)
     have ap1124 : Apart T1108 (onB p10) := Apart.new g1110 (onB_live B1087.lt)
     have ap1125 : Apart T1108 T681 := Apart.new g1110 B1088.live
     have ap1126 : Apart T1108 T212 := Apart.new g1110 B1089.live
     have ap1127 : Apart T1108 T213 := Apart.new g1110 B1090.live
     have ap1128 : Apart T1108 T682 := Apart.new g1110 B1091.live
     have ap1129 : Apart T1108 T683 := Apart.new g1110 B1092.live
     have ap1130 : Apart T1108 T684 := Apart.new g1110 B1093.live
     refine wl_v (.tuple #[v1105, iv (newVE ((plN W 2 : Nat) : Int) ((plN H 2 : Nat) : Int))]) rfl rfl (y_mov rfl rfl rr) (wl_v v1105 rfl rfl (y_ext rfl rfl rfl rr) (wl_v (iv (newVE ((plN W 2 : Nat) : Int) ((plN H 2 : Nat) : Int))) rfl rfl (y_ext rfl rfl rfl rr) (wl_v v1105 rfl rfl (y_asg rfl rfl rr) (wl_v (iv (newVE ((plN W 2 : Nat) : Int) ((plN H 2 : Nat) : Int))) rfl rfl (y_asg rfl rfl rr) (wl_nil fun F1131 hF1132 => ?_)))))
     obtain ⟨s1133, s1134, s1135, s1136, s1137, s1138, s1139, s1140⟩ := t8 hF1132 3 s1097 4 s1098 8 s1099 115 s1100 9 s1101 10 s1102 11 s1103 12 s1104
     have s1141 : F1131 13 = v1105 := (hF1132 13).trans rfl
     clear hF1132
     refine then_normal (wq_seq (wq_region (wl_mv rfl rfl rfl s1139 (wl_mv rfl rfl rfl s1140 (wl_call (R := fun v_ w_ => ∃ (v1142 : Value) (T1145 : Nat → Prop), .tuple #[v1142, iv (newVE ((plN W 2 : Nat) : Int) ((plN H 2 : Nat) : Int))] = v_ ∧ Kept (fun _ => False) w1106 w_ ∧ (Vfo w_ T1145 v1142 (optV ((plN W 2 : Nat) : Int) ((plN H 2 : Nat) : Int)) ∧ Grew w1106 noB T1145)) rfl rfl (y_cs rfl rfl rfl (fun _ _ => by kernel_rfl) (ev_func _) (vsC rfl (vsC rfl vsN)) (mref_vnew ((plN W 2 : Nat) : Int) ((plN H 2 : Nat) : Int)  _   ) (fun e_ w_ h_ => by obtain ⟨v1142_, T1145_, he_, hr_⟩ := h_; exact ⟨_, he_, v1142_, T1145_, rfl, hr_⟩)) ?_)))))
     rintro _ w1143 ⟨v1142, T1145, rfl, k1144, ⟨B1146, g1147⟩⟩
     have B1148 := B1111.all k1144 Apart.none
     have B1149 := B1112.all k1144 id
     have B1150 := B1113.all k1144 id
     have B1151 := B1114.all k1144 Apart.none
     have B1152 := B1115.all k1144 Apart.none
     have B1153 := B1116.all k1144 Apart.none
     have B1154 := B1117.all k1144 Apart.none
     have B1155 := B1118.all k1144 Apart.none
     have B1156 := B1119.all k1144 Apart.none
     have B1157 := B1109.all k1144 Apart.none
     have K1158 := K1120.tr k1144
     have gr1159 : Grew w0 noB T1145 := Grew.new K1120 g1147
     have ap1160 : Apart T1145 T_b := Apart.new g1147 B1111.live
     have ap1161 : Apart T1145 (onB p1) := Apart.new g1147 (onB_live B1112.lt)
     have ap1162 : Apart T1145 (onB p10) := Apart.new g1147 (onB_live B1113.lt)
     have ap1163 : Apart T1145 T681 := Apart.new g1147 B1114.live
     have ap1164 : Apart T1145 T212 := Apart.new g1147 B1115.live
     have ap1165 : Apart T1145 T213 := Apart.new g1147 B1116.live
     have ap1166 : Apart T1145 T682 := Apart.new g1147 B1117.live
     have ap1167 : Apart T1145 T683 := Apart.new g1147 B1118.live
     have ap1168 : Apart T1145 T684 := Apart.new g1147 B1119.live
     have ap1169 : Apart T1145 T1108 := Apart.new g1147 B1109.live
     refine wl_v (.tuple #[v1142, iv (newVE ((plN W 2 : Nat) : Int) ((plN H 2 : Nat) : Int))]) rfl rfl (y_mov rfl rfl rr) (wl_v v1142 rfl rfl (y_ext rfl rfl rfl rr) (wl_v (iv (newVE ((plN W 2 : Nat) : Int) ((plN H 2 : Nat) : Int))) rfl rfl (y_ext rfl rfl rfl rr) (wl_v v1142 rfl rfl (y_asg rfl rfl rr) (wl_v (iv (newVE ((plN W 2 : Nat) : Int) ((plN H 2 : Nat) : Int))) rfl rfl (y_asg rfl rfl rr) (wl_nil fun F1170 hF1171 => ?_)))))
     obtain ⟨s1172, s1173, s1174, s1175, s1176, s1177, s1178, s1179, s1180⟩ := t9 hF1171 3 s1133 4 s1134 8 s1135 115 s1136 9 s1137 10 s1138 11 s1139 12 s1140 13 s1141
     have s1181 : F1170 15 = v1142 := (hF1171 15).trans rfl
     clear hF1171
     refine then_normal (wq_seq ?_)
     have hofn := hof 2 (by decide)
     have hpl : (plTo l K W H 2).2.1 = 0 := by first | exact hpz | rfl
     have B1182 : Vfo w1143 T1108 v1105 (some (newV ((plN W 2 : Nat) : Int) ((plN H 2 : Nat) : Int))) := (by rw [← optV_yes hsk]; exact B1157)
     have B1183 : Vfo w1143 T1145 v1142 (some (newV ((plN W 2 : Nat) : Int) ((plN H 2 : Nat) : Int))) := (by rw [← optV_yes hsk]; exact B1146)
     refine wq_region (wl_v (iv 0) rfl rfl (y_asg rfl rfl rr) (wl_nil fun F1184 hF1185 => ?_))
     obtain ⟨s1186, s1187, s1188, s1189, s1190, s1191, s1192, s1193, s1194, s1195⟩ := t10 hF1185 3 s1172 4 s1173 8 s1174 115 s1175 9 s1176 10 s1177 11 s1178 12 s1179 13 s1180 15 s1181
     have s1196 : F1184 17 = iv 0 := (hF1185 17).trans rfl
     clear hF1185
     refine then_normal (wq_block (wq_loop (fun nn FF ww => ∃ (i2 : Nat), ∃ (ps2 : PSt), ∃ (o2 : List Ch), ∃ (V2 : Value), ∃ (T1197 : Nat → Prop), ∃ (T1198 : Nat → Prop), ∃ (T1199 : Nat → Prop), ∃ (T1200 : Nat → Prop), (i2 ≤ (plN W 2 * plN H 2)) ∧ (runP l K (plN W 2) (plN W 2 * plN H 2 - i2) i2 ps2 o2 = plTo l K W H (2 + 1)) ∧ (o2.length = plOff W H 2 + i2) ∧ nn = (plN W 2 * plN H 2) - i2 ∧ FF 3 = pt p1 0 ∧ FF 4 = pt p10 0 ∧ FF 8 = pt p77 0 ∧ FF 10 = iv ((2 : Nat) : Int) ∧ FF 11 = iv ((plN W 2 : Nat) : Int) ∧ FF 12 = iv ((plN H 2 : Nat) : Int) ∧ FF 13 = v1105 ∧ FF 15 = v1142 ∧ FF 115 = undef ∧ FF 9 = V2 ∧ FF 17 = iv ((i2 : Nat) : Int) ∧ Kept (fun _ => False) w0 ww ∧ Byt ww T_b v l ∧ Stc ww p1 23 [iv W, iv H, iv R, iv B] ∧ Stc ww p10 25 [iv K, iv Q, iv D, iv F] ∧ Rfi ww T1197 p77 l (ps2.s) ∧ Vfo ww T212 v139 (some ps0.a) ∧ Vfo ww T213 v166 (some ps0.b) ∧ Vfo ww T682 v597 (some ps1.a) ∧ Vfo ww T683 v630 (some ps1.b) ∧ Vfo ww T1198 v1105 (some ps2.a) ∧ Vfo ww T1199 v1142 (some ps2.b) ∧ RoO rCh ww T1200 V2 o2 ∧ Grew w0 noB T1197 ∧ Grew w0 noB T1198 ∧ Grew w0 noB T1199 ∧ Grew w0 noB T1200 ∧ Apart T1197 T_b ∧ Apart T1197 (onB p1) ∧ Apart T1197 (onB p10) ∧ Apart T1197 T212 ∧ Apart T1197 T213 ∧ Apart T1197 T682 ∧ Apart T1197 T683 ∧ Apart T1197 T1198 ∧ Apart T1197 T1199 ∧ Apart T1197 T1200 ∧ Apart T1198 T_b ∧ Apart T1198 (onB p1) ∧ Apart T1198 (onB p10) ∧ Apart T1198 T212 ∧ Apart T1198 T213 ∧ Apart T1198 T682 ∧ Apart T1198 T683 ∧ Apart T1198 T1199 ∧ Apart T1198 T1200 ∧ Apart T1199 T_b ∧ Apart T1199 (onB p1) ∧ Apart T1199 (onB p10) ∧ Apart T1199 T212 ∧ Apart T1199 T213 ∧ Apart T1199 T682 ∧ Apart T1199 T683 ∧ Apart T1199 T1200 ∧ Apart T1200 T_b ∧ Apart T1200 (onB p1) ∧ Apart T1200 (onB p10) ∧ Apart T1200 T212 ∧ Apart T1200 T213 ∧ Apart T1200 T682 ∧ Apart T1200 T683) ((plN W 2 * plN H 2) - 0) ⟨0, PSt.mk (newV ((plN W 2 : Nat) : Int) ((plN H 2 : Nat) : Int)) (newV ((plN W 2 : Nat) : Int) ((plN H 2 : Nat) : Int)) (plTo l K W H 2).2.2, (plTo l K W H 2).1, V1, T681, T1108, T1145, T684, by omega, ((plTo_yes hpl).symm), (plTo_len 2 hpl), rfl, s1186, s1187, s1188, s1191, s1192, s1193, s1194, s1195, s1189, s1190, s1196, K1158, B1148, B1149, B1150, B1151, B1152, B1153, B1154, B1155, B1182, B1183, B1156, gr710, gr1121, gr1159, gr713, ap714, ap715, ap716, ap717, ap718, ap719, ap720, ap1125.symm, ap1163.symm, ap721, ap1122, ap1123, ap1124, ap1126, ap1127, ap1128, ap1129, ap1169.symm, ap1130, ap1160, ap1161, ap1162, ap1164, ap1165, ap1166, ap1167, ap1168, ap735, ap736, ap737, ap738, ap739, ap728.symm, ap734.symm⟩ ?_))
     rintro n1204 F1201 w1202 ⟨i2, ps2, o2, V2, T1197, T1198, T1199, T1200, i1205, hrun, hlo, hn1204, s1206, s1207, s1208, s1209, s1210, s1211, s1212, s1213, s1214, s1215, s1216, K1203, B1217, B1218, B1219, B1220, B1221, B1222, B1223, B1224, B1225, B1226, B1227, gr1228, gr1229, gr1230, gr1231, ap1232, ap1233, ap1234, ap1235, ap1236, ap1237, ap1238, ap1239, ap1240, ap1241, ap1242, ap1243, ap1244, ap1245, ap1246, ap1247, ap1248, ap1249, ap1250, ap1251, ap1252, ap1253, ap1254, ap1255, ap1256, ap1257, ap1258, ap1259, ap1260, ap1261, ap1262, ap1263, ap1264, ap1265⟩
     refine wq_seq (wq_seq (wq_region (wl_mv rfl rfl rfl s1216 (wl_mv rfl rfl rfl s1210 (wl_mv rfl rfl rfl s1211 (wl_v (iv ((plN W 2 * plN H 2 : Nat) : Int)) rfl rfl (y_mul rfl rfl rfl (i64_n (by rw [Int.natCast_mul]) (by omega)) rr) (wl_v (.bool (decide (((i2 : Nat) : Int) < ((plN W 2 * plN H 2 : Nat) : Int)))) rfl rfl (y_lss rfl rfl rfl rfl rr) (wl_nil fun F1266 hF1267 => ?_))))))))
     obtain ⟨s1268, s1269, s1270, s1271, s1272, s1273, s1274, s1275, s1276, s1277, s1278⟩ := t11 hF1267 3 s1206 4 s1207 8 s1208 10 s1209 11 s1210 12 s1211 13 s1212 15 s1213 115 s1214 9 s1215 17 s1216
     have s1279 : F1266 58 = .bool (decide (((i2 : Nat) : Int) < ((plN W 2 * plN H 2 : Nat) : Int))) := (hF1267 58).trans rfl
     clear hF1267
     refine then_normal ?_
     refine wq_cond s1279 (fun c1280 => ?_) (fun c1280 => ?_)
     ·replace c1280 := of_decide_eq_true c1280
      refine wq_skip (then_normal (wq_seq (wq_block (wq_seq ?_))))
      have hdv := Nat.div_le_self i2 (plN W 2)
      refine wq_cas (γ := (Nat → Prop)) [(20, 19), (21, 19), (22, 19), (24, 19), (25, 19), (24, 23), (25, 23)] [some 62, some 63, some 64, some 65, some 66, some 67, some 68, some 69, some 70, some 71, some 72, some 73, some 74, some 75, some 76, some 77, some 78, some 79, some 80, some 81, some 61, some 82, some 83, some 18, none, some 19] ⟨fun w_ => Rfi w_ T1197 p77 l (ps2.s), T1197, fun g_ w_ => (Rfi w_ g_ p77 l ((rdCh l K (gX (ps2.a) (pX (plN W 2) i2) (pY (plN W 2) i2)) (gY (ps2.a) (pX (plN W 2) i2) (pY (plN W 2) i2)) (gX (ps2.b) (pX (plN W 2) i2) (pY (plN W 2) i2)) (gY (ps2.b) (pX (plN W 2) i2) (pY (plN W 2) i2)) (ps2.s)).2.2) ∧ Grew w1202 T1197 g_), fun g_ => g_, fun p_ w_ => Stc w_ p_ 71 (chL 0 0 0 0 0 (fun _ => (0 : Int))), fun g_ p_ w_ => Stc w_ p_ 71 (chW ((rdCh l K (gX (ps2.a) (pX (plN W 2) i2) (pY (plN W 2) i2)) (gY (ps2.a) (pX (plN W 2) i2) (pY (plN W 2) i2)) (gX (ps2.b) (pX (plN W 2) i2) (pY (plN W 2) i2)) (gY (ps2.b) (pX (plN W 2) i2) (pY (plN W 2) i2)) (ps2.s)).1))⟩ T1197 (fun p_ => w1202.heap.size ≤ p_) [fun g_ => pt p77 0, fun g_ => pt p10 0, fun g_ => iv K, fun g_ => v1105, fun g_ => iv ((i2 : Nat) : Int), fun g_ => iv ((plN W 2 : Nat) : Int), fun g_ => iv (pX (plN W 2) i2), fun g_ => iv ((i2 : Nat) : Int), fun g_ => iv ((plN W 2 : Nat) : Int), fun g_ => iv (pY (plN W 2) i2), fun g_ => .agg #[iv (gX (ps2.a) (pX (plN W 2) i2) (pY (plN W 2) i2)), iv (gY (ps2.a) (pX (plN W 2) i2) (pY (plN W 2) i2))], fun g_ => v1142, fun g_ => iv ((i2 : Nat) : Int), fun g_ => iv ((plN W 2 : Nat) : Int), fun g_ => iv (pX (plN W 2) i2), fun g_ => iv ((i2 : Nat) : Int), fun g_ => iv ((plN W 2 : Nat) : Int), fun g_ => iv (pY (plN W 2) i2), fun g_ => .agg #[iv (gX (ps2.b) (pX (plN W 2) i2) (pY (plN W 2) i2)), iv (gY (ps2.b) (pX (plN W 2) i2) (pY (plN W 2) i2))], fun g_ => .tuple #[.agg (chW ((rdCh l K (gX (ps2.a) (pX (plN W 2) i2) (pY (plN W 2) i2)) (gY (ps2.a) (pX (plN W 2) i2) (pY (plN W 2) i2)) (gX (ps2.b) (pX (plN W 2) i2) (pY (plN W 2) i2)) (gY (ps2.b) (pX (plN W 2) i2) (pY (plN W 2) i2)) (ps2.s)).1)).toArray, iv ((rdCh l K (gX (ps2.a) (pX (plN W 2) i2) (pY (plN W 2) i2)) (gY (ps2.a) (pX (plN W 2) i2) (pY (plN W 2) i2)) (gX (ps2.b) (pX (plN W 2) i2) (pY (plN W 2) i2)) (gY (ps2.b) (pX (plN W 2) i2) (pY (plN W 2) i2)) (ps2.s)).2.1)], fun g_ => .tuple #[.agg (chW ((rdCh l K (gX (ps2.a) (pX (plN W 2) i2) (pY (plN W 2) i2)) (gY (ps2.a) (pX (plN W 2) i2) (pY (plN W 2) i2)) (gX (ps2.b) (pX (plN W 2) i2) (pY (plN W 2) i2)) (gY (ps2.b) (pX (plN W 2) i2) (pY (plN W 2) i2)) (ps2.s)).1)).toArray, iv ((rdCh l K (gX (ps2.a) (pX (plN W 2) i2) (pY (plN W 2) i2)) (gY (ps2.a) (pX (plN W 2) i2) (pY (plN W 2) i2)) (gX (ps2.b) (pX (plN W 2) i2) (pY (plN W 2) i2)) (gY (ps2.b) (pX (plN W 2) i2) (pY (plN W 2) i2)) (ps2.s)).2.1)], fun g_ => .agg (chW ((rdCh l K (gX (ps2.a) (pX (plN W 2) i2) (pY (plN W 2) i2)) (gY (ps2.a) (pX (plN W 2) i2) (pY (plN W 2) i2)) (gX (ps2.b) (pX (plN W 2) i2) (pY (plN W 2) i2)) (gY (ps2.b) (pX (plN W 2) i2) (pY (plN W 2) i2)) (ps2.s)).1)).toArray, fun g_ => iv ((rdCh l K (gX (ps2.a) (pX (plN W 2) i2) (pY (plN W 2) i2)) (gY (ps2.a) (pX (plN W 2) i2) (pY (plN W 2) i2)) (gX (ps2.b) (pX (plN W 2) i2) (pY (plN W 2) i2)) (gY (ps2.b) (pX (plN W 2) i2) (pY (plN W 2) i2)) (ps2.s)).2.1), fun _ => undef, fun _ => undef, fun g_ => iv ((rdCh l K (gX (ps2.a) (pX (plN W 2) i2) (pY (plN W 2) i2)) (gY (ps2.a) (pX (plN W 2) i2) (pY (plN W 2) i2)) (gX (ps2.b) (pX (plN W 2) i2) (pY (plN W 2) i2)) (gY (ps2.b) (pX (plN W 2) i2) (pY (plN W 2) i2)) (ps2.s)).2.1)] 19 24 (some 23) noB 0 (by kernel_rfl) (by kernel_rfl) (by kernel_rfl) (by kernel_rfl) ⟨.inr (.inr fun _ _ => rfl), ⟨.inr (.inr fun _ _ => rfl), ⟨.inr (.inr fun _ _ => rfl), ⟨.inr (.inr fun _ _ => rfl), ⟨.inr (.inr fun _ _ => rfl), ⟨.inr (.inr fun _ _ => rfl), ⟨.inr (.inr fun _ _ => rfl), ⟨.inr (.inr fun _ _ => rfl), ⟨.inr (.inr fun _ _ => rfl), ⟨.inr (.inr fun _ _ => rfl), ⟨.inr (.inr fun _ _ => rfl), ⟨.inr (.inr fun _ _ => rfl), ⟨.inr (.inr fun _ _ => rfl), ⟨.inr (.inr fun _ _ => rfl), ⟨.inr (.inr fun _ _ => rfl), ⟨.inr (.inr fun _ _ => rfl), ⟨.inr (.inr fun _ _ => rfl), ⟨.inr (.inr fun _ _ => rfl), ⟨.inr (.inr fun _ _ => rfl), ⟨.inr (.inl rfl), ⟨.inl rfl, ⟨.inl rfl, ⟨.inl rfl, ⟨.inr (.inr fun _ _ => rfl), ⟨.inl rfl, ⟨.inl rfl, trivial⟩⟩⟩⟩⟩⟩⟩⟩⟩⟩⟩⟩⟩⟩⟩⟩⟩⟩⟩⟩⟩⟩⟩⟩⟩⟩ ⟨B1220, fun w w1 S1 h k a => h.all k (fun i z => a i z), fun w h i z => h.live i z, fun g w w1 S1 h k a => by obtain ⟨b0_, g0_⟩ := h; exact ⟨b0_.all k (fun i z => a i z), g0_⟩, fun g w h i z => by obtain ⟨b0_, g0_⟩ := h; exact b0_.live i z, fun _ _ _ _ h k z => h.all k z, fun _ _ h => h.lt, fun _ _ _ _ _ h k z => h.all k z, fun _ z => z, fun _ h => .inr h, fun p h z => absurd h (Nat.not_le.2 (B1220.live p z))⟩ (fun _ _ _ h => h) (fun e => by cases e) ?_ ?_
      ·refine stepsFX_cons ?_ ?_
       ·refine StepFX.one rfl rfl rfl rfl fun g_ p_ F_ w_ hR hout hD => ?_
        exact (y_mov rfl ((hout 8 rfl (by decide)).trans s1270) ⟨rfl, Kept.refl _ _⟩)
       refine stepsFX_cons ?_ ?_
       ·refine StepFX.one rfl rfl rfl rfl fun g_ p_ F_ w_ hR hout hD => ?_
        exact (y_fieldR (n := 1) rfl ((hout 4 rfl (by decide)).trans s1269) Tryz.underlying25 rfl (by kernel_rfl) (by decide) rfl ⟨rfl, Kept.refl _ _⟩)
       refine stepsFX_cons ?_ ?_
       ·refine StepFX.one rfl rfl rfl rfl fun g_ p_ F_ w_ hR hout hD => ?_
        have g63 : F_ 63 = pt p10 0 := (hD.get 0 rfl rfl rfl).2 (by decide)
        exact (y_ld_stc rfl g63 Tryz.underlying3 (B1219.all hR (ap1234.symm p10 rfl)) rfl rfl ⟨rfl, Kept.refl _ _⟩)
       refine stepsFX_cons ?_ ?_
       ·refine StepFX.one rfl rfl rfl rfl fun g_ p_ F_ w_ hR hout hD => ?_
        exact (y_mov rfl ((hout 13 rfl (by decide)).trans s1274) ⟨rfl, Kept.refl _ _⟩)
       refine stepsFX_cons ?_ ?_
       ·refine StepFX.one rfl rfl rfl rfl fun g_ p_ F_ w_ hR hout hD => ?_
        exact (y_mov rfl ((hout 17 rfl (by decide)).trans s1278) ⟨rfl, Kept.refl _ _⟩)
       refine stepsFX_cons ?_ ?_
       ·refine StepFX.one rfl rfl rfl rfl fun g_ p_ F_ w_ hR hout hD => ?_
        exact (y_mov rfl ((hout 11 rfl (by decide)).trans s1272) ⟨rfl, Kept.refl _ _⟩)
       refine stepsFX_cons ?_ ?_
       ·refine StepFX.one rfl rfl rfl rfl fun g_ p_ F_ w_ hR hout hD => ?_
        have g66 : F_ 66 = iv ((i2 : Nat) : Int) := (hD.get 0 rfl rfl rfl).2 (by decide)
        have g67 : F_ 67 = iv ((plN W 2 : Nat) : Int) := (hD.get 1 rfl rfl rfl).2 (by decide)
        exact (y_rem rfl g66 g67 (by first | decide | omega) (rem_nat i2 (plN W 2)) ⟨rfl, Kept.refl _ _⟩)
       refine stepsFX_cons ?_ ?_
       ·refine StepFX.one rfl rfl rfl rfl fun g_ p_ F_ w_ hR hout hD => ?_
        exact (y_mov rfl ((hout 17 rfl (by decide)).trans s1278) ⟨rfl, Kept.refl _ _⟩)
       refine stepsFX_cons ?_ ?_
       ·refine StepFX.one rfl rfl rfl rfl fun g_ p_ F_ w_ hR hout hD => ?_
        exact (y_mov rfl ((hout 11 rfl (by decide)).trans s1272) ⟨rfl, Kept.refl _ _⟩)
       refine stepsFX_cons ?_ ?_
       ·refine StepFX.one rfl rfl rfl rfl fun g_ p_ F_ w_ hR hout hD => ?_
        have g69 : F_ 69 = iv ((i2 : Nat) : Int) := (hD.get 0 rfl rfl rfl).2 (by decide)
        have g70 : F_ 70 = iv ((plN W 2 : Nat) : Int) := (hD.get 1 rfl rfl rfl).2 (by decide)
        exact (y_quo rfl g69 g70 (by first | decide | omega) (i64_n (quo_nat i2 (plN W 2)) (by omega)) ⟨rfl, Kept.refl _ _⟩)
       refine stepsFX_cons ?_ ?_
       ·refine StepFX.one rfl rfl rfl rfl fun g_ p_ F_ w_ hR hout hD => ?_
        have g65 : F_ 65 = v1105 := (hD.get 0 rfl rfl rfl).2 (by decide)
        have g68 : F_ 68 = iv (pX (plN W 2) i2) := (hD.get 1 rfl rfl rfl).2 (by decide)
        have g71 : F_ 71 = iv (pY (plN W 2) i2) := (hD.get 2 rfl rfl rfl).2 (by decide)
        exact (y_cs rfl rfl rfl (fun _ _ => by kernel_rfl) (ev_func _) (vsC g65 (vsC g68 (vsC g71 vsN))) (mref_vguess v1105 (ps2.a) (pX (plN W 2) i2) (pY (plN W 2) i2) T1198 _  (B1225.all hR ap1239.symm) ) (fun e_ w_ h_ => ⟨_, h_.1, rfl, h_.2⟩))
       refine stepsFX_cons ?_ ?_
       ·refine StepFX.one rfl rfl rfl rfl fun g_ p_ F_ w_ hR hout hD => ?_
        exact (y_mov rfl ((hout 15 rfl (by decide)).trans s1275) ⟨rfl, Kept.refl _ _⟩)
       refine stepsFX_cons ?_ ?_
       ·refine StepFX.one rfl rfl rfl rfl fun g_ p_ F_ w_ hR hout hD => ?_
        exact (y_mov rfl ((hout 17 rfl (by decide)).trans s1278) ⟨rfl, Kept.refl _ _⟩)
       refine stepsFX_cons ?_ ?_
       ·refine StepFX.one rfl rfl rfl rfl fun g_ p_ F_ w_ hR hout hD => ?_
        exact (y_mov rfl ((hout 11 rfl (by decide)).trans s1272) ⟨rfl, Kept.refl _ _⟩)
       refine stepsFX_cons ?_ ?_
       ·refine StepFX.one rfl rfl rfl rfl fun g_ p_ F_ w_ hR hout hD => ?_
        have g74 : F_ 74 = iv ((i2 : Nat) : Int) := (hD.get 0 rfl rfl rfl).2 (by decide)
        have g75 : F_ 75 = iv ((plN W 2 : Nat) : Int) := (hD.get 1 rfl rfl rfl).2 (by decide)
        exact (y_rem rfl g74 g75 (by first | decide | omega) (rem_nat i2 (plN W 2)) ⟨rfl, Kept.refl _ _⟩)
       refine stepsFX_cons ?_ ?_
       ·refine StepFX.one rfl rfl rfl rfl fun g_ p_ F_ w_ hR hout hD => ?_
        exact (y_mov rfl ((hout 17 rfl (by decide)).trans s1278) ⟨rfl, Kept.refl _ _⟩)
       refine stepsFX_cons ?_ ?_
       ·refine StepFX.one rfl rfl rfl rfl fun g_ p_ F_ w_ hR hout hD => ?_
        exact (y_mov rfl ((hout 11 rfl (by decide)).trans s1272) ⟨rfl, Kept.refl _ _⟩)
       refine stepsFX_cons ?_ ?_
       ·refine StepFX.one rfl rfl rfl rfl fun g_ p_ F_ w_ hR hout hD => ?_
        have g77 : F_ 77 = iv ((i2 : Nat) : Int) := (hD.get 0 rfl rfl rfl).2 (by decide)
        have g78 : F_ 78 = iv ((plN W 2 : Nat) : Int) := (hD.get 1 rfl rfl rfl).2 (by decide)
        exact (y_quo rfl g77 g78 (by first | decide | omega) (i64_n (quo_nat i2 (plN W 2)) (by omega)) ⟨rfl, Kept.refl _ _⟩)
       refine stepsFX_cons ?_ ?_
       ·refine StepFX.one rfl rfl rfl rfl fun g_ p_ F_ w_ hR hout hD => ?_
        have g73 : F_ 73 = v1142 := (hD.get 0 rfl rfl rfl).2 (by decide)
        have g76 : F_ 76 = iv (pX (plN W 2) i2) := (hD.get 1 rfl rfl rfl).2 (by decide)
        have g79 : F_ 79 = iv (pY (plN W 2) i2) := (hD.get 2 rfl rfl rfl).2 (by decide)
        exact (y_cs rfl rfl rfl (fun _ _ => by kernel_rfl) (ev_func _) (vsC g73 (vsC g76 (vsC g79 vsN))) (mref_vguess v1142 (ps2.b) (pX (plN W 2) i2) (pY (plN W 2) i2) T1199 _  (B1226.all hR ap1240.symm) ) (fun e_ w_ h_ => ⟨_, h_.1, rfl, h_.2⟩))
       refine stepsFX_cons ?_ ?_
       ·refine StepFX.call rfl rfl rfl rfl fun g_ p_ F_ w_ hR hout hD hP_ => ?_
        have g62 : F_ 62 = pt p77 0 := (hD.get 0 rfl rfl rfl).2 (by decide)
        have g64 : F_ 64 = iv K := (hD.get 1 rfl rfl rfl).2 (by decide)
        have g72 : F_ 72 = .agg #[iv (gX (ps2.a) (pX (plN W 2) i2) (pY (plN W 2) i2)), iv (gY (ps2.a) (pX (plN W 2) i2) (pY (plN W 2) i2))] := (hD.get 2 rfl rfl rfl).2 (by decide)
        have g80 : F_ 80 = .agg #[iv (gX (ps2.b) (pX (plN W 2) i2) (pY (plN W 2) i2)), iv (gY (ps2.b) (pX (plN W 2) i2) (pY (plN W 2) i2))] := (hD.get 3 rfl rfl rfl).2 (by decide)
        exact (y_cs rfl rfl rfl (fun _ _ => by kernel_rfl) (ev_func _) (vsC g62 (vsC g64 (vsC g72 (vsC g80 vsN)))) (bref_read p77 l (ps2.s) K (gX (ps2.a) (pX (plN W 2) i2) (pY (plN W 2) i2)) (gY (ps2.a) (pX (plN W 2) i2) (pY (plN W 2) i2)) (gX (ps2.b) (pX (plN W 2) i2) (pY (plN W 2) i2)) (gY (ps2.b) (pX (plN W 2) i2) (pY (plN W 2) i2)) T1197 _  hP_ ) (fun e_ w_ h_ => by obtain ⟨x0_, he_, hk_, ⟨b0_, g0_⟩⟩ := h_; exact ⟨_, he_, x0_, rfl, hk_, ⟨b0_, (Grew.refl w1202 _).trans hR g0_⟩, fun b hb => (g0_ b hb).elim (fun z => .inl z) .inr⟩))
       refine stepsFX_cons ?_ ?_
       ·refine StepFX.one rfl rfl rfl rfl fun g_ p_ F_ w_ hR hout hD => ?_
        have g81 : F_ 81 = .tuple #[.agg (chW ((rdCh l K (gX (ps2.a) (pX (plN W 2) i2) (pY (plN W 2) i2)) (gY (ps2.a) (pX (plN W 2) i2) (pY (plN W 2) i2)) (gX (ps2.b) (pX (plN W 2) i2) (pY (plN W 2) i2)) (gY (ps2.b) (pX (plN W 2) i2) (pY (plN W 2) i2)) (ps2.s)).1)).toArray, iv ((rdCh l K (gX (ps2.a) (pX (plN W 2) i2) (pY (plN W 2) i2)) (gY (ps2.a) (pX (plN W 2) i2) (pY (plN W 2) i2)) (gX (ps2.b) (pX (plN W 2) i2) (pY (plN W 2) i2)) (gY (ps2.b) (pX (plN W 2) i2) (pY (plN W 2) i2)) (ps2.s)).2.1)] := (hD.get 0 rfl rfl rfl).2 (by decide)
        exact (y_mov rfl g81 ⟨rfl, Kept.refl _ _⟩)
       refine stepsFX_cons ?_ ?_
       ·refine StepFX.one rfl rfl rfl rfl fun g_ p_ F_ w_ hR hout hD => ?_
        have g61 : F_ 61 = .tuple #[.agg (chW ((rdCh l K (gX (ps2.a) (pX (plN W 2) i2) (pY (plN W 2) i2)) (gY (ps2.a) (pX (plN W 2) i2) (pY (plN W 2) i2)) (gX (ps2.b) (pX (plN W 2) i2) (pY (plN W 2) i2)) (gY (ps2.b) (pX (plN W 2) i2) (pY (plN W 2) i2)) (ps2.s)).1)).toArray, iv ((rdCh l K (gX (ps2.a) (pX (plN W 2) i2) (pY (plN W 2) i2)) (gY (ps2.a) (pX (plN W 2) i2) (pY (plN W 2) i2)) (gX (ps2.b) (pX (plN W 2) i2) (pY (plN W 2) i2)) (gY (ps2.b) (pX (plN W 2) i2) (pY (plN W 2) i2)) (ps2.s)).2.1)] := (hD.get 0 rfl rfl rfl).2 (by decide)
        exact (y_ext rfl g61 rfl ⟨rfl, Kept.refl _ _⟩)
       refine stepsFX_cons ?_ ?_
       ·refine StepFX.one rfl rfl rfl rfl fun g_ p_ F_ w_ hR hout hD => ?_
        have g61 : F_ 61 = .tuple #[.agg (chW ((rdCh l K (gX (ps2.a) (pX (plN W 2) i2) (pY (plN W 2) i2)) (gY (ps2.a) (pX (plN W 2) i2) (pY (plN W 2) i2)) (gX (ps2.b) (pX (plN W 2) i2) (pY (plN W 2) i2)) (gY (ps2.b) (pX (plN W 2) i2) (pY (plN W 2) i2)) (ps2.s)).1)).toArray, iv ((rdCh l K (gX (ps2.a) (pX (plN W 2) i2) (pY (plN W 2) i2)) (gY (ps2.a) (pX (plN W 2) i2) (pY (plN W 2) i2)) (gX (ps2.b) (pX (plN W 2) i2) (pY (plN W 2) i2)) (gY (ps2.b) (pX (plN W 2) i2) (pY (plN W 2) i2)) (ps2.s)).2.1)] := (hD.get 0 rfl rfl rfl).2 (by decide)
        exact (y_ext rfl g61 rfl ⟨rfl, Kept.refl _ _⟩)
       refine stepsFX_cons ?_ ?_
       ·refine StepFX.alloc rfl rfl rfl rfl fun F_ w_ hR => ?_
        exact y_alloc_stc (n := 21) (vs := (chL 0 0 0 0 0 (fun _ => (0 : Int)))) rfl (by kernel_rfl) ⟨_, rfl, Nat.le_refl _, heap_alloc_new _ _, (Kept.refl _ _).alloc _⟩
       refine stepsFX_cons ?_ ?_
       ·refine StepFX.store rfl rfl rfl rfl fun g_ p_ F_ w_ hR hout hD hO_ hZ_ hQ_ => ?_
        have g18 : F_ 18 = pt p_ 0 := (hD.get 0 rfl rfl rfl).1 rfl
        have g82 : F_ 82 = .agg (chW ((rdCh l K (gX (ps2.a) (pX (plN W 2) i2) (pY (plN W 2) i2)) (gY (ps2.a) (pX (plN W 2) i2) (pY (plN W 2) i2)) (gX (ps2.b) (pX (plN W 2) i2) (pY (plN W 2) i2)) (gY (ps2.b) (pX (plN W 2) i2) (pY (plN W 2) i2)) (ps2.s)).1)).toArray := (hD.get 1 rfl rfl rfl).2 (by decide)
        exact y_storeStc (us := (chW ((rdCh l K (gX (ps2.a) (pX (plN W 2) i2) (pY (plN W 2) i2)) (gY (ps2.a) (pX (plN W 2) i2) (pY (plN W 2) i2)) (gX (ps2.b) (pX (plN W 2) i2) (pY (plN W 2) i2)) (gY (ps2.b) (pX (plN W 2) i2) (pY (plN W 2) i2)) (ps2.s)).1))) stcT_choice rfl g18 g82 hZ_ rfl (oneI rfl (oneI rfl (oneI rfl (oneI rfl (oneI rfl (oneI rfl (oneI rfl (oneI rfl (oneI rfl (oneI rfl (oneI rfl (oneI rfl (oneI rfl (oneI rfl (oneI rfl (oneI rfl (oneI rfl (oneI rfl (oneI rfl (oneI rfl (oneI rfl oneN))))))))))))))))))))) fun w2_ b_ k_ => ⟨rfl, k_, b_⟩
       refine stepsFX_cons ?_ ?_
       ·refine StepFX.one rfl rfl rfl rfl fun g_ p_ F_ w_ hR hout hD => ?_
        have g83 : F_ 83 = iv ((rdCh l K (gX (ps2.a) (pX (plN W 2) i2) (pY (plN W 2) i2)) (gY (ps2.a) (pX (plN W 2) i2) (pY (plN W 2) i2)) (gX (ps2.b) (pX (plN W 2) i2) (pY (plN W 2) i2)) (gY (ps2.b) (pX (plN W 2) i2) (pY (plN W 2) i2)) (ps2.s)).2.1) := (hD.get 0 rfl rfl rfl).2 (by decide)
        exact (y_asg rfl g83 ⟨rfl, Kept.refl _ _⟩)
       exact stepsFX_nil
      intro gg1281 p1282 v1283 F1284 w1285 k1286 hp1287 hQ1288 hG1289 hY1290 hN1291 hA1292 hV1293 hF1294
      obtain ⟨T1295, e_gg1281⟩ : ∃ z, z = gg1281 := ⟨_, rfl⟩; subst e_gg1281
      have B1296 := B1217.all k1286 ap1232.symm
      have B1297 := B1218.all k1286 (ap1233.symm p1 rfl)
      have B1298 := B1219.all k1286 (ap1234.symm p10 rfl)
      have B1299 := B1221.all k1286 ap1235.symm
      have B1300 := B1222.all k1286 ap1236.symm
      have B1301 := B1223.all k1286 ap1237.symm
      have B1302 := B1224.all k1286 ap1238.symm
      have B1303 := B1225.all k1286 ap1239.symm
      have B1304 := B1226.all k1286 ap1240.symm
      have B1305 := B1227.all k1286 ap1241.symm
      have K1306 := K1203.trans k1286 (fun i hi x => ((Grew.ok (S := fun _ => False) gr1228 noB_le) i hi x))
      obtain ⟨B1307, g1308⟩ := hQ1288
      replace B1307 : Rfi w1285 T1295 p77 l ((rdCh l K (gX (ps2.a) (pX (plN W 2) i2) (pY (plN W 2) i2)) (gY (ps2.a) (pX (plN W 2) i2) (pY (plN W 2) i2)) (gX (ps2.b) (pX (plN W 2) i2) (pY (plN W 2) i2)) (gY (ps2.b) (pX (plN W 2) i2) (pY (plN W 2) i2)) (ps2.s)).2.2) := B1307
      replace g1308 : Grew w1202 T1197 T1295 := g1308
      have gr1309 := gr1228.trans K1203 g1308
      have ap1310 : Apart T1295 T_b := ap1232.grew g1308 B1217.live
      have ap1311 : Apart T1295 (onB p1) := ap1233.grew g1308 (onB_live B1218.lt)
      have ap1312 : Apart T1295 (onB p10) := ap1234.grew g1308 (onB_live B1219.lt)
      have ap1313 : Apart T1295 T212 := ap1235.grew g1308 B1221.live
      have ap1314 : Apart T1295 T213 := ap1236.grew g1308 B1222.live
      have ap1315 : Apart T1295 T682 := ap1237.grew g1308 B1223.live
      have ap1316 : Apart T1295 T683 := ap1238.grew g1308 B1224.live
      have ap1317 : Apart T1295 T1198 := ap1239.grew g1308 B1225.live
      have ap1318 : Apart T1295 T1199 := ap1240.grew g1308 B1226.live
      have ap1319 : Apart T1295 T1200 := ap1241.grew g1308 B1227.live
      replace hY1290 : Stc w1285 p1282 71 (chW ((rdCh l K (gX (ps2.a) (pX (plN W 2) i2) (pY (plN W 2) i2)) (gY (ps2.a) (pX (plN W 2) i2) (pY (plN W 2) i2)) (gX (ps2.b) (pX (plN W 2) i2) (pY (plN W 2) i2)) (gY (ps2.b) (pX (plN W 2) i2) (pY (plN W 2) i2)) (ps2.s)).1)) := hY1290
      have ap1328 : Apart (onB p1282) T1198 := Apart.new (onB_new hp1287) B1225.live
      have ap1329 : Apart (onB p1282) T1199 := Apart.new (onB_new hp1287) B1226.live
      obtain ⟨s1332, s1333, s1334, s1335, s1336, s1337, s1338, s1339, s1340, s1341, s1342⟩ := t11 hF1294 3 s1268 4 s1269 8 s1270 10 s1271 11 s1272 12 s1273 13 s1274 15 s1275 115 s1276 9 s1277 17 s1278
      have s1343 : F1284 18 = pt p1282 0 := (hF1294 18).trans (hA1292 23 rfl)
      have s1344 : F1284 19 = iv ((rdCh l K (gX (ps2.a) (pX (plN W 2) i2) (pY (plN W 2) i2)) (gY (ps2.a) (pX (plN W 2) i2) (pY (plN W 2) i2)) (gX (ps2.b) (pX (plN W 2) i2) (pY (plN W 2) i2)) (gY (ps2.b) (pX (plN W 2) i2) (pY (plN W 2) i2)) (ps2.s)).2.1) := (hF1294 19).trans (hV1293 25 (by decide) (by decide))
      clear hF1294 hV1293 hA1292 hN1291 hG1289
      refine then_normal (wq_seq (wq_seq (wq_region (wl_mv rfl rfl rfl s1344 (wl_v (.bool (decide (((rdCh l K (gX (ps2.a) (pX (plN W 2) i2) (pY (plN W 2) i2)) (gY (ps2.a) (pX (plN W 2) i2) (pY (plN W 2) i2)) (gX (ps2.b) (pX (plN W 2) i2) (pY (plN W 2) i2)) (gY (ps2.b) (pX (plN W 2) i2) (pY (plN W 2) i2)) (ps2.s)).2.1) ≠ 0))) rfl rfl (y_neqI rfl rfl rfl rfl rr) (wl_nil fun F1345 hF1346 => ?_))))))
      obtain ⟨s1347, s1348, s1349, s1350, s1351, s1352, s1353, s1354, s1355, s1356, s1357, s1358, s1359⟩ := t13 hF1346 3 s1332 4 s1333 8 s1334 10 s1335 11 s1336 12 s1337 13 s1338 15 s1339 115 s1340 9 s1341 17 s1342 18 s1343 19 s1344
      have s1360 : F1345 85 = .bool (decide (((rdCh l K (gX (ps2.a) (pX (plN W 2) i2) (pY (plN W 2) i2)) (gY (ps2.a) (pX (plN W 2) i2) (pY (plN W 2) i2)) (gX (ps2.b) (pX (plN W 2) i2) (pY (plN W 2) i2)) (gY (ps2.b) (pX (plN W 2) i2) (pY (plN W 2) i2)) (ps2.s)).2.1) ≠ 0)) := (hF1346 85).trans rfl
      clear hF1346
      refine then_normal ?_
      refine wq_cond s1360 (fun c1361 => ?_) (fun c1361 => ?_)
      ·replace c1361 := of_decide_eq_true c1361
       refine wq_seq ?_
       have hcb : (chAt l K (plN W 2) i2 ps2).2.1 ≠ 0 := by assumption
       have hR := chs_bad hm (by decide) (run_bad hrun (by omega) hcb) hcb
       refine wq_region (wl_mv rfl rfl rfl s1359 (wl_v (.slice none 0 0) rfl rfl (y_asg rfl rfl rr) (wl_v (iv ((rdCh l K (gX (ps2.a) (pX (plN W 2) i2) (pY (plN W 2) i2)) (gY (ps2.a) (pX (plN W 2) i2) (pY (plN W 2) i2)) (gX (ps2.b) (pX (plN W 2) i2) (pY (plN W 2) i2)) (gY (ps2.b) (pX (plN W 2) i2) (pY (plN W 2) i2)) (ps2.s)).2.1)) rfl rfl (y_asg rfl rfl rr) (wl_nil fun F1362 hF1363 => ?_))))
       have s1364 := (hF1363 115).trans s1355
       have s1365 : F1362 6 = .slice none 0 0 := (hF1363 6).trans rfl
       have s1366 : F1362 7 = iv ((rdCh l K (gX (ps2.a) (pX (plN W 2) i2) (pY (plN W 2) i2)) (gY (ps2.a) (pX (plN W 2) i2) (pY (plN W 2) i2)) (gX (ps2.b) (pX (plN W 2) i2) (pY (plN W 2) i2)) (gY (ps2.b) (pX (plN W 2) i2) (pY (plN W 2) i2)) (ps2.s)).2.1) := (hF1363 7).trans rfl
       clear hF1363
       refine then_normal (wq_ret (then_ret (in_ret (then_ret (then_ret (in_ret (in_ret (then_ret (then_ret (in_ret (then_ret ?_)))))))))))
       exact end_2 s1364 rfl (res_tmp (v := .slice none 0 0) rfl s1365) (res_tmp (v := iv ((rdCh l K (gX (ps2.a) (pX (plN W 2) i2) (pY (plN W 2) i2)) (gY (ps2.a) (pX (plN W 2) i2) (pY (plN W 2) i2)) (gX (ps2.b) (pX (plN W 2) i2) (pY (plN W 2) i2)) (gY (ps2.b) (pX (plN W 2) i2) (pY (plN W 2) i2)) (ps2.s)).2.1)) rfl s1366) ⟨(.slice none 0 0), noB, (by rw [hR] <;> rfl), K1306, ⟨(by rw [hR]; exact (RoO.nil rCh _)), (Grew.refl _ _)⟩⟩
      ·replace c1361 := of_decide_eq_false c1361
       refine wq_skip (then_normal (wq_seq ?_))
       have hc : (chAt l K (plN W 2) i2 ps2).2.1 = 0 := by first | assumption | (apply Decidable.byContradiction; assumption)
       have hdv := Nat.div_le_self i2 (plN W 2)
       refine wq_tail 9 [some 87, some 88, some 89, some 90, some 91, some 92, some 93, some 94, some 95] [Pd.eq v1105, Pd.eq (iv ((i2 : Nat) : Int)), Pd.eq (iv ((plN W 2 : Nat) : Int)), Pd.eq (iv (pX (plN W 2) i2)), Pd.eq (iv ((i2 : Nat) : Int)), Pd.eq (iv ((plN W 2 : Nat) : Int)), Pd.eq (iv (pY (plN W 2) i2)), Pd.eq (pt p1282 1), Pd.eq (.agg #[iv (((rdCh l K (gX (ps2.a) (pX (plN W 2) i2) (pY (plN W 2) i2)) (gY (ps2.a) (pX (plN W 2) i2) (pY (plN W 2) i2)) (gX (ps2.b) (pX (plN W 2) i2) (pY (plN W 2) i2)) (gY (ps2.b) (pX (plN W 2) i2) (pY (plN W 2) i2)) (ps2.s)).1).px), iv (((rdCh l K (gX (ps2.a) (pX (plN W 2) i2) (pY (plN W 2) i2)) (gY (ps2.a) (pX (plN W 2) i2) (pY (plN W 2) i2)) (gX (ps2.b) (pX (plN W 2) i2) (pY (plN W 2) i2)) (gY (ps2.b) (pX (plN W 2) i2) (pY (plN W 2) i2)) (ps2.s)).1).py)])] (by kernel_rfl) (by kernel_rfl) (by kernel_rfl) ?_ ?_
       ·refine stepsF_cons ?_ ?_
        ·refine StepF.one rfl fun F_ w_ hR hout hD => ?_
         exact (y_mov rfl ((hout 13 rfl (by decide)).trans s1353) ⟨rfl, Kept.refl _ _⟩)
        refine stepsF_cons ?_ ?_
        ·refine StepF.one rfl fun F_ w_ hR hout hD => ?_
         exact (y_mov rfl ((hout 17 rfl (by decide)).trans s1357) ⟨rfl, Kept.refl _ _⟩)
        refine stepsF_cons ?_ ?_
        ·refine StepF.one rfl fun F_ w_ hR hout hD => ?_
         exact (y_mov rfl ((hout 11 rfl (by decide)).trans s1351) ⟨rfl, Kept.refl _ _⟩)
        refine stepsF_cons ?_ ?_
        ·refine StepF.one rfl fun F_ w_ hR hout hD => ?_
         have g88 : F_ 88 = iv ((i2 : Nat) : Int) := (hD.get 0 rfl rfl rfl)
         have g89 : F_ 89 = iv ((plN W 2 : Nat) : Int) := (hD.get 1 rfl rfl rfl)
         exact (y_rem rfl g88 g89 (by first | decide | omega) (rem_nat i2 (plN W 2)) ⟨rfl, Kept.refl _ _⟩)
        refine stepsF_cons ?_ ?_
        ·refine StepF.one rfl fun F_ w_ hR hout hD => ?_
         exact (y_mov rfl ((hout 17 rfl (by decide)).trans s1357) ⟨rfl, Kept.refl _ _⟩)
        refine stepsF_cons ?_ ?_
        ·refine StepF.one rfl fun F_ w_ hR hout hD => ?_
         exact (y_mov rfl ((hout 11 rfl (by decide)).trans s1351) ⟨rfl, Kept.refl _ _⟩)
        refine stepsF_cons ?_ ?_
        ·refine StepF.one rfl fun F_ w_ hR hout hD => ?_
         have g91 : F_ 91 = iv ((i2 : Nat) : Int) := (hD.get 0 rfl rfl rfl)
         have g92 : F_ 92 = iv ((plN W 2 : Nat) : Int) := (hD.get 1 rfl rfl rfl)
         exact (y_quo rfl g91 g92 (by first | decide | omega) (i64_n (quo_nat i2 (plN W 2)) (by omega)) ⟨rfl, Kept.refl _ _⟩)
        refine stepsF_cons ?_ ?_
        ·refine StepF.one rfl fun F_ w_ hR hout hD => ?_
         exact (y_fieldR (n := 2) rfl ((hout 18 rfl (by decide)).trans s1358) Tryz.underlying71 rfl (by kernel_rfl) (by decide) rfl ⟨rfl, Kept.refl _ _⟩)
        refine stepsF_cons ?_ ?_
        ·refine StepF.one rfl fun F_ w_ hR hout hD => ?_
         have g94 : F_ 94 = pt p1282 1 := (hD.get 0 rfl rfl rfl)
         exact (y_ldPart (n := 2) stcT_vector rfl g94 (hY1290.all hR id) (Nat.le_of_ble_eq_true rfl) rfl ⟨rfl, Kept.refl _ _⟩)
        exact stepsF_nil
       intro v1367 F1368 w1369 k1370 G1371 hF1372
       have B1374 := B1296.all k1370 Apart.none
       have B1375 := B1297.all k1370 id
       have B1376 := B1298.all k1370 id
       have B1377 := B1307.all k1370 Apart.none
       have B1378 := B1299.all k1370 Apart.none
       have B1379 := B1300.all k1370 Apart.none
       have B1380 := B1301.all k1370 Apart.none
       have B1381 := B1302.all k1370 Apart.none
       have B1382 := B1303.all k1370 Apart.none
       have B1383 := B1304.all k1370 Apart.none
       have B1384 := B1305.all k1370 Apart.none
       have B1385 := hY1290.all k1370 id
       have K1386 := K1306.tr k1370
       obtain ⟨s1387, s1388, s1389, s1390, s1391, s1392, s1393, s1394, s1395, s1396, s1397, s1398⟩ := t12 hF1372 3 s1347 4 s1348 8 s1349 10 s1350 11 s1351 12 s1352 13 s1353 15 s1354 115 s1355 9 s1356 17 s1357 18 s1358
       have s1399 : F1368 87 = v1105 := (hF1372 87).trans (G1371 0 (by decide))
       have s1400 : F1368 90 = iv (pX (plN W 2) i2) := (hF1372 90).trans (G1371 3 (by decide))
       have s1401 : F1368 93 = iv (pY (plN W 2) i2) := (hF1372 93).trans (G1371 6 (by decide))
       have s1402 : F1368 95 = .agg #[iv (((rdCh l K (gX (ps2.a) (pX (plN W 2) i2) (pY (plN W 2) i2)) (gY (ps2.a) (pX (plN W 2) i2) (pY (plN W 2) i2)) (gX (ps2.b) (pX (plN W 2) i2) (pY (plN W 2) i2)) (gY (ps2.b) (pX (plN W 2) i2) (pY (plN W 2) i2)) (ps2.s)).1).px), iv (((rdCh l K (gX (ps2.a) (pX (plN W 2) i2) (pY (plN W 2) i2)) (gY (ps2.a) (pX (plN W 2) i2) (pY (plN W 2) i2)) (gX (ps2.b) (pX (plN W 2) i2) (pY (plN W 2) i2)) (gY (ps2.b) (pX (plN W 2) i2) (pY (plN W 2) i2)) (ps2.s)).1).py)] := (hF1372 95).trans (G1371 8 (by decide))
       clear G1371 hF1372
       refine wl_call (R := fun v_ w_ => ∃ (T1405 : Nat → Prop), iv (setE (ps2.a) (pX (plN W 2) i2) (pY (plN W 2) i2) (((rdCh l K (gX (ps2.a) (pX (plN W 2) i2) (pY (plN W 2) i2)) (gY (ps2.a) (pX (plN W 2) i2) (pY (plN W 2) i2)) (gX (ps2.b) (pX (plN W 2) i2) (pY (plN W 2) i2)) (gY (ps2.b) (pX (plN W 2) i2) (pY (plN W 2) i2)) (ps2.s)).1).px) (((rdCh l K (gX (ps2.a) (pX (plN W 2) i2) (pY (plN W 2) i2)) (gY (ps2.a) (pX (plN W 2) i2) (pY (plN W 2) i2)) (gX (ps2.b) (pX (plN W 2) i2) (pY (plN W 2) i2)) (gY (ps2.b) (pX (plN W 2) i2) (pY (plN W 2) i2)) (ps2.s)).1).py)) = v_ ∧ Kept T1198 w1369 w_ ∧ (Vfo w_ T1405 v1105 (some (setV (ps2.a) (pX (plN W 2) i2) (pY (plN W 2) i2) (((rdCh l K (gX (ps2.a) (pX (plN W 2) i2) (pY (plN W 2) i2)) (gY (ps2.a) (pX (plN W 2) i2) (pY (plN W 2) i2)) (gX (ps2.b) (pX (plN W 2) i2) (pY (plN W 2) i2)) (gY (ps2.b) (pX (plN W 2) i2) (pY (plN W 2) i2)) (ps2.s)).1).px) (((rdCh l K (gX (ps2.a) (pX (plN W 2) i2) (pY (plN W 2) i2)) (gY (ps2.a) (pX (plN W 2) i2) (pY (plN W 2) i2)) (gX (ps2.b) (pX (plN W 2) i2) (pY (plN W 2) i2)) (gY (ps2.b) (pX (plN W 2) i2) (pY (plN W 2) i2)) (ps2.s)).1).py))) ∧ Grew w1369 T1198 T1405)) rfl rfl (y_cs rfl rfl rfl (fun _ _ => by kernel_rfl) (ev_func _) (vsC s1399 (vsC s1400 (vsC s1401 (vsC s1402 vsN)))) (mref_vset v1105 (ps2.a) (pX (plN W 2) i2) (pY (plN W 2) i2) (((rdCh l K (gX (ps2.a) (pX (plN W 2) i2) (pY (plN W 2) i2)) (gY (ps2.a) (pX (plN W 2) i2) (pY (plN W 2) i2)) (gX (ps2.b) (pX (plN W 2) i2) (pY (plN W 2) i2)) (gY (ps2.b) (pX (plN W 2) i2) (pY (plN W 2) i2)) (ps2.s)).1).px) (((rdCh l K (gX (ps2.a) (pX (plN W 2) i2) (pY (plN W 2) i2)) (gY (ps2.a) (pX (plN W 2) i2) (pY (plN W 2) i2)) (gX (ps2.b) (pX (plN W 2) i2) (pY (plN W 2) i2)) (gY (ps2.b) (pX (plN W 2) i2) (pY (plN W 2) i2)) (ps2.s)).1).py) T1198 _  B1382 ) (fun e_ w_ h_ => by obtain ⟨T1405_, he_, hr_⟩ := h_; exact ⟨_, he_, T1405_, rfl, hr_⟩)) ?_
       rintro _ w1403 ⟨T1405, rfl, k1404, ⟨B1406, g1407⟩⟩
       have B1408 := B1374.all k1404 ap1242.symm
       have B1409 := B1375.all k1404 (ap1243.symm p1 rfl)
       have B1410 := B1376.all k1404 (ap1244.symm p10 rfl)
       have B1411 := B1377.all k1404 ap1317
       have B1412 := B1378.all k1404 ap1245.symm
       have B1413 := B1379.all k1404 ap1246.symm
       have B1414 := B1380.all k1404 ap1247.symm
       have B1415 := B1381.all k1404 ap1248.symm
       have B1416 := B1383.all k1404 ap1249.symm
       have B1417 := B1384.all k1404 ap1250.symm
       have B1418 := B1385.all k1404 (ap1328 p1282 rfl)
       have K1419 := K1386.trans k1404 (fun i hi x => ((Grew.ok (S := fun _ => False) gr1229 noB_le) i hi x))
       have gr1420 := gr1229.trans K1386 g1407
       have ap1421 : Apart T1405 T_b := ap1242.grew g1407 B1374.live
       have ap1422 : Apart T1405 (onB p1) := ap1243.grew g1407 (onB_live B1375.lt)
       have ap1423 : Apart T1405 (onB p10) := ap1244.grew g1407 (onB_live B1376.lt)
       have ap1424 : Apart T1405 T1295 := (ap1317.symm).grew g1407 B1377.live
       have ap1425 : Apart T1405 T212 := ap1245.grew g1407 B1378.live
       have ap1426 : Apart T1405 T213 := ap1246.grew g1407 B1379.live
       have ap1427 : Apart T1405 T682 := ap1247.grew g1407 B1380.live
       have ap1428 : Apart T1405 T683 := ap1248.grew g1407 B1381.live
       have ap1429 : Apart T1405 T1199 := ap1249.grew g1407 B1383.live
       have ap1430 : Apart T1405 T1200 := ap1250.grew g1407 B1384.live
       refine wl_nil fun F1432 hF1433 => ?_
       obtain ⟨s1434, s1435, s1436, s1437, s1438, s1439, s1440, s1441, s1442, s1443, s1444, s1445⟩ := t12 hF1433 3 s1387 4 s1388 8 s1389 10 s1390 11 s1391 12 s1392 13 s1393 15 s1394 115 s1395 9 s1396 17 s1397 18 s1398
       clear hF1433
       refine then_normal (wq_seq ?_)
       refine wq_tail 9 [some 97, some 98, some 99, some 100, some 101, some 102, some 103, some 104, some 105] [Pd.eq v1142, Pd.eq (iv ((i2 : Nat) : Int)), Pd.eq (iv ((plN W 2 : Nat) : Int)), Pd.eq (iv (pX (plN W 2) i2)), Pd.eq (iv ((i2 : Nat) : Int)), Pd.eq (iv ((plN W 2 : Nat) : Int)), Pd.eq (iv (pY (plN W 2) i2)), Pd.eq (pt p1282 3), Pd.eq (.agg #[iv (((rdCh l K (gX (ps2.a) (pX (plN W 2) i2) (pY (plN W 2) i2)) (gY (ps2.a) (pX (plN W 2) i2) (pY (plN W 2) i2)) (gX (ps2.b) (pX (plN W 2) i2) (pY (plN W 2) i2)) (gY (ps2.b) (pX (plN W 2) i2) (pY (plN W 2) i2)) (ps2.s)).1).nx), iv (((rdCh l K (gX (ps2.a) (pX (plN W 2) i2) (pY (plN W 2) i2)) (gY (ps2.a) (pX (plN W 2) i2) (pY (plN W 2) i2)) (gX (ps2.b) (pX (plN W 2) i2) (pY (plN W 2) i2)) (gY (ps2.b) (pX (plN W 2) i2) (pY (plN W 2) i2)) (ps2.s)).1).ny)])] (by kernel_rfl) (by kernel_rfl) (by kernel_rfl) ?_ ?_
       ·refine stepsF_cons ?_ ?_
        ·refine StepF.one rfl fun F_ w_ hR hout hD => ?_
         exact (y_mov rfl ((hout 15 rfl (by decide)).trans s1441) ⟨rfl, Kept.refl _ _⟩)
        refine stepsF_cons ?_ ?_
        ·refine StepF.one rfl fun F_ w_ hR hout hD => ?_
         exact (y_mov rfl ((hout 17 rfl (by decide)).trans s1444) ⟨rfl, Kept.refl _ _⟩)
        refine stepsF_cons ?_ ?_
        ·refine StepF.one rfl fun F_ w_ hR hout hD => ?_
         exact (y_mov rfl ((hout 11 rfl (by decide)).trans s1438) ⟨rfl, Kept.refl _ _⟩)
        refine stepsF_cons ?_ ?_
        ·refine StepF.one rfl fun F_ w_ hR hout hD => ?_
         have g98 : F_ 98 = iv ((i2 : Nat) : Int) := (hD.get 0 rfl rfl rfl)
         have g99 : F_ 99 = iv ((plN W 2 : Nat) : Int) := (hD.get 1 rfl rfl rfl)
         exact (y_rem rfl g98 g99 (by first | decide | omega) (rem_nat i2 (plN W 2)) ⟨rfl, Kept.refl _ _⟩)
        refine stepsF_cons ?_ ?_
        ·refine StepF.one rfl fun F_ w_ hR hout hD => ?_
         exact (y_mov rfl ((hout 17 rfl (by decide)).trans s1444) ⟨rfl, Kept.refl _ _⟩)
        refine stepsF_cons ?_ ?_
        ·refine StepF.one rfl fun F_ w_ hR hout hD => ?_
         exact (y_mov rfl ((hout 11 rfl (by decide)).trans s1438) ⟨rfl, Kept.refl _ _⟩)
        refine stepsF_cons ?_ ?_
        ·refine StepF.one rfl fun F_ w_ hR hout hD => ?_
         have g101 : F_ 101 = iv ((i2 : Nat) : Int) := (hD.get 0 rfl rfl rfl)
         have g102 : F_ 102 = iv ((plN W 2 : Nat) : Int) := (hD.get 1 rfl rfl rfl)
         exact (y_quo rfl g101 g102 (by first | decide | omega) (i64_n (quo_nat i2 (plN W 2)) (by omega)) ⟨rfl, Kept.refl _ _⟩)
        refine stepsF_cons ?_ ?_
        ·refine StepF.one rfl fun F_ w_ hR hout hD => ?_
         exact (y_fieldR (n := 2) rfl ((hout 18 rfl (by decide)).trans s1445) Tryz.underlying71 rfl (by kernel_rfl) (by decide) rfl ⟨rfl, Kept.refl _ _⟩)
        refine stepsF_cons ?_ ?_
        ·refine StepF.one rfl fun F_ w_ hR hout hD => ?_
         have g104 : F_ 104 = pt p1282 3 := (hD.get 0 rfl rfl rfl)
         exact (y_ldPart (n := 2) stcT_vector rfl g104 (B1418.all hR id) (Nat.le_of_ble_eq_true rfl) rfl ⟨rfl, Kept.refl _ _⟩)
        exact stepsF_nil
       intro v1446 F1447 w1448 k1449 G1450 hF1451
       have B1453 := B1408.all k1449 Apart.none
       have B1454 := B1409.all k1449 id
       have B1455 := B1410.all k1449 id
       have B1456 := B1411.all k1449 Apart.none
       have B1457 := B1412.all k1449 Apart.none
       have B1458 := B1413.all k1449 Apart.none
       have B1459 := B1414.all k1449 Apart.none
       have B1460 := B1415.all k1449 Apart.none
       have B1461 := B1406.all k1449 Apart.none
       have B1462 := B1416.all k1449 Apart.none
       have B1463 := B1417.all k1449 Apart.none
       have B1464 := B1418.all k1449 id
       have K1465 := K1419.tr k1449
       obtain ⟨s1466, s1467, s1468, s1469, s1470, s1471, s1472, s1473, s1474, s1475, s1476, s1477⟩ := t12 hF1451 3 s1434 4 s1435 8 s1436 10 s1437 11 s1438 12 s1439 13 s1440 15 s1441 115 s1442 9 s1443 17 s1444 18 s1445
       have s1478 : F1447 97 = v1142 := (hF1451 97).trans (G1450 0 (by decide))
       have s1479 : F1447 100 = iv (pX (plN W 2) i2) := (hF1451 100).trans (G1450 3 (by decide))
       have s1480 : F1447 103 = iv (pY (plN W 2) i2) := (hF1451 103).trans (G1450 6 (by decide))
       have s1481 : F1447 105 = .agg #[iv (((rdCh l K (gX (ps2.a) (pX (plN W 2) i2) (pY (plN W 2) i2)) (gY (ps2.a) (pX (plN W 2) i2) (pY (plN W 2) i2)) (gX (ps2.b) (pX (plN W 2) i2) (pY (plN W 2) i2)) (gY (ps2.b) (pX (plN W 2) i2) (pY (plN W 2) i2)) (ps2.s)).1).nx), iv (((rdCh l K (gX (ps2.a) (pX (plN W 2) i2) (pY (plN W 2) i2)) (gY (ps2.a) (pX (plN W 2) i2) (pY (plN W 2) i2)) (gX (ps2.b) (pX (plN W 2) i2) (pY (plN W 2) i2)) (gY (ps2.b) (pX (plN W 2) i2) (pY (plN W 2) i2)) (ps2.s)).1).ny)] := (hF1451 105).trans (G1450 8 (by decide))
       clear G1450 hF1451
       refine wl_call (R := fun v_ w_ => ∃ (T1484 : Nat → Prop), iv (setE (ps2.b) (pX (plN W 2) i2) (pY (plN W 2) i2) (((rdCh l K (gX (ps2.a) (pX (plN W 2) i2) (pY (plN W 2) i2)) (gY (ps2.a) (pX (plN W 2) i2) (pY (plN W 2) i2)) (gX (ps2.b) (pX (plN W 2) i2) (pY (plN W 2) i2)) (gY (ps2.b) (pX (plN W 2) i2) (pY (plN W 2) i2)) (ps2.s)).1).nx) (((rdCh l K (gX (ps2.a) (pX (plN W 2) i2) (pY (plN W 2) i2)) (gY (ps2.a) (pX (plN W 2) i2) (pY (plN W 2) i2)) (gX (ps2.b) (pX (plN W 2) i2) (pY (plN W 2) i2)) (gY (ps2.b) (pX (plN W 2) i2) (pY (plN W 2) i2)) (ps2.s)).1).ny)) = v_ ∧ Kept T1199 w1448 w_ ∧ (Vfo w_ T1484 v1142 (some (setV (ps2.b) (pX (plN W 2) i2) (pY (plN W 2) i2) (((rdCh l K (gX (ps2.a) (pX (plN W 2) i2) (pY (plN W 2) i2)) (gY (ps2.a) (pX (plN W 2) i2) (pY (plN W 2) i2)) (gX (ps2.b) (pX (plN W 2) i2) (pY (plN W 2) i2)) (gY (ps2.b) (pX (plN W 2) i2) (pY (plN W 2) i2)) (ps2.s)).1).nx) (((rdCh l K (gX (ps2.a) (pX (plN W 2) i2) (pY (plN W 2) i2)) (gY (ps2.a) (pX (plN W 2) i2) (pY (plN W 2) i2)) (gX (ps2.b) (pX (plN W 2) i2) (pY (plN W 2) i2)) (gY (ps2.b) (pX (plN W 2) i2) (pY (plN W 2) i2)) (ps2.s)).1).ny))) ∧ Grew w1448 T1199 T1484)) rfl rfl (y_cs rfl rfl rfl (fun _ _ => by kernel_rfl) (ev_func _) (vsC s1478 (vsC s1479 (vsC s1480 (vsC s1481 vsN)))) (mref_vset v1142 (ps2.b) (pX (plN W 2) i2) (pY (plN W 2) i2) (((rdCh l K (gX (ps2.a) (pX (plN W 2) i2) (pY (plN W 2) i2)) (gY (ps2.a) (pX (plN W 2) i2) (pY (plN W 2) i2)) (gX (ps2.b) (pX (plN W 2) i2) (pY (plN W 2) i2)) (gY (ps2.b) (pX (plN W 2) i2) (pY (plN W 2) i2)) (ps2.s)).1).nx) (((rdCh l K (gX (ps2.a) (pX (plN W 2) i2) (pY (plN W 2) i2)) (gY (ps2.a) (pX (plN W 2) i2) (pY (plN W 2) i2)) (gX (ps2.b) (pX (plN W 2) i2) (pY (plN W 2) i2)) (gY (ps2.b) (pX (plN W 2) i2) (pY (plN W 2) i2)) (ps2.s)).1).ny) T1199 _  B1462 ) (fun e_ w_ h_ => by obtain ⟨T1484_, he_, hr_⟩ := h_; exact ⟨_, he_, T1484_, rfl, hr_⟩)) ?_
       rintro _ w1482 ⟨T1484, rfl, k1483, ⟨B1485, g1486⟩⟩
       have B1487 := B1453.all k1483 ap1251.symm
       have B1488 := B1454.all k1483 (ap1252.symm p1 rfl)
       have B1489 := B1455.all k1483 (ap1253.symm p10 rfl)
       have B1490 := B1456.all k1483 ap1318
       have B1491 := B1457.all k1483 ap1254.symm
       have B1492 := B1458.all k1483 ap1255.symm
       have B1493 := B1459.all k1483 ap1256.symm
       have B1494 := B1460.all k1483 ap1257.symm
       have B1495 := B1461.all k1483 ap1429
       have B1496 := B1463.all k1483 ap1258.symm
       have B1497 := B1464.all k1483 (ap1329 p1282 rfl)
       have K1498 := K1465.trans k1483 (fun i hi x => ((Grew.ok (S := fun _ => False) gr1230 noB_le) i hi x))
       have gr1499 := gr1230.trans K1465 g1486
       have ap1500 : Apart T1484 T_b := ap1251.grew g1486 B1453.live
       have ap1501 : Apart T1484 (onB p1) := ap1252.grew g1486 (onB_live B1454.lt)
       have ap1502 : Apart T1484 (onB p10) := ap1253.grew g1486 (onB_live B1455.lt)
       have ap1503 : Apart T1484 T1295 := (ap1318.symm).grew g1486 B1456.live
       have ap1504 : Apart T1484 T212 := ap1254.grew g1486 B1457.live
       have ap1505 : Apart T1484 T213 := ap1255.grew g1486 B1458.live
       have ap1506 : Apart T1484 T682 := ap1256.grew g1486 B1459.live
       have ap1507 : Apart T1484 T683 := ap1257.grew g1486 B1460.live
       have ap1508 : Apart T1484 T1405 := (ap1429.symm).grew g1486 B1461.live
       have ap1509 : Apart T1484 T1200 := ap1258.grew g1486 B1463.live
       refine wl_nil fun F1511 hF1512 => ?_
       obtain ⟨s1513, s1514, s1515, s1516, s1517, s1518, s1519, s1520, s1521, s1522, s1523, s1524⟩ := t12 hF1512 3 s1466 4 s1467 8 s1468 10 s1469 11 s1470 12 s1471 13 s1472 15 s1473 115 s1474 9 s1475 17 s1476 18 s1477
       clear hF1512
       refine then_normal (wq_region (wl_mv rfl rfl rfl s1522 (wl_v (.agg (chW ((rdCh l K (gX (ps2.a) (pX (plN W 2) i2) (pY (plN W 2) i2)) (gY (ps2.a) (pX (plN W 2) i2) (pY (plN W 2) i2)) (gX (ps2.b) (pX (plN W 2) i2) (pY (plN W 2) i2)) (gY (ps2.b) (pX (plN W 2) i2) (pY (plN W 2) i2)) (ps2.s)).1)).toArray) rfl rfl (y_load_stc stcT_choice rfl s1524 B1497 rr) (wl_builtRo (r := rCh) (xs := [.tmp 108]) (vs := [.agg (chW ((rdCh l K (gX (ps2.a) (pX (plN W 2) i2) (pY (plN W 2) i2)) (gY (ps2.a) (pX (plN W 2) i2) (pY (plN W 2) i2)) (gX (ps2.b) (pX (plN W 2) i2) (pY (plN W 2) i2)) (gY (ps2.b) (pX (plN W 2) i2) (pY (plN W 2) i2)) (ps2.s)).1)).toArray]) (l := [(rdCh l K (gX (ps2.a) (pX (plN W 2) i2) (pY (plN W 2) i2)) (gY (ps2.a) (pX (plN W 2) i2) (pY (plN W 2) i2)) (gX (ps2.b) (pX (plN W 2) i2) (pY (plN W 2) i2)) (gY (ps2.b) (pX (plN W 2) i2) (pY (plN W 2) i2)) (ps2.s)).1]) rfl rfl rfl rfl rfl (vsC rfl vsN) rfl (by first | decide | exact Nat.le_of_ble_eq_true rfl) (by first | decide | exact Nat.le_of_ble_eq_true rfl) fun v1525 w1526 T1530 B1528 g1529 k1527 => ?_))))
       have B1544 := B1487.all k1527 Apart.none
       have B1545 := B1488.all k1527 id
       have B1546 := B1489.all k1527 id
       have B1547 := B1490.all k1527 Apart.none
       have B1548 := B1491.all k1527 Apart.none
       have B1549 := B1492.all k1527 Apart.none
       have B1550 := B1493.all k1527 Apart.none
       have B1551 := B1494.all k1527 Apart.none
       have B1552 := B1495.all k1527 Apart.none
       have B1553 := B1485.all k1527 Apart.none
       have B1554 := B1496.all k1527 Apart.none
       have K1556 := K1498.tr k1527
       refine wl_appendRo (r := rCh) rfl rfl rfl rfl rfl rfl B1554 B1528.roa (by first | omega | (simp; done) | (simp; omega)) fun v1557 w1558 T1562 B1560 g1561 k1559 => ?_
       have gr1563 := Grew.trans gr1231 K1556 g1561
       have ap1564 : Apart T1562 T_b := ap1259.grew g1561 B1544.live
       have ap1565 : Apart T1562 (onB p1) := ap1260.grew g1561 (onB_live B1545.lt)
       have ap1566 : Apart T1562 (onB p10) := ap1261.grew g1561 (onB_live B1546.lt)
       have ap1567 : Apart T1562 T1295 := (ap1319.symm).grew g1561 B1547.live
       have ap1568 : Apart T1562 T212 := ap1262.grew g1561 B1548.live
       have ap1569 : Apart T1562 T213 := ap1263.grew g1561 B1549.live
       have ap1570 : Apart T1562 T682 := ap1264.grew g1561 B1550.live
       have ap1571 : Apart T1562 T683 := ap1265.grew g1561 B1551.live
       have ap1572 : Apart T1562 T1405 := (ap1430.symm).grew g1561 B1552.live
       have ap1573 : Apart T1562 T1484 := (ap1509.symm).grew g1561 B1553.live
       have B1576 := B1544.all k1559 ap1259.symm
       have B1577 := B1545.all k1559 (ap1260.symm p1 rfl)
       have B1578 := B1546.all k1559 (ap1261.symm p10 rfl)
       have B1579 := B1547.all k1559 ap1319
       have B1580 := B1548.all k1559 ap1262.symm
       have B1581 := B1549.all k1559 ap1263.symm
       have B1582 := B1550.all k1559 ap1264.symm
       have B1583 := B1551.all k1559 ap1265.symm
       have B1584 := B1552.all k1559 ap1430
       have B1585 := B1553.all k1559 ap1509
       have K1588 := K1556.trans k1559 (Grew.ok (S := fun _ => False) gr1231 noB_le)
       refine wl_v v1557 rfl rfl (y_asg rfl rfl rr) (wl_nil fun F1589 hF1590 => ?_)
       obtain ⟨s1591, s1592, s1593, s1594, s1595, s1596, s1597, s1598, s1599, s1600⟩ := t10 hF1590 3 s1513 4 s1514 8 s1515 10 s1516 11 s1517 12 s1518 13 s1519 15 s1520 115 s1521 17 s1523
       have s1601 : F1589 9 = v1557 := (hF1590 9).trans rfl
       clear hF1590
       refine in_normal (then_normal (wq_region (wl_mv rfl rfl rfl s1600 (wl_v (iv ((i2 + 1 : Nat) : Int)) rfl rfl (y_add rfl rfl rfl (i64_n (by omega) (by omega)) rr) (wl_v (iv ((i2 + 1 : Nat) : Int)) rfl rfl (y_asg rfl rfl rr) (wl_nil fun F1602 hF1603 => ?_))))))
       obtain ⟨s1604, s1605, s1606, s1607, s1608, s1609, s1610, s1611, s1612, s1613⟩ := t10 hF1603 3 s1591 4 s1592 8 s1593 10 s1594 11 s1595 12 s1596 13 s1597 15 s1598 115 s1599 9 s1601
       have s1614 : F1602 17 = iv ((i2 + 1 : Nat) : Int) := (hF1603 17).trans rfl
       clear hF1603
       exact then_normal ⟨((plN W 2 * plN H 2) - (i2 + 1)), by omega, i2 + 1, stAt l K (plN W 2) i2 ps2, o2 ++ [(chAt l K (plN W 2) i2 ps2).1], v1557, T1295, T1405, T1484, T1562, by omega, (run_next hrun (by omega) hc), (by rw [List.length_append, List.length_singleton]; omega), rfl, s1604, s1605, s1606, s1607, s1608, s1609, s1610, s1611, s1612, s1613, s1614, K1588, B1576, B1577, B1578, B1579, B1580, B1581, B1582, B1583, B1584, B1585, B1560, gr1309, gr1420, gr1499, gr1563, ap1310, ap1311, ap1312, ap1313, ap1314, ap1315, ap1316, ap1424.symm, ap1503.symm, ap1567.symm, ap1421, ap1422, ap1423, ap1425, ap1426, ap1427, ap1428, ap1508.symm, ap1572.symm, ap1500, ap1501, ap1502, ap1504, ap1505, ap1506, ap1507, ap1573.symm, ap1564, ap1565, ap1566, ap1568, ap1569, ap1570, ap1571⟩
     ·replace c1280 := of_decide_eq_false c1280
      refine wq_exit (then_exit (then_exit ?_))
      have l1615 : (plN W 2 * plN H 2) = i2 := by omega
      subst l1615
      refine in_here (in_normal (then_normal ?_))
      have hdn := run_done hrun (by omega)
      have hpz : (plTo l K W H (2 + 1)).2.1 = 0 := by rw [hdn]
      have B1616 : Rfi w1202 T1197 p77 l ((plTo l K W H (2 + 1)).2.2) := (by rw [hdn]; exact B1220)
      have B1617 : RoO rCh w1202 T1200 V2 ((plTo l K W H (2 + 1)).1) := (by rw [hdn]; exact B1227)
      refine wq_region (wl_mv rfl rfl rfl s1271 (wl_v (iv ((3 : Nat) : Int)) rfl rfl (y_add rfl rfl rfl (i64_n (by omega) (by omega)) rr) (wl_v (iv ((3 : Nat) : Int)) rfl rfl (y_asg rfl rfl rr) (wl_nil fun F1618 hF1619 => ?_))))
      obtain ⟨s1622, s1623, s1624⟩ := t3 hF1619 8 s1270 115 s1276 9 s1277
      have s1625 : F1618 10 = iv ((3 : Nat) : Int) := (hF1619 10).trans rfl
      clear hF1619
      refine then_normal (wqr_step (wq_seq (wq_seq (wq_region (wl_mv rfl rfl rfl s1625 (wl_v (.bool false) rfl rfl (y_lss rfl rfl rfl rfl rr) (wl_nil fun F1626 hF1627 => ?_)))))))
      obtain ⟨s1630, s1631, s1632⟩ := t3 hF1627 8 s1622 115 s1623 9 s1624
      have s1634 : F1626 33 = .bool false := (hF1627 33).trans rfl
      clear hF1627
      refine then_normal ?_
      refine wq_cond (t := false) s1634 (fun e => by cases e) (fun _ => ?_)
      refine wq_exit (then_exit (then_exit (in_here (then_normal (wq_seq (wq_seq (wq_region (wl_mv rfl rfl rfl s1630 (wl_cs rfl rfl rfl rfl rfl (fun _ _ => by kernel_rfl) (vsC rfl vsN) (t_fdone p77 l ((plTo l K W H (2 + 1)).2.2) T1197 _  B1616 ) fun w1635 k1636 => ?_)))))))))
      have B1647 := B1617.all k1636 Apart.none
      have K1648 := K1203.tr k1636
      refine wl_v (.bool (decide ((doneOf l ((plTo l K W H (2 + 1)).2.2)) ≠ 0))) rfl rfl (y_neqI rfl rfl rfl rfl rr) (wl_nil fun F1649 hF1650 => ?_)
      obtain ⟨s1651, s1652⟩ := t2 hF1650 115 s1631 9 s1632
      have s1653 : F1649 113 = .bool (decide ((doneOf l ((plTo l K W H (2 + 1)).2.2)) ≠ 0)) := (hF1650 113).trans rfl
      clear hF1650
      refine then_normal ?_
      refine wq_cond s1653 (fun c1654 => ?_) (fun c1654 => ?_)
      ·replace c1654 := of_decide_eq_true c1654
       refine wq_seq ?_
       have hR := (chsE_yes hm).trans (chsP_open hpz (by assumption))
       refine wq_region (wl_v (.slice none 0 0) rfl rfl (y_asg rfl rfl rr) (wl_v (iv 130) rfl rfl (y_asg rfl rfl rr) (wl_nil fun F1655 hF1656 => ?_)))
       have s1657 := (hF1656 115).trans s1651
       have s1658 : F1655 6 = .slice none 0 0 := (hF1656 6).trans rfl
       have s1659 : F1655 7 = iv 130 := (hF1656 7).trans rfl
       clear hF1656
       refine then_normal (wq_ret (then_ret ?_))
       exact end_2 s1657 rfl (res_tmp (v := .slice none 0 0) rfl s1658) (res_tmp (v := iv 130) rfl s1659) ⟨(.slice none 0 0), noB, (by rw [hR] <;> rfl), K1648, ⟨(by rw [hR]; exact (RoO.nil rCh _)), (Grew.refl _ _)⟩⟩
      ·replace c1654 := of_decide_eq_false c1654
       refine wq_skip (then_normal (wq_seq ?_))
       have hR := (chsE_yes hm).trans (chsP_ok hpz (by first | assumption | (apply Decidable.byContradiction; assumption)))
       refine wq_region (wl_mv rfl rfl rfl s1652 (wl_v V2 rfl rfl (y_asg rfl rfl rr) (wl_v (iv 0) rfl rfl (y_asg rfl rfl rr) (wl_nil fun F1660 hF1661 => ?_))))
       have s1662 := (hF1661 115).trans s1651
       have s1663 : F1660 6 = V2 := (hF1661 6).trans rfl
       have s1664 : F1660 7 = iv 0 := (hF1661 7).trans rfl
       clear hF1661
       refine then_normal (wq_ret ?_)
       exact end_2 s1662 rfl (res_tmp (v := V2) rfl s1663) (res_tmp (v := iv 0) rfl s1664) ⟨V2, T1200, (by rw [hR] <;> rfl), K1648, ⟨(by rw [hR]; exact B1647), gr1231⟩⟩
end Go.Proofs.YtknjpdcpmpfklaaGreatDoor
set_option maxRecDepth 100000
namespace Go.Proofs.YtknjpdcpmpfklaaGreatDoor
def FrmN (w : World) (n : Nat) (v : Value) (f : FD) : Prop := ∃ (a b c : Value) (Ta Tb Tc : Nat → Prop), v = .agg #[.int .i64 f.W, .int .i64 f.H, a, b, c] ∧ Owb w Ta a f.p0 ∧ Owb w Tb b f.p1 ∧ Owb w Tc c f.p2 ∧ (∀ x, Ta x → n ≤ x) ∧ (∀ x, Tb x → n ≤ x) ∧ (∀ x, Tc x → n ≤ x) ∧ Apart Ta Tb ∧ Apart Ta Tc ∧ Apart Tb Tc
def Pd.frmN (n : Nat) (f : FD) : Pd := ⟨fun v w => FrmN w n v f, fun _ _ _ ⟨a, b, c, Ta, Tb, Tc, e, h1, h2, h3, r⟩ k => ⟨a, b, c, Ta, Tb, Tc, e, h1.all k Apart.none, h2.all k Apart.none, h3.all k Apart.none, r⟩⟩
theorem lie_at {S T : Nat → Prop} {w w' : World} (k : Kept S w w') (g : Grew w' noB T) : ∀ x, T x → w.heap.size ≤ x := fun x h => by
  rcases g x h with z | z
  · exact z.elim
  · have := k.size; omega
theorem lie_grew {w : World} {T : Nat → Prop} (h : ∀ x, T x → w.heap.size ≤ x) : Grew w noB T := fun i hi => .inr (h i hi)
end Go.Proofs.YtknjpdcpmpfklaaGreatDoor
