/- What PictureStill reaches of my texts, part 10. -/
import Derived.Test.YtknjpdcpmpfklaaGreatDoorPictureStillI
set_option maxRecDepth 100000
set_option maxHeartbeats 4000000
set_option maxRecDepth 100000
namespace Go.Proofs.YtknjpdcpmpfklaaGreatDoor
open Go.RowKit
theorem chs_off {l : List Nat} {W H K : Int} (h : (chsP l K W H).2 = 0) : (chsP l K W H).1.length = plOff W H 3 := by
  have hz : (plTo l K W H 3).2.1 = 0 := by
    apply Decidable.byContradiction; intro hn
    rw [chsP_bad (Nat.le_refl 3) hn] at h; exact hn h
  unfold chsP at h ⊢
  rw [if_pos hz] at h ⊢
  split at h
  · rename_i hd; rw [if_pos hd]; exact plTo_len 3 hz
  · cases h
theorem newE_side {W H : Int} (h1 : sideOk W) (h2 : sideOk H) : newE W H = 0 := newE_yes (sideB_of h1) (sideB_of h2)
theorem pc_decode (W H R B K Q D F : Int) (v : Value) (l : List Nat) (g : FD) (g0 g1 g2 : Value) (h : FD) (h0 h1 h2 : Value) (T_b : Nat → Prop) (T_g0 : Nat → Prop) (T_g1 : Nat → Prop) (T_g2 : Nat → Prop) (T_h0 : Nat → Prop) (T_h1 : Nat → Prop) (T_h2 : Nat → Prop) (w0 : World) (hA : ActsIn w0) (hO : ScanIn w0) (hs : StepsAt w0) (hw : Waves w0) (hl : l.length ≤ 1001) (h_b : Byt w0 T_b v (l)) (h_g0 : Byt w0 T_g0 g0 ((g).p0)) (h_g1 : Byt w0 T_g1 g1 ((g).p1)) (h_g2 : Byt w0 T_g2 g2 ((g).p2)) (h_h0 : Byt w0 T_h0 h0 ((h).p0)) (h_h1 : Byt w0 T_h1 h1 ((h).p1)) (h_h2 : Byt w0 T_h2 h2 ((h).p2)) :
  Calls Tryz.prog 12 #[.agg #[.int .i64 (W), .int .i64 (H), .int .i64 (R), .int .i64 (B)], .agg #[.int .i64 (K), .int .i64 (Q), .int .i64 (D), .int .i64 (F)], v, .agg #[.int .i64 ((g).W), .int .i64 ((g).H), g0, g1, g2], .agg #[.int .i64 ((h).W), .int .i64 ((h).H), h0, h1, h2]] w0 fun e w' => ∃ (v1 : Value) (T1 : Nat → Prop) (v2 : Value) (T2 : Nat → Prop) (v3 : Value) (T3 : Nat → Prop), e = .returned (.tuple #[.agg #[.int .i64 ((decF l W H R B K Q D F g h).W), .int .i64 ((decF l W H R B K Q D F g h).H), v1, v2, v3], .int .i64 (decE l W H R B K Q D F g h)]) ∧ Kept (fun _ => False) w0 w' ∧ (Owb w' T1 v1 ((decF l W H R B K Q D F g h).p0) ∧ Grew w0 noB T1) ∧ (Owb w' T2 v2 ((decF l W H R B K Q D F g h).p1) ∧ Grew w0 noB T2) ∧ (Owb w' T3 v3 ((decF l W H R B K Q D F g h).p2) ∧ Grew w0 noB T3) ∧ Apart T1 T2 ∧ Apart T1 T3 ∧ Apart T2 T3 := by
 refine calls_wm (args := [.agg #[iv W, iv H, iv R, iv B], .agg #[iv K, iv Q, iv D, iv F], v, .agg #[iv (g.W), iv (g.H), g0, g1, g2], .agg #[iv (h.W), iv (h.H), h0, h1, h2]]) 92 Tryz.func12 rfl rfl (Nat.le_of_ble_eq_true rfl) ?_
 have K0 := Kept.refl (fun _ => False) w0
 have g_b := Grew.refl w0 T_b
 have g_g0 := Grew.refl w0 T_g0
 have g_g1 := Grew.refl w0 T_g1
 have g_g2 := Grew.refl w0 T_g2
 have g_h0 := Grew.refl w0 T_h0
 have g_h1 := Grew.refl w0 T_h1
 have g_h2 := Grew.refl w0 T_h2
 refine wq_seq (wq_region (wl_box_stc (vs := [iv W, iv H, iv R, iv B]) rfl rfl rfl rfl fun p1 w2 B4 g5 k3 => ?_))
 have B14 := h_b.all k3 Apart.none
 have B15 := h_g0.all k3 Apart.none
 have B16 := h_g1.all k3 Apart.none
 have B17 := h_g2.all k3 Apart.none
 have B18 := h_h0.all k3 Apart.none
 have B19 := h_h1.all k3 Apart.none
 have B20 := h_h2.all k3 Apart.none
 have K21 := K0.tr k3
 refine wl_box_stc (vs := [iv K, iv Q, iv D, iv F]) rfl rfl rfl rfl fun p22 w23 B25 g26 k24 => ?_
 have B36 := B14.all k24 Apart.none
 have B37 := B15.all k24 Apart.none
 have B38 := B16.all k24 Apart.none
 have B39 := B17.all k24 Apart.none
 have B40 := B18.all k24 Apart.none
 have B41 := B19.all k24 Apart.none
 have B42 := B20.all k24 Apart.none
 have B43 := B4.all k24 id
 have K44 := K21.tr k24
 refine wl_box_stc (vs := [iv (g.W), iv (g.H), g0, g1, g2]) rfl rfl rfl rfl fun p45 w46 B48 g49 k47 => ?_
 have B60 := B36.all k47 Apart.none
 have B61 := B37.all k47 Apart.none
 have B62 := B38.all k47 Apart.none
 have B63 := B39.all k47 Apart.none
 have B64 := B40.all k47 Apart.none
 have B65 := B41.all k47 Apart.none
 have B66 := B42.all k47 Apart.none
 have B67 := B43.all k47 id
 have B68 := B25.all k47 id
 have K69 := K44.tr k47
 refine wl_box_stc (vs := [iv (h.W), iv (h.H), h0, h1, h2]) rfl rfl rfl rfl fun p70 w71 B73 g74 k72 => ?_
 have B86 := B60.all k72 Apart.none
 have B87 := B61.all k72 Apart.none
 have B88 := B62.all k72 Apart.none
 have B89 := B63.all k72 Apart.none
 have B90 := B64.all k72 Apart.none
 have B91 := B65.all k72 Apart.none
 have B92 := B66.all k72 Apart.none
 have B93 := B67.all k72 id
 have B94 := B68.all k72 id
 have B95 := B48.all k72 id
 have K96 := K69.tr k72
 refine wl_alloc_stc (n := 5) (vs := [iv 0, iv 0, .slice none 0 0, .slice none 0 0, .slice none 0 0]) rfl rfl rfl (by kernel_rfl) fun p97 w98 B100 g101 k99 => ?_
 have gr102 : Grew w0 noB (onB p97) := Grew.new K96 g101
 have B114 := B86.all k99 Apart.none
 have B115 := B87.all k99 Apart.none
 have B116 := B88.all k99 Apart.none
 have B117 := B89.all k99 Apart.none
 have B118 := B90.all k99 Apart.none
 have B119 := B91.all k99 Apart.none
 have B120 := B92.all k99 Apart.none
 have B121 := B93.all k99 id
 have B122 := B94.all k99 id
 have B123 := B95.all k99 id
 have B124 := B73.all k99 id
 have K125 := K96.tr k99
 refine wl_alloc_cel (v := iv 0) rfl rfl rfl (by kernel_rfl) rfl fun p126 w127 B130 g132 k128 => ?_
 have gr133 : Grew w0 noB (onB p126) := Grew.new K125 g132
 have ap145 : Apart (onB p126) (onB p97) := Apart.new g132 (onB_live B100.lt)
 have B146 := B114.all k128 Apart.none
 have B147 := B115.all k128 Apart.none
 have B148 := B116.all k128 Apart.none
 have B149 := B117.all k128 Apart.none
 have B150 := B118.all k128 Apart.none
 have B151 := B119.all k128 Apart.none
 have B152 := B120.all k128 Apart.none
 have B153 := B121.all k128 id
 have B154 := B122.all k128 id
 have B155 := B123.all k128 id
 have B156 := B124.all k128 id
 have B157 := B100.all k128 id
 have K158 := K125.tr k128
 refine wl_nil fun F159 hF160 => ?_
 have s161 : F159 0 = .agg #[iv W, iv H, iv R, iv B] := (hF160 0).trans rfl
 have s162 : F159 1 = .agg #[iv K, iv Q, iv D, iv F] := (hF160 1).trans rfl
 have s163 : F159 2 = v := (hF160 2).trans rfl
 have s164 : F159 3 = .agg #[iv (g.W), iv (g.H), g0, g1, g2] := (hF160 3).trans rfl
 have s165 : F159 4 = .agg #[iv (h.W), iv (h.H), h0, h1, h2] := (hF160 4).trans rfl
 have s166 : F159 92 = undef := (hF160 92).trans rfl
 have s167 : F159 5 = pt p1 0 := (hF160 5).trans rfl
 have s168 : F159 6 = pt p22 0 := (hF160 6).trans rfl
 have s169 : F159 8 = pt p45 0 := (hF160 8).trans rfl
 have s170 : F159 9 = pt p70 0 := (hF160 9).trans rfl
 have s171 : F159 10 = pt p97 0 := (hF160 10).trans rfl
 have s172 : F159 11 = pt p126 0 := (hF160 11).trans rfl
 clear hF160
 refine then_normal (wq_seq (wq_seq (wq_region (wl_v (.agg #[iv W, iv H, iv R, iv B]) rfl rfl (y_load_stc stcT_seq rfl s167 B153 rr) (wl_v (.agg #[iv K, iv Q, iv D, iv F]) rfl rfl (y_load_stc stcT_head rfl s168 B154 rr) (wl_cs rfl rfl rfl rfl rfl (fun _ _ => by kernel_rfl) (vsC rfl (vsC rfl vsN)) (pc_check W H R B K Q D F  _   ) fun w173 k174 => ?_))))))
 have B175 := B146.all k174 Apart.none
 have B176 := B147.all k174 Apart.none
 have B177 := B148.all k174 Apart.none
 have B178 := B149.all k174 Apart.none
 have B179 := B150.all k174 Apart.none
 have B180 := B151.all k174 Apart.none
 have B181 := B152.all k174 Apart.none
 have B182 := B153.all k174 id
 have B183 := B154.all k174 id
 have B184 := B155.all k174 id
 have B185 := B156.all k174 id
 have B186 := B157.all k174 id
 have B187 := B130.all k174 id
 have K188 := K158.tr k174
 refine wl_v (iv (chkE W H R B K Q D F)) rfl rfl (y_asg rfl rfl rr) (wl_nil fun F189 hF190 => ?_)
 obtain ⟨s191, s192, s193, s194, s195, s196, s197, s198, s199, s200, s201, s202⟩ := t12 hF190 0 s161 1 s162 2 s163 3 s164 4 s165 92 s166 5 s167 6 s168 8 s169 9 s170 10 s171 11 s172
 have s203 : F189 12 = iv (chkE W H R B K Q D F) := (hF190 12).trans rfl
 clear hF190
 refine then_normal (wq_seq (wq_region (wl_mv rfl rfl rfl s203 (wl_v (.bool (decide ((chkE W H R B K Q D F) ≠ 0))) rfl rfl (y_neqI rfl rfl rfl rfl rr) (wl_nil fun F204 hF205 => ?_)))))
 obtain ⟨s206, s207, s208, s209, s210, s211, s212, s213, s214, s215, s216, s217, s218⟩ := t13 hF205 0 s191 1 s192 2 s193 3 s194 4 s195 92 s196 5 s197 6 s198 8 s199 9 s200 10 s201 11 s202 12 s203
 have s219 : F204 24 = .bool (decide ((chkE W H R B K Q D F) ≠ 0)) := (hF205 24).trans rfl
 clear hF205
 refine then_normal ?_
 refine wq_cond s219 (fun c220 => ?_) (fun c220 => ?_)
 ·replace c220 := of_decide_eq_true c220
  refine wq_seq ?_
  have hmn := chk_bad (W := W) (H := H) (R := R) (B := B) (K := K) (Q := Q) (D := D) (F := F) (by assumption)
  have hE := decE_may (l := l) (g := g) (h := h) hmn
  have hFr := decF_no (l := l) (W := W) (H := H) (R := R) (B := B) (K := K) (Q := Q) (D := D) (F := F) (g := g) (h := h) (by rw [hE]; decide)
  refine wq_region (wl_v (.agg #[iv 0, iv 0, .slice none 0 0, .slice none 0 0, .slice none 0 0]) rfl rfl (y_buildL (l' := []) (cells := #[iv 0, iv 0, .slice none 0 0, .slice none 0 0, .slice none 0 0]) rfl bpN (by kernel_rfl) rfl rr) (wl_mv rfl rfl rfl s218 (wl_store_stc (us := [iv 0, iv 0, .slice none 0 0, .slice none 0 0, .slice none 0 0]) stcT_frame rfl rfl rfl s216 rfl B186 rfl (oneI rfl (oneI rfl (oneI rfl (oneI rfl (oneI rfl oneN))))) fun w221 B222 k223 => ?_)))
  have B235 := B187.all k223 (ap145 p126 rfl)
  have K236 := K188.trans k223 (Grew.ok (S := fun _ => False) gr102 noB_le)
  refine wl_store_cel rfl rfl rfl s217 rfl B235 (by rfl) (by kernel_rfl) fun w237 B238 k239 => ?_
  have B251 := B222.all k239 (ap145.symm p97 rfl)
  have K252 := K236.trans k239 (Grew.ok (S := fun _ => False) gr133 noB_le)
  refine wl_nil fun F253 hF254 => ?_
  obtain ⟨s255, s256, s257⟩ := t3 hF254 92 s211 10 s216 11 s217
  clear hF254
  refine then_normal (wq_ret (then_ret ?_))
  exact endm_2 (ms := []) (Eq.trans s255 (rfl : undef = markV [])) trivial rfl (res_stc (vs := [iv 0, iv 0, .slice none 0 0, .slice none 0 0, .slice none 0 0]) stcT_frame rfl s256 B251) (res_cel Tryz.underlying33 rfl rfl s257 B238) ⟨(.slice none 0 0), noB, (.slice none 0 0), noB, (.slice none 0 0), noB, (by first | exact hfalse.elim | (rw [hE, hFr, chk_no hmn]; rfl) | rw [hE, hFr, chk_no hmn] | (rw [hE, hFr, ← fd_all 3 (Nat.le_refl 3)]; rfl) | rw [hE, hFr, ← fd_all 3 (Nat.le_refl 3)] | (rw [hE, hFr]; rfl) | rw [hE, hFr]), K252, ⟨(by first | exact hfalse.elim | (rw [hFr, ← fd_all 3 (Nat.le_refl 3)]; exact (Owb.nil _)) | (rw [hFr]; exact (Owb.nil _))), (Grew.refl _ _)⟩, ⟨(by first | exact hfalse.elim | (rw [hFr, ← fd_all 3 (Nat.le_refl 3)]; exact (Owb.nil _)) | (rw [hFr]; exact (Owb.nil _))), (Grew.refl _ _)⟩, ⟨(by first | exact hfalse.elim | (rw [hFr, ← fd_all 3 (Nat.le_refl 3)]; exact (Owb.nil _)) | (rw [hFr]; exact (Owb.nil _))), (Grew.refl _ _)⟩, Apart.none, Apart.none, Apart.none⟩
 ·replace c220 := of_decide_eq_false c220
  refine wq_skip (then_normal (wq_seq (wq_seq ?_)))
  have hm : mayP W H R B K Q D F := chk_may (by first | assumption | (apply Decidable.byContradiction; assumption))
  have hsq := hm.1
  have hsd := seq_side hm.1
  have hhd := hm.2
  by_cases d258 : ¬ ((K ≠ 0 ∧ ¬ fitsP W H R B g) ∨ (K = 2 ∧ ¬ fitsP W H R B h))
  ·skip
   refine wq_region (wl_v (.agg #[iv W, iv H, iv R, iv B]) rfl rfl (y_load_stc stcT_seq rfl s212 B182 rr) (wl_v (pt p22 0) rfl rfl (y_fieldR (n := 1) rfl s213 Tryz.underlying25 rfl (by kernel_rfl) (by decide) rfl rr) (wl_v (iv K) rfl rfl (y_ld_stc rfl rfl Tryz.underlying3 B183 rfl rfl rr) (wl_v (.agg #[iv (g.W), iv (g.H), g0, g1, g2]) rfl rfl (y_load_stc stcT_frame rfl s214 B184 rr) (wl_v (.agg #[iv (h.W), iv (h.H), h0, h1, h2]) rfl rfl (y_load_stc stcT_frame rfl s215 B185 rr) (wl_call (R := fun v_ w_ => v_ = .bool true ∧ Kept (fun _ => False) w173 w_) rfl rfl (y_cs rfl rfl rfl (fun _ _ => by kernel_rfl) (ev_func _) (vsC rfl (vsC rfl (vsC rfl (vsC rfl vsN)))) (pc_has W H R B K g g0 g1 g2 h h0 h1 h2 T_g0 T_g1 T_g2 T_h0 T_h1 T_h2 _  B176 B177 B178 B179 B180 B181 ) (fun e_ w_ h_ => ⟨_, h_.1, (congrArg Value.bool (decide_eq_true d258)), h_.2⟩)) ?_))))))
   rintro _ w259 ⟨rfl, k260⟩
   have B261 := B175.all k260 Apart.none
   have B262 := B176.all k260 Apart.none
   have B263 := B177.all k260 Apart.none
   have B264 := B178.all k260 Apart.none
   have B265 := B179.all k260 Apart.none
   have B266 := B180.all k260 Apart.none
   have B267 := B181.all k260 Apart.none
   have B268 := B182.all k260 id
   have B269 := B183.all k260 id
   have B270 := B184.all k260 id
   have B271 := B185.all k260 id
   have B272 := B186.all k260 id
   have B273 := B187.all k260 id
   have K274 := K188.tr k260
   refine wl_v (.bool false) rfl rfl (y_not rfl rfl rfl rr) (wl_nil fun F275 hF276 => ?_)
   obtain ⟨s277, s278, s279, s280, s281, s282, s283, s284, s285, s286, s287, s288, s289, s290⟩ := t14 hF276 0 s206 1 s207 2 s208 3 s209 4 s210 92 s211 5 s212 6 s213 8 s214 9 s215 10 s216 11 s217 12 s218 24 s219
   have s291 : F275 33 = .bool false := (hF276 33).trans rfl
   clear hF276
   refine then_normal ?_
   refine wq_cond (t := false) s291 (fun e => by cases e) (fun _ => ?_)
   refine wq_skip (then_normal (wq_seq ?_))
   have hn : ¬ ((K ≠ 0 ∧ ¬ fitsP W H R B g) ∨ (K = 2 ∧ ¬ fitsP W H R B h)) := by first | assumption | (apply Decidable.byContradiction; assumption)
   have hEc := (decE_chs (l := l) (g := g) (h := h) hm hn).trans (congrArg Prod.snd (chsE_yes hm).symm)
   refine wq_region (wl_v (.agg #[iv W, iv H, iv R, iv B]) rfl rfl (y_load_stc stcT_seq rfl s283 B268 rr) (wl_v (.agg #[iv K, iv Q, iv D, iv F]) rfl rfl (y_load_stc stcT_head rfl s284 B269 rr) (wl_mv rfl rfl rfl s279 (wl_call (R := fun v_ w_ => ∃ (v292 : Value) (T295 : Nat → Prop), .tuple #[v292, iv ((chsE l W H R B K Q D F).2)] = v_ ∧ Kept (fun _ => False) w259 w_ ∧ (RoO rCh w_ T295 v292 ((chsE l W H R B K Q D F).1) ∧ Grew w259 noB T295)) rfl rfl (y_cs rfl rfl rfl (fun _ _ => by kernel_rfl) (ev_func _) (vsC rfl (vsC rfl (vsC rfl vsN))) (pc_choices W H R B K Q D F v l T_b _ (hA.all K274) (hO.all K274) (by first | omega | (simp; omega)) B261 ) (fun e_ w_ h_ => by obtain ⟨v292_, T295_, he_, hr_⟩ := h_; exact ⟨_, he_, v292_, T295_, rfl, hr_⟩)) ?_))))
   rintro _ w293 ⟨v292, T295, rfl, k294, ⟨B296, g297⟩⟩
   have B298 := B261.all k294 Apart.none
   have B299 := B262.all k294 Apart.none
   have B300 := B263.all k294 Apart.none
   have B301 := B264.all k294 Apart.none
   have B302 := B265.all k294 Apart.none
   have B303 := B266.all k294 Apart.none
   have B304 := B267.all k294 Apart.none
   have B305 := B268.all k294 id
   have B306 := B269.all k294 id
   have B307 := B270.all k294 id
   have B308 := B271.all k294 id
   have B309 := B272.all k294 id
   have B310 := B273.all k294 id
   have K311 := K274.tr k294
   refine wl_v (.tuple #[v292, iv ((chsE l W H R B K Q D F).2)]) rfl rfl (y_mov rfl rfl rr) (wl_v v292 rfl rfl (y_ext rfl rfl rfl rr) (wl_v (iv ((chsE l W H R B K Q D F).2)) rfl rfl (y_ext rfl rfl rfl rr) (wl_alloc_cel (v := .slice none 0 0) rfl rfl rfl (by kernel_rfl) rfl fun p326 w327 B330 g332 k328 => ?_)))
   have gr333 : Grew w0 noB (onB p326) := Grew.new K311 g332
   have ap334 : Apart (onB p326) T_b := Apart.new g332 B298.live
   have ap335 : Apart (onB p326) T_g0 := Apart.new g332 B299.live
   have ap336 : Apart (onB p326) T_g1 := Apart.new g332 B300.live
   have ap337 : Apart (onB p326) T_g2 := Apart.new g332 B301.live
   have ap338 : Apart (onB p326) T_h0 := Apart.new g332 B302.live
   have ap339 : Apart (onB p326) T_h1 := Apart.new g332 B303.live
   have ap340 : Apart (onB p326) T_h2 := Apart.new g332 B304.live
   have ap341 : Apart (onB p326) (onB p1) := Apart.new g332 (onB_live B305.lt)
   have ap342 : Apart (onB p326) (onB p22) := Apart.new g332 (onB_live B306.lt)
   have ap343 : Apart (onB p326) (onB p45) := Apart.new g332 (onB_live B307.lt)
   have ap344 : Apart (onB p326) (onB p70) := Apart.new g332 (onB_live B308.lt)
   have ap345 : Apart (onB p326) (onB p97) := Apart.new g332 (onB_live B309.lt)
   have ap346 : Apart (onB p326) (onB p126) := Apart.new g332 (onB_live B310.lt)
   have ap347 : Apart (onB p326) T295 := Apart.new g332 B296.live
   have B348 := B298.all k328 Apart.none
   have B349 := B299.all k328 Apart.none
   have B350 := B300.all k328 Apart.none
   have B351 := B301.all k328 Apart.none
   have B352 := B302.all k328 Apart.none
   have B353 := B303.all k328 Apart.none
   have B354 := B304.all k328 Apart.none
   have B355 := B305.all k328 id
   have B356 := B306.all k328 id
   have B357 := B307.all k328 id
   have B358 := B308.all k328 id
   have B359 := B309.all k328 id
   have B360 := B310.all k328 id
   have B361 := B296.all k328 Apart.none
   have K362 := K311.tr k328
   refine wl_store_cel rfl rfl rfl rfl rfl B330 B361.oneC (by kernel_rfl) fun w363 B364 k365 => ?_
   have B366 := B348.all k365 ap334.symm
   have B367 := B349.all k365 ap335.symm
   have B368 := B350.all k365 ap336.symm
   have B369 := B351.all k365 ap337.symm
   have B370 := B352.all k365 ap338.symm
   have B371 := B353.all k365 ap339.symm
   have B372 := B354.all k365 ap340.symm
   have B373 := B355.all k365 (ap341.symm p1 rfl)
   have B374 := B356.all k365 (ap342.symm p22 rfl)
   have B375 := B357.all k365 (ap343.symm p45 rfl)
   have B376 := B358.all k365 (ap344.symm p70 rfl)
   have B377 := B359.all k365 (ap345.symm p97 rfl)
   have B378 := B360.all k365 (ap346.symm p126 rfl)
   have B379 := B361.all k365 ap347.symm
   have K380 := K362.trans k365 (Grew.ok (S := fun _ => False) gr333 noB_le)
   refine wl_v (iv ((chsE l W H R B K Q D F).2)) rfl rfl (y_asg rfl rfl rr) (wl_nil fun F381 hF382 => ?_)
   obtain ⟨s383, s384, s385, s386, s387, s388, s389, s390, s391, s392, s393, s394, s395, s396, s397⟩ := t15 hF382 0 s277 1 s278 2 s279 3 s280 4 s281 92 s282 5 s283 6 s284 8 s285 9 s286 10 s287 11 s288 12 s289 24 s290 33 s291
   have s398 : F381 13 = pt p326 0 := (hF382 13).trans rfl
   have s399 : F381 14 = iv ((chsE l W H R B K Q D F).2) := (hF382 14).trans rfl
   clear hF382
   refine then_normal (wq_seq (wq_seq (wq_region (wl_mv rfl rfl rfl s399 (wl_v (.bool (decide (((chsE l W H R B K Q D F).2) ≠ 0))) rfl rfl (y_neqI rfl rfl rfl rfl rr) (wl_nil fun F400 hF401 => ?_))))))
   obtain ⟨s402, s403, s404, s405, s406, s407, s408, s409, s410, s411, s412, s413, s414, s415, s416, s417, s418⟩ := t17 hF401 0 s383 1 s384 2 s385 3 s386 4 s387 92 s388 5 s389 6 s390 8 s391 9 s392 10 s393 11 s394 12 s395 24 s396 33 s397 13 s398 14 s399
   have s419 : F400 43 = .bool (decide (((chsE l W H R B K Q D F).2) ≠ 0)) := (hF401 43).trans rfl
   clear hF401
   refine then_normal ?_
   refine wq_cond s419 (fun c420 => ?_) (fun c420 => ?_)
   ·replace c420 := of_decide_eq_true c420
    refine wq_seq ?_
    have hE := hEc
    have hFr := decF_no (l := l) (W := W) (H := H) (R := R) (B := B) (K := K) (Q := Q) (D := D) (F := F) (g := g) (h := h) (by rw [hE]; assumption)
    refine wq_region (wl_v (.agg #[iv 0, iv 0, .slice none 0 0, .slice none 0 0, .slice none 0 0]) rfl rfl (y_buildL (l' := []) (cells := #[iv 0, iv 0, .slice none 0 0, .slice none 0 0, .slice none 0 0]) rfl bpN (by kernel_rfl) rfl rr) (wl_mv rfl rfl rfl s418 (wl_store_stc (us := [iv 0, iv 0, .slice none 0 0, .slice none 0 0, .slice none 0 0]) stcT_frame rfl rfl rfl s412 rfl B377 rfl (oneI rfl (oneI rfl (oneI rfl (oneI rfl (oneI rfl oneN))))) fun w421 B422 k423 => ?_)))
    have B435 := B378.all k423 (ap145 p126 rfl)
    have K438 := K380.trans k423 (Grew.ok (S := fun _ => False) gr102 noB_le)
    refine wl_store_cel rfl rfl rfl s413 rfl B435 (by rfl) (by kernel_rfl) fun w439 B440 k441 => ?_
    have B453 := B422.all k441 (ap145.symm p97 rfl)
    have K456 := K438.trans k441 (Grew.ok (S := fun _ => False) gr133 noB_le)
    refine wl_nil fun F457 hF458 => ?_
    obtain ⟨s459, s460, s461⟩ := t3 hF458 92 s407 10 s412 11 s413
    clear hF458
    refine then_normal (wq_ret (then_ret ?_))
    exact endm_2 (ms := []) (Eq.trans s459 (rfl : undef = markV [])) trivial rfl (res_stc (vs := [iv 0, iv 0, .slice none 0 0, .slice none 0 0, .slice none 0 0]) stcT_frame rfl s460 B453) (res_cel Tryz.underlying33 rfl rfl s461 B440) ⟨(.slice none 0 0), noB, (.slice none 0 0), noB, (.slice none 0 0), noB, (by first | exact hfalse.elim | (rw [hE, hFr, chk_no hmn]; rfl) | rw [hE, hFr, chk_no hmn] | (rw [hE, hFr, ← fd_all 3 (Nat.le_refl 3)]; rfl) | rw [hE, hFr, ← fd_all 3 (Nat.le_refl 3)] | (rw [hE, hFr]; rfl) | rw [hE, hFr]), K456, ⟨(by first | exact hfalse.elim | (rw [hFr, ← fd_all 3 (Nat.le_refl 3)]; exact (Owb.nil _)) | (rw [hFr]; exact (Owb.nil _))), (Grew.refl _ _)⟩, ⟨(by first | exact hfalse.elim | (rw [hFr, ← fd_all 3 (Nat.le_refl 3)]; exact (Owb.nil _)) | (rw [hFr]; exact (Owb.nil _))), (Grew.refl _ _)⟩, ⟨(by first | exact hfalse.elim | (rw [hFr, ← fd_all 3 (Nat.le_refl 3)]; exact (Owb.nil _)) | (rw [hFr]; exact (Owb.nil _))), (Grew.refl _ _)⟩, Apart.none, Apart.none, Apart.none⟩
   ·replace c420 := of_decide_eq_false c420
    refine wq_skip (then_normal (wq_seq ?_))
    have hE : decE l W H R B K Q D F g h = 0 := hEc.trans (by first | assumption | (apply Decidable.byContradiction; assumption))
    have hFr := decF_yes hE
    have hc0 : (chsP l K W H).2 = 0 := by have h_ := hEc.symm.trans hE; rw [chsE_yes hm] at h_; exact h_
    have hlo0 := chs_off hc0
    have hmay := chsP_may (l := l) (W := W) (H := H) (most_pos hm.2)
    obtain ⟨L, hL⟩ : ∃ L, L = (chsP l K W H).1 := ⟨_, rfl⟩
    rw [← hL] at hlo0 hFr hmay
    have hnw := newE_side hm.1.1 hm.1.2.1
    have B462 : RoO rCh w363 T295 v292 L := (by rw [hL, ← congrArg Prod.fst (chsE_yes (l := l) hm)]; exact B379)
    refine wq_region (wl_v (pt p1 0) rfl rfl (y_fieldR (n := 1) rfl s408 Tryz.underlying23 rfl (by kernel_rfl) (by decide) rfl rr) (wl_v (iv W) rfl rfl (y_ld_stc rfl rfl Tryz.underlying3 B373 rfl rfl rr) (wl_v (pt p1 1) rfl rfl (y_fieldR (n := 1) rfl s408 Tryz.underlying23 rfl (by kernel_rfl) (by decide) rfl rr) (wl_v (iv H) rfl rfl (y_ld_stc rfl rfl Tryz.underlying3 B373 rfl rfl rr) (wl_call (R := fun v_ w_ => ∃ (v463 : Value) (T468 : Nat → Prop) (v464 : Value) (T469 : Nat → Prop) (v465 : Value) (T470 : Nat → Prop), .tuple #[.agg #[iv ((newF W H 0).W), iv ((newF W H 0).H), v463, v464, v465], iv (newE W H)] = v_ ∧ Kept (fun _ => False) w363 w_ ∧ (Owb w_ T468 v463 ((newF W H 0).p0) ∧ Grew w363 noB T468) ∧ (Owb w_ T469 v464 ((newF W H 0).p1) ∧ Grew w363 noB T469) ∧ (Owb w_ T470 v465 ((newF W H 0).p2) ∧ Grew w363 noB T470) ∧ Apart T468 T469 ∧ Apart T468 T470 ∧ Apart T469 T470) rfl rfl (y_cs rfl rfl rfl (fun _ _ => by kernel_rfl) (ev_func _) (vsC rfl (vsC rfl (vsC rfl vsN))) (pl_new W H 0  _ (by decide)  ) (fun e_ w_ h_ => by obtain ⟨v463_, T468_, v464_, T469_, v465_, T470_, he_, hr_⟩ := h_; exact ⟨_, he_, v463_, T468_, v464_, T469_, v465_, T470_, rfl, hr_⟩)) ?_)))))
    rintro _ w466 ⟨v463, T468, v464, T469, v465, T470, rfl, k467, ⟨B471, g474⟩, ⟨B472, g475⟩, ⟨B473, g476⟩, ap477, ap478, ap479⟩
    have B480 := B366.all k467 Apart.none
    have B481 := B367.all k467 Apart.none
    have B482 := B368.all k467 Apart.none
    have B483 := B369.all k467 Apart.none
    have B484 := B370.all k467 Apart.none
    have B485 := B371.all k467 Apart.none
    have B486 := B372.all k467 Apart.none
    have B487 := B373.all k467 id
    have B488 := B374.all k467 id
    have B489 := B375.all k467 id
    have B490 := B376.all k467 id
    have B491 := B377.all k467 id
    have B492 := B378.all k467 id
    have B493 := B462.all k467 Apart.none
    have B494 := B364.all k467 id
    have K495 := K380.tr k467
    have gr496 : Grew w0 noB T468 := Grew.new K380 g474
    have ap497 : Apart T468 T_b := Apart.new g474 B366.live
    have ap498 : Apart T468 T_g0 := Apart.new g474 B367.live
    have ap499 : Apart T468 T_g1 := Apart.new g474 B368.live
    have ap500 : Apart T468 T_g2 := Apart.new g474 B369.live
    have ap501 : Apart T468 T_h0 := Apart.new g474 B370.live
    have ap502 : Apart T468 T_h1 := Apart.new g474 B371.live
    have ap503 : Apart T468 T_h2 := Apart.new g474 B372.live
    have ap504 : Apart T468 (onB p1) := Apart.new g474 (onB_live B373.lt)
    have ap505 : Apart T468 (onB p22) := Apart.new g474 (onB_live B374.lt)
    have ap506 : Apart T468 (onB p45) := Apart.new g474 (onB_live B375.lt)
    have ap507 : Apart T468 (onB p70) := Apart.new g474 (onB_live B376.lt)
    have ap508 : Apart T468 (onB p97) := Apart.new g474 (onB_live B377.lt)
    have ap509 : Apart T468 (onB p126) := Apart.new g474 (onB_live B378.lt)
    have ap510 : Apart T468 T295 := Apart.new g474 B462.live
    have ap511 : Apart T468 (onB p326) := Apart.new g474 (onB_live B364.lt)
    have gr512 : Grew w0 noB T469 := Grew.new K380 g475
    have ap513 : Apart T469 T_b := Apart.new g475 B366.live
    have ap514 : Apart T469 T_g0 := Apart.new g475 B367.live
    have ap515 : Apart T469 T_g1 := Apart.new g475 B368.live
    have ap516 : Apart T469 T_g2 := Apart.new g475 B369.live
    have ap517 : Apart T469 T_h0 := Apart.new g475 B370.live
    have ap518 : Apart T469 T_h1 := Apart.new g475 B371.live
    have ap519 : Apart T469 T_h2 := Apart.new g475 B372.live
    have ap520 : Apart T469 (onB p1) := Apart.new g475 (onB_live B373.lt)
    have ap521 : Apart T469 (onB p22) := Apart.new g475 (onB_live B374.lt)
    have ap522 : Apart T469 (onB p45) := Apart.new g475 (onB_live B375.lt)
    have ap523 : Apart T469 (onB p70) := Apart.new g475 (onB_live B376.lt)
    have ap524 : Apart T469 (onB p97) := Apart.new g475 (onB_live B377.lt)
    have ap525 : Apart T469 (onB p126) := Apart.new g475 (onB_live B378.lt)
    have ap526 : Apart T469 T295 := Apart.new g475 B462.live
    have ap527 : Apart T469 (onB p326) := Apart.new g475 (onB_live B364.lt)
    have gr528 : Grew w0 noB T470 := Grew.new K380 g476
    have ap529 : Apart T470 T_b := Apart.new g476 B366.live
    have ap530 : Apart T470 T_g0 := Apart.new g476 B367.live
    have ap531 : Apart T470 T_g1 := Apart.new g476 B368.live
    have ap532 : Apart T470 T_g2 := Apart.new g476 B369.live
    have ap533 : Apart T470 T_h0 := Apart.new g476 B370.live
    have ap534 : Apart T470 T_h1 := Apart.new g476 B371.live
    have ap535 : Apart T470 T_h2 := Apart.new g476 B372.live
    have ap536 : Apart T470 (onB p1) := Apart.new g476 (onB_live B373.lt)
    have ap537 : Apart T470 (onB p22) := Apart.new g476 (onB_live B374.lt)
    have ap538 : Apart T470 (onB p45) := Apart.new g476 (onB_live B375.lt)
    have ap539 : Apart T470 (onB p70) := Apart.new g476 (onB_live B376.lt)
    have ap540 : Apart T470 (onB p97) := Apart.new g476 (onB_live B377.lt)
    have ap541 : Apart T470 (onB p126) := Apart.new g476 (onB_live B378.lt)
    have ap542 : Apart T470 T295 := Apart.new g476 B462.live
    have ap543 : Apart T470 (onB p326) := Apart.new g476 (onB_live B364.lt)
    refine wl_v (.tuple #[.agg #[iv ((newF W H 0).W), iv ((newF W H 0).H), v463, v464, v465], iv (newE W H)]) rfl rfl (y_mov rfl rfl rr) (wl_v (.agg #[iv ((newF W H 0).W), iv ((newF W H 0).H), v463, v464, v465]) rfl rfl (y_ext rfl rfl rfl rr) (wl_v (iv (newE W H)) rfl rfl (y_ext rfl rfl rfl rr) (wl_alloc_stc (n := 5) (vs := [iv 0, iv 0, .slice none 0 0, .slice none 0 0, .slice none 0 0]) rfl rfl rfl (by kernel_rfl) fun p544 w545 B547 g548 k546 => ?_)))
    have gr549 : Grew w0 noB (onB p544) := Grew.new K495 g548
    have ap550 : Apart (onB p544) T_b := Apart.new g548 B480.live
    have ap551 : Apart (onB p544) T_g0 := Apart.new g548 B481.live
    have ap552 : Apart (onB p544) T_g1 := Apart.new g548 B482.live
    have ap553 : Apart (onB p544) T_g2 := Apart.new g548 B483.live
    have ap554 : Apart (onB p544) T_h0 := Apart.new g548 B484.live
    have ap555 : Apart (onB p544) T_h1 := Apart.new g548 B485.live
    have ap556 : Apart (onB p544) T_h2 := Apart.new g548 B486.live
    have ap557 : Apart (onB p544) (onB p1) := Apart.new g548 (onB_live B487.lt)
    have ap558 : Apart (onB p544) (onB p22) := Apart.new g548 (onB_live B488.lt)
    have ap559 : Apart (onB p544) (onB p45) := Apart.new g548 (onB_live B489.lt)
    have ap560 : Apart (onB p544) (onB p70) := Apart.new g548 (onB_live B490.lt)
    have ap561 : Apart (onB p544) (onB p97) := Apart.new g548 (onB_live B491.lt)
    have ap562 : Apart (onB p544) (onB p126) := Apart.new g548 (onB_live B492.lt)
    have ap563 : Apart (onB p544) T295 := Apart.new g548 B493.live
    have ap564 : Apart (onB p544) (onB p326) := Apart.new g548 (onB_live B494.lt)
    have ap565 : Apart (onB p544) T468 := Apart.new g548 B471.live
    have ap566 : Apart (onB p544) T469 := Apart.new g548 B472.live
    have ap567 : Apart (onB p544) T470 := Apart.new g548 B473.live
    have B568 := B480.all k546 Apart.none
    have B569 := B481.all k546 Apart.none
    have B570 := B482.all k546 Apart.none
    have B571 := B483.all k546 Apart.none
    have B572 := B484.all k546 Apart.none
    have B573 := B485.all k546 Apart.none
    have B574 := B486.all k546 Apart.none
    have B575 := B487.all k546 id
    have B576 := B488.all k546 id
    have B577 := B489.all k546 id
    have B578 := B490.all k546 id
    have B579 := B491.all k546 id
    have B580 := B492.all k546 id
    have B581 := B493.all k546 Apart.none
    have B582 := B494.all k546 id
    have B583 := B471.all k546 Apart.none
    have B584 := B472.all k546 Apart.none
    have B585 := B473.all k546 Apart.none
    have K586 := K495.tr k546
    refine wl_store_stc (us := [iv ((newF W H 0).W), iv ((newF W H 0).H), v463, v464, v465]) stcT_frame rfl rfl rfl rfl rfl B547 rfl (oneI rfl (oneI rfl (oneI B583.one (oneI B584.one (oneI B585.one oneN))))) fun w587 B588 k589 => ?_
    have B590 := B568.all k589 ap550.symm
    have B591 := B569.all k589 ap551.symm
    have B592 := B570.all k589 ap552.symm
    have B593 := B571.all k589 ap553.symm
    have B594 := B572.all k589 ap554.symm
    have B595 := B573.all k589 ap555.symm
    have B596 := B574.all k589 ap556.symm
    have B597 := B575.all k589 (ap557.symm p1 rfl)
    have B598 := B576.all k589 (ap558.symm p22 rfl)
    have B599 := B577.all k589 (ap559.symm p45 rfl)
    have B600 := B578.all k589 (ap560.symm p70 rfl)
    have B601 := B579.all k589 (ap561.symm p97 rfl)
    have B602 := B580.all k589 (ap562.symm p126 rfl)
    have B603 := B581.all k589 ap563.symm
    have B604 := B582.all k589 (ap564.symm p326 rfl)
    have B605 := B583.all k589 ap565.symm
    have B606 := B584.all k589 ap566.symm
    have B607 := B585.all k589 ap567.symm
    have K608 := K586.trans k589 (Grew.ok (S := fun _ => False) gr549 noB_le)
    refine wl_v (iv (newE W H)) rfl rfl (y_asg rfl rfl rr) (wl_nil fun F609 hF610 => ?_)
    obtain ⟨s611, s612, s613, s614, s615, s616, s617, s618, s619, s620, s621, s622, s623, s624, s625, s626, s627⟩ := t17 hF610 0 s402 1 s403 2 s404 3 s405 4 s406 92 s407 5 s408 6 s409 8 s410 9 s411 10 s412 11 s413 12 s414 24 s415 33 s416 13 s417 43 s419
    have s628 : F609 15 = pt p544 0 := (hF610 15).trans rfl
    have s629 : F609 14 = iv (newE W H) := (hF610 14).trans rfl
    clear hF610
    refine then_normal (wq_seq (wq_seq (wq_region (wl_mv rfl rfl rfl s629 (wl_v (.bool (decide ((newE W H) ≠ 0))) rfl rfl (y_neqI rfl rfl rfl rfl rr) (wl_nil fun F630 hF631 => ?_))))))
    obtain ⟨s632, s633, s634, s635, s636, s637, s638, s639, s640, s641, s642, s643, s644, s645, s646, s647, s648, s649, s650⟩ := t19 hF631 0 s611 1 s612 2 s613 3 s614 4 s615 92 s616 5 s617 6 s618 8 s619 9 s620 10 s621 11 s622 12 s623 24 s624 33 s625 13 s626 43 s627 15 s628 14 s629
    have s651 : F630 55 = .bool (decide ((newE W H) ≠ 0)) := (hF631 55).trans rfl
    clear hF631
    refine then_normal ?_
    refine wq_cond s651 (fun c652 => ?_) (fun c652 => ?_)
    ·replace c652 := of_decide_eq_true c652
     refine wq_seq ?_
     exfalso; omega
    ·replace c652 := of_decide_eq_false c652
     refine wq_skip (then_normal (wq_seq (wq_seq (wq_region (wl_v (.agg #[iv W, iv H, iv R, iv B]) rfl rfl (y_load_stc stcT_seq rfl s638 B597 rr) (wl_call (R := fun v_ w_ => ∃ (v653 : Nat) (T656 : Nat → Prop), .func (.func 60) #[] #[pt v653 0] = v_ ∧ Kept (fun _ => False) w587 w_ ∧ (Sqs w_ T656 v653 W H R B ∧ Grew w587 noB T656)) rfl rfl (y_cs rfl rfl rfl (fun _ _ => by kernel_rfl) (ev_func _) (vsC rfl vsN) (pc_blocks W H R B  _   ) (fun e_ w_ h_ => by obtain ⟨v653_, T656_, he_, hr_⟩ := h_; exact ⟨_, he_, v653_, T656_, rfl, hr_⟩)) ?_))))))
     rintro _ w654 ⟨v653, T656, rfl, k655, ⟨B657, g658⟩⟩
     have B659 := B590.all k655 Apart.none
     have B660 := B591.all k655 Apart.none
     have B661 := B592.all k655 Apart.none
     have B662 := B593.all k655 Apart.none
     have B663 := B594.all k655 Apart.none
     have B664 := B595.all k655 Apart.none
     have B665 := B596.all k655 Apart.none
     have B666 := B597.all k655 id
     have B667 := B598.all k655 id
     have B668 := B599.all k655 id
     have B669 := B600.all k655 id
     have B670 := B601.all k655 id
     have B671 := B602.all k655 id
     have B672 := B603.all k655 Apart.none
     have B673 := B604.all k655 id
     have B674 := B605.all k655 Apart.none
     have B675 := B606.all k655 Apart.none
     have B676 := B607.all k655 Apart.none
     have B677 := B588.all k655 id
     have K678 := K608.tr k655
     have ap695 : Apart T656 T468 := Apart.new g658 B605.live
     have ap696 : Apart T656 T469 := Apart.new g658 B606.live
     have ap697 : Apart T656 T470 := Apart.new g658 B607.live
     have ap698 : Apart T656 (onB p544) := Apart.new g658 (onB_live B588.lt)
     refine wl_nil fun F699 hF700 => ?_
     obtain ⟨s701, s702, s703, s704, s705, s706, s707, s708, s709, s710, s711, s712, s713, s714, s715, s716, s717, s718, s719, s720⟩ := t20 hF700 0 s632 1 s633 2 s634 3 s635 4 s636 92 s637 5 s638 6 s639 8 s640 9 s641 10 s642 11 s643 12 s644 24 s645 33 s646 13 s647 43 s648 15 s649 14 s650 55 s651
     have s721 : F699 59 = .func (.func 60) #[] #[pt v653 0] := (hF700 59).trans rfl
     clear hF700
     refine then_normal (wq_block ?_)
     refine wq_rangeS (α := Spt W H) (encs := fun el => [iv ((el.m : Nat) : Int), .agg #[iv ((el.p : Nat) : Int), iv (pX (plN W el.p) el.i), iv (pY (plN W el.p) el.i)]]) (U := fun i => i ≠ v653) (S := fun xs => xs = spTo W H 3) (Sp := fun xs => xs <+: spTo W H 3) (M := 1000) s721 (fun _ _ => by kernel_rfl) (blk_seq W H R B v653 _ hm.1 B657.2) (fun i hi => Nat.ne_of_gt (Nat.lt_of_lt_of_le B657.2.lt hi)) [60, 61] rfl (fun _ => rfl) rfl (fun pre ww => ∃ (ha : Value), ∃ (hb : Value), ∃ (hc : Value), ∃ (T722 : Nat → Prop), ∃ (T723 : Nat → Prop), ∃ (T724 : Nat → Prop), Kept (fun _ => False) w0 ww ∧ Byt ww T_b v l ∧ Byt ww T_g0 g0 (g.p0) ∧ Byt ww T_g1 g1 (g.p1) ∧ Byt ww T_g2 g2 (g.p2) ∧ Byt ww T_h0 h0 (h.p0) ∧ Byt ww T_h1 h1 (h.p1) ∧ Byt ww T_h2 h2 (h.p2) ∧ Stc ww p1 23 [iv W, iv H, iv R, iv B] ∧ Stc ww p22 25 [iv K, iv Q, iv D, iv F] ∧ Stc ww p45 29 [iv (g.W), iv (g.H), g0, g1, g2] ∧ Stc ww p70 29 [iv (h.W), iv (h.H), h0, h1, h2] ∧ Stc ww p97 29 [iv 0, iv 0, .slice none 0 0, .slice none 0 0, .slice none 0 0] ∧ Cel ww p126 33 (iv 0) ∧ RoO rCh ww T295 v292 L ∧ Cel ww p326 32 v292 ∧ Stc ww p544 29 [iv ((foldD g h Q W H L pre).W), iv ((foldD g h Q W H L pre).H), ha, hb, hc] ∧ Sqs ww T656 v653 W H R B ∧ Owb ww T722 ha ((foldD g h Q W H L pre).p0) ∧ Owb ww T723 hb ((foldD g h Q W H L pre).p1) ∧ Owb ww T724 hc ((foldD g h Q W H L pre).p2) ∧ Grew w0 noB T722 ∧ Grew w0 noB T723 ∧ Grew w0 noB T724 ∧ Apart T722 T_b ∧ Apart T722 T_g0 ∧ Apart T722 T_g1 ∧ Apart T722 T_g2 ∧ Apart T722 T_h0 ∧ Apart T722 T_h1 ∧ Apart T722 T_h2 ∧ Apart T722 (onB p1) ∧ Apart T722 (onB p22) ∧ Apart T722 (onB p45) ∧ Apart T722 (onB p70) ∧ Apart T722 (onB p97) ∧ Apart T722 (onB p126) ∧ Apart T722 T295 ∧ Apart T722 (onB p326) ∧ Apart T722 (onB p544) ∧ Apart T722 T656 ∧ Apart T722 T723 ∧ Apart T722 T724 ∧ Apart T723 T_b ∧ Apart T723 T_g0 ∧ Apart T723 T_g1 ∧ Apart T723 T_g2 ∧ Apart T723 T_h0 ∧ Apart T723 T_h1 ∧ Apart T723 T_h2 ∧ Apart T723 (onB p1) ∧ Apart T723 (onB p22) ∧ Apart T723 (onB p45) ∧ Apart T723 (onB p70) ∧ Apart T723 (onB p97) ∧ Apart T723 (onB p126) ∧ Apart T723 T295 ∧ Apart T723 (onB p326) ∧ Apart T723 (onB p544) ∧ Apart T723 T656 ∧ Apart T723 T724 ∧ Apart T724 T_b ∧ Apart T724 T_g0 ∧ Apart T724 T_g1 ∧ Apart T724 T_g2 ∧ Apart T724 T_h0 ∧ Apart T724 T_h1 ∧ Apart T724 T_h2 ∧ Apart T724 (onB p1) ∧ Apart T724 (onB p22) ∧ Apart T724 (onB p45) ∧ Apart T724 (onB p70) ∧ Apart T724 (onB p97) ∧ Apart T724 (onB p126) ∧ Apart T724 T295 ∧ Apart T724 (onB p326) ∧ Apart T724 (onB p544) ∧ Apart T724 T656) (fun pre ww => Kept (fun _ => False) w0 ww ∧ Byt ww T_b v l ∧ Byt ww T_g0 g0 (g.p0) ∧ Byt ww T_g1 g1 (g.p1) ∧ Byt ww T_g2 g2 (g.p2) ∧ Byt ww T_h0 h0 (h.p0) ∧ Byt ww T_h1 h1 (h.p1) ∧ Byt ww T_h2 h2 (h.p2) ∧ Stc ww p1 23 [iv W, iv H, iv R, iv B] ∧ Stc ww p22 25 [iv K, iv Q, iv D, iv F] ∧ Stc ww p45 29 [iv (g.W), iv (g.H), g0, g1, g2] ∧ Stc ww p70 29 [iv (h.W), iv (h.H), h0, h1, h2] ∧ Stc ww p97 29 [iv 0, iv 0, .slice none 0 0, .slice none 0 0, .slice none 0 0] ∧ Cel ww p126 33 (iv 0) ∧ RoO rCh ww T295 v292 L ∧ Cel ww p326 32 v292 ∧ Sqs ww T656 v653 W H R B ∧ False) ?_ ?_ ⟨v463, v464, v465, T468, T469, T470, K678, B659, B660, B661, B662, B663, B664, B665, B666, B667, B668, B669, B670, B671, B672, B673, B677, B657, B674, B675, B676, gr496, gr512, gr528, ap497, ap498, ap499, ap500, ap501, ap502, ap503, ap504, ap505, ap506, ap507, ap508, ap509, ap510, ap511, ap565.symm, ap695.symm, ap477, ap478, ap513, ap514, ap515, ap516, ap517, ap518, ap519, ap520, ap521, ap522, ap523, ap524, ap525, ap526, ap527, ap566.symm, ap696.symm, ap479, ap529, ap530, ap531, ap532, ap533, ap534, ap535, ap536, ap537, ap538, ap539, ap540, ap541, ap542, ap543, ap567.symm, ap697.symm⟩ (fun el FF WW => ∃ (pa0_ : Nat), FF 0 = .agg #[iv W, iv H, iv R, iv B] ∧ FF 1 = .agg #[iv K, iv Q, iv D, iv F] ∧ FF 2 = v ∧ FF 3 = .agg #[iv (g.W), iv (g.H), g0, g1, g2] ∧ FF 4 = .agg #[iv (h.W), iv (h.H), h0, h1, h2] ∧ FF 5 = pt p1 0 ∧ FF 6 = pt p22 0 ∧ FF 8 = pt p45 0 ∧ FF 9 = pt p70 0 ∧ FF 10 = pt p97 0 ∧ FF 11 = pt p126 0 ∧ FF 12 = iv (chkE W H R B K Q D F) ∧ FF 13 = pt p326 0 ∧ FF 14 = iv (newE W H) ∧ FF 15 = pt p544 0 ∧ FF 16 = iv ((el.m : Nat) : Int) ∧ FF 17 = pt pa0_ 0 ∧ FF 24 = .bool (decide ((chkE W H R B K Q D F) ≠ 0)) ∧ FF 33 = .bool false ∧ FF 43 = .bool (decide (((chsE l W H R B K Q D F).2) ≠ 0)) ∧ FF 55 = .bool (decide ((newE W H) ≠ 0)) ∧ FF 59 = .func (.func 60) #[] #[pt v653 0] ∧ FF 60 = iv ((el.m : Nat) : Int) ∧ FF 61 = .agg #[iv ((el.p : Nat) : Int), iv (pX (plN W el.p) el.i), iv (pY (plN W el.p) el.i)] ∧ FF 92 = undef ∧ Stc WW pa0_ 65 [iv ((el.p : Nat) : Int), iv (pX (plN W el.p) el.i), iv (pY (plN W el.p) el.i)] ∧ Apart (onB pa0_) T_b ∧ Apart (onB pa0_) T_g0 ∧ Apart (onB pa0_) T_g1 ∧ Apart (onB pa0_) T_g2 ∧ Apart (onB pa0_) T_h0 ∧ Apart (onB pa0_) T_h1 ∧ Apart (onB pa0_) T_h2 ∧ Apart (onB pa0_) (onB p1) ∧ Apart (onB pa0_) (onB p22) ∧ Apart (onB pa0_) (onB p45) ∧ Apart (onB pa0_) (onB p70) ∧ Apart (onB pa0_) (onB p97) ∧ Apart (onB pa0_) (onB p126) ∧ Apart (onB pa0_) T295 ∧ Apart (onB pa0_) (onB p326) ∧ Apart (onB pa0_) (onB p544) ∧ Apart (onB pa0_) T656) ?_ ?_ ?_ ?_ ?_
     ·rintro pre A_ B_ row_ ⟨ha, hb, hc, T722, T723, T724, K_, B0_, B1_, B2_, B3_, B4_, B5_, B6_, B7_, B8_, B9_, B10_, B11_, B12_, B13_, B14_, B15_, B16_, B17_, B18_, B19_, g0_, g1_, g2_, a0_, a1_, a2_, a3_, a4_, a5_, a6_, a7_, a8_, a9_, a10_, a11_, a12_, a13_, a14_, a15_, a16_, a17_, a18_, a19_, a20_, a21_, a22_, a23_, a24_, a25_, a26_, a27_, a28_, a29_, a30_, a31_, a32_, a33_, a34_, a35_, a36_, a37_, a38_, a39_, a40_, a41_, a42_, a43_, a44_, a45_, a46_, a47_, a48_, a49_, a50_, a51_, a52_, a53_⟩ hg_ hr_
      exact ⟨ha, hb, hc, T722, T723, T724, K_.row hg_ hr_ K678.size, B0_.row hg_ hr_, B1_.row hg_ hr_, B2_.row hg_ hr_, B3_.row hg_ hr_, B4_.row hg_ hr_, B5_.row hg_ hr_, B6_.row hg_ hr_, B7_.row hg_ hr_, B8_.row hg_ hr_, B9_.row hg_ hr_, B10_.row hg_ hr_, B11_.row hg_ hr_, B12_.row hg_ hr_, B13_.row hg_ hr_, B14_.row hg_ hr_, B15_.row hg_ hr_, B16_.row hg_ hr_, B17_.row hg_ hr_, B18_.row hg_ hr_, B19_.row hg_ hr_, g0_, g1_, g2_, a0_, a1_, a2_, a3_, a4_, a5_, a6_, a7_, a8_, a9_, a10_, a11_, a12_, a13_, a14_, a15_, a16_, a17_, a18_, a19_, a20_, a21_, a22_, a23_, a24_, a25_, a26_, a27_, a28_, a29_, a30_, a31_, a32_, a33_, a34_, a35_, a36_, a37_, a38_, a39_, a40_, a41_, a42_, a43_, a44_, a45_, a46_, a47_, a48_, a49_, a50_, a51_, a52_, a53_⟩
     ·rintro pre A_ B_ row_ ⟨K_, B0_, B1_, B2_, B3_, B4_, B5_, B6_, B7_, B8_, B9_, B10_, B11_, B12_, B13_, B14_, B15_, i0_⟩ hg_ hr_
      exact ⟨K_.row hg_ hr_ K678.size, B0_.row hg_ hr_, B1_.row hg_ hr_, B2_.row hg_ hr_, B3_.row hg_ hr_, B4_.row hg_ hr_, B5_.row hg_ hr_, B6_.row hg_ hr_, B7_.row hg_ hr_, B8_.row hg_ hr_, B9_.row hg_ hr_, B10_.row hg_ hr_, B11_.row hg_ hr_, B12_.row hg_ hr_, B13_.row hg_ hr_, B14_.row hg_ hr_, B15_.row hg_ hr_, i0_⟩
     ·rintro el FF _ A_ B_ row_ ⟨p0_, s0_, s1_, s2_, s3_, s4_, s5_, s6_, s7_, s8_, s9_, s10_, s11_, s12_, s13_, s14_, s15_, s16_, s17_, s18_, s19_, s20_, s21_, s22_, s23_, s24_, B0_, a0_, a1_, a2_, a3_, a4_, a5_, a6_, a7_, a8_, a9_, a10_, a11_, a12_, a13_, a14_, a15_, a16_⟩ hg_ hr_
      exact ⟨p0_, s0_, s1_, s2_, s3_, s4_, s5_, s6_, s7_, s8_, s9_, s10_, s11_, s12_, s13_, s14_, s15_, s16_, s17_, s18_, s19_, s20_, s21_, s22_, s23_, s24_, B0_.row hg_ hr_, a0_, a1_, a2_, a3_, a4_, a5_, a6_, a7_, a8_, a9_, a10_, a11_, a12_, a13_, a14_, a15_, a16_⟩
     ·rintro l_ pre el W_ ⟨ha, hb, hc, T722, T723, T724, K725, B726, B727, B728, B729, B730, B731, B732, B733, B734, B735, B736, B737, B738, B739, B740, B741, B742, B743, B744, B745, gr746, gr747, gr748, ap749, ap750, ap751, ap752, ap753, ap754, ap755, ap756, ap757, ap758, ap759, ap760, ap761, ap762, ap763, ap764, ap765, ap766, ap767, ap768, ap769, ap770, ap771, ap772, ap773, ap774, ap775, ap776, ap777, ap778, ap779, ap780, ap781, ap782, ap783, ap784, ap785, ap786, ap787, ap788, ap789, ap790, ap791, ap792, ap793, ap794, ap795, ap796, ap797, ap798, ap799, ap800, ap801, ap802⟩
      refine wq_seq (wq_region (wl_v (iv ((el.m : Nat) : Int)) rfl rfl (y_asg rfl rfl rr) (wl_nil fun F803 hF804 => ?_)))
      obtain ⟨s805, s806, s807, s808, s809⟩ := t5 hF804 0 s701 1 s702 2 s703 3 s704 4 s705
      have s810 : F803 92 = undef := (hF804 92).trans rfl
      obtain ⟨s811, s812, s813, s814, s815, s816, s817, s818, s819, s820, s821, s822, s823, s824, s825⟩ := t15 hF804 5 s707 6 s708 8 s709 9 s710 10 s711 11 s712 12 s713 24 s714 33 s715 13 s716 43 s717 15 s718 14 s719 55 s720 59 s721
      have s826 : F803 60 = iv ((el.m : Nat) : Int) := (hF804 60).trans rfl
      have s827 : F803 61 = .agg #[iv ((el.p : Nat) : Int), iv (pX (plN W el.p) el.i), iv (pY (plN W el.p) el.i)] := (hF804 61).trans rfl
      have s828 : F803 16 = iv ((el.m : Nat) : Int) := (hF804 16).trans rfl
      clear hF804
      refine then_normal (wq_region (wl_alloc_stc (n := 3) (vs := [iv 0, iv 0, iv 0]) rfl rfl rfl (by kernel_rfl) fun p829 w830 B832 g833 k831 => ?_))
      have gr834 : Grew W_ noB (onB p829) := Grew.new (Kept.refl (fun _ => False) W_) g833
      have ap835 : Apart (onB p829) T_b := Apart.new g833 B726.live
      have ap836 : Apart (onB p829) T_g0 := Apart.new g833 B727.live
      have ap837 : Apart (onB p829) T_g1 := Apart.new g833 B728.live
      have ap838 : Apart (onB p829) T_g2 := Apart.new g833 B729.live
      have ap839 : Apart (onB p829) T_h0 := Apart.new g833 B730.live
      have ap840 : Apart (onB p829) T_h1 := Apart.new g833 B731.live
      have ap841 : Apart (onB p829) T_h2 := Apart.new g833 B732.live
      have ap842 : Apart (onB p829) (onB p1) := Apart.new g833 (onB_live B733.lt)
      have ap843 : Apart (onB p829) (onB p22) := Apart.new g833 (onB_live B734.lt)
      have ap844 : Apart (onB p829) (onB p45) := Apart.new g833 (onB_live B735.lt)
      have ap845 : Apart (onB p829) (onB p70) := Apart.new g833 (onB_live B736.lt)
      have ap846 : Apart (onB p829) (onB p97) := Apart.new g833 (onB_live B737.lt)
      have ap847 : Apart (onB p829) (onB p126) := Apart.new g833 (onB_live B738.lt)
      have ap848 : Apart (onB p829) T295 := Apart.new g833 B739.live
      have ap849 : Apart (onB p829) (onB p326) := Apart.new g833 (onB_live B740.lt)
      have ap850 : Apart (onB p829) (onB p544) := Apart.new g833 (onB_live B741.lt)
      have ap851 : Apart (onB p829) T656 := Apart.new g833 B742.live
      have ap852 : Apart (onB p829) T722 := Apart.new g833 B743.live
      have ap853 : Apart (onB p829) T723 := Apart.new g833 B744.live
      have ap854 : Apart (onB p829) T724 := Apart.new g833 B745.live
      have B855 := B726.all k831 Apart.none
      have B856 := B727.all k831 Apart.none
      have B857 := B728.all k831 Apart.none
      have B858 := B729.all k831 Apart.none
      have B859 := B730.all k831 Apart.none
      have B860 := B731.all k831 Apart.none
      have B861 := B732.all k831 Apart.none
      have B862 := B733.all k831 id
      have B863 := B734.all k831 id
      have B864 := B735.all k831 id
      have B865 := B736.all k831 id
      have B866 := B737.all k831 id
      have B867 := B738.all k831 id
      have B868 := B739.all k831 Apart.none
      have B869 := B740.all k831 id
      have B870 := B741.all k831 id
      have B871 := B742.all k831 Apart.none
      have B872 := B743.all k831 Apart.none
      have B873 := B744.all k831 Apart.none
      have B874 := B745.all k831 Apart.none
      have K875 := (Kept.refl (fun _ => False) W_).trans k831 (fun _ _ x => x.elim)
      refine wl_store_stc (us := [iv ((el.p : Nat) : Int), iv (pX (plN W el.p) el.i), iv (pY (plN W el.p) el.i)]) stcT_spot rfl rfl rfl rfl s827 B832 rfl (oneI rfl (oneI rfl (oneI rfl oneN))) fun w876 B877 k878 => ?_
      have B879 := B855.all k878 ap835.symm
      have B880 := B856.all k878 ap836.symm
      have B881 := B857.all k878 ap837.symm
      have B882 := B858.all k878 ap838.symm
      have B883 := B859.all k878 ap839.symm
      have B884 := B860.all k878 ap840.symm
      have B885 := B861.all k878 ap841.symm
      have B886 := B862.all k878 (ap842.symm p1 rfl)
      have B887 := B863.all k878 (ap843.symm p22 rfl)
      have B888 := B864.all k878 (ap844.symm p45 rfl)
      have B889 := B865.all k878 (ap845.symm p70 rfl)
      have B890 := B866.all k878 (ap846.symm p97 rfl)
      have B891 := B867.all k878 (ap847.symm p126 rfl)
      have B892 := B868.all k878 ap848.symm
      have B893 := B869.all k878 (ap849.symm p326 rfl)
      have B894 := B870.all k878 (ap850.symm p544 rfl)
      have B895 := B871.all k878 ap851.symm
      have B896 := B872.all k878 ap852.symm
      have B897 := B873.all k878 ap853.symm
      have B898 := B874.all k878 ap854.symm
      have K899 := K875.trans k878 (Grew.ok (S := fun _ => False) gr834 noB_le)
      refine wl_nil fun F900 hF901 => ?_
      obtain ⟨s902, s903, s904, s905, s906, s907, s908, s909, s910, s911, s912, s913, s914, s915, s916, s917, s918, s919, s920, s921⟩ := t20 hF901 0 s805 1 s806 2 s807 3 s808 4 s809 92 s810 5 s811 6 s812 8 s813 9 s814 10 s815 11 s816 12 s817 24 s818 33 s819 13 s820 43 s821 15 s822 14 s823 55 s824
      obtain ⟨s922, s923, s924, s925⟩ := t4 hF901 59 s825 60 s826 61 s827 16 s828
      have s926 : F900 17 = pt p829 0 := (hF901 17).trans rfl
      clear hF901
      exact ⟨Cells.keeps Cells.no K899 _, K899.mono (fun _ _ x => x.elim), ⟨ha, hb, hc, T722, T723, T724, K725.trans K899 (fun _ _ x => x.elim), B879, B880, B881, B882, B883, B884, B885, B886, B887, B888, B889, B890, B891, B892, B893, B894, B895, B896, B897, B898, gr746, gr747, gr748, ap749, ap750, ap751, ap752, ap753, ap754, ap755, ap756, ap757, ap758, ap759, ap760, ap761, ap762, ap763, ap764, ap765, ap766, ap767, ap768, ap769, ap770, ap771, ap772, ap773, ap774, ap775, ap776, ap777, ap778, ap779, ap780, ap781, ap782, ap783, ap784, ap785, ap786, ap787, ap788, ap789, ap790, ap791, ap792, ap793, ap794, ap795, ap796, ap797, ap798, ap799, ap800, ap801, ap802⟩, ⟨p829, s902, s903, s904, s905, s906, s908, s909, s910, s911, s912, s913, s914, s917, s920, s919, s925, s926, s915, s916, s918, s921, s922, s923, s924, s907, B877, ap835, ap836, ap837, ap838, ap839, ap840, ap841, ap842, ap843, ap844, ap845, ap846, ap847, ap848, ap849, ap850, ap851⟩⟩
     ·rintro l_ pre el F1006 w1005 ⟨ha, hb, hc, T722, T723, T724, K927, B928, B929, B930, B931, B932, B933, B934, B935, B936, B937, B938, B939, B940, B941, B942, B943, B944, B945, B946, B947, gr948, gr949, gr950, ap951, ap952, ap953, ap954, ap955, ap956, ap957, ap958, ap959, ap960, ap961, ap962, ap963, ap964, ap965, ap966, ap967, ap968, ap969, ap970, ap971, ap972, ap973, ap974, ap975, ap976, ap977, ap978, ap979, ap980, ap981, ap982, ap983, ap984, ap985, ap986, ap987, ap988, ap989, ap990, ap991, ap992, ap993, ap994, ap995, ap996, ap997, ap998, ap999, ap1000, ap1001, ap1002, ap1003, ap1004⟩ ⟨p1007, s1008, s1009, s1010, s1011, s1012, s1013, s1014, s1015, s1016, s1017, s1018, s1019, s1020, s1021, s1022, s1023, s1024, s1025, s1026, s1027, s1028, s1029, s1030, s1031, s1032, B1033, ap1034, ap1035, ap1036, ap1037, ap1038, ap1039, ap1040, ap1041, ap1042, ap1043, ap1044, ap1045, ap1046, ap1047, ap1048, ap1049, ap1050⟩ hlen_
      have K1051 := Kept.refl (fun i => (onB p544) i ∨ (T722 i ∨ (T723 i ∨ (T724 i)))) w1005
      have hA2 := hA.all K927
      have hs2 := hs.all K927
      have hw2 := hw.all K927
      have hei := el.hi
      have hwp := plN_pos' (W := W) (p := el.p) hsd.1
      have hwl := plN_le (W := W) (p := el.p) hsd.2.1
      have hwh := plN_le (W := H) (p := el.p) hsd.2.2.2.2.1
      have hwn : plN W el.p * plN H el.p ≤ 16 * 16 := Nat.mul_le_mul hwl hwh
      have hxy := pXY_in (i := el.i) hwp hwl (by omega)
      have hml : el.m < L.length := by rw [hlo0]; exact off_lt el.hp el.hi
      have hfo := fd_ok (g := g) (h := h) (q := Q) (L := L) hm.1.1 hm.1.2.1 pre
      have hcp := cpE_may (W := W) (H := H) (R := R) (B := B) (K := K) (g := g) (h := h) hfo.1 hfo.2.1 hfo.2.2 hn ⟨hhd.1, hhd.2.1⟩ (hmay _ (getD_in (d := chZ) hml)) el.hp el.hi
      have hmd := md_yes (q := Q) hcp
      have hme := hmd.1.trans (ern_ok ⟨hhd.2.2.1, hhd.2.2.2.1⟩)
      have hdec : decB g h Q (el.p : Int) (plN W el.p) el.i (L.getD el.m chZ) (foldD g h Q W H L pre) = putFr (foldD g h Q W H L pre) (el.p : Int) (4 * pX (plN W el.p) el.i) (4 * pY (plN W el.p) el.i) (mdB (foldD g h Q W H L pre) g h (el.p : Int) (pX (plN W el.p) el.i) (pY (plN W el.p) el.i) (L.getD el.m chZ) Q) := by rw [hmd.2]; rfl
      refine wq_block (wq_seq ?_)
      refine wq_cas (γ := Unit) [(11, 10), (12, 10), (13, 10), (15, 10), (16, 10), (15, 14), (16, 14)] [some 63, some 64, some 65, some 66, some 67, some 68, some 69, some 70, some 71, some 72, some 73, some 62, some 74, some 75, some 18, none, some 19] ⟨fun w_ => True, fun _ => False, fun g_ w_ => True, fun g_ => fun _ => False, fun p_ w_ => Blk w_ p_ 69 (fun _ => 0), fun g_ p_ w_ => Blk w_ p_ 69 (mdB (foldD g h Q W H L pre) g h ((el.p : Nat) : Int) (pX (plN W el.p) el.i) (pY (plN W el.p) el.i) (L.getD (el.m) ⟨0, 0, 0, 0, 0, fun _ => 0⟩) Q)⟩ (fun _ => False) (fun p_ => w1005.heap.size ≤ p_) [fun g_ => .agg #[iv ((foldD g h Q W H L pre).W), iv ((foldD g h Q W H L pre).H), ha, hb, hc], fun g_ => .agg #[iv (g.W), iv (g.H), g0, g1, g2], fun g_ => .agg #[iv (h.W), iv (h.H), h0, h1, h2], fun g_ => .agg #[iv ((el.p : Nat) : Int), iv (pX (plN W el.p) el.i), iv (pY (plN W el.p) el.i)], fun g_ => v292, fun g_ => iv ((el.m : Nat) : Int), fun g_ => bytAddr v292 ((el.m) * 21), fun g_ => .agg (chW (L.getD (el.m) ⟨0, 0, 0, 0, 0, fun _ => 0⟩)).toArray, fun g_ => pt p22 1, fun g_ => iv Q, fun g_ => .tuple #[blkV (mdB (foldD g h Q W H L pre) g h ((el.p : Nat) : Int) (pX (plN W el.p) el.i) (pY (plN W el.p) el.i) (L.getD (el.m) ⟨0, 0, 0, 0, 0, fun _ => 0⟩) Q), iv (mdE (foldD g h Q W H L pre) g h ((el.p : Nat) : Int) (pX (plN W el.p) el.i) (pY (plN W el.p) el.i) (L.getD (el.m) ⟨0, 0, 0, 0, 0, fun _ => 0⟩) Q)], fun g_ => .tuple #[blkV (mdB (foldD g h Q W H L pre) g h ((el.p : Nat) : Int) (pX (plN W el.p) el.i) (pY (plN W el.p) el.i) (L.getD (el.m) ⟨0, 0, 0, 0, 0, fun _ => 0⟩) Q), iv (mdE (foldD g h Q W H L pre) g h ((el.p : Nat) : Int) (pX (plN W el.p) el.i) (pY (plN W el.p) el.i) (L.getD (el.m) ⟨0, 0, 0, 0, 0, fun _ => 0⟩) Q)], fun g_ => blkV (mdB (foldD g h Q W H L pre) g h ((el.p : Nat) : Int) (pX (plN W el.p) el.i) (pY (plN W el.p) el.i) (L.getD (el.m) ⟨0, 0, 0, 0, 0, fun _ => 0⟩) Q), fun g_ => iv (mdE (foldD g h Q W H L pre) g h ((el.p : Nat) : Int) (pX (plN W el.p) el.i) (pY (plN W el.p) el.i) (L.getD (el.m) ⟨0, 0, 0, 0, 0, fun _ => 0⟩) Q), fun _ => undef, fun _ => undef, fun g_ => iv (mdE (foldD g h Q W H L pre) g h ((el.p : Nat) : Int) (pX (plN W el.p) el.i) (pY (plN W el.p) el.i) (L.getD (el.m) ⟨0, 0, 0, 0, 0, fun _ => 0⟩) Q)] 10 15 (some 14) () 0 (by kernel_rfl) (by kernel_rfl) (by kernel_rfl) (by kernel_rfl) ⟨.inr (.inr fun _ _ => rfl), ⟨.inr (.inr fun _ _ => rfl), ⟨.inr (.inr fun _ _ => rfl), ⟨.inr (.inr fun _ _ => rfl), ⟨.inr (.inr fun _ _ => rfl), ⟨.inr (.inr fun _ _ => rfl), ⟨.inr (.inr fun _ _ => rfl), ⟨.inr (.inr fun _ _ => rfl), ⟨.inr (.inr fun _ _ => rfl), ⟨.inr (.inr fun _ _ => rfl), ⟨.inr (.inl rfl), ⟨.inl rfl, ⟨.inl rfl, ⟨.inl rfl, ⟨.inr (.inr fun _ _ => rfl), ⟨.inl rfl, ⟨.inl rfl, trivial⟩⟩⟩⟩⟩⟩⟩⟩⟩⟩⟩⟩⟩⟩⟩⟩⟩ ⟨trivial, fun _ _ _ _ _ _ => trivial, fun _ _ _ z => z.elim, fun _ _ _ _ _ _ _ => trivial, fun _ _ _ _ z => z.elim, fun _ _ _ _ h k z => h.all k z, fun _ _ h => h.lt, fun _ _ _ _ _ h k z => h.all k z, fun _ z => z, fun _ h => .inr h, fun _ _ z => z⟩ (fun _ _ _ h => h) (fun e => by cases e) ?_ ?_
      ·refine stepsFX_cons ?_ ?_
       ·refine StepFX.one rfl rfl rfl rfl fun g_ p_ F_ w_ hR hout hD => ?_
        exact (y_load_stc stcT_frame rfl ((hout 15 rfl (by decide)).trans s1022) (B943.all hR id) ⟨rfl, Kept.refl _ _⟩)
       refine stepsFX_cons ?_ ?_
       ·refine StepFX.one rfl rfl rfl rfl fun g_ p_ F_ w_ hR hout hD => ?_
        exact (y_load_stc stcT_frame rfl ((hout 8 rfl (by decide)).trans s1015) (B937.all hR id) ⟨rfl, Kept.refl _ _⟩)
       refine stepsFX_cons ?_ ?_
       ·refine StepFX.one rfl rfl rfl rfl fun g_ p_ F_ w_ hR hout hD => ?_
        exact (y_load_stc stcT_frame rfl ((hout 9 rfl (by decide)).trans s1016) (B938.all hR id) ⟨rfl, Kept.refl _ _⟩)
       refine stepsFX_cons ?_ ?_
       ·refine StepFX.one rfl rfl rfl rfl fun g_ p_ F_ w_ hR hout hD => ?_
        exact (y_load_stc stcT_spot rfl ((hout 17 rfl (by decide)).trans s1024) (B1033.all hR id) ⟨rfl, Kept.refl _ _⟩)
       refine stepsFX_cons ?_ ?_
       ·refine StepFX.one rfl rfl rfl rfl fun g_ p_ F_ w_ hR hout hD => ?_
        exact (y_load_cel rfl ((hout 13 rfl (by decide)).trans s1020) Tryz.underlying32 (B942.all hR id) rfl ⟨rfl, Kept.refl _ _⟩)
       refine stepsFX_cons ?_ ?_
       ·refine StepFX.one rfl rfl rfl rfl fun g_ p_ F_ w_ hR hout hD => ?_
        exact (y_mov rfl ((hout 16 rfl (by decide)).trans s1023) ⟨rfl, Kept.refl _ _⟩)
       refine stepsFX_cons ?_ ?_
       ·refine StepFX.one rfl rfl rfl rfl fun g_ p_ F_ w_ hR hout hD => ?_
        have g67 : F_ 67 = v292 := (hD.get 0 rfl rfl rfl).2 (by decide)
        have g68 : F_ 68 = iv ((el.m : Nat) : Int) := (hD.get 1 rfl rfl rfl).2 (by decide)
        exact (y_atRo (r := rCh) (el.m) rfl g67 g68 (by omega) (B941.all hR Apart.none).roa hml ⟨rfl, Kept.refl _ _⟩)
       refine stepsFX_cons ?_ ?_
       ·refine StepFX.one rfl rfl rfl rfl fun g_ p_ F_ w_ hR hout hD => ?_
        have g69 : F_ 69 = bytAddr v292 ((el.m) * 21) := (hD.get 0 rfl rfl rfl).2 (by decide)
        exact (y_ldRoP (r := rCh) (n := 21) (el.m) 0 stcT_choice rfl g69 (B941.all hR Apart.none).roa hml (by decide) rfl ⟨rfl, Kept.refl _ _⟩)
       refine stepsFX_cons ?_ ?_
       ·refine StepFX.one rfl rfl rfl rfl fun g_ p_ F_ w_ hR hout hD => ?_
        exact (y_fieldR (n := 1) rfl ((hout 6 rfl (by decide)).trans s1014) Tryz.underlying25 rfl (by kernel_rfl) (by decide) rfl ⟨rfl, Kept.refl _ _⟩)
       refine stepsFX_cons ?_ ?_
       ·refine StepFX.one rfl rfl rfl rfl fun g_ p_ F_ w_ hR hout hD => ?_
        have g71 : F_ 71 = pt p22 1 := (hD.get 0 rfl rfl rfl).2 (by decide)
        exact (y_ld_stc rfl g71 Tryz.underlying3 (B936.all hR id) rfl rfl ⟨rfl, Kept.refl _ _⟩)
       refine stepsFX_cons ?_ ?_
       ·refine StepFX.call rfl rfl rfl rfl fun g_ p_ F_ w_ hR hout hD hP_ => ?_
        have g63 : F_ 63 = .agg #[iv ((foldD g h Q W H L pre).W), iv ((foldD g h Q W H L pre).H), ha, hb, hc] := (hD.get 0 rfl rfl rfl).2 (by decide)
        have g64 : F_ 64 = .agg #[iv (g.W), iv (g.H), g0, g1, g2] := (hD.get 1 rfl rfl rfl).2 (by decide)
        have g65 : F_ 65 = .agg #[iv (h.W), iv (h.H), h0, h1, h2] := (hD.get 2 rfl rfl rfl).2 (by decide)
        have g66 : F_ 66 = .agg #[iv ((el.p : Nat) : Int), iv (pX (plN W el.p) el.i), iv (pY (plN W el.p) el.i)] := (hD.get 3 rfl rfl rfl).2 (by decide)
        have g70 : F_ 70 = .agg (chW (L.getD (el.m) ⟨0, 0, 0, 0, 0, fun _ => 0⟩)).toArray := (hD.get 4 rfl rfl rfl).2 (by decide)
        have g72 : F_ 72 = iv Q := (hD.get 5 rfl rfl rfl).2 (by decide)
        exact (y_cs rfl rfl rfl (fun _ _ => by kernel_rfl) (ev_func _) (vsC g63 (vsC g64 (vsC g65 (vsC g66 (vsC g70 (vsC g72 vsN)))))) (pc_made ((el.p : Nat) : Int) (pX (plN W el.p) el.i) (pY (plN W el.p) el.i) Q (L.getD (el.m) ⟨0, 0, 0, 0, 0, fun _ => 0⟩) (foldD g h Q W H L pre) ha hb hc g g0 g1 g2 h h0 h1 h2 T722 T723 T724 T_g0 T_g1 T_g2 T_h0 T_h1 T_h2 _ (hA2.all hR) (hs2.all hR) (hw2.all hR) ⟨hxy.1, hxy.2.1⟩ ⟨hxy.2.2.1, hxy.2.2.2⟩ (B945.all hR Apart.none).byt (B946.all hR Apart.none).byt (B947.all hR Apart.none).byt (B929.all hR Apart.none) (B930.all hR Apart.none) (B931.all hR Apart.none) (B932.all hR Apart.none) (B933.all hR Apart.none) (B934.all hR Apart.none) ) (fun e_ w_ h_ => ⟨_, h_.1, (), rfl, h_.2, trivial, fun b hb => hb.elim⟩))
       refine stepsFX_cons ?_ ?_
       ·refine StepFX.one rfl rfl rfl rfl fun g_ p_ F_ w_ hR hout hD => ?_
        have g73 : F_ 73 = .tuple #[blkV (mdB (foldD g h Q W H L pre) g h ((el.p : Nat) : Int) (pX (plN W el.p) el.i) (pY (plN W el.p) el.i) (L.getD (el.m) ⟨0, 0, 0, 0, 0, fun _ => 0⟩) Q), iv (mdE (foldD g h Q W H L pre) g h ((el.p : Nat) : Int) (pX (plN W el.p) el.i) (pY (plN W el.p) el.i) (L.getD (el.m) ⟨0, 0, 0, 0, 0, fun _ => 0⟩) Q)] := (hD.get 0 rfl rfl rfl).2 (by decide)
        exact (y_mov rfl g73 ⟨rfl, Kept.refl _ _⟩)
       refine stepsFX_cons ?_ ?_
       ·refine StepFX.one rfl rfl rfl rfl fun g_ p_ F_ w_ hR hout hD => ?_
        have g62 : F_ 62 = .tuple #[blkV (mdB (foldD g h Q W H L pre) g h ((el.p : Nat) : Int) (pX (plN W el.p) el.i) (pY (plN W el.p) el.i) (L.getD (el.m) ⟨0, 0, 0, 0, 0, fun _ => 0⟩) Q), iv (mdE (foldD g h Q W H L pre) g h ((el.p : Nat) : Int) (pX (plN W el.p) el.i) (pY (plN W el.p) el.i) (L.getD (el.m) ⟨0, 0, 0, 0, 0, fun _ => 0⟩) Q)] := (hD.get 0 rfl rfl rfl).2 (by decide)
        exact (y_ext rfl g62 rfl ⟨rfl, Kept.refl _ _⟩)
       refine stepsFX_cons ?_ ?_
       ·refine StepFX.one rfl rfl rfl rfl fun g_ p_ F_ w_ hR hout hD => ?_
        have g62 : F_ 62 = .tuple #[blkV (mdB (foldD g h Q W H L pre) g h ((el.p : Nat) : Int) (pX (plN W el.p) el.i) (pY (plN W el.p) el.i) (L.getD (el.m) ⟨0, 0, 0, 0, 0, fun _ => 0⟩) Q), iv (mdE (foldD g h Q W H L pre) g h ((el.p : Nat) : Int) (pX (plN W el.p) el.i) (pY (plN W el.p) el.i) (L.getD (el.m) ⟨0, 0, 0, 0, 0, fun _ => 0⟩) Q)] := (hD.get 0 rfl rfl rfl).2 (by decide)
        exact (y_ext rfl g62 rfl ⟨rfl, Kept.refl _ _⟩)
       refine stepsFX_cons ?_ ?_
       ·refine StepFX.alloc rfl rfl rfl rfl fun F_ w_ hR => ?_
        exact y_alloc_blkP rfl blkT_block.2.2 ⟨_, rfl, Nat.le_refl _, Blk.new _ _ _, (Kept.refl _ _).alloc _⟩
       refine stepsFX_cons ?_ ?_
       ·refine StepFX.store rfl rfl rfl rfl fun g_ p_ F_ w_ hR hout hD hO_ hZ_ hQ_ => ?_
        have g18 : F_ 18 = pt p_ 0 := (hD.get 0 rfl rfl rfl).1 rfl
        have g74 : F_ 74 = blkV (mdB (foldD g h Q W H L pre) g h ((el.p : Nat) : Int) (pX (plN W el.p) el.i) (pY (plN W el.p) el.i) (L.getD (el.m) ⟨0, 0, 0, 0, 0, fun _ => 0⟩) Q) := (hD.get 1 rfl rfl rfl).2 (by decide)
        exact y_storeBlk blkT_block.2.1 rfl g18 g74 hZ_ fun w2_ b_ k_ => ⟨rfl, k_, b_⟩
       refine stepsFX_cons ?_ ?_
       ·refine StepFX.one rfl rfl rfl rfl fun g_ p_ F_ w_ hR hout hD => ?_
        have g75 : F_ 75 = iv (mdE (foldD g h Q W H L pre) g h ((el.p : Nat) : Int) (pX (plN W el.p) el.i) (pY (plN W el.p) el.i) (L.getD (el.m) ⟨0, 0, 0, 0, 0, fun _ => 0⟩) Q) := (hD.get 0 rfl rfl rfl).2 (by decide)
        exact (y_asg rfl g75 ⟨rfl, Kept.refl _ _⟩)
       exact stepsFX_nil
      intro gg1055 p1056 v1057 F1058 w1059 k1060 hp1061 hQ1062 hG1063 hY1064 hN1065 hA1066 hV1067 hF1068
      have B1070 := B928.all k1060 Apart.none
      have B1071 := B929.all k1060 Apart.none
      have B1072 := B930.all k1060 Apart.none
      have B1073 := B931.all k1060 Apart.none
      have B1074 := B932.all k1060 Apart.none
      have B1075 := B933.all k1060 Apart.none
      have B1076 := B934.all k1060 Apart.none
      have B1077 := B935.all k1060 id
      have B1078 := B936.all k1060 id
      have B1079 := B937.all k1060 id
      have B1080 := B938.all k1060 id
      have B1081 := B939.all k1060 id
      have B1082 := B940.all k1060 id
      have B1083 := B941.all k1060 Apart.none
      have B1084 := B942.all k1060 id
      have B1085 := B943.all k1060 id
      have B1086 := B944.all k1060 Apart.none
      have B1087 := B945.all k1060 Apart.none
      have B1088 := B946.all k1060 Apart.none
      have B1089 := B947.all k1060 Apart.none
      have B1090 := B1033.all k1060 id
      have K1091 := K1051.tr k1060
      replace hY1064 : Blk w1059 p1056 69 (mdB (foldD g h Q W H L pre) g h ((el.p : Nat) : Int) (pX (plN W el.p) el.i) (pY (plN W el.p) el.i) (L.getD (el.m) ⟨0, 0, 0, 0, 0, fun _ => 0⟩) Q) := hY1064
      obtain ⟨s1128, s1130⟩ := t2 hF1068 15 s1022 17 s1024
      have s1139 : F1058 18 = pt p1056 0 := (hF1068 18).trans (hA1066 14 rfl)
      have s1140 : F1058 19 = iv (mdE (foldD g h Q W H L pre) g h ((el.p : Nat) : Int) (pX (plN W el.p) el.i) (pY (plN W el.p) el.i) (L.getD (el.m) ⟨0, 0, 0, 0, 0, fun _ => 0⟩) Q) := (hF1068 19).trans (hV1067 16 (by decide) (by decide))
      clear hF1068 hV1067 hA1066 hN1065 hG1063
      refine then_normal (wq_seq (wq_seq (wq_region (wl_mv rfl rfl rfl s1140 (wl_v (.bool (decide ((mdE (foldD g h Q W H L pre) g h ((el.p : Nat) : Int) (pX (plN W el.p) el.i) (pY (plN W el.p) el.i) (L.getD (el.m) ⟨0, 0, 0, 0, 0, fun _ => 0⟩) Q) ≠ 0))) rfl rfl (y_neqI rfl rfl rfl rfl rr) (wl_nil fun F1141 hF1142 => ?_))))))
      obtain ⟨s1157, s1159, s1168⟩ := t3 hF1142 15 s1128 17 s1130 18 s1139
      have s1170 : F1141 77 = .bool (decide ((mdE (foldD g h Q W H L pre) g h ((el.p : Nat) : Int) (pX (plN W el.p) el.i) (pY (plN W el.p) el.i) (L.getD (el.m) ⟨0, 0, 0, 0, 0, fun _ => 0⟩) Q) ≠ 0)) := (hF1142 77).trans rfl
      clear hF1142
      refine then_normal ?_
      refine wq_cond s1170 (fun c1171 => ?_) (fun c1171 => ?_)
      ·replace c1171 := of_decide_eq_true c1171
       refine wq_seq ?_
       exact absurd hme (by assumption)
      ·replace c1171 := of_decide_eq_false c1171
       refine wq_skip (then_normal (wq_region (wl_v (.agg #[iv ((foldD g h Q W H L pre).W), iv ((foldD g h Q W H L pre).H), ha, hb, hc]) rfl rfl (y_load_stc stcT_frame rfl s1157 B1085 rr) (wl_v (pt p1007 0) rfl rfl (y_fieldR (n := 1) rfl s1159 Tryz.underlying65 rfl (by kernel_rfl) (by decide) rfl rr) (wl_v (iv ((el.p : Nat) : Int)) rfl rfl (y_ld_stc rfl rfl Tryz.underlying3 B1090 rfl rfl rr) (wl_v (pt p1007 1) rfl rfl (y_fieldR (n := 1) rfl s1159 Tryz.underlying65 rfl (by kernel_rfl) (by decide) rfl rr) (wl_v (iv (pX (plN W el.p) el.i)) rfl rfl (y_ld_stc rfl rfl Tryz.underlying3 B1090 rfl rfl rr) (wl_v (iv (4 * pX (plN W el.p) el.i)) rfl rfl (y_mul rfl rfl rfl (i64_i rfl (by omega)) rr) (wl_v (pt p1007 2) rfl rfl (y_fieldR (n := 1) rfl s1159 Tryz.underlying65 rfl (by kernel_rfl) (by decide) rfl rr) (wl_v (iv (pY (plN W el.p) el.i)) rfl rfl (y_ld_stc rfl rfl Tryz.underlying3 B1090 rfl rfl rr) (wl_v (iv (4 * pY (plN W el.p) el.i)) rfl rfl (y_mul rfl rfl rfl (i64_i rfl (by omega)) rr) ?_)))))))))))
       refine wl_v (blkV (mdB (foldD g h Q W H L pre) g h ((el.p : Nat) : Int) (pX (plN W el.p) el.i) (pY (plN W el.p) el.i) (L.getD (el.m) ⟨0, 0, 0, 0, 0, fun _ => 0⟩) Q)) rfl rfl (y_load_blk blkT_block rfl s1168 hY1064 rr) (wl_call (R := fun v_ w_ => ∃ (v1172 : Value) (T1177 : Nat → Prop) (v1173 : Value) (T1178 : Nat → Prop) (v1174 : Value) (T1179 : Nat → Prop), .agg #[iv ((putFr (foldD g h Q W H L pre) ((el.p : Nat) : Int) (4 * pX (plN W el.p) el.i) (4 * pY (plN W el.p) el.i) (mdB (foldD g h Q W H L pre) g h ((el.p : Nat) : Int) (pX (plN W el.p) el.i) (pY (plN W el.p) el.i) (L.getD (el.m) ⟨0, 0, 0, 0, 0, fun _ => 0⟩) Q)).W), iv ((putFr (foldD g h Q W H L pre) ((el.p : Nat) : Int) (4 * pX (plN W el.p) el.i) (4 * pY (plN W el.p) el.i) (mdB (foldD g h Q W H L pre) g h ((el.p : Nat) : Int) (pX (plN W el.p) el.i) (pY (plN W el.p) el.i) (L.getD (el.m) ⟨0, 0, 0, 0, 0, fun _ => 0⟩) Q)).H), v1172, v1173, v1174] = v_ ∧ Kept (fun _ => False) w1059 w_ ∧ (Owb w_ T1177 v1172 ((putFr (foldD g h Q W H L pre) ((el.p : Nat) : Int) (4 * pX (plN W el.p) el.i) (4 * pY (plN W el.p) el.i) (mdB (foldD g h Q W H L pre) g h ((el.p : Nat) : Int) (pX (plN W el.p) el.i) (pY (plN W el.p) el.i) (L.getD (el.m) ⟨0, 0, 0, 0, 0, fun _ => 0⟩) Q)).p0) ∧ Grew w1059 noB T1177) ∧ (Owb w_ T1178 v1173 ((putFr (foldD g h Q W H L pre) ((el.p : Nat) : Int) (4 * pX (plN W el.p) el.i) (4 * pY (plN W el.p) el.i) (mdB (foldD g h Q W H L pre) g h ((el.p : Nat) : Int) (pX (plN W el.p) el.i) (pY (plN W el.p) el.i) (L.getD (el.m) ⟨0, 0, 0, 0, 0, fun _ => 0⟩) Q)).p1) ∧ Grew w1059 noB T1178) ∧ (Owb w_ T1179 v1174 ((putFr (foldD g h Q W H L pre) ((el.p : Nat) : Int) (4 * pX (plN W el.p) el.i) (4 * pY (plN W el.p) el.i) (mdB (foldD g h Q W H L pre) g h ((el.p : Nat) : Int) (pX (plN W el.p) el.i) (pY (plN W el.p) el.i) (L.getD (el.m) ⟨0, 0, 0, 0, 0, fun _ => 0⟩) Q)).p2) ∧ Grew w1059 noB T1179) ∧ Apart T1177 T1178 ∧ Apart T1177 T1179 ∧ Apart T1178 T1179) rfl rfl (y_cs rfl rfl rfl (fun _ _ => by kernel_rfl) (ev_func _) (vsC rfl (vsC rfl (vsC rfl (vsC rfl (vsC rfl vsN))))) (pl_put ((el.p : Nat) : Int) (4 * pX (plN W el.p) el.i) (4 * pY (plN W el.p) el.i) (mdB (foldD g h Q W H L pre) g h ((el.p : Nat) : Int) (pX (plN W el.p) el.i) (pY (plN W el.p) el.i) (L.getD (el.m) ⟨0, 0, 0, 0, 0, fun _ => 0⟩) Q) (foldD g h Q W H L pre) ha hb hc T722 T723 T724 _  B1087.byt B1088.byt B1089.byt ) (fun e_ w_ h_ => by obtain ⟨v1172_, T1177_, v1173_, T1178_, v1174_, T1179_, he_, hr_⟩ := h_; exact ⟨_, he_, v1172_, T1177_, v1173_, T1178_, v1174_, T1179_, rfl, hr_⟩)) ?_)
       rintro _ w1175 ⟨v1172, T1177, v1173, T1178, v1174, T1179, rfl, k1176, ⟨B1180, g1183⟩, ⟨B1181, g1184⟩, ⟨B1182, g1185⟩, ap1186, ap1187, ap1188⟩
       have B1189 := B1070.all k1176 Apart.none
       have B1190 := B1071.all k1176 Apart.none
       have B1191 := B1072.all k1176 Apart.none
       have B1192 := B1073.all k1176 Apart.none
       have B1193 := B1074.all k1176 Apart.none
       have B1194 := B1075.all k1176 Apart.none
       have B1195 := B1076.all k1176 Apart.none
       have B1196 := B1077.all k1176 id
       have B1197 := B1078.all k1176 id
       have B1198 := B1079.all k1176 id
       have B1199 := B1080.all k1176 id
       have B1200 := B1081.all k1176 id
       have B1201 := B1082.all k1176 id
       have B1202 := B1083.all k1176 Apart.none
       have B1203 := B1084.all k1176 id
       have B1204 := B1085.all k1176 id
       have B1205 := B1086.all k1176 Apart.none
       have K1211 := K1091.tr k1176
       have gr1212 : Grew w1005 noB T1177 := Grew.new K1091 g1183
       have ap1213 : Apart T1177 T_b := Apart.new g1183 B1070.live
       have ap1214 : Apart T1177 T_g0 := Apart.new g1183 B1071.live
       have ap1215 : Apart T1177 T_g1 := Apart.new g1183 B1072.live
       have ap1216 : Apart T1177 T_g2 := Apart.new g1183 B1073.live
       have ap1217 : Apart T1177 T_h0 := Apart.new g1183 B1074.live
       have ap1218 : Apart T1177 T_h1 := Apart.new g1183 B1075.live
       have ap1219 : Apart T1177 T_h2 := Apart.new g1183 B1076.live
       have ap1220 : Apart T1177 (onB p1) := Apart.new g1183 (onB_live B1077.lt)
       have ap1221 : Apart T1177 (onB p22) := Apart.new g1183 (onB_live B1078.lt)
       have ap1222 : Apart T1177 (onB p45) := Apart.new g1183 (onB_live B1079.lt)
       have ap1223 : Apart T1177 (onB p70) := Apart.new g1183 (onB_live B1080.lt)
       have ap1224 : Apart T1177 (onB p97) := Apart.new g1183 (onB_live B1081.lt)
       have ap1225 : Apart T1177 (onB p126) := Apart.new g1183 (onB_live B1082.lt)
       have ap1226 : Apart T1177 T295 := Apart.new g1183 B1083.live
       have ap1227 : Apart T1177 (onB p326) := Apart.new g1183 (onB_live B1084.lt)
       have ap1228 : Apart T1177 (onB p544) := Apart.new g1183 (onB_live B1085.lt)
       have ap1229 : Apart T1177 T656 := Apart.new g1183 B1086.live
       have gr1235 : Grew w1005 noB T1178 := Grew.new K1091 g1184
       have ap1236 : Apart T1178 T_b := Apart.new g1184 B1070.live
       have ap1237 : Apart T1178 T_g0 := Apart.new g1184 B1071.live
       have ap1238 : Apart T1178 T_g1 := Apart.new g1184 B1072.live
       have ap1239 : Apart T1178 T_g2 := Apart.new g1184 B1073.live
       have ap1240 : Apart T1178 T_h0 := Apart.new g1184 B1074.live
       have ap1241 : Apart T1178 T_h1 := Apart.new g1184 B1075.live
       have ap1242 : Apart T1178 T_h2 := Apart.new g1184 B1076.live
       have ap1243 : Apart T1178 (onB p1) := Apart.new g1184 (onB_live B1077.lt)
       have ap1244 : Apart T1178 (onB p22) := Apart.new g1184 (onB_live B1078.lt)
       have ap1245 : Apart T1178 (onB p45) := Apart.new g1184 (onB_live B1079.lt)
       have ap1246 : Apart T1178 (onB p70) := Apart.new g1184 (onB_live B1080.lt)
       have ap1247 : Apart T1178 (onB p97) := Apart.new g1184 (onB_live B1081.lt)
       have ap1248 : Apart T1178 (onB p126) := Apart.new g1184 (onB_live B1082.lt)
       have ap1249 : Apart T1178 T295 := Apart.new g1184 B1083.live
       have ap1250 : Apart T1178 (onB p326) := Apart.new g1184 (onB_live B1084.lt)
       have ap1251 : Apart T1178 (onB p544) := Apart.new g1184 (onB_live B1085.lt)
       have ap1252 : Apart T1178 T656 := Apart.new g1184 B1086.live
       have gr1258 : Grew w1005 noB T1179 := Grew.new K1091 g1185
       have ap1259 : Apart T1179 T_b := Apart.new g1185 B1070.live
       have ap1260 : Apart T1179 T_g0 := Apart.new g1185 B1071.live
       have ap1261 : Apart T1179 T_g1 := Apart.new g1185 B1072.live
       have ap1262 : Apart T1179 T_g2 := Apart.new g1185 B1073.live
       have ap1263 : Apart T1179 T_h0 := Apart.new g1185 B1074.live
       have ap1264 : Apart T1179 T_h1 := Apart.new g1185 B1075.live
       have ap1265 : Apart T1179 T_h2 := Apart.new g1185 B1076.live
       have ap1266 : Apart T1179 (onB p1) := Apart.new g1185 (onB_live B1077.lt)
       have ap1267 : Apart T1179 (onB p22) := Apart.new g1185 (onB_live B1078.lt)
       have ap1268 : Apart T1179 (onB p45) := Apart.new g1185 (onB_live B1079.lt)
       have ap1269 : Apart T1179 (onB p70) := Apart.new g1185 (onB_live B1080.lt)
       have ap1270 : Apart T1179 (onB p97) := Apart.new g1185 (onB_live B1081.lt)
       have ap1271 : Apart T1179 (onB p126) := Apart.new g1185 (onB_live B1082.lt)
       have ap1272 : Apart T1179 T295 := Apart.new g1185 B1083.live
       have ap1273 : Apart T1179 (onB p326) := Apart.new g1185 (onB_live B1084.lt)
       have ap1274 : Apart T1179 (onB p544) := Apart.new g1185 (onB_live B1085.lt)
       have ap1275 : Apart T1179 T656 := Apart.new g1185 B1086.live
       refine wl_store_stc (us := [iv ((putFr (foldD g h Q W H L pre) ((el.p : Nat) : Int) (4 * pX (plN W el.p) el.i) (4 * pY (plN W el.p) el.i) (mdB (foldD g h Q W H L pre) g h ((el.p : Nat) : Int) (pX (plN W el.p) el.i) (pY (plN W el.p) el.i) (L.getD (el.m) ⟨0, 0, 0, 0, 0, fun _ => 0⟩) Q)).W), iv ((putFr (foldD g h Q W H L pre) ((el.p : Nat) : Int) (4 * pX (plN W el.p) el.i) (4 * pY (plN W el.p) el.i) (mdB (foldD g h Q W H L pre) g h ((el.p : Nat) : Int) (pX (plN W el.p) el.i) (pY (plN W el.p) el.i) (L.getD (el.m) ⟨0, 0, 0, 0, 0, fun _ => 0⟩) Q)).H), v1172, v1173, v1174]) stcT_frame rfl rfl rfl s1157 rfl B1204 rfl (oneI rfl (oneI rfl (oneI B1180.one (oneI B1181.one (oneI B1182.one oneN))))) fun w1281 B1282 k1283 => ?_
       have B1284 := B1189.all k1283 ap550.symm
       have B1285 := B1190.all k1283 ap551.symm
       have B1286 := B1191.all k1283 ap552.symm
       have B1287 := B1192.all k1283 ap553.symm
       have B1288 := B1193.all k1283 ap554.symm
       have B1289 := B1194.all k1283 ap555.symm
       have B1290 := B1195.all k1283 ap556.symm
       have B1291 := B1196.all k1283 (ap557.symm p1 rfl)
       have B1292 := B1197.all k1283 (ap558.symm p22 rfl)
       have B1293 := B1198.all k1283 (ap559.symm p45 rfl)
       have B1294 := B1199.all k1283 (ap560.symm p70 rfl)
       have B1295 := B1200.all k1283 (ap561.symm p97 rfl)
       have B1296 := B1201.all k1283 (ap562.symm p126 rfl)
       have B1297 := B1202.all k1283 ap563.symm
       have B1298 := B1203.all k1283 (ap564.symm p326 rfl)
       have B1299 := B1205.all k1283 ap698
       have B1305 := B1180.all k1283 ap1228
       have B1306 := B1181.all k1283 ap1251
       have B1307 := B1182.all k1283 ap1274
       have K1308 := K1211.trans k1283 (Grew.ok (S := fun i => (onB p544) i ∨ (T722 i ∨ (T723 i ∨ (T724 i)))) (Grew.refl w1005 (onB p544)) (fun _ x => Or.inl x))
       refine wl_nil fun F1309 hF1310 => ?_
       clear hF1310
       refine in_normal ?_
       exact ⟨CellsB.keeps (CellsB.or B943.cells.cb (CellsB.or B945.cells.cb (CellsB.or B946.cells.cb B947.cells.cb))) K1308, K1308.mono (fun i hi x => (x.elim (fun y => fun e => ap698.symm i y (by rw [B944.1]; exact e)) (fun y => (y.elim (fun y => fun e => ap967 i y (by rw [B944.1]; exact e)) (fun y => (y.elim (fun y => fun e => ap986 i y (by rw [B944.1]; exact e)) (fun y => (fun e => ap1004 i y (by rw [B944.1]; exact e))))))))), ⟨v1172, v1173, v1174, T1177, T1178, T1179, K927.trans K1308 (fun i hi x => (x.elim (fun y => ((Grew.ok (S := fun _ => False) gr549 noB_le) i hi y)) (fun y => (y.elim (fun y => ((Grew.ok (S := fun _ => False) gr948 noB_le) i hi y)) (fun y => (y.elim (fun y => ((Grew.ok (S := fun _ => False) gr949 noB_le) i hi y)) (fun y => ((Grew.ok (S := fun _ => False) gr950 noB_le) i hi y)))))))), B1284, B1285, B1286, B1287, B1288, B1289, B1290, B1291, B1292, B1293, B1294, B1295, B1296, B1297, B1298, (by rw [fd_snoc, hdec]; exact B1282), B1299, (by rw [fd_snoc, hdec]; exact B1305), (by rw [fd_snoc, hdec]; exact B1306), (by rw [fd_snoc, hdec]; exact B1307), ((Grew.new K927 gr1212).weak noB_le), ((Grew.new K927 gr1235).weak noB_le), ((Grew.new K927 gr1258).weak noB_le), ap1213, ap1214, ap1215, ap1216, ap1217, ap1218, ap1219, ap1220, ap1221, ap1222, ap1223, ap1224, ap1225, ap1226, ap1227, ap1228, ap1229, ap1186, ap1187, ap1236, ap1237, ap1238, ap1239, ap1240, ap1241, ap1242, ap1243, ap1244, ap1245, ap1246, ap1247, ap1248, ap1249, ap1250, ap1251, ap1252, ap1188, ap1259, ap1260, ap1261, ap1262, ap1263, ap1264, ap1265, ap1266, ap1267, ap1268, ap1269, ap1270, ap1271, ap1272, ap1273, ap1274, ap1275⟩⟩
     ·rintro D1417 xs_ w1418 d1419 hS_ ⟨ha, hb, hc, T722, T723, T724, K1339, B1340, B1341, B1342, B1343, B1344, B1345, B1346, B1347, B1348, B1349, B1350, B1351, B1352, B1353, B1354, B1355, B1356, B1357, B1358, B1359, gr1360, gr1361, gr1362, ap1363, ap1364, ap1365, ap1366, ap1367, ap1368, ap1369, ap1370, ap1371, ap1372, ap1373, ap1374, ap1375, ap1376, ap1377, ap1378, ap1379, ap1380, ap1381, ap1382, ap1383, ap1384, ap1385, ap1386, ap1387, ap1388, ap1389, ap1390, ap1391, ap1392, ap1393, ap1394, ap1395, ap1396, ap1397, ap1398, ap1399, ap1400, ap1401, ap1402, ap1403, ap1404, ap1405, ap1406, ap1407, ap1408, ap1409, ap1410, ap1411, ap1412, ap1413, ap1414, ap1415, ap1416⟩ B1420
      subst hS_
      have B1420 : Mrk w1418 D1417 := B1420
      have gr1421 : Grew w0 noB (onB D1417) := onB_new (Nat.le_trans K678.size d1419)
      have ap1433 : Apart (onB D1417) (onB p97) := Mrk.far d1419 (onB_live B670.lt)
      have ap1434 : Apart (onB D1417) (onB p126) := Mrk.far d1419 (onB_live B671.lt)
      have ap1439 : Apart (onB D1417) T722 := Mrk.apart B1420 B1357.cells
      have ap1440 : Apart (onB D1417) T723 := Mrk.apart B1420 B1358.cells
      have ap1441 : Apart (onB D1417) T724 := Mrk.apart B1420 B1359.cells
      have s1442 : markV (D1417 :: marksOf (F699 92)) = markV [D1417] := congrArg (fun z => markV (D1417 :: marksOf z)) s706
      refine in_normal (then_normal (wq_seq (wq_region (wl_v (.agg #[iv ((foldD g h Q W H L (spTo W H 3)).W), iv ((foldD g h Q W H L (spTo W H 3)).H), ha, hb, hc]) rfl rfl (y_load_stc stcT_frame rfl s718 B1355 rr) (wl_store_stc (us := [iv ((foldD g h Q W H L (spTo W H 3)).W), iv ((foldD g h Q W H L (spTo W H 3)).H), ha, hb, hc]) stcT_frame rfl rfl rfl s711 rfl B1351 rfl (oneI rfl (oneI rfl (oneI B1357.one (oneI B1358.one (oneI B1359.one oneN))))) fun w1443 B1444 k1445 => ?_)))))
      have B1457 := B1352.all k1445 (ap145 p126 rfl)
      have B1462 := B1357.all k1445 ap1374
      have B1463 := B1358.all k1445 ap1393
      have B1464 := B1359.all k1445 ap1411
      have B1465 := B1420.all k1445 (ap1433 D1417 rfl)
      have K1466 := K1339.trans k1445 (Grew.ok (S := fun _ => False) gr102 noB_le)
      refine wl_store_cel rfl rfl rfl s712 rfl B1457 (by rfl) (by kernel_rfl) fun w1467 B1468 k1469 => ?_
      have B1481 := B1444.all k1469 (ap145.symm p97 rfl)
      have B1486 := B1462.all k1469 ap1375
      have B1487 := B1463.all k1469 ap1394
      have B1488 := B1464.all k1469 ap1412
      have B1489 := B1465.all k1469 (ap1434 D1417 rfl)
      have K1490 := K1466.trans k1469 (Grew.ok (S := fun _ => False) gr133 noB_le)
      refine wl_nil fun F1491 hF1492 => ?_
      obtain ⟨s1493, s1494, s1495⟩ := t3 hF1492 92 s1442 10 s711 11 s712
      clear hF1492
      refine then_normal (wq_ret ?_)
      have k1496 := kept_shut w1467 D1417
      have B1509 := B1481.all k1496 (ap1433.symm p97 rfl)
      have B1510 := B1468.all k1496 (ap1434.symm p126 rfl)
      have B1515 := B1486.all k1496 ap1439.symm
      have B1516 := B1487.all k1496 ap1440.symm
      have B1517 := B1488.all k1496 ap1441.symm
      have K1497 := K1490.trans k1496 (Grew.ok (S := fun _ => False) gr1421 noB_le)
      exact endm_2 (ms := [D1417]) s1493 B1489.opens rfl (res_stc (vs := [iv ((foldD g h Q W H L (spTo W H 3)).W), iv ((foldD g h Q W H L (spTo W H 3)).H), ha, hb, hc]) stcT_frame rfl s1494 B1509) (res_cel Tryz.underlying33 rfl rfl s1495 B1510) ⟨ha, T722, hb, T723, hc, T724, (by first | exact hfalse.elim | (rw [hE, hFr, chk_no hmn]; rfl) | rw [hE, hFr, chk_no hmn] | (rw [hE, hFr, ← fd_all 3 (Nat.le_refl 3)]; rfl) | rw [hE, hFr, ← fd_all 3 (Nat.le_refl 3)] | (rw [hE, hFr]; rfl) | rw [hE, hFr]), K1497, ⟨(by first | exact hfalse.elim | (rw [hFr, ← fd_all 3 (Nat.le_refl 3)]; exact B1515) | (rw [hFr]; exact B1515)), gr1360⟩, ⟨(by first | exact hfalse.elim | (rw [hFr, ← fd_all 3 (Nat.le_refl 3)]; exact B1516) | (rw [hFr]; exact B1516)), gr1361⟩, ⟨(by first | exact hfalse.elim | (rw [hFr, ← fd_all 3 (Nat.le_refl 3)]; exact B1517) | (rw [hFr]; exact B1517)), gr1362⟩, ap1380, ap1381, ap1399⟩
     ·rintro D1535 pre w1536 d1537 hpf ⟨K1518, B1519, B1520, B1521, B1522, B1523, B1524, B1525, B1526, B1527, B1528, B1529, B1530, B1531, B1532, B1533, B1534, hfalse⟩ B1538
      have B1538 : Mrk w1536 D1535 := B1538
      have gr1539 : Grew w0 noB (onB D1535) := onB_new (Nat.le_trans K678.size d1537)
      have ap1551 : Apart (onB D1535) (onB p97) := Mrk.far d1537 (onB_live B670.lt)
      have ap1552 : Apart (onB D1535) (onB p126) := Mrk.far d1537 (onB_live B671.lt)
      have s1556 : markV (D1535 :: marksOf (F699 92)) = markV [D1535] := congrArg (fun z => markV (D1535 :: marksOf z)) s706
      refine in_ret (then_ret ?_)
      have k1557 := kept_shut w1536 D1535
      have B1570 := B1530.all k1557 (ap1551.symm p97 rfl)
      have B1571 := B1531.all k1557 (ap1552.symm p126 rfl)
      have K1558 := K1518.trans k1557 (Grew.ok (S := fun _ => False) gr1539 noB_le)
      exact endm_2 (ms := [D1535]) s1556 B1538.opens rfl (res_stc (vs := [iv 0, iv 0, .slice none 0 0, .slice none 0 0, .slice none 0 0]) stcT_frame rfl s711 B1570) (res_cel Tryz.underlying33 rfl rfl s712 B1571) ⟨(.slice none 0 0), noB, (.slice none 0 0), noB, (.slice none 0 0), noB, (by first | exact hfalse.elim | (rw [hE, hFr, chk_no hmn]; rfl) | rw [hE, hFr, chk_no hmn] | (rw [hE, hFr, ← fd_all 3 (Nat.le_refl 3)]; rfl) | rw [hE, hFr, ← fd_all 3 (Nat.le_refl 3)] | (rw [hE, hFr]; rfl) | rw [hE, hFr]), K1558, ⟨(by first | exact hfalse.elim | (rw [hFr, ← fd_all 3 (Nat.le_refl 3)]; exact (Owb.nil _)) | (rw [hFr]; exact (Owb.nil _))), (Grew.refl _ _)⟩, ⟨(by first | exact hfalse.elim | (rw [hFr, ← fd_all 3 (Nat.le_refl 3)]; exact (Owb.nil _)) | (rw [hFr]; exact (Owb.nil _))), (Grew.refl _ _)⟩, ⟨(by first | exact hfalse.elim | (rw [hFr, ← fd_all 3 (Nat.le_refl 3)]; exact (Owb.nil _)) | (rw [hFr]; exact (Owb.nil _))), (Grew.refl _ _)⟩, Apart.none, Apart.none, Apart.none⟩
  ·skip
   refine wq_region (wl_v (.agg #[iv W, iv H, iv R, iv B]) rfl rfl (y_load_stc stcT_seq rfl s212 B182 rr) (wl_v (pt p22 0) rfl rfl (y_fieldR (n := 1) rfl s213 Tryz.underlying25 rfl (by kernel_rfl) (by decide) rfl rr) (wl_v (iv K) rfl rfl (y_ld_stc rfl rfl Tryz.underlying3 B183 rfl rfl rr) (wl_v (.agg #[iv (g.W), iv (g.H), g0, g1, g2]) rfl rfl (y_load_stc stcT_frame rfl s214 B184 rr) (wl_v (.agg #[iv (h.W), iv (h.H), h0, h1, h2]) rfl rfl (y_load_stc stcT_frame rfl s215 B185 rr) (wl_call (R := fun v_ w_ => v_ = .bool false ∧ Kept (fun _ => False) w173 w_) rfl rfl (y_cs rfl rfl rfl (fun _ _ => by kernel_rfl) (ev_func _) (vsC rfl (vsC rfl (vsC rfl (vsC rfl vsN)))) (pc_has W H R B K g g0 g1 g2 h h0 h1 h2 T_g0 T_g1 T_g2 T_h0 T_h1 T_h2 _  B176 B177 B178 B179 B180 B181 ) (fun e_ w_ h_ => ⟨_, h_.1, (congrArg Value.bool (decide_eq_false d258)), h_.2⟩)) ?_))))))
   rintro _ w1575 ⟨rfl, k1576⟩
   have B1588 := B186.all k1576 id
   have B1589 := B187.all k1576 id
   have K1590 := K188.tr k1576
   refine wl_v (.bool true) rfl rfl (y_not rfl rfl rfl rr) (wl_nil fun F1591 hF1592 => ?_)
   obtain ⟨s1598, s1603, s1604⟩ := t3 hF1592 92 s211 10 s216 11 s217
   have s1607 : F1591 33 = .bool true := (hF1592 33).trans rfl
   clear hF1592
   refine then_normal ?_
   refine wq_cond (t := true) s1607 (fun _ => ?_) (fun e => by cases e)
   refine wq_seq ?_
   have hE := decE_fit (l := l) (g := g) (h := h) hm (by first | assumption | (apply Decidable.byContradiction; assumption))
   have hFr := decF_no (l := l) (W := W) (H := H) (R := R) (B := B) (K := K) (Q := Q) (D := D) (F := F) (g := g) (h := h) (by rw [hE]; decide)
   refine wq_region (wl_v (.agg #[iv 0, iv 0, .slice none 0 0, .slice none 0 0, .slice none 0 0]) rfl rfl (y_buildL (l' := []) (cells := #[iv 0, iv 0, .slice none 0 0, .slice none 0 0, .slice none 0 0]) rfl bpN (by kernel_rfl) rfl rr) (wl_store_stc (us := [iv 0, iv 0, .slice none 0 0, .slice none 0 0, .slice none 0 0]) stcT_frame rfl rfl rfl s1603 rfl B1588 rfl (oneI rfl (oneI rfl (oneI rfl (oneI rfl (oneI rfl oneN))))) fun w1608 B1609 k1610 => ?_))
   have B1622 := B1589.all k1610 (ap145 p126 rfl)
   have K1623 := K1590.trans k1610 (Grew.ok (S := fun _ => False) gr102 noB_le)
   refine wl_store_cel rfl rfl rfl s1604 rfl B1622 (by rfl) (by kernel_rfl) fun w1624 B1625 k1626 => ?_
   have B1638 := B1609.all k1626 (ap145.symm p97 rfl)
   have K1639 := K1623.trans k1626 (Grew.ok (S := fun _ => False) gr133 noB_le)
   refine wl_nil fun F1640 hF1641 => ?_
   obtain ⟨s1642, s1643, s1644⟩ := t3 hF1641 92 s1598 10 s1603 11 s1604
   clear hF1641
   refine then_normal (wq_ret (then_ret ?_))
   exact endm_2 (ms := []) (Eq.trans s1642 (rfl : undef = markV [])) trivial rfl (res_stc (vs := [iv 0, iv 0, .slice none 0 0, .slice none 0 0, .slice none 0 0]) stcT_frame rfl s1643 B1638) (res_cel Tryz.underlying33 rfl rfl s1644 B1625) ⟨(.slice none 0 0), noB, (.slice none 0 0), noB, (.slice none 0 0), noB, (by first | exact hfalse.elim | (rw [hE, hFr, chk_no hmn]; rfl) | rw [hE, hFr, chk_no hmn] | (rw [hE, hFr, ← fd_all 3 (Nat.le_refl 3)]; rfl) | rw [hE, hFr, ← fd_all 3 (Nat.le_refl 3)] | (rw [hE, hFr]; rfl) | rw [hE, hFr]), K1639, ⟨(by first | exact hfalse.elim | (rw [hFr, ← fd_all 3 (Nat.le_refl 3)]; exact (Owb.nil _)) | (rw [hFr]; exact (Owb.nil _))), (Grew.refl _ _)⟩, ⟨(by first | exact hfalse.elim | (rw [hFr, ← fd_all 3 (Nat.le_refl 3)]; exact (Owb.nil _)) | (rw [hFr]; exact (Owb.nil _))), (Grew.refl _ _)⟩, ⟨(by first | exact hfalse.elim | (rw [hFr, ← fd_all 3 (Nat.le_refl 3)]; exact (Owb.nil _)) | (rw [hFr]; exact (Owb.nil _))), (Grew.refl _ _)⟩, Apart.none, Apart.none, Apart.none⟩
end Go.Proofs.YtknjpdcpmpfklaaGreatDoor
set_option maxRecDepth 100000
namespace Go.Proofs.YtknjpdcpmpfklaaGreatDoor
open Go.RowKit
theorem t_refend (n : Nat) (w0 : World) (hn : n < 1099511627776) : Calls Tryz.prog 23 #[.int .i64 (n : Int)] w0 fun e w' => e = .returned (.string (strOf (endBits n))) ∧ Kept (fun _ => False) w0 w' :=
  (ref_end n w0 hn).mono fun _ _ ⟨e, hw⟩ => by subst hw; exact ⟨e, Kept.refl _ _⟩
theorem pcseq_walk (w0 : World) :
  Calls Tryz.prog 24 #[] w0 fun e w' => e = .returned (.agg #[.int .i64 (8), .int .i64 (8), .int .i64 (100), .int .i64 (1000)]) ∧ Kept (fun _ => False) w0 w' := by
 refine calls_wq (args := []) 2 Tryz.func24 rfl rfl (Nat.le_of_ble_eq_true rfl) ?_
 have K0 := Kept.refl (fun _ => False) w0
 refine wq_seq (wq_region (wl_alloc_stc (n := 4) (vs := [iv 0, iv 0, iv 0, iv 0]) rfl rfl rfl (by kernel_rfl) fun p1 w2 B4 g5 k3 => ?_))
 have gr6 : Grew w0 noB (onB p1) := Grew.new K0 g5
 have K7 := K0.tr k3
 refine wl_nil fun F8 hF9 => ?_
 have s10 : F8 2 = undef := (hF9 2).trans rfl
 have s11 : F8 0 = pt p1 0 := (hF9 0).trans rfl
 clear hF9
 refine then_normal (wq_seq (wq_region (wl_v (.agg #[iv 8, iv 8, iv 100, iv 1000]) rfl rfl (y_buildL (l' := [(0, iv 8), (1, iv 8), (2, iv 100), (3, iv 1000)]) (cells := #[iv 8, iv 8, iv 100, iv 1000]) rfl (bpC rfl (bpC rfl (bpC rfl (bpC rfl bpN)))) (by kernel_rfl) rfl rr) (wl_store_stc (us := [iv 8, iv 8, iv 100, iv 1000]) stcT_seq rfl rfl rfl s11 rfl B4 rfl (oneI rfl (oneI rfl (oneI rfl (oneI rfl oneN)))) fun w12 B13 k14 => ?_))))
 have K15 := K7.trans k14 (Grew.ok (S := fun _ => False) gr6 noB_le)
 refine wl_nil fun F16 hF17 => ?_
 obtain ⟨s18, s19⟩ := t2 hF17 2 s10 0 s11
 clear hF17
 refine then_normal (wq_ret ?_)
 exact end_stc (vs := [iv 8, iv 8, iv 100, iv 1000]) stcT_seq s18 rfl rfl s19 B13 ⟨rfl, K15⟩
theorem two_more (i : Nat) : List.replicate (2 * i) true ++ [true, true] = List.replicate (2 * (i + 1)) true := by
  rw [show [true, true] = List.replicate 2 true from rfl, List.replicate_append_replicate]; rfl
theorem aw_P : pack (List.replicate (2 * 6) true ++ endBits (List.replicate (2 * 6) true).length) = awP := by decide +kernel
theorem aw_len : awP.length = 2 := by decide +kernel
theorem aw_e : (chsE awP 8 8 100 1000 0 0 0 0).1.length = 6 ∧ (chsE awP 8 8 100 1000 0 0 0 0).2 = 0 ∧ (chsE (awP ++ [0]) 8 8 100 1000 0 0 0 0).2 = 130 := by
  have hm : mayP 8 8 100 1000 0 0 0 0 := by decide
  rw [chsE_yes hm, chsE_yes hm]
  exact ⟨aw_chs.2, aw_chs.1, aw_one.2⟩
theorem aw_fit : fitsP 8 8 100 1000 (newF 8 8 128) := by decide +kernel
theorem cat11 (a : List Bool) : strOf a ++ ByteArray.mk #[49, 49] = strOf (a ++ [true, true]) := by
  rw [show ByteArray.mk #[49, 49] = strOf [true, true] from rfl]; exact strOf_append _ _
theorem pcawake_any (w0 : World) (hA : ActsIn w0) (hO : ScanIn w0) (hs : StepsAt w0) (hw : Waves w0) :
  Calls Tryz.prog 8 #[] w0 fun e w' => e = .returned (.bool true) ∧ Kept (fun _ => False) w0 w' := by
 refine calls_wq (args := []) 101 Tryz.func8 rfl rfl (Nat.le_of_ble_eq_true rfl) ?_
 have K0 := Kept.refl (fun _ => False) w0
 have h11 : (ByteArray.mk #[49, 49]).size = 2 := rfl
 have h12 : (List.replicate (2 * 6) true).length = 12 := rfl
 have h13 : (endBits 12).length = 4 := rfl
 have h14 : (List.replicate (2 * 6) true ++ endBits (List.replicate (2 * 6) true).length).length = 16 := rfl
 have hd := Lib.hid aw_dec
 have ho := Lib.hid aw_one
 have hf := Lib.hid aw_fr
 have hc := Lib.hid aw_e
 have hpl := aw_len
 refine wq_seq (wq_region (wl_v (.bool false) rfl rfl (y_asg rfl rfl rr) (wl_nil fun F1 hF2 => ?_)))
 have s3 : F1 101 = undef := (hF2 101).trans rfl
 clear hF2
 refine then_normal (wq_seq (wq_region (wl_v (.string (strOf ([]))) rfl rfl (y_asg rfl rfl rr) (wl_nil fun F4 hF5 => ?_))))
 have s6 := (hF5 101).trans s3
 have s7 : F4 1 = .string (strOf ([])) := (hF5 1).trans rfl
 clear hF5
 refine then_normal (wq_seq (wq_seq (wq_region (wl_v (iv 0) rfl rfl (y_asg rfl rfl rr) (wl_nil fun F8 hF9 => ?_)))))
 obtain ⟨s10, s11⟩ := t2 hF9 101 s6 1 s7
 have s12 : F8 2 = iv 0 := (hF9 2).trans rfl
 clear hF9
 refine then_normal (wq_block (wq_loop (fun nn FF ww => ∃ (i : Nat), (i ≤ 6) ∧ ((List.replicate (2 * i) true).length = 2 * i) ∧ nn = 6 - i ∧ FF 101 = undef ∧ FF 1 = .string (strOf (List.replicate (2 * i) true)) ∧ FF 2 = iv ((i : Nat) : Int) ∧ Kept (fun _ => False) w0 ww) (6 - 0) ⟨0, by omega, rfl, rfl, s10, s11, s12, K0⟩ ?_))
 rintro n16 F13 w14 ⟨i, i17, hrl, hn16, s18, s19, s20, K15⟩
 refine wq_seq (wq_seq (wq_region (wl_mv rfl rfl rfl s20 (wl_v (.bool (decide (((i : Nat) : Int) < 6))) rfl rfl (y_lss rfl rfl rfl rfl rr) (wl_nil fun F21 hF22 => ?_)))))
 obtain ⟨s23, s24, s25⟩ := t3 hF22 101 s18 1 s19 2 s20
 have s26 : F21 17 = .bool (decide (((i : Nat) : Int) < 6)) := (hF22 17).trans rfl
 clear hF22
 refine then_normal ?_
 refine wq_cond s26 (fun c27 => ?_) (fun c27 => ?_)
 ·replace c27 := of_decide_eq_true c27
  refine wq_skip (then_normal (wq_seq (wq_block (wq_region (wl_mv rfl rfl rfl s24 (wl_v (.string (strOf (List.replicate (2 * i) true ++ [true, true]))) rfl rfl (y_catR rfl rfl rfl (by simp only [strOf_size]; omega) (cat11 _) rr) (wl_v (.string (strOf (List.replicate (2 * i) true ++ [true, true]))) rfl rfl (y_asg rfl rfl rr) (wl_nil fun F28 hF29 => ?_))))))))
  obtain ⟨s30, s31⟩ := t2 hF29 101 s23 2 s25
  have s32 : F28 1 = .string (strOf (List.replicate (2 * i) true ++ [true, true])) := (hF29 1).trans rfl
  clear hF29
  refine in_normal (then_normal (wq_region (wl_mv rfl rfl rfl s31 (wl_v (iv ((i + 1 : Nat) : Int)) rfl rfl (y_add rfl rfl rfl (i64_n (by omega) (by omega)) rr) (wl_v (iv ((i + 1 : Nat) : Int)) rfl rfl (y_asg rfl rfl rr) (wl_nil fun F33 hF34 => ?_))))))
  obtain ⟨s35, s36⟩ := t2 hF34 101 s30 1 s32
  have s37 : F33 2 = iv ((i + 1 : Nat) : Int) := (hF34 2).trans rfl
  clear hF34
  exact then_normal ⟨(6 - (i + 1)), by omega, i + 1, by omega, List.length_replicate, rfl, s35, (s36.trans (by rw [two_more])), s37, K15⟩
 ·replace c27 := of_decide_eq_false c27
  refine wq_exit (then_exit (then_exit ?_))
  have l38 : 6 = i := by omega
  subst l38
  refine in_here (then_normal (wq_seq (wq_region (wl_mv rfl rfl rfl s24 (wl_mv rfl rfl rfl s24 (wl_v (iv (((List.replicate (2 * 6) true).length : Nat) : Int)) rfl rfl (y_lenT rfl rfl rfl rr) (wl_cs rfl rfl rfl rfl rfl (fun _ _ => by kernel_rfl) (vsC rfl vsN) (t_refend ((List.replicate (2 * 6) true).length)  _ (by omega)  ) fun w39 k40 => ?_)))))))
  have K41 := K15.tr k40
  refine wl_v (.string (strOf ((List.replicate (2 * 6) true) ++ (endBits ((List.replicate (2 * 6) true).length))))) rfl rfl (y_catR rfl rfl rfl (by simp [strOf_size]; omega) (strOf_append _ _) rr) (wl_call (R := fun v_ w_ => ∃ (v42 : Value) (T45 : Nat → Prop), v42 = v_ ∧ Kept (fun _ => False) w39 w_ ∧ (Byt w_ T45 v42 (pack ((List.replicate (2 * 6) true) ++ (endBits ((List.replicate (2 * 6) true).length)))) ∧ Grew w39 noB T45)) rfl rfl (y_cs rfl rfl rfl (fun _ _ => by kernel_rfl) (ev_func _) (vsC rfl vsN) (t_refbytes ((List.replicate (2 * 6) true) ++ (endBits ((List.replicate (2 * 6) true).length)))  _ (by omega)  ) (fun e_ w_ h_ => by obtain ⟨v42_, T45_, he_, hr_⟩ := h_; exact ⟨_, he_, v42_, T45_, rfl, hr_⟩)) ?_)
  rintro _ w43 ⟨v42, T45, rfl, k44, ⟨B46, g47⟩⟩
  have K48 := K41.tr k44
  refine wl_v v42 rfl rfl (y_asg rfl rfl rr) (wl_nil fun F50 hF51 => ?_)
  have s52 := (hF51 101).trans s23
  have s53 : F50 3 = v42 := (hF51 3).trans rfl
  clear hF51
  refine then_normal (wq_seq ?_)
  have B54 : Byt w43 T45 v42 awP := (by rw [← aw_P]; exact B46)
  refine wq_region (wl_cs rfl rfl rfl rfl rfl (fun _ _ => by kernel_rfl) vsN (pcseq_walk   _   ) fun w55 k56 => ?_)
  have B57 := B54.all k56 Apart.none
  have K58 := K48.tr k56
  refine wl_v (.agg #[iv 0, iv 0, iv 0, iv 0]) rfl rfl (y_buildL (l' := []) (cells := #[iv 0, iv 0, iv 0, iv 0]) rfl bpN (by kernel_rfl) rfl rr) (wl_mv rfl rfl rfl s53 (wl_v (.agg #[iv 0, iv 0, .slice none 0 0, .slice none 0 0, .slice none 0 0]) rfl rfl (y_buildL (l' := []) (cells := #[iv 0, iv 0, .slice none 0 0, .slice none 0 0, .slice none 0 0]) rfl bpN (by kernel_rfl) rfl rr) (wl_v (.agg #[iv 0, iv 0, .slice none 0 0, .slice none 0 0, .slice none 0 0]) rfl rfl (y_buildL (l' := []) (cells := #[iv 0, iv 0, .slice none 0 0, .slice none 0 0, .slice none 0 0]) rfl bpN (by kernel_rfl) rfl rr) (wl_call (R := fun v_ w_ => ∃ (v59 : Value) (T64 : Nat → Prop) (v60 : Value) (T65 : Nat → Prop) (v61 : Value) (T66 : Nat → Prop), .tuple #[.agg #[iv ((decF awP 8 8 100 1000 0 0 0 0 (FD.mk 0 0 ([]) ([]) ([])) (FD.mk 0 0 ([]) ([]) ([]))).W), iv ((decF awP 8 8 100 1000 0 0 0 0 (FD.mk 0 0 ([]) ([]) ([])) (FD.mk 0 0 ([]) ([]) ([]))).H), v59, v60, v61], iv (decE awP 8 8 100 1000 0 0 0 0 (FD.mk 0 0 ([]) ([]) ([])) (FD.mk 0 0 ([]) ([]) ([])))] = v_ ∧ Kept (fun _ => False) w55 w_ ∧ (Owb w_ T64 v59 ((decF awP 8 8 100 1000 0 0 0 0 (FD.mk 0 0 ([]) ([]) ([])) (FD.mk 0 0 ([]) ([]) ([]))).p0) ∧ Grew w55 noB T64) ∧ (Owb w_ T65 v60 ((decF awP 8 8 100 1000 0 0 0 0 (FD.mk 0 0 ([]) ([]) ([])) (FD.mk 0 0 ([]) ([]) ([]))).p1) ∧ Grew w55 noB T65) ∧ (Owb w_ T66 v61 ((decF awP 8 8 100 1000 0 0 0 0 (FD.mk 0 0 ([]) ([]) ([])) (FD.mk 0 0 ([]) ([]) ([]))).p2) ∧ Grew w55 noB T66) ∧ Apart T64 T65 ∧ Apart T64 T66 ∧ Apart T65 T66) rfl rfl (y_cs rfl rfl rfl (fun _ _ => by kernel_rfl) (ev_func _) (vsC rfl (vsC rfl (vsC rfl (vsC rfl (vsC rfl vsN))))) (pc_decode 8 8 100 1000 0 0 0 0 v42 awP (FD.mk 0 0 ([]) ([]) ([])) (.slice none 0 0) (.slice none 0 0) (.slice none 0 0) (FD.mk 0 0 ([]) ([]) ([])) (.slice none 0 0) (.slice none 0 0) (.slice none 0 0) T45 noB noB noB noB noB noB _ (hA.all K58) (hO.all K58) (hs.all K58) (hw.all K58) (by omega) B57 (Byt.nil _) (Byt.nil _) (Byt.nil _) (Byt.nil _) (Byt.nil _) (Byt.nil _) ) (fun e_ w_ h_ => by obtain ⟨v59_, T64_, v60_, T65_, v61_, T66_, he_, hr_⟩ := h_; exact ⟨_, he_, v59_, T64_, v60_, T65_, v61_, T66_, rfl, hr_⟩)) ?_))))
  rintro _ w62 ⟨v59, T64, v60, T65, v61, T66, rfl, k63, ⟨B67, g70⟩, ⟨B68, g71⟩, ⟨B69, g72⟩, ap73, ap74, ap75⟩
  have B76 := B57.all k63 Apart.none
  have K77 := K58.tr k63
  refine wl_v (.tuple #[.agg #[iv ((decF awP 8 8 100 1000 0 0 0 0 (FD.mk 0 0 ([]) ([]) ([])) (FD.mk 0 0 ([]) ([]) ([]))).W), iv ((decF awP 8 8 100 1000 0 0 0 0 (FD.mk 0 0 ([]) ([]) ([])) (FD.mk 0 0 ([]) ([]) ([]))).H), v59, v60, v61], iv (decE awP 8 8 100 1000 0 0 0 0 (FD.mk 0 0 ([]) ([]) ([])) (FD.mk 0 0 ([]) ([]) ([])))]) rfl rfl (y_mov rfl rfl rr) (wl_v (.agg #[iv ((decF awP 8 8 100 1000 0 0 0 0 (FD.mk 0 0 ([]) ([]) ([])) (FD.mk 0 0 ([]) ([]) ([]))).W), iv ((decF awP 8 8 100 1000 0 0 0 0 (FD.mk 0 0 ([]) ([]) ([])) (FD.mk 0 0 ([]) ([]) ([]))).H), v59, v60, v61]) rfl rfl (y_ext rfl rfl rfl rr) (wl_v (iv (decE awP 8 8 100 1000 0 0 0 0 (FD.mk 0 0 ([]) ([]) ([])) (FD.mk 0 0 ([]) ([]) ([])))) rfl rfl (y_ext rfl rfl rfl rr) (wl_alloc_stc (n := 5) (vs := [iv 0, iv 0, .slice none 0 0, .slice none 0 0, .slice none 0 0]) rfl rfl rfl (by kernel_rfl) fun p84 w85 B87 g88 k86 => ?_)))
  have gr89 : Grew w0 noB (onB p84) := Grew.new K77 g88
  have ap90 : Apart (onB p84) T45 := Apart.new g88 B76.live
  have ap91 : Apart (onB p84) T64 := Apart.new g88 B67.live
  have ap92 : Apart (onB p84) T65 := Apart.new g88 B68.live
  have ap93 : Apart (onB p84) T66 := Apart.new g88 B69.live
  have B94 := B76.all k86 Apart.none
  have B95 := B67.all k86 Apart.none
  have B96 := B68.all k86 Apart.none
  have B97 := B69.all k86 Apart.none
  have K98 := K77.tr k86
  refine wl_store_stc (us := [iv ((decF awP 8 8 100 1000 0 0 0 0 (FD.mk 0 0 ([]) ([]) ([])) (FD.mk 0 0 ([]) ([]) ([]))).W), iv ((decF awP 8 8 100 1000 0 0 0 0 (FD.mk 0 0 ([]) ([]) ([])) (FD.mk 0 0 ([]) ([]) ([]))).H), v59, v60, v61]) stcT_frame rfl rfl rfl rfl rfl B87 rfl (oneI rfl (oneI rfl (oneI B95.one (oneI B96.one (oneI B97.one oneN))))) fun w99 B100 k101 => ?_
  have B102 := B94.all k101 ap90.symm
  have B103 := B95.all k101 ap91.symm
  have B104 := B96.all k101 ap92.symm
  have B105 := B97.all k101 ap93.symm
  have K106 := K98.trans k101 (Grew.ok (S := fun _ => False) gr89 noB_le)
  refine wl_v (iv (decE awP 8 8 100 1000 0 0 0 0 (FD.mk 0 0 ([]) ([]) ([])) (FD.mk 0 0 ([]) ([]) ([])))) rfl rfl (y_asg rfl rfl rr) (wl_nil fun F107 hF108 => ?_)
  obtain ⟨s109, s110⟩ := t2 hF108 101 s52 3 s53
  have s111 : F107 4 = pt p84 0 := (hF108 4).trans rfl
  have s112 : F107 5 = iv (decE awP 8 8 100 1000 0 0 0 0 (FD.mk 0 0 ([]) ([]) ([])) (FD.mk 0 0 ([]) ([]) ([]))) := (hF108 5).trans rfl
  clear hF108
  refine then_normal (wq_seq (wq_region (wl_cs rfl rfl rfl rfl rfl (fun _ _ => by kernel_rfl) vsN (pcseq_walk   _   ) fun w113 k114 => ?_)))
  have B115 := B102.all k114 Apart.none
  have B116 := B103.all k114 Apart.none
  have B117 := B104.all k114 Apart.none
  have B118 := B105.all k114 Apart.none
  have B119 := B100.all k114 id
  have K120 := K106.tr k114
  refine wl_v (.agg #[iv 0, iv 0, iv 0, iv 0]) rfl rfl (y_buildL (l' := []) (cells := #[iv 0, iv 0, iv 0, iv 0]) rfl bpN (by kernel_rfl) rfl rr) (wl_mv rfl rfl rfl s110 (wl_call (R := fun v_ w_ => ∃ (v121 : Value) (T124 : Nat → Prop), .tuple #[v121, iv ((chsE awP 8 8 100 1000 0 0 0 0).2)] = v_ ∧ Kept (fun _ => False) w113 w_ ∧ (RoO rCh w_ T124 v121 ((chsE awP 8 8 100 1000 0 0 0 0).1) ∧ Grew w113 noB T124)) rfl rfl (y_cs rfl rfl rfl (fun _ _ => by kernel_rfl) (ev_func _) (vsC rfl (vsC rfl (vsC rfl vsN))) (pc_choices 8 8 100 1000 0 0 0 0 v42 awP T45 _ (hA.all K120) (hO.all K120) (by first | omega | (simp; omega)) B115 ) (fun e_ w_ h_ => by obtain ⟨v121_, T124_, he_, hr_⟩ := h_; exact ⟨_, he_, v121_, T124_, rfl, hr_⟩)) ?_))
  rintro _ w122 ⟨v121, T124, rfl, k123, ⟨B125, g126⟩⟩
  have B127 := B115.all k123 Apart.none
  have B128 := B116.all k123 Apart.none
  have B129 := B117.all k123 Apart.none
  have B130 := B118.all k123 Apart.none
  have B131 := B119.all k123 id
  have K132 := K120.tr k123
  refine wl_v (.tuple #[v121, iv ((chsE awP 8 8 100 1000 0 0 0 0).2)]) rfl rfl (y_mov rfl rfl rr) (wl_v v121 rfl rfl (y_ext rfl rfl rfl rr) (wl_v (iv ((chsE awP 8 8 100 1000 0 0 0 0).2)) rfl rfl (y_ext rfl rfl rfl rr) (wl_v v121 rfl rfl (y_asg rfl rfl rr) (wl_v (iv ((chsE awP 8 8 100 1000 0 0 0 0).2)) rfl rfl (y_asg rfl rfl rr) (wl_nil fun F139 hF140 => ?_)))))
  obtain ⟨s141, s142, s143, s144⟩ := t4 hF140 101 s109 3 s110 4 s111 5 s112
  have s145 : F139 6 = v121 := (hF140 6).trans rfl
  have s146 : F139 7 = iv ((chsE awP 8 8 100 1000 0 0 0 0).2) := (hF140 7).trans rfl
  clear hF140
  refine then_normal (wq_seq (wq_region (wl_cs rfl rfl rfl rfl rfl (fun _ _ => by kernel_rfl) vsN (pcseq_walk   _   ) fun w147 k148 => ?_)))
  have B149 := B127.all k148 Apart.none
  have B150 := B128.all k148 Apart.none
  have B151 := B129.all k148 Apart.none
  have B152 := B130.all k148 Apart.none
  have B153 := B131.all k148 id
  have B154 := B125.all k148 Apart.none
  have K155 := K132.tr k148
  refine wl_v (.agg #[iv 1, iv 0, iv 0, iv 0]) rfl rfl (y_buildL (l' := [(0, iv 1)]) (cells := #[iv 1, iv 0, iv 0, iv 0]) rfl (bpC rfl bpN) (by kernel_rfl) rfl rr) (wl_mv rfl rfl rfl s142 (wl_v (.agg #[iv 0, iv 0, .slice none 0 0, .slice none 0 0, .slice none 0 0]) rfl rfl (y_buildL (l' := []) (cells := #[iv 0, iv 0, .slice none 0 0, .slice none 0 0, .slice none 0 0]) rfl bpN (by kernel_rfl) rfl rr) (wl_v (.agg #[iv 0, iv 0, .slice none 0 0, .slice none 0 0, .slice none 0 0]) rfl rfl (y_buildL (l' := []) (cells := #[iv 0, iv 0, .slice none 0 0, .slice none 0 0, .slice none 0 0]) rfl bpN (by kernel_rfl) rfl rr) (wl_call (R := fun v_ w_ => ∃ (v156 : Value) (T161 : Nat → Prop) (v157 : Value) (T162 : Nat → Prop) (v158 : Value) (T163 : Nat → Prop), .tuple #[.agg #[iv ((decF awP 8 8 100 1000 1 0 0 0 (FD.mk 0 0 ([]) ([]) ([])) (FD.mk 0 0 ([]) ([]) ([]))).W), iv ((decF awP 8 8 100 1000 1 0 0 0 (FD.mk 0 0 ([]) ([]) ([])) (FD.mk 0 0 ([]) ([]) ([]))).H), v156, v157, v158], iv (decE awP 8 8 100 1000 1 0 0 0 (FD.mk 0 0 ([]) ([]) ([])) (FD.mk 0 0 ([]) ([]) ([])))] = v_ ∧ Kept (fun _ => False) w147 w_ ∧ (Owb w_ T161 v156 ((decF awP 8 8 100 1000 1 0 0 0 (FD.mk 0 0 ([]) ([]) ([])) (FD.mk 0 0 ([]) ([]) ([]))).p0) ∧ Grew w147 noB T161) ∧ (Owb w_ T162 v157 ((decF awP 8 8 100 1000 1 0 0 0 (FD.mk 0 0 ([]) ([]) ([])) (FD.mk 0 0 ([]) ([]) ([]))).p1) ∧ Grew w147 noB T162) ∧ (Owb w_ T163 v158 ((decF awP 8 8 100 1000 1 0 0 0 (FD.mk 0 0 ([]) ([]) ([])) (FD.mk 0 0 ([]) ([]) ([]))).p2) ∧ Grew w147 noB T163) ∧ Apart T161 T162 ∧ Apart T161 T163 ∧ Apart T162 T163) rfl rfl (y_cs rfl rfl rfl (fun _ _ => by kernel_rfl) (ev_func _) (vsC rfl (vsC rfl (vsC rfl (vsC rfl (vsC rfl vsN))))) (pc_decode 8 8 100 1000 1 0 0 0 v42 awP (FD.mk 0 0 ([]) ([]) ([])) (.slice none 0 0) (.slice none 0 0) (.slice none 0 0) (FD.mk 0 0 ([]) ([]) ([])) (.slice none 0 0) (.slice none 0 0) (.slice none 0 0) T45 noB noB noB noB noB noB _ (hA.all K155) (hO.all K155) (hs.all K155) (hw.all K155) (by omega) B149 (Byt.nil _) (Byt.nil _) (Byt.nil _) (Byt.nil _) (Byt.nil _) (Byt.nil _) ) (fun e_ w_ h_ => by obtain ⟨v156_, T161_, v157_, T162_, v158_, T163_, he_, hr_⟩ := h_; exact ⟨_, he_, v156_, T161_, v157_, T162_, v158_, T163_, rfl, hr_⟩)) ?_))))
  rintro _ w159 ⟨v156, T161, v157, T162, v158, T163, rfl, k160, ⟨B164, g167⟩, ⟨B165, g168⟩, ⟨B166, g169⟩, ap170, ap171, ap172⟩
  have B173 := B149.all k160 Apart.none
  have B174 := B150.all k160 Apart.none
  have B175 := B151.all k160 Apart.none
  have B176 := B152.all k160 Apart.none
  have B177 := B153.all k160 id
  have B178 := B154.all k160 Apart.none
  have K179 := K155.tr k160
  refine wl_v (.tuple #[.agg #[iv ((decF awP 8 8 100 1000 1 0 0 0 (FD.mk 0 0 ([]) ([]) ([])) (FD.mk 0 0 ([]) ([]) ([]))).W), iv ((decF awP 8 8 100 1000 1 0 0 0 (FD.mk 0 0 ([]) ([]) ([])) (FD.mk 0 0 ([]) ([]) ([]))).H), v156, v157, v158], iv (decE awP 8 8 100 1000 1 0 0 0 (FD.mk 0 0 ([]) ([]) ([])) (FD.mk 0 0 ([]) ([]) ([])))]) rfl rfl (y_mov rfl rfl rr) (wl_v (.agg #[iv ((decF awP 8 8 100 1000 1 0 0 0 (FD.mk 0 0 ([]) ([]) ([])) (FD.mk 0 0 ([]) ([]) ([]))).W), iv ((decF awP 8 8 100 1000 1 0 0 0 (FD.mk 0 0 ([]) ([]) ([])) (FD.mk 0 0 ([]) ([]) ([]))).H), v156, v157, v158]) rfl rfl (y_ext rfl rfl rfl rr) (wl_v (iv (decE awP 8 8 100 1000 1 0 0 0 (FD.mk 0 0 ([]) ([]) ([])) (FD.mk 0 0 ([]) ([]) ([])))) rfl rfl (y_ext rfl rfl rfl rr) (wl_alloc_stc (n := 5) (vs := [iv 0, iv 0, .slice none 0 0, .slice none 0 0, .slice none 0 0]) rfl rfl rfl (by kernel_rfl) fun p201 w202 B204 g205 k203 => ?_)))
  have gr206 : Grew w0 noB (onB p201) := Grew.new K179 g205
  have ap207 : Apart (onB p201) T45 := Apart.new g205 B173.live
  have ap208 : Apart (onB p201) T64 := Apart.new g205 B174.live
  have ap209 : Apart (onB p201) T65 := Apart.new g205 B175.live
  have ap210 : Apart (onB p201) T66 := Apart.new g205 B176.live
  have ap211 : Apart (onB p201) (onB p84) := Apart.new g205 (onB_live B177.lt)
  have ap212 : Apart (onB p201) T124 := Apart.new g205 B178.live
  have B216 := B173.all k203 Apart.none
  have B217 := B174.all k203 Apart.none
  have B218 := B175.all k203 Apart.none
  have B219 := B176.all k203 Apart.none
  have B220 := B177.all k203 id
  have B221 := B178.all k203 Apart.none
  have B222 := B164.all k203 Apart.none
  have B223 := B165.all k203 Apart.none
  have B224 := B166.all k203 Apart.none
  have K225 := K179.tr k203
  refine wl_store_stc (us := [iv ((decF awP 8 8 100 1000 1 0 0 0 (FD.mk 0 0 ([]) ([]) ([])) (FD.mk 0 0 ([]) ([]) ([]))).W), iv ((decF awP 8 8 100 1000 1 0 0 0 (FD.mk 0 0 ([]) ([]) ([])) (FD.mk 0 0 ([]) ([]) ([]))).H), v156, v157, v158]) stcT_frame rfl rfl rfl rfl rfl B204 rfl (oneI rfl (oneI rfl (oneI B222.one (oneI B223.one (oneI B224.one oneN))))) fun w226 B227 k228 => ?_
  have B229 := B216.all k228 ap207.symm
  have B230 := B217.all k228 ap208.symm
  have B231 := B218.all k228 ap209.symm
  have B232 := B219.all k228 ap210.symm
  have B233 := B220.all k228 (ap211.symm p84 rfl)
  have B234 := B221.all k228 ap212.symm
  have K238 := K225.trans k228 (Grew.ok (S := fun _ => False) gr206 noB_le)
  refine wl_v (iv (decE awP 8 8 100 1000 1 0 0 0 (FD.mk 0 0 ([]) ([]) ([])) (FD.mk 0 0 ([]) ([]) ([])))) rfl rfl (y_asg rfl rfl rr) (wl_nil fun F239 hF240 => ?_)
  obtain ⟨s241, s242, s243, s244, s245, s246⟩ := t6 hF240 101 s141 3 s142 4 s143 5 s144 6 s145 7 s146
  have s247 : F239 9 = iv (decE awP 8 8 100 1000 1 0 0 0 (FD.mk 0 0 ([]) ([]) ([])) (FD.mk 0 0 ([]) ([]) ([]))) := (hF240 9).trans rfl
  clear hF240
  refine then_normal (wq_seq (wq_region (wl_cs rfl rfl rfl rfl rfl (fun _ _ => by kernel_rfl) vsN (pcseq_walk   _   ) fun w248 k249 => ?_)))
  have B250 := B229.all k249 Apart.none
  have B251 := B230.all k249 Apart.none
  have B252 := B231.all k249 Apart.none
  have B253 := B232.all k249 Apart.none
  have B254 := B233.all k249 id
  have B255 := B234.all k249 Apart.none
  have K260 := K238.tr k249
  refine wl_v (.agg #[iv 0, iv 0, iv 0, iv 0]) rfl rfl (y_buildL (l' := []) (cells := #[iv 0, iv 0, iv 0, iv 0]) rfl bpN (by kernel_rfl) rfl rr) (wl_builtB0 rfl rfl rfl fun v261 w262 T266 B264 g265 k263 => ?_)
  have gr267 : Grew w0 noB T266 := Grew.new K260 g265
  have ap269 : Apart T266 T64 := Apart.new g265 B251.live
  have ap270 : Apart T266 T65 := Apart.new g265 B252.live
  have ap271 : Apart T266 T66 := Apart.new g265 B253.live
  have ap272 : Apart T266 (onB p84) := Apart.new g265 (onB_live B254.lt)
  have ap273 : Apart T266 T124 := Apart.new g265 B255.live
  have B278 := B250.all k263 Apart.none
  have B279 := B251.all k263 Apart.none
  have B280 := B252.all k263 Apart.none
  have B281 := B253.all k263 Apart.none
  have B282 := B254.all k263 id
  have B283 := B255.all k263 Apart.none
  have K288 := K260.tr k263
  refine wl_mv rfl rfl rfl s242 (wl_appendB rfl rfl rfl rfl rfl rfl B264 B278 (by first | omega | (simp; done) | (simp; omega)) fun v289 w290 T294 B292 g293 k291 => ?_)
  have gr295 := Grew.trans gr267 K288 g293
  have ap297 : Apart T294 T64 := ap269.grew g293 B279.live
  have ap298 : Apart T294 T65 := ap270.grew g293 B280.live
  have ap299 : Apart T294 T66 := ap271.grew g293 B281.live
  have ap300 : Apart T294 (onB p84) := ap272.grew g293 (onB_live B282.lt)
  have ap301 : Apart T294 T124 := ap273.grew g293 B283.live
  have B307 := B279.all k291 ap269.symm
  have B308 := B280.all k291 ap270.symm
  have B309 := B281.all k291 ap271.symm
  have B310 := B282.all k291 (ap272.symm p84 rfl)
  have B311 := B283.all k291 ap273.symm
  have K316 := K288.trans k291 (Grew.ok (S := fun _ => False) gr267 noB_le)
  refine wl_builtB1 (n := 0) rfl rfl rfl rfl (by omega) (by omega) fun v317 w318 T322 B320 g321 k319 => ?_
  have B336 := B307.all k319 Apart.none
  have B337 := B308.all k319 Apart.none
  have B338 := B309.all k319 Apart.none
  have B339 := B310.all k319 id
  have B340 := B311.all k319 Apart.none
  have B345 := B292.all k319 Apart.none
  have K346 := K316.tr k319
  refine wl_appendB rfl rfl rfl rfl rfl rfl B345 B320.byt (by first | omega | (simp; done) | (simp; omega)) fun v347 w348 T352 B350 g351 k349 => ?_
  have B366 := B336.all k349 ap297.symm
  have B367 := B337.all k349 ap298.symm
  have B368 := B338.all k349 ap299.symm
  have B369 := B339.all k349 (ap300.symm p84 rfl)
  have B370 := B340.all k349 ap301.symm
  have K376 := K346.trans k349 (Grew.ok (S := fun _ => False) gr295 noB_le)
  refine wl_call (R := fun v_ w_ => ∃ (v377 : Value) (T380 : Nat → Prop), .tuple #[v377, iv ((chsE ((([] : List Nat) ++ awP) ++ ([0])) 8 8 100 1000 0 0 0 0).2)] = v_ ∧ Kept (fun _ => False) w348 w_ ∧ (RoO rCh w_ T380 v377 ((chsE ((([] : List Nat) ++ awP) ++ ([0])) 8 8 100 1000 0 0 0 0).1) ∧ Grew w348 noB T380)) rfl rfl (y_cs rfl rfl rfl (fun _ _ => by kernel_rfl) (ev_func _) (vsC rfl (vsC rfl (vsC rfl vsN))) (pc_choices 8 8 100 1000 0 0 0 0 v347 ((([] : List Nat) ++ awP) ++ ([0])) T352 _ (hA.all K376) (hO.all K376) (by first | omega | (simp; omega)) B350.byt ) (fun e_ w_ h_ => by obtain ⟨v377_, T380_, he_, hr_⟩ := h_; exact ⟨_, he_, v377_, T380_, rfl, hr_⟩)) ?_
  rintro _ w378 ⟨v377, T380, rfl, k379, ⟨B381, g382⟩⟩
  have B384 := B366.all k379 Apart.none
  have B385 := B367.all k379 Apart.none
  have B386 := B368.all k379 Apart.none
  have B387 := B369.all k379 id
  have B388 := B370.all k379 Apart.none
  have K395 := K376.tr k379
  refine wl_v (.tuple #[v377, iv ((chsE ((([] : List Nat) ++ awP) ++ ([0])) 8 8 100 1000 0 0 0 0).2)]) rfl rfl (y_mov rfl rfl rr) (wl_v v377 rfl rfl (y_ext rfl rfl rfl rr) (wl_v (iv ((chsE ((([] : List Nat) ++ awP) ++ ([0])) 8 8 100 1000 0 0 0 0).2)) rfl rfl (y_ext rfl rfl rfl rr) (wl_v v377 rfl rfl (y_asg rfl rfl rr) (wl_v (iv ((chsE ((([] : List Nat) ++ awP) ++ ([0])) 8 8 100 1000 0 0 0 0).2)) rfl rfl (y_asg rfl rfl rr) (wl_nil fun F409 hF410 => ?_)))))
  obtain ⟨s411, s412, s413, s414, s415, s416⟩ := t6 hF410 101 s241 4 s243 5 s244 6 s245 7 s246 9 s247
  have s417 : F409 11 = iv ((chsE ((([] : List Nat) ++ awP) ++ ([0])) 8 8 100 1000 0 0 0 0).2) := (hF410 11).trans rfl
  clear hF410
  refine then_normal (wq_seq (wq_region (wl_call (R := fun v_ w_ => ∃ (v418 : Value) (T423 : Nat → Prop) (v419 : Value) (T424 : Nat → Prop) (v420 : Value) (T425 : Nat → Prop), .tuple #[.agg #[iv ((newF 8 8 128).W), iv ((newF 8 8 128).H), v418, v419, v420], iv (newE 8 8)] = v_ ∧ Kept (fun _ => False) w378 w_ ∧ (Owb w_ T423 v418 ((newF 8 8 128).p0) ∧ Grew w378 noB T423) ∧ (Owb w_ T424 v419 ((newF 8 8 128).p1) ∧ Grew w378 noB T424) ∧ (Owb w_ T425 v420 ((newF 8 8 128).p2) ∧ Grew w378 noB T425) ∧ Apart T423 T424 ∧ Apart T423 T425 ∧ Apart T424 T425) rfl rfl (y_cs rfl rfl rfl (fun _ _ => by kernel_rfl) (ev_func _) (vsC rfl (vsC rfl (vsC rfl vsN))) (pl_new 8 8 128  _ (by omega)  ) (fun e_ w_ h_ => by obtain ⟨v418_, T423_, v419_, T424_, v420_, T425_, he_, hr_⟩ := h_; exact ⟨_, he_, v418_, T423_, v419_, T424_, v420_, T425_, rfl, hr_⟩)) ?_)))
  rintro _ w421 ⟨v418, T423, v419, T424, v420, T425, rfl, k422, ⟨B426, g429⟩, ⟨B427, g430⟩, ⟨B428, g431⟩, ap432, ap433, ap434⟩
  have B436 := B384.all k422 Apart.none
  have B437 := B385.all k422 Apart.none
  have B438 := B386.all k422 Apart.none
  have B439 := B387.all k422 id
  have B440 := B388.all k422 Apart.none
  have K448 := K395.tr k422
  refine wl_v (.tuple #[.agg #[iv ((newF 8 8 128).W), iv ((newF 8 8 128).H), v418, v419, v420], iv (newE 8 8)]) rfl rfl (y_mov rfl rfl rr) (wl_v (.agg #[iv ((newF 8 8 128).W), iv ((newF 8 8 128).H), v418, v419, v420]) rfl rfl (y_ext rfl rfl rfl rr) (wl_v (iv (newE 8 8)) rfl rfl (y_ext rfl rfl rfl rr) (wl_alloc_stc (n := 5) (vs := [iv 0, iv 0, .slice none 0 0, .slice none 0 0, .slice none 0 0]) rfl rfl rfl (by kernel_rfl) fun p491 w492 B494 g495 k493 => ?_)))
  have gr496 : Grew w0 noB (onB p491) := Grew.new K448 g495
  have ap498 : Apart (onB p491) T64 := Apart.new g495 B436.live
  have ap499 : Apart (onB p491) T65 := Apart.new g495 B437.live
  have ap500 : Apart (onB p491) T66 := Apart.new g495 B438.live
  have ap501 : Apart (onB p491) (onB p84) := Apart.new g495 (onB_live B439.lt)
  have ap502 : Apart (onB p491) T124 := Apart.new g495 B440.live
  have ap510 : Apart (onB p491) T423 := Apart.new g495 B426.live
  have ap511 : Apart (onB p491) T424 := Apart.new g495 B427.live
  have ap512 : Apart (onB p491) T425 := Apart.new g495 B428.live
  have B514 := B436.all k493 Apart.none
  have B515 := B437.all k493 Apart.none
  have B516 := B438.all k493 Apart.none
  have B517 := B439.all k493 id
  have B518 := B440.all k493 Apart.none
  have B526 := B426.all k493 Apart.none
  have B527 := B427.all k493 Apart.none
  have B528 := B428.all k493 Apart.none
  have K529 := K448.tr k493
  refine wl_store_stc (us := [iv ((newF 8 8 128).W), iv ((newF 8 8 128).H), v418, v419, v420]) stcT_frame rfl rfl rfl rfl rfl B494 rfl (oneI rfl (oneI rfl (oneI B526.one (oneI B527.one (oneI B528.one oneN))))) fun w530 B531 k532 => ?_
  have B534 := B514.all k532 ap498.symm
  have B535 := B515.all k532 ap499.symm
  have B536 := B516.all k532 ap500.symm
  have B537 := B517.all k532 (ap501.symm p84 rfl)
  have B538 := B518.all k532 ap502.symm
  have B546 := B526.all k532 ap510.symm
  have B547 := B527.all k532 ap511.symm
  have B548 := B528.all k532 ap512.symm
  have K549 := K529.trans k532 (Grew.ok (S := fun _ => False) gr496 noB_le)
  refine wl_v (iv (newE 8 8)) rfl rfl (y_asg rfl rfl rr) (wl_nil fun F550 hF551 => ?_)
  obtain ⟨s552, s553, s554, s555, s556, s557, s558⟩ := t7 hF551 101 s411 4 s412 5 s413 6 s414 7 s415 9 s416 11 s417
  have s559 : F550 12 = pt p491 0 := (hF551 12).trans rfl
  clear hF551
  refine then_normal (wq_seq (wq_region (wl_v (.agg #[iv ((decF awP 8 8 100 1000 0 0 0 0 (FD.mk 0 0 ([]) ([]) ([])) (FD.mk 0 0 ([]) ([]) ([]))).W), iv ((decF awP 8 8 100 1000 0 0 0 0 (FD.mk 0 0 ([]) ([]) ([])) (FD.mk 0 0 ([]) ([]) ([]))).H), v59, v60, v61]) rfl rfl (y_load_stc stcT_frame rfl s553 B537 rr) (wl_v (.agg #[iv ((newF 8 8 128).W), iv ((newF 8 8 128).H), v418, v419, v420]) rfl rfl (y_load_stc stcT_frame rfl s559 B531 rr) (wl_call (R := fun v_ w_ => v_ = .bool true ∧ Kept (fun _ => False) w530 w_) rfl rfl (y_cs rfl rfl rfl (fun _ _ => by kernel_rfl) (ev_func _) (vsC rfl (vsC rfl vsN)) (fref_same (decF awP 8 8 100 1000 0 0 0 0 (FD.mk 0 0 ([]) ([]) ([])) (FD.mk 0 0 ([]) ([]) ([]))) v59 v60 v61 (newF 8 8 128) v418 v419 v420 T64 T65 T66 T423 T424 T425 _  B534.byt B535.byt B536.byt B546.byt B547.byt B548.byt ) (fun e_ w_ h_ => ⟨_, h_.1, congrArg Value.bool hf.out, h_.2⟩)) ?_)))))
  rintro _ w560 ⟨rfl, k561⟩
  have B567 := B538.all k561 Apart.none
  have B575 := B546.all k561 Apart.none
  have B576 := B547.all k561 Apart.none
  have B577 := B548.all k561 Apart.none
  have B578 := B531.all k561 id
  have K579 := K549.tr k561
  refine wl_v (.bool true) rfl rfl (y_asg rfl rfl rr) (wl_nil fun F580 hF581 => ?_)
  obtain ⟨s582, s583, s584, s585, s586, s587, s588⟩ := t7 hF581 101 s552 5 s554 6 s555 7 s556 9 s557 11 s558 12 s559
  have s589 : F580 14 = .bool true := (hF581 14).trans rfl
  clear hF581
  refine then_normal (wq_seq ?_)
  refine wq_said [some 71, some 72, some 73, some 15] [Pd.eq (.agg #[iv 8, iv 8, iv 100, iv 1000]), Pd.eq (.agg #[iv ((newF 8 8 128).W), iv ((newF 8 8 128).H), v418, v419, v420]), Pd.eq (.bool true), Pd.eq (.bool true)] (by kernel_rfl) (by kernel_rfl) ?_ ?_
  ·refine stepsF_cons ?_ ?_
   ·refine StepF.one rfl fun F_ w_ hR hout hD => ?_
    exact (y_cs rfl rfl rfl (fun _ _ => by kernel_rfl) (ev_func _) vsN (pcseq_walk   _   ) (fun e_ w_ h_ => ⟨_, h_.1, rfl, h_.2⟩))
   refine stepsF_cons ?_ ?_
   ·refine StepF.one rfl fun F_ w_ hR hout hD => ?_
    exact (y_load_stc stcT_frame rfl ((hout 12 rfl (by decide)).trans s588) (B578.all hR id) ⟨rfl, Kept.refl _ _⟩)
   refine stepsF_cons ?_ ?_
   ·refine StepF.one rfl fun F_ w_ hR hout hD => ?_
    have g71 : F_ 71 = .agg #[iv 8, iv 8, iv 100, iv 1000] := (hD.get 0 rfl rfl rfl)
    have g72 : F_ 72 = .agg #[iv ((newF 8 8 128).W), iv ((newF 8 8 128).H), v418, v419, v420] := (hD.get 1 rfl rfl rfl)
    exact (y_cs rfl rfl rfl (fun _ _ => by kernel_rfl) (ev_func _) (vsC g71 (vsC g72 vsN)) (pc_fits 8 8 100 1000 (newF 8 8 128) v418 v419 v420 T423 T424 T425 _  (B575.all hR Apart.none).byt (B576.all hR Apart.none).byt (B577.all hR Apart.none).byt ) (fun e_ w_ h_ => ⟨_, h_.1, congrArg Value.bool (decide_eq_true aw_fit), h_.2⟩))
   refine stepsF_cons ?_ ?_
   ·refine StepF.one rfl fun F_ w_ hR hout hD => ?_
    have g73 : F_ 73 = .bool true := (hD.get 0 rfl rfl rfl)
    exact (y_asg rfl g73 ⟨rfl, Kept.refl _ _⟩)
   exact stepsF_nil
  intro v590 F591 w592 k593 G594 hF595
  have B602 := B567.all k593 Apart.none
  have K614 := K579.tr k593
  obtain ⟨s615, s616, s617, s618, s619, s620, s621⟩ := t7 hF595 101 s582 5 s583 6 s584 7 s585 9 s586 11 s587 14 s589
  have s622 : F591 15 = .bool true := (hF595 15).trans (G594 3 (by decide))
  clear G594 hF595
  refine then_normal (wq_seq (wq_region (wl_mv rfl rfl rfl s616 (wl_v (.bool true) rfl rfl (y_eqlI rfl rfl rfl (decide_eq_true hd.out) rr) (wl_v (.bool true) rfl rfl (y_mov rfl rfl rr) (wl_vw (.bool true) 2 true 76 rfl rfl rfl rfl rfl (y_mov rfl s621 rr) (wl_v (.bool true) rfl rfl (y_pickT rfl rfl rfl rr) (wl_v (.bool true) rfl rfl (y_mov rfl rfl rr) (wl_vw v121 5 true 79 rfl rfl rfl rfl rfl (y_mov rfl s617 rr) (wl_vw (iv ((((chsE awP 8 8 100 1000 0 0 0 0).1).length : Nat) : Int)) 5 true 79 rfl rfl rfl rfl rfl (y_lenRo (r := rCh) rfl rfl rfl B602.roa rr) (wl_vw (.bool true) 5 true 79 rfl rfl rfl rfl rfl (y_eqlI rfl rfl rfl (decide_eq_true (by rw [hc.out.1]; rfl)) rr) ?_)))))))))))
  refine wl_v (.bool true) rfl rfl (y_pickT rfl rfl rfl rr) (wl_v (.bool true) rfl rfl (y_mov rfl rfl rr) (wl_vw (iv ((chsE awP 8 8 100 1000 0 0 0 0).2)) 10 true 84 rfl rfl rfl rfl rfl (y_mov rfl s618 rr) (wl_vw (.bool true) 10 true 84 rfl rfl rfl rfl rfl (y_eqlI rfl rfl rfl (decide_eq_true hc.out.2.1) rr) (wl_v (.bool true) rfl rfl (y_pickT rfl rfl rfl rr) (wl_v (.bool true) rfl rfl (y_mov rfl rfl rr) (wl_vw (iv (decE awP 8 8 100 1000 1 0 0 0 (FD.mk 0 0 ([]) ([]) ([])) (FD.mk 0 0 ([]) ([]) ([])))) 14 true 88 rfl rfl rfl rfl rfl (y_mov rfl s619 rr) (wl_vw (.bool true) 14 true 88 rfl rfl rfl rfl rfl (y_eqlI rfl rfl rfl (decide_eq_true ho.out.1) rr) (wl_v (.bool true) rfl rfl (y_pickT rfl rfl rfl rr) (wl_v (.bool true) rfl rfl (y_mov rfl rfl rr) (wl_vw (iv ((chsE ((([] : List Nat) ++ awP) ++ ([0])) 8 8 100 1000 0 0 0 0).2)) 18 true 92 rfl rfl rfl rfl rfl (y_mov rfl s620 rr) (wl_vw (.bool true) 18 true 92 rfl rfl rfl rfl rfl (y_eqlI rfl rfl rfl (decide_eq_true hc.out.2.2) rr) ?_)))))))))))
  refine wl_v (.bool true) rfl rfl (y_pickT rfl rfl rfl rr) (wl_v (.bool true) rfl rfl (y_mov rfl rfl rr) (wl_v (.bool true) rfl rfl (y_pickT rfl rfl rfl rr) (wl_v (.bool true) rfl rfl (y_mov rfl rfl rr) (wl_vw (.bool true) 24 true 98 rfl rfl rfl rfl rfl (y_mov rfl s622 rr) (wl_v (.bool true) rfl rfl (y_pickT rfl rfl rfl rr) (wl_v (.bool true) rfl rfl (y_asg rfl rfl rr) (wl_nil fun F623 hF624 => ?_)))))))
  have s625 := (hF624 101).trans s615
  have s626 : F623 0 = .bool true := (hF624 0).trans rfl
  clear hF624
  refine then_normal (wq_ret ?_)
  exact end_tmp (v := .bool true) s625 rfl rfl s626 ⟨rfl, K614⟩
end Go.Proofs.YtknjpdcpmpfklaaGreatDoor
set_option maxRecDepth 100000
namespace Go.Proofs.YtknjpdcpmpfklaaGreatDoor
open Go.RowKit
def bigP (W H : Int) : Prop := (16 < W ∧ W ≤ 64) ∨ (16 < H ∧ H ≤ 64)
instance (W H : Int) : Decidable (bigP W H) := by unfold bigP; infer_instance
end Go.Proofs.YtknjpdcpmpfklaaGreatDoor
set_option maxRecDepth 100000
namespace Go.Proofs.YtknjpdcpmpfklaaGreatDoor
open Go.RowKit
theorem sameF_me (a : FD) : sameF a a = true := by unfold sameF sameT; simp
end Go.Proofs.YtknjpdcpmpfklaaGreatDoor
set_option maxRecDepth 100000
namespace Go.Proofs.YtknjpdcpmpfklaaGreatDoor
open Go.RowKit
def Const1 {γ1 γ2 : Type} (M : List (Nat × Nat)) (c : Nat) : Nat → List (γ1 × γ2 → Value) → Prop
  | _, [] => True
  | i, f :: r => (M.contains (i, c) = true ∨ i = c ∨ ∀ g g' h, f (g, h) = f (g', h)) ∧ Const1 M c (i + 1) r
def Const2 {γ1 γ2 : Type} (M : List (Nat × Nat)) (c : Nat) : Nat → List (γ1 × γ2 → Value) → Prop
  | _, [] => True
  | i, f :: r => (M.contains (i, c) = true ∨ i = c ∨ ∀ g h h', f (g, h) = f (g, h')) ∧ Const2 M c (i + 1) r
theorem Const1.at {γ1 γ2 : Type} {M : List (Nat × Nat)} {c : Nat} : ∀ {vs : List (γ1 × γ2 → Value)} {k : Nat}, Const1 M c k vs → ∀ i, M.contains (k + i, c) = false → k + i ≠ c → ∀ g g' h, valX vs i (g, h) = valX vs i (g', h) := by
  intro vs
  induction vs with
  | nil => intro k _ i _ _ g g' h; rfl
  | cons f r ih =>
    intro k h i hm hc g g'
    cases i with
    | zero =>
      rcases h.1 with e | e | e
      · rw [Nat.add_zero] at hm; rw [hm] at e; cases e
      · exact absurd e hc
      · exact e g g'
    | succ i => exact ih h.2 i (by rw [show k + 1 + i = k + (i + 1) by omega]; exact hm) (by omega) g g'
theorem Const2.at {γ1 γ2 : Type} {M : List (Nat × Nat)} {c : Nat} : ∀ {vs : List (γ1 × γ2 → Value)} {k : Nat}, Const2 M c k vs → ∀ i, M.contains (k + i, c) = false → k + i ≠ c → ∀ g h h', valX vs i (g, h) = valX vs i (g, h') := by
  intro vs
  induction vs with
  | nil => intro k _ i _ _ g h h'; rfl
  | cons f r ih =>
    intro k h i hm hc g h1 h2
    cases i with
    | zero =>
      rcases h.1 with e | e | e
      · rw [Nat.add_zero] at hm; rw [hm] at e; cases e
      · exact absurd e hc
      · exact e g h1 h2
    | succ i => exact ih h.2 i (by rw [show k + 1 + i = k + (i + 1) by omega]; exact hm) (by omega) g h1 h2
structure Pst1 {γ1 : Type} (P1 : γ1 → World → Prop) (T1 : γ1 → Nat → Prop) : Prop where
  s : ∀ (g : γ1) (w w' : World) (S' : Nat → Prop), P1 g w → Kept S' w w' → Apart (T1 g) S' → P1 g w'
  l : ∀ (g : γ1) (w : World), P1 g w → Live w (T1 g)
structure JY {γ1 γ2 : Type} (C : Cas γ2) (P1 : γ1 → World → Prop) (T1 : γ1 → Nat → Prop) (S okp : Nat → Prop) (vs : List (γ1 × γ2 → Value)) (c1 c sr : Nat) (al : Option Nat) (M : List (Nat × Nat)) (w0 : World) (L : Nat → Bool) (v : Nat → Value) (w : World) (g1 : γ1) (g : γ2) (p : Nat) : Prop where
  kept : Kept S w0 w
  vals : ∀ i, L i = true → al ≠ some i → v i = valX vs i (g1, g)
  adr : ∀ a, al = some a → L a = true → v a = ptX p
  blk : hasX al L = true → okp p
  zero : hasX al L = true → L sr = false → C.Z p w
  full : L sr = true → C.Y g p w
  pre : L c = false → C.Pre w
  post : L c = true → C.Post g w ∧ Grew w0 C.Tp (C.Tq g)
  far : L c = true → hasX al L = true → ¬ C.Tq g p
  post1 : L c1 = true → P1 g1 w ∧ Grew w0 noB (T1 g1)
  far1 : L c1 = true → hasX al L = true → ¬ T1 g1 p
  clos : ∀ j i, (j, i) ∈ M → L j = true → L i = true
section
variable {γ1 γ2 : Type} {P : Program} {N : Nat} {F : Nat → Value} {w : World} {Q : Exit → (Nat → Value) → World → Prop} {S okp : Nat → Prop} {M : List (Nat × Nat)} {D : List (Option Tmp)} {C : Cas γ2} {P1 : γ1 → World → Prop} {T1 : γ1 → Nat → Prop} {vs : List (γ1 × γ2 → Value)} {c1 c sr : Nat} {al : Option Nat}
def StepFY (C : Cas γ2) (P1 : γ1 → World → Prop) (T1 : γ1 → Nat → Prop) (S okp : Nat → Prop) (vs : List (γ1 × γ2 → Value)) (c1 c sr : Nat) (al : Option Nat) (N : Nat) (P : Program) (D : List (Option Tmp)) (F0 : Nat → Value) (w0 : World) (i : Nat) (o : Oper) : Prop :=
  o.guard = none ∧ ∀ (g : γ1 × γ2) (p : Nat) (F : Nat → Value) (w : World), Kept S w0 w → (∀ t, Nat.blt t N = true → some t ∉ D → F t = F0 t) → DepsF D (ToldX vs al g p) F w o.after.toList →
    (i ≠ c1 → i ≠ c → i ≠ sr → al ≠ some i → Yields P (ev F) o w (fun v w' => v = valX vs i g ∧ Kept noB w w')) ∧
    (i = c → C.Pre w → P1 g.1 w → Yields P (ev F) o w (fun v w' => ∃ g', v = valX vs i (g.1, g') ∧ Kept C.Tp w w' ∧ C.Post g' w' ∧ Grew w C.Tp (C.Tq g'))) ∧
    (i = c1 → Yields P (ev F) o w (fun v w' => ∃ g', v = valX vs i (g', g.2) ∧ Kept noB w w' ∧ P1 g' w' ∧ Grew w noB (T1 g'))) ∧
    (al = some i → Yields P (ev F) o w (fun v w' => ∃ q, v = ptX q ∧ w.heap.size ≤ q ∧ C.Z q w' ∧ Kept noB w w')) ∧
    (i = sr → okp p → C.Z p w → C.Post g.2 w → Yields P (ev F) o w (fun v w' => v = valX vs i g ∧ Kept (onB p) w w' ∧ C.Y g.2 p w'))
def StepsFY (C : Cas γ2) (P1 : γ1 → World → Prop) (T1 : γ1 → Nat → Prop) (S okp : Nat → Prop) (vs : List (γ1 × γ2 → Value)) (c1 c sr : Nat) (al : Option Nat) (N : Nat) (P : Program) (D : List (Option Tmp)) (F0 : Nat → Value) (w0 : World) : Nat → List Oper → Prop
  | _, [] => True
  | i, o :: r => StepFY C P1 T1 S okp vs c1 c sr al N P D F0 w0 i o ∧ StepsFY C P1 T1 S okp vs c1 c sr al N P D F0 w0 (i + 1) r
theorem stepsFY_nil {F0 : Nat → Value} {w0 : World} {i : Nat} : StepsFY C P1 T1 S okp vs c1 c sr al N P D F0 w0 i [] := trivial
theorem stepsFY_cons {F0 : Nat → Value} {w0 : World} {i : Nat} {o : Oper} {r : List Oper} (h : StepFY C P1 T1 S okp vs c1 c sr al N P D F0 w0 i o) (k : StepsFY C P1 T1 S okp vs c1 c sr al N P D F0 w0 (i + 1) r) : StepsFY C P1 T1 S okp vs c1 c sr al N P D F0 w0 i (o :: r) := ⟨h, k⟩
theorem StepFY.one {F0 : Nat → Value} {w0 : World} {i : Nat} {o : Oper} (hg : o.guard = none) (h0 : (i == c1) = false) (h1 : (i == c) = false) (h2 : (i == sr) = false) (h3 : (al == some i) = false)
    (h : ∀ (g : γ1 × γ2) (p : Nat) (F : Nat → Value) (w : World), Kept S w0 w → (∀ t, Nat.blt t N = true → some t ∉ D → F t = F0 t) → DepsF D (ToldX vs al g p) F w o.after.toList → Yields P (ev F) o w (fun v w' => v = valX vs i g ∧ Kept noB w w')) : StepFY C P1 T1 S okp vs c1 c sr al N P D F0 w0 i o :=
  ⟨hg, fun g p F w a b d => ⟨fun _ _ _ _ => h g p F w a b d, fun e => absurd e (by simpa using h1), fun e => absurd e (by simpa using h0), fun e => absurd e (by simpa using h3), fun e => absurd e (by simpa using h2)⟩⟩
theorem StepFY.call {F0 : Nat → Value} {w0 : World} {i : Nat} {o : Oper} (hg : o.guard = none) (h0 : (i == c1) = false) (h1 : (i == c) = true) (h2 : (i == sr) = false) (h3 : (al == some i) = false)
    (h : ∀ (g : γ1 × γ2) (p : Nat) (F : Nat → Value) (w : World), Kept S w0 w → (∀ t, Nat.blt t N = true → some t ∉ D → F t = F0 t) → DepsF D (ToldX vs al g p) F w o.after.toList → C.Pre w → P1 g.1 w → Yields P (ev F) o w (fun v w' => ∃ g', v = valX vs i (g.1, g') ∧ Kept C.Tp w w' ∧ C.Post g' w' ∧ Grew w C.Tp (C.Tq g'))) : StepFY C P1 T1 S okp vs c1 c sr al N P D F0 w0 i o :=
  ⟨hg, fun g p F w a b d => ⟨fun _ e => absurd (by simpa using h1) e, fun _ e e1 => h g p F w a b d e e1, fun e => absurd e (by simpa using h0), fun e => absurd e (by simpa using h3), fun e => absurd e (by simpa using h2)⟩⟩
theorem StepFY.alloc {F0 : Nat → Value} {w0 : World} {i : Nat} {o : Oper} (hg : o.guard = none) (h0 : (i == c1) = false) (h1 : (i == c) = false) (h2 : (i == sr) = false) (h3 : (al == some i) = true)
    (h : ∀ (F : Nat → Value) (w : World), Kept S w0 w → Yields P (ev F) o w (fun v w' => ∃ q, v = ptX q ∧ w.heap.size ≤ q ∧ C.Z q w' ∧ Kept noB w w')) : StepFY C P1 T1 S okp vs c1 c sr al N P D F0 w0 i o :=
  ⟨hg, fun g p F w a b d => ⟨fun _ _ _ e => absurd (by simpa using h3) e, fun e => absurd e (by simpa using h1), fun e => absurd e (by simpa using h0), fun _ => h F w a, fun e => absurd e (by simpa using h2)⟩⟩
theorem StepFY.store {F0 : Nat → Value} {w0 : World} {i : Nat} {o : Oper} (hg : o.guard = none) (h0 : (i == c1) = false) (h1 : (i == c) = false) (h2 : (i == sr) = true) (h3 : (al == some i) = false)
    (h : ∀ (g : γ1 × γ2) (p : Nat) (F : Nat → Value) (w : World), Kept S w0 w → (∀ t, Nat.blt t N = true → some t ∉ D → F t = F0 t) → DepsF D (ToldX vs al g p) F w o.after.toList → okp p → C.Z p w → C.Post g.2 w → Yields P (ev F) o w (fun v w' => v = valX vs i g ∧ Kept (onB p) w w' ∧ C.Y g.2 p w')) : StepFY C P1 T1 S okp vs c1 c sr al N P D F0 w0 i o :=
  ⟨hg, fun g p F w a b d => ⟨fun _ _ e => absurd (by simpa using h2) e, fun e => absurd e (by simpa using h1), fun e => absurd e (by simpa using h0), fun e => absurd e (by simpa using h3), fun _ e => h g p F w a b d e⟩⟩
theorem StepFY.ahead {F0 : Nat → Value} {w0 : World} {i : Nat} {o : Oper} (hg : o.guard = none) (h0 : (i == c1) = true) (h1 : (i == c) = false) (h2 : (i == sr) = false) (h3 : (al == some i) = false)
    (h : ∀ (g : γ1 × γ2) (p : Nat) (F : Nat → Value) (w : World), Kept S w0 w → (∀ t, Nat.blt t N = true → some t ∉ D → F t = F0 t) → DepsF D (ToldX vs al g p) F w o.after.toList → Yields P (ev F) o w (fun v w' => ∃ g', v = valX vs i (g', g.2) ∧ Kept noB w w' ∧ P1 g' w' ∧ Grew w noB (T1 g'))) : StepFY C P1 T1 S okp vs c1 c sr al N P D F0 w0 i o :=
  ⟨hg, fun g p F w a b d => ⟨fun e => absurd (by simpa using h0) e, fun e => absurd e (by simpa using h1), fun _ => h g p F w a b d, fun e => absurd e (by simpa using h3), fun e => absurd e (by simpa using h2)⟩⟩
theorem StepFY.step {os : List Oper} {w0 : World} {i : Nat} {o : Oper} {a0 : Act} (hmo : mustOk os M = true) (hcs : M.contains (sr, c) = true) (hc1 : M.contains (c, c1) = true) (hs1 : M.contains (sr, c1) = true) (hca : ∀ a, al = some a → M.contains (sr, a) = true) (hna : al ≠ some c) (hn1 : al ≠ some c1) (hns : al ≠ some sr) (hsc : c ≠ sr) (hsc1 : c1 ≠ sr) (hcc : c ≠ c1) (hC1 : Const1 M c1 0 vs) (hC : Const2 M c 0 vs) (hp1 : Pst1 P1 T1) (hok : CasOk C S okp w0) (hnew : ∀ a, al = some a → ∀ p, w0.heap.size ≤ p → okp p) (hio : os[i]? = some o) (ha : Fr N F a0) (h : StepFY C P1 T1 S okp vs c1 c sr al N P D F w0 i o) :
    StepJ os P D (fun L v w => ∃ g1 g p, JY C P1 T1 S okp vs c1 c sr al M w0 L v w g1 g p) a0 i o := by
  rintro L v a w ⟨g1, g, p, hJ⟩ hi hdone hout hhere _
  have hDe : ∀ c d, D.getD c none = some d → D[c]? = some (some d) := fun c d hd => by
    unfold List.getD at hd
    cases hq : D[c]? with
    | none => rw [hq] at hd; cases hd
    | some y => rw [hq] at hd; simp at hd; rw [hd]
  have hdeps : DepsF D (ToldX vs al (g1, g) p) (fun t => a.tmps.getD t undef) w o.after.toList := by
    refine Deps.toF (Deps.mk fun e he hb d hd => ?_)
    have hl := hdone e he hb
    rw [hhere e.on d hl (hDe e.on d hd)]
    exact ⟨fun e' => hJ.adr _ e' hl, fun e' => hJ.vals _ hl e'⟩
  have hM : ∀ k, (i, k) ∈ M → L k = true := fun k hk => by
    have := List.all_eq_true.1 hmo _ hk
    simp only [hio] at this
    obtain ⟨e, he, hb⟩ := List.any_eq_true.1 this
    simp only [Bool.and_eq_true, Bool.or_eq_true, beq_iff_eq] at hb
    have hl := hdone e he hb.1
    rcases hb.2 with h1 | h1
    · rw [← h1]; exact hl
    · exact hJ.clos _ _ (by simpa using h1) hl
  have hcl : ∀ j k, (j, k) ∈ M → upL L i j = true → upL L i k = true := fun j k hm hj => by
    have hk : L k = true := by
      by_cases e : j = i
      · subst e; exact hM k hm
      · rw [upL_neX e] at hj; exact hJ.clos j k hm hj
    unfold upL; split <;> first | rfl | exact hk
  have hcs' : (sr, c) ∈ M := by simpa using hcs
  have hc1' : (c, c1) ∈ M := by simpa using hc1
  have hs1' : (sr, c1) ∈ M := by simpa using hs1
  have hca' : ∀ a, al = some a → (sr, a) ∈ M := fun a e => by simpa using hca a e
  have srHas : L sr = true → hasX al L = true := fun e => by
    unfold hasX
    cases al with
    | none => rfl
    | some a => exact hJ.clos _ _ (hca' a rfl) e
  obtain ⟨hg, hS⟩ := h
  obtain ⟨q1, q2, q5, q3, q4⟩ := hS (g1, g) p (fun t => a.tmps.getD t undef) w hJ.kept (fun t hb ht => by rw [← ha.at' t hb]; exact hout t ht) hdeps
  rw [← eval_ev a] at q1 q2 q3 q4 q5
  unfold goes
  rw [hg]
  refine ⟨fun _ => ?_, fun e => by cases e⟩
  by_cases ea : al = some i
  · -- the block is made
    refine (q3 ea).mono' fun x w' ⟨q, hx, hq, hz, hk⟩ => ⟨g1, g, q, ?_⟩
    have nS : L sr = false := by
      cases e : L sr with
      | false => rfl
      | true => have := hJ.clos _ _ (hca' i ea) e; rw [hi] at this; cases this
    have isr : sr ≠ i := fun e => hns (by rw [e]; exact ea)
    have ic : c ≠ i := fun e => hna (by rw [e]; exact ea)
    have ic1 : c1 ≠ i := fun e => hn1 (by rw [e]; exact ea)
    refine ⟨hJ.kept.trans hk (fun _ _ z => z.elim), fun j hj hn => ?_, fun a' e' hl => ?_, fun _ => hnew i ea q (Nat.le_trans hJ.kept.size hq), fun _ _ => hz, fun e => ?_, fun e => ?_, fun e => ?_, fun e _ => ?_, fun e => ?_, fun e _ => ?_, hcl⟩
    · have hji : j ≠ i := fun e => hn (by rw [e]; exact ea)
      rw [upL_neX hji] at hj; rw [upV_neX hji]; exact hJ.vals j hj hn
    · rw [ea] at e'; cases e'; rw [upV_eqX]; exact hx
    · rw [upL_neX isr, nS] at e; cases e
    · rw [upL_neX ic] at e; exact hok.preS w w' noB (hJ.pre e) hk Apart.none
    · rw [upL_neX ic] at e; exact ⟨hok.postS g w w' noB (hJ.post e).1 hk Apart.none, (hJ.post e).2⟩
    · rw [upL_neX ic] at e
      intro ht
      have := hok.postL g w (hJ.post e).1 q ht
      omega
    · rw [upL_neX ic1] at e; exact ⟨hp1.s g1 w w' noB (hJ.post1 e).1 hk Apart.none, (hJ.post1 e).2⟩
    · rw [upL_neX ic1] at e
      intro ht
      have := hp1.l g1 w (hJ.post1 e).1 q ht
      omega
  · have hH : hasX al (upL L i) = hasX al L := hasX_up ea
    have adr' : ∀ x a', al = some a' → upL L i a' = true → upV v i x a' = ptX p := fun x a' e' hl => by
      have : a' ≠ i := fun e => ea (by rw [e', e])
      rw [upL_neX this] at hl; rw [upV_neX this]; exact hJ.adr a' e' hl
    by_cases ec : i = c
    · -- the call
      subst ec
      have nS : L sr = false := by
        cases e : L sr with
        | false => rfl
        | true => have := hJ.clos _ _ hcs' e; rw [hi] at this; cases this
      have isr : sr ≠ i := fun e => hsc e.symm
      have hpre := hJ.pre hi
      have hL1 : L c1 = true := hM c1 hc1'
      have hpo1 := hJ.post1 hL1
      have ap1 : Apart (T1 g1) C.Tp := fun b hb hT => (hpo1.2 b hb).elim (fun z => z) (fun z => absurd (hok.preL w0 hok.pre b hT) (by omega))
      have ic1 : c1 ≠ i := fun e => hcc e.symm
      refine (q2 rfl hpre hpo1.1).mono' fun x w' ⟨g', hx, hk, hpo, hgr⟩ => ⟨g1, g', p, ?_⟩
      refine ⟨hJ.kept.trans hk (fun b _ z => hok.inS b z), fun j hj hn => ?_, adr' x, fun e => ?_, fun e _ => ?_, fun e => ?_, fun e => ?_, fun _ => ⟨hpo, fun b hb => ?_⟩, fun _ e => ?_, fun _ => ⟨hp1.s g1 w w' _ hpo1.1 hk ap1, hpo1.2⟩, fun _ e => ?_, hcl⟩
      · by_cases hji : j = i
        · subst hji; rw [upV_eqX]; exact hx
        · rw [upL_neX hji] at hj; rw [upV_neX hji, hJ.vals j hj hn]
          refine hC.at j ?_ (by omega) g1 g g'
          rw [Nat.zero_add]
          cases e : M.contains (j, i) with
          | false => rfl
          | true => have := hJ.clos j i (by simpa using e) hj; rw [hi] at this; cases this
      · rw [hH] at e; exact hJ.blk e
      · rw [hH] at e; exact hok.zS p w w' _ (hJ.zero e nS) hk (hok.okT p (hJ.blk e))
      · rw [upL_neX isr, nS] at e; cases e
      · rw [upL_eqX] at e; cases e
      · rcases hgr b hb with z | z
        · exact .inl z
        · exact .inr (Nat.le_trans hJ.kept.size z)
      · rw [hH] at e
        intro ht
        have hlt := hok.zL p w (hJ.zero e nS)
        rcases hgr p ht with z | z
        · exact hok.okT p (hJ.blk e) z
        · omega
      · rw [hH] at e; exact hJ.far1 hL1 e
    · by_cases es : i = sr
      · -- the store
        subst es
        have hLc : L c = true := hM c hcs'
        have hHa : hasX al L = true := by
          unfold hasX
          cases al with
          | none => rfl
          | some a => exact hM a (hca' a rfl)
        have hokp := hJ.blk hHa
        have hnT := hJ.far hLc hHa
        have hL1 : L c1 = true := hM c1 hs1'
        have hpo1 := hJ.post1 hL1
        have hn1 := hJ.far1 hL1 hHa
        refine (q4 rfl hokp (hJ.zero hHa hi) (hJ.post hLc).1).mono' fun x w' ⟨hx, hk, hy⟩ => ⟨g1, g, p, ?_⟩
        have ic : c ≠ i := fun e => ec e.symm
        refine ⟨hJ.kept.trans hk (fun b hb z => ?_), fun j hj hn => ?_, adr' x, fun _ => hokp, fun _ e => ?_, fun _ => hy, fun e => ?_, fun _ => ⟨hok.postS g w w' _ (hJ.post hLc).1 hk (fun b hb z => hnT (by cases z; exact hb)), (hJ.post hLc).2⟩, fun _ _ => hnT, fun _ => ⟨hp1.s g1 w w' _ hpo1.1 hk (fun b hb z => hn1 (by cases z; exact hb)), hpo1.2⟩, fun _ _ => hn1, hcl⟩
        · cases z
          rcases hok.okS _ hokp with z | z
          · exact z
          · omega
        · by_cases hji : j = i
          · subst hji; rw [upV_eqX]; exact hx
          · rw [upL_neX hji] at hj; rw [upV_neX hji]; exact hJ.vals j hj hn
        · rw [upL_eqX] at e; cases e
        · rw [upL_neX ic, hLc] at e; cases e
      · by_cases e1 : i = c1
        · -- the call ahead
          subst e1
          have nC : L c = false := by
            cases e : L c with
            | false => rfl
            | true => have := hJ.clos _ _ hc1' e; rw [hi] at this; cases this
          have nS : L sr = false := by
            cases e : L sr with
            | false => rfl
            | true => have := hJ.clos _ _ hs1' e; rw [hi] at this; cases this
          have ic : c ≠ i := hcc
          have isr : sr ≠ i := fun e => hsc1 e.symm
          refine (q5 rfl).mono' fun x w' ⟨g', hx, hk, hpo, hgr⟩ => ⟨g', g, p, ?_⟩
          refine ⟨hJ.kept.trans hk (fun _ _ z => z.elim), fun j hj hn => ?_, adr' x, fun e => ?_, fun e _ => ?_, fun e => ?_, fun e => ?_, fun e => ?_, fun e _ => ?_, fun _ => ⟨hpo, fun b hb => ?_⟩, fun _ e => ?_, hcl⟩
          · by_cases hji : j = i
            · subst hji; rw [upV_eqX]; exact hx
            · rw [upL_neX hji] at hj; rw [upV_neX hji, hJ.vals j hj hn]
              refine hC1.at j ?_ (by omega) g1 g' g
              rw [Nat.zero_add]
              cases e : M.contains (j, i) with
              | false => rfl
              | true => have := hJ.clos j i (by simpa using e) hj; rw [hi] at this; cases this
          · rw [hH] at e; exact hJ.blk e
          · rw [hH] at e; exact hok.zS p w w' _ (hJ.zero e nS) hk (fun z => z)
          · rw [upL_neX isr, nS] at e; cases e
          · exact hok.preS w w' _ (hJ.pre nC) hk Apart.none
          · rw [upL_neX ic, nC] at e; cases e
          · rw [upL_neX ic, nC] at e; cases e
          · rcases hgr b hb with z | z
            · exact .inl z
            · exact .inr (Nat.le_trans hJ.kept.size z)
          · rw [hH] at e
            intro ht
            have hlt := hok.zL p w (hJ.zero e nS)
            rcases hgr p ht with z | z
            · exact z
            · omega
        · -- all others
          refine (q1 e1 ec es ea).mono' fun x w' ⟨hx, hk⟩ => ⟨g1, g, p, ?_⟩
          have ic : c ≠ i := fun e => ec e.symm
          have ic1 : c1 ≠ i := fun e => e1 e.symm
          have isr : sr ≠ i := fun e => es e.symm
          refine ⟨hJ.kept.trans hk (fun _ _ z => z.elim), fun j hj hn => ?_, adr' x, fun e => ?_, fun e1 e2 => ?_, fun e => ?_, fun e => ?_, fun e => ?_, fun e1 e2 => ?_, fun e => ?_, fun e1 e2 => ?_, hcl⟩
          · by_cases hji : j = i
            · subst hji; rw [upV_eqX]; exact hx
            · rw [upL_neX hji] at hj; rw [upV_neX hji]; exact hJ.vals j hj hn
          · rw [hH] at e; exact hJ.blk e
          · rw [hH] at e1; rw [upL_neX isr] at e2; exact hok.zS p w w' _ (hJ.zero e1 e2) hk (fun z => z)
          · rw [upL_neX isr] at e; exact hok.yS g p w w' _ (hJ.full e) hk (fun z => z)
          · rw [upL_neX ic] at e; exact hok.preS w w' _ (hJ.pre e) hk Apart.none
          · rw [upL_neX ic] at e; exact ⟨hok.postS g w w' _ (hJ.post e).1 hk Apart.none, (hJ.post e).2⟩
          · rw [upL_neX ic] at e1; rw [hH] at e2; exact hJ.far e1 e2
          · rw [upL_neX ic1] at e; exact ⟨hp1.s g1 w w' _ (hJ.post1 e).1 hk Apart.none, (hJ.post1 e).2⟩
          · rw [upL_neX ic1] at e1; rw [hH] at e2; exact hJ.far1 e1 e2
theorem StepsFY.steps {all : List Oper} {w0 : World} {a0 : Act} (hmo : mustOk all M = true) (hcs : M.contains (sr, c) = true) (hc1 : M.contains (c, c1) = true) (hs1 : M.contains (sr, c1) = true) (hca : ∀ a, al = some a → M.contains (sr, a) = true) (hna : al ≠ some c) (hn1 : al ≠ some c1) (hns : al ≠ some sr) (hsc : c ≠ sr) (hsc1 : c1 ≠ sr) (hcc : c ≠ c1) (hC1 : Const1 M c1 0 vs) (hC : Const2 M c 0 vs) (hp1 : Pst1 P1 T1) (hok : CasOk C S okp w0) (hnew : ∀ a, al = some a → ∀ p, w0.heap.size ≤ p → okp p) (ha : Fr N F a0) : ∀ {os : List Oper} {i : Nat}, (∀ k o, os[k]? = some o → all[i + k]? = some o) → StepsFY C P1 T1 S okp vs c1 c sr al N P D F w0 i os → StepsJ all P D (fun L v w => ∃ g1 g p, JY C P1 T1 S okp vs c1 c sr al M w0 L v w g1 g p) a0 i os := by
  intro os
  induction os with
  | nil => intro i _ _; exact trivial
  | cons o r ih =>
    intro i hat h
    exact ⟨h.1.step hmo hcs hc1 hs1 hca hna hn1 hns hsc hsc1 hcc hC1 hC hp1 hok hnew (hat 0 o rfl) ha, ih (fun k o' hk => by have := hat (k + 1) o' hk; rwa [show i + (k + 1) = i + 1 + k by omega] at this) h.2⟩
def cas2OkB (M : List (Nat × Nat)) (n c1 c sr : Nat) (al : Option Nat) : Bool := M.contains (sr, c) && M.contains (c, c1) && M.contains (sr, c1) && Nat.blt c1 n && Nat.blt c n && Nat.blt sr n && !(c == sr) && !(c1 == sr) && !(c == c1) && match al with
  | some a => M.contains (sr, a) && Nat.blt a n && !(a == c) && !(a == sr) && !(a == c1)
  | none => true
theorem wq_cas2 {lo : Option Nat} {id : Nat} {ops : Array Oper} (M : List (Nat × Nat)) (D : List (Option Tmp)) (C : Cas γ2) (P1 : γ1 → World → Prop) (T1 : γ1 → Nat → Prop) (S okp : Nat → Prop) (vs : List (γ1 × γ2 → Value)) (c1 c sr : Nat) (al : Option Nat) (g10 : γ1) (g0 : γ2) (p0 : Nat) (hm : P.follows .mixedOrders = true) (hpl : plain N 0 D ops.toList = true) (hmo : mustOk ops.toList M = true) (hb : cas2OkB M ops.size c1 c sr al = true) (hC1 : Const1 M c1 0 vs) (hC : Const2 M c 0 vs) (hp1 : Pst1 P1 T1) (hok : CasOk C S okp w) (hnew : ∀ a, al = some a → ∀ p, w.heap.size ≤ p → okp p) (h0 : al = none → okp p0 ∧ C.Z p0 w) (hsteps : StepsFY C P1 T1 S okp vs c1 c sr al N P D F w 0 ops.toList)
    (hend : ∀ (g1 : γ1) (g : γ2) (p : Nat) (v : Nat → Value) (F' : Nat → Value) (w' : World), Kept S w w' → okp p → C.Post g w' → Grew w C.Tp (C.Tq g) → C.Y g p w' → ¬ C.Tq g p → (∀ a, al = some a → v a = ptX p) → (∀ i, i < ops.size → al ≠ some i → v i = valX vs i (g1, g)) → (∀ t, F' t = putsF v 0 D F t) → Q .normal F' w') : wq lo P N (.region id ops true) Q F w := by
  unfold cas2OkB at hb
  simp only [Bool.and_eq_true, Bool.not_eq_true', Nat.blt_eq, beq_eq_false_iff_ne, ne_eq] at hb
  obtain ⟨⟨⟨⟨⟨⟨⟨⟨⟨b1, d1⟩, d2⟩, b0⟩, b2⟩, b3⟩, b4⟩, d3⟩, d4⟩, b5⟩ := hb
  have b6 : ∀ a, al = some a → M.contains (sr, a) = true ∧ a < ops.size ∧ a ≠ c ∧ a ≠ sr ∧ a ≠ c1 := by
    intro a e
    subst e
    simp only [Bool.and_eq_true, Bool.not_eq_true', Nat.blt_eq, beq_eq_false_iff_ne, ne_eq] at b5
    exact ⟨b5.1.1.1.1, b5.1.1.1.2, b5.1.1.2, b5.1.2, b5.2⟩
  intro a ha
  refine wpIn_region_inv D (fun L v w' => ∃ g1 g p, JY C P1 T1 S okp vs c1 c sr al M w L v w' g1 g p) hm (by rw [ha.size]; exact hpl)
    ⟨g10, g0, p0, (Kept.refl _ w).drew, fun _ e => (by cases e), fun _ _ e => (by cases e), fun e => ?_, fun e _ => ?_, fun e => (by cases e), fun _ => hok.preS w _ (fun _ => False) hok.pre (Kept.refl _ w).drew (fun _ _ z => z), fun e => (by cases e), fun e => (by cases e), fun e => (by cases e), fun e => (by cases e), fun _ _ _ e => (by cases e)⟩
    (hsteps.steps hmo b1 d1 d2 (fun a e => (b6 a e).1) (fun e => (b6 _ e).2.2.1 rfl) (fun e => (b6 _ e).2.2.2.2 rfl) (fun e => (b6 _ e).2.2.2.1 rfl) b4 d3 d4 hC1 hC hp1 hok hnew ha (fun k o hk => by rw [Nat.zero_add]; exact hk)) fun L v w' ⟨g1, g, p, hJ⟩ hL => ?_
  · cases al with
    | some a => unfold hasX at e; cases e
    | none => exact (h0 rfl).1
  · cases al with
    | some a => unfold hasX at e; cases e
    | none => exact hok.zS p0 w _ (fun _ => False) (h0 rfl).2 (Kept.refl _ w).drew (fun z => z)
  have hH : hasX al L = true := by
    unfold hasX
    cases al with
    | none => rfl
    | some a => exact hL a (b6 a rfl).2.1
  exact ⟨putsF v 0 D F, putAll_fr v D 0 F a ha (plain_fits hpl), hend g1 g p v _ w' hJ.kept (hJ.blk hH) (hJ.post (hL c b2)).1 (hJ.post (hL c b2)).2 (hJ.full (hL sr b3)) (hJ.far (hL c b2) hH) (fun a e => hJ.adr a e (hL a (b6 a e).2.1)) (fun i hi hn => hJ.vals i (hL i hi) hn) (fun _ => rfl)⟩
end
end Go.Proofs.YtknjpdcpmpfklaaGreatDoor
set_option maxRecDepth 100000
namespace Go.Proofs.YtknjpdcpmpfklaaGreatDoor
open Go.RowKit
abbrev b4S : List Bool := wholeBits 4 ++ [true, true, true]
abbrev b6S : List Bool := wholeBits 6 ++ [true, true, true, true, true]
theorem b4_len : b4S.length = 8 := by decide +kernel
theorem b6_len : b6S.length = 10 := by decide +kernel
theorem cat3 (a : List Bool) : strOf a ++ ByteArray.mk #[49, 49, 49] = strOf (a ++ [true, true, true]) := by
  rw [show ByteArray.mk #[49, 49, 49] = strOf [true, true, true] from rfl]; exact strOf_append _ _
theorem cat5 (a : List Bool) : strOf a ++ ByteArray.mk #[49, 49, 49, 49, 49] = strOf (a ++ [true, true, true, true, true]) := by
  rw [show ByteArray.mk #[49, 49, 49, 49, 49] = strOf [true, true, true, true, true] from rfl]; exact strOf_append _ _
theorem rep_next (a c : List Bool) (i : Nat) : (repB (a ++ c) i ++ a) ++ c = repB (a ++ c) (i + 1) := List.append_assoc _ _ _
theorem mk_side (w h : Nat) (b : List Nat) (hw : w < 2) (hh : h < 2) : sideOk (mkF w h b).W ∧ sideOk (mkF w h b).H := by
  have e1 : (mkF w h b).W = ((sd w : Nat) : Int) := rfl
  have e2 : (mkF w h b).H = ((sd h : Nat) : Int) := rfl
  rw [e1, e2]
  unfold sd sideOk; omega
theorem still_n {w h N : Nat} {b : List Nat} (hw : w < 2) (hh : h < 2) (hN : N = plOff (mkF w h b).W (mkF w h b).H 3) : N = sd w * sd h / 16 + 2 * (sd w * sd h / 64) ∧ N ≤ 24 ∧ sd w * sd h ≤ 256 := by
  have e1 : (mkF w h b).W = ((sd w : Nat) : Int) := rfl
  have e2 : (mkF w h b).H = ((sd h : Nat) : Int) := rfl
  rw [hN, e1, e2]
  rcases (show w = 0 ∨ w = 1 by omega) with rfl | rfl <;> rcases (show h = 0 ∨ h = 1 by omega) with rfl | rfl <;> decide +kernel
theorem still_dec {w h N q : Nat} {b : List Nat} {k m : Int} {g : FD} (hw : w < 2) (hh : h < 2) (hq : q < 21) (hN : N = plOff (mkF w h b).W (mkF w h b).H 3) (B : List Bool) (hB : chBits (stillC m) 0 0 0 0 = B) (hl : B.length ≤ 10)
    (hkm : (k = 1 ∧ m = 4) ∨ (k = 2 ∧ m = 6 ∧ g = mkF w h b)) :
    decE (pack (repB B N ++ endBits (repB B N).length)) (mkF w h b).W (mkF w h b).H 1 1 k ((q : Nat) : Int) 0 0 (mkF w h b) g = 0 ∧
    sameF (decF (pack (repB B N ++ endBits (repB B N).length)) (mkF w h b).W (mkF w h b).H 1 1 k ((q : Nat) : Int) 0 0 (mkF w h b) g) (mkF w h b) = true := by
  have hF := mkF_ok w h b
  have hBy := mkF_bytes w h b
  have hsd := mk_side w h b hw hh
  have hn := (still_n hw hh hN).2.1
  have hm : mayP (mkF w h b).W (mkF w h b).H 1 1 k ((q : Nat) : Int) 0 0 := ⟨⟨hsd.1, hsd.2, by decide, by decide, by decide, by decide⟩, by unfold headOk; omega⟩
  have hfit : fitsP (mkF w h b).W (mkF w h b).H 1 1 (mkF w h b) := ⟨hm.1, hF, rfl, rfl⟩
  have hno : ¬ ((k ≠ 0 ∧ ¬ fitsP (mkF w h b).W (mkF w h b).H 1 1 (mkF w h b)) ∨ (k = 2 ∧ ¬ fitsP (mkF w h b).W (mkF w h b).H 1 1 g)) := by
    rintro (⟨_, z⟩ | ⟨z, z2⟩)
    · exact z hfit
    · rcases hkm with ⟨e, _⟩ | ⟨_, _, e⟩
      · omega
      · rw [e] at z2; exact z2 hfit
  have hk : chE k (stillC m) = 0 := by
    rcases hkm with ⟨rfl, rfl⟩ | ⟨rfl, rfl, _⟩
    · exact still_ok4
    · exact still_ok6
  subst hB
  have hs : (repB (chBits (stillC m) 0 0 0 0) N).length ≤ 240 := by
    rw [repB_len]
    exact Nat.le_trans (Nat.mul_le_mul hl hn) (by decide)
  rw [hN] at hs ⊢
  have hc := chsP_still (k := k) (m := m) (W := (mkF w h b).W) (H := (mkF w h b).H) hk _ rfl (by omega)
  have hE : decE (pack (repB (chBits (stillC m) 0 0 0 0) (plOff (mkF w h b).W (mkF w h b).H 3) ++ endBits (repB (chBits (stillC m) 0 0 0 0) (plOff (mkF w h b).W (mkF w h b).H 3)).length)) (mkF w h b).W (mkF w h b).H 1 1 k ((q : Nat) : Int) 0 0 (mkF w h b) g = 0 := (decE_chs hm hno).trans hc.1
  refine ⟨hE, ?_⟩
  rw [decF_yes hE]
  rcases hkm with ⟨rfl, rfl⟩ | ⟨rfl, rfl, rfl⟩
  · rw [frTo_past hF hBy hq hc.2.2]; exact sameF_me _
  · rw [frTo_both hF hBy hq hc.2.2]; exact sameF_me _
theorem pcstill_walk (w h q : Nat) (v : Value) (l : List Nat) (T_b : Nat → Prop) (w0 : World) (hA : ActsIn w0) (hO : ScanIn w0) (hs : StepsAt w0) (hwv : Waves w0) (hw : w < 256) (hh : h < 256) (hq : q < 256) (h_b : Byt w0 T_b v (l)) :
  Calls Tryz.prog 6 #[.int .u8 (((w : Nat) : Int)), .int .u8 (((h : Nat) : Int)), v, .int .u8 (((q : Nat) : Int))] w0 fun e w' => e = .returned (.bool true) ∧ Kept (fun _ => False) w0 w' := by
 refine calls_wq (args := [.int .u8 ((w : Nat) : Int), .int .u8 ((h : Nat) : Int), v, .int .u8 ((q : Nat) : Int)]) 118 Tryz.func6 rfl rfl (Nat.le_of_ble_eq_true rfl) ?_
 have K0 := Kept.refl (fun _ => False) w0
 obtain ⟨N, hN⟩ : ∃ N, N = plOff (mkF (w % 2) (h % 2) l).W (mkF (w % 2) (h % 2) l).H 3 := ⟨_, rfl⟩
 have hw2 : w % 2 < 2 := Nat.mod_lt _ (by decide)
 have hh2 : h % 2 < 2 := Nat.mod_lt _ (by decide)
 have hq2 : q % 21 < 21 := Nat.mod_lt _ (by decide)
 have hNN := still_n hw2 hh2 hN
 obtain ⟨A, hAA⟩ : ∃ A, A = sd (w % 2) * sd (h % 2) := ⟨_, rfl⟩
 rw [← hAA] at hNN
 have hWH : (mkF (w % 2) (h % 2) l).W * (mkF (w % 2) (h % 2) l).H = ((A : Nat) : Int) := by rw [hAA, Int.natCast_mul]; rfl
 have h4 := Lib.hid (still_dec (k := 1) (m := 4) (g := FD.none) hw2 hh2 hq2 hN b4S still_bits4 (by rw [b4_len]; decide) (Or.inl rr))
 have h6 := Lib.hid (still_dec (k := 2) (m := 6) (g := mkF (w % 2) (h % 2) l) hw2 hh2 hq2 hN b6S still_bits6 (by rw [b6_len]; decide) (Or.inr ⟨rfl, rfl, rfl⟩))
 have hl4 : (repB b4S N).length ≤ 240 := by rw [repB_len, b4_len]; omega
 have hl6 : (repB b6S N).length ≤ 240 := by rw [repB_len, b6_len]; omega
 have g_b := Grew.refl w0 T_b
 refine wq_seq (wq_region (wl_v (.bool false) rfl rfl (y_asg rfl rfl rr) (wl_nil fun F1 hF2 => ?_)))
 have s3 : F1 0 = .int .u8 ((w : Nat) : Int) := (hF2 0).trans rfl
 have s4 : F1 1 = .int .u8 ((h : Nat) : Int) := (hF2 1).trans rfl
 have s5 : F1 2 = v := (hF2 2).trans rfl
 have s6 : F1 3 = .int .u8 ((q : Nat) : Int) := (hF2 3).trans rfl
 have s7 : F1 118 = undef := (hF2 118).trans rfl
 clear hF2
 refine then_normal (wq_seq (wq_region (wl_cs rfl rfl rfl rfl rfl (fun _ _ => by kernel_rfl) vsN (pcawake_any   _ (hA.all K0) (hO.all K0) (hs.all K0) (hwv.all K0)  ) fun w8 k9 => ?_)))
 have B10 := h_b.all k9 Apart.none
 have K11 := K0.tr k9
 refine wl_v (.bool true) rfl rfl (y_asg rfl rfl rr) (wl_nil fun F12 hF13 => ?_)
 obtain ⟨s14, s15, s16, s17, s18⟩ := t5 hF13 0 s3 1 s4 2 s5 3 s6 118 s7
 have s19 : F12 9 = .bool true := (hF13 9).trans rfl
 clear hF13
 refine then_normal (wq_seq (wq_seq (wq_region (wl_mv rfl rfl rfl s16 (wl_v (iv ((l.length : Nat) : Int)) rfl rfl (y_lenV rfl rfl rfl B10 rr) (wl_v (.bool (decide (300 < ((l.length : Nat) : Int)))) rfl rfl (y_gtr rfl rfl rfl rfl rr) (wl_nil fun F20 hF21 => ?_)))))))
 obtain ⟨s22, s23, s24, s25, s26, s27⟩ := t6 hF21 0 s14 1 s15 2 s16 3 s17 118 s18 9 s19
 have s28 : F20 24 = .bool (decide (300 < ((l.length : Nat) : Int))) := (hF21 24).trans rfl
 clear hF21
 refine then_normal ?_
 refine wq_cond s28 (fun c29 => ?_) (fun c29 => ?_)
 ·replace c29 := of_decide_eq_true c29
  refine wq_seq (wq_region (wl_mv rfl rfl rfl s27 (wl_v (.bool true) rfl rfl (y_asg rfl rfl rr) (wl_nil fun F30 hF31 => ?_))))
  have s32 := (hF31 118).trans s26
  have s33 : F30 8 = .bool true := (hF31 8).trans rfl
  clear hF31
  refine then_normal (wq_ret (then_ret ?_))
  exact end_tmp (v := .bool true) s32 rfl rfl s33 ⟨rfl, K11⟩
 ·replace c29 := of_decide_eq_false c29
  refine wq_skip (then_normal (wq_seq (wq_region (wl_mv rfl rfl rfl s22 (wl_v (.int .u8 (((w % 2) : Nat) : Int)) rfl rfl (y_rem rfl rfl rfl (by first | decide | omega) (rem_nat w 2) rr) (wl_mv rfl rfl rfl s23 (wl_v (.int .u8 (((h % 2) : Nat) : Int)) rfl rfl (y_rem rfl rfl rfl (by first | decide | omega) (rem_nat h 2) rr) (wl_mv rfl rfl rfl s24 (wl_call (R := fun v_ w_ => ∃ (v34 : Value) (T39 : Nat → Prop) (v35 : Value) (T40 : Nat → Prop) (v36 : Value) (T41 : Nat → Prop), .agg #[iv ((mkF (w % 2) (h % 2) l).W), iv ((mkF (w % 2) (h % 2) l).H), v34, v35, v36] = v_ ∧ Kept (fun _ => False) w8 w_ ∧ (Owb w_ T39 v34 ((mkF (w % 2) (h % 2) l).p0) ∧ Grew w8 noB T39) ∧ (Owb w_ T40 v35 ((mkF (w % 2) (h % 2) l).p1) ∧ Grew w8 noB T40) ∧ (Owb w_ T41 v36 ((mkF (w % 2) (h % 2) l).p2) ∧ Grew w8 noB T41) ∧ Apart T39 T40 ∧ Apart T39 T41 ∧ Apart T40 T41) rfl rfl (y_cs rfl rfl rfl (fun _ _ => by kernel_rfl) (ev_func _) (vsC rfl (vsC rfl (vsC rfl vsN))) (flaw_frame (w % 2) (h % 2) v l T_b _ (by omega) (by omega) B10 ) (fun e_ w_ h_ => by obtain ⟨v34_, T39_, v35_, T40_, v36_, T41_, he_, hr_⟩ := h_; exact ⟨_, he_, v34_, T39_, v35_, T40_, v36_, T41_, rfl, hr_⟩)) ?_)))))))))
  rintro _ w37 ⟨v34, T39, v35, T40, v36, T41, rfl, k38, ⟨B42, g45⟩, ⟨B43, g46⟩, ⟨B44, g47⟩, ap48, ap49, ap50⟩
  have B51 := B10.all k38 Apart.none
  have K52 := K11.tr k38
  refine wl_alloc_stc (n := 5) (vs := [iv 0, iv 0, .slice none 0 0, .slice none 0 0, .slice none 0 0]) rfl rfl rfl (by kernel_rfl) fun p59 w60 B62 g63 k61 => ?_
  have gr64 : Grew w0 noB (onB p59) := Grew.new K52 g63
  have ap65 : Apart (onB p59) T_b := Apart.new g63 B51.live
  have ap66 : Apart (onB p59) T39 := Apart.new g63 B42.live
  have ap67 : Apart (onB p59) T40 := Apart.new g63 B43.live
  have ap68 : Apart (onB p59) T41 := Apart.new g63 B44.live
  have B69 := B51.all k61 Apart.none
  have B70 := B42.all k61 Apart.none
  have B71 := B43.all k61 Apart.none
  have B72 := B44.all k61 Apart.none
  have K73 := K52.tr k61
  refine wl_store_stc (us := [iv ((mkF (w % 2) (h % 2) l).W), iv ((mkF (w % 2) (h % 2) l).H), v34, v35, v36]) stcT_frame rfl rfl rfl rfl rfl B62 rfl (oneI rfl (oneI rfl (oneI B70.one (oneI B71.one (oneI B72.one oneN))))) fun w74 B75 k76 => ?_
  have B77 := B69.all k76 ap65.symm
  have B78 := B70.all k76 ap66.symm
  have B79 := B71.all k76 ap67.symm
  have B80 := B72.all k76 ap68.symm
  have K81 := K73.trans k76 (Grew.ok (S := fun _ => False) gr64 noB_le)
  refine wl_nil fun F82 hF83 => ?_
  obtain ⟨s84, s85, s86⟩ := t3 hF83 3 s25 118 s26 9 s27
  have s87 : F82 10 = pt p59 0 := (hF83 10).trans rfl
  clear hF83
  refine then_normal (wq_seq (wq_region (wl_v (pt p59 0) rfl rfl (y_fieldR (n := 1) rfl s87 Tryz.underlying29 rfl (by kernel_rfl) (by decide) rfl rr) (wl_v (iv ((mkF (w % 2) (h % 2) l).W)) rfl rfl (y_ld_stc rfl rfl Tryz.underlying3 B75 rfl rfl rr) (wl_v (pt p59 1) rfl rfl (y_fieldR (n := 1) rfl s87 Tryz.underlying29 rfl (by kernel_rfl) (by decide) rfl rr) (wl_v (iv ((mkF (w % 2) (h % 2) l).H)) rfl rfl (y_ld_stc rfl rfl Tryz.underlying3 B75 rfl rfl rr) (wl_v (.agg #[iv ((mkF (w % 2) (h % 2) l).W), iv ((mkF (w % 2) (h % 2) l).H), iv 1, iv 1]) rfl rfl (y_buildL (l' := [(0, iv ((mkF (w % 2) (h % 2) l).W)), (1, iv ((mkF (w % 2) (h % 2) l).H)), (2, iv 1), (3, iv 1)]) (cells := #[iv ((mkF (w % 2) (h % 2) l).W), iv ((mkF (w % 2) (h % 2) l).H), iv 1, iv 1]) rfl (bpC rfl (bpC rfl (bpC rfl (bpC rfl bpN)))) (by kernel_rfl) rfl rr) (wl_alloc_stc (n := 4) (vs := [iv 0, iv 0, iv 0, iv 0]) rfl rfl rfl (by kernel_rfl) fun p88 w89 B91 g92 k90 => ?_))))))))
  have gr93 : Grew w0 noB (onB p88) := Grew.new K81 g92
  have ap94 : Apart (onB p88) T_b := Apart.new g92 B77.live
  have ap95 : Apart (onB p88) T39 := Apart.new g92 B78.live
  have ap96 : Apart (onB p88) T40 := Apart.new g92 B79.live
  have ap97 : Apart (onB p88) T41 := Apart.new g92 B80.live
  have ap98 : Apart (onB p88) (onB p59) := Apart.new g92 (onB_live B75.lt)
  have B99 := B77.all k90 Apart.none
  have B100 := B78.all k90 Apart.none
  have B101 := B79.all k90 Apart.none
  have B102 := B80.all k90 Apart.none
  have B103 := B75.all k90 id
  have K104 := K81.tr k90
  refine wl_store_stc (us := [iv ((mkF (w % 2) (h % 2) l).W), iv ((mkF (w % 2) (h % 2) l).H), iv 1, iv 1]) stcT_seq rfl rfl rfl rfl rfl B91 rfl (oneI rfl (oneI rfl (oneI rfl (oneI rfl oneN)))) fun w105 B106 k107 => ?_
  have B108 := B99.all k107 ap94.symm
  have B109 := B100.all k107 ap95.symm
  have B110 := B101.all k107 ap96.symm
  have B111 := B102.all k107 ap97.symm
  have B112 := B103.all k107 (ap98.symm p59 rfl)
  have K113 := K104.trans k107 (Grew.ok (S := fun _ => False) gr93 noB_le)
  refine wl_nil fun F114 hF115 => ?_
  obtain ⟨s116, s117, s118, s119⟩ := t4 hF115 3 s84 118 s85 9 s86 10 s87
  have s120 : F114 11 = pt p88 0 := (hF115 11).trans rfl
  clear hF115
  refine then_normal (wq_seq (wq_region (wl_v (pt p59 0) rfl rfl (y_fieldR (n := 1) rfl s119 Tryz.underlying29 rfl (by kernel_rfl) (by decide) rfl rr) (wl_v (iv ((mkF (w % 2) (h % 2) l).W)) rfl rfl (y_ld_stc rfl rfl Tryz.underlying3 B112 rfl rfl rr) (wl_v (pt p59 1) rfl rfl (y_fieldR (n := 1) rfl s119 Tryz.underlying29 rfl (by kernel_rfl) (by decide) rfl rr) (wl_v (iv ((mkF (w % 2) (h % 2) l).H)) rfl rfl (y_ld_stc rfl rfl Tryz.underlying3 B112 rfl rfl rr) (wl_v (iv ((A : Nat) : Int)) rfl rfl (y_mul rfl rfl rfl (i64_n hWH (by omega)) rr) (wl_v (iv (((A / 16) : Nat) : Int)) rfl rfl (y_quo rfl rfl rfl (by first | decide | omega) (i64_n (quo_nat A 16) (by omega)) rr) (wl_v (pt p59 0) rfl rfl (y_fieldR (n := 1) rfl s119 Tryz.underlying29 rfl (by kernel_rfl) (by decide) rfl rr) (wl_v (iv ((mkF (w % 2) (h % 2) l).W)) rfl rfl (y_ld_stc rfl rfl Tryz.underlying3 B112 rfl rfl rr) (wl_v (pt p59 1) rfl rfl (y_fieldR (n := 1) rfl s119 Tryz.underlying29 rfl (by kernel_rfl) (by decide) rfl rr) ?_)))))))))))
  refine wl_v (iv ((mkF (w % 2) (h % 2) l).H)) rfl rfl (y_ld_stc rfl rfl Tryz.underlying3 B112 rfl rfl rr) (wl_v (iv ((A : Nat) : Int)) rfl rfl (y_mul rfl rfl rfl (i64_n hWH (by omega)) rr) (wl_v (iv (((A / 64) : Nat) : Int)) rfl rfl (y_quo rfl rfl rfl (by first | decide | omega) (i64_n (quo_nat A 64) (by omega)) rr) (wl_v (iv (((2 * (A / 64)) : Nat) : Int)) rfl rfl (y_mul rfl rfl rfl (i64_n (by omega) (by omega)) rr) (wl_v (iv ((N : Nat) : Int)) rfl rfl (y_add rfl rfl rfl (i64_n (by omega) (by omega)) rr) (wl_v (iv ((N : Nat) : Int)) rfl rfl (y_asg rfl rfl rr) (wl_nil fun F121 hF122 => ?_))))))
  obtain ⟨s123, s124, s125, s126, s127⟩ := t5 hF122 3 s116 118 s117 9 s118 10 s119 11 s120
  have s128 : F121 12 = iv ((N : Nat) : Int) := (hF122 12).trans rfl
  clear hF122
  refine then_normal (wq_seq (wq_region (wl_v (.string (strOf ([]))) rfl rfl (y_asg rfl rfl rr) (wl_nil fun F129 hF130 => ?_))))
  obtain ⟨s131, s132, s133, s134, s135, s136⟩ := t6 hF130 3 s123 118 s124 9 s125 10 s126 11 s127 12 s128
  have s137 : F129 13 = .string (strOf ([])) := (hF130 13).trans rfl
  clear hF130
  refine then_normal (wq_seq (wq_region (wl_v (.string (strOf ([]))) rfl rfl (y_asg rfl rfl rr) (wl_nil fun F138 hF139 => ?_))))
  obtain ⟨s140, s141, s142, s143, s144, s145, s146⟩ := t7 hF139 3 s131 118 s132 9 s133 10 s134 11 s135 12 s136 13 s137
  have s147 : F138 14 = .string (strOf ([])) := (hF139 14).trans rfl
  clear hF139
  refine then_normal (wq_seq (wq_seq (wq_region (wl_v (iv 0) rfl rfl (y_asg rfl rfl rr) (wl_nil fun F148 hF149 => ?_)))))
  obtain ⟨s150, s151, s152, s153, s154, s155, s156, s157⟩ := t8 hF149 3 s140 118 s141 9 s142 10 s143 11 s144 12 s145 13 s146 14 s147
  have s158 : F148 15 = iv 0 := (hF149 15).trans rfl
  clear hF149
  refine then_normal (wq_block (wq_loop (fun nn FF ww => ∃ (i : Nat), (i ≤ N) ∧ nn = N - i ∧ FF 3 = .int .u8 ((q : Nat) : Int) ∧ FF 9 = .bool true ∧ FF 10 = pt p59 0 ∧ FF 11 = pt p88 0 ∧ FF 12 = iv ((N : Nat) : Int) ∧ FF 118 = undef ∧ FF 13 = .string (strOf (repB b4S i)) ∧ FF 14 = .string (strOf (repB b6S i)) ∧ FF 15 = iv ((i : Nat) : Int) ∧ Kept (fun _ => False) w0 ww ∧ Byt ww T_b v l ∧ Owb ww T39 v34 ((mkF (w % 2) (h % 2) l).p0) ∧ Owb ww T40 v35 ((mkF (w % 2) (h % 2) l).p1) ∧ Owb ww T41 v36 ((mkF (w % 2) (h % 2) l).p2) ∧ Stc ww p59 29 [iv ((mkF (w % 2) (h % 2) l).W), iv ((mkF (w % 2) (h % 2) l).H), v34, v35, v36] ∧ Stc ww p88 23 [iv ((mkF (w % 2) (h % 2) l).W), iv ((mkF (w % 2) (h % 2) l).H), iv 1, iv 1]) (N - 0) ⟨0, by omega, rfl, s150, s152, s153, s154, s155, s151, s156, s157, s158, K113, B108, B109, B110, B111, B112, B106⟩ ?_))
  rintro n162 F159 w160 ⟨i, i163, hn162, s164, s165, s166, s167, s168, s169, s170, s171, s172, K161, B173, B174, B175, B176, B177, B178⟩
  refine wq_seq (wq_seq (wq_region (wl_mv rfl rfl rfl s172 (wl_mv rfl rfl rfl s168 (wl_v (.bool (decide (((i : Nat) : Int) < ((N : Nat) : Int)))) rfl rfl (y_lss rfl rfl rfl rfl rr) (wl_nil fun F179 hF180 => ?_))))))
  obtain ⟨s181, s182, s183, s184, s185, s186, s187, s188, s189⟩ := t9 hF180 3 s164 9 s165 10 s166 11 s167 12 s168 118 s169 13 s170 14 s171 15 s172
  have s190 : F179 53 = .bool (decide (((i : Nat) : Int) < ((N : Nat) : Int))) := (hF180 53).trans rfl
  clear hF180
  refine then_normal ?_
  refine wq_cond s190 (fun c191 => ?_) (fun c191 => ?_)
  ·replace c191 := of_decide_eq_true c191
   refine wq_skip (then_normal (wq_seq (wq_block (wq_seq (wq_region (wl_mv rfl rfl rfl s187 (wl_cs rfl rfl rfl rfl rfl (fun _ _ => by kernel_rfl) (vsC rfl vsN) (t_refwhole 4  _   ) fun w192 k193 => ?_)))))))
   have B194 := B173.all k193 Apart.none
   have B195 := B174.all k193 Apart.none
   have B196 := B175.all k193 Apart.none
   have B197 := B176.all k193 Apart.none
   have B198 := B177.all k193 id
   have B199 := B178.all k193 id
   have K200 := K161.tr k193
   refine wl_v (.string (strOf ((repB b4S i) ++ (wholeBits 4)))) rfl rfl (y_catR rfl rfl rfl (by simp [strOf_size]; omega) (strOf_append _ _) rr) (wl_v (.string (strOf ((repB b4S i ++ wholeBits 4) ++ [true, true, true]))) rfl rfl (y_catR rfl rfl rfl (by simp only [strOf_size]; omega) (cat3 _) rr) (wl_v (.string (strOf ((repB b4S i ++ wholeBits 4) ++ [true, true, true]))) rfl rfl (y_asg rfl rfl rr) (wl_nil fun F201 hF202 => ?_)))
   obtain ⟨s203, s204, s205, s206, s207, s208, s209, s210⟩ := t8 hF202 3 s181 9 s182 10 s183 11 s184 12 s185 118 s186 14 s188 15 s189
   have s211 : F201 13 = .string (strOf ((repB b4S i ++ wholeBits 4) ++ [true, true, true])) := (hF202 13).trans rfl
   clear hF202
   refine then_normal (wq_region (wl_mv rfl rfl rfl s209 (wl_cs rfl rfl rfl rfl rfl (fun _ _ => by kernel_rfl) (vsC rfl vsN) (t_refwhole 6  _   ) fun w212 k213 => ?_)))
   have B214 := B194.all k213 Apart.none
   have B215 := B195.all k213 Apart.none
   have B216 := B196.all k213 Apart.none
   have B217 := B197.all k213 Apart.none
   have B218 := B198.all k213 id
   have B219 := B199.all k213 id
   have K220 := K200.tr k213
   refine wl_v (.string (strOf ((repB b6S i) ++ (wholeBits 6)))) rfl rfl (y_catR rfl rfl rfl (by simp [strOf_size]; omega) (strOf_append _ _) rr) (wl_v (.string (strOf ((repB b6S i ++ wholeBits 6) ++ [true, true, true, true, true]))) rfl rfl (y_catR rfl rfl rfl (by simp only [strOf_size]; omega) (cat5 _) rr) (wl_v (.string (strOf ((repB b6S i ++ wholeBits 6) ++ [true, true, true, true, true]))) rfl rfl (y_asg rfl rfl rr) (wl_nil fun F221 hF222 => ?_)))
   obtain ⟨s223, s224, s225, s226, s227, s228, s229, s230⟩ := t8 hF222 3 s203 9 s204 10 s205 11 s206 12 s207 118 s208 15 s210 13 s211
   have s231 : F221 14 = .string (strOf ((repB b6S i ++ wholeBits 6) ++ [true, true, true, true, true])) := (hF222 14).trans rfl
   clear hF222
   refine in_normal (then_normal (wq_region (wl_mv rfl rfl rfl s229 (wl_v (iv ((i + 1 : Nat) : Int)) rfl rfl (y_add rfl rfl rfl (i64_n (by omega) (by omega)) rr) (wl_v (iv ((i + 1 : Nat) : Int)) rfl rfl (y_asg rfl rfl rr) (wl_nil fun F232 hF233 => ?_))))))
   obtain ⟨s234, s235, s236, s237, s238, s239, s240, s241⟩ := t8 hF233 3 s223 9 s224 10 s225 11 s226 12 s227 118 s228 13 s230 14 s231
   have s242 : F232 15 = iv ((i + 1 : Nat) : Int) := (hF233 15).trans rfl
   clear hF233
   exact then_normal ⟨(N - (i + 1)), by omega, i + 1, by omega, rfl, s234, s235, s236, s237, s238, s239, (s240.trans (congrArg (fun z => Value.string (strOf z)) (rep_next _ _ i))), (s241.trans (congrArg (fun z => Value.string (strOf z)) (rep_next _ _ i))), s242, K220, B214, B215, B216, B217, B218, B219⟩
  ·replace c191 := of_decide_eq_false c191
   refine wq_exit (then_exit (then_exit ?_))
   have l243 : N = i := by omega
   subst l243
   refine in_here (then_normal (wq_seq ?_))
   refine wq_cas2 (γ1 := Value × (Nat → Prop)) (γ2 := Value × (Nat → Prop) × Value × (Nat → Prop) × Value × (Nat → Prop)) [(14, 13), (15, 13), (16, 13), (18, 13), (19, 13), (18, 17), (19, 17), (13, 10), (14, 10), (15, 10), (16, 10), (18, 10), (19, 10)] [some 65, some 66, some 67, some 68, some 69, some 70, some 71, some 72, some 73, some 74, some 75, some 76, some 77, some 78, some 64, some 79, some 80, some 16, none, some 17] ⟨fun w_ => True, fun _ => False, fun g_ w_ => (Owb w_ (g_.2.1) (g_.1) ((decF (pack ((repB b4S N) ++ (endBits ((repB b4S N).length)))) ((mkF (w % 2) (h % 2) l).W) ((mkF (w % 2) (h % 2) l).H) 1 1 1 (((q % 21) : Nat) : Int) 0 0 (mkF (w % 2) (h % 2) l) (FD.mk 0 0 ([]) ([]) ([]))).p0) ∧ Grew w160 noB (g_.2.1)) ∧ (Owb w_ (g_.2.2.2.1) (g_.2.2.1) ((decF (pack ((repB b4S N) ++ (endBits ((repB b4S N).length)))) ((mkF (w % 2) (h % 2) l).W) ((mkF (w % 2) (h % 2) l).H) 1 1 1 (((q % 21) : Nat) : Int) 0 0 (mkF (w % 2) (h % 2) l) (FD.mk 0 0 ([]) ([]) ([]))).p1) ∧ Grew w160 noB (g_.2.2.2.1)) ∧ (Owb w_ (g_.2.2.2.2.2) (g_.2.2.2.2.1) ((decF (pack ((repB b4S N) ++ (endBits ((repB b4S N).length)))) ((mkF (w % 2) (h % 2) l).W) ((mkF (w % 2) (h % 2) l).H) 1 1 1 (((q % 21) : Nat) : Int) 0 0 (mkF (w % 2) (h % 2) l) (FD.mk 0 0 ([]) ([]) ([]))).p2) ∧ Grew w160 noB (g_.2.2.2.2.2)) ∧ Apart (g_.2.1) (g_.2.2.2.1) ∧ Apart (g_.2.1) (g_.2.2.2.2.2) ∧ Apart (g_.2.2.2.1) (g_.2.2.2.2.2), fun g_ => fun i => (g_.2.1) i ∨ ((g_.2.2.2.1) i ∨ ((g_.2.2.2.2.2) i)), fun p_ w_ => Stc w_ p_ 29 [iv 0, iv 0, .slice none 0 0, .slice none 0 0, .slice none 0 0], fun g_ p_ w_ => Stc w_ p_ 29 [iv ((decF (pack ((repB b4S N) ++ (endBits ((repB b4S N).length)))) ((mkF (w % 2) (h % 2) l).W) ((mkF (w % 2) (h % 2) l).H) 1 1 1 (((q % 21) : Nat) : Int) 0 0 (mkF (w % 2) (h % 2) l) (FD.mk 0 0 ([]) ([]) ([]))).W), iv ((decF (pack ((repB b4S N) ++ (endBits ((repB b4S N).length)))) ((mkF (w % 2) (h % 2) l).W) ((mkF (w % 2) (h % 2) l).H) 1 1 1 (((q % 21) : Nat) : Int) 0 0 (mkF (w % 2) (h % 2) l) (FD.mk 0 0 ([]) ([]) ([]))).H), g_.1, g_.2.2.1, g_.2.2.2.2.1]⟩ (fun g_ w_ => Byt w_ (g_.2) (g_.1) (pack ((repB b4S N) ++ (endBits ((repB b4S N).length))))) (fun g_ => g_.2) (fun _ => False) (fun p_ => w160.heap.size ≤ p_) [fun g_ => .agg #[iv ((mkF (w % 2) (h % 2) l).W), iv ((mkF (w % 2) (h % 2) l).H), iv 1, iv 1], fun g_ => .int .u8 ((q : Nat) : Int), fun g_ => iv ((q : Nat) : Int), fun g_ => iv (((q % 21) : Nat) : Int), fun g_ => .agg #[iv 1, iv (((q % 21) : Nat) : Int), iv 0, iv 0], fun g_ => .string (strOf (repB b4S N)), fun g_ => .string (strOf (repB b4S N)), fun g_ => iv (((repB b4S N).length : Nat) : Int), fun g_ => .string (strOf (endBits ((repB b4S N).length))), fun g_ => .string (strOf ((repB b4S N) ++ (endBits ((repB b4S N).length)))), fun g_ => g_.1.1, fun g_ => .agg #[iv ((mkF (w % 2) (h % 2) l).W), iv ((mkF (w % 2) (h % 2) l).H), v34, v35, v36], fun g_ => .agg #[iv 0, iv 0, .slice none 0 0, .slice none 0 0, .slice none 0 0], fun g_ => .tuple #[.agg #[iv ((decF (pack ((repB b4S N) ++ (endBits ((repB b4S N).length)))) ((mkF (w % 2) (h % 2) l).W) ((mkF (w % 2) (h % 2) l).H) 1 1 1 (((q % 21) : Nat) : Int) 0 0 (mkF (w % 2) (h % 2) l) (FD.mk 0 0 ([]) ([]) ([]))).W), iv ((decF (pack ((repB b4S N) ++ (endBits ((repB b4S N).length)))) ((mkF (w % 2) (h % 2) l).W) ((mkF (w % 2) (h % 2) l).H) 1 1 1 (((q % 21) : Nat) : Int) 0 0 (mkF (w % 2) (h % 2) l) (FD.mk 0 0 ([]) ([]) ([]))).H), g_.2.1, g_.2.2.2.1, g_.2.2.2.2.2.1], iv (decE (pack ((repB b4S N) ++ (endBits ((repB b4S N).length)))) ((mkF (w % 2) (h % 2) l).W) ((mkF (w % 2) (h % 2) l).H) 1 1 1 (((q % 21) : Nat) : Int) 0 0 (mkF (w % 2) (h % 2) l) (FD.mk 0 0 ([]) ([]) ([])))], fun g_ => .tuple #[.agg #[iv ((decF (pack ((repB b4S N) ++ (endBits ((repB b4S N).length)))) ((mkF (w % 2) (h % 2) l).W) ((mkF (w % 2) (h % 2) l).H) 1 1 1 (((q % 21) : Nat) : Int) 0 0 (mkF (w % 2) (h % 2) l) (FD.mk 0 0 ([]) ([]) ([]))).W), iv ((decF (pack ((repB b4S N) ++ (endBits ((repB b4S N).length)))) ((mkF (w % 2) (h % 2) l).W) ((mkF (w % 2) (h % 2) l).H) 1 1 1 (((q % 21) : Nat) : Int) 0 0 (mkF (w % 2) (h % 2) l) (FD.mk 0 0 ([]) ([]) ([]))).H), g_.2.1, g_.2.2.2.1, g_.2.2.2.2.2.1], iv (decE (pack ((repB b4S N) ++ (endBits ((repB b4S N).length)))) ((mkF (w % 2) (h % 2) l).W) ((mkF (w % 2) (h % 2) l).H) 1 1 1 (((q % 21) : Nat) : Int) 0 0 (mkF (w % 2) (h % 2) l) (FD.mk 0 0 ([]) ([]) ([])))], fun g_ => .agg #[iv ((decF (pack ((repB b4S N) ++ (endBits ((repB b4S N).length)))) ((mkF (w % 2) (h % 2) l).W) ((mkF (w % 2) (h % 2) l).H) 1 1 1 (((q % 21) : Nat) : Int) 0 0 (mkF (w % 2) (h % 2) l) (FD.mk 0 0 ([]) ([]) ([]))).W), iv ((decF (pack ((repB b4S N) ++ (endBits ((repB b4S N).length)))) ((mkF (w % 2) (h % 2) l).W) ((mkF (w % 2) (h % 2) l).H) 1 1 1 (((q % 21) : Nat) : Int) 0 0 (mkF (w % 2) (h % 2) l) (FD.mk 0 0 ([]) ([]) ([]))).H), g_.2.1, g_.2.2.2.1, g_.2.2.2.2.2.1], fun g_ => iv (decE (pack ((repB b4S N) ++ (endBits ((repB b4S N).length)))) ((mkF (w % 2) (h % 2) l).W) ((mkF (w % 2) (h % 2) l).H) 1 1 1 (((q % 21) : Nat) : Int) 0 0 (mkF (w % 2) (h % 2) l) (FD.mk 0 0 ([]) ([]) ([]))), fun _ => undef, fun _ => undef, fun g_ => iv (decE (pack ((repB b4S N) ++ (endBits ((repB b4S N).length)))) ((mkF (w % 2) (h % 2) l).W) ((mkF (w % 2) (h % 2) l).H) 1 1 1 (((q % 21) : Nat) : Int) 0 0 (mkF (w % 2) (h % 2) l) (FD.mk 0 0 ([]) ([]) ([])))] 10 13 18 (some 17) (undef, noB) (undef, noB, undef, noB, undef, noB) 0 (by kernel_rfl) (by kernel_rfl) (by kernel_rfl) (by kernel_rfl) ⟨.inr (.inr fun _ _ _ => rfl), ⟨.inr (.inr fun _ _ _ => rfl), ⟨.inr (.inr fun _ _ _ => rfl), ⟨.inr (.inr fun _ _ _ => rfl), ⟨.inr (.inr fun _ _ _ => rfl), ⟨.inr (.inr fun _ _ _ => rfl), ⟨.inr (.inr fun _ _ _ => rfl), ⟨.inr (.inr fun _ _ _ => rfl), ⟨.inr (.inr fun _ _ _ => rfl), ⟨.inr (.inr fun _ _ _ => rfl), ⟨.inr (.inl rfl), ⟨.inr (.inr fun _ _ _ => rfl), ⟨.inr (.inr fun _ _ _ => rfl), ⟨.inl rfl, ⟨.inl rfl, ⟨.inl rfl, ⟨.inl rfl, ⟨.inr (.inr fun _ _ _ => rfl), ⟨.inl rfl, ⟨.inl rfl, trivial⟩⟩⟩⟩⟩⟩⟩⟩⟩⟩⟩⟩⟩⟩⟩⟩⟩⟩⟩⟩ ⟨.inr (.inr fun _ _ _ => rfl), ⟨.inr (.inr fun _ _ _ => rfl), ⟨.inr (.inr fun _ _ _ => rfl), ⟨.inr (.inr fun _ _ _ => rfl), ⟨.inr (.inr fun _ _ _ => rfl), ⟨.inr (.inr fun _ _ _ => rfl), ⟨.inr (.inr fun _ _ _ => rfl), ⟨.inr (.inr fun _ _ _ => rfl), ⟨.inr (.inr fun _ _ _ => rfl), ⟨.inr (.inr fun _ _ _ => rfl), ⟨.inr (.inr fun _ _ _ => rfl), ⟨.inr (.inr fun _ _ _ => rfl), ⟨.inr (.inr fun _ _ _ => rfl), ⟨.inr (.inl rfl), ⟨.inl rfl, ⟨.inl rfl, ⟨.inl rfl, ⟨.inr (.inr fun _ _ _ => rfl), ⟨.inl rfl, ⟨.inl rfl, trivial⟩⟩⟩⟩⟩⟩⟩⟩⟩⟩⟩⟩⟩⟩⟩⟩⟩⟩⟩⟩ ⟨fun _ _ _ _ h k a => h.all k a, fun _ _ h => h.live⟩ ⟨trivial, fun _ _ _ _ _ _ => trivial, fun _ _ _ z => z.elim, fun g w w1 S1 h k a => by obtain ⟨⟨b0_, g0_⟩, ⟨b1_, g1_⟩, ⟨b2_, g2_⟩, a0_1_, a0_2_, a1_2_⟩ := h; exact ⟨⟨b0_.all k (fun i z => a i (Or.inl z)), g0_⟩, ⟨b1_.all k (fun i z => a i (Or.inr (Or.inl z))), g1_⟩, ⟨b2_.all k (fun i z => a i (Or.inr (Or.inr z))), g2_⟩, a0_1_, a0_2_, a1_2_⟩, fun g w h i z => by obtain ⟨⟨b0_, g0_⟩, ⟨b1_, g1_⟩, ⟨b2_, g2_⟩, a0_1_, a0_2_, a1_2_⟩ := h; rcases z with z | z | z <;> first | exact b0_.live i z | exact b1_.live i z | exact b2_.live i z, fun _ _ _ _ h k z => h.all k z, fun _ _ h => h.lt, fun _ _ _ _ _ h k z => h.all k z, fun _ z => z, fun _ h => .inr h, fun _ _ z => z⟩ (fun _ _ _ h => h) (fun e => by cases e) ?_ ?_
   ·refine stepsFY_cons ?_ ?_
    ·refine StepFY.one rfl rfl rfl rfl rfl fun g_ p_ F_ w_ hR hout hD => ?_
     exact (y_load_stc stcT_seq rfl ((hout 11 rfl (by decide)).trans s184) (B178.all hR id) ⟨rfl, Kept.refl _ _⟩)
    refine stepsFY_cons ?_ ?_
    ·refine StepFY.one rfl rfl rfl rfl rfl fun g_ p_ F_ w_ hR hout hD => ?_
     exact (y_mov rfl ((hout 3 rfl (by decide)).trans s181) ⟨rfl, Kept.refl _ _⟩)
    refine stepsFY_cons ?_ ?_
    ·refine StepFY.one rfl rfl rfl rfl rfl fun g_ p_ F_ w_ hR hout hD => ?_
     have g66 : F_ 66 = .int .u8 ((q : Nat) : Int) := (hD.get 0 rfl rfl rfl).2 (by decide)
     exact (y_convR rfl g66 Tryz.underlying5 Tryz.underlying3 (i64_i rfl (by omega)) ⟨rfl, Kept.refl _ _⟩)
    refine stepsFY_cons ?_ ?_
    ·refine StepFY.one rfl rfl rfl rfl rfl fun g_ p_ F_ w_ hR hout hD => ?_
     have g67 : F_ 67 = iv ((q : Nat) : Int) := (hD.get 0 rfl rfl rfl).2 (by decide)
     exact (y_rem rfl g67 rfl (by first | decide | omega) (rem_nat q 21) ⟨rfl, Kept.refl _ _⟩)
    refine stepsFY_cons ?_ ?_
    ·refine StepFY.one rfl rfl rfl rfl rfl fun g_ p_ F_ w_ hR hout hD => ?_
     have g68 : F_ 68 = iv (((q % 21) : Nat) : Int) := (hD.get 0 rfl rfl rfl).2 (by decide)
     exact (y_buildL (l' := [(0, iv 1), (1, iv (((q % 21) : Nat) : Int))]) (cells := #[iv 1, iv (((q % 21) : Nat) : Int), iv 0, iv 0]) rfl (bpC rfl (bpC g68 bpN)) (by kernel_rfl) rfl ⟨rfl, Kept.refl _ _⟩)
    refine stepsFY_cons ?_ ?_
    ·refine StepFY.one rfl rfl rfl rfl rfl fun g_ p_ F_ w_ hR hout hD => ?_
     exact (y_mov rfl ((hout 13 rfl (by decide)).trans s187) ⟨rfl, Kept.refl _ _⟩)
    refine stepsFY_cons ?_ ?_
    ·refine StepFY.one rfl rfl rfl rfl rfl fun g_ p_ F_ w_ hR hout hD => ?_
     exact (y_mov rfl ((hout 13 rfl (by decide)).trans s187) ⟨rfl, Kept.refl _ _⟩)
    refine stepsFY_cons ?_ ?_
    ·refine StepFY.one rfl rfl rfl rfl rfl fun g_ p_ F_ w_ hR hout hD => ?_
     have g71 : F_ 71 = .string (strOf (repB b4S N)) := (hD.get 0 rfl rfl rfl).2 (by decide)
     exact (y_lenT rfl rfl g71 ⟨rfl, Kept.refl _ _⟩)
    refine stepsFY_cons ?_ ?_
    ·refine StepFY.one rfl rfl rfl rfl rfl fun g_ p_ F_ w_ hR hout hD => ?_
     have g72 : F_ 72 = iv (((repB b4S N).length : Nat) : Int) := (hD.get 0 rfl rfl rfl).2 (by decide)
     exact (y_cs rfl rfl rfl (fun _ _ => by kernel_rfl) (ev_func _) (vsC g72 vsN) (t_refend ((repB b4S N).length)  _ (by omega)  ) (fun e_ w_ h_ => ⟨_, h_.1, rfl, h_.2⟩))
    refine stepsFY_cons ?_ ?_
    ·refine StepFY.one rfl rfl rfl rfl rfl fun g_ p_ F_ w_ hR hout hD => ?_
     have g70 : F_ 70 = .string (strOf (repB b4S N)) := (hD.get 0 rfl rfl rfl).2 (by decide)
     have g73 : F_ 73 = .string (strOf (endBits ((repB b4S N).length))) := (hD.get 1 rfl rfl rfl).2 (by decide)
     exact (y_catR rfl g70 g73 (by simp [strOf_size]; omega) (strOf_append _ _) ⟨rfl, Kept.refl _ _⟩)
    refine stepsFY_cons ?_ ?_
    ·refine StepFY.ahead rfl rfl rfl rfl rfl fun g_ p_ F_ w_ hR hout hD => ?_
     have g74 : F_ 74 = .string (strOf ((repB b4S N) ++ (endBits ((repB b4S N).length)))) := (hD.get 0 rfl rfl rfl).2 (by decide)
     exact (y_cs rfl rfl rfl (fun _ _ => by kernel_rfl) (ev_func _) (vsC g74 vsN) (t_refbytes ((repB b4S N) ++ (endBits ((repB b4S N).length)))  _ (by rw [List.length_append, endBits_length]; omega)  ) (fun e_ w_ h_ => by obtain ⟨x0_, x1_, he_, hk_, ⟨b0_, g0_⟩⟩ := h_; exact ⟨_, he_, ⟨x0_, x1_⟩, rfl, hk_, b0_, g0_⟩))
    refine stepsFY_cons ?_ ?_
    ·refine StepFY.one rfl rfl rfl rfl rfl fun g_ p_ F_ w_ hR hout hD => ?_
     exact (y_load_stc stcT_frame rfl ((hout 10 rfl (by decide)).trans s183) (B177.all hR id) ⟨rfl, Kept.refl _ _⟩)
    refine stepsFY_cons ?_ ?_
    ·refine StepFY.one rfl rfl rfl rfl rfl fun g_ p_ F_ w_ hR hout hD => ?_
     exact (y_buildL (l' := []) (cells := #[iv 0, iv 0, .slice none 0 0, .slice none 0 0, .slice none 0 0]) rfl bpN (by kernel_rfl) rfl ⟨rfl, Kept.refl _ _⟩)
    refine stepsFY_cons ?_ ?_
    ·refine StepFY.call rfl rfl rfl rfl rfl fun g_ p_ F_ w_ hR hout hD hP_ hR1_ => ?_
     have g65 : F_ 65 = .agg #[iv ((mkF (w % 2) (h % 2) l).W), iv ((mkF (w % 2) (h % 2) l).H), iv 1, iv 1] := (hD.get 0 rfl rfl rfl).2 (by decide)
     have g69 : F_ 69 = .agg #[iv 1, iv (((q % 21) : Nat) : Int), iv 0, iv 0] := (hD.get 1 rfl rfl rfl).2 (by decide)
     have g75 : F_ 75 = g_.1.1 := (hD.get 2 rfl rfl rfl).2 (by decide)
     have g76 : F_ 76 = .agg #[iv ((mkF (w % 2) (h % 2) l).W), iv ((mkF (w % 2) (h % 2) l).H), v34, v35, v36] := (hD.get 3 rfl rfl rfl).2 (by decide)
     have g77 : F_ 77 = .agg #[iv 0, iv 0, .slice none 0 0, .slice none 0 0, .slice none 0 0] := (hD.get 4 rfl rfl rfl).2 (by decide)
     exact (y_cs rfl rfl rfl (fun _ _ => by kernel_rfl) (ev_func _) (vsC g65 (vsC g69 (vsC g75 (vsC g76 (vsC g77 vsN))))) (pc_decode ((mkF (w % 2) (h % 2) l).W) ((mkF (w % 2) (h % 2) l).H) 1 1 1 (((q % 21) : Nat) : Int) 0 0 (g_.1.1) (pack ((repB b4S N) ++ (endBits ((repB b4S N).length)))) (mkF (w % 2) (h % 2) l) v34 v35 v36 (FD.mk 0 0 ([]) ([]) ([])) (.slice none 0 0) (.slice none 0 0) (.slice none 0 0) (g_.1.2) T39 T40 T41 noB noB noB _ (hA.all (K161.trans hR (fun _ _ x => x.elim))) (hO.all (K161.trans hR (fun _ _ x => x.elim))) (hs.all (K161.trans hR (fun _ _ x => x.elim))) (hwv.all (K161.trans hR (fun _ _ x => x.elim))) (by rw [pack_length]; unfold nbytes; rw [List.length_append, endBits_length]; omega) hR1_ (B174.all hR Apart.none).byt (B175.all hR Apart.none).byt (B176.all hR Apart.none).byt (Byt.nil _) (Byt.nil _) (Byt.nil _) ) (fun e_ w_ h_ => by obtain ⟨x0_, x1_, x2_, x3_, x4_, x5_, he_, hk_, ⟨b0_, g0_⟩, ⟨b1_, g1_⟩, ⟨b2_, g2_⟩, a0_1_, a0_2_, a1_2_⟩ := h_; exact ⟨_, he_, ⟨x0_, x1_, x2_, x3_, x4_, x5_⟩, rfl, hk_, ⟨⟨b0_, (Grew.refl w160 _).trans hR g0_⟩, ⟨b1_, (Grew.refl w160 _).trans hR g1_⟩, ⟨b2_, (Grew.refl w160 _).trans hR g2_⟩, a0_1_, a0_2_, a1_2_⟩, fun b hb => by rcases hb with hb | hb | hb <;> first | exact (g0_ b hb).elim (fun z => z.elim) .inr | exact (g1_ b hb).elim (fun z => z.elim) .inr | exact (g2_ b hb).elim (fun z => z.elim) .inr⟩))
    refine stepsFY_cons ?_ ?_
    ·refine StepFY.one rfl rfl rfl rfl rfl fun g_ p_ F_ w_ hR hout hD => ?_
     have g78 : F_ 78 = .tuple #[.agg #[iv ((decF (pack ((repB b4S N) ++ (endBits ((repB b4S N).length)))) ((mkF (w % 2) (h % 2) l).W) ((mkF (w % 2) (h % 2) l).H) 1 1 1 (((q % 21) : Nat) : Int) 0 0 (mkF (w % 2) (h % 2) l) (FD.mk 0 0 ([]) ([]) ([]))).W), iv ((decF (pack ((repB b4S N) ++ (endBits ((repB b4S N).length)))) ((mkF (w % 2) (h % 2) l).W) ((mkF (w % 2) (h % 2) l).H) 1 1 1 (((q % 21) : Nat) : Int) 0 0 (mkF (w % 2) (h % 2) l) (FD.mk 0 0 ([]) ([]) ([]))).H), g_.2.1, g_.2.2.2.1, g_.2.2.2.2.2.1], iv (decE (pack ((repB b4S N) ++ (endBits ((repB b4S N).length)))) ((mkF (w % 2) (h % 2) l).W) ((mkF (w % 2) (h % 2) l).H) 1 1 1 (((q % 21) : Nat) : Int) 0 0 (mkF (w % 2) (h % 2) l) (FD.mk 0 0 ([]) ([]) ([])))] := (hD.get 0 rfl rfl rfl).2 (by decide)
     exact (y_mov rfl g78 ⟨rfl, Kept.refl _ _⟩)
    refine stepsFY_cons ?_ ?_
    ·refine StepFY.one rfl rfl rfl rfl rfl fun g_ p_ F_ w_ hR hout hD => ?_
     have g64 : F_ 64 = .tuple #[.agg #[iv ((decF (pack ((repB b4S N) ++ (endBits ((repB b4S N).length)))) ((mkF (w % 2) (h % 2) l).W) ((mkF (w % 2) (h % 2) l).H) 1 1 1 (((q % 21) : Nat) : Int) 0 0 (mkF (w % 2) (h % 2) l) (FD.mk 0 0 ([]) ([]) ([]))).W), iv ((decF (pack ((repB b4S N) ++ (endBits ((repB b4S N).length)))) ((mkF (w % 2) (h % 2) l).W) ((mkF (w % 2) (h % 2) l).H) 1 1 1 (((q % 21) : Nat) : Int) 0 0 (mkF (w % 2) (h % 2) l) (FD.mk 0 0 ([]) ([]) ([]))).H), g_.2.1, g_.2.2.2.1, g_.2.2.2.2.2.1], iv (decE (pack ((repB b4S N) ++ (endBits ((repB b4S N).length)))) ((mkF (w % 2) (h % 2) l).W) ((mkF (w % 2) (h % 2) l).H) 1 1 1 (((q % 21) : Nat) : Int) 0 0 (mkF (w % 2) (h % 2) l) (FD.mk 0 0 ([]) ([]) ([])))] := (hD.get 0 rfl rfl rfl).2 (by decide)
     exact (y_ext rfl g64 rfl ⟨rfl, Kept.refl _ _⟩)
    refine stepsFY_cons ?_ ?_
    ·refine StepFY.one rfl rfl rfl rfl rfl fun g_ p_ F_ w_ hR hout hD => ?_
     have g64 : F_ 64 = .tuple #[.agg #[iv ((decF (pack ((repB b4S N) ++ (endBits ((repB b4S N).length)))) ((mkF (w % 2) (h % 2) l).W) ((mkF (w % 2) (h % 2) l).H) 1 1 1 (((q % 21) : Nat) : Int) 0 0 (mkF (w % 2) (h % 2) l) (FD.mk 0 0 ([]) ([]) ([]))).W), iv ((decF (pack ((repB b4S N) ++ (endBits ((repB b4S N).length)))) ((mkF (w % 2) (h % 2) l).W) ((mkF (w % 2) (h % 2) l).H) 1 1 1 (((q % 21) : Nat) : Int) 0 0 (mkF (w % 2) (h % 2) l) (FD.mk 0 0 ([]) ([]) ([]))).H), g_.2.1, g_.2.2.2.1, g_.2.2.2.2.2.1], iv (decE (pack ((repB b4S N) ++ (endBits ((repB b4S N).length)))) ((mkF (w % 2) (h % 2) l).W) ((mkF (w % 2) (h % 2) l).H) 1 1 1 (((q % 21) : Nat) : Int) 0 0 (mkF (w % 2) (h % 2) l) (FD.mk 0 0 ([]) ([]) ([])))] := (hD.get 0 rfl rfl rfl).2 (by decide)
     exact (y_ext rfl g64 rfl ⟨rfl, Kept.refl _ _⟩)
    refine stepsFY_cons ?_ ?_
    ·refine StepFY.alloc rfl rfl rfl rfl rfl fun F_ w_ hR => ?_
     exact y_alloc_stc (n := 5) (vs := [iv 0, iv 0, .slice none 0 0, .slice none 0 0, .slice none 0 0]) rfl (by kernel_rfl) ⟨_, rfl, Nat.le_refl _, heap_alloc_new _ _, (Kept.refl _ _).alloc _⟩
    refine stepsFY_cons ?_ ?_
    ·refine StepFY.store rfl rfl rfl rfl rfl fun g_ p_ F_ w_ hR hout hD hO_ hZ_ hQ_ => ?_
     have g16 : F_ 16 = pt p_ 0 := (hD.get 0 rfl rfl rfl).1 rfl
     have g79 : F_ 79 = .agg #[iv ((decF (pack ((repB b4S N) ++ (endBits ((repB b4S N).length)))) ((mkF (w % 2) (h % 2) l).W) ((mkF (w % 2) (h % 2) l).H) 1 1 1 (((q % 21) : Nat) : Int) 0 0 (mkF (w % 2) (h % 2) l) (FD.mk 0 0 ([]) ([]) ([]))).W), iv ((decF (pack ((repB b4S N) ++ (endBits ((repB b4S N).length)))) ((mkF (w % 2) (h % 2) l).W) ((mkF (w % 2) (h % 2) l).H) 1 1 1 (((q % 21) : Nat) : Int) 0 0 (mkF (w % 2) (h % 2) l) (FD.mk 0 0 ([]) ([]) ([]))).H), g_.2.1, g_.2.2.2.1, g_.2.2.2.2.2.1] := (hD.get 1 rfl rfl rfl).2 (by decide)
     exact y_storeStc (us := [iv ((decF (pack ((repB b4S N) ++ (endBits ((repB b4S N).length)))) ((mkF (w % 2) (h % 2) l).W) ((mkF (w % 2) (h % 2) l).H) 1 1 1 (((q % 21) : Nat) : Int) 0 0 (mkF (w % 2) (h % 2) l) (FD.mk 0 0 ([]) ([]) ([]))).W), iv ((decF (pack ((repB b4S N) ++ (endBits ((repB b4S N).length)))) ((mkF (w % 2) (h % 2) l).W) ((mkF (w % 2) (h % 2) l).H) 1 1 1 (((q % 21) : Nat) : Int) 0 0 (mkF (w % 2) (h % 2) l) (FD.mk 0 0 ([]) ([]) ([]))).H), g_.2.1, g_.2.2.2.1, g_.2.2.2.2.2.1]) stcT_frame rfl g16 g79 hZ_ rfl (oneI rfl (oneI rfl (oneI (hQ_.1.1).one (oneI (hQ_.2.1.1).one (oneI (hQ_.2.2.1.1).one oneN))))) fun w2_ b_ k_ => ⟨rfl, k_, b_⟩
    refine stepsFY_cons ?_ ?_
    ·refine StepFY.one rfl rfl rfl rfl rfl fun g_ p_ F_ w_ hR hout hD => ?_
     have g80 : F_ 80 = iv (decE (pack ((repB b4S N) ++ (endBits ((repB b4S N).length)))) ((mkF (w % 2) (h % 2) l).W) ((mkF (w % 2) (h % 2) l).H) 1 1 1 (((q % 21) : Nat) : Int) 0 0 (mkF (w % 2) (h % 2) l) (FD.mk 0 0 ([]) ([]) ([]))) := (hD.get 0 rfl rfl rfl).2 (by decide)
     exact (y_asg rfl g80 ⟨rfl, Kept.refl _ _⟩)
    exact stepsFY_nil
   intro gg262 gg248 p249 v250 F251 w252 k253 hp254 hQ255 hG256 hY257 hN258 hA259 hV260 hF261
   obtain ⟨v263, T264, v265, T266, v267, T268⟩ := gg248
   have B270 := B174.all k253 Apart.none
   have B271 := B175.all k253 Apart.none
   have B272 := B176.all k253 Apart.none
   have B273 := B177.all k253 id
   have B274 := B178.all k253 id
   have K275 := K161.tr k253
   obtain ⟨⟨B276, g279⟩, ⟨B277, g280⟩, ⟨B278, g281⟩, ap282, ap283, ap284⟩ := hQ255
   replace B276 : Owb w252 T264 v263 ((decF (pack ((repB b4S N) ++ (endBits ((repB b4S N).length)))) ((mkF (w % 2) (h % 2) l).W) ((mkF (w % 2) (h % 2) l).H) 1 1 1 (((q % 21) : Nat) : Int) 0 0 (mkF (w % 2) (h % 2) l) (FD.mk 0 0 ([]) ([]) ([]))).p0) := B276
   replace B277 : Owb w252 T266 v265 ((decF (pack ((repB b4S N) ++ (endBits ((repB b4S N).length)))) ((mkF (w % 2) (h % 2) l).W) ((mkF (w % 2) (h % 2) l).H) 1 1 1 (((q % 21) : Nat) : Int) 0 0 (mkF (w % 2) (h % 2) l) (FD.mk 0 0 ([]) ([]) ([]))).p1) := B277
   replace B278 : Owb w252 T268 v267 ((decF (pack ((repB b4S N) ++ (endBits ((repB b4S N).length)))) ((mkF (w % 2) (h % 2) l).W) ((mkF (w % 2) (h % 2) l).H) 1 1 1 (((q % 21) : Nat) : Int) 0 0 (mkF (w % 2) (h % 2) l) (FD.mk 0 0 ([]) ([]) ([]))).p2) := B278
   replace g279 : Grew w160 noB T264 := g279
   replace g280 : Grew w160 noB T266 := g280
   replace g281 : Grew w160 noB T268 := g281
   replace ap282 : Apart T264 T266 := ap282
   replace ap283 : Apart T264 T268 := ap283
   replace ap284 : Apart T266 T268 := ap284
   replace hY257 : Stc w252 p249 29 [iv ((decF (pack ((repB b4S N) ++ (endBits ((repB b4S N).length)))) ((mkF (w % 2) (h % 2) l).W) ((mkF (w % 2) (h % 2) l).H) 1 1 1 (((q % 21) : Nat) : Int) 0 0 (mkF (w % 2) (h % 2) l) (FD.mk 0 0 ([]) ([]) ([]))).W), iv ((decF (pack ((repB b4S N) ++ (endBits ((repB b4S N).length)))) ((mkF (w % 2) (h % 2) l).W) ((mkF (w % 2) (h % 2) l).H) 1 1 1 (((q % 21) : Nat) : Int) 0 0 (mkF (w % 2) (h % 2) l) (FD.mk 0 0 ([]) ([]) ([]))).H), v263, v265, v267] := hY257
   obtain ⟨s316, s317, s318, s319, s320, s321⟩ := t6 hF261 3 s181 9 s182 10 s183 11 s184 118 s186 14 s188
   have s322 : F251 16 = pt p249 0 := (hF261 16).trans (hA259 17 rfl)
   have s323 : F251 17 = iv (decE (pack ((repB b4S N) ++ (endBits ((repB b4S N).length)))) ((mkF (w % 2) (h % 2) l).W) ((mkF (w % 2) (h % 2) l).H) 1 1 1 (((q % 21) : Nat) : Int) 0 0 (mkF (w % 2) (h % 2) l) (FD.mk 0 0 ([]) ([]) ([]))) := (hF261 17).trans (hV260 19 (by decide) (by decide))
   clear hF261 hV260 hA259 hN258 hG256
   refine then_normal (wq_seq ?_)
   refine wq_cas2 (γ1 := Value × (Nat → Prop)) (γ2 := Value × (Nat → Prop) × Value × (Nat → Prop) × Value × (Nat → Prop)) [(14, 13), (15, 13), (16, 13), (18, 13), (19, 13), (18, 17), (19, 17), (13, 10), (14, 10), (15, 10), (16, 10), (18, 10), (19, 10)] [some 82, some 83, some 84, some 85, some 86, some 87, some 88, some 89, some 90, some 91, some 92, some 93, some 94, some 95, some 81, some 96, some 97, some 18, none, some 19] ⟨fun w_ => True, fun _ => False, fun g_ w_ => (Owb w_ (g_.2.1) (g_.1) ((decF (pack ((repB b6S N) ++ (endBits ((repB b6S N).length)))) ((mkF (w % 2) (h % 2) l).W) ((mkF (w % 2) (h % 2) l).H) 1 1 2 (((q % 21) : Nat) : Int) 0 0 (mkF (w % 2) (h % 2) l) (mkF (w % 2) (h % 2) l)).p0) ∧ Grew w252 noB (g_.2.1)) ∧ (Owb w_ (g_.2.2.2.1) (g_.2.2.1) ((decF (pack ((repB b6S N) ++ (endBits ((repB b6S N).length)))) ((mkF (w % 2) (h % 2) l).W) ((mkF (w % 2) (h % 2) l).H) 1 1 2 (((q % 21) : Nat) : Int) 0 0 (mkF (w % 2) (h % 2) l) (mkF (w % 2) (h % 2) l)).p1) ∧ Grew w252 noB (g_.2.2.2.1)) ∧ (Owb w_ (g_.2.2.2.2.2) (g_.2.2.2.2.1) ((decF (pack ((repB b6S N) ++ (endBits ((repB b6S N).length)))) ((mkF (w % 2) (h % 2) l).W) ((mkF (w % 2) (h % 2) l).H) 1 1 2 (((q % 21) : Nat) : Int) 0 0 (mkF (w % 2) (h % 2) l) (mkF (w % 2) (h % 2) l)).p2) ∧ Grew w252 noB (g_.2.2.2.2.2)) ∧ Apart (g_.2.1) (g_.2.2.2.1) ∧ Apart (g_.2.1) (g_.2.2.2.2.2) ∧ Apart (g_.2.2.2.1) (g_.2.2.2.2.2), fun g_ => fun i => (g_.2.1) i ∨ ((g_.2.2.2.1) i ∨ ((g_.2.2.2.2.2) i)), fun p_ w_ => Stc w_ p_ 29 [iv 0, iv 0, .slice none 0 0, .slice none 0 0, .slice none 0 0], fun g_ p_ w_ => Stc w_ p_ 29 [iv ((decF (pack ((repB b6S N) ++ (endBits ((repB b6S N).length)))) ((mkF (w % 2) (h % 2) l).W) ((mkF (w % 2) (h % 2) l).H) 1 1 2 (((q % 21) : Nat) : Int) 0 0 (mkF (w % 2) (h % 2) l) (mkF (w % 2) (h % 2) l)).W), iv ((decF (pack ((repB b6S N) ++ (endBits ((repB b6S N).length)))) ((mkF (w % 2) (h % 2) l).W) ((mkF (w % 2) (h % 2) l).H) 1 1 2 (((q % 21) : Nat) : Int) 0 0 (mkF (w % 2) (h % 2) l) (mkF (w % 2) (h % 2) l)).H), g_.1, g_.2.2.1, g_.2.2.2.2.1]⟩ (fun g_ w_ => Byt w_ (g_.2) (g_.1) (pack ((repB b6S N) ++ (endBits ((repB b6S N).length))))) (fun g_ => g_.2) (fun _ => False) (fun p_ => w252.heap.size ≤ p_) [fun g_ => .agg #[iv ((mkF (w % 2) (h % 2) l).W), iv ((mkF (w % 2) (h % 2) l).H), iv 1, iv 1], fun g_ => .int .u8 ((q : Nat) : Int), fun g_ => iv ((q : Nat) : Int), fun g_ => iv (((q % 21) : Nat) : Int), fun g_ => .agg #[iv 2, iv (((q % 21) : Nat) : Int), iv 0, iv 0], fun g_ => .string (strOf (repB b6S N)), fun g_ => .string (strOf (repB b6S N)), fun g_ => iv (((repB b6S N).length : Nat) : Int), fun g_ => .string (strOf (endBits ((repB b6S N).length))), fun g_ => .string (strOf ((repB b6S N) ++ (endBits ((repB b6S N).length)))), fun g_ => g_.1.1, fun g_ => .agg #[iv ((mkF (w % 2) (h % 2) l).W), iv ((mkF (w % 2) (h % 2) l).H), v34, v35, v36], fun g_ => .agg #[iv ((mkF (w % 2) (h % 2) l).W), iv ((mkF (w % 2) (h % 2) l).H), v34, v35, v36], fun g_ => .tuple #[.agg #[iv ((decF (pack ((repB b6S N) ++ (endBits ((repB b6S N).length)))) ((mkF (w % 2) (h % 2) l).W) ((mkF (w % 2) (h % 2) l).H) 1 1 2 (((q % 21) : Nat) : Int) 0 0 (mkF (w % 2) (h % 2) l) (mkF (w % 2) (h % 2) l)).W), iv ((decF (pack ((repB b6S N) ++ (endBits ((repB b6S N).length)))) ((mkF (w % 2) (h % 2) l).W) ((mkF (w % 2) (h % 2) l).H) 1 1 2 (((q % 21) : Nat) : Int) 0 0 (mkF (w % 2) (h % 2) l) (mkF (w % 2) (h % 2) l)).H), g_.2.1, g_.2.2.2.1, g_.2.2.2.2.2.1], iv (decE (pack ((repB b6S N) ++ (endBits ((repB b6S N).length)))) ((mkF (w % 2) (h % 2) l).W) ((mkF (w % 2) (h % 2) l).H) 1 1 2 (((q % 21) : Nat) : Int) 0 0 (mkF (w % 2) (h % 2) l) (mkF (w % 2) (h % 2) l))], fun g_ => .tuple #[.agg #[iv ((decF (pack ((repB b6S N) ++ (endBits ((repB b6S N).length)))) ((mkF (w % 2) (h % 2) l).W) ((mkF (w % 2) (h % 2) l).H) 1 1 2 (((q % 21) : Nat) : Int) 0 0 (mkF (w % 2) (h % 2) l) (mkF (w % 2) (h % 2) l)).W), iv ((decF (pack ((repB b6S N) ++ (endBits ((repB b6S N).length)))) ((mkF (w % 2) (h % 2) l).W) ((mkF (w % 2) (h % 2) l).H) 1 1 2 (((q % 21) : Nat) : Int) 0 0 (mkF (w % 2) (h % 2) l) (mkF (w % 2) (h % 2) l)).H), g_.2.1, g_.2.2.2.1, g_.2.2.2.2.2.1], iv (decE (pack ((repB b6S N) ++ (endBits ((repB b6S N).length)))) ((mkF (w % 2) (h % 2) l).W) ((mkF (w % 2) (h % 2) l).H) 1 1 2 (((q % 21) : Nat) : Int) 0 0 (mkF (w % 2) (h % 2) l) (mkF (w % 2) (h % 2) l))], fun g_ => .agg #[iv ((decF (pack ((repB b6S N) ++ (endBits ((repB b6S N).length)))) ((mkF (w % 2) (h % 2) l).W) ((mkF (w % 2) (h % 2) l).H) 1 1 2 (((q % 21) : Nat) : Int) 0 0 (mkF (w % 2) (h % 2) l) (mkF (w % 2) (h % 2) l)).W), iv ((decF (pack ((repB b6S N) ++ (endBits ((repB b6S N).length)))) ((mkF (w % 2) (h % 2) l).W) ((mkF (w % 2) (h % 2) l).H) 1 1 2 (((q % 21) : Nat) : Int) 0 0 (mkF (w % 2) (h % 2) l) (mkF (w % 2) (h % 2) l)).H), g_.2.1, g_.2.2.2.1, g_.2.2.2.2.2.1], fun g_ => iv (decE (pack ((repB b6S N) ++ (endBits ((repB b6S N).length)))) ((mkF (w % 2) (h % 2) l).W) ((mkF (w % 2) (h % 2) l).H) 1 1 2 (((q % 21) : Nat) : Int) 0 0 (mkF (w % 2) (h % 2) l) (mkF (w % 2) (h % 2) l)), fun _ => undef, fun _ => undef, fun g_ => iv (decE (pack ((repB b6S N) ++ (endBits ((repB b6S N).length)))) ((mkF (w % 2) (h % 2) l).W) ((mkF (w % 2) (h % 2) l).H) 1 1 2 (((q % 21) : Nat) : Int) 0 0 (mkF (w % 2) (h % 2) l) (mkF (w % 2) (h % 2) l))] 10 13 18 (some 17) (undef, noB) (undef, noB, undef, noB, undef, noB) 0 (by kernel_rfl) (by kernel_rfl) (by kernel_rfl) (by kernel_rfl) ⟨.inr (.inr fun _ _ _ => rfl), ⟨.inr (.inr fun _ _ _ => rfl), ⟨.inr (.inr fun _ _ _ => rfl), ⟨.inr (.inr fun _ _ _ => rfl), ⟨.inr (.inr fun _ _ _ => rfl), ⟨.inr (.inr fun _ _ _ => rfl), ⟨.inr (.inr fun _ _ _ => rfl), ⟨.inr (.inr fun _ _ _ => rfl), ⟨.inr (.inr fun _ _ _ => rfl), ⟨.inr (.inr fun _ _ _ => rfl), ⟨.inr (.inl rfl), ⟨.inr (.inr fun _ _ _ => rfl), ⟨.inr (.inr fun _ _ _ => rfl), ⟨.inl rfl, ⟨.inl rfl, ⟨.inl rfl, ⟨.inl rfl, ⟨.inr (.inr fun _ _ _ => rfl), ⟨.inl rfl, ⟨.inl rfl, trivial⟩⟩⟩⟩⟩⟩⟩⟩⟩⟩⟩⟩⟩⟩⟩⟩⟩⟩⟩⟩ ⟨.inr (.inr fun _ _ _ => rfl), ⟨.inr (.inr fun _ _ _ => rfl), ⟨.inr (.inr fun _ _ _ => rfl), ⟨.inr (.inr fun _ _ _ => rfl), ⟨.inr (.inr fun _ _ _ => rfl), ⟨.inr (.inr fun _ _ _ => rfl), ⟨.inr (.inr fun _ _ _ => rfl), ⟨.inr (.inr fun _ _ _ => rfl), ⟨.inr (.inr fun _ _ _ => rfl), ⟨.inr (.inr fun _ _ _ => rfl), ⟨.inr (.inr fun _ _ _ => rfl), ⟨.inr (.inr fun _ _ _ => rfl), ⟨.inr (.inr fun _ _ _ => rfl), ⟨.inr (.inl rfl), ⟨.inl rfl, ⟨.inl rfl, ⟨.inl rfl, ⟨.inr (.inr fun _ _ _ => rfl), ⟨.inl rfl, ⟨.inl rfl, trivial⟩⟩⟩⟩⟩⟩⟩⟩⟩⟩⟩⟩⟩⟩⟩⟩⟩⟩⟩⟩ ⟨fun _ _ _ _ h k a => h.all k a, fun _ _ h => h.live⟩ ⟨trivial, fun _ _ _ _ _ _ => trivial, fun _ _ _ z => z.elim, fun g w w1 S1 h k a => by obtain ⟨⟨b0_, g0_⟩, ⟨b1_, g1_⟩, ⟨b2_, g2_⟩, a0_1_, a0_2_, a1_2_⟩ := h; exact ⟨⟨b0_.all k (fun i z => a i (Or.inl z)), g0_⟩, ⟨b1_.all k (fun i z => a i (Or.inr (Or.inl z))), g1_⟩, ⟨b2_.all k (fun i z => a i (Or.inr (Or.inr z))), g2_⟩, a0_1_, a0_2_, a1_2_⟩, fun g w h i z => by obtain ⟨⟨b0_, g0_⟩, ⟨b1_, g1_⟩, ⟨b2_, g2_⟩, a0_1_, a0_2_, a1_2_⟩ := h; rcases z with z | z | z <;> first | exact b0_.live i z | exact b1_.live i z | exact b2_.live i z, fun _ _ _ _ h k z => h.all k z, fun _ _ h => h.lt, fun _ _ _ _ _ h k z => h.all k z, fun _ z => z, fun _ h => .inr h, fun _ _ z => z⟩ (fun _ _ _ h => h) (fun e => by cases e) ?_ ?_
   ·refine stepsFY_cons ?_ ?_
    ·refine StepFY.one rfl rfl rfl rfl rfl fun g_ p_ F_ w_ hR hout hD => ?_
     exact (y_load_stc stcT_seq rfl ((hout 11 rfl (by decide)).trans s319) (B274.all hR id) ⟨rfl, Kept.refl _ _⟩)
    refine stepsFY_cons ?_ ?_
    ·refine StepFY.one rfl rfl rfl rfl rfl fun g_ p_ F_ w_ hR hout hD => ?_
     exact (y_mov rfl ((hout 3 rfl (by decide)).trans s316) ⟨rfl, Kept.refl _ _⟩)
    refine stepsFY_cons ?_ ?_
    ·refine StepFY.one rfl rfl rfl rfl rfl fun g_ p_ F_ w_ hR hout hD => ?_
     have g83 : F_ 83 = .int .u8 ((q : Nat) : Int) := (hD.get 0 rfl rfl rfl).2 (by decide)
     exact (y_convR rfl g83 Tryz.underlying5 Tryz.underlying3 (i64_i rfl (by omega)) ⟨rfl, Kept.refl _ _⟩)
    refine stepsFY_cons ?_ ?_
    ·refine StepFY.one rfl rfl rfl rfl rfl fun g_ p_ F_ w_ hR hout hD => ?_
     have g84 : F_ 84 = iv ((q : Nat) : Int) := (hD.get 0 rfl rfl rfl).2 (by decide)
     exact (y_rem rfl g84 rfl (by first | decide | omega) (rem_nat q 21) ⟨rfl, Kept.refl _ _⟩)
    refine stepsFY_cons ?_ ?_
    ·refine StepFY.one rfl rfl rfl rfl rfl fun g_ p_ F_ w_ hR hout hD => ?_
     have g85 : F_ 85 = iv (((q % 21) : Nat) : Int) := (hD.get 0 rfl rfl rfl).2 (by decide)
     exact (y_buildL (l' := [(0, iv 2), (1, iv (((q % 21) : Nat) : Int))]) (cells := #[iv 2, iv (((q % 21) : Nat) : Int), iv 0, iv 0]) rfl (bpC rfl (bpC g85 bpN)) (by kernel_rfl) rfl ⟨rfl, Kept.refl _ _⟩)
    refine stepsFY_cons ?_ ?_
    ·refine StepFY.one rfl rfl rfl rfl rfl fun g_ p_ F_ w_ hR hout hD => ?_
     exact (y_mov rfl ((hout 14 rfl (by decide)).trans s321) ⟨rfl, Kept.refl _ _⟩)
    refine stepsFY_cons ?_ ?_
    ·refine StepFY.one rfl rfl rfl rfl rfl fun g_ p_ F_ w_ hR hout hD => ?_
     exact (y_mov rfl ((hout 14 rfl (by decide)).trans s321) ⟨rfl, Kept.refl _ _⟩)
    refine stepsFY_cons ?_ ?_
    ·refine StepFY.one rfl rfl rfl rfl rfl fun g_ p_ F_ w_ hR hout hD => ?_
     have g88 : F_ 88 = .string (strOf (repB b6S N)) := (hD.get 0 rfl rfl rfl).2 (by decide)
     exact (y_lenT rfl rfl g88 ⟨rfl, Kept.refl _ _⟩)
    refine stepsFY_cons ?_ ?_
    ·refine StepFY.one rfl rfl rfl rfl rfl fun g_ p_ F_ w_ hR hout hD => ?_
     have g89 : F_ 89 = iv (((repB b6S N).length : Nat) : Int) := (hD.get 0 rfl rfl rfl).2 (by decide)
     exact (y_cs rfl rfl rfl (fun _ _ => by kernel_rfl) (ev_func _) (vsC g89 vsN) (t_refend ((repB b6S N).length)  _ (by omega)  ) (fun e_ w_ h_ => ⟨_, h_.1, rfl, h_.2⟩))
    refine stepsFY_cons ?_ ?_
    ·refine StepFY.one rfl rfl rfl rfl rfl fun g_ p_ F_ w_ hR hout hD => ?_
     have g87 : F_ 87 = .string (strOf (repB b6S N)) := (hD.get 0 rfl rfl rfl).2 (by decide)
     have g90 : F_ 90 = .string (strOf (endBits ((repB b6S N).length))) := (hD.get 1 rfl rfl rfl).2 (by decide)
     exact (y_catR rfl g87 g90 (by simp [strOf_size]; omega) (strOf_append _ _) ⟨rfl, Kept.refl _ _⟩)
    refine stepsFY_cons ?_ ?_
    ·refine StepFY.ahead rfl rfl rfl rfl rfl fun g_ p_ F_ w_ hR hout hD => ?_
     have g91 : F_ 91 = .string (strOf ((repB b6S N) ++ (endBits ((repB b6S N).length)))) := (hD.get 0 rfl rfl rfl).2 (by decide)
     exact (y_cs rfl rfl rfl (fun _ _ => by kernel_rfl) (ev_func _) (vsC g91 vsN) (t_refbytes ((repB b6S N) ++ (endBits ((repB b6S N).length)))  _ (by rw [List.length_append, endBits_length]; omega)  ) (fun e_ w_ h_ => by obtain ⟨x0_, x1_, he_, hk_, ⟨b0_, g0_⟩⟩ := h_; exact ⟨_, he_, ⟨x0_, x1_⟩, rfl, hk_, b0_, g0_⟩))
    refine stepsFY_cons ?_ ?_
    ·refine StepFY.one rfl rfl rfl rfl rfl fun g_ p_ F_ w_ hR hout hD => ?_
     exact (y_load_stc stcT_frame rfl ((hout 10 rfl (by decide)).trans s318) (B273.all hR id) ⟨rfl, Kept.refl _ _⟩)
    refine stepsFY_cons ?_ ?_
    ·refine StepFY.one rfl rfl rfl rfl rfl fun g_ p_ F_ w_ hR hout hD => ?_
     exact (y_load_stc stcT_frame rfl ((hout 10 rfl (by decide)).trans s318) (B273.all hR id) ⟨rfl, Kept.refl _ _⟩)
    refine stepsFY_cons ?_ ?_
    ·refine StepFY.call rfl rfl rfl rfl rfl fun g_ p_ F_ w_ hR hout hD hP_ hR1_ => ?_
     have g82 : F_ 82 = .agg #[iv ((mkF (w % 2) (h % 2) l).W), iv ((mkF (w % 2) (h % 2) l).H), iv 1, iv 1] := (hD.get 0 rfl rfl rfl).2 (by decide)
     have g86 : F_ 86 = .agg #[iv 2, iv (((q % 21) : Nat) : Int), iv 0, iv 0] := (hD.get 1 rfl rfl rfl).2 (by decide)
     have g92 : F_ 92 = g_.1.1 := (hD.get 2 rfl rfl rfl).2 (by decide)
     have g93 : F_ 93 = .agg #[iv ((mkF (w % 2) (h % 2) l).W), iv ((mkF (w % 2) (h % 2) l).H), v34, v35, v36] := (hD.get 3 rfl rfl rfl).2 (by decide)
     have g94 : F_ 94 = .agg #[iv ((mkF (w % 2) (h % 2) l).W), iv ((mkF (w % 2) (h % 2) l).H), v34, v35, v36] := (hD.get 4 rfl rfl rfl).2 (by decide)
     exact (y_cs rfl rfl rfl (fun _ _ => by kernel_rfl) (ev_func _) (vsC g82 (vsC g86 (vsC g92 (vsC g93 (vsC g94 vsN))))) (pc_decode ((mkF (w % 2) (h % 2) l).W) ((mkF (w % 2) (h % 2) l).H) 1 1 2 (((q % 21) : Nat) : Int) 0 0 (g_.1.1) (pack ((repB b6S N) ++ (endBits ((repB b6S N).length)))) (mkF (w % 2) (h % 2) l) v34 v35 v36 (mkF (w % 2) (h % 2) l) v34 v35 v36 (g_.1.2) T39 T40 T41 T39 T40 T41 _ (hA.all (K275.trans hR (fun _ _ x => x.elim))) (hO.all (K275.trans hR (fun _ _ x => x.elim))) (hs.all (K275.trans hR (fun _ _ x => x.elim))) (hwv.all (K275.trans hR (fun _ _ x => x.elim))) (by rw [pack_length]; unfold nbytes; rw [List.length_append, endBits_length]; omega) hR1_ (B270.all hR Apart.none).byt (B271.all hR Apart.none).byt (B272.all hR Apart.none).byt (B270.all hR Apart.none).byt (B271.all hR Apart.none).byt (B272.all hR Apart.none).byt ) (fun e_ w_ h_ => by obtain ⟨x0_, x1_, x2_, x3_, x4_, x5_, he_, hk_, ⟨b0_, g0_⟩, ⟨b1_, g1_⟩, ⟨b2_, g2_⟩, a0_1_, a0_2_, a1_2_⟩ := h_; exact ⟨_, he_, ⟨x0_, x1_, x2_, x3_, x4_, x5_⟩, rfl, hk_, ⟨⟨b0_, (Grew.refl w252 _).trans hR g0_⟩, ⟨b1_, (Grew.refl w252 _).trans hR g1_⟩, ⟨b2_, (Grew.refl w252 _).trans hR g2_⟩, a0_1_, a0_2_, a1_2_⟩, fun b hb => by rcases hb with hb | hb | hb <;> first | exact (g0_ b hb).elim (fun z => z.elim) .inr | exact (g1_ b hb).elim (fun z => z.elim) .inr | exact (g2_ b hb).elim (fun z => z.elim) .inr⟩))
    refine stepsFY_cons ?_ ?_
    ·refine StepFY.one rfl rfl rfl rfl rfl fun g_ p_ F_ w_ hR hout hD => ?_
     have g95 : F_ 95 = .tuple #[.agg #[iv ((decF (pack ((repB b6S N) ++ (endBits ((repB b6S N).length)))) ((mkF (w % 2) (h % 2) l).W) ((mkF (w % 2) (h % 2) l).H) 1 1 2 (((q % 21) : Nat) : Int) 0 0 (mkF (w % 2) (h % 2) l) (mkF (w % 2) (h % 2) l)).W), iv ((decF (pack ((repB b6S N) ++ (endBits ((repB b6S N).length)))) ((mkF (w % 2) (h % 2) l).W) ((mkF (w % 2) (h % 2) l).H) 1 1 2 (((q % 21) : Nat) : Int) 0 0 (mkF (w % 2) (h % 2) l) (mkF (w % 2) (h % 2) l)).H), g_.2.1, g_.2.2.2.1, g_.2.2.2.2.2.1], iv (decE (pack ((repB b6S N) ++ (endBits ((repB b6S N).length)))) ((mkF (w % 2) (h % 2) l).W) ((mkF (w % 2) (h % 2) l).H) 1 1 2 (((q % 21) : Nat) : Int) 0 0 (mkF (w % 2) (h % 2) l) (mkF (w % 2) (h % 2) l))] := (hD.get 0 rfl rfl rfl).2 (by decide)
     exact (y_mov rfl g95 ⟨rfl, Kept.refl _ _⟩)
    refine stepsFY_cons ?_ ?_
    ·refine StepFY.one rfl rfl rfl rfl rfl fun g_ p_ F_ w_ hR hout hD => ?_
     have g81 : F_ 81 = .tuple #[.agg #[iv ((decF (pack ((repB b6S N) ++ (endBits ((repB b6S N).length)))) ((mkF (w % 2) (h % 2) l).W) ((mkF (w % 2) (h % 2) l).H) 1 1 2 (((q % 21) : Nat) : Int) 0 0 (mkF (w % 2) (h % 2) l) (mkF (w % 2) (h % 2) l)).W), iv ((decF (pack ((repB b6S N) ++ (endBits ((repB b6S N).length)))) ((mkF (w % 2) (h % 2) l).W) ((mkF (w % 2) (h % 2) l).H) 1 1 2 (((q % 21) : Nat) : Int) 0 0 (mkF (w % 2) (h % 2) l) (mkF (w % 2) (h % 2) l)).H), g_.2.1, g_.2.2.2.1, g_.2.2.2.2.2.1], iv (decE (pack ((repB b6S N) ++ (endBits ((repB b6S N).length)))) ((mkF (w % 2) (h % 2) l).W) ((mkF (w % 2) (h % 2) l).H) 1 1 2 (((q % 21) : Nat) : Int) 0 0 (mkF (w % 2) (h % 2) l) (mkF (w % 2) (h % 2) l))] := (hD.get 0 rfl rfl rfl).2 (by decide)
     exact (y_ext rfl g81 rfl ⟨rfl, Kept.refl _ _⟩)
    refine stepsFY_cons ?_ ?_
    ·refine StepFY.one rfl rfl rfl rfl rfl fun g_ p_ F_ w_ hR hout hD => ?_
     have g81 : F_ 81 = .tuple #[.agg #[iv ((decF (pack ((repB b6S N) ++ (endBits ((repB b6S N).length)))) ((mkF (w % 2) (h % 2) l).W) ((mkF (w % 2) (h % 2) l).H) 1 1 2 (((q % 21) : Nat) : Int) 0 0 (mkF (w % 2) (h % 2) l) (mkF (w % 2) (h % 2) l)).W), iv ((decF (pack ((repB b6S N) ++ (endBits ((repB b6S N).length)))) ((mkF (w % 2) (h % 2) l).W) ((mkF (w % 2) (h % 2) l).H) 1 1 2 (((q % 21) : Nat) : Int) 0 0 (mkF (w % 2) (h % 2) l) (mkF (w % 2) (h % 2) l)).H), g_.2.1, g_.2.2.2.1, g_.2.2.2.2.2.1], iv (decE (pack ((repB b6S N) ++ (endBits ((repB b6S N).length)))) ((mkF (w % 2) (h % 2) l).W) ((mkF (w % 2) (h % 2) l).H) 1 1 2 (((q % 21) : Nat) : Int) 0 0 (mkF (w % 2) (h % 2) l) (mkF (w % 2) (h % 2) l))] := (hD.get 0 rfl rfl rfl).2 (by decide)
     exact (y_ext rfl g81 rfl ⟨rfl, Kept.refl _ _⟩)
    refine stepsFY_cons ?_ ?_
    ·refine StepFY.alloc rfl rfl rfl rfl rfl fun F_ w_ hR => ?_
     exact y_alloc_stc (n := 5) (vs := [iv 0, iv 0, .slice none 0 0, .slice none 0 0, .slice none 0 0]) rfl (by kernel_rfl) ⟨_, rfl, Nat.le_refl _, heap_alloc_new _ _, (Kept.refl _ _).alloc _⟩
    refine stepsFY_cons ?_ ?_
    ·refine StepFY.store rfl rfl rfl rfl rfl fun g_ p_ F_ w_ hR hout hD hO_ hZ_ hQ_ => ?_
     have g18 : F_ 18 = pt p_ 0 := (hD.get 0 rfl rfl rfl).1 rfl
     have g96 : F_ 96 = .agg #[iv ((decF (pack ((repB b6S N) ++ (endBits ((repB b6S N).length)))) ((mkF (w % 2) (h % 2) l).W) ((mkF (w % 2) (h % 2) l).H) 1 1 2 (((q % 21) : Nat) : Int) 0 0 (mkF (w % 2) (h % 2) l) (mkF (w % 2) (h % 2) l)).W), iv ((decF (pack ((repB b6S N) ++ (endBits ((repB b6S N).length)))) ((mkF (w % 2) (h % 2) l).W) ((mkF (w % 2) (h % 2) l).H) 1 1 2 (((q % 21) : Nat) : Int) 0 0 (mkF (w % 2) (h % 2) l) (mkF (w % 2) (h % 2) l)).H), g_.2.1, g_.2.2.2.1, g_.2.2.2.2.2.1] := (hD.get 1 rfl rfl rfl).2 (by decide)
     exact y_storeStc (us := [iv ((decF (pack ((repB b6S N) ++ (endBits ((repB b6S N).length)))) ((mkF (w % 2) (h % 2) l).W) ((mkF (w % 2) (h % 2) l).H) 1 1 2 (((q % 21) : Nat) : Int) 0 0 (mkF (w % 2) (h % 2) l) (mkF (w % 2) (h % 2) l)).W), iv ((decF (pack ((repB b6S N) ++ (endBits ((repB b6S N).length)))) ((mkF (w % 2) (h % 2) l).W) ((mkF (w % 2) (h % 2) l).H) 1 1 2 (((q % 21) : Nat) : Int) 0 0 (mkF (w % 2) (h % 2) l) (mkF (w % 2) (h % 2) l)).H), g_.2.1, g_.2.2.2.1, g_.2.2.2.2.2.1]) stcT_frame rfl g18 g96 hZ_ rfl (oneI rfl (oneI rfl (oneI (hQ_.1.1).one (oneI (hQ_.2.1.1).one (oneI (hQ_.2.2.1.1).one oneN))))) fun w2_ b_ k_ => ⟨rfl, k_, b_⟩
    refine stepsFY_cons ?_ ?_
    ·refine StepFY.one rfl rfl rfl rfl rfl fun g_ p_ F_ w_ hR hout hD => ?_
     have g97 : F_ 97 = iv (decE (pack ((repB b6S N) ++ (endBits ((repB b6S N).length)))) ((mkF (w % 2) (h % 2) l).W) ((mkF (w % 2) (h % 2) l).H) 1 1 2 (((q % 21) : Nat) : Int) 0 0 (mkF (w % 2) (h % 2) l) (mkF (w % 2) (h % 2) l)) := (hD.get 0 rfl rfl rfl).2 (by decide)
     exact (y_asg rfl g97 ⟨rfl, Kept.refl _ _⟩)
    exact stepsFY_nil
   intro gg342 gg328 p329 v330 F331 w332 k333 hp334 hQ335 hG336 hY337 hN338 hA339 hV340 hF341
   obtain ⟨v343, T344, v345, T346, v347, T348⟩ := gg328
   have B350 := B270.all k333 Apart.none
   have B351 := B271.all k333 Apart.none
   have B352 := B272.all k333 Apart.none
   have B353 := B273.all k333 id
   have B355 := B276.all k333 Apart.none
   have B356 := B277.all k333 Apart.none
   have B357 := B278.all k333 Apart.none
   have B358 := hY257.all k333 id
   have K359 := K275.tr k333
   obtain ⟨⟨B360, g363⟩, ⟨B361, g364⟩, ⟨B362, g365⟩, ap366, ap367, ap368⟩ := hQ335
   replace B360 : Owb w332 T344 v343 ((decF (pack ((repB b6S N) ++ (endBits ((repB b6S N).length)))) ((mkF (w % 2) (h % 2) l).W) ((mkF (w % 2) (h % 2) l).H) 1 1 2 (((q % 21) : Nat) : Int) 0 0 (mkF (w % 2) (h % 2) l) (mkF (w % 2) (h % 2) l)).p0) := B360
   replace B361 : Owb w332 T346 v345 ((decF (pack ((repB b6S N) ++ (endBits ((repB b6S N).length)))) ((mkF (w % 2) (h % 2) l).W) ((mkF (w % 2) (h % 2) l).H) 1 1 2 (((q % 21) : Nat) : Int) 0 0 (mkF (w % 2) (h % 2) l) (mkF (w % 2) (h % 2) l)).p1) := B361
   replace B362 : Owb w332 T348 v347 ((decF (pack ((repB b6S N) ++ (endBits ((repB b6S N).length)))) ((mkF (w % 2) (h % 2) l).W) ((mkF (w % 2) (h % 2) l).H) 1 1 2 (((q % 21) : Nat) : Int) 0 0 (mkF (w % 2) (h % 2) l) (mkF (w % 2) (h % 2) l)).p2) := B362
   replace g363 : Grew w252 noB T344 := g363
   replace g364 : Grew w252 noB T346 := g364
   replace g365 : Grew w252 noB T348 := g365
   replace ap366 : Apart T344 T346 := ap366
   replace ap367 : Apart T344 T348 := ap367
   replace ap368 : Apart T346 T348 := ap368
   replace hY337 : Stc w332 p329 29 [iv ((decF (pack ((repB b6S N) ++ (endBits ((repB b6S N).length)))) ((mkF (w % 2) (h % 2) l).W) ((mkF (w % 2) (h % 2) l).H) 1 1 2 (((q % 21) : Nat) : Int) 0 0 (mkF (w % 2) (h % 2) l) (mkF (w % 2) (h % 2) l)).W), iv ((decF (pack ((repB b6S N) ++ (endBits ((repB b6S N).length)))) ((mkF (w % 2) (h % 2) l).W) ((mkF (w % 2) (h % 2) l).H) 1 1 2 (((q % 21) : Nat) : Int) 0 0 (mkF (w % 2) (h % 2) l) (mkF (w % 2) (h % 2) l)).H), v343, v345, v347] := hY337
   obtain ⟨s416, s417, s418, s419, s420⟩ := t5 hF341 9 s317 10 s318 118 s320 16 s322 17 s323
   have s421 : F331 18 = pt p329 0 := (hF341 18).trans (hA339 17 rfl)
   have s422 : F331 19 = iv (decE (pack ((repB b6S N) ++ (endBits ((repB b6S N).length)))) ((mkF (w % 2) (h % 2) l).W) ((mkF (w % 2) (h % 2) l).H) 1 1 2 (((q % 21) : Nat) : Int) 0 0 (mkF (w % 2) (h % 2) l) (mkF (w % 2) (h % 2) l)) := (hF341 19).trans (hV340 19 (by decide) (by decide))
   clear hF341 hV340 hA339 hN338 hG336
   refine then_normal (wq_seq (wq_region (wl_v (.agg #[iv ((decF (pack ((repB b4S N) ++ (endBits ((repB b4S N).length)))) ((mkF (w % 2) (h % 2) l).W) ((mkF (w % 2) (h % 2) l).H) 1 1 1 (((q % 21) : Nat) : Int) 0 0 (mkF (w % 2) (h % 2) l) (FD.mk 0 0 ([]) ([]) ([]))).W), iv ((decF (pack ((repB b4S N) ++ (endBits ((repB b4S N).length)))) ((mkF (w % 2) (h % 2) l).W) ((mkF (w % 2) (h % 2) l).H) 1 1 1 (((q % 21) : Nat) : Int) 0 0 (mkF (w % 2) (h % 2) l) (FD.mk 0 0 ([]) ([]) ([]))).H), v263, v265, v267]) rfl rfl (y_load_stc stcT_frame rfl s419 B358 rr) (wl_v (.agg #[iv ((mkF (w % 2) (h % 2) l).W), iv ((mkF (w % 2) (h % 2) l).H), v34, v35, v36]) rfl rfl (y_load_stc stcT_frame rfl s417 B353 rr) (wl_call (R := fun v_ w_ => v_ = .bool true ∧ Kept (fun _ => False) w332 w_) rfl rfl (y_cs rfl rfl rfl (fun _ _ => by kernel_rfl) (ev_func _) (vsC rfl (vsC rfl vsN)) (fref_same (decF (pack ((repB b4S N) ++ (endBits ((repB b4S N).length)))) ((mkF (w % 2) (h % 2) l).W) ((mkF (w % 2) (h % 2) l).H) 1 1 1 (((q % 21) : Nat) : Int) 0 0 (mkF (w % 2) (h % 2) l) (FD.mk 0 0 ([]) ([]) ([]))) v263 v265 v267 (mkF (w % 2) (h % 2) l) v34 v35 v36 T264 T266 T268 T39 T40 T41 _  B355.byt B356.byt B357.byt B350.byt B351.byt B352.byt ) (fun e_ w_ h_ => ⟨_, h_.1, congrArg Value.bool h4.out.2, h_.2⟩)) ?_)))))
   rintro _ w423 ⟨rfl, k424⟩
   have B426 := B350.all k424 Apart.none
   have B427 := B351.all k424 Apart.none
   have B428 := B352.all k424 Apart.none
   have B429 := B353.all k424 id
   have B435 := B360.all k424 Apart.none
   have B436 := B361.all k424 Apart.none
   have B437 := B362.all k424 Apart.none
   have B438 := hY337.all k424 id
   have K439 := K359.tr k424
   refine wl_v (.bool true) rfl rfl (y_mov rfl rfl rr) (wl_vw (.agg #[iv ((decF (pack ((repB b6S N) ++ (endBits ((repB b6S N).length)))) ((mkF (w % 2) (h % 2) l).W) ((mkF (w % 2) (h % 2) l).H) 1 1 2 (((q % 21) : Nat) : Int) 0 0 (mkF (w % 2) (h % 2) l) (mkF (w % 2) (h % 2) l)).W), iv ((decF (pack ((repB b6S N) ++ (endBits ((repB b6S N).length)))) ((mkF (w % 2) (h % 2) l).W) ((mkF (w % 2) (h % 2) l).H) 1 1 2 (((q % 21) : Nat) : Int) 0 0 (mkF (w % 2) (h % 2) l) (mkF (w % 2) (h % 2) l)).H), v343, v345, v347]) 3 true 101 rfl rfl rfl rfl rfl (y_load_stc stcT_frame rfl s421 B438 rr) (wl_vw (.agg #[iv ((mkF (w % 2) (h % 2) l).W), iv ((mkF (w % 2) (h % 2) l).H), v34, v35, v36]) 3 true 101 rfl rfl rfl rfl rfl (y_load_stc stcT_frame rfl s417 B429 rr) (wl_callw (R := fun v_ w_ => v_ = .bool true ∧ Kept (fun _ => False) w423 w_) 3 true 101 rfl rfl rfl rfl rfl (y_cs rfl rfl rfl (fun _ _ => by kernel_rfl) (ev_func _) (vsC rfl (vsC rfl vsN)) (fref_same (decF (pack ((repB b6S N) ++ (endBits ((repB b6S N).length)))) ((mkF (w % 2) (h % 2) l).W) ((mkF (w % 2) (h % 2) l).H) 1 1 2 (((q % 21) : Nat) : Int) 0 0 (mkF (w % 2) (h % 2) l) (mkF (w % 2) (h % 2) l)) v343 v345 v347 (mkF (w % 2) (h % 2) l) v34 v35 v36 T344 T346 T348 T39 T40 T41 _  B435.byt B436.byt B437.byt B426.byt B427.byt B428.byt ) (fun e_ w_ h_ => ⟨_, h_.1, congrArg Value.bool h6.out.2, h_.2⟩)) ?_)))
   rintro _ w440 ⟨rfl, k441⟩
   have K456 := K439.tr k441
   refine wl_v (.bool true) rfl rfl (y_pickT rfl rfl rfl rr) (wl_v (.bool true) rfl rfl (y_asg rfl rfl rr) (wl_nil fun F457 hF458 => ?_))
   obtain ⟨s459, s460, s461, s462⟩ := t4 hF458 9 s416 118 s418 17 s420 19 s422
   have s463 : F457 20 = .bool true := (hF458 20).trans rfl
   clear hF458
   refine then_normal (wq_seq (wq_region (wl_mv rfl rfl rfl s459 (wl_v (.bool true) rfl rfl (y_mov rfl rfl rr) (wl_vw (iv (decE (pack ((repB b4S N) ++ (endBits ((repB b4S N).length)))) ((mkF (w % 2) (h % 2) l).W) ((mkF (w % 2) (h % 2) l).H) 1 1 1 (((q % 21) : Nat) : Int) 0 0 (mkF (w % 2) (h % 2) l) (FD.mk 0 0 ([]) ([]) ([])))) 1 true 107 rfl rfl rfl rfl rfl (y_mov rfl s461 rr) (wl_vw (.bool true) 1 true 107 rfl rfl rfl rfl rfl (y_eqlI rfl rfl rfl (decide_eq_true h4.out.1) rr) (wl_v (.bool true) rfl rfl (y_pickT rfl rfl rfl rr) (wl_v (.bool true) rfl rfl (y_mov rfl rfl rr) (wl_vw (iv (decE (pack ((repB b6S N) ++ (endBits ((repB b6S N).length)))) ((mkF (w % 2) (h % 2) l).W) ((mkF (w % 2) (h % 2) l).H) 1 1 2 (((q % 21) : Nat) : Int) 0 0 (mkF (w % 2) (h % 2) l) (mkF (w % 2) (h % 2) l))) 5 true 111 rfl rfl rfl rfl rfl (y_mov rfl s462 rr) (wl_vw (.bool true) 5 true 111 rfl rfl rfl rfl rfl (y_eqlI rfl rfl rfl (decide_eq_true h6.out.1) rr) (wl_v (.bool true) rfl rfl (y_pickT rfl rfl rfl rr) ?_)))))))))))
   refine wl_v (.bool true) rfl rfl (y_mov rfl rfl rr) (wl_vw (.bool true) 9 true 115 rfl rfl rfl rfl rfl (y_mov rfl s463 rr) (wl_v (.bool true) rfl rfl (y_pickT rfl rfl rfl rr) (wl_v (.bool true) rfl rfl (y_asg rfl rfl rr) (wl_nil fun F464 hF465 => ?_))))
   have s466 := (hF465 118).trans s460
   have s467 : F464 8 = .bool true := (hF465 8).trans rfl
   clear hF465
   refine then_normal (wq_ret ?_)
   exact end_tmp (v := .bool true) s466 rfl rfl s467 ⟨rfl, K456⟩
end Go.Proofs.YtknjpdcpmpfklaaGreatDoor
set_option maxRecDepth 100000
namespace Go.Proofs.YtknjpdcpmpfklaaGreatDoor
open Go.ChangeShapes Go.WideShapes Go.ChangeAt Go.RowKit
section
variable {H : Type} {enc : TypeId × Value → H} {w : World} {base : Nat} {spare : Nat → Bool} {held : Bool}
theorem BytesArg.of_row {a : Option Addr} {len cap : Nat} {zs : List Int}
    (h : (a = none ∧ len = 0 ∧ cap = 0 ∧ zs = []) ∨ ∃ x, a = some x ∧ len ≤ cap ∧ cap ≤ maxLen ∧ len ≤ zs.length ∧ (∀ i, i < zs.length → w.cell? (x.add i) = some (.int .u8 (zs.getD i 0))) ∧ ∀ n ∈ zs, (Lit.int .u8 n).wf = true) :
    ∃ l : List Nat, BytesArg w (.slice a len cap) l := by
  rcases h with ⟨rfl, rfl, rfl, rfl⟩ | ⟨x, rfl, hlc, hcm, hz, hcell, hwf⟩
  · exact ⟨[], BytesArg.nil w⟩
  · have hlen : ((zs.take len).map Int.toNat).length = len := by simp; omega
    refine ⟨(zs.take len).map Int.toNat, some x, cap, by rw [hlen], by rw [hlen]; exact hlc, hcm, by simp, ?_, ?_⟩
    · intro y hy
      obtain ⟨z, hz1, rfl⟩ := List.mem_map.1 hy
      have := bounds_u8 (hwf z (List.mem_of_mem_take hz1))
      omega
    · intro hpos
      rw [hlen] at hpos
      have hpos' : 0 < zs.length := by omega
      obtain ⟨b, off, rfl, hc⟩ := ints_at hcell hpos'
      refine ⟨b, off, rfl, World.block_lt_of_cell? w _ (hc 0 hpos'), fun i hi => ?_⟩
      rw [hlen] at hi
      have hi' : i < zs.length := by omega
      rw [hc i hi']
      have hwi := bounds_u8 (hwf zs[i] (List.getElem_mem hi'))
      simp [List.getD, hi', hi]
      omega
theorem bytes_open {fuel : Nat} {v : Value} {x : DataW H × List MemPlace}
    (h : DataW.trod enc Tryz.prog w base spare held fuel 26 [v] = some x) : ∃ l : List Nat, BytesArg w v l := by
  rcases open_ints Tryz.underlying26 Tryz.underlying5 (by kernel_rfl) h with ⟨hcs, _⟩ | ⟨a, len, cap, zs, hcs, _, hl, hm, hz, _, hcell, hwz⟩
  · simp at hcs
    subst hcs
    exact ⟨[], BytesArg.nil w⟩
  · simp at hcs
    subst hcs
    exact BytesArg.of_row (.inr ⟨a, rfl, hl, hm, by have := hz; split at this <;> omega, hcell, hwz⟩)
end
end Go.Proofs.YtknjpdcpmpfklaaGreatDoor
set_option maxRecDepth 100000
namespace Go.Proofs.YtknjpdcpmpfklaaGreatDoor
open Go.RowKit
theorem nat_u8 {n : Int} (h : (Lit.int .u8 n).wf = true) : ∃ m : Nat, n = (m : Int) ∧ m < 256 := by
  have := bounds_u8 h
  exact ⟨n.toNat, by omega, by omega⟩
end Go.Proofs.YtknjpdcpmpfklaaGreatDoor
