/- What PictureKeeps reaches of my texts, part 10. -/
import Derived.Test.YtknjpdcpmpfklaaGreatDoorPictureKeepsI
set_option maxRecDepth 100000
set_option maxHeartbeats 4000000
set_option maxRecDepth 100000
namespace Go.Proofs.YtknjpdcpmpfklaaGreatDoor
open Go.RowKit
theorem chs_off {l : List Nat} {W H K : Int} (h : (chsP l K W H).2 = 0) : (chsP l K W H).1.length = plOff W H 3 := by
  have hz : (plTo l K W H 3).2.1 = 0 := by
    apply Decidable.byContradiction; intro hn
    rw [chsP_bad (Nat.le_refl 3) hn] at h; exact hn h
  unfold chsP at h ⊢
  rw [if_pos hz] at h ⊢
  split at h
  · rename_i hd; rw [if_pos hd]; exact plTo_len 3 hz
  · cases h
theorem newE_side {W H : Int} (h1 : sideOk W) (h2 : sideOk H) : newE W H = 0 := newE_yes (sideB_of h1) (sideB_of h2)
theorem pc_decode (W H R B K Q D F : Int) (v : Value) (l : List Nat) (g : FD) (g0 g1 g2 : Value) (h : FD) (h0 h1 h2 : Value) (T_b : Nat → Prop) (T_g0 : Nat → Prop) (T_g1 : Nat → Prop) (T_g2 : Nat → Prop) (T_h0 : Nat → Prop) (T_h1 : Nat → Prop) (T_h2 : Nat → Prop) (w0 : World) (hA : ActsIn w0) (hO : ScanIn w0) (hs : StepsAt w0) (hw : Waves w0) (hl : l.length ≤ 1001) (h_b : Byt w0 T_b v (l)) (h_g0 : Byt w0 T_g0 g0 ((g).p0)) (h_g1 : Byt w0 T_g1 g1 ((g).p1)) (h_g2 : Byt w0 T_g2 g2 ((g).p2)) (h_h0 : Byt w0 T_h0 h0 ((h).p0)) (h_h1 : Byt w0 T_h1 h1 ((h).p1)) (h_h2 : Byt w0 T_h2 h2 ((h).p2)) :
  Calls Tryz.prog 12 #[.agg #[.int .i64 (W), .int .i64 (H), .int .i64 (R), .int .i64 (B)], .agg #[.int .i64 (K), .int .i64 (Q), .int .i64 (D), .int .i64 (F)], v, .agg #[.int .i64 ((g).W), .int .i64 ((g).H), g0, g1, g2], .agg #[.int .i64 ((h).W), .int .i64 ((h).H), h0, h1, h2]] w0 fun e w' => ∃ (v1 : Value) (T1 : Nat → Prop) (v2 : Value) (T2 : Nat → Prop) (v3 : Value) (T3 : Nat → Prop), e = .returned (.tuple #[.agg #[.int .i64 ((decF l W H R B K Q D F g h).W), .int .i64 ((decF l W H R B K Q D F g h).H), v1, v2, v3], .int .i64 (decE l W H R B K Q D F g h)]) ∧ Kept (fun _ => False) w0 w' ∧ (Owb w' T1 v1 ((decF l W H R B K Q D F g h).p0) ∧ Grew w0 noB T1) ∧ (Owb w' T2 v2 ((decF l W H R B K Q D F g h).p1) ∧ Grew w0 noB T2) ∧ (Owb w' T3 v3 ((decF l W H R B K Q D F g h).p2) ∧ Grew w0 noB T3) ∧ Apart T1 T2 ∧ Apart T1 T3 ∧ Apart T2 T3 := by
 refine calls_wm (args := [.agg #[iv W, iv H, iv R, iv B], .agg #[iv K, iv Q, iv D, iv F], v, .agg #[iv (g.W), iv (g.H), g0, g1, g2], .agg #[iv (h.W), iv (h.H), h0, h1, h2]]) 92 Tryz.func12 rfl rfl (Nat.le_of_ble_eq_true rfl) ?_
 have K0 := Kept.refl (fun _ => False) w0
 have g_b := Grew.refl w0 T_b
 have g_g0 := Grew.refl w0 T_g0
 have g_g1 := Grew.refl w0 T_g1
 have g_g2 := Grew.refl w0 T_g2
 have g_h0 := Grew.refl w0 T_h0
 have g_h1 := Grew.refl w0 T_h1
 have g_h2 := Grew.refl w0 T_h2
 refine wq_seq (wq_region (wl_box_stc (vs := [iv W, iv H, iv R, iv B]) rfl rfl rfl rfl fun p1 w2 B4 g5 k3 => ?_))
 have B14 := h_b.all k3 Apart.none
 have B15 := h_g0.all k3 Apart.none
 have B16 := h_g1.all k3 Apart.none
 have B17 := h_g2.all k3 Apart.none
 have B18 := h_h0.all k3 Apart.none
 have B19 := h_h1.all k3 Apart.none
 have B20 := h_h2.all k3 Apart.none
 have K21 := K0.tr k3
 refine wl_box_stc (vs := [iv K, iv Q, iv D, iv F]) rfl rfl rfl rfl fun p22 w23 B25 g26 k24 => ?_
 have B36 := B14.all k24 Apart.none
 have B37 := B15.all k24 Apart.none
 have B38 := B16.all k24 Apart.none
 have B39 := B17.all k24 Apart.none
 have B40 := B18.all k24 Apart.none
 have B41 := B19.all k24 Apart.none
 have B42 := B20.all k24 Apart.none
 have B43 := B4.all k24 id
 have K44 := K21.tr k24
 refine wl_box_stc (vs := [iv (g.W), iv (g.H), g0, g1, g2]) rfl rfl rfl rfl fun p45 w46 B48 g49 k47 => ?_
 have B60 := B36.all k47 Apart.none
 have B61 := B37.all k47 Apart.none
 have B62 := B38.all k47 Apart.none
 have B63 := B39.all k47 Apart.none
 have B64 := B40.all k47 Apart.none
 have B65 := B41.all k47 Apart.none
 have B66 := B42.all k47 Apart.none
 have B67 := B43.all k47 id
 have B68 := B25.all k47 id
 have K69 := K44.tr k47
 refine wl_box_stc (vs := [iv (h.W), iv (h.H), h0, h1, h2]) rfl rfl rfl rfl fun p70 w71 B73 g74 k72 => ?_
 have B86 := B60.all k72 Apart.none
 have B87 := B61.all k72 Apart.none
 have B88 := B62.all k72 Apart.none
 have B89 := B63.all k72 Apart.none
 have B90 := B64.all k72 Apart.none
 have B91 := B65.all k72 Apart.none
 have B92 := B66.all k72 Apart.none
 have B93 := B67.all k72 id
 have B94 := B68.all k72 id
 have B95 := B48.all k72 id
 have K96 := K69.tr k72
 refine wl_alloc_stc (n := 5) (vs := [iv 0, iv 0, .slice none 0 0, .slice none 0 0, .slice none 0 0]) rfl rfl rfl (by kernel_rfl) fun p97 w98 B100 g101 k99 => ?_
 have gr102 : Grew w0 noB (onB p97) := Grew.new K96 g101
 have B114 := B86.all k99 Apart.none
 have B115 := B87.all k99 Apart.none
 have B116 := B88.all k99 Apart.none
 have B117 := B89.all k99 Apart.none
 have B118 := B90.all k99 Apart.none
 have B119 := B91.all k99 Apart.none
 have B120 := B92.all k99 Apart.none
 have B121 := B93.all k99 id
 have B122 := B94.all k99 id
 have B123 := B95.all k99 id
 have B124 := B73.all k99 id
 have K125 := K96.tr k99
 refine wl_alloc_cel (v := iv 0) rfl rfl rfl (by kernel_rfl) rfl fun p126 w127 B130 g132 k128 => ?_
 have gr133 : Grew w0 noB (onB p126) := Grew.new K125 g132
 have ap145 : Apart (onB p126) (onB p97) := Apart.new g132 (onB_live B100.lt)
 have B146 := B114.all k128 Apart.none
 have B147 := B115.all k128 Apart.none
 have B148 := B116.all k128 Apart.none
 have B149 := B117.all k128 Apart.none
 have B150 := B118.all k128 Apart.none
 have B151 := B119.all k128 Apart.none
 have B152 := B120.all k128 Apart.none
 have B153 := B121.all k128 id
 have B154 := B122.all k128 id
 have B155 := B123.all k128 id
 have B156 := B124.all k128 id
 have B157 := B100.all k128 id
 have K158 := K125.tr k128
 refine wl_nil fun F159 hF160 => ?_
 have s161 : F159 0 = .agg #[iv W, iv H, iv R, iv B] := (hF160 0).trans rfl
 have s162 : F159 1 = .agg #[iv K, iv Q, iv D, iv F] := (hF160 1).trans rfl
 have s163 : F159 2 = v := (hF160 2).trans rfl
 have s164 : F159 3 = .agg #[iv (g.W), iv (g.H), g0, g1, g2] := (hF160 3).trans rfl
 have s165 : F159 4 = .agg #[iv (h.W), iv (h.H), h0, h1, h2] := (hF160 4).trans rfl
 have s166 : F159 92 = undef := (hF160 92).trans rfl
 have s167 : F159 5 = pt p1 0 := (hF160 5).trans rfl
 have s168 : F159 6 = pt p22 0 := (hF160 6).trans rfl
 have s169 : F159 8 = pt p45 0 := (hF160 8).trans rfl
 have s170 : F159 9 = pt p70 0 := (hF160 9).trans rfl
 have s171 : F159 10 = pt p97 0 := (hF160 10).trans rfl
 have s172 : F159 11 = pt p126 0 := (hF160 11).trans rfl
 clear hF160
 refine then_normal (wq_seq (wq_seq (wq_region (wl_v (.agg #[iv W, iv H, iv R, iv B]) rfl rfl (y_load_stc stcT_seq rfl s167 B153 rr) (wl_v (.agg #[iv K, iv Q, iv D, iv F]) rfl rfl (y_load_stc stcT_head rfl s168 B154 rr) (wl_cs rfl rfl rfl rfl rfl (fun _ _ => by kernel_rfl) (vsC rfl (vsC rfl vsN)) (pc_check W H R B K Q D F  _   ) fun w173 k174 => ?_))))))
 have B175 := B146.all k174 Apart.none
 have B176 := B147.all k174 Apart.none
 have B177 := B148.all k174 Apart.none
 have B178 := B149.all k174 Apart.none
 have B179 := B150.all k174 Apart.none
 have B180 := B151.all k174 Apart.none
 have B181 := B152.all k174 Apart.none
 have B182 := B153.all k174 id
 have B183 := B154.all k174 id
 have B184 := B155.all k174 id
 have B185 := B156.all k174 id
 have B186 := B157.all k174 id
 have B187 := B130.all k174 id
 have K188 := K158.tr k174
 refine wl_v (iv (chkE W H R B K Q D F)) rfl rfl (y_asg rfl rfl rr) (wl_nil fun F189 hF190 => ?_)
 obtain ⟨s191, s192, s193, s194, s195, s196, s197, s198, s199, s200, s201, s202⟩ := t12 hF190 0 s161 1 s162 2 s163 3 s164 4 s165 92 s166 5 s167 6 s168 8 s169 9 s170 10 s171 11 s172
 have s203 : F189 12 = iv (chkE W H R B K Q D F) := (hF190 12).trans rfl
 clear hF190
 refine then_normal (wq_seq (wq_region (wl_mv rfl rfl rfl s203 (wl_v (.bool (decide ((chkE W H R B K Q D F) ≠ 0))) rfl rfl (y_neqI rfl rfl rfl rfl rr) (wl_nil fun F204 hF205 => ?_)))))
 obtain ⟨s206, s207, s208, s209, s210, s211, s212, s213, s214, s215, s216, s217, s218⟩ := t13 hF205 0 s191 1 s192 2 s193 3 s194 4 s195 92 s196 5 s197 6 s198 8 s199 9 s200 10 s201 11 s202 12 s203
 have s219 : F204 24 = .bool (decide ((chkE W H R B K Q D F) ≠ 0)) := (hF205 24).trans rfl
 clear hF205
 refine then_normal ?_
 refine wq_cond s219 (fun c220 => ?_) (fun c220 => ?_)
 ·replace c220 := of_decide_eq_true c220
  refine wq_seq ?_
  have hmn := chk_bad (W := W) (H := H) (R := R) (B := B) (K := K) (Q := Q) (D := D) (F := F) (by assumption)
  have hE := decE_may (l := l) (g := g) (h := h) hmn
  have hFr := decF_no (l := l) (W := W) (H := H) (R := R) (B := B) (K := K) (Q := Q) (D := D) (F := F) (g := g) (h := h) (by rw [hE]; decide)
  refine wq_region (wl_v (.agg #[iv 0, iv 0, .slice none 0 0, .slice none 0 0, .slice none 0 0]) rfl rfl (y_buildL (l' := []) (cells := #[iv 0, iv 0, .slice none 0 0, .slice none 0 0, .slice none 0 0]) rfl bpN (by kernel_rfl) rfl rr) (wl_mv rfl rfl rfl s218 (wl_store_stc (us := [iv 0, iv 0, .slice none 0 0, .slice none 0 0, .slice none 0 0]) stcT_frame rfl rfl rfl s216 rfl B186 rfl (oneI rfl (oneI rfl (oneI rfl (oneI rfl (oneI rfl oneN))))) fun w221 B222 k223 => ?_)))
  have B235 := B187.all k223 (ap145 p126 rfl)
  have K236 := K188.trans k223 (Grew.ok (S := fun _ => False) gr102 noB_le)
  refine wl_store_cel rfl rfl rfl s217 rfl B235 (by rfl) (by kernel_rfl) fun w237 B238 k239 => ?_
  have B251 := B222.all k239 (ap145.symm p97 rfl)
  have K252 := K236.trans k239 (Grew.ok (S := fun _ => False) gr133 noB_le)
  refine wl_nil fun F253 hF254 => ?_
  obtain ⟨s255, s256, s257⟩ := t3 hF254 92 s211 10 s216 11 s217
  clear hF254
  refine then_normal (wq_ret (then_ret ?_))
  exact endm_2 (ms := []) (Eq.trans s255 (rfl : undef = markV [])) trivial rfl (res_stc (vs := [iv 0, iv 0, .slice none 0 0, .slice none 0 0, .slice none 0 0]) stcT_frame rfl s256 B251) (res_cel Tryz.underlying33 rfl rfl s257 B238) ⟨(.slice none 0 0), noB, (.slice none 0 0), noB, (.slice none 0 0), noB, (by first | exact hfalse.elim | (rw [hE, hFr, chk_no hmn]; rfl) | rw [hE, hFr, chk_no hmn] | (rw [hE, hFr, ← fd_all 3 (Nat.le_refl 3)]; rfl) | rw [hE, hFr, ← fd_all 3 (Nat.le_refl 3)] | (rw [hE, hFr]; rfl) | rw [hE, hFr]), K252, ⟨(by first | exact hfalse.elim | (rw [hFr, ← fd_all 3 (Nat.le_refl 3)]; exact (Owb.nil _)) | (rw [hFr]; exact (Owb.nil _))), (Grew.refl _ _)⟩, ⟨(by first | exact hfalse.elim | (rw [hFr, ← fd_all 3 (Nat.le_refl 3)]; exact (Owb.nil _)) | (rw [hFr]; exact (Owb.nil _))), (Grew.refl _ _)⟩, ⟨(by first | exact hfalse.elim | (rw [hFr, ← fd_all 3 (Nat.le_refl 3)]; exact (Owb.nil _)) | (rw [hFr]; exact (Owb.nil _))), (Grew.refl _ _)⟩, Apart.none, Apart.none, Apart.none⟩
 ·replace c220 := of_decide_eq_false c220
  refine wq_skip (then_normal (wq_seq (wq_seq ?_)))
  have hm : mayP W H R B K Q D F := chk_may (by first | assumption | (apply Decidable.byContradiction; assumption))
  have hsq := hm.1
  have hsd := seq_side hm.1
  have hhd := hm.2
  by_cases d258 : ¬ ((K ≠ 0 ∧ ¬ fitsP W H R B g) ∨ (K = 2 ∧ ¬ fitsP W H R B h))
  ·skip
   refine wq_region (wl_v (.agg #[iv W, iv H, iv R, iv B]) rfl rfl (y_load_stc stcT_seq rfl s212 B182 rr) (wl_v (pt p22 0) rfl rfl (y_fieldR (n := 1) rfl s213 Tryz.underlying25 rfl (by kernel_rfl) (by decide) rfl rr) (wl_v (iv K) rfl rfl (y_ld_stc rfl rfl Tryz.underlying3 B183 rfl rfl rr) (wl_v (.agg #[iv (g.W), iv (g.H), g0, g1, g2]) rfl rfl (y_load_stc stcT_frame rfl s214 B184 rr) (wl_v (.agg #[iv (h.W), iv (h.H), h0, h1, h2]) rfl rfl (y_load_stc stcT_frame rfl s215 B185 rr) (wl_call (R := fun v_ w_ => v_ = .bool true ∧ Kept (fun _ => False) w173 w_) rfl rfl (y_cs rfl rfl rfl (fun _ _ => by kernel_rfl) (ev_func _) (vsC rfl (vsC rfl (vsC rfl (vsC rfl vsN)))) (pc_has W H R B K g g0 g1 g2 h h0 h1 h2 T_g0 T_g1 T_g2 T_h0 T_h1 T_h2 _  B176 B177 B178 B179 B180 B181 ) (fun e_ w_ h_ => ⟨_, h_.1, (congrArg Value.bool (decide_eq_true d258)), h_.2⟩)) ?_))))))
   rintro _ w259 ⟨rfl, k260⟩
   have B261 := B175.all k260 Apart.none
   have B262 := B176.all k260 Apart.none
   have B263 := B177.all k260 Apart.none
   have B264 := B178.all k260 Apart.none
   have B265 := B179.all k260 Apart.none
   have B266 := B180.all k260 Apart.none
   have B267 := B181.all k260 Apart.none
   have B268 := B182.all k260 id
   have B269 := B183.all k260 id
   have B270 := B184.all k260 id
   have B271 := B185.all k260 id
   have B272 := B186.all k260 id
   have B273 := B187.all k260 id
   have K274 := K188.tr k260
   refine wl_v (.bool false) rfl rfl (y_not rfl rfl rfl rr) (wl_nil fun F275 hF276 => ?_)
   obtain ⟨s277, s278, s279, s280, s281, s282, s283, s284, s285, s286, s287, s288, s289, s290⟩ := t14 hF276 0 s206 1 s207 2 s208 3 s209 4 s210 92 s211 5 s212 6 s213 8 s214 9 s215 10 s216 11 s217 12 s218 24 s219
   have s291 : F275 33 = .bool false := (hF276 33).trans rfl
   clear hF276
   refine then_normal ?_
   refine wq_cond (t := false) s291 (fun e => by cases e) (fun _ => ?_)
   refine wq_skip (then_normal (wq_seq ?_))
   have hn : ¬ ((K ≠ 0 ∧ ¬ fitsP W H R B g) ∨ (K = 2 ∧ ¬ fitsP W H R B h)) := by first | assumption | (apply Decidable.byContradiction; assumption)
   have hEc := (decE_chs (l := l) (g := g) (h := h) hm hn).trans (congrArg Prod.snd (chsE_yes hm).symm)
   refine wq_region (wl_v (.agg #[iv W, iv H, iv R, iv B]) rfl rfl (y_load_stc stcT_seq rfl s283 B268 rr) (wl_v (.agg #[iv K, iv Q, iv D, iv F]) rfl rfl (y_load_stc stcT_head rfl s284 B269 rr) (wl_mv rfl rfl rfl s279 (wl_call (R := fun v_ w_ => ∃ (v292 : Value) (T295 : Nat → Prop), .tuple #[v292, iv ((chsE l W H R B K Q D F).2)] = v_ ∧ Kept (fun _ => False) w259 w_ ∧ (RoO rCh w_ T295 v292 ((chsE l W H R B K Q D F).1) ∧ Grew w259 noB T295)) rfl rfl (y_cs rfl rfl rfl (fun _ _ => by kernel_rfl) (ev_func _) (vsC rfl (vsC rfl (vsC rfl vsN))) (pc_choices W H R B K Q D F v l T_b _ (hA.all K274) (hO.all K274) (by first | omega | (simp; omega)) B261 ) (fun e_ w_ h_ => by obtain ⟨v292_, T295_, he_, hr_⟩ := h_; exact ⟨_, he_, v292_, T295_, rfl, hr_⟩)) ?_))))
   rintro _ w293 ⟨v292, T295, rfl, k294, ⟨B296, g297⟩⟩
   have B298 := B261.all k294 Apart.none
   have B299 := B262.all k294 Apart.none
   have B300 := B263.all k294 Apart.none
   have B301 := B264.all k294 Apart.none
   have B302 := B265.all k294 Apart.none
   have B303 := B266.all k294 Apart.none
   have B304 := B267.all k294 Apart.none
   have B305 := B268.all k294 id
   have B306 := B269.all k294 id
   have B307 := B270.all k294 id
   have B308 := B271.all k294 id
   have B309 := B272.all k294 id
   have B310 := B273.all k294 id
   have K311 := K274.tr k294
   refine wl_v (.tuple #[v292, iv ((chsE l W H R B K Q D F).2)]) rfl rfl (y_mov rfl rfl rr) (wl_v v292 rfl rfl (y_ext rfl rfl rfl rr) (wl_v (iv ((chsE l W H R B K Q D F).2)) rfl rfl (y_ext rfl rfl rfl rr) (wl_alloc_cel (v := .slice none 0 0) rfl rfl rfl (by kernel_rfl) rfl fun p326 w327 B330 g332 k328 => ?_)))
   have gr333 : Grew w0 noB (onB p326) := Grew.new K311 g332
   have ap334 : Apart (onB p326) T_b := Apart.new g332 B298.live
   have ap335 : Apart (onB p326) T_g0 := Apart.new g332 B299.live
   have ap336 : Apart (onB p326) T_g1 := Apart.new g332 B300.live
   have ap337 : Apart (onB p326) T_g2 := Apart.new g332 B301.live
   have ap338 : Apart (onB p326) T_h0 := Apart.new g332 B302.live
   have ap339 : Apart (onB p326) T_h1 := Apart.new g332 B303.live
   have ap340 : Apart (onB p326) T_h2 := Apart.new g332 B304.live
   have ap341 : Apart (onB p326) (onB p1) := Apart.new g332 (onB_live B305.lt)
   have ap342 : Apart (onB p326) (onB p22) := Apart.new g332 (onB_live B306.lt)
   have ap343 : Apart (onB p326) (onB p45) := Apart.new g332 (onB_live B307.lt)
   have ap344 : Apart (onB p326) (onB p70) := Apart.new g332 (onB_live B308.lt)
   have ap345 : Apart (onB p326) (onB p97) := Apart.new g332 (onB_live B309.lt)
   have ap346 : Apart (onB p326) (onB p126) := Apart.new g332 (onB_live B310.lt)
   have ap347 : Apart (onB p326) T295 := Apart.new g332 B296.live
   have B348 := B298.all k328 Apart.none
   have B349 := B299.all k328 Apart.none
   have B350 := B300.all k328 Apart.none
   have B351 := B301.all k328 Apart.none
   have B352 := B302.all k328 Apart.none
   have B353 := B303.all k328 Apart.none
   have B354 := B304.all k328 Apart.none
   have B355 := B305.all k328 id
   have B356 := B306.all k328 id
   have B357 := B307.all k328 id
   have B358 := B308.all k328 id
   have B359 := B309.all k328 id
   have B360 := B310.all k328 id
   have B361 := B296.all k328 Apart.none
   have K362 := K311.tr k328
   refine wl_store_cel rfl rfl rfl rfl rfl B330 B361.oneC (by kernel_rfl) fun w363 B364 k365 => ?_
   have B366 := B348.all k365 ap334.symm
   have B367 := B349.all k365 ap335.symm
   have B368 := B350.all k365 ap336.symm
   have B369 := B351.all k365 ap337.symm
   have B370 := B352.all k365 ap338.symm
   have B371 := B353.all k365 ap339.symm
   have B372 := B354.all k365 ap340.symm
   have B373 := B355.all k365 (ap341.symm p1 rfl)
   have B374 := B356.all k365 (ap342.symm p22 rfl)
   have B375 := B357.all k365 (ap343.symm p45 rfl)
   have B376 := B358.all k365 (ap344.symm p70 rfl)
   have B377 := B359.all k365 (ap345.symm p97 rfl)
   have B378 := B360.all k365 (ap346.symm p126 rfl)
   have B379 := B361.all k365 ap347.symm
   have K380 := K362.trans k365 (Grew.ok (S := fun _ => False) gr333 noB_le)
   refine wl_v (iv ((chsE l W H R B K Q D F).2)) rfl rfl (y_asg rfl rfl rr) (wl_nil fun F381 hF382 => ?_)
   obtain ⟨s383, s384, s385, s386, s387, s388, s389, s390, s391, s392, s393, s394, s395, s396, s397⟩ := t15 hF382 0 s277 1 s278 2 s279 3 s280 4 s281 92 s282 5 s283 6 s284 8 s285 9 s286 10 s287 11 s288 12 s289 24 s290 33 s291
   have s398 : F381 13 = pt p326 0 := (hF382 13).trans rfl
   have s399 : F381 14 = iv ((chsE l W H R B K Q D F).2) := (hF382 14).trans rfl
   clear hF382
   refine then_normal (wq_seq (wq_seq (wq_region (wl_mv rfl rfl rfl s399 (wl_v (.bool (decide (((chsE l W H R B K Q D F).2) ≠ 0))) rfl rfl (y_neqI rfl rfl rfl rfl rr) (wl_nil fun F400 hF401 => ?_))))))
   obtain ⟨s402, s403, s404, s405, s406, s407, s408, s409, s410, s411, s412, s413, s414, s415, s416, s417, s418⟩ := t17 hF401 0 s383 1 s384 2 s385 3 s386 4 s387 92 s388 5 s389 6 s390 8 s391 9 s392 10 s393 11 s394 12 s395 24 s396 33 s397 13 s398 14 s399
   have s419 : F400 43 = .bool (decide (((chsE l W H R B K Q D F).2) ≠ 0)) := (hF401 43).trans rfl
   clear hF401
   refine then_normal ?_
   refine wq_cond s419 (fun c420 => ?_) (fun c420 => ?_)
   ·replace c420 := of_decide_eq_true c420
    refine wq_seq ?_
    have hE := hEc
    have hFr := decF_no (l := l) (W := W) (H := H) (R := R) (B := B) (K := K) (Q := Q) (D := D) (F := F) (g := g) (h := h) (by rw [hE]; assumption)
    refine wq_region (wl_v (.agg #[iv 0, iv 0, .slice none 0 0, .slice none 0 0, .slice none 0 0]) rfl rfl (y_buildL (l' := []) (cells := #[iv 0, iv 0, .slice none 0 0, .slice none 0 0, .slice none 0 0]) rfl bpN (by kernel_rfl) rfl rr) (wl_mv rfl rfl rfl s418 (wl_store_stc (us := [iv 0, iv 0, .slice none 0 0, .slice none 0 0, .slice none 0 0]) stcT_frame rfl rfl rfl s412 rfl B377 rfl (oneI rfl (oneI rfl (oneI rfl (oneI rfl (oneI rfl oneN))))) fun w421 B422 k423 => ?_)))
    have B435 := B378.all k423 (ap145 p126 rfl)
    have K438 := K380.trans k423 (Grew.ok (S := fun _ => False) gr102 noB_le)
    refine wl_store_cel rfl rfl rfl s413 rfl B435 (by rfl) (by kernel_rfl) fun w439 B440 k441 => ?_
    have B453 := B422.all k441 (ap145.symm p97 rfl)
    have K456 := K438.trans k441 (Grew.ok (S := fun _ => False) gr133 noB_le)
    refine wl_nil fun F457 hF458 => ?_
    obtain ⟨s459, s460, s461⟩ := t3 hF458 92 s407 10 s412 11 s413
    clear hF458
    refine then_normal (wq_ret (then_ret ?_))
    exact endm_2 (ms := []) (Eq.trans s459 (rfl : undef = markV [])) trivial rfl (res_stc (vs := [iv 0, iv 0, .slice none 0 0, .slice none 0 0, .slice none 0 0]) stcT_frame rfl s460 B453) (res_cel Tryz.underlying33 rfl rfl s461 B440) ⟨(.slice none 0 0), noB, (.slice none 0 0), noB, (.slice none 0 0), noB, (by first | exact hfalse.elim | (rw [hE, hFr, chk_no hmn]; rfl) | rw [hE, hFr, chk_no hmn] | (rw [hE, hFr, ← fd_all 3 (Nat.le_refl 3)]; rfl) | rw [hE, hFr, ← fd_all 3 (Nat.le_refl 3)] | (rw [hE, hFr]; rfl) | rw [hE, hFr]), K456, ⟨(by first | exact hfalse.elim | (rw [hFr, ← fd_all 3 (Nat.le_refl 3)]; exact (Owb.nil _)) | (rw [hFr]; exact (Owb.nil _))), (Grew.refl _ _)⟩, ⟨(by first | exact hfalse.elim | (rw [hFr, ← fd_all 3 (Nat.le_refl 3)]; exact (Owb.nil _)) | (rw [hFr]; exact (Owb.nil _))), (Grew.refl _ _)⟩, ⟨(by first | exact hfalse.elim | (rw [hFr, ← fd_all 3 (Nat.le_refl 3)]; exact (Owb.nil _)) | (rw [hFr]; exact (Owb.nil _))), (Grew.refl _ _)⟩, Apart.none, Apart.none, Apart.none⟩
   ·replace c420 := of_decide_eq_false c420
    refine wq_skip (then_normal (wq_seq ?_))
    have hE : decE l W H R B K Q D F g h = 0 := hEc.trans (by first | assumption | (apply Decidable.byContradiction; assumption))
    have hFr := decF_yes hE
    have hc0 : (chsP l K W H).2 = 0 := by have h_ := hEc.symm.trans hE; rw [chsE_yes hm] at h_; exact h_
    have hlo0 := chs_off hc0
    have hmay := chsP_may (l := l) (W := W) (H := H) (most_pos hm.2)
    obtain ⟨L, hL⟩ : ∃ L, L = (chsP l K W H).1 := ⟨_, rfl⟩
    rw [← hL] at hlo0 hFr hmay
    have hnw := newE_side hm.1.1 hm.1.2.1
    have B462 : RoO rCh w363 T295 v292 L := (by rw [hL, ← congrArg Prod.fst (chsE_yes (l := l) hm)]; exact B379)
    refine wq_region (wl_v (pt p1 0) rfl rfl (y_fieldR (n := 1) rfl s408 Tryz.underlying23 rfl (by kernel_rfl) (by decide) rfl rr) (wl_v (iv W) rfl rfl (y_ld_stc rfl rfl Tryz.underlying3 B373 rfl rfl rr) (wl_v (pt p1 1) rfl rfl (y_fieldR (n := 1) rfl s408 Tryz.underlying23 rfl (by kernel_rfl) (by decide) rfl rr) (wl_v (iv H) rfl rfl (y_ld_stc rfl rfl Tryz.underlying3 B373 rfl rfl rr) (wl_call (R := fun v_ w_ => ∃ (v463 : Value) (T468 : Nat → Prop) (v464 : Value) (T469 : Nat → Prop) (v465 : Value) (T470 : Nat → Prop), .tuple #[.agg #[iv ((newF W H 0).W), iv ((newF W H 0).H), v463, v464, v465], iv (newE W H)] = v_ ∧ Kept (fun _ => False) w363 w_ ∧ (Owb w_ T468 v463 ((newF W H 0).p0) ∧ Grew w363 noB T468) ∧ (Owb w_ T469 v464 ((newF W H 0).p1) ∧ Grew w363 noB T469) ∧ (Owb w_ T470 v465 ((newF W H 0).p2) ∧ Grew w363 noB T470) ∧ Apart T468 T469 ∧ Apart T468 T470 ∧ Apart T469 T470) rfl rfl (y_cs rfl rfl rfl (fun _ _ => by kernel_rfl) (ev_func _) (vsC rfl (vsC rfl (vsC rfl vsN))) (pl_new W H 0  _ (by decide)  ) (fun e_ w_ h_ => by obtain ⟨v463_, T468_, v464_, T469_, v465_, T470_, he_, hr_⟩ := h_; exact ⟨_, he_, v463_, T468_, v464_, T469_, v465_, T470_, rfl, hr_⟩)) ?_)))))
    rintro _ w466 ⟨v463, T468, v464, T469, v465, T470, rfl, k467, ⟨B471, g474⟩, ⟨B472, g475⟩, ⟨B473, g476⟩, ap477, ap478, ap479⟩
    have B480 := B366.all k467 Apart.none
    have B481 := B367.all k467 Apart.none
    have B482 := B368.all k467 Apart.none
    have B483 := B369.all k467 Apart.none
    have B484 := B370.all k467 Apart.none
    have B485 := B371.all k467 Apart.none
    have B486 := B372.all k467 Apart.none
    have B487 := B373.all k467 id
    have B488 := B374.all k467 id
    have B489 := B375.all k467 id
    have B490 := B376.all k467 id
    have B491 := B377.all k467 id
    have B492 := B378.all k467 id
    have B493 := B462.all k467 Apart.none
    have B494 := B364.all k467 id
    have K495 := K380.tr k467
    have gr496 : Grew w0 noB T468 := Grew.new K380 g474
    have ap497 : Apart T468 T_b := Apart.new g474 B366.live
    have ap498 : Apart T468 T_g0 := Apart.new g474 B367.live
    have ap499 : Apart T468 T_g1 := Apart.new g474 B368.live
    have ap500 : Apart T468 T_g2 := Apart.new g474 B369.live
    have ap501 : Apart T468 T_h0 := Apart.new g474 B370.live
    have ap502 : Apart T468 T_h1 := Apart.new g474 B371.live
    have ap503 : Apart T468 T_h2 := Apart.new g474 B372.live
    have ap504 : Apart T468 (onB p1) := Apart.new g474 (onB_live B373.lt)
    have ap505 : Apart T468 (onB p22) := Apart.new g474 (onB_live B374.lt)
    have ap506 : Apart T468 (onB p45) := Apart.new g474 (onB_live B375.lt)
    have ap507 : Apart T468 (onB p70) := Apart.new g474 (onB_live B376.lt)
    have ap508 : Apart T468 (onB p97) := Apart.new g474 (onB_live B377.lt)
    have ap509 : Apart T468 (onB p126) := Apart.new g474 (onB_live B378.lt)
    have ap510 : Apart T468 T295 := Apart.new g474 B462.live
    have ap511 : Apart T468 (onB p326) := Apart.new g474 (onB_live B364.lt)
    have gr512 : Grew w0 noB T469 := Grew.new K380 g475
    have ap513 : Apart T469 T_b := Apart.new g475 B366.live
    have ap514 : Apart T469 T_g0 := Apart.new g475 B367.live
    have ap515 : Apart T469 T_g1 := Apart.new g475 B368.live
    have ap516 : Apart T469 T_g2 := Apart.new g475 B369.live
    have ap517 : Apart T469 T_h0 := Apart.new g475 B370.live
    have ap518 : Apart T469 T_h1 := Apart.new g475 B371.live
    have ap519 : Apart T469 T_h2 := Apart.new g475 B372.live
    have ap520 : Apart T469 (onB p1) := Apart.new g475 (onB_live B373.lt)
    have ap521 : Apart T469 (onB p22) := Apart.new g475 (onB_live B374.lt)
    have ap522 : Apart T469 (onB p45) := Apart.new g475 (onB_live B375.lt)
    have ap523 : Apart T469 (onB p70) := Apart.new g475 (onB_live B376.lt)
    have ap524 : Apart T469 (onB p97) := Apart.new g475 (onB_live B377.lt)
    have ap525 : Apart T469 (onB p126) := Apart.new g475 (onB_live B378.lt)
    have ap526 : Apart T469 T295 := Apart.new g475 B462.live
    have ap527 : Apart T469 (onB p326) := Apart.new g475 (onB_live B364.lt)
    have gr528 : Grew w0 noB T470 := Grew.new K380 g476
    have ap529 : Apart T470 T_b := Apart.new g476 B366.live
    have ap530 : Apart T470 T_g0 := Apart.new g476 B367.live
    have ap531 : Apart T470 T_g1 := Apart.new g476 B368.live
    have ap532 : Apart T470 T_g2 := Apart.new g476 B369.live
    have ap533 : Apart T470 T_h0 := Apart.new g476 B370.live
    have ap534 : Apart T470 T_h1 := Apart.new g476 B371.live
    have ap535 : Apart T470 T_h2 := Apart.new g476 B372.live
    have ap536 : Apart T470 (onB p1) := Apart.new g476 (onB_live B373.lt)
    have ap537 : Apart T470 (onB p22) := Apart.new g476 (onB_live B374.lt)
    have ap538 : Apart T470 (onB p45) := Apart.new g476 (onB_live B375.lt)
    have ap539 : Apart T470 (onB p70) := Apart.new g476 (onB_live B376.lt)
    have ap540 : Apart T470 (onB p97) := Apart.new g476 (onB_live B377.lt)
    have ap541 : Apart T470 (onB p126) := Apart.new g476 (onB_live B378.lt)
    have ap542 : Apart T470 T295 := Apart.new g476 B462.live
    have ap543 : Apart T470 (onB p326) := Apart.new g476 (onB_live B364.lt)
    refine wl_v (.tuple #[.agg #[iv ((newF W H 0).W), iv ((newF W H 0).H), v463, v464, v465], iv (newE W H)]) rfl rfl (y_mov rfl rfl rr) (wl_v (.agg #[iv ((newF W H 0).W), iv ((newF W H 0).H), v463, v464, v465]) rfl rfl (y_ext rfl rfl rfl rr) (wl_v (iv (newE W H)) rfl rfl (y_ext rfl rfl rfl rr) (wl_alloc_stc (n := 5) (vs := [iv 0, iv 0, .slice none 0 0, .slice none 0 0, .slice none 0 0]) rfl rfl rfl (by kernel_rfl) fun p544 w545 B547 g548 k546 => ?_)))
    have gr549 : Grew w0 noB (onB p544) := Grew.new K495 g548
    have ap550 : Apart (onB p544) T_b := Apart.new g548 B480.live
    have ap551 : Apart (onB p544) T_g0 := Apart.new g548 B481.live
    have ap552 : Apart (onB p544) T_g1 := Apart.new g548 B482.live
    have ap553 : Apart (onB p544) T_g2 := Apart.new g548 B483.live
    have ap554 : Apart (onB p544) T_h0 := Apart.new g548 B484.live
    have ap555 : Apart (onB p544) T_h1 := Apart.new g548 B485.live
    have ap556 : Apart (onB p544) T_h2 := Apart.new g548 B486.live
    have ap557 : Apart (onB p544) (onB p1) := Apart.new g548 (onB_live B487.lt)
    have ap558 : Apart (onB p544) (onB p22) := Apart.new g548 (onB_live B488.lt)
    have ap559 : Apart (onB p544) (onB p45) := Apart.new g548 (onB_live B489.lt)
    have ap560 : Apart (onB p544) (onB p70) := Apart.new g548 (onB_live B490.lt)
    have ap561 : Apart (onB p544) (onB p97) := Apart.new g548 (onB_live B491.lt)
    have ap562 : Apart (onB p544) (onB p126) := Apart.new g548 (onB_live B492.lt)
    have ap563 : Apart (onB p544) T295 := Apart.new g548 B493.live
    have ap564 : Apart (onB p544) (onB p326) := Apart.new g548 (onB_live B494.lt)
    have ap565 : Apart (onB p544) T468 := Apart.new g548 B471.live
    have ap566 : Apart (onB p544) T469 := Apart.new g548 B472.live
    have ap567 : Apart (onB p544) T470 := Apart.new g548 B473.live
    have B568 := B480.all k546 Apart.none
    have B569 := B481.all k546 Apart.none
    have B570 := B482.all k546 Apart.none
    have B571 := B483.all k546 Apart.none
    have B572 := B484.all k546 Apart.none
    have B573 := B485.all k546 Apart.none
    have B574 := B486.all k546 Apart.none
    have B575 := B487.all k546 id
    have B576 := B488.all k546 id
    have B577 := B489.all k546 id
    have B578 := B490.all k546 id
    have B579 := B491.all k546 id
    have B580 := B492.all k546 id
    have B581 := B493.all k546 Apart.none
    have B582 := B494.all k546 id
    have B583 := B471.all k546 Apart.none
    have B584 := B472.all k546 Apart.none
    have B585 := B473.all k546 Apart.none
    have K586 := K495.tr k546
    refine wl_store_stc (us := [iv ((newF W H 0).W), iv ((newF W H 0).H), v463, v464, v465]) stcT_frame rfl rfl rfl rfl rfl B547 rfl (oneI rfl (oneI rfl (oneI B583.one (oneI B584.one (oneI B585.one oneN))))) fun w587 B588 k589 => ?_
    have B590 := B568.all k589 ap550.symm
    have B591 := B569.all k589 ap551.symm
    have B592 := B570.all k589 ap552.symm
    have B593 := B571.all k589 ap553.symm
    have B594 := B572.all k589 ap554.symm
    have B595 := B573.all k589 ap555.symm
    have B596 := B574.all k589 ap556.symm
    have B597 := B575.all k589 (ap557.symm p1 rfl)
    have B598 := B576.all k589 (ap558.symm p22 rfl)
    have B599 := B577.all k589 (ap559.symm p45 rfl)
    have B600 := B578.all k589 (ap560.symm p70 rfl)
    have B601 := B579.all k589 (ap561.symm p97 rfl)
    have B602 := B580.all k589 (ap562.symm p126 rfl)
    have B603 := B581.all k589 ap563.symm
    have B604 := B582.all k589 (ap564.symm p326 rfl)
    have B605 := B583.all k589 ap565.symm
    have B606 := B584.all k589 ap566.symm
    have B607 := B585.all k589 ap567.symm
    have K608 := K586.trans k589 (Grew.ok (S := fun _ => False) gr549 noB_le)
    refine wl_v (iv (newE W H)) rfl rfl (y_asg rfl rfl rr) (wl_nil fun F609 hF610 => ?_)
    obtain ⟨s611, s612, s613, s614, s615, s616, s617, s618, s619, s620, s621, s622, s623, s624, s625, s626, s627⟩ := t17 hF610 0 s402 1 s403 2 s404 3 s405 4 s406 92 s407 5 s408 6 s409 8 s410 9 s411 10 s412 11 s413 12 s414 24 s415 33 s416 13 s417 43 s419
    have s628 : F609 15 = pt p544 0 := (hF610 15).trans rfl
    have s629 : F609 14 = iv (newE W H) := (hF610 14).trans rfl
    clear hF610
    refine then_normal (wq_seq (wq_seq (wq_region (wl_mv rfl rfl rfl s629 (wl_v (.bool (decide ((newE W H) ≠ 0))) rfl rfl (y_neqI rfl rfl rfl rfl rr) (wl_nil fun F630 hF631 => ?_))))))
    obtain ⟨s632, s633, s634, s635, s636, s637, s638, s639, s640, s641, s642, s643, s644, s645, s646, s647, s648, s649, s650⟩ := t19 hF631 0 s611 1 s612 2 s613 3 s614 4 s615 92 s616 5 s617 6 s618 8 s619 9 s620 10 s621 11 s622 12 s623 24 s624 33 s625 13 s626 43 s627 15 s628 14 s629
    have s651 : F630 55 = .bool (decide ((newE W H) ≠ 0)) := (hF631 55).trans rfl
    clear hF631
    refine then_normal ?_
    refine wq_cond s651 (fun c652 => ?_) (fun c652 => ?_)
    ·replace c652 := of_decide_eq_true c652
     refine wq_seq ?_
     exfalso; omega
    ·replace c652 := of_decide_eq_false c652
     refine wq_skip (then_normal (wq_seq (wq_seq (wq_region (wl_v (.agg #[iv W, iv H, iv R, iv B]) rfl rfl (y_load_stc stcT_seq rfl s638 B597 rr) (wl_call (R := fun v_ w_ => ∃ (v653 : Nat) (T656 : Nat → Prop), .func (.func 60) #[] #[pt v653 0] = v_ ∧ Kept (fun _ => False) w587 w_ ∧ (Sqs w_ T656 v653 W H R B ∧ Grew w587 noB T656)) rfl rfl (y_cs rfl rfl rfl (fun _ _ => by kernel_rfl) (ev_func _) (vsC rfl vsN) (pc_blocks W H R B  _   ) (fun e_ w_ h_ => by obtain ⟨v653_, T656_, he_, hr_⟩ := h_; exact ⟨_, he_, v653_, T656_, rfl, hr_⟩)) ?_))))))
     rintro _ w654 ⟨v653, T656, rfl, k655, ⟨B657, g658⟩⟩
     have B659 := B590.all k655 Apart.none
     have B660 := B591.all k655 Apart.none
     have B661 := B592.all k655 Apart.none
     have B662 := B593.all k655 Apart.none
     have B663 := B594.all k655 Apart.none
     have B664 := B595.all k655 Apart.none
     have B665 := B596.all k655 Apart.none
     have B666 := B597.all k655 id
     have B667 := B598.all k655 id
     have B668 := B599.all k655 id
     have B669 := B600.all k655 id
     have B670 := B601.all k655 id
     have B671 := B602.all k655 id
     have B672 := B603.all k655 Apart.none
     have B673 := B604.all k655 id
     have B674 := B605.all k655 Apart.none
     have B675 := B606.all k655 Apart.none
     have B676 := B607.all k655 Apart.none
     have B677 := B588.all k655 id
     have K678 := K608.tr k655
     have ap695 : Apart T656 T468 := Apart.new g658 B605.live
     have ap696 : Apart T656 T469 := Apart.new g658 B606.live
     have ap697 : Apart T656 T470 := Apart.new g658 B607.live
     have ap698 : Apart T656 (onB p544) := Apart.new g658 (onB_live B588.lt)
     refine wl_nil fun F699 hF700 => ?_
     obtain ⟨s701, s702, s703, s704, s705, s706, s707, s708, s709, s710, s711, s712, s713, s714, s715, s716, s717, s718, s719, s720⟩ := t20 hF700 0 s632 1 s633 2 s634 3 s635 4 s636 92 s637 5 s638 6 s639 8 s640 9 s641 10 s642 11 s643 12 s644 24 s645 33 s646 13 s647 43 s648 15 s649 14 s650 55 s651
     have s721 : F699 59 = .func (.func 60) #[] #[pt v653 0] := (hF700 59).trans rfl
     clear hF700
     refine then_normal (wq_block ?_)
     refine wq_rangeS (α := Spt W H) (encs := fun el => [iv ((el.m : Nat) : Int), .agg #[iv ((el.p : Nat) : Int), iv (pX (plN W el.p) el.i), iv (pY (plN W el.p) el.i)]]) (U := fun i => i ≠ v653) (S := fun xs => xs = spTo W H 3) (Sp := fun xs => xs <+: spTo W H 3) (M := 1000) s721 (fun _ _ => by kernel_rfl) (blk_seq W H R B v653 _ hm.1 B657.2) (fun i hi => Nat.ne_of_gt (Nat.lt_of_lt_of_le B657.2.lt hi)) [60, 61] rfl (fun _ => rfl) rfl (fun pre ww => ∃ (ha : Value), ∃ (hb : Value), ∃ (hc : Value), ∃ (T722 : Nat → Prop), ∃ (T723 : Nat → Prop), ∃ (T724 : Nat → Prop), Kept (fun _ => False) w0 ww ∧ Byt ww T_b v l ∧ Byt ww T_g0 g0 (g.p0) ∧ Byt ww T_g1 g1 (g.p1) ∧ Byt ww T_g2 g2 (g.p2) ∧ Byt ww T_h0 h0 (h.p0) ∧ Byt ww T_h1 h1 (h.p1) ∧ Byt ww T_h2 h2 (h.p2) ∧ Stc ww p1 23 [iv W, iv H, iv R, iv B] ∧ Stc ww p22 25 [iv K, iv Q, iv D, iv F] ∧ Stc ww p45 29 [iv (g.W), iv (g.H), g0, g1, g2] ∧ Stc ww p70 29 [iv (h.W), iv (h.H), h0, h1, h2] ∧ Stc ww p97 29 [iv 0, iv 0, .slice none 0 0, .slice none 0 0, .slice none 0 0] ∧ Cel ww p126 33 (iv 0) ∧ RoO rCh ww T295 v292 L ∧ Cel ww p326 32 v292 ∧ Stc ww p544 29 [iv ((foldD g h Q W H L pre).W), iv ((foldD g h Q W H L pre).H), ha, hb, hc] ∧ Sqs ww T656 v653 W H R B ∧ Owb ww T722 ha ((foldD g h Q W H L pre).p0) ∧ Owb ww T723 hb ((foldD g h Q W H L pre).p1) ∧ Owb ww T724 hc ((foldD g h Q W H L pre).p2) ∧ Grew w0 noB T722 ∧ Grew w0 noB T723 ∧ Grew w0 noB T724 ∧ Apart T722 T_b ∧ Apart T722 T_g0 ∧ Apart T722 T_g1 ∧ Apart T722 T_g2 ∧ Apart T722 T_h0 ∧ Apart T722 T_h1 ∧ Apart T722 T_h2 ∧ Apart T722 (onB p1) ∧ Apart T722 (onB p22) ∧ Apart T722 (onB p45) ∧ Apart T722 (onB p70) ∧ Apart T722 (onB p97) ∧ Apart T722 (onB p126) ∧ Apart T722 T295 ∧ Apart T722 (onB p326) ∧ Apart T722 (onB p544) ∧ Apart T722 T656 ∧ Apart T722 T723 ∧ Apart T722 T724 ∧ Apart T723 T_b ∧ Apart T723 T_g0 ∧ Apart T723 T_g1 ∧ Apart T723 T_g2 ∧ Apart T723 T_h0 ∧ Apart T723 T_h1 ∧ Apart T723 T_h2 ∧ Apart T723 (onB p1) ∧ Apart T723 (onB p22) ∧ Apart T723 (onB p45) ∧ Apart T723 (onB p70) ∧ Apart T723 (onB p97) ∧ Apart T723 (onB p126) ∧ Apart T723 T295 ∧ Apart T723 (onB p326) ∧ Apart T723 (onB p544) ∧ Apart T723 T656 ∧ Apart T723 T724 ∧ Apart T724 T_b ∧ Apart T724 T_g0 ∧ Apart T724 T_g1 ∧ Apart T724 T_g2 ∧ Apart T724 T_h0 ∧ Apart T724 T_h1 ∧ Apart T724 T_h2 ∧ Apart T724 (onB p1) ∧ Apart T724 (onB p22) ∧ Apart T724 (onB p45) ∧ Apart T724 (onB p70) ∧ Apart T724 (onB p97) ∧ Apart T724 (onB p126) ∧ Apart T724 T295 ∧ Apart T724 (onB p326) ∧ Apart T724 (onB p544) ∧ Apart T724 T656) (fun pre ww => Kept (fun _ => False) w0 ww ∧ Byt ww T_b v l ∧ Byt ww T_g0 g0 (g.p0) ∧ Byt ww T_g1 g1 (g.p1) ∧ Byt ww T_g2 g2 (g.p2) ∧ Byt ww T_h0 h0 (h.p0) ∧ Byt ww T_h1 h1 (h.p1) ∧ Byt ww T_h2 h2 (h.p2) ∧ Stc ww p1 23 [iv W, iv H, iv R, iv B] ∧ Stc ww p22 25 [iv K, iv Q, iv D, iv F] ∧ Stc ww p45 29 [iv (g.W), iv (g.H), g0, g1, g2] ∧ Stc ww p70 29 [iv (h.W), iv (h.H), h0, h1, h2] ∧ Stc ww p97 29 [iv 0, iv 0, .slice none 0 0, .slice none 0 0, .slice none 0 0] ∧ Cel ww p126 33 (iv 0) ∧ RoO rCh ww T295 v292 L ∧ Cel ww p326 32 v292 ∧ Sqs ww T656 v653 W H R B ∧ False) ?_ ?_ ⟨v463, v464, v465, T468, T469, T470, K678, B659, B660, B661, B662, B663, B664, B665, B666, B667, B668, B669, B670, B671, B672, B673, B677, B657, B674, B675, B676, gr496, gr512, gr528, ap497, ap498, ap499, ap500, ap501, ap502, ap503, ap504, ap505, ap506, ap507, ap508, ap509, ap510, ap511, ap565.symm, ap695.symm, ap477, ap478, ap513, ap514, ap515, ap516, ap517, ap518, ap519, ap520, ap521, ap522, ap523, ap524, ap525, ap526, ap527, ap566.symm, ap696.symm, ap479, ap529, ap530, ap531, ap532, ap533, ap534, ap535, ap536, ap537, ap538, ap539, ap540, ap541, ap542, ap543, ap567.symm, ap697.symm⟩ (fun el FF WW => ∃ (pa0_ : Nat), FF 0 = .agg #[iv W, iv H, iv R, iv B] ∧ FF 1 = .agg #[iv K, iv Q, iv D, iv F] ∧ FF 2 = v ∧ FF 3 = .agg #[iv (g.W), iv (g.H), g0, g1, g2] ∧ FF 4 = .agg #[iv (h.W), iv (h.H), h0, h1, h2] ∧ FF 5 = pt p1 0 ∧ FF 6 = pt p22 0 ∧ FF 8 = pt p45 0 ∧ FF 9 = pt p70 0 ∧ FF 10 = pt p97 0 ∧ FF 11 = pt p126 0 ∧ FF 12 = iv (chkE W H R B K Q D F) ∧ FF 13 = pt p326 0 ∧ FF 14 = iv (newE W H) ∧ FF 15 = pt p544 0 ∧ FF 16 = iv ((el.m : Nat) : Int) ∧ FF 17 = pt pa0_ 0 ∧ FF 24 = .bool (decide ((chkE W H R B K Q D F) ≠ 0)) ∧ FF 33 = .bool false ∧ FF 43 = .bool (decide (((chsE l W H R B K Q D F).2) ≠ 0)) ∧ FF 55 = .bool (decide ((newE W H) ≠ 0)) ∧ FF 59 = .func (.func 60) #[] #[pt v653 0] ∧ FF 60 = iv ((el.m : Nat) : Int) ∧ FF 61 = .agg #[iv ((el.p : Nat) : Int), iv (pX (plN W el.p) el.i), iv (pY (plN W el.p) el.i)] ∧ FF 92 = undef ∧ Stc WW pa0_ 65 [iv ((el.p : Nat) : Int), iv (pX (plN W el.p) el.i), iv (pY (plN W el.p) el.i)] ∧ Apart (onB pa0_) T_b ∧ Apart (onB pa0_) T_g0 ∧ Apart (onB pa0_) T_g1 ∧ Apart (onB pa0_) T_g2 ∧ Apart (onB pa0_) T_h0 ∧ Apart (onB pa0_) T_h1 ∧ Apart (onB pa0_) T_h2 ∧ Apart (onB pa0_) (onB p1) ∧ Apart (onB pa0_) (onB p22) ∧ Apart (onB pa0_) (onB p45) ∧ Apart (onB pa0_) (onB p70) ∧ Apart (onB pa0_) (onB p97) ∧ Apart (onB pa0_) (onB p126) ∧ Apart (onB pa0_) T295 ∧ Apart (onB pa0_) (onB p326) ∧ Apart (onB pa0_) (onB p544) ∧ Apart (onB pa0_) T656) ?_ ?_ ?_ ?_ ?_
     ·rintro pre A_ B_ row_ ⟨ha, hb, hc, T722, T723, T724, K_, B0_, B1_, B2_, B3_, B4_, B5_, B6_, B7_, B8_, B9_, B10_, B11_, B12_, B13_, B14_, B15_, B16_, B17_, B18_, B19_, g0_, g1_, g2_, a0_, a1_, a2_, a3_, a4_, a5_, a6_, a7_, a8_, a9_, a10_, a11_, a12_, a13_, a14_, a15_, a16_, a17_, a18_, a19_, a20_, a21_, a22_, a23_, a24_, a25_, a26_, a27_, a28_, a29_, a30_, a31_, a32_, a33_, a34_, a35_, a36_, a37_, a38_, a39_, a40_, a41_, a42_, a43_, a44_, a45_, a46_, a47_, a48_, a49_, a50_, a51_, a52_, a53_⟩ hg_ hr_
      exact ⟨ha, hb, hc, T722, T723, T724, K_.row hg_ hr_ K678.size, B0_.row hg_ hr_, B1_.row hg_ hr_, B2_.row hg_ hr_, B3_.row hg_ hr_, B4_.row hg_ hr_, B5_.row hg_ hr_, B6_.row hg_ hr_, B7_.row hg_ hr_, B8_.row hg_ hr_, B9_.row hg_ hr_, B10_.row hg_ hr_, B11_.row hg_ hr_, B12_.row hg_ hr_, B13_.row hg_ hr_, B14_.row hg_ hr_, B15_.row hg_ hr_, B16_.row hg_ hr_, B17_.row hg_ hr_, B18_.row hg_ hr_, B19_.row hg_ hr_, g0_, g1_, g2_, a0_, a1_, a2_, a3_, a4_, a5_, a6_, a7_, a8_, a9_, a10_, a11_, a12_, a13_, a14_, a15_, a16_, a17_, a18_, a19_, a20_, a21_, a22_, a23_, a24_, a25_, a26_, a27_, a28_, a29_, a30_, a31_, a32_, a33_, a34_, a35_, a36_, a37_, a38_, a39_, a40_, a41_, a42_, a43_, a44_, a45_, a46_, a47_, a48_, a49_, a50_, a51_, a52_, a53_⟩
     ·rintro pre A_ B_ row_ ⟨K_, B0_, B1_, B2_, B3_, B4_, B5_, B6_, B7_, B8_, B9_, B10_, B11_, B12_, B13_, B14_, B15_, i0_⟩ hg_ hr_
      exact ⟨K_.row hg_ hr_ K678.size, B0_.row hg_ hr_, B1_.row hg_ hr_, B2_.row hg_ hr_, B3_.row hg_ hr_, B4_.row hg_ hr_, B5_.row hg_ hr_, B6_.row hg_ hr_, B7_.row hg_ hr_, B8_.row hg_ hr_, B9_.row hg_ hr_, B10_.row hg_ hr_, B11_.row hg_ hr_, B12_.row hg_ hr_, B13_.row hg_ hr_, B14_.row hg_ hr_, B15_.row hg_ hr_, i0_⟩
     ·rintro el FF _ A_ B_ row_ ⟨p0_, s0_, s1_, s2_, s3_, s4_, s5_, s6_, s7_, s8_, s9_, s10_, s11_, s12_, s13_, s14_, s15_, s16_, s17_, s18_, s19_, s20_, s21_, s22_, s23_, s24_, B0_, a0_, a1_, a2_, a3_, a4_, a5_, a6_, a7_, a8_, a9_, a10_, a11_, a12_, a13_, a14_, a15_, a16_⟩ hg_ hr_
      exact ⟨p0_, s0_, s1_, s2_, s3_, s4_, s5_, s6_, s7_, s8_, s9_, s10_, s11_, s12_, s13_, s14_, s15_, s16_, s17_, s18_, s19_, s20_, s21_, s22_, s23_, s24_, B0_.row hg_ hr_, a0_, a1_, a2_, a3_, a4_, a5_, a6_, a7_, a8_, a9_, a10_, a11_, a12_, a13_, a14_, a15_, a16_⟩
     ·rintro l_ pre el W_ ⟨ha, hb, hc, T722, T723, T724, K725, B726, B727, B728, B729, B730, B731, B732, B733, B734, B735, B736, B737, B738, B739, B740, B741, B742, B743, B744, B745, gr746, gr747, gr748, ap749, ap750, ap751, ap752, ap753, ap754, ap755, ap756, ap757, ap758, ap759, ap760, ap761, ap762, ap763, ap764, ap765, ap766, ap767, ap768, ap769, ap770, ap771, ap772, ap773, ap774, ap775, ap776, ap777, ap778, ap779, ap780, ap781, ap782, ap783, ap784, ap785, ap786, ap787, ap788, ap789, ap790, ap791, ap792, ap793, ap794, ap795, ap796, ap797, ap798, ap799, ap800, ap801, ap802⟩
      refine wq_seq (wq_region (wl_v (iv ((el.m : Nat) : Int)) rfl rfl (y_asg rfl rfl rr) (wl_nil fun F803 hF804 => ?_)))
      obtain ⟨s805, s806, s807, s808, s809⟩ := t5 hF804 0 s701 1 s702 2 s703 3 s704 4 s705
      have s810 : F803 92 = undef := (hF804 92).trans rfl
      obtain ⟨s811, s812, s813, s814, s815, s816, s817, s818, s819, s820, s821, s822, s823, s824, s825⟩ := t15 hF804 5 s707 6 s708 8 s709 9 s710 10 s711 11 s712 12 s713 24 s714 33 s715 13 s716 43 s717 15 s718 14 s719 55 s720 59 s721
      have s826 : F803 60 = iv ((el.m : Nat) : Int) := (hF804 60).trans rfl
      have s827 : F803 61 = .agg #[iv ((el.p : Nat) : Int), iv (pX (plN W el.p) el.i), iv (pY (plN W el.p) el.i)] := (hF804 61).trans rfl
      have s828 : F803 16 = iv ((el.m : Nat) : Int) := (hF804 16).trans rfl
      clear hF804
      refine then_normal (wq_region (wl_alloc_stc (n := 3) (vs := [iv 0, iv 0, iv 0]) rfl rfl rfl (by kernel_rfl) fun p829 w830 B832 g833 k831 => ?_))
      have gr834 : Grew W_ noB (onB p829) := Grew.new (Kept.refl (fun _ => False) W_) g833
      have ap835 : Apart (onB p829) T_b := Apart.new g833 B726.live
      have ap836 : Apart (onB p829) T_g0 := Apart.new g833 B727.live
      have ap837 : Apart (onB p829) T_g1 := Apart.new g833 B728.live
      have ap838 : Apart (onB p829) T_g2 := Apart.new g833 B729.live
      have ap839 : Apart (onB p829) T_h0 := Apart.new g833 B730.live
      have ap840 : Apart (onB p829) T_h1 := Apart.new g833 B731.live
      have ap841 : Apart (onB p829) T_h2 := Apart.new g833 B732.live
      have ap842 : Apart (onB p829) (onB p1) := Apart.new g833 (onB_live B733.lt)
      have ap843 : Apart (onB p829) (onB p22) := Apart.new g833 (onB_live B734.lt)
      have ap844 : Apart (onB p829) (onB p45) := Apart.new g833 (onB_live B735.lt)
      have ap845 : Apart (onB p829) (onB p70) := Apart.new g833 (onB_live B736.lt)
      have ap846 : Apart (onB p829) (onB p97) := Apart.new g833 (onB_live B737.lt)
      have ap847 : Apart (onB p829) (onB p126) := Apart.new g833 (onB_live B738.lt)
      have ap848 : Apart (onB p829) T295 := Apart.new g833 B739.live
      have ap849 : Apart (onB p829) (onB p326) := Apart.new g833 (onB_live B740.lt)
      have ap850 : Apart (onB p829) (onB p544) := Apart.new g833 (onB_live B741.lt)
      have ap851 : Apart (onB p829) T656 := Apart.new g833 B742.live
      have ap852 : Apart (onB p829) T722 := Apart.new g833 B743.live
      have ap853 : Apart (onB p829) T723 := Apart.new g833 B744.live
      have ap854 : Apart (onB p829) T724 := Apart.new g833 B745.live
      have B855 := B726.all k831 Apart.none
      have B856 := B727.all k831 Apart.none
      have B857 := B728.all k831 Apart.none
      have B858 := B729.all k831 Apart.none
      have B859 := B730.all k831 Apart.none
      have B860 := B731.all k831 Apart.none
      have B861 := B732.all k831 Apart.none
      have B862 := B733.all k831 id
      have B863 := B734.all k831 id
      have B864 := B735.all k831 id
      have B865 := B736.all k831 id
      have B866 := B737.all k831 id
      have B867 := B738.all k831 id
      have B868 := B739.all k831 Apart.none
      have B869 := B740.all k831 id
      have B870 := B741.all k831 id
      have B871 := B742.all k831 Apart.none
      have B872 := B743.all k831 Apart.none
      have B873 := B744.all k831 Apart.none
      have B874 := B745.all k831 Apart.none
      have K875 := (Kept.refl (fun _ => False) W_).trans k831 (fun _ _ x => x.elim)
      refine wl_store_stc (us := [iv ((el.p : Nat) : Int), iv (pX (plN W el.p) el.i), iv (pY (plN W el.p) el.i)]) stcT_spot rfl rfl rfl rfl s827 B832 rfl (oneI rfl (oneI rfl (oneI rfl oneN))) fun w876 B877 k878 => ?_
      have B879 := B855.all k878 ap835.symm
      have B880 := B856.all k878 ap836.symm
      have B881 := B857.all k878 ap837.symm
      have B882 := B858.all k878 ap838.symm
      have B883 := B859.all k878 ap839.symm
      have B884 := B860.all k878 ap840.symm
      have B885 := B861.all k878 ap841.symm
      have B886 := B862.all k878 (ap842.symm p1 rfl)
      have B887 := B863.all k878 (ap843.symm p22 rfl)
      have B888 := B864.all k878 (ap844.symm p45 rfl)
      have B889 := B865.all k878 (ap845.symm p70 rfl)
      have B890 := B866.all k878 (ap846.symm p97 rfl)
      have B891 := B867.all k878 (ap847.symm p126 rfl)
      have B892 := B868.all k878 ap848.symm
      have B893 := B869.all k878 (ap849.symm p326 rfl)
      have B894 := B870.all k878 (ap850.symm p544 rfl)
      have B895 := B871.all k878 ap851.symm
      have B896 := B872.all k878 ap852.symm
      have B897 := B873.all k878 ap853.symm
      have B898 := B874.all k878 ap854.symm
      have K899 := K875.trans k878 (Grew.ok (S := fun _ => False) gr834 noB_le)
      refine wl_nil fun F900 hF901 => ?_
      obtain ⟨s902, s903, s904, s905, s906, s907, s908, s909, s910, s911, s912, s913, s914, s915, s916, s917, s918, s919, s920, s921⟩ := t20 hF901 0 s805 1 s806 2 s807 3 s808 4 s809 92 s810 5 s811 6 s812 8 s813 9 s814 10 s815 11 s816 12 s817 24 s818 33 s819 13 s820 43 s821 15 s822 14 s823 55 s824
      obtain ⟨s922, s923, s924, s925⟩ := t4 hF901 59 s825 60 s826 61 s827 16 s828
      have s926 : F900 17 = pt p829 0 := (hF901 17).trans rfl
      clear hF901
      exact ⟨Cells.keeps Cells.no K899 _, K899.mono (fun _ _ x => x.elim), ⟨ha, hb, hc, T722, T723, T724, K725.trans K899 (fun _ _ x => x.elim), B879, B880, B881, B882, B883, B884, B885, B886, B887, B888, B889, B890, B891, B892, B893, B894, B895, B896, B897, B898, gr746, gr747, gr748, ap749, ap750, ap751, ap752, ap753, ap754, ap755, ap756, ap757, ap758, ap759, ap760, ap761, ap762, ap763, ap764, ap765, ap766, ap767, ap768, ap769, ap770, ap771, ap772, ap773, ap774, ap775, ap776, ap777, ap778, ap779, ap780, ap781, ap782, ap783, ap784, ap785, ap786, ap787, ap788, ap789, ap790, ap791, ap792, ap793, ap794, ap795, ap796, ap797, ap798, ap799, ap800, ap801, ap802⟩, ⟨p829, s902, s903, s904, s905, s906, s908, s909, s910, s911, s912, s913, s914, s917, s920, s919, s925, s926, s915, s916, s918, s921, s922, s923, s924, s907, B877, ap835, ap836, ap837, ap838, ap839, ap840, ap841, ap842, ap843, ap844, ap845, ap846, ap847, ap848, ap849, ap850, ap851⟩⟩
     ·rintro l_ pre el F1006 w1005 ⟨ha, hb, hc, T722, T723, T724, K927, B928, B929, B930, B931, B932, B933, B934, B935, B936, B937, B938, B939, B940, B941, B942, B943, B944, B945, B946, B947, gr948, gr949, gr950, ap951, ap952, ap953, ap954, ap955, ap956, ap957, ap958, ap959, ap960, ap961, ap962, ap963, ap964, ap965, ap966, ap967, ap968, ap969, ap970, ap971, ap972, ap973, ap974, ap975, ap976, ap977, ap978, ap979, ap980, ap981, ap982, ap983, ap984, ap985, ap986, ap987, ap988, ap989, ap990, ap991, ap992, ap993, ap994, ap995, ap996, ap997, ap998, ap999, ap1000, ap1001, ap1002, ap1003, ap1004⟩ ⟨p1007, s1008, s1009, s1010, s1011, s1012, s1013, s1014, s1015, s1016, s1017, s1018, s1019, s1020, s1021, s1022, s1023, s1024, s1025, s1026, s1027, s1028, s1029, s1030, s1031, s1032, B1033, ap1034, ap1035, ap1036, ap1037, ap1038, ap1039, ap1040, ap1041, ap1042, ap1043, ap1044, ap1045, ap1046, ap1047, ap1048, ap1049, ap1050⟩ hlen_
      have K1051 := Kept.refl (fun i => (onB p544) i ∨ (T722 i ∨ (T723 i ∨ (T724 i)))) w1005
      have hA2 := hA.all K927
      have hs2 := hs.all K927
      have hw2 := hw.all K927
      have hei := el.hi
      have hwp := plN_pos' (W := W) (p := el.p) hsd.1
      have hwl := plN_le (W := W) (p := el.p) hsd.2.1
      have hwh := plN_le (W := H) (p := el.p) hsd.2.2.2.2.1
      have hwn : plN W el.p * plN H el.p ≤ 16 * 16 := Nat.mul_le_mul hwl hwh
      have hxy := pXY_in (i := el.i) hwp hwl (by omega)
      have hml : el.m < L.length := by rw [hlo0]; exact off_lt el.hp el.hi
      have hfo := fd_ok (g := g) (h := h) (q := Q) (L := L) hm.1.1 hm.1.2.1 pre
      have hcp := cpE_may (W := W) (H := H) (R := R) (B := B) (K := K) (g := g) (h := h) hfo.1 hfo.2.1 hfo.2.2 hn ⟨hhd.1, hhd.2.1⟩ (hmay _ (getD_in (d := chZ) hml)) el.hp el.hi
      have hmd := md_yes (q := Q) hcp
      have hme := hmd.1.trans (ern_ok ⟨hhd.2.2.1, hhd.2.2.2.1⟩)
      have hdec : decB g h Q (el.p : Int) (plN W el.p) el.i (L.getD el.m chZ) (foldD g h Q W H L pre) = putFr (foldD g h Q W H L pre) (el.p : Int) (4 * pX (plN W el.p) el.i) (4 * pY (plN W el.p) el.i) (mdB (foldD g h Q W H L pre) g h (el.p : Int) (pX (plN W el.p) el.i) (pY (plN W el.p) el.i) (L.getD el.m chZ) Q) := by rw [hmd.2]; rfl
      refine wq_block (wq_seq ?_)
      refine wq_cas (γ := Unit) [(11, 10), (12, 10), (13, 10), (15, 10), (16, 10), (15, 14), (16, 14)] [some 63, some 64, some 65, some 66, some 67, some 68, some 69, some 70, some 71, some 72, some 73, some 62, some 74, some 75, some 18, none, some 19] ⟨fun w_ => True, fun _ => False, fun g_ w_ => True, fun g_ => fun _ => False, fun p_ w_ => Blk w_ p_ 69 (fun _ => 0), fun g_ p_ w_ => Blk w_ p_ 69 (mdB (foldD g h Q W H L pre) g h ((el.p : Nat) : Int) (pX (plN W el.p) el.i) (pY (plN W el.p) el.i) (L.getD (el.m) ⟨0, 0, 0, 0, 0, fun _ => 0⟩) Q)⟩ (fun _ => False) (fun p_ => w1005.heap.size ≤ p_) [fun g_ => .agg #[iv ((foldD g h Q W H L pre).W), iv ((foldD g h Q W H L pre).H), ha, hb, hc], fun g_ => .agg #[iv (g.W), iv (g.H), g0, g1, g2], fun g_ => .agg #[iv (h.W), iv (h.H), h0, h1, h2], fun g_ => .agg #[iv ((el.p : Nat) : Int), iv (pX (plN W el.p) el.i), iv (pY (plN W el.p) el.i)], fun g_ => v292, fun g_ => iv ((el.m : Nat) : Int), fun g_ => bytAddr v292 ((el.m) * 21), fun g_ => .agg (chW (L.getD (el.m) ⟨0, 0, 0, 0, 0, fun _ => 0⟩)).toArray, fun g_ => pt p22 1, fun g_ => iv Q, fun g_ => .tuple #[blkV (mdB (foldD g h Q W H L pre) g h ((el.p : Nat) : Int) (pX (plN W el.p) el.i) (pY (plN W el.p) el.i) (L.getD (el.m) ⟨0, 0, 0, 0, 0, fun _ => 0⟩) Q), iv (mdE (foldD g h Q W H L pre) g h ((el.p : Nat) : Int) (pX (plN W el.p) el.i) (pY (plN W el.p) el.i) (L.getD (el.m) ⟨0, 0, 0, 0, 0, fun _ => 0⟩) Q)], fun g_ => .tuple #[blkV (mdB (foldD g h Q W H L pre) g h ((el.p : Nat) : Int) (pX (plN W el.p) el.i) (pY (plN W el.p) el.i) (L.getD (el.m) ⟨0, 0, 0, 0, 0, fun _ => 0⟩) Q), iv (mdE (foldD g h Q W H L pre) g h ((el.p : Nat) : Int) (pX (plN W el.p) el.i) (pY (plN W el.p) el.i) (L.getD (el.m) ⟨0, 0, 0, 0, 0, fun _ => 0⟩) Q)], fun g_ => blkV (mdB (foldD g h Q W H L pre) g h ((el.p : Nat) : Int) (pX (plN W el.p) el.i) (pY (plN W el.p) el.i) (L.getD (el.m) ⟨0, 0, 0, 0, 0, fun _ => 0⟩) Q), fun g_ => iv (mdE (foldD g h Q W H L pre) g h ((el.p : Nat) : Int) (pX (plN W el.p) el.i) (pY (plN W el.p) el.i) (L.getD (el.m) ⟨0, 0, 0, 0, 0, fun _ => 0⟩) Q), fun _ => undef, fun _ => undef, fun g_ => iv (mdE (foldD g h Q W H L pre) g h ((el.p : Nat) : Int) (pX (plN W el.p) el.i) (pY (plN W el.p) el.i) (L.getD (el.m) ⟨0, 0, 0, 0, 0, fun _ => 0⟩) Q)] 10 15 (some 14) () 0 (by kernel_rfl) (by kernel_rfl) (by kernel_rfl) (by kernel_rfl) ⟨.inr (.inr fun _ _ => rfl), ⟨.inr (.inr fun _ _ => rfl), ⟨.inr (.inr fun _ _ => rfl), ⟨.inr (.inr fun _ _ => rfl), ⟨.inr (.inr fun _ _ => rfl), ⟨.inr (.inr fun _ _ => rfl), ⟨.inr (.inr fun _ _ => rfl), ⟨.inr (.inr fun _ _ => rfl), ⟨.inr (.inr fun _ _ => rfl), ⟨.inr (.inr fun _ _ => rfl), ⟨.inr (.inl rfl), ⟨.inl rfl, ⟨.inl rfl, ⟨.inl rfl, ⟨.inr (.inr fun _ _ => rfl), ⟨.inl rfl, ⟨.inl rfl, trivial⟩⟩⟩⟩⟩⟩⟩⟩⟩⟩⟩⟩⟩⟩⟩⟩⟩ ⟨trivial, fun _ _ _ _ _ _ => trivial, fun _ _ _ z => z.elim, fun _ _ _ _ _ _ _ => trivial, fun _ _ _ _ z => z.elim, fun _ _ _ _ h k z => h.all k z, fun _ _ h => h.lt, fun _ _ _ _ _ h k z => h.all k z, fun _ z => z, fun _ h => .inr h, fun _ _ z => z⟩ (fun _ _ _ h => h) (fun e => by cases e) ?_ ?_
      ·refine stepsFX_cons ?_ ?_
       ·refine StepFX.one rfl rfl rfl rfl fun g_ p_ F_ w_ hR hout hD => ?_
        exact (y_load_stc stcT_frame rfl ((hout 15 rfl (by decide)).trans s1022) (B943.all hR id) ⟨rfl, Kept.refl _ _⟩)
       refine stepsFX_cons ?_ ?_
       ·refine StepFX.one rfl rfl rfl rfl fun g_ p_ F_ w_ hR hout hD => ?_
        exact (y_load_stc stcT_frame rfl ((hout 8 rfl (by decide)).trans s1015) (B937.all hR id) ⟨rfl, Kept.refl _ _⟩)
       refine stepsFX_cons ?_ ?_
       ·refine StepFX.one rfl rfl rfl rfl fun g_ p_ F_ w_ hR hout hD => ?_
        exact (y_load_stc stcT_frame rfl ((hout 9 rfl (by decide)).trans s1016) (B938.all hR id) ⟨rfl, Kept.refl _ _⟩)
       refine stepsFX_cons ?_ ?_
       ·refine StepFX.one rfl rfl rfl rfl fun g_ p_ F_ w_ hR hout hD => ?_
        exact (y_load_stc stcT_spot rfl ((hout 17 rfl (by decide)).trans s1024) (B1033.all hR id) ⟨rfl, Kept.refl _ _⟩)
       refine stepsFX_cons ?_ ?_
       ·refine StepFX.one rfl rfl rfl rfl fun g_ p_ F_ w_ hR hout hD => ?_
        exact (y_load_cel rfl ((hout 13 rfl (by decide)).trans s1020) Tryz.underlying32 (B942.all hR id) rfl ⟨rfl, Kept.refl _ _⟩)
       refine stepsFX_cons ?_ ?_
       ·refine StepFX.one rfl rfl rfl rfl fun g_ p_ F_ w_ hR hout hD => ?_
        exact (y_mov rfl ((hout 16 rfl (by decide)).trans s1023) ⟨rfl, Kept.refl _ _⟩)
       refine stepsFX_cons ?_ ?_
       ·refine StepFX.one rfl rfl rfl rfl fun g_ p_ F_ w_ hR hout hD => ?_
        have g67 : F_ 67 = v292 := (hD.get 0 rfl rfl rfl).2 (by decide)
        have g68 : F_ 68 = iv ((el.m : Nat) : Int) := (hD.get 1 rfl rfl rfl).2 (by decide)
        exact (y_atRo (r := rCh) (el.m) rfl g67 g68 (by omega) (B941.all hR Apart.none).roa hml ⟨rfl, Kept.refl _ _⟩)
       refine stepsFX_cons ?_ ?_
       ·refine StepFX.one rfl rfl rfl rfl fun g_ p_ F_ w_ hR hout hD => ?_
        have g69 : F_ 69 = bytAddr v292 ((el.m) * 21) := (hD.get 0 rfl rfl rfl).2 (by decide)
        exact (y_ldRoP (r := rCh) (n := 21) (el.m) 0 stcT_choice rfl g69 (B941.all hR Apart.none).roa hml (by decide) rfl ⟨rfl, Kept.refl _ _⟩)
       refine stepsFX_cons ?_ ?_
       ·refine StepFX.one rfl rfl rfl rfl fun g_ p_ F_ w_ hR hout hD => ?_
        exact (y_fieldR (n := 1) rfl ((hout 6 rfl (by decide)).trans s1014) Tryz.underlying25 rfl (by kernel_rfl) (by decide) rfl ⟨rfl, Kept.refl _ _⟩)
       refine stepsFX_cons ?_ ?_
       ·refine StepFX.one rfl rfl rfl rfl fun g_ p_ F_ w_ hR hout hD => ?_
        have g71 : F_ 71 = pt p22 1 := (hD.get 0 rfl rfl rfl).2 (by decide)
        exact (y_ld_stc rfl g71 Tryz.underlying3 (B936.all hR id) rfl rfl ⟨rfl, Kept.refl _ _⟩)
       refine stepsFX_cons ?_ ?_
       ·refine StepFX.call rfl rfl rfl rfl fun g_ p_ F_ w_ hR hout hD hP_ => ?_
        have g63 : F_ 63 = .agg #[iv ((foldD g h Q W H L pre).W), iv ((foldD g h Q W H L pre).H), ha, hb, hc] := (hD.get 0 rfl rfl rfl).2 (by decide)
        have g64 : F_ 64 = .agg #[iv (g.W), iv (g.H), g0, g1, g2] := (hD.get 1 rfl rfl rfl).2 (by decide)
        have g65 : F_ 65 = .agg #[iv (h.W), iv (h.H), h0, h1, h2] := (hD.get 2 rfl rfl rfl).2 (by decide)
        have g66 : F_ 66 = .agg #[iv ((el.p : Nat) : Int), iv (pX (plN W el.p) el.i), iv (pY (plN W el.p) el.i)] := (hD.get 3 rfl rfl rfl).2 (by decide)
        have g70 : F_ 70 = .agg (chW (L.getD (el.m) ⟨0, 0, 0, 0, 0, fun _ => 0⟩)).toArray := (hD.get 4 rfl rfl rfl).2 (by decide)
        have g72 : F_ 72 = iv Q := (hD.get 5 rfl rfl rfl).2 (by decide)
        exact (y_cs rfl rfl rfl (fun _ _ => by kernel_rfl) (ev_func _) (vsC g63 (vsC g64 (vsC g65 (vsC g66 (vsC g70 (vsC g72 vsN)))))) (pc_made ((el.p : Nat) : Int) (pX (plN W el.p) el.i) (pY (plN W el.p) el.i) Q (L.getD (el.m) ⟨0, 0, 0, 0, 0, fun _ => 0⟩) (foldD g h Q W H L pre) ha hb hc g g0 g1 g2 h h0 h1 h2 T722 T723 T724 T_g0 T_g1 T_g2 T_h0 T_h1 T_h2 _ (hA2.all hR) (hs2.all hR) (hw2.all hR) ⟨hxy.1, hxy.2.1⟩ ⟨hxy.2.2.1, hxy.2.2.2⟩ (B945.all hR Apart.none).byt (B946.all hR Apart.none).byt (B947.all hR Apart.none).byt (B929.all hR Apart.none) (B930.all hR Apart.none) (B931.all hR Apart.none) (B932.all hR Apart.none) (B933.all hR Apart.none) (B934.all hR Apart.none) ) (fun e_ w_ h_ => ⟨_, h_.1, (), rfl, h_.2, trivial, fun b hb => hb.elim⟩))
       refine stepsFX_cons ?_ ?_
       ·refine StepFX.one rfl rfl rfl rfl fun g_ p_ F_ w_ hR hout hD => ?_
        have g73 : F_ 73 = .tuple #[blkV (mdB (foldD g h Q W H L pre) g h ((el.p : Nat) : Int) (pX (plN W el.p) el.i) (pY (plN W el.p) el.i) (L.getD (el.m) ⟨0, 0, 0, 0, 0, fun _ => 0⟩) Q), iv (mdE (foldD g h Q W H L pre) g h ((el.p : Nat) : Int) (pX (plN W el.p) el.i) (pY (plN W el.p) el.i) (L.getD (el.m) ⟨0, 0, 0, 0, 0, fun _ => 0⟩) Q)] := (hD.get 0 rfl rfl rfl).2 (by decide)
        exact (y_mov rfl g73 ⟨rfl, Kept.refl _ _⟩)
       refine stepsFX_cons ?_ ?_
       ·refine StepFX.one rfl rfl rfl rfl fun g_ p_ F_ w_ hR hout hD => ?_
        have g62 : F_ 62 = .tuple #[blkV (mdB (foldD g h Q W H L pre) g h ((el.p : Nat) : Int) (pX (plN W el.p) el.i) (pY (plN W el.p) el.i) (L.getD (el.m) ⟨0, 0, 0, 0, 0, fun _ => 0⟩) Q), iv (mdE (foldD g h Q W H L pre) g h ((el.p : Nat) : Int) (pX (plN W el.p) el.i) (pY (plN W el.p) el.i) (L.getD (el.m) ⟨0, 0, 0, 0, 0, fun _ => 0⟩) Q)] := (hD.get 0 rfl rfl rfl).2 (by decide)
        exact (y_ext rfl g62 rfl ⟨rfl, Kept.refl _ _⟩)
       refine stepsFX_cons ?_ ?_
       ·refine StepFX.one rfl rfl rfl rfl fun g_ p_ F_ w_ hR hout hD => ?_
        have g62 : F_ 62 = .tuple #[blkV (mdB (foldD g h Q W H L pre) g h ((el.p : Nat) : Int) (pX (plN W el.p) el.i) (pY (plN W el.p) el.i) (L.getD (el.m) ⟨0, 0, 0, 0, 0, fun _ => 0⟩) Q), iv (mdE (foldD g h Q W H L pre) g h ((el.p : Nat) : Int) (pX (plN W el.p) el.i) (pY (plN W el.p) el.i) (L.getD (el.m) ⟨0, 0, 0, 0, 0, fun _ => 0⟩) Q)] := (hD.get 0 rfl rfl rfl).2 (by decide)
        exact (y_ext rfl g62 rfl ⟨rfl, Kept.refl _ _⟩)
       refine stepsFX_cons ?_ ?_
       ·refine StepFX.alloc rfl rfl rfl rfl fun F_ w_ hR => ?_
        exact y_alloc_blkP rfl blkT_block.2.2 ⟨_, rfl, Nat.le_refl _, Blk.new _ _ _, (Kept.refl _ _).alloc _⟩
       refine stepsFX_cons ?_ ?_
       ·refine StepFX.store rfl rfl rfl rfl fun g_ p_ F_ w_ hR hout hD hO_ hZ_ hQ_ => ?_
        have g18 : F_ 18 = pt p_ 0 := (hD.get 0 rfl rfl rfl).1 rfl
        have g74 : F_ 74 = blkV (mdB (foldD g h Q W H L pre) g h ((el.p : Nat) : Int) (pX (plN W el.p) el.i) (pY (plN W el.p) el.i) (L.getD (el.m) ⟨0, 0, 0, 0, 0, fun _ => 0⟩) Q) := (hD.get 1 rfl rfl rfl).2 (by decide)
        exact y_storeBlk blkT_block.2.1 rfl g18 g74 hZ_ fun w2_ b_ k_ => ⟨rfl, k_, b_⟩
       refine stepsFX_cons ?_ ?_
       ·refine StepFX.one rfl rfl rfl rfl fun g_ p_ F_ w_ hR hout hD => ?_
        have g75 : F_ 75 = iv (mdE (foldD g h Q W H L pre) g h ((el.p : Nat) : Int) (pX (plN W el.p) el.i) (pY (plN W el.p) el.i) (L.getD (el.m) ⟨0, 0, 0, 0, 0, fun _ => 0⟩) Q) := (hD.get 0 rfl rfl rfl).2 (by decide)
        exact (y_asg rfl g75 ⟨rfl, Kept.refl _ _⟩)
       exact stepsFX_nil
      intro gg1055 p1056 v1057 F1058 w1059 k1060 hp1061 hQ1062 hG1063 hY1064 hN1065 hA1066 hV1067 hF1068
      have B1070 := B928.all k1060 Apart.none
      have B1071 := B929.all k1060 Apart.none
      have B1072 := B930.all k1060 Apart.none
      have B1073 := B931.all k1060 Apart.none
      have B1074 := B932.all k1060 Apart.none
      have B1075 := B933.all k1060 Apart.none
      have B1076 := B934.all k1060 Apart.none
      have B1077 := B935.all k1060 id
      have B1078 := B936.all k1060 id
      have B1079 := B937.all k1060 id
      have B1080 := B938.all k1060 id
      have B1081 := B939.all k1060 id
      have B1082 := B940.all k1060 id
      have B1083 := B941.all k1060 Apart.none
      have B1084 := B942.all k1060 id
      have B1085 := B943.all k1060 id
      have B1086 := B944.all k1060 Apart.none
      have B1087 := B945.all k1060 Apart.none
      have B1088 := B946.all k1060 Apart.none
      have B1089 := B947.all k1060 Apart.none
      have B1090 := B1033.all k1060 id
      have K1091 := K1051.tr k1060
      replace hY1064 : Blk w1059 p1056 69 (mdB (foldD g h Q W H L pre) g h ((el.p : Nat) : Int) (pX (plN W el.p) el.i) (pY (plN W el.p) el.i) (L.getD (el.m) ⟨0, 0, 0, 0, 0, fun _ => 0⟩) Q) := hY1064
      obtain ⟨s1128, s1130⟩ := t2 hF1068 15 s1022 17 s1024
      have s1139 : F1058 18 = pt p1056 0 := (hF1068 18).trans (hA1066 14 rfl)
      have s1140 : F1058 19 = iv (mdE (foldD g h Q W H L pre) g h ((el.p : Nat) : Int) (pX (plN W el.p) el.i) (pY (plN W el.p) el.i) (L.getD (el.m) ⟨0, 0, 0, 0, 0, fun _ => 0⟩) Q) := (hF1068 19).trans (hV1067 16 (by decide) (by decide))
      clear hF1068 hV1067 hA1066 hN1065 hG1063
      refine then_normal (wq_seq (wq_seq (wq_region (wl_mv rfl rfl rfl s1140 (wl_v (.bool (decide ((mdE (foldD g h Q W H L pre) g h ((el.p : Nat) : Int) (pX (plN W el.p) el.i) (pY (plN W el.p) el.i) (L.getD (el.m) ⟨0, 0, 0, 0, 0, fun _ => 0⟩) Q) ≠ 0))) rfl rfl (y_neqI rfl rfl rfl rfl rr) (wl_nil fun F1141 hF1142 => ?_))))))
      obtain ⟨s1157, s1159, s1168⟩ := t3 hF1142 15 s1128 17 s1130 18 s1139
      have s1170 : F1141 77 = .bool (decide ((mdE (foldD g h Q W H L pre) g h ((el.p : Nat) : Int) (pX (plN W el.p) el.i) (pY (plN W el.p) el.i) (L.getD (el.m) ⟨0, 0, 0, 0, 0, fun _ => 0⟩) Q) ≠ 0)) := (hF1142 77).trans rfl
      clear hF1142
      refine then_normal ?_
      refine wq_cond s1170 (fun c1171 => ?_) (fun c1171 => ?_)
      ·replace c1171 := of_decide_eq_true c1171
       refine wq_seq ?_
       exact absurd hme (by assumption)
      ·replace c1171 := of_decide_eq_false c1171
       refine wq_skip (then_normal (wq_region (wl_v (.agg #[iv ((foldD g h Q W H L pre).W), iv ((foldD g h Q W H L pre).H), ha, hb, hc]) rfl rfl (y_load_stc stcT_frame rfl s1157 B1085 rr) (wl_v (pt p1007 0) rfl rfl (y_fieldR (n := 1) rfl s1159 Tryz.underlying65 rfl (by kernel_rfl) (by decide) rfl rr) (wl_v (iv ((el.p : Nat) : Int)) rfl rfl (y_ld_stc rfl rfl Tryz.underlying3 B1090 rfl rfl rr) (wl_v (pt p1007 1) rfl rfl (y_fieldR (n := 1) rfl s1159 Tryz.underlying65 rfl (by kernel_rfl) (by decide) rfl rr) (wl_v (iv (pX (plN W el.p) el.i)) rfl rfl (y_ld_stc rfl rfl Tryz.underlying3 B1090 rfl rfl rr) (wl_v (iv (4 * pX (plN W el.p) el.i)) rfl rfl (y_mul rfl rfl rfl (i64_i rfl (by omega)) rr) (wl_v (pt p1007 2) rfl rfl (y_fieldR (n := 1) rfl s1159 Tryz.underlying65 rfl (by kernel_rfl) (by decide) rfl rr) (wl_v (iv (pY (plN W el.p) el.i)) rfl rfl (y_ld_stc rfl rfl Tryz.underlying3 B1090 rfl rfl rr) (wl_v (iv (4 * pY (plN W el.p) el.i)) rfl rfl (y_mul rfl rfl rfl (i64_i rfl (by omega)) rr) ?_)))))))))))
       refine wl_v (blkV (mdB (foldD g h Q W H L pre) g h ((el.p : Nat) : Int) (pX (plN W el.p) el.i) (pY (plN W el.p) el.i) (L.getD (el.m) ⟨0, 0, 0, 0, 0, fun _ => 0⟩) Q)) rfl rfl (y_load_blk blkT_block rfl s1168 hY1064 rr) (wl_call (R := fun v_ w_ => ∃ (v1172 : Value) (T1177 : Nat → Prop) (v1173 : Value) (T1178 : Nat → Prop) (v1174 : Value) (T1179 : Nat → Prop), .agg #[iv ((putFr (foldD g h Q W H L pre) ((el.p : Nat) : Int) (4 * pX (plN W el.p) el.i) (4 * pY (plN W el.p) el.i) (mdB (foldD g h Q W H L pre) g h ((el.p : Nat) : Int) (pX (plN W el.p) el.i) (pY (plN W el.p) el.i) (L.getD (el.m) ⟨0, 0, 0, 0, 0, fun _ => 0⟩) Q)).W), iv ((putFr (foldD g h Q W H L pre) ((el.p : Nat) : Int) (4 * pX (plN W el.p) el.i) (4 * pY (plN W el.p) el.i) (mdB (foldD g h Q W H L pre) g h ((el.p : Nat) : Int) (pX (plN W el.p) el.i) (pY (plN W el.p) el.i) (L.getD (el.m) ⟨0, 0, 0, 0, 0, fun _ => 0⟩) Q)).H), v1172, v1173, v1174] = v_ ∧ Kept (fun _ => False) w1059 w_ ∧ (Owb w_ T1177 v1172 ((putFr (foldD g h Q W H L pre) ((el.p : Nat) : Int) (4 * pX (plN W el.p) el.i) (4 * pY (plN W el.p) el.i) (mdB (foldD g h Q W H L pre) g h ((el.p : Nat) : Int) (pX (plN W el.p) el.i) (pY (plN W el.p) el.i) (L.getD (el.m) ⟨0, 0, 0, 0, 0, fun _ => 0⟩) Q)).p0) ∧ Grew w1059 noB T1177) ∧ (Owb w_ T1178 v1173 ((putFr (foldD g h Q W H L pre) ((el.p : Nat) : Int) (4 * pX (plN W el.p) el.i) (4 * pY (plN W el.p) el.i) (mdB (foldD g h Q W H L pre) g h ((el.p : Nat) : Int) (pX (plN W el.p) el.i) (pY (plN W el.p) el.i) (L.getD (el.m) ⟨0, 0, 0, 0, 0, fun _ => 0⟩) Q)).p1) ∧ Grew w1059 noB T1178) ∧ (Owb w_ T1179 v1174 ((putFr (foldD g h Q W H L pre) ((el.p : Nat) : Int) (4 * pX (plN W el.p) el.i) (4 * pY (plN W el.p) el.i) (mdB (foldD g h Q W H L pre) g h ((el.p : Nat) : Int) (pX (plN W el.p) el.i) (pY (plN W el.p) el.i) (L.getD (el.m) ⟨0, 0, 0, 0, 0, fun _ => 0⟩) Q)).p2) ∧ Grew w1059 noB T1179) ∧ Apart T1177 T1178 ∧ Apart T1177 T1179 ∧ Apart T1178 T1179) rfl rfl (y_cs rfl rfl rfl (fun _ _ => by kernel_rfl) (ev_func _) (vsC rfl (vsC rfl (vsC rfl (vsC rfl (vsC rfl vsN))))) (pl_put ((el.p : Nat) : Int) (4 * pX (plN W el.p) el.i) (4 * pY (plN W el.p) el.i) (mdB (foldD g h Q W H L pre) g h ((el.p : Nat) : Int) (pX (plN W el.p) el.i) (pY (plN W el.p) el.i) (L.getD (el.m) ⟨0, 0, 0, 0, 0, fun _ => 0⟩) Q) (foldD g h Q W H L pre) ha hb hc T722 T723 T724 _  B1087.byt B1088.byt B1089.byt ) (fun e_ w_ h_ => by obtain ⟨v1172_, T1177_, v1173_, T1178_, v1174_, T1179_, he_, hr_⟩ := h_; exact ⟨_, he_, v1172_, T1177_, v1173_, T1178_, v1174_, T1179_, rfl, hr_⟩)) ?_)
       rintro _ w1175 ⟨v1172, T1177, v1173, T1178, v1174, T1179, rfl, k1176, ⟨B1180, g1183⟩, ⟨B1181, g1184⟩, ⟨B1182, g1185⟩, ap1186, ap1187, ap1188⟩
       have B1189 := B1070.all k1176 Apart.none
       have B1190 := B1071.all k1176 Apart.none
       have B1191 := B1072.all k1176 Apart.none
       have B1192 := B1073.all k1176 Apart.none
       have B1193 := B1074.all k1176 Apart.none
       have B1194 := B1075.all k1176 Apart.none
       have B1195 := B1076.all k1176 Apart.none
       have B1196 := B1077.all k1176 id
       have B1197 := B1078.all k1176 id
       have B1198 := B1079.all k1176 id
       have B1199 := B1080.all k1176 id
       have B1200 := B1081.all k1176 id
       have B1201 := B1082.all k1176 id
       have B1202 := B1083.all k1176 Apart.none
       have B1203 := B1084.all k1176 id
       have B1204 := B1085.all k1176 id
       have B1205 := B1086.all k1176 Apart.none
       have K1211 := K1091.tr k1176
       have gr1212 : Grew w1005 noB T1177 := Grew.new K1091 g1183
       have ap1213 : Apart T1177 T_b := Apart.new g1183 B1070.live
       have ap1214 : Apart T1177 T_g0 := Apart.new g1183 B1071.live
       have ap1215 : Apart T1177 T_g1 := Apart.new g1183 B1072.live
       have ap1216 : Apart T1177 T_g2 := Apart.new g1183 B1073.live
       have ap1217 : Apart T1177 T_h0 := Apart.new g1183 B1074.live
       have ap1218 : Apart T1177 T_h1 := Apart.new g1183 B1075.live
       have ap1219 : Apart T1177 T_h2 := Apart.new g1183 B1076.live
       have ap1220 : Apart T1177 (onB p1) := Apart.new g1183 (onB_live B1077.lt)
       have ap1221 : Apart T1177 (onB p22) := Apart.new g1183 (onB_live B1078.lt)
       have ap1222 : Apart T1177 (onB p45) := Apart.new g1183 (onB_live B1079.lt)
       have ap1223 : Apart T1177 (onB p70) := Apart.new g1183 (onB_live B1080.lt)
       have ap1224 : Apart T1177 (onB p97) := Apart.new g1183 (onB_live B1081.lt)
       have ap1225 : Apart T1177 (onB p126) := Apart.new g1183 (onB_live B1082.lt)
       have ap1226 : Apart T1177 T295 := Apart.new g1183 B1083.live
       have ap1227 : Apart T1177 (onB p326) := Apart.new g1183 (onB_live B1084.lt)
       have ap1228 : Apart T1177 (onB p544) := Apart.new g1183 (onB_live B1085.lt)
       have ap1229 : Apart T1177 T656 := Apart.new g1183 B1086.live
       have gr1235 : Grew w1005 noB T1178 := Grew.new K1091 g1184
       have ap1236 : Apart T1178 T_b := Apart.new g1184 B1070.live
       have ap1237 : Apart T1178 T_g0 := Apart.new g1184 B1071.live
       have ap1238 : Apart T1178 T_g1 := Apart.new g1184 B1072.live
       have ap1239 : Apart T1178 T_g2 := Apart.new g1184 B1073.live
       have ap1240 : Apart T1178 T_h0 := Apart.new g1184 B1074.live
       have ap1241 : Apart T1178 T_h1 := Apart.new g1184 B1075.live
       have ap1242 : Apart T1178 T_h2 := Apart.new g1184 B1076.live
       have ap1243 : Apart T1178 (onB p1) := Apart.new g1184 (onB_live B1077.lt)
       have ap1244 : Apart T1178 (onB p22) := Apart.new g1184 (onB_live B1078.lt)
       have ap1245 : Apart T1178 (onB p45) := Apart.new g1184 (onB_live B1079.lt)
       have ap1246 : Apart T1178 (onB p70) := Apart.new g1184 (onB_live B1080.lt)
       have ap1247 : Apart T1178 (onB p97) := Apart.new g1184 (onB_live B1081.lt)
       have ap1248 : Apart T1178 (onB p126) := Apart.new g1184 (onB_live B1082.lt)
       have ap1249 : Apart T1178 T295 := Apart.new g1184 B1083.live
       have ap1250 : Apart T1178 (onB p326) := Apart.new g1184 (onB_live B1084.lt)
       have ap1251 : Apart T1178 (onB p544) := Apart.new g1184 (onB_live B1085.lt)
       have ap1252 : Apart T1178 T656 := Apart.new g1184 B1086.live
       have gr1258 : Grew w1005 noB T1179 := Grew.new K1091 g1185
       have ap1259 : Apart T1179 T_b := Apart.new g1185 B1070.live
       have ap1260 : Apart T1179 T_g0 := Apart.new g1185 B1071.live
       have ap1261 : Apart T1179 T_g1 := Apart.new g1185 B1072.live
       have ap1262 : Apart T1179 T_g2 := Apart.new g1185 B1073.live
       have ap1263 : Apart T1179 T_h0 := Apart.new g1185 B1074.live
       have ap1264 : Apart T1179 T_h1 := Apart.new g1185 B1075.live
       have ap1265 : Apart T1179 T_h2 := Apart.new g1185 B1076.live
       have ap1266 : Apart T1179 (onB p1) := Apart.new g1185 (onB_live B1077.lt)
       have ap1267 : Apart T1179 (onB p22) := Apart.new g1185 (onB_live B1078.lt)
       have ap1268 : Apart T1179 (onB p45) := Apart.new g1185 (onB_live B1079.lt)
       have ap1269 : Apart T1179 (onB p70) := Apart.new g1185 (onB_live B1080.lt)
       have ap1270 : Apart T1179 (onB p97) := Apart.new g1185 (onB_live B1081.lt)
       have ap1271 : Apart T1179 (onB p126) := Apart.new g1185 (onB_live B1082.lt)
       have ap1272 : Apart T1179 T295 := Apart.new g1185 B1083.live
       have ap1273 : Apart T1179 (onB p326) := Apart.new g1185 (onB_live B1084.lt)
       have ap1274 : Apart T1179 (onB p544) := Apart.new g1185 (onB_live B1085.lt)
       have ap1275 : Apart T1179 T656 := Apart.new g1185 B1086.live
       refine wl_store_stc (us := [iv ((putFr (foldD g h Q W H L pre) ((el.p : Nat) : Int) (4 * pX (plN W el.p) el.i) (4 * pY (plN W el.p) el.i) (mdB (foldD g h Q W H L pre) g h ((el.p : Nat) : Int) (pX (plN W el.p) el.i) (pY (plN W el.p) el.i) (L.getD (el.m) ⟨0, 0, 0, 0, 0, fun _ => 0⟩) Q)).W), iv ((putFr (foldD g h Q W H L pre) ((el.p : Nat) : Int) (4 * pX (plN W el.p) el.i) (4 * pY (plN W el.p) el.i) (mdB (foldD g h Q W H L pre) g h ((el.p : Nat) : Int) (pX (plN W el.p) el.i) (pY (plN W el.p) el.i) (L.getD (el.m) ⟨0, 0, 0, 0, 0, fun _ => 0⟩) Q)).H), v1172, v1173, v1174]) stcT_frame rfl rfl rfl s1157 rfl B1204 rfl (oneI rfl (oneI rfl (oneI B1180.one (oneI B1181.one (oneI B1182.one oneN))))) fun w1281 B1282 k1283 => ?_
       have B1284 := B1189.all k1283 ap550.symm
       have B1285 := B1190.all k1283 ap551.symm
       have B1286 := B1191.all k1283 ap552.symm
       have B1287 := B1192.all k1283 ap553.symm
       have B1288 := B1193.all k1283 ap554.symm
       have B1289 := B1194.all k1283 ap555.symm
       have B1290 := B1195.all k1283 ap556.symm
       have B1291 := B1196.all k1283 (ap557.symm p1 rfl)
       have B1292 := B1197.all k1283 (ap558.symm p22 rfl)
       have B1293 := B1198.all k1283 (ap559.symm p45 rfl)
       have B1294 := B1199.all k1283 (ap560.symm p70 rfl)
       have B1295 := B1200.all k1283 (ap561.symm p97 rfl)
       have B1296 := B1201.all k1283 (ap562.symm p126 rfl)
       have B1297 := B1202.all k1283 ap563.symm
       have B1298 := B1203.all k1283 (ap564.symm p326 rfl)
       have B1299 := B1205.all k1283 ap698
       have B1305 := B1180.all k1283 ap1228
       have B1306 := B1181.all k1283 ap1251
       have B1307 := B1182.all k1283 ap1274
       have K1308 := K1211.trans k1283 (Grew.ok (S := fun i => (onB p544) i ∨ (T722 i ∨ (T723 i ∨ (T724 i)))) (Grew.refl w1005 (onB p544)) (fun _ x => Or.inl x))
       refine wl_nil fun F1309 hF1310 => ?_
       clear hF1310
       refine in_normal ?_
       exact ⟨CellsB.keeps (CellsB.or B943.cells.cb (CellsB.or B945.cells.cb (CellsB.or B946.cells.cb B947.cells.cb))) K1308, K1308.mono (fun i hi x => (x.elim (fun y => fun e => ap698.symm i y (by rw [B944.1]; exact e)) (fun y => (y.elim (fun y => fun e => ap967 i y (by rw [B944.1]; exact e)) (fun y => (y.elim (fun y => fun e => ap986 i y (by rw [B944.1]; exact e)) (fun y => (fun e => ap1004 i y (by rw [B944.1]; exact e))))))))), ⟨v1172, v1173, v1174, T1177, T1178, T1179, K927.trans K1308 (fun i hi x => (x.elim (fun y => ((Grew.ok (S := fun _ => False) gr549 noB_le) i hi y)) (fun y => (y.elim (fun y => ((Grew.ok (S := fun _ => False) gr948 noB_le) i hi y)) (fun y => (y.elim (fun y => ((Grew.ok (S := fun _ => False) gr949 noB_le) i hi y)) (fun y => ((Grew.ok (S := fun _ => False) gr950 noB_le) i hi y)))))))), B1284, B1285, B1286, B1287, B1288, B1289, B1290, B1291, B1292, B1293, B1294, B1295, B1296, B1297, B1298, (by rw [fd_snoc, hdec]; exact B1282), B1299, (by rw [fd_snoc, hdec]; exact B1305), (by rw [fd_snoc, hdec]; exact B1306), (by rw [fd_snoc, hdec]; exact B1307), ((Grew.new K927 gr1212).weak noB_le), ((Grew.new K927 gr1235).weak noB_le), ((Grew.new K927 gr1258).weak noB_le), ap1213, ap1214, ap1215, ap1216, ap1217, ap1218, ap1219, ap1220, ap1221, ap1222, ap1223, ap1224, ap1225, ap1226, ap1227, ap1228, ap1229, ap1186, ap1187, ap1236, ap1237, ap1238, ap1239, ap1240, ap1241, ap1242, ap1243, ap1244, ap1245, ap1246, ap1247, ap1248, ap1249, ap1250, ap1251, ap1252, ap1188, ap1259, ap1260, ap1261, ap1262, ap1263, ap1264, ap1265, ap1266, ap1267, ap1268, ap1269, ap1270, ap1271, ap1272, ap1273, ap1274, ap1275⟩⟩
     ·rintro D1417 xs_ w1418 d1419 hS_ ⟨ha, hb, hc, T722, T723, T724, K1339, B1340, B1341, B1342, B1343, B1344, B1345, B1346, B1347, B1348, B1349, B1350, B1351, B1352, B1353, B1354, B1355, B1356, B1357, B1358, B1359, gr1360, gr1361, gr1362, ap1363, ap1364, ap1365, ap1366, ap1367, ap1368, ap1369, ap1370, ap1371, ap1372, ap1373, ap1374, ap1375, ap1376, ap1377, ap1378, ap1379, ap1380, ap1381, ap1382, ap1383, ap1384, ap1385, ap1386, ap1387, ap1388, ap1389, ap1390, ap1391, ap1392, ap1393, ap1394, ap1395, ap1396, ap1397, ap1398, ap1399, ap1400, ap1401, ap1402, ap1403, ap1404, ap1405, ap1406, ap1407, ap1408, ap1409, ap1410, ap1411, ap1412, ap1413, ap1414, ap1415, ap1416⟩ B1420
      subst hS_
      have B1420 : Mrk w1418 D1417 := B1420
      have gr1421 : Grew w0 noB (onB D1417) := onB_new (Nat.le_trans K678.size d1419)
      have ap1433 : Apart (onB D1417) (onB p97) := Mrk.far d1419 (onB_live B670.lt)
      have ap1434 : Apart (onB D1417) (onB p126) := Mrk.far d1419 (onB_live B671.lt)
      have ap1439 : Apart (onB D1417) T722 := Mrk.apart B1420 B1357.cells
      have ap1440 : Apart (onB D1417) T723 := Mrk.apart B1420 B1358.cells
      have ap1441 : Apart (onB D1417) T724 := Mrk.apart B1420 B1359.cells
      have s1442 : markV (D1417 :: marksOf (F699 92)) = markV [D1417] := congrArg (fun z => markV (D1417 :: marksOf z)) s706
      refine in_normal (then_normal (wq_seq (wq_region (wl_v (.agg #[iv ((foldD g h Q W H L (spTo W H 3)).W), iv ((foldD g h Q W H L (spTo W H 3)).H), ha, hb, hc]) rfl rfl (y_load_stc stcT_frame rfl s718 B1355 rr) (wl_store_stc (us := [iv ((foldD g h Q W H L (spTo W H 3)).W), iv ((foldD g h Q W H L (spTo W H 3)).H), ha, hb, hc]) stcT_frame rfl rfl rfl s711 rfl B1351 rfl (oneI rfl (oneI rfl (oneI B1357.one (oneI B1358.one (oneI B1359.one oneN))))) fun w1443 B1444 k1445 => ?_)))))
      have B1457 := B1352.all k1445 (ap145 p126 rfl)
      have B1462 := B1357.all k1445 ap1374
      have B1463 := B1358.all k1445 ap1393
      have B1464 := B1359.all k1445 ap1411
      have B1465 := B1420.all k1445 (ap1433 D1417 rfl)
      have K1466 := K1339.trans k1445 (Grew.ok (S := fun _ => False) gr102 noB_le)
      refine wl_store_cel rfl rfl rfl s712 rfl B1457 (by rfl) (by kernel_rfl) fun w1467 B1468 k1469 => ?_
      have B1481 := B1444.all k1469 (ap145.symm p97 rfl)
      have B1486 := B1462.all k1469 ap1375
      have B1487 := B1463.all k1469 ap1394
      have B1488 := B1464.all k1469 ap1412
      have B1489 := B1465.all k1469 (ap1434 D1417 rfl)
      have K1490 := K1466.trans k1469 (Grew.ok (S := fun _ => False) gr133 noB_le)
      refine wl_nil fun F1491 hF1492 => ?_
      obtain ⟨s1493, s1494, s1495⟩ := t3 hF1492 92 s1442 10 s711 11 s712
      clear hF1492
      refine then_normal (wq_ret ?_)
      have k1496 := kept_shut w1467 D1417
      have B1509 := B1481.all k1496 (ap1433.symm p97 rfl)
      have B1510 := B1468.all k1496 (ap1434.symm p126 rfl)
      have B1515 := B1486.all k1496 ap1439.symm
      have B1516 := B1487.all k1496 ap1440.symm
      have B1517 := B1488.all k1496 ap1441.symm
      have K1497 := K1490.trans k1496 (Grew.ok (S := fun _ => False) gr1421 noB_le)
      exact endm_2 (ms := [D1417]) s1493 B1489.opens rfl (res_stc (vs := [iv ((foldD g h Q W H L (spTo W H 3)).W), iv ((foldD g h Q W H L (spTo W H 3)).H), ha, hb, hc]) stcT_frame rfl s1494 B1509) (res_cel Tryz.underlying33 rfl rfl s1495 B1510) ⟨ha, T722, hb, T723, hc, T724, (by first | exact hfalse.elim | (rw [hE, hFr, chk_no hmn]; rfl) | rw [hE, hFr, chk_no hmn] | (rw [hE, hFr, ← fd_all 3 (Nat.le_refl 3)]; rfl) | rw [hE, hFr, ← fd_all 3 (Nat.le_refl 3)] | (rw [hE, hFr]; rfl) | rw [hE, hFr]), K1497, ⟨(by first | exact hfalse.elim | (rw [hFr, ← fd_all 3 (Nat.le_refl 3)]; exact B1515) | (rw [hFr]; exact B1515)), gr1360⟩, ⟨(by first | exact hfalse.elim | (rw [hFr, ← fd_all 3 (Nat.le_refl 3)]; exact B1516) | (rw [hFr]; exact B1516)), gr1361⟩, ⟨(by first | exact hfalse.elim | (rw [hFr, ← fd_all 3 (Nat.le_refl 3)]; exact B1517) | (rw [hFr]; exact B1517)), gr1362⟩, ap1380, ap1381, ap1399⟩
     ·rintro D1535 pre w1536 d1537 hpf ⟨K1518, B1519, B1520, B1521, B1522, B1523, B1524, B1525, B1526, B1527, B1528, B1529, B1530, B1531, B1532, B1533, B1534, hfalse⟩ B1538
      have B1538 : Mrk w1536 D1535 := B1538
      have gr1539 : Grew w0 noB (onB D1535) := onB_new (Nat.le_trans K678.size d1537)
      have ap1551 : Apart (onB D1535) (onB p97) := Mrk.far d1537 (onB_live B670.lt)
      have ap1552 : Apart (onB D1535) (onB p126) := Mrk.far d1537 (onB_live B671.lt)
      have s1556 : markV (D1535 :: marksOf (F699 92)) = markV [D1535] := congrArg (fun z => markV (D1535 :: marksOf z)) s706
      refine in_ret (then_ret ?_)
      have k1557 := kept_shut w1536 D1535
      have B1570 := B1530.all k1557 (ap1551.symm p97 rfl)
      have B1571 := B1531.all k1557 (ap1552.symm p126 rfl)
      have K1558 := K1518.trans k1557 (Grew.ok (S := fun _ => False) gr1539 noB_le)
      exact endm_2 (ms := [D1535]) s1556 B1538.opens rfl (res_stc (vs := [iv 0, iv 0, .slice none 0 0, .slice none 0 0, .slice none 0 0]) stcT_frame rfl s711 B1570) (res_cel Tryz.underlying33 rfl rfl s712 B1571) ⟨(.slice none 0 0), noB, (.slice none 0 0), noB, (.slice none 0 0), noB, (by first | exact hfalse.elim | (rw [hE, hFr, chk_no hmn]; rfl) | rw [hE, hFr, chk_no hmn] | (rw [hE, hFr, ← fd_all 3 (Nat.le_refl 3)]; rfl) | rw [hE, hFr, ← fd_all 3 (Nat.le_refl 3)] | (rw [hE, hFr]; rfl) | rw [hE, hFr]), K1558, ⟨(by first | exact hfalse.elim | (rw [hFr, ← fd_all 3 (Nat.le_refl 3)]; exact (Owb.nil _)) | (rw [hFr]; exact (Owb.nil _))), (Grew.refl _ _)⟩, ⟨(by first | exact hfalse.elim | (rw [hFr, ← fd_all 3 (Nat.le_refl 3)]; exact (Owb.nil _)) | (rw [hFr]; exact (Owb.nil _))), (Grew.refl _ _)⟩, ⟨(by first | exact hfalse.elim | (rw [hFr, ← fd_all 3 (Nat.le_refl 3)]; exact (Owb.nil _)) | (rw [hFr]; exact (Owb.nil _))), (Grew.refl _ _)⟩, Apart.none, Apart.none, Apart.none⟩
  ·skip
   refine wq_region (wl_v (.agg #[iv W, iv H, iv R, iv B]) rfl rfl (y_load_stc stcT_seq rfl s212 B182 rr) (wl_v (pt p22 0) rfl rfl (y_fieldR (n := 1) rfl s213 Tryz.underlying25 rfl (by kernel_rfl) (by decide) rfl rr) (wl_v (iv K) rfl rfl (y_ld_stc rfl rfl Tryz.underlying3 B183 rfl rfl rr) (wl_v (.agg #[iv (g.W), iv (g.H), g0, g1, g2]) rfl rfl (y_load_stc stcT_frame rfl s214 B184 rr) (wl_v (.agg #[iv (h.W), iv (h.H), h0, h1, h2]) rfl rfl (y_load_stc stcT_frame rfl s215 B185 rr) (wl_call (R := fun v_ w_ => v_ = .bool false ∧ Kept (fun _ => False) w173 w_) rfl rfl (y_cs rfl rfl rfl (fun _ _ => by kernel_rfl) (ev_func _) (vsC rfl (vsC rfl (vsC rfl (vsC rfl vsN)))) (pc_has W H R B K g g0 g1 g2 h h0 h1 h2 T_g0 T_g1 T_g2 T_h0 T_h1 T_h2 _  B176 B177 B178 B179 B180 B181 ) (fun e_ w_ h_ => ⟨_, h_.1, (congrArg Value.bool (decide_eq_false d258)), h_.2⟩)) ?_))))))
   rintro _ w1575 ⟨rfl, k1576⟩
   have B1588 := B186.all k1576 id
   have B1589 := B187.all k1576 id
   have K1590 := K188.tr k1576
   refine wl_v (.bool true) rfl rfl (y_not rfl rfl rfl rr) (wl_nil fun F1591 hF1592 => ?_)
   obtain ⟨s1598, s1603, s1604⟩ := t3 hF1592 92 s211 10 s216 11 s217
   have s1607 : F1591 33 = .bool true := (hF1592 33).trans rfl
   clear hF1592
   refine then_normal ?_
   refine wq_cond (t := true) s1607 (fun _ => ?_) (fun e => by cases e)
   refine wq_seq ?_
   have hE := decE_fit (l := l) (g := g) (h := h) hm (by first | assumption | (apply Decidable.byContradiction; assumption))
   have hFr := decF_no (l := l) (W := W) (H := H) (R := R) (B := B) (K := K) (Q := Q) (D := D) (F := F) (g := g) (h := h) (by rw [hE]; decide)
   refine wq_region (wl_v (.agg #[iv 0, iv 0, .slice none 0 0, .slice none 0 0, .slice none 0 0]) rfl rfl (y_buildL (l' := []) (cells := #[iv 0, iv 0, .slice none 0 0, .slice none 0 0, .slice none 0 0]) rfl bpN (by kernel_rfl) rfl rr) (wl_store_stc (us := [iv 0, iv 0, .slice none 0 0, .slice none 0 0, .slice none 0 0]) stcT_frame rfl rfl rfl s1603 rfl B1588 rfl (oneI rfl (oneI rfl (oneI rfl (oneI rfl (oneI rfl oneN))))) fun w1608 B1609 k1610 => ?_))
   have B1622 := B1589.all k1610 (ap145 p126 rfl)
   have K1623 := K1590.trans k1610 (Grew.ok (S := fun _ => False) gr102 noB_le)
   refine wl_store_cel rfl rfl rfl s1604 rfl B1622 (by rfl) (by kernel_rfl) fun w1624 B1625 k1626 => ?_
   have B1638 := B1609.all k1626 (ap145.symm p97 rfl)
   have K1639 := K1623.trans k1626 (Grew.ok (S := fun _ => False) gr133 noB_le)
   refine wl_nil fun F1640 hF1641 => ?_
   obtain ⟨s1642, s1643, s1644⟩ := t3 hF1641 92 s1598 10 s1603 11 s1604
   clear hF1641
   refine then_normal (wq_ret (then_ret ?_))
   exact endm_2 (ms := []) (Eq.trans s1642 (rfl : undef = markV [])) trivial rfl (res_stc (vs := [iv 0, iv 0, .slice none 0 0, .slice none 0 0, .slice none 0 0]) stcT_frame rfl s1643 B1638) (res_cel Tryz.underlying33 rfl rfl s1644 B1625) ⟨(.slice none 0 0), noB, (.slice none 0 0), noB, (.slice none 0 0), noB, (by first | exact hfalse.elim | (rw [hE, hFr, chk_no hmn]; rfl) | rw [hE, hFr, chk_no hmn] | (rw [hE, hFr, ← fd_all 3 (Nat.le_refl 3)]; rfl) | rw [hE, hFr, ← fd_all 3 (Nat.le_refl 3)] | (rw [hE, hFr]; rfl) | rw [hE, hFr]), K1639, ⟨(by first | exact hfalse.elim | (rw [hFr, ← fd_all 3 (Nat.le_refl 3)]; exact (Owb.nil _)) | (rw [hFr]; exact (Owb.nil _))), (Grew.refl _ _)⟩, ⟨(by first | exact hfalse.elim | (rw [hFr, ← fd_all 3 (Nat.le_refl 3)]; exact (Owb.nil _)) | (rw [hFr]; exact (Owb.nil _))), (Grew.refl _ _)⟩, ⟨(by first | exact hfalse.elim | (rw [hFr, ← fd_all 3 (Nat.le_refl 3)]; exact (Owb.nil _)) | (rw [hFr]; exact (Owb.nil _))), (Grew.refl _ _)⟩, Apart.none, Apart.none, Apart.none⟩
end Go.Proofs.YtknjpdcpmpfklaaGreatDoor
set_option maxRecDepth 100000
namespace Go.Proofs.YtknjpdcpmpfklaaGreatDoor
open Go.RowKit
theorem t_refend (n : Nat) (w0 : World) (hn : n < 1099511627776) : Calls Tryz.prog 23 #[.int .i64 (n : Int)] w0 fun e w' => e = .returned (.string (strOf (endBits n))) ∧ Kept (fun _ => False) w0 w' :=
  (ref_end n w0 hn).mono fun _ _ ⟨e, hw⟩ => by subst hw; exact ⟨e, Kept.refl _ _⟩
theorem pcseq_walk (w0 : World) :
  Calls Tryz.prog 24 #[] w0 fun e w' => e = .returned (.agg #[.int .i64 (8), .int .i64 (8), .int .i64 (100), .int .i64 (1000)]) ∧ Kept (fun _ => False) w0 w' := by
 refine calls_wq (args := []) 2 Tryz.func24 rfl rfl (Nat.le_of_ble_eq_true rfl) ?_
 have K0 := Kept.refl (fun _ => False) w0
 refine wq_seq (wq_region (wl_alloc_stc (n := 4) (vs := [iv 0, iv 0, iv 0, iv 0]) rfl rfl rfl (by kernel_rfl) fun p1 w2 B4 g5 k3 => ?_))
 have gr6 : Grew w0 noB (onB p1) := Grew.new K0 g5
 have K7 := K0.tr k3
 refine wl_nil fun F8 hF9 => ?_
 have s10 : F8 2 = undef := (hF9 2).trans rfl
 have s11 : F8 0 = pt p1 0 := (hF9 0).trans rfl
 clear hF9
 refine then_normal (wq_seq (wq_region (wl_v (.agg #[iv 8, iv 8, iv 100, iv 1000]) rfl rfl (y_buildL (l' := [(0, iv 8), (1, iv 8), (2, iv 100), (3, iv 1000)]) (cells := #[iv 8, iv 8, iv 100, iv 1000]) rfl (bpC rfl (bpC rfl (bpC rfl (bpC rfl bpN)))) (by kernel_rfl) rfl rr) (wl_store_stc (us := [iv 8, iv 8, iv 100, iv 1000]) stcT_seq rfl rfl rfl s11 rfl B4 rfl (oneI rfl (oneI rfl (oneI rfl (oneI rfl oneN)))) fun w12 B13 k14 => ?_))))
 have K15 := K7.trans k14 (Grew.ok (S := fun _ => False) gr6 noB_le)
 refine wl_nil fun F16 hF17 => ?_
 obtain ⟨s18, s19⟩ := t2 hF17 2 s10 0 s11
 clear hF17
 refine then_normal (wq_ret ?_)
 exact end_stc (vs := [iv 8, iv 8, iv 100, iv 1000]) stcT_seq s18 rfl rfl s19 B13 ⟨rfl, K15⟩
theorem two_more (i : Nat) : List.replicate (2 * i) true ++ [true, true] = List.replicate (2 * (i + 1)) true := by
  rw [show [true, true] = List.replicate 2 true from rfl, List.replicate_append_replicate]; rfl
theorem aw_P : pack (List.replicate (2 * 6) true ++ endBits (List.replicate (2 * 6) true).length) = awP := by decide +kernel
theorem aw_len : awP.length = 2 := by decide +kernel
theorem aw_e : (chsE awP 8 8 100 1000 0 0 0 0).1.length = 6 ∧ (chsE awP 8 8 100 1000 0 0 0 0).2 = 0 ∧ (chsE (awP ++ [0]) 8 8 100 1000 0 0 0 0).2 = 130 := by
  have hm : mayP 8 8 100 1000 0 0 0 0 := by decide
  rw [chsE_yes hm, chsE_yes hm]
  exact ⟨aw_chs.2, aw_chs.1, aw_one.2⟩
theorem aw_fit : fitsP 8 8 100 1000 (newF 8 8 128) := by decide +kernel
theorem cat11 (a : List Bool) : strOf a ++ ByteArray.mk #[49, 49] = strOf (a ++ [true, true]) := by
  rw [show ByteArray.mk #[49, 49] = strOf [true, true] from rfl]; exact strOf_append _ _
theorem pcawake_any (w0 : World) (hA : ActsIn w0) (hO : ScanIn w0) (hs : StepsAt w0) (hw : Waves w0) :
  Calls Tryz.prog 8 #[] w0 fun e w' => e = .returned (.bool true) ∧ Kept (fun _ => False) w0 w' := by
 refine calls_wq (args := []) 101 Tryz.func8 rfl rfl (Nat.le_of_ble_eq_true rfl) ?_
 have K0 := Kept.refl (fun _ => False) w0
 have h11 : (ByteArray.mk #[49, 49]).size = 2 := rfl
 have h12 : (List.replicate (2 * 6) true).length = 12 := rfl
 have h13 : (endBits 12).length = 4 := rfl
 have h14 : (List.replicate (2 * 6) true ++ endBits (List.replicate (2 * 6) true).length).length = 16 := rfl
 have hd := Lib.hid aw_dec
 have ho := Lib.hid aw_one
 have hf := Lib.hid aw_fr
 have hc := Lib.hid aw_e
 have hpl := aw_len
 refine wq_seq (wq_region (wl_v (.bool false) rfl rfl (y_asg rfl rfl rr) (wl_nil fun F1 hF2 => ?_)))
 have s3 : F1 101 = undef := (hF2 101).trans rfl
 clear hF2
 refine then_normal (wq_seq (wq_region (wl_v (.string (strOf ([]))) rfl rfl (y_asg rfl rfl rr) (wl_nil fun F4 hF5 => ?_))))
 have s6 := (hF5 101).trans s3
 have s7 : F4 1 = .string (strOf ([])) := (hF5 1).trans rfl
 clear hF5
 refine then_normal (wq_seq (wq_seq (wq_region (wl_v (iv 0) rfl rfl (y_asg rfl rfl rr) (wl_nil fun F8 hF9 => ?_)))))
 obtain ⟨s10, s11⟩ := t2 hF9 101 s6 1 s7
 have s12 : F8 2 = iv 0 := (hF9 2).trans rfl
 clear hF9
 refine then_normal (wq_block (wq_loop (fun nn FF ww => ∃ (i : Nat), (i ≤ 6) ∧ ((List.replicate (2 * i) true).length = 2 * i) ∧ nn = 6 - i ∧ FF 101 = undef ∧ FF 1 = .string (strOf (List.replicate (2 * i) true)) ∧ FF 2 = iv ((i : Nat) : Int) ∧ Kept (fun _ => False) w0 ww) (6 - 0) ⟨0, by omega, rfl, rfl, s10, s11, s12, K0⟩ ?_))
 rintro n16 F13 w14 ⟨i, i17, hrl, hn16, s18, s19, s20, K15⟩
 refine wq_seq (wq_seq (wq_region (wl_mv rfl rfl rfl s20 (wl_v (.bool (decide (((i : Nat) : Int) < 6))) rfl rfl (y_lss rfl rfl rfl rfl rr) (wl_nil fun F21 hF22 => ?_)))))
 obtain ⟨s23, s24, s25⟩ := t3 hF22 101 s18 1 s19 2 s20
 have s26 : F21 17 = .bool (decide (((i : Nat) : Int) < 6)) := (hF22 17).trans rfl
 clear hF22
 refine then_normal ?_
 refine wq_cond s26 (fun c27 => ?_) (fun c27 => ?_)
 ·replace c27 := of_decide_eq_true c27
  refine wq_skip (then_normal (wq_seq (wq_block (wq_region (wl_mv rfl rfl rfl s24 (wl_v (.string (strOf (List.replicate (2 * i) true ++ [true, true]))) rfl rfl (y_catR rfl rfl rfl (by simp only [strOf_size]; omega) (cat11 _) rr) (wl_v (.string (strOf (List.replicate (2 * i) true ++ [true, true]))) rfl rfl (y_asg rfl rfl rr) (wl_nil fun F28 hF29 => ?_))))))))
  obtain ⟨s30, s31⟩ := t2 hF29 101 s23 2 s25
  have s32 : F28 1 = .string (strOf (List.replicate (2 * i) true ++ [true, true])) := (hF29 1).trans rfl
  clear hF29
  refine in_normal (then_normal (wq_region (wl_mv rfl rfl rfl s31 (wl_v (iv ((i + 1 : Nat) : Int)) rfl rfl (y_add rfl rfl rfl (i64_n (by omega) (by omega)) rr) (wl_v (iv ((i + 1 : Nat) : Int)) rfl rfl (y_asg rfl rfl rr) (wl_nil fun F33 hF34 => ?_))))))
  obtain ⟨s35, s36⟩ := t2 hF34 101 s30 1 s32
  have s37 : F33 2 = iv ((i + 1 : Nat) : Int) := (hF34 2).trans rfl
  clear hF34
  exact then_normal ⟨(6 - (i + 1)), by omega, i + 1, by omega, List.length_replicate, rfl, s35, (s36.trans (by rw [two_more])), s37, K15⟩
 ·replace c27 := of_decide_eq_false c27
  refine wq_exit (then_exit (then_exit ?_))
  have l38 : 6 = i := by omega
  subst l38
  refine in_here (then_normal (wq_seq (wq_region (wl_mv rfl rfl rfl s24 (wl_mv rfl rfl rfl s24 (wl_v (iv (((List.replicate (2 * 6) true).length : Nat) : Int)) rfl rfl (y_lenT rfl rfl rfl rr) (wl_cs rfl rfl rfl rfl rfl (fun _ _ => by kernel_rfl) (vsC rfl vsN) (t_refend ((List.replicate (2 * 6) true).length)  _ (by omega)  ) fun w39 k40 => ?_)))))))
  have K41 := K15.tr k40
  refine wl_v (.string (strOf ((List.replicate (2 * 6) true) ++ (endBits ((List.replicate (2 * 6) true).length))))) rfl rfl (y_catR rfl rfl rfl (by simp [strOf_size]; omega) (strOf_append _ _) rr) (wl_call (R := fun v_ w_ => ∃ (v42 : Value) (T45 : Nat → Prop), v42 = v_ ∧ Kept (fun _ => False) w39 w_ ∧ (Byt w_ T45 v42 (pack ((List.replicate (2 * 6) true) ++ (endBits ((List.replicate (2 * 6) true).length)))) ∧ Grew w39 noB T45)) rfl rfl (y_cs rfl rfl rfl (fun _ _ => by kernel_rfl) (ev_func _) (vsC rfl vsN) (t_refbytes ((List.replicate (2 * 6) true) ++ (endBits ((List.replicate (2 * 6) true).length)))  _ (by omega)  ) (fun e_ w_ h_ => by obtain ⟨v42_, T45_, he_, hr_⟩ := h_; exact ⟨_, he_, v42_, T45_, rfl, hr_⟩)) ?_)
  rintro _ w43 ⟨v42, T45, rfl, k44, ⟨B46, g47⟩⟩
  have K48 := K41.tr k44
  refine wl_v v42 rfl rfl (y_asg rfl rfl rr) (wl_nil fun F50 hF51 => ?_)
  have s52 := (hF51 101).trans s23
  have s53 : F50 3 = v42 := (hF51 3).trans rfl
  clear hF51
  refine then_normal (wq_seq ?_)
  have B54 : Byt w43 T45 v42 awP := (by rw [← aw_P]; exact B46)
  refine wq_region (wl_cs rfl rfl rfl rfl rfl (fun _ _ => by kernel_rfl) vsN (pcseq_walk   _   ) fun w55 k56 => ?_)
  have B57 := B54.all k56 Apart.none
  have K58 := K48.tr k56
  refine wl_v (.agg #[iv 0, iv 0, iv 0, iv 0]) rfl rfl (y_buildL (l' := []) (cells := #[iv 0, iv 0, iv 0, iv 0]) rfl bpN (by kernel_rfl) rfl rr) (wl_mv rfl rfl rfl s53 (wl_v (.agg #[iv 0, iv 0, .slice none 0 0, .slice none 0 0, .slice none 0 0]) rfl rfl (y_buildL (l' := []) (cells := #[iv 0, iv 0, .slice none 0 0, .slice none 0 0, .slice none 0 0]) rfl bpN (by kernel_rfl) rfl rr) (wl_v (.agg #[iv 0, iv 0, .slice none 0 0, .slice none 0 0, .slice none 0 0]) rfl rfl (y_buildL (l' := []) (cells := #[iv 0, iv 0, .slice none 0 0, .slice none 0 0, .slice none 0 0]) rfl bpN (by kernel_rfl) rfl rr) (wl_call (R := fun v_ w_ => ∃ (v59 : Value) (T64 : Nat → Prop) (v60 : Value) (T65 : Nat → Prop) (v61 : Value) (T66 : Nat → Prop), .tuple #[.agg #[iv ((decF awP 8 8 100 1000 0 0 0 0 (FD.mk 0 0 ([]) ([]) ([])) (FD.mk 0 0 ([]) ([]) ([]))).W), iv ((decF awP 8 8 100 1000 0 0 0 0 (FD.mk 0 0 ([]) ([]) ([])) (FD.mk 0 0 ([]) ([]) ([]))).H), v59, v60, v61], iv (decE awP 8 8 100 1000 0 0 0 0 (FD.mk 0 0 ([]) ([]) ([])) (FD.mk 0 0 ([]) ([]) ([])))] = v_ ∧ Kept (fun _ => False) w55 w_ ∧ (Owb w_ T64 v59 ((decF awP 8 8 100 1000 0 0 0 0 (FD.mk 0 0 ([]) ([]) ([])) (FD.mk 0 0 ([]) ([]) ([]))).p0) ∧ Grew w55 noB T64) ∧ (Owb w_ T65 v60 ((decF awP 8 8 100 1000 0 0 0 0 (FD.mk 0 0 ([]) ([]) ([])) (FD.mk 0 0 ([]) ([]) ([]))).p1) ∧ Grew w55 noB T65) ∧ (Owb w_ T66 v61 ((decF awP 8 8 100 1000 0 0 0 0 (FD.mk 0 0 ([]) ([]) ([])) (FD.mk 0 0 ([]) ([]) ([]))).p2) ∧ Grew w55 noB T66) ∧ Apart T64 T65 ∧ Apart T64 T66 ∧ Apart T65 T66) rfl rfl (y_cs rfl rfl rfl (fun _ _ => by kernel_rfl) (ev_func _) (vsC rfl (vsC rfl (vsC rfl (vsC rfl (vsC rfl vsN))))) (pc_decode 8 8 100 1000 0 0 0 0 v42 awP (FD.mk 0 0 ([]) ([]) ([])) (.slice none 0 0) (.slice none 0 0) (.slice none 0 0) (FD.mk 0 0 ([]) ([]) ([])) (.slice none 0 0) (.slice none 0 0) (.slice none 0 0) T45 noB noB noB noB noB noB _ (hA.all K58) (hO.all K58) (hs.all K58) (hw.all K58) (by omega) B57 (Byt.nil _) (Byt.nil _) (Byt.nil _) (Byt.nil _) (Byt.nil _) (Byt.nil _) ) (fun e_ w_ h_ => by obtain ⟨v59_, T64_, v60_, T65_, v61_, T66_, he_, hr_⟩ := h_; exact ⟨_, he_, v59_, T64_, v60_, T65_, v61_, T66_, rfl, hr_⟩)) ?_))))
  rintro _ w62 ⟨v59, T64, v60, T65, v61, T66, rfl, k63, ⟨B67, g70⟩, ⟨B68, g71⟩, ⟨B69, g72⟩, ap73, ap74, ap75⟩
  have B76 := B57.all k63 Apart.none
  have K77 := K58.tr k63
  refine wl_v (.tuple #[.agg #[iv ((decF awP 8 8 100 1000 0 0 0 0 (FD.mk 0 0 ([]) ([]) ([])) (FD.mk 0 0 ([]) ([]) ([]))).W), iv ((decF awP 8 8 100 1000 0 0 0 0 (FD.mk 0 0 ([]) ([]) ([])) (FD.mk 0 0 ([]) ([]) ([]))).H), v59, v60, v61], iv (decE awP 8 8 100 1000 0 0 0 0 (FD.mk 0 0 ([]) ([]) ([])) (FD.mk 0 0 ([]) ([]) ([])))]) rfl rfl (y_mov rfl rfl rr) (wl_v (.agg #[iv ((decF awP 8 8 100 1000 0 0 0 0 (FD.mk 0 0 ([]) ([]) ([])) (FD.mk 0 0 ([]) ([]) ([]))).W), iv ((decF awP 8 8 100 1000 0 0 0 0 (FD.mk 0 0 ([]) ([]) ([])) (FD.mk 0 0 ([]) ([]) ([]))).H), v59, v60, v61]) rfl rfl (y_ext rfl rfl rfl rr) (wl_v (iv (decE awP 8 8 100 1000 0 0 0 0 (FD.mk 0 0 ([]) ([]) ([])) (FD.mk 0 0 ([]) ([]) ([])))) rfl rfl (y_ext rfl rfl rfl rr) (wl_alloc_stc (n := 5) (vs := [iv 0, iv 0, .slice none 0 0, .slice none 0 0, .slice none 0 0]) rfl rfl rfl (by kernel_rfl) fun p84 w85 B87 g88 k86 => ?_)))
  have gr89 : Grew w0 noB (onB p84) := Grew.new K77 g88
  have ap90 : Apart (onB p84) T45 := Apart.new g88 B76.live
  have ap91 : Apart (onB p84) T64 := Apart.new g88 B67.live
  have ap92 : Apart (onB p84) T65 := Apart.new g88 B68.live
  have ap93 : Apart (onB p84) T66 := Apart.new g88 B69.live
  have B94 := B76.all k86 Apart.none
  have B95 := B67.all k86 Apart.none
  have B96 := B68.all k86 Apart.none
  have B97 := B69.all k86 Apart.none
  have K98 := K77.tr k86
  refine wl_store_stc (us := [iv ((decF awP 8 8 100 1000 0 0 0 0 (FD.mk 0 0 ([]) ([]) ([])) (FD.mk 0 0 ([]) ([]) ([]))).W), iv ((decF awP 8 8 100 1000 0 0 0 0 (FD.mk 0 0 ([]) ([]) ([])) (FD.mk 0 0 ([]) ([]) ([]))).H), v59, v60, v61]) stcT_frame rfl rfl rfl rfl rfl B87 rfl (oneI rfl (oneI rfl (oneI B95.one (oneI B96.one (oneI B97.one oneN))))) fun w99 B100 k101 => ?_
  have B102 := B94.all k101 ap90.symm
  have B103 := B95.all k101 ap91.symm
  have B104 := B96.all k101 ap92.symm
  have B105 := B97.all k101 ap93.symm
  have K106 := K98.trans k101 (Grew.ok (S := fun _ => False) gr89 noB_le)
  refine wl_v (iv (decE awP 8 8 100 1000 0 0 0 0 (FD.mk 0 0 ([]) ([]) ([])) (FD.mk 0 0 ([]) ([]) ([])))) rfl rfl (y_asg rfl rfl rr) (wl_nil fun F107 hF108 => ?_)
  obtain ⟨s109, s110⟩ := t2 hF108 101 s52 3 s53
  have s111 : F107 4 = pt p84 0 := (hF108 4).trans rfl
  have s112 : F107 5 = iv (decE awP 8 8 100 1000 0 0 0 0 (FD.mk 0 0 ([]) ([]) ([])) (FD.mk 0 0 ([]) ([]) ([]))) := (hF108 5).trans rfl
  clear hF108
  refine then_normal (wq_seq (wq_region (wl_cs rfl rfl rfl rfl rfl (fun _ _ => by kernel_rfl) vsN (pcseq_walk   _   ) fun w113 k114 => ?_)))
  have B115 := B102.all k114 Apart.none
  have B116 := B103.all k114 Apart.none
  have B117 := B104.all k114 Apart.none
  have B118 := B105.all k114 Apart.none
  have B119 := B100.all k114 id
  have K120 := K106.tr k114
  refine wl_v (.agg #[iv 0, iv 0, iv 0, iv 0]) rfl rfl (y_buildL (l' := []) (cells := #[iv 0, iv 0, iv 0, iv 0]) rfl bpN (by kernel_rfl) rfl rr) (wl_mv rfl rfl rfl s110 (wl_call (R := fun v_ w_ => ∃ (v121 : Value) (T124 : Nat → Prop), .tuple #[v121, iv ((chsE awP 8 8 100 1000 0 0 0 0).2)] = v_ ∧ Kept (fun _ => False) w113 w_ ∧ (RoO rCh w_ T124 v121 ((chsE awP 8 8 100 1000 0 0 0 0).1) ∧ Grew w113 noB T124)) rfl rfl (y_cs rfl rfl rfl (fun _ _ => by kernel_rfl) (ev_func _) (vsC rfl (vsC rfl (vsC rfl vsN))) (pc_choices 8 8 100 1000 0 0 0 0 v42 awP T45 _ (hA.all K120) (hO.all K120) (by first | omega | (simp; omega)) B115 ) (fun e_ w_ h_ => by obtain ⟨v121_, T124_, he_, hr_⟩ := h_; exact ⟨_, he_, v121_, T124_, rfl, hr_⟩)) ?_))
  rintro _ w122 ⟨v121, T124, rfl, k123, ⟨B125, g126⟩⟩
  have B127 := B115.all k123 Apart.none
  have B128 := B116.all k123 Apart.none
  have B129 := B117.all k123 Apart.none
  have B130 := B118.all k123 Apart.none
  have B131 := B119.all k123 id
  have K132 := K120.tr k123
  refine wl_v (.tuple #[v121, iv ((chsE awP 8 8 100 1000 0 0 0 0).2)]) rfl rfl (y_mov rfl rfl rr) (wl_v v121 rfl rfl (y_ext rfl rfl rfl rr) (wl_v (iv ((chsE awP 8 8 100 1000 0 0 0 0).2)) rfl rfl (y_ext rfl rfl rfl rr) (wl_v v121 rfl rfl (y_asg rfl rfl rr) (wl_v (iv ((chsE awP 8 8 100 1000 0 0 0 0).2)) rfl rfl (y_asg rfl rfl rr) (wl_nil fun F139 hF140 => ?_)))))
  obtain ⟨s141, s142, s143, s144⟩ := t4 hF140 101 s109 3 s110 4 s111 5 s112
  have s145 : F139 6 = v121 := (hF140 6).trans rfl
  have s146 : F139 7 = iv ((chsE awP 8 8 100 1000 0 0 0 0).2) := (hF140 7).trans rfl
  clear hF140
  refine then_normal (wq_seq (wq_region (wl_cs rfl rfl rfl rfl rfl (fun _ _ => by kernel_rfl) vsN (pcseq_walk   _   ) fun w147 k148 => ?_)))
  have B149 := B127.all k148 Apart.none
  have B150 := B128.all k148 Apart.none
  have B151 := B129.all k148 Apart.none
  have B152 := B130.all k148 Apart.none
  have B153 := B131.all k148 id
  have B154 := B125.all k148 Apart.none
  have K155 := K132.tr k148
  refine wl_v (.agg #[iv 1, iv 0, iv 0, iv 0]) rfl rfl (y_buildL (l' := [(0, iv 1)]) (cells := #[iv 1, iv 0, iv 0, iv 0]) rfl (bpC rfl bpN) (by kernel_rfl) rfl rr) (wl_mv rfl rfl rfl s142 (wl_v (.agg #[iv 0, iv 0, .slice none 0 0, .slice none 0 0, .slice none 0 0]) rfl rfl (y_buildL (l' := []) (cells := #[iv 0, iv 0, .slice none 0 0, .slice none 0 0, .slice none 0 0]) rfl bpN (by kernel_rfl) rfl rr) (wl_v (.agg #[iv 0, iv 0, .slice none 0 0, .slice none 0 0, .slice none 0 0]) rfl rfl (y_buildL (l' := []) (cells := #[iv 0, iv 0, .slice none 0 0, .slice none 0 0, .slice none 0 0]) rfl bpN (by kernel_rfl) rfl rr) (wl_call (R := fun v_ w_ => ∃ (v156 : Value) (T161 : Nat → Prop) (v157 : Value) (T162 : Nat → Prop) (v158 : Value) (T163 : Nat → Prop), .tuple #[.agg #[iv ((decF awP 8 8 100 1000 1 0 0 0 (FD.mk 0 0 ([]) ([]) ([])) (FD.mk 0 0 ([]) ([]) ([]))).W), iv ((decF awP 8 8 100 1000 1 0 0 0 (FD.mk 0 0 ([]) ([]) ([])) (FD.mk 0 0 ([]) ([]) ([]))).H), v156, v157, v158], iv (decE awP 8 8 100 1000 1 0 0 0 (FD.mk 0 0 ([]) ([]) ([])) (FD.mk 0 0 ([]) ([]) ([])))] = v_ ∧ Kept (fun _ => False) w147 w_ ∧ (Owb w_ T161 v156 ((decF awP 8 8 100 1000 1 0 0 0 (FD.mk 0 0 ([]) ([]) ([])) (FD.mk 0 0 ([]) ([]) ([]))).p0) ∧ Grew w147 noB T161) ∧ (Owb w_ T162 v157 ((decF awP 8 8 100 1000 1 0 0 0 (FD.mk 0 0 ([]) ([]) ([])) (FD.mk 0 0 ([]) ([]) ([]))).p1) ∧ Grew w147 noB T162) ∧ (Owb w_ T163 v158 ((decF awP 8 8 100 1000 1 0 0 0 (FD.mk 0 0 ([]) ([]) ([])) (FD.mk 0 0 ([]) ([]) ([]))).p2) ∧ Grew w147 noB T163) ∧ Apart T161 T162 ∧ Apart T161 T163 ∧ Apart T162 T163) rfl rfl (y_cs rfl rfl rfl (fun _ _ => by kernel_rfl) (ev_func _) (vsC rfl (vsC rfl (vsC rfl (vsC rfl (vsC rfl vsN))))) (pc_decode 8 8 100 1000 1 0 0 0 v42 awP (FD.mk 0 0 ([]) ([]) ([])) (.slice none 0 0) (.slice none 0 0) (.slice none 0 0) (FD.mk 0 0 ([]) ([]) ([])) (.slice none 0 0) (.slice none 0 0) (.slice none 0 0) T45 noB noB noB noB noB noB _ (hA.all K155) (hO.all K155) (hs.all K155) (hw.all K155) (by omega) B149 (Byt.nil _) (Byt.nil _) (Byt.nil _) (Byt.nil _) (Byt.nil _) (Byt.nil _) ) (fun e_ w_ h_ => by obtain ⟨v156_, T161_, v157_, T162_, v158_, T163_, he_, hr_⟩ := h_; exact ⟨_, he_, v156_, T161_, v157_, T162_, v158_, T163_, rfl, hr_⟩)) ?_))))
  rintro _ w159 ⟨v156, T161, v157, T162, v158, T163, rfl, k160, ⟨B164, g167⟩, ⟨B165, g168⟩, ⟨B166, g169⟩, ap170, ap171, ap172⟩
  have B173 := B149.all k160 Apart.none
  have B174 := B150.all k160 Apart.none
  have B175 := B151.all k160 Apart.none
  have B176 := B152.all k160 Apart.none
  have B177 := B153.all k160 id
  have B178 := B154.all k160 Apart.none
  have K179 := K155.tr k160
  refine wl_v (.tuple #[.agg #[iv ((decF awP 8 8 100 1000 1 0 0 0 (FD.mk 0 0 ([]) ([]) ([])) (FD.mk 0 0 ([]) ([]) ([]))).W), iv ((decF awP 8 8 100 1000 1 0 0 0 (FD.mk 0 0 ([]) ([]) ([])) (FD.mk 0 0 ([]) ([]) ([]))).H), v156, v157, v158], iv (decE awP 8 8 100 1000 1 0 0 0 (FD.mk 0 0 ([]) ([]) ([])) (FD.mk 0 0 ([]) ([]) ([])))]) rfl rfl (y_mov rfl rfl rr) (wl_v (.agg #[iv ((decF awP 8 8 100 1000 1 0 0 0 (FD.mk 0 0 ([]) ([]) ([])) (FD.mk 0 0 ([]) ([]) ([]))).W), iv ((decF awP 8 8 100 1000 1 0 0 0 (FD.mk 0 0 ([]) ([]) ([])) (FD.mk 0 0 ([]) ([]) ([]))).H), v156, v157, v158]) rfl rfl (y_ext rfl rfl rfl rr) (wl_v (iv (decE awP 8 8 100 1000 1 0 0 0 (FD.mk 0 0 ([]) ([]) ([])) (FD.mk 0 0 ([]) ([]) ([])))) rfl rfl (y_ext rfl rfl rfl rr) (wl_alloc_stc (n := 5) (vs := [iv 0, iv 0, .slice none 0 0, .slice none 0 0, .slice none 0 0]) rfl rfl rfl (by kernel_rfl) fun p201 w202 B204 g205 k203 => ?_)))
  have gr206 : Grew w0 noB (onB p201) := Grew.new K179 g205
  have ap207 : Apart (onB p201) T45 := Apart.new g205 B173.live
  have ap208 : Apart (onB p201) T64 := Apart.new g205 B174.live
  have ap209 : Apart (onB p201) T65 := Apart.new g205 B175.live
  have ap210 : Apart (onB p201) T66 := Apart.new g205 B176.live
  have ap211 : Apart (onB p201) (onB p84) := Apart.new g205 (onB_live B177.lt)
  have ap212 : Apart (onB p201) T124 := Apart.new g205 B178.live
  have B216 := B173.all k203 Apart.none
  have B217 := B174.all k203 Apart.none
  have B218 := B175.all k203 Apart.none
  have B219 := B176.all k203 Apart.none
  have B220 := B177.all k203 id
  have B221 := B178.all k203 Apart.none
  have B222 := B164.all k203 Apart.none
  have B223 := B165.all k203 Apart.none
  have B224 := B166.all k203 Apart.none
  have K225 := K179.tr k203
  refine wl_store_stc (us := [iv ((decF awP 8 8 100 1000 1 0 0 0 (FD.mk 0 0 ([]) ([]) ([])) (FD.mk 0 0 ([]) ([]) ([]))).W), iv ((decF awP 8 8 100 1000 1 0 0 0 (FD.mk 0 0 ([]) ([]) ([])) (FD.mk 0 0 ([]) ([]) ([]))).H), v156, v157, v158]) stcT_frame rfl rfl rfl rfl rfl B204 rfl (oneI rfl (oneI rfl (oneI B222.one (oneI B223.one (oneI B224.one oneN))))) fun w226 B227 k228 => ?_
  have B229 := B216.all k228 ap207.symm
  have B230 := B217.all k228 ap208.symm
  have B231 := B218.all k228 ap209.symm
  have B232 := B219.all k228 ap210.symm
  have B233 := B220.all k228 (ap211.symm p84 rfl)
  have B234 := B221.all k228 ap212.symm
  have K238 := K225.trans k228 (Grew.ok (S := fun _ => False) gr206 noB_le)
  refine wl_v (iv (decE awP 8 8 100 1000 1 0 0 0 (FD.mk 0 0 ([]) ([]) ([])) (FD.mk 0 0 ([]) ([]) ([])))) rfl rfl (y_asg rfl rfl rr) (wl_nil fun F239 hF240 => ?_)
  obtain ⟨s241, s242, s243, s244, s245, s246⟩ := t6 hF240 101 s141 3 s142 4 s143 5 s144 6 s145 7 s146
  have s247 : F239 9 = iv (decE awP 8 8 100 1000 1 0 0 0 (FD.mk 0 0 ([]) ([]) ([])) (FD.mk 0 0 ([]) ([]) ([]))) := (hF240 9).trans rfl
  clear hF240
  refine then_normal (wq_seq (wq_region (wl_cs rfl rfl rfl rfl rfl (fun _ _ => by kernel_rfl) vsN (pcseq_walk   _   ) fun w248 k249 => ?_)))
  have B250 := B229.all k249 Apart.none
  have B251 := B230.all k249 Apart.none
  have B252 := B231.all k249 Apart.none
  have B253 := B232.all k249 Apart.none
  have B254 := B233.all k249 id
  have B255 := B234.all k249 Apart.none
  have K260 := K238.tr k249
  refine wl_v (.agg #[iv 0, iv 0, iv 0, iv 0]) rfl rfl (y_buildL (l' := []) (cells := #[iv 0, iv 0, iv 0, iv 0]) rfl bpN (by kernel_rfl) rfl rr) (wl_builtB0 rfl rfl rfl fun v261 w262 T266 B264 g265 k263 => ?_)
  have gr267 : Grew w0 noB T266 := Grew.new K260 g265
  have ap269 : Apart T266 T64 := Apart.new g265 B251.live
  have ap270 : Apart T266 T65 := Apart.new g265 B252.live
  have ap271 : Apart T266 T66 := Apart.new g265 B253.live
  have ap272 : Apart T266 (onB p84) := Apart.new g265 (onB_live B254.lt)
  have ap273 : Apart T266 T124 := Apart.new g265 B255.live
  have B278 := B250.all k263 Apart.none
  have B279 := B251.all k263 Apart.none
  have B280 := B252.all k263 Apart.none
  have B281 := B253.all k263 Apart.none
  have B282 := B254.all k263 id
  have B283 := B255.all k263 Apart.none
  have K288 := K260.tr k263
  refine wl_mv rfl rfl rfl s242 (wl_appendB rfl rfl rfl rfl rfl rfl B264 B278 (by first | omega | (simp; done) | (simp; omega)) fun v289 w290 T294 B292 g293 k291 => ?_)
  have gr295 := Grew.trans gr267 K288 g293
  have ap297 : Apart T294 T64 := ap269.grew g293 B279.live
  have ap298 : Apart T294 T65 := ap270.grew g293 B280.live
  have ap299 : Apart T294 T66 := ap271.grew g293 B281.live
  have ap300 : Apart T294 (onB p84) := ap272.grew g293 (onB_live B282.lt)
  have ap301 : Apart T294 T124 := ap273.grew g293 B283.live
  have B307 := B279.all k291 ap269.symm
  have B308 := B280.all k291 ap270.symm
  have B309 := B281.all k291 ap271.symm
  have B310 := B282.all k291 (ap272.symm p84 rfl)
  have B311 := B283.all k291 ap273.symm
  have K316 := K288.trans k291 (Grew.ok (S := fun _ => False) gr267 noB_le)
  refine wl_builtB1 (n := 0) rfl rfl rfl rfl (by omega) (by omega) fun v317 w318 T322 B320 g321 k319 => ?_
  have B336 := B307.all k319 Apart.none
  have B337 := B308.all k319 Apart.none
  have B338 := B309.all k319 Apart.none
  have B339 := B310.all k319 id
  have B340 := B311.all k319 Apart.none
  have B345 := B292.all k319 Apart.none
  have K346 := K316.tr k319
  refine wl_appendB rfl rfl rfl rfl rfl rfl B345 B320.byt (by first | omega | (simp; done) | (simp; omega)) fun v347 w348 T352 B350 g351 k349 => ?_
  have B366 := B336.all k349 ap297.symm
  have B367 := B337.all k349 ap298.symm
  have B368 := B338.all k349 ap299.symm
  have B369 := B339.all k349 (ap300.symm p84 rfl)
  have B370 := B340.all k349 ap301.symm
  have K376 := K346.trans k349 (Grew.ok (S := fun _ => False) gr295 noB_le)
  refine wl_call (R := fun v_ w_ => ∃ (v377 : Value) (T380 : Nat → Prop), .tuple #[v377, iv ((chsE ((([] : List Nat) ++ awP) ++ ([0])) 8 8 100 1000 0 0 0 0).2)] = v_ ∧ Kept (fun _ => False) w348 w_ ∧ (RoO rCh w_ T380 v377 ((chsE ((([] : List Nat) ++ awP) ++ ([0])) 8 8 100 1000 0 0 0 0).1) ∧ Grew w348 noB T380)) rfl rfl (y_cs rfl rfl rfl (fun _ _ => by kernel_rfl) (ev_func _) (vsC rfl (vsC rfl (vsC rfl vsN))) (pc_choices 8 8 100 1000 0 0 0 0 v347 ((([] : List Nat) ++ awP) ++ ([0])) T352 _ (hA.all K376) (hO.all K376) (by first | omega | (simp; omega)) B350.byt ) (fun e_ w_ h_ => by obtain ⟨v377_, T380_, he_, hr_⟩ := h_; exact ⟨_, he_, v377_, T380_, rfl, hr_⟩)) ?_
  rintro _ w378 ⟨v377, T380, rfl, k379, ⟨B381, g382⟩⟩
  have B384 := B366.all k379 Apart.none
  have B385 := B367.all k379 Apart.none
  have B386 := B368.all k379 Apart.none
  have B387 := B369.all k379 id
  have B388 := B370.all k379 Apart.none
  have K395 := K376.tr k379
  refine wl_v (.tuple #[v377, iv ((chsE ((([] : List Nat) ++ awP) ++ ([0])) 8 8 100 1000 0 0 0 0).2)]) rfl rfl (y_mov rfl rfl rr) (wl_v v377 rfl rfl (y_ext rfl rfl rfl rr) (wl_v (iv ((chsE ((([] : List Nat) ++ awP) ++ ([0])) 8 8 100 1000 0 0 0 0).2)) rfl rfl (y_ext rfl rfl rfl rr) (wl_v v377 rfl rfl (y_asg rfl rfl rr) (wl_v (iv ((chsE ((([] : List Nat) ++ awP) ++ ([0])) 8 8 100 1000 0 0 0 0).2)) rfl rfl (y_asg rfl rfl rr) (wl_nil fun F409 hF410 => ?_)))))
  obtain ⟨s411, s412, s413, s414, s415, s416⟩ := t6 hF410 101 s241 4 s243 5 s244 6 s245 7 s246 9 s247
  have s417 : F409 11 = iv ((chsE ((([] : List Nat) ++ awP) ++ ([0])) 8 8 100 1000 0 0 0 0).2) := (hF410 11).trans rfl
  clear hF410
  refine then_normal (wq_seq (wq_region (wl_call (R := fun v_ w_ => ∃ (v418 : Value) (T423 : Nat → Prop) (v419 : Value) (T424 : Nat → Prop) (v420 : Value) (T425 : Nat → Prop), .tuple #[.agg #[iv ((newF 8 8 128).W), iv ((newF 8 8 128).H), v418, v419, v420], iv (newE 8 8)] = v_ ∧ Kept (fun _ => False) w378 w_ ∧ (Owb w_ T423 v418 ((newF 8 8 128).p0) ∧ Grew w378 noB T423) ∧ (Owb w_ T424 v419 ((newF 8 8 128).p1) ∧ Grew w378 noB T424) ∧ (Owb w_ T425 v420 ((newF 8 8 128).p2) ∧ Grew w378 noB T425) ∧ Apart T423 T424 ∧ Apart T423 T425 ∧ Apart T424 T425) rfl rfl (y_cs rfl rfl rfl (fun _ _ => by kernel_rfl) (ev_func _) (vsC rfl (vsC rfl (vsC rfl vsN))) (pl_new 8 8 128  _ (by omega)  ) (fun e_ w_ h_ => by obtain ⟨v418_, T423_, v419_, T424_, v420_, T425_, he_, hr_⟩ := h_; exact ⟨_, he_, v418_, T423_, v419_, T424_, v420_, T425_, rfl, hr_⟩)) ?_)))
  rintro _ w421 ⟨v418, T423, v419, T424, v420, T425, rfl, k422, ⟨B426, g429⟩, ⟨B427, g430⟩, ⟨B428, g431⟩, ap432, ap433, ap434⟩
  have B436 := B384.all k422 Apart.none
  have B437 := B385.all k422 Apart.none
  have B438 := B386.all k422 Apart.none
  have B439 := B387.all k422 id
  have B440 := B388.all k422 Apart.none
  have K448 := K395.tr k422
  refine wl_v (.tuple #[.agg #[iv ((newF 8 8 128).W), iv ((newF 8 8 128).H), v418, v419, v420], iv (newE 8 8)]) rfl rfl (y_mov rfl rfl rr) (wl_v (.agg #[iv ((newF 8 8 128).W), iv ((newF 8 8 128).H), v418, v419, v420]) rfl rfl (y_ext rfl rfl rfl rr) (wl_v (iv (newE 8 8)) rfl rfl (y_ext rfl rfl rfl rr) (wl_alloc_stc (n := 5) (vs := [iv 0, iv 0, .slice none 0 0, .slice none 0 0, .slice none 0 0]) rfl rfl rfl (by kernel_rfl) fun p491 w492 B494 g495 k493 => ?_)))
  have gr496 : Grew w0 noB (onB p491) := Grew.new K448 g495
  have ap498 : Apart (onB p491) T64 := Apart.new g495 B436.live
  have ap499 : Apart (onB p491) T65 := Apart.new g495 B437.live
  have ap500 : Apart (onB p491) T66 := Apart.new g495 B438.live
  have ap501 : Apart (onB p491) (onB p84) := Apart.new g495 (onB_live B439.lt)
  have ap502 : Apart (onB p491) T124 := Apart.new g495 B440.live
  have ap510 : Apart (onB p491) T423 := Apart.new g495 B426.live
  have ap511 : Apart (onB p491) T424 := Apart.new g495 B427.live
  have ap512 : Apart (onB p491) T425 := Apart.new g495 B428.live
  have B514 := B436.all k493 Apart.none
  have B515 := B437.all k493 Apart.none
  have B516 := B438.all k493 Apart.none
  have B517 := B439.all k493 id
  have B518 := B440.all k493 Apart.none
  have B526 := B426.all k493 Apart.none
  have B527 := B427.all k493 Apart.none
  have B528 := B428.all k493 Apart.none
  have K529 := K448.tr k493
  refine wl_store_stc (us := [iv ((newF 8 8 128).W), iv ((newF 8 8 128).H), v418, v419, v420]) stcT_frame rfl rfl rfl rfl rfl B494 rfl (oneI rfl (oneI rfl (oneI B526.one (oneI B527.one (oneI B528.one oneN))))) fun w530 B531 k532 => ?_
  have B534 := B514.all k532 ap498.symm
  have B535 := B515.all k532 ap499.symm
  have B536 := B516.all k532 ap500.symm
  have B537 := B517.all k532 (ap501.symm p84 rfl)
  have B538 := B518.all k532 ap502.symm
  have B546 := B526.all k532 ap510.symm
  have B547 := B527.all k532 ap511.symm
  have B548 := B528.all k532 ap512.symm
  have K549 := K529.trans k532 (Grew.ok (S := fun _ => False) gr496 noB_le)
  refine wl_v (iv (newE 8 8)) rfl rfl (y_asg rfl rfl rr) (wl_nil fun F550 hF551 => ?_)
  obtain ⟨s552, s553, s554, s555, s556, s557, s558⟩ := t7 hF551 101 s411 4 s412 5 s413 6 s414 7 s415 9 s416 11 s417
  have s559 : F550 12 = pt p491 0 := (hF551 12).trans rfl
  clear hF551
  refine then_normal (wq_seq (wq_region (wl_v (.agg #[iv ((decF awP 8 8 100 1000 0 0 0 0 (FD.mk 0 0 ([]) ([]) ([])) (FD.mk 0 0 ([]) ([]) ([]))).W), iv ((decF awP 8 8 100 1000 0 0 0 0 (FD.mk 0 0 ([]) ([]) ([])) (FD.mk 0 0 ([]) ([]) ([]))).H), v59, v60, v61]) rfl rfl (y_load_stc stcT_frame rfl s553 B537 rr) (wl_v (.agg #[iv ((newF 8 8 128).W), iv ((newF 8 8 128).H), v418, v419, v420]) rfl rfl (y_load_stc stcT_frame rfl s559 B531 rr) (wl_call (R := fun v_ w_ => v_ = .bool true ∧ Kept (fun _ => False) w530 w_) rfl rfl (y_cs rfl rfl rfl (fun _ _ => by kernel_rfl) (ev_func _) (vsC rfl (vsC rfl vsN)) (fref_same (decF awP 8 8 100 1000 0 0 0 0 (FD.mk 0 0 ([]) ([]) ([])) (FD.mk 0 0 ([]) ([]) ([]))) v59 v60 v61 (newF 8 8 128) v418 v419 v420 T64 T65 T66 T423 T424 T425 _  B534.byt B535.byt B536.byt B546.byt B547.byt B548.byt ) (fun e_ w_ h_ => ⟨_, h_.1, congrArg Value.bool hf.out, h_.2⟩)) ?_)))))
  rintro _ w560 ⟨rfl, k561⟩
  have B567 := B538.all k561 Apart.none
  have B575 := B546.all k561 Apart.none
  have B576 := B547.all k561 Apart.none
  have B577 := B548.all k561 Apart.none
  have B578 := B531.all k561 id
  have K579 := K549.tr k561
  refine wl_v (.bool true) rfl rfl (y_asg rfl rfl rr) (wl_nil fun F580 hF581 => ?_)
  obtain ⟨s582, s583, s584, s585, s586, s587, s588⟩ := t7 hF581 101 s552 5 s554 6 s555 7 s556 9 s557 11 s558 12 s559
  have s589 : F580 14 = .bool true := (hF581 14).trans rfl
  clear hF581
  refine then_normal (wq_seq ?_)
  refine wq_said [some 71, some 72, some 73, some 15] [Pd.eq (.agg #[iv 8, iv 8, iv 100, iv 1000]), Pd.eq (.agg #[iv ((newF 8 8 128).W), iv ((newF 8 8 128).H), v418, v419, v420]), Pd.eq (.bool true), Pd.eq (.bool true)] (by kernel_rfl) (by kernel_rfl) ?_ ?_
  ·refine stepsF_cons ?_ ?_
   ·refine StepF.one rfl fun F_ w_ hR hout hD => ?_
    exact (y_cs rfl rfl rfl (fun _ _ => by kernel_rfl) (ev_func _) vsN (pcseq_walk   _   ) (fun e_ w_ h_ => ⟨_, h_.1, rfl, h_.2⟩))
   refine stepsF_cons ?_ ?_
   ·refine StepF.one rfl fun F_ w_ hR hout hD => ?_
    exact (y_load_stc stcT_frame rfl ((hout 12 rfl (by decide)).trans s588) (B578.all hR id) ⟨rfl, Kept.refl _ _⟩)
   refine stepsF_cons ?_ ?_
   ·refine StepF.one rfl fun F_ w_ hR hout hD => ?_
    have g71 : F_ 71 = .agg #[iv 8, iv 8, iv 100, iv 1000] := (hD.get 0 rfl rfl rfl)
    have g72 : F_ 72 = .agg #[iv ((newF 8 8 128).W), iv ((newF 8 8 128).H), v418, v419, v420] := (hD.get 1 rfl rfl rfl)
    exact (y_cs rfl rfl rfl (fun _ _ => by kernel_rfl) (ev_func _) (vsC g71 (vsC g72 vsN)) (pc_fits 8 8 100 1000 (newF 8 8 128) v418 v419 v420 T423 T424 T425 _  (B575.all hR Apart.none).byt (B576.all hR Apart.none).byt (B577.all hR Apart.none).byt ) (fun e_ w_ h_ => ⟨_, h_.1, congrArg Value.bool (decide_eq_true aw_fit), h_.2⟩))
   refine stepsF_cons ?_ ?_
   ·refine StepF.one rfl fun F_ w_ hR hout hD => ?_
    have g73 : F_ 73 = .bool true := (hD.get 0 rfl rfl rfl)
    exact (y_asg rfl g73 ⟨rfl, Kept.refl _ _⟩)
   exact stepsF_nil
  intro v590 F591 w592 k593 G594 hF595
  have B602 := B567.all k593 Apart.none
  have K614 := K579.tr k593
  obtain ⟨s615, s616, s617, s618, s619, s620, s621⟩ := t7 hF595 101 s582 5 s583 6 s584 7 s585 9 s586 11 s587 14 s589
  have s622 : F591 15 = .bool true := (hF595 15).trans (G594 3 (by decide))
  clear G594 hF595
  refine then_normal (wq_seq (wq_region (wl_mv rfl rfl rfl s616 (wl_v (.bool true) rfl rfl (y_eqlI rfl rfl rfl (decide_eq_true hd.out) rr) (wl_v (.bool true) rfl rfl (y_mov rfl rfl rr) (wl_vw (.bool true) 2 true 76 rfl rfl rfl rfl rfl (y_mov rfl s621 rr) (wl_v (.bool true) rfl rfl (y_pickT rfl rfl rfl rr) (wl_v (.bool true) rfl rfl (y_mov rfl rfl rr) (wl_vw v121 5 true 79 rfl rfl rfl rfl rfl (y_mov rfl s617 rr) (wl_vw (iv ((((chsE awP 8 8 100 1000 0 0 0 0).1).length : Nat) : Int)) 5 true 79 rfl rfl rfl rfl rfl (y_lenRo (r := rCh) rfl rfl rfl B602.roa rr) (wl_vw (.bool true) 5 true 79 rfl rfl rfl rfl rfl (y_eqlI rfl rfl rfl (decide_eq_true (by rw [hc.out.1]; rfl)) rr) ?_)))))))))))
  refine wl_v (.bool true) rfl rfl (y_pickT rfl rfl rfl rr) (wl_v (.bool true) rfl rfl (y_mov rfl rfl rr) (wl_vw (iv ((chsE awP 8 8 100 1000 0 0 0 0).2)) 10 true 84 rfl rfl rfl rfl rfl (y_mov rfl s618 rr) (wl_vw (.bool true) 10 true 84 rfl rfl rfl rfl rfl (y_eqlI rfl rfl rfl (decide_eq_true hc.out.2.1) rr) (wl_v (.bool true) rfl rfl (y_pickT rfl rfl rfl rr) (wl_v (.bool true) rfl rfl (y_mov rfl rfl rr) (wl_vw (iv (decE awP 8 8 100 1000 1 0 0 0 (FD.mk 0 0 ([]) ([]) ([])) (FD.mk 0 0 ([]) ([]) ([])))) 14 true 88 rfl rfl rfl rfl rfl (y_mov rfl s619 rr) (wl_vw (.bool true) 14 true 88 rfl rfl rfl rfl rfl (y_eqlI rfl rfl rfl (decide_eq_true ho.out.1) rr) (wl_v (.bool true) rfl rfl (y_pickT rfl rfl rfl rr) (wl_v (.bool true) rfl rfl (y_mov rfl rfl rr) (wl_vw (iv ((chsE ((([] : List Nat) ++ awP) ++ ([0])) 8 8 100 1000 0 0 0 0).2)) 18 true 92 rfl rfl rfl rfl rfl (y_mov rfl s620 rr) (wl_vw (.bool true) 18 true 92 rfl rfl rfl rfl rfl (y_eqlI rfl rfl rfl (decide_eq_true hc.out.2.2) rr) ?_)))))))))))
  refine wl_v (.bool true) rfl rfl (y_pickT rfl rfl rfl rr) (wl_v (.bool true) rfl rfl (y_mov rfl rfl rr) (wl_v (.bool true) rfl rfl (y_pickT rfl rfl rfl rr) (wl_v (.bool true) rfl rfl (y_mov rfl rfl rr) (wl_vw (.bool true) 24 true 98 rfl rfl rfl rfl rfl (y_mov rfl s622 rr) (wl_v (.bool true) rfl rfl (y_pickT rfl rfl rfl rr) (wl_v (.bool true) rfl rfl (y_asg rfl rfl rr) (wl_nil fun F623 hF624 => ?_)))))))
  have s625 := (hF624 101).trans s615
  have s626 : F623 0 = .bool true := (hF624 0).trans rfl
  clear hF624
  refine then_normal (wq_ret ?_)
  exact end_tmp (v := .bool true) s625 rfl rfl s626 ⟨rfl, K614⟩
end Go.Proofs.YtknjpdcpmpfklaaGreatDoor
set_option maxRecDepth 100000
namespace Go.Proofs.YtknjpdcpmpfklaaGreatDoor
open Go.RowKit
def bigP (W H : Int) : Prop := (16 < W ∧ W ≤ 64) ∨ (16 < H ∧ H ≤ 64)
instance (W H : Int) : Decidable (bigP W H) := by unfold bigP; infer_instance
theorem decF_none {l : List Nat} {W H R B K Q D F : Int} {g h : FD} (h0 : decE l W H R B K Q D F g h ≠ 0) : (decF l W H R B K Q D F g h).p0.length = 0 ∧ (decF l W H R B K Q D F g h).p1.length = 0 := by
  rw [decF_no h0]; exact ⟨rfl, rfl⟩
end Go.Proofs.YtknjpdcpmpfklaaGreatDoor
set_option maxRecDepth 100000
namespace Go.Proofs.YtknjpdcpmpfklaaGreatDoor
open Go.RowKit
theorem sameF_me (a : FD) : sameF a a = true := by unfold sameF sameT; simp
theorem may_shown {W H R B K Q D F : Int} {m n : Nat} (h : mayP W H R B K Q D F) (hm : m < 65536) (hn : n < 65536) : mayP W H R B K Q (m : Int) (n : Int) := by
  obtain ⟨h1, h2⟩ := h
  refine ⟨h1, ?_⟩
  unfold headOk at h2 ⊢; omega
theorem keeps_same {l : List Nat} {W H R B K Q D F : Int} {g h : FD} {m n : Nat} (hz : decE l W H R B K Q D F g h = 0) (hm : m < 65536) (hn : n < 65536) :
    decE l W H R B K Q (m : Int) (n : Int) g h = 0 ∧ sameF (decF l W H R B K Q D F g h) (decF l W H R B K Q (m : Int) (n : Int) g h) = true := by
  have h0 := (decE_is hz).1
  have hd := dec_same (l := l) (g := g) (h := h) h0 (may_shown h0 hm hn)
  exact ⟨hd.1 ▸ hz, by rw [← hd.2]; exact sameF_me _⟩
theorem copy_same {f : FD} (h : checkE f = 0) : sameF (copyF f) f = true := by rw [copyF_yes ((checkE_iff f).1 h)]; exact sameF_me f
theorem pckeeps_walk (W H R B K Q D F : Int) (v : Value) (l : List Nat) (m n : Nat) (g : FD) (g0 g1 g2 : Value) (h : FD) (h0 h1 h2 : Value) (T_b : Nat → Prop) (T_g0 : Nat → Prop) (T_g1 : Nat → Prop) (T_g2 : Nat → Prop) (T_h0 : Nat → Prop) (T_h1 : Nat → Prop) (T_h2 : Nat → Prop) (w0 : World) (hA : ActsIn w0) (hO : ScanIn w0) (hs : StepsAt w0) (hw : Waves w0) (hm : m < 65536) (hn : n < 65536) (h_b : Byt w0 T_b v (l)) (h_g0 : Byt w0 T_g0 g0 ((g).p0)) (h_g1 : Byt w0 T_g1 g1 ((g).p1)) (h_g2 : Byt w0 T_g2 g2 ((g).p2)) (h_h0 : Byt w0 T_h0 h0 ((h).p0)) (h_h1 : Byt w0 T_h1 h1 ((h).p1)) (h_h2 : Byt w0 T_h2 h2 ((h).p2)) :
  Calls Tryz.prog 4 #[.agg #[.int .i64 (W), .int .i64 (H), .int .i64 (R), .int .i64 (B)], .agg #[.int .i64 (K), .int .i64 (Q), .int .i64 (D), .int .i64 (F)], v, .agg #[.int .i64 ((g).W), .int .i64 ((g).H), g0, g1, g2], .agg #[.int .i64 ((h).W), .int .i64 ((h).H), h0, h1, h2], .int .u16 (((m : Nat) : Int)), .int .u16 (((n : Nat) : Int))] w0 fun e w' => e = .returned (.bool true) ∧ Kept (fun _ => False) w0 w' := by
 refine calls_wq (args := [.agg #[iv W, iv H, iv R, iv B], .agg #[iv K, iv Q, iv D, iv F], v, .agg #[iv (g.W), iv (g.H), g0, g1, g2], .agg #[iv (h.W), iv (h.H), h0, h1, h2], .int .u16 ((m : Nat) : Int), .int .u16 ((n : Nat) : Int)]) 121 Tryz.func4 rfl rfl (Nat.le_of_ble_eq_true rfl) ?_
 have K0 := Kept.refl (fun _ => False) w0
 have g_b := Grew.refl w0 T_b
 have g_g0 := Grew.refl w0 T_g0
 have g_g1 := Grew.refl w0 T_g1
 have g_g2 := Grew.refl w0 T_g2
 have g_h0 := Grew.refl w0 T_h0
 have g_h1 := Grew.refl w0 T_h1
 have g_h2 := Grew.refl w0 T_h2
 refine wq_seq (wq_region (wl_box_stc (vs := [iv W, iv H, iv R, iv B]) rfl rfl rfl rfl fun p1 w2 B4 g5 k3 => ?_))
 have B14 := h_b.all k3 Apart.none
 have B15 := h_g0.all k3 Apart.none
 have B16 := h_g1.all k3 Apart.none
 have B17 := h_g2.all k3 Apart.none
 have B18 := h_h0.all k3 Apart.none
 have B19 := h_h1.all k3 Apart.none
 have B20 := h_h2.all k3 Apart.none
 have K21 := K0.tr k3
 refine wl_box_stc (vs := [iv K, iv Q, iv D, iv F]) rfl rfl rfl rfl fun p22 w23 B25 g26 k24 => ?_
 have gr27 : Grew w0 noB (onB p22) := Grew.new K21 g26
 have ap28 : Apart (onB p22) T_b := Apart.new g26 B14.live
 have ap29 : Apart (onB p22) T_g0 := Apart.new g26 B15.live
 have ap30 : Apart (onB p22) T_g1 := Apart.new g26 B16.live
 have ap31 : Apart (onB p22) T_g2 := Apart.new g26 B17.live
 have ap32 : Apart (onB p22) T_h0 := Apart.new g26 B18.live
 have ap33 : Apart (onB p22) T_h1 := Apart.new g26 B19.live
 have ap34 : Apart (onB p22) T_h2 := Apart.new g26 B20.live
 have ap35 : Apart (onB p22) (onB p1) := Apart.new g26 (onB_live B4.lt)
 have B36 := B14.all k24 Apart.none
 have B37 := B15.all k24 Apart.none
 have B38 := B16.all k24 Apart.none
 have B39 := B17.all k24 Apart.none
 have B40 := B18.all k24 Apart.none
 have B41 := B19.all k24 Apart.none
 have B42 := B20.all k24 Apart.none
 have B43 := B4.all k24 id
 have K44 := K21.tr k24
 refine wl_box_stc (vs := [iv (g.W), iv (g.H), g0, g1, g2]) rfl rfl rfl rfl fun p45 w46 B48 g49 k47 => ?_
 have ap59 : Apart (onB p45) (onB p22) := Apart.new g49 (onB_live B25.lt)
 have B60 := B36.all k47 Apart.none
 have B61 := B37.all k47 Apart.none
 have B62 := B38.all k47 Apart.none
 have B63 := B39.all k47 Apart.none
 have B64 := B40.all k47 Apart.none
 have B65 := B41.all k47 Apart.none
 have B66 := B42.all k47 Apart.none
 have B67 := B43.all k47 id
 have B68 := B25.all k47 id
 have K69 := K44.tr k47
 refine wl_box_stc (vs := [iv (h.W), iv (h.H), h0, h1, h2]) rfl rfl rfl rfl fun p70 w71 B73 g74 k72 => ?_
 have ap84 : Apart (onB p70) (onB p22) := Apart.new g74 (onB_live B68.lt)
 have B86 := B60.all k72 Apart.none
 have B87 := B61.all k72 Apart.none
 have B88 := B62.all k72 Apart.none
 have B89 := B63.all k72 Apart.none
 have B90 := B64.all k72 Apart.none
 have B91 := B65.all k72 Apart.none
 have B92 := B66.all k72 Apart.none
 have B93 := B67.all k72 id
 have B94 := B68.all k72 id
 have B95 := B48.all k72 id
 have K96 := K69.tr k72
 refine wl_v (.bool false) rfl rfl (y_asg rfl rfl rr) (wl_nil fun F97 hF98 => ?_)
 have s99 : F97 2 = v := (hF98 2).trans rfl
 have s100 : F97 5 = .int .u16 ((m : Nat) : Int) := (hF98 5).trans rfl
 have s101 : F97 6 = .int .u16 ((n : Nat) : Int) := (hF98 6).trans rfl
 have s102 : F97 121 = undef := (hF98 121).trans rfl
 have s103 : F97 7 = pt p1 0 := (hF98 7).trans rfl
 have s104 : F97 8 = pt p22 0 := (hF98 8).trans rfl
 have s105 : F97 10 = pt p45 0 := (hF98 10).trans rfl
 have s106 : F97 11 = pt p70 0 := (hF98 11).trans rfl
 clear hF98
 refine then_normal (wq_seq (wq_region (wl_cs rfl rfl rfl rfl rfl (fun _ _ => by kernel_rfl) vsN (pcawake_any   _ (hA.all K96) (hO.all K96) (hs.all K96) (hw.all K96)  ) fun w107 k108 => ?_)))
 have B109 := B86.all k108 Apart.none
 have B110 := B87.all k108 Apart.none
 have B111 := B88.all k108 Apart.none
 have B112 := B89.all k108 Apart.none
 have B113 := B90.all k108 Apart.none
 have B114 := B91.all k108 Apart.none
 have B115 := B92.all k108 Apart.none
 have B116 := B93.all k108 id
 have B117 := B94.all k108 id
 have B118 := B95.all k108 id
 have B119 := B73.all k108 id
 have K120 := K96.tr k108
 refine wl_v (.bool true) rfl rfl (y_asg rfl rfl rr) (wl_nil fun F121 hF122 => ?_)
 obtain ⟨s123, s124, s125, s126, s127, s128, s129, s130⟩ := t8 hF122 2 s99 5 s100 6 s101 121 s102 7 s103 8 s104 10 s105 11 s106
 have s131 : F121 15 = .bool true := (hF122 15).trans rfl
 clear hF122
 refine then_normal (wq_seq (wq_seq ?_))
 refine wq_cut (fun FF ww => FF 56 = .bool (decide (bigP W H ∨ 1000 < l.length ∨ fewF g = false ∨ fewF h = false)) ∧ FF 2 = v ∧ FF 5 = .int .u16 ((m : Nat) : Int) ∧ FF 6 = .int .u16 ((n : Nat) : Int) ∧ FF 7 = pt p1 0 ∧ FF 8 = pt p22 0 ∧ FF 10 = pt p45 0 ∧ FF 11 = pt p70 0 ∧ FF 15 = .bool true ∧ FF 121 = undef ∧ Kept (fun _ => False) w0 ww ∧ Byt ww T_b v l ∧ Byt ww T_g0 g0 (g.p0) ∧ Byt ww T_g1 g1 (g.p1) ∧ Byt ww T_g2 g2 (g.p2) ∧ Byt ww T_h0 h0 (h.p0) ∧ Byt ww T_h1 h1 (h.p1) ∧ Byt ww T_h2 h2 (h.p2) ∧ Stc ww p1 23 [iv W, iv H, iv R, iv B] ∧ Stc ww p22 25 [iv K, iv Q, iv D, iv F] ∧ Stc ww p45 29 [iv (g.W), iv (g.H), g0, g1, g2] ∧ Stc ww p70 29 [iv (h.W), iv (h.H), h0, h1, h2]) ?_ ?_
 ·skip
  by_cases d132 : 16 < W
  ·skip
   by_cases d133 : W ≤ 64
   ·skip
    refine wq_region (wl_v (pt p1 0) rfl rfl (y_fieldR (n := 1) rfl s127 Tryz.underlying23 rfl (by kernel_rfl) (by decide) rfl rr) (wl_v (iv W) rfl rfl (y_ld_stc rfl rfl Tryz.underlying3 B116 rfl rfl rr) (wl_v (.bool true) rfl rfl (y_gtr rfl rfl rfl (decide_eq_true d132) rr) (wl_v (.bool true) rfl rfl (y_mov rfl rfl rr) (wl_vw (pt p1 0) 3 true 27 rfl rfl rfl rfl rfl (y_fieldR (n := 1) rfl s127 Tryz.underlying23 rfl (by kernel_rfl) (by decide) rfl rr) (wl_vw (iv W) 3 true 27 rfl rfl rfl rfl rfl (y_ld_stc rfl rfl Tryz.underlying3 B116 rfl rfl rr) (wl_vw (.bool true) 3 true 27 rfl rfl rfl rfl rfl (y_leq rfl rfl rfl (decide_eq_true d133) rr) (wl_v (.bool true) rfl rfl (y_pickT rfl rfl rfl rr) (wl_v (.bool true) rfl rfl (y_mov rfl rfl rr) (wl_unless 8 false 32 rfl rfl rfl (Or.inl rfl) rfl (wl_unless 8 false 32 rfl rfl rfl (Or.inl rfl) rfl ?_)))))))))))
    refine wl_unless 8 false 32 rfl rfl rfl (Or.inl rfl) rfl (wl_unless 8 false 32 rfl rfl rfl (Or.inl rfl) rfl (wl_unless 12 true 36 rfl rfl rfl (Or.inr rfl) rfl (wl_unless 12 true 36 rfl rfl rfl (Or.inr rfl) rfl (wl_unless 12 true 36 rfl rfl rfl (Or.inr rfl) rfl (wl_unless 8 false 32 rfl rfl rfl (Or.inl rfl) rfl (wl_v (.bool true) rfl rfl (y_pickT rfl rfl rfl rr) (wl_v (.bool true) rfl rfl (y_mov rfl rfl rr) (wl_unless 18 false 42 rfl rfl rfl (Or.inl rfl) rfl (wl_unless 18 false 42 rfl rfl rfl (Or.inl rfl) rfl (wl_unless 18 false 42 rfl rfl rfl (Or.inl rfl) rfl (wl_v (.bool true) rfl rfl (y_pickT rfl rfl rfl rr) ?_)))))))))))
    refine wl_v (.bool true) rfl rfl (y_mov rfl rfl rr) (wl_unless 23 false 47 rfl rfl rfl (Or.inl rfl) rfl (wl_unless 23 false 47 rfl rfl rfl (Or.inl rfl) rfl (wl_unless 23 false 47 rfl rfl rfl (Or.inl rfl) rfl (wl_v (.bool true) rfl rfl (y_pickT rfl rfl rfl rr) (wl_v (.bool true) rfl rfl (y_mov rfl rfl rr) (wl_unless 28 false 52 rfl rfl rfl (Or.inl rfl) rfl (wl_unless 28 false 52 rfl rfl rfl (Or.inl rfl) rfl (wl_unless 28 false 52 rfl rfl rfl (Or.inl rfl) rfl (wl_v (.bool true) rfl rfl (y_pickT rfl rfl rfl rr) (wl_nil fun F134 hF135 => ?_))))))))))
    obtain ⟨s136, s137, s138, s139, s140, s141, s142, s143, s144⟩ := t9 hF135 2 s123 5 s124 6 s125 121 s126 7 s127 8 s128 10 s129 11 s130 15 s131
    have s145 : F134 56 = .bool true := (hF135 56).trans rfl
    clear hF135
    exact ⟨s145.trans (congrArg Value.bool (show true = decide (bigP W H ∨ 1000 < l.length ∨ fewF g = false ∨ fewF h = false) from (by rw [Bool.eq_iff_iff, decide_eq_true_iff]; unfold bigP; first | (simp [*]; done) | (simp [*]; omega) | (simp_all; done) | (simp_all; omega)))), s136, s137, s138, s140, s141, s142, s143, s144, s139, K120, B109, B110, B111, B112, B113, B114, B115, B116, B117, B118, B119⟩
   ·skip
    by_cases d146 : 16 < H
    ·skip
     by_cases d147 : H ≤ 64
     ·skip
      refine wq_region (wl_v (pt p1 0) rfl rfl (y_fieldR (n := 1) rfl s127 Tryz.underlying23 rfl (by kernel_rfl) (by decide) rfl rr) (wl_v (iv W) rfl rfl (y_ld_stc rfl rfl Tryz.underlying3 B116 rfl rfl rr) (wl_v (.bool true) rfl rfl (y_gtr rfl rfl rfl (decide_eq_true d132) rr) (wl_v (.bool true) rfl rfl (y_mov rfl rfl rr) (wl_vw (pt p1 0) 3 true 27 rfl rfl rfl rfl rfl (y_fieldR (n := 1) rfl s127 Tryz.underlying23 rfl (by kernel_rfl) (by decide) rfl rr) (wl_vw (iv W) 3 true 27 rfl rfl rfl rfl rfl (y_ld_stc rfl rfl Tryz.underlying3 B116 rfl rfl rr) (wl_vw (.bool false) 3 true 27 rfl rfl rfl rfl rfl (y_leq rfl rfl rfl (decide_eq_false d133) rr) (wl_v (.bool false) rfl rfl (y_pickT rfl rfl rfl rr) (wl_v (.bool false) rfl rfl (y_mov rfl rfl rr) (wl_vw (pt p1 1) 8 false 32 rfl rfl rfl rfl rfl (y_fieldR (n := 1) rfl s127 Tryz.underlying23 rfl (by kernel_rfl) (by decide) rfl rr) (wl_vw (iv H) 8 false 32 rfl rfl rfl rfl rfl (y_ld_stc rfl rfl Tryz.underlying3 B116 rfl rfl rr) ?_)))))))))))
      refine wl_vw (.bool true) 8 false 32 rfl rfl rfl rfl rfl (y_gtr rfl rfl rfl (decide_eq_true d146) rr) (wl_vw (.bool true) 8 false 32 rfl rfl rfl rfl rfl (y_mov rfl rfl rr) (wl_vw (pt p1 1) 12 true 36 rfl rfl rfl rfl rfl (y_fieldR (n := 1) rfl s127 Tryz.underlying23 rfl (by kernel_rfl) (by decide) rfl rr) (wl_vw (iv H) 12 true 36 rfl rfl rfl rfl rfl (y_ld_stc rfl rfl Tryz.underlying3 B116 rfl rfl rr) (wl_vw (.bool true) 12 true 36 rfl rfl rfl rfl rfl (y_leq rfl rfl rfl (decide_eq_true d147) rr) (wl_vw (.bool true) 8 false 32 rfl rfl rfl rfl rfl (y_pickT rfl rfl rfl rr) (wl_v (.bool true) rfl rfl (y_pickF rfl rfl rfl rr) (wl_v (.bool true) rfl rfl (y_mov rfl rfl rr) (wl_unless 18 false 42 rfl rfl rfl (Or.inl rfl) rfl (wl_unless 18 false 42 rfl rfl rfl (Or.inl rfl) rfl (wl_unless 18 false 42 rfl rfl rfl (Or.inl rfl) rfl (wl_v (.bool true) rfl rfl (y_pickT rfl rfl rfl rr) ?_)))))))))))
      refine wl_v (.bool true) rfl rfl (y_mov rfl rfl rr) (wl_unless 23 false 47 rfl rfl rfl (Or.inl rfl) rfl (wl_unless 23 false 47 rfl rfl rfl (Or.inl rfl) rfl (wl_unless 23 false 47 rfl rfl rfl (Or.inl rfl) rfl (wl_v (.bool true) rfl rfl (y_pickT rfl rfl rfl rr) (wl_v (.bool true) rfl rfl (y_mov rfl rfl rr) (wl_unless 28 false 52 rfl rfl rfl (Or.inl rfl) rfl (wl_unless 28 false 52 rfl rfl rfl (Or.inl rfl) rfl (wl_unless 28 false 52 rfl rfl rfl (Or.inl rfl) rfl (wl_v (.bool true) rfl rfl (y_pickT rfl rfl rfl rr) (wl_nil fun F148 hF149 => ?_))))))))))
      obtain ⟨s150, s151, s152, s153, s154, s155, s156, s157, s158⟩ := t9 hF149 2 s123 5 s124 6 s125 121 s126 7 s127 8 s128 10 s129 11 s130 15 s131
      have s159 : F148 56 = .bool true := (hF149 56).trans rfl
      clear hF149
      exact ⟨s159.trans (congrArg Value.bool (show true = decide (bigP W H ∨ 1000 < l.length ∨ fewF g = false ∨ fewF h = false) from (by rw [Bool.eq_iff_iff, decide_eq_true_iff]; unfold bigP; first | (simp [*]; done) | (simp [*]; omega) | (simp_all; done) | (simp_all; omega)))), s150, s151, s152, s154, s155, s156, s157, s158, s153, K120, B109, B110, B111, B112, B113, B114, B115, B116, B117, B118, B119⟩
     ·skip
      by_cases d160 : 1000 < ((l.length : Nat) : Int)
      ·skip
       refine wq_region (wl_v (pt p1 0) rfl rfl (y_fieldR (n := 1) rfl s127 Tryz.underlying23 rfl (by kernel_rfl) (by decide) rfl rr) (wl_v (iv W) rfl rfl (y_ld_stc rfl rfl Tryz.underlying3 B116 rfl rfl rr) (wl_v (.bool true) rfl rfl (y_gtr rfl rfl rfl (decide_eq_true d132) rr) (wl_v (.bool true) rfl rfl (y_mov rfl rfl rr) (wl_vw (pt p1 0) 3 true 27 rfl rfl rfl rfl rfl (y_fieldR (n := 1) rfl s127 Tryz.underlying23 rfl (by kernel_rfl) (by decide) rfl rr) (wl_vw (iv W) 3 true 27 rfl rfl rfl rfl rfl (y_ld_stc rfl rfl Tryz.underlying3 B116 rfl rfl rr) (wl_vw (.bool false) 3 true 27 rfl rfl rfl rfl rfl (y_leq rfl rfl rfl (decide_eq_false d133) rr) (wl_v (.bool false) rfl rfl (y_pickT rfl rfl rfl rr) (wl_v (.bool false) rfl rfl (y_mov rfl rfl rr) (wl_vw (pt p1 1) 8 false 32 rfl rfl rfl rfl rfl (y_fieldR (n := 1) rfl s127 Tryz.underlying23 rfl (by kernel_rfl) (by decide) rfl rr) (wl_vw (iv H) 8 false 32 rfl rfl rfl rfl rfl (y_ld_stc rfl rfl Tryz.underlying3 B116 rfl rfl rr) ?_)))))))))))
       refine wl_vw (.bool true) 8 false 32 rfl rfl rfl rfl rfl (y_gtr rfl rfl rfl (decide_eq_true d146) rr) (wl_vw (.bool true) 8 false 32 rfl rfl rfl rfl rfl (y_mov rfl rfl rr) (wl_vw (pt p1 1) 12 true 36 rfl rfl rfl rfl rfl (y_fieldR (n := 1) rfl s127 Tryz.underlying23 rfl (by kernel_rfl) (by decide) rfl rr) (wl_vw (iv H) 12 true 36 rfl rfl rfl rfl rfl (y_ld_stc rfl rfl Tryz.underlying3 B116 rfl rfl rr) (wl_vw (.bool false) 12 true 36 rfl rfl rfl rfl rfl (y_leq rfl rfl rfl (decide_eq_false d147) rr) (wl_vw (.bool false) 8 false 32 rfl rfl rfl rfl rfl (y_pickT rfl rfl rfl rr) (wl_v (.bool false) rfl rfl (y_pickF rfl rfl rfl rr) (wl_v (.bool false) rfl rfl (y_mov rfl rfl rr) (wl_vw v 18 false 42 rfl rfl rfl rfl rfl (y_mov rfl s123 rr) (wl_vw (iv ((l.length : Nat) : Int)) 18 false 42 rfl rfl rfl rfl rfl (y_lenV rfl rfl rfl B109 rr) (wl_vw (.bool true) 18 false 42 rfl rfl rfl rfl rfl (y_gtr rfl rfl rfl (decide_eq_true d160) rr) (wl_v (.bool true) rfl rfl (y_pickF rfl rfl rfl rr) ?_)))))))))))
       refine wl_v (.bool true) rfl rfl (y_mov rfl rfl rr) (wl_unless 23 false 47 rfl rfl rfl (Or.inl rfl) rfl (wl_unless 23 false 47 rfl rfl rfl (Or.inl rfl) rfl (wl_unless 23 false 47 rfl rfl rfl (Or.inl rfl) rfl (wl_v (.bool true) rfl rfl (y_pickT rfl rfl rfl rr) (wl_v (.bool true) rfl rfl (y_mov rfl rfl rr) (wl_unless 28 false 52 rfl rfl rfl (Or.inl rfl) rfl (wl_unless 28 false 52 rfl rfl rfl (Or.inl rfl) rfl (wl_unless 28 false 52 rfl rfl rfl (Or.inl rfl) rfl (wl_v (.bool true) rfl rfl (y_pickT rfl rfl rfl rr) (wl_nil fun F161 hF162 => ?_))))))))))
       obtain ⟨s163, s164, s165, s166, s167, s168, s169, s170, s171⟩ := t9 hF162 2 s123 5 s124 6 s125 121 s126 7 s127 8 s128 10 s129 11 s130 15 s131
       have s172 : F161 56 = .bool true := (hF162 56).trans rfl
       clear hF162
       exact ⟨s172.trans (congrArg Value.bool (show true = decide (bigP W H ∨ 1000 < l.length ∨ fewF g = false ∨ fewF h = false) from (by rw [Bool.eq_iff_iff, decide_eq_true_iff]; unfold bigP; first | (simp [*]; done) | (simp [*]; omega) | (simp_all; done) | (simp_all; omega)))), s163, s164, s165, s167, s168, s169, s170, s171, s166, K120, B109, B110, B111, B112, B113, B114, B115, B116, B117, B118, B119⟩
      ·skip
       rcases Bool.eq_false_or_eq_true (fewF g) with d173 | d173
       ·skip
        rcases Bool.eq_false_or_eq_true (fewF h) with d174 | d174
        ·skip
         refine wq_region (wl_v (pt p1 0) rfl rfl (y_fieldR (n := 1) rfl s127 Tryz.underlying23 rfl (by kernel_rfl) (by decide) rfl rr) (wl_v (iv W) rfl rfl (y_ld_stc rfl rfl Tryz.underlying3 B116 rfl rfl rr) (wl_v (.bool true) rfl rfl (y_gtr rfl rfl rfl (decide_eq_true d132) rr) (wl_v (.bool true) rfl rfl (y_mov rfl rfl rr) (wl_vw (pt p1 0) 3 true 27 rfl rfl rfl rfl rfl (y_fieldR (n := 1) rfl s127 Tryz.underlying23 rfl (by kernel_rfl) (by decide) rfl rr) (wl_vw (iv W) 3 true 27 rfl rfl rfl rfl rfl (y_ld_stc rfl rfl Tryz.underlying3 B116 rfl rfl rr) (wl_vw (.bool false) 3 true 27 rfl rfl rfl rfl rfl (y_leq rfl rfl rfl (decide_eq_false d133) rr) (wl_v (.bool false) rfl rfl (y_pickT rfl rfl rfl rr) (wl_v (.bool false) rfl rfl (y_mov rfl rfl rr) (wl_vw (pt p1 1) 8 false 32 rfl rfl rfl rfl rfl (y_fieldR (n := 1) rfl s127 Tryz.underlying23 rfl (by kernel_rfl) (by decide) rfl rr) (wl_vw (iv H) 8 false 32 rfl rfl rfl rfl rfl (y_ld_stc rfl rfl Tryz.underlying3 B116 rfl rfl rr) ?_)))))))))))
         refine wl_vw (.bool true) 8 false 32 rfl rfl rfl rfl rfl (y_gtr rfl rfl rfl (decide_eq_true d146) rr) (wl_vw (.bool true) 8 false 32 rfl rfl rfl rfl rfl (y_mov rfl rfl rr) (wl_vw (pt p1 1) 12 true 36 rfl rfl rfl rfl rfl (y_fieldR (n := 1) rfl s127 Tryz.underlying23 rfl (by kernel_rfl) (by decide) rfl rr) (wl_vw (iv H) 12 true 36 rfl rfl rfl rfl rfl (y_ld_stc rfl rfl Tryz.underlying3 B116 rfl rfl rr) (wl_vw (.bool false) 12 true 36 rfl rfl rfl rfl rfl (y_leq rfl rfl rfl (decide_eq_false d147) rr) (wl_vw (.bool false) 8 false 32 rfl rfl rfl rfl rfl (y_pickT rfl rfl rfl rr) (wl_v (.bool false) rfl rfl (y_pickF rfl rfl rfl rr) (wl_v (.bool false) rfl rfl (y_mov rfl rfl rr) (wl_vw v 18 false 42 rfl rfl rfl rfl rfl (y_mov rfl s123 rr) (wl_vw (iv ((l.length : Nat) : Int)) 18 false 42 rfl rfl rfl rfl rfl (y_lenV rfl rfl rfl B109 rr) (wl_vw (.bool false) 18 false 42 rfl rfl rfl rfl rfl (y_gtr rfl rfl rfl (decide_eq_false d160) rr) (wl_v (.bool false) rfl rfl (y_pickF rfl rfl rfl rr) ?_)))))))))))
         refine wl_v (.bool false) rfl rfl (y_mov rfl rfl rr) (wl_vw (.agg #[iv (g.W), iv (g.H), g0, g1, g2]) 23 false 47 rfl rfl rfl rfl rfl (y_load_stc stcT_frame rfl s129 B118 rr) (wl_callw (R := fun v_ w_ => v_ = .bool true ∧ Kept (fun _ => False) w107 w_) 23 false 47 rfl rfl rfl rfl rfl (y_cs rfl rfl rfl (fun _ _ => by kernel_rfl) (ev_func _) (vsC rfl vsN) (flaw_few g g0 g1 g2 T_g0 T_g1 T_g2 _  B110 B111 B112 ) (fun e_ w_ h_ => ⟨_, h_.1, (congrArg Value.bool d173), h_.2⟩)) ?_))
         rintro _ w175 ⟨rfl, k176⟩
         have B177 := B109.all k176 Apart.none
         have B178 := B110.all k176 Apart.none
         have B179 := B111.all k176 Apart.none
         have B180 := B112.all k176 Apart.none
         have B181 := B113.all k176 Apart.none
         have B182 := B114.all k176 Apart.none
         have B183 := B115.all k176 Apart.none
         have B184 := B116.all k176 id
         have B185 := B117.all k176 id
         have B186 := B118.all k176 id
         have B187 := B119.all k176 id
         have K188 := K120.tr k176
         refine wl_vw (.bool false) 23 false 47 rfl rfl rfl rfl rfl (y_not rfl rfl rfl rr) (wl_v (.bool false) rfl rfl (y_pickF rfl rfl rfl rr) (wl_v (.bool false) rfl rfl (y_mov rfl rfl rr) (wl_vw (.agg #[iv (h.W), iv (h.H), h0, h1, h2]) 28 false 52 rfl rfl rfl rfl rfl (y_load_stc stcT_frame rfl s130 B187 rr) (wl_callw (R := fun v_ w_ => v_ = .bool true ∧ Kept (fun _ => False) w175 w_) 28 false 52 rfl rfl rfl rfl rfl (y_cs rfl rfl rfl (fun _ _ => by kernel_rfl) (ev_func _) (vsC rfl vsN) (flaw_few h h0 h1 h2 T_h0 T_h1 T_h2 _  B181 B182 B183 ) (fun e_ w_ h_ => ⟨_, h_.1, (congrArg Value.bool d174), h_.2⟩)) ?_))))
         rintro _ w189 ⟨rfl, k190⟩
         have B191 := B177.all k190 Apart.none
         have B192 := B178.all k190 Apart.none
         have B193 := B179.all k190 Apart.none
         have B194 := B180.all k190 Apart.none
         have B195 := B181.all k190 Apart.none
         have B196 := B182.all k190 Apart.none
         have B197 := B183.all k190 Apart.none
         have B198 := B184.all k190 id
         have B199 := B185.all k190 id
         have B200 := B186.all k190 id
         have B201 := B187.all k190 id
         have K202 := K188.tr k190
         refine wl_vw (.bool false) 28 false 52 rfl rfl rfl rfl rfl (y_not rfl rfl rfl rr) (wl_v (.bool false) rfl rfl (y_pickF rfl rfl rfl rr) (wl_nil fun F203 hF204 => ?_))
         obtain ⟨s205, s206, s207, s208, s209, s210, s211, s212, s213⟩ := t9 hF204 2 s123 5 s124 6 s125 121 s126 7 s127 8 s128 10 s129 11 s130 15 s131
         have s214 : F203 56 = .bool false := (hF204 56).trans rfl
         clear hF204
         exact ⟨s214.trans (congrArg Value.bool (show false = decide (bigP W H ∨ 1000 < l.length ∨ fewF g = false ∨ fewF h = false) from (by rw [Bool.eq_iff_iff, decide_eq_true_iff]; unfold bigP; first | (simp [*]; done) | (simp [*]; omega) | (simp_all; done) | (simp_all; omega)))), s205, s206, s207, s209, s210, s211, s212, s213, s208, K202, B191, B192, B193, B194, B195, B196, B197, B198, B199, B200, B201⟩
        ·skip
         refine wq_region (wl_v (pt p1 0) rfl rfl (y_fieldR (n := 1) rfl s127 Tryz.underlying23 rfl (by kernel_rfl) (by decide) rfl rr) (wl_v (iv W) rfl rfl (y_ld_stc rfl rfl Tryz.underlying3 B116 rfl rfl rr) (wl_v (.bool true) rfl rfl (y_gtr rfl rfl rfl (decide_eq_true d132) rr) (wl_v (.bool true) rfl rfl (y_mov rfl rfl rr) (wl_vw (pt p1 0) 3 true 27 rfl rfl rfl rfl rfl (y_fieldR (n := 1) rfl s127 Tryz.underlying23 rfl (by kernel_rfl) (by decide) rfl rr) (wl_vw (iv W) 3 true 27 rfl rfl rfl rfl rfl (y_ld_stc rfl rfl Tryz.underlying3 B116 rfl rfl rr) (wl_vw (.bool false) 3 true 27 rfl rfl rfl rfl rfl (y_leq rfl rfl rfl (decide_eq_false d133) rr) (wl_v (.bool false) rfl rfl (y_pickT rfl rfl rfl rr) (wl_v (.bool false) rfl rfl (y_mov rfl rfl rr) (wl_vw (pt p1 1) 8 false 32 rfl rfl rfl rfl rfl (y_fieldR (n := 1) rfl s127 Tryz.underlying23 rfl (by kernel_rfl) (by decide) rfl rr) (wl_vw (iv H) 8 false 32 rfl rfl rfl rfl rfl (y_ld_stc rfl rfl Tryz.underlying3 B116 rfl rfl rr) ?_)))))))))))
         refine wl_vw (.bool true) 8 false 32 rfl rfl rfl rfl rfl (y_gtr rfl rfl rfl (decide_eq_true d146) rr) (wl_vw (.bool true) 8 false 32 rfl rfl rfl rfl rfl (y_mov rfl rfl rr) (wl_vw (pt p1 1) 12 true 36 rfl rfl rfl rfl rfl (y_fieldR (n := 1) rfl s127 Tryz.underlying23 rfl (by kernel_rfl) (by decide) rfl rr) (wl_vw (iv H) 12 true 36 rfl rfl rfl rfl rfl (y_ld_stc rfl rfl Tryz.underlying3 B116 rfl rfl rr) (wl_vw (.bool false) 12 true 36 rfl rfl rfl rfl rfl (y_leq rfl rfl rfl (decide_eq_false d147) rr) (wl_vw (.bool false) 8 false 32 rfl rfl rfl rfl rfl (y_pickT rfl rfl rfl rr) (wl_v (.bool false) rfl rfl (y_pickF rfl rfl rfl rr) (wl_v (.bool false) rfl rfl (y_mov rfl rfl rr) (wl_vw v 18 false 42 rfl rfl rfl rfl rfl (y_mov rfl s123 rr) (wl_vw (iv ((l.length : Nat) : Int)) 18 false 42 rfl rfl rfl rfl rfl (y_lenV rfl rfl rfl B109 rr) (wl_vw (.bool false) 18 false 42 rfl rfl rfl rfl rfl (y_gtr rfl rfl rfl (decide_eq_false d160) rr) (wl_v (.bool false) rfl rfl (y_pickF rfl rfl rfl rr) ?_)))))))))))
         refine wl_v (.bool false) rfl rfl (y_mov rfl rfl rr) (wl_vw (.agg #[iv (g.W), iv (g.H), g0, g1, g2]) 23 false 47 rfl rfl rfl rfl rfl (y_load_stc stcT_frame rfl s129 B118 rr) (wl_callw (R := fun v_ w_ => v_ = .bool true ∧ Kept (fun _ => False) w107 w_) 23 false 47 rfl rfl rfl rfl rfl (y_cs rfl rfl rfl (fun _ _ => by kernel_rfl) (ev_func _) (vsC rfl vsN) (flaw_few g g0 g1 g2 T_g0 T_g1 T_g2 _  B110 B111 B112 ) (fun e_ w_ h_ => ⟨_, h_.1, (congrArg Value.bool d173), h_.2⟩)) ?_))
         rintro _ w215 ⟨rfl, k216⟩
         have B217 := B109.all k216 Apart.none
         have B218 := B110.all k216 Apart.none
         have B219 := B111.all k216 Apart.none
         have B220 := B112.all k216 Apart.none
         have B221 := B113.all k216 Apart.none
         have B222 := B114.all k216 Apart.none
         have B223 := B115.all k216 Apart.none
         have B224 := B116.all k216 id
         have B225 := B117.all k216 id
         have B226 := B118.all k216 id
         have B227 := B119.all k216 id
         have K228 := K120.tr k216
         refine wl_vw (.bool false) 23 false 47 rfl rfl rfl rfl rfl (y_not rfl rfl rfl rr) (wl_v (.bool false) rfl rfl (y_pickF rfl rfl rfl rr) (wl_v (.bool false) rfl rfl (y_mov rfl rfl rr) (wl_vw (.agg #[iv (h.W), iv (h.H), h0, h1, h2]) 28 false 52 rfl rfl rfl rfl rfl (y_load_stc stcT_frame rfl s130 B227 rr) (wl_callw (R := fun v_ w_ => v_ = .bool false ∧ Kept (fun _ => False) w215 w_) 28 false 52 rfl rfl rfl rfl rfl (y_cs rfl rfl rfl (fun _ _ => by kernel_rfl) (ev_func _) (vsC rfl vsN) (flaw_few h h0 h1 h2 T_h0 T_h1 T_h2 _  B221 B222 B223 ) (fun e_ w_ h_ => ⟨_, h_.1, (congrArg Value.bool d174), h_.2⟩)) ?_))))
         rintro _ w229 ⟨rfl, k230⟩
         have B231 := B217.all k230 Apart.none
         have B232 := B218.all k230 Apart.none
         have B233 := B219.all k230 Apart.none
         have B234 := B220.all k230 Apart.none
         have B235 := B221.all k230 Apart.none
         have B236 := B222.all k230 Apart.none
         have B237 := B223.all k230 Apart.none
         have B238 := B224.all k230 id
         have B239 := B225.all k230 id
         have B240 := B226.all k230 id
         have B241 := B227.all k230 id
         have K242 := K228.tr k230
         refine wl_vw (.bool true) 28 false 52 rfl rfl rfl rfl rfl (y_not rfl rfl rfl rr) (wl_v (.bool true) rfl rfl (y_pickF rfl rfl rfl rr) (wl_nil fun F243 hF244 => ?_))
         obtain ⟨s245, s246, s247, s248, s249, s250, s251, s252, s253⟩ := t9 hF244 2 s123 5 s124 6 s125 121 s126 7 s127 8 s128 10 s129 11 s130 15 s131
         have s254 : F243 56 = .bool true := (hF244 56).trans rfl
         clear hF244
         exact ⟨s254.trans (congrArg Value.bool (show true = decide (bigP W H ∨ 1000 < l.length ∨ fewF g = false ∨ fewF h = false) from (by rw [Bool.eq_iff_iff, decide_eq_true_iff]; unfold bigP; first | (simp [*]; done) | (simp [*]; omega) | (simp_all; done) | (simp_all; omega)))), s245, s246, s247, s249, s250, s251, s252, s253, s248, K242, B231, B232, B233, B234, B235, B236, B237, B238, B239, B240, B241⟩
       ·skip
        refine wq_region (wl_v (pt p1 0) rfl rfl (y_fieldR (n := 1) rfl s127 Tryz.underlying23 rfl (by kernel_rfl) (by decide) rfl rr) (wl_v (iv W) rfl rfl (y_ld_stc rfl rfl Tryz.underlying3 B116 rfl rfl rr) (wl_v (.bool true) rfl rfl (y_gtr rfl rfl rfl (decide_eq_true d132) rr) (wl_v (.bool true) rfl rfl (y_mov rfl rfl rr) (wl_vw (pt p1 0) 3 true 27 rfl rfl rfl rfl rfl (y_fieldR (n := 1) rfl s127 Tryz.underlying23 rfl (by kernel_rfl) (by decide) rfl rr) (wl_vw (iv W) 3 true 27 rfl rfl rfl rfl rfl (y_ld_stc rfl rfl Tryz.underlying3 B116 rfl rfl rr) (wl_vw (.bool false) 3 true 27 rfl rfl rfl rfl rfl (y_leq rfl rfl rfl (decide_eq_false d133) rr) (wl_v (.bool false) rfl rfl (y_pickT rfl rfl rfl rr) (wl_v (.bool false) rfl rfl (y_mov rfl rfl rr) (wl_vw (pt p1 1) 8 false 32 rfl rfl rfl rfl rfl (y_fieldR (n := 1) rfl s127 Tryz.underlying23 rfl (by kernel_rfl) (by decide) rfl rr) (wl_vw (iv H) 8 false 32 rfl rfl rfl rfl rfl (y_ld_stc rfl rfl Tryz.underlying3 B116 rfl rfl rr) ?_)))))))))))
        refine wl_vw (.bool true) 8 false 32 rfl rfl rfl rfl rfl (y_gtr rfl rfl rfl (decide_eq_true d146) rr) (wl_vw (.bool true) 8 false 32 rfl rfl rfl rfl rfl (y_mov rfl rfl rr) (wl_vw (pt p1 1) 12 true 36 rfl rfl rfl rfl rfl (y_fieldR (n := 1) rfl s127 Tryz.underlying23 rfl (by kernel_rfl) (by decide) rfl rr) (wl_vw (iv H) 12 true 36 rfl rfl rfl rfl rfl (y_ld_stc rfl rfl Tryz.underlying3 B116 rfl rfl rr) (wl_vw (.bool false) 12 true 36 rfl rfl rfl rfl rfl (y_leq rfl rfl rfl (decide_eq_false d147) rr) (wl_vw (.bool false) 8 false 32 rfl rfl rfl rfl rfl (y_pickT rfl rfl rfl rr) (wl_v (.bool false) rfl rfl (y_pickF rfl rfl rfl rr) (wl_v (.bool false) rfl rfl (y_mov rfl rfl rr) (wl_vw v 18 false 42 rfl rfl rfl rfl rfl (y_mov rfl s123 rr) (wl_vw (iv ((l.length : Nat) : Int)) 18 false 42 rfl rfl rfl rfl rfl (y_lenV rfl rfl rfl B109 rr) (wl_vw (.bool false) 18 false 42 rfl rfl rfl rfl rfl (y_gtr rfl rfl rfl (decide_eq_false d160) rr) (wl_v (.bool false) rfl rfl (y_pickF rfl rfl rfl rr) ?_)))))))))))
        refine wl_v (.bool false) rfl rfl (y_mov rfl rfl rr) (wl_vw (.agg #[iv (g.W), iv (g.H), g0, g1, g2]) 23 false 47 rfl rfl rfl rfl rfl (y_load_stc stcT_frame rfl s129 B118 rr) (wl_callw (R := fun v_ w_ => v_ = .bool false ∧ Kept (fun _ => False) w107 w_) 23 false 47 rfl rfl rfl rfl rfl (y_cs rfl rfl rfl (fun _ _ => by kernel_rfl) (ev_func _) (vsC rfl vsN) (flaw_few g g0 g1 g2 T_g0 T_g1 T_g2 _  B110 B111 B112 ) (fun e_ w_ h_ => ⟨_, h_.1, (congrArg Value.bool d173), h_.2⟩)) ?_))
        rintro _ w255 ⟨rfl, k256⟩
        have B257 := B109.all k256 Apart.none
        have B258 := B110.all k256 Apart.none
        have B259 := B111.all k256 Apart.none
        have B260 := B112.all k256 Apart.none
        have B261 := B113.all k256 Apart.none
        have B262 := B114.all k256 Apart.none
        have B263 := B115.all k256 Apart.none
        have B264 := B116.all k256 id
        have B265 := B117.all k256 id
        have B266 := B118.all k256 id
        have B267 := B119.all k256 id
        have K268 := K120.tr k256
        refine wl_vw (.bool true) 23 false 47 rfl rfl rfl rfl rfl (y_not rfl rfl rfl rr) (wl_v (.bool true) rfl rfl (y_pickF rfl rfl rfl rr) (wl_v (.bool true) rfl rfl (y_mov rfl rfl rr) (wl_unless 28 false 52 rfl rfl rfl (Or.inl rfl) rfl (wl_unless 28 false 52 rfl rfl rfl (Or.inl rfl) rfl (wl_unless 28 false 52 rfl rfl rfl (Or.inl rfl) rfl (wl_v (.bool true) rfl rfl (y_pickT rfl rfl rfl rr) (wl_nil fun F269 hF270 => ?_)))))))
        obtain ⟨s271, s272, s273, s274, s275, s276, s277, s278, s279⟩ := t9 hF270 2 s123 5 s124 6 s125 121 s126 7 s127 8 s128 10 s129 11 s130 15 s131
        have s280 : F269 56 = .bool true := (hF270 56).trans rfl
        clear hF270
        exact ⟨s280.trans (congrArg Value.bool (show true = decide (bigP W H ∨ 1000 < l.length ∨ fewF g = false ∨ fewF h = false) from (by rw [Bool.eq_iff_iff, decide_eq_true_iff]; unfold bigP; first | (simp [*]; done) | (simp [*]; omega) | (simp_all; done) | (simp_all; omega)))), s271, s272, s273, s275, s276, s277, s278, s279, s274, K268, B257, B258, B259, B260, B261, B262, B263, B264, B265, B266, B267⟩
    ·skip
     by_cases d281 : 1000 < ((l.length : Nat) : Int)
     ·skip
      refine wq_region (wl_v (pt p1 0) rfl rfl (y_fieldR (n := 1) rfl s127 Tryz.underlying23 rfl (by kernel_rfl) (by decide) rfl rr) (wl_v (iv W) rfl rfl (y_ld_stc rfl rfl Tryz.underlying3 B116 rfl rfl rr) (wl_v (.bool true) rfl rfl (y_gtr rfl rfl rfl (decide_eq_true d132) rr) (wl_v (.bool true) rfl rfl (y_mov rfl rfl rr) (wl_vw (pt p1 0) 3 true 27 rfl rfl rfl rfl rfl (y_fieldR (n := 1) rfl s127 Tryz.underlying23 rfl (by kernel_rfl) (by decide) rfl rr) (wl_vw (iv W) 3 true 27 rfl rfl rfl rfl rfl (y_ld_stc rfl rfl Tryz.underlying3 B116 rfl rfl rr) (wl_vw (.bool false) 3 true 27 rfl rfl rfl rfl rfl (y_leq rfl rfl rfl (decide_eq_false d133) rr) (wl_v (.bool false) rfl rfl (y_pickT rfl rfl rfl rr) (wl_v (.bool false) rfl rfl (y_mov rfl rfl rr) (wl_vw (pt p1 1) 8 false 32 rfl rfl rfl rfl rfl (y_fieldR (n := 1) rfl s127 Tryz.underlying23 rfl (by kernel_rfl) (by decide) rfl rr) (wl_vw (iv H) 8 false 32 rfl rfl rfl rfl rfl (y_ld_stc rfl rfl Tryz.underlying3 B116 rfl rfl rr) ?_)))))))))))
      refine wl_vw (.bool false) 8 false 32 rfl rfl rfl rfl rfl (y_gtr rfl rfl rfl (decide_eq_false d146) rr) (wl_vw (.bool false) 8 false 32 rfl rfl rfl rfl rfl (y_mov rfl rfl rr) (wl_unless 12 true 36 rfl rfl rfl (Or.inl rfl) rfl (wl_unless 12 true 36 rfl rfl rfl (Or.inl rfl) rfl (wl_unless 12 true 36 rfl rfl rfl (Or.inl rfl) rfl (wl_vw (.bool false) 8 false 32 rfl rfl rfl rfl rfl (y_pickF rfl rfl rfl rr) (wl_v (.bool false) rfl rfl (y_pickF rfl rfl rfl rr) (wl_v (.bool false) rfl rfl (y_mov rfl rfl rr) (wl_vw v 18 false 42 rfl rfl rfl rfl rfl (y_mov rfl s123 rr) (wl_vw (iv ((l.length : Nat) : Int)) 18 false 42 rfl rfl rfl rfl rfl (y_lenV rfl rfl rfl B109 rr) (wl_vw (.bool true) 18 false 42 rfl rfl rfl rfl rfl (y_gtr rfl rfl rfl (decide_eq_true d281) rr) (wl_v (.bool true) rfl rfl (y_pickF rfl rfl rfl rr) ?_)))))))))))
      refine wl_v (.bool true) rfl rfl (y_mov rfl rfl rr) (wl_unless 23 false 47 rfl rfl rfl (Or.inl rfl) rfl (wl_unless 23 false 47 rfl rfl rfl (Or.inl rfl) rfl (wl_unless 23 false 47 rfl rfl rfl (Or.inl rfl) rfl (wl_v (.bool true) rfl rfl (y_pickT rfl rfl rfl rr) (wl_v (.bool true) rfl rfl (y_mov rfl rfl rr) (wl_unless 28 false 52 rfl rfl rfl (Or.inl rfl) rfl (wl_unless 28 false 52 rfl rfl rfl (Or.inl rfl) rfl (wl_unless 28 false 52 rfl rfl rfl (Or.inl rfl) rfl (wl_v (.bool true) rfl rfl (y_pickT rfl rfl rfl rr) (wl_nil fun F282 hF283 => ?_))))))))))
      obtain ⟨s284, s285, s286, s287, s288, s289, s290, s291, s292⟩ := t9 hF283 2 s123 5 s124 6 s125 121 s126 7 s127 8 s128 10 s129 11 s130 15 s131
      have s293 : F282 56 = .bool true := (hF283 56).trans rfl
      clear hF283
      exact ⟨s293.trans (congrArg Value.bool (show true = decide (bigP W H ∨ 1000 < l.length ∨ fewF g = false ∨ fewF h = false) from (by rw [Bool.eq_iff_iff, decide_eq_true_iff]; unfold bigP; first | (simp [*]; done) | (simp [*]; omega) | (simp_all; done) | (simp_all; omega)))), s284, s285, s286, s288, s289, s290, s291, s292, s287, K120, B109, B110, B111, B112, B113, B114, B115, B116, B117, B118, B119⟩
     ·skip
      rcases Bool.eq_false_or_eq_true (fewF g) with d294 | d294
      ·skip
       rcases Bool.eq_false_or_eq_true (fewF h) with d295 | d295
       ·skip
        refine wq_region (wl_v (pt p1 0) rfl rfl (y_fieldR (n := 1) rfl s127 Tryz.underlying23 rfl (by kernel_rfl) (by decide) rfl rr) (wl_v (iv W) rfl rfl (y_ld_stc rfl rfl Tryz.underlying3 B116 rfl rfl rr) (wl_v (.bool true) rfl rfl (y_gtr rfl rfl rfl (decide_eq_true d132) rr) (wl_v (.bool true) rfl rfl (y_mov rfl rfl rr) (wl_vw (pt p1 0) 3 true 27 rfl rfl rfl rfl rfl (y_fieldR (n := 1) rfl s127 Tryz.underlying23 rfl (by kernel_rfl) (by decide) rfl rr) (wl_vw (iv W) 3 true 27 rfl rfl rfl rfl rfl (y_ld_stc rfl rfl Tryz.underlying3 B116 rfl rfl rr) (wl_vw (.bool false) 3 true 27 rfl rfl rfl rfl rfl (y_leq rfl rfl rfl (decide_eq_false d133) rr) (wl_v (.bool false) rfl rfl (y_pickT rfl rfl rfl rr) (wl_v (.bool false) rfl rfl (y_mov rfl rfl rr) (wl_vw (pt p1 1) 8 false 32 rfl rfl rfl rfl rfl (y_fieldR (n := 1) rfl s127 Tryz.underlying23 rfl (by kernel_rfl) (by decide) rfl rr) (wl_vw (iv H) 8 false 32 rfl rfl rfl rfl rfl (y_ld_stc rfl rfl Tryz.underlying3 B116 rfl rfl rr) ?_)))))))))))
        refine wl_vw (.bool false) 8 false 32 rfl rfl rfl rfl rfl (y_gtr rfl rfl rfl (decide_eq_false d146) rr) (wl_vw (.bool false) 8 false 32 rfl rfl rfl rfl rfl (y_mov rfl rfl rr) (wl_unless 12 true 36 rfl rfl rfl (Or.inl rfl) rfl (wl_unless 12 true 36 rfl rfl rfl (Or.inl rfl) rfl (wl_unless 12 true 36 rfl rfl rfl (Or.inl rfl) rfl (wl_vw (.bool false) 8 false 32 rfl rfl rfl rfl rfl (y_pickF rfl rfl rfl rr) (wl_v (.bool false) rfl rfl (y_pickF rfl rfl rfl rr) (wl_v (.bool false) rfl rfl (y_mov rfl rfl rr) (wl_vw v 18 false 42 rfl rfl rfl rfl rfl (y_mov rfl s123 rr) (wl_vw (iv ((l.length : Nat) : Int)) 18 false 42 rfl rfl rfl rfl rfl (y_lenV rfl rfl rfl B109 rr) (wl_vw (.bool false) 18 false 42 rfl rfl rfl rfl rfl (y_gtr rfl rfl rfl (decide_eq_false d281) rr) (wl_v (.bool false) rfl rfl (y_pickF rfl rfl rfl rr) ?_)))))))))))
        refine wl_v (.bool false) rfl rfl (y_mov rfl rfl rr) (wl_vw (.agg #[iv (g.W), iv (g.H), g0, g1, g2]) 23 false 47 rfl rfl rfl rfl rfl (y_load_stc stcT_frame rfl s129 B118 rr) (wl_callw (R := fun v_ w_ => v_ = .bool true ∧ Kept (fun _ => False) w107 w_) 23 false 47 rfl rfl rfl rfl rfl (y_cs rfl rfl rfl (fun _ _ => by kernel_rfl) (ev_func _) (vsC rfl vsN) (flaw_few g g0 g1 g2 T_g0 T_g1 T_g2 _  B110 B111 B112 ) (fun e_ w_ h_ => ⟨_, h_.1, (congrArg Value.bool d294), h_.2⟩)) ?_))
        rintro _ w296 ⟨rfl, k297⟩
        have B298 := B109.all k297 Apart.none
        have B299 := B110.all k297 Apart.none
        have B300 := B111.all k297 Apart.none
        have B301 := B112.all k297 Apart.none
        have B302 := B113.all k297 Apart.none
        have B303 := B114.all k297 Apart.none
        have B304 := B115.all k297 Apart.none
        have B305 := B116.all k297 id
        have B306 := B117.all k297 id
        have B307 := B118.all k297 id
        have B308 := B119.all k297 id
        have K309 := K120.tr k297
        refine wl_vw (.bool false) 23 false 47 rfl rfl rfl rfl rfl (y_not rfl rfl rfl rr) (wl_v (.bool false) rfl rfl (y_pickF rfl rfl rfl rr) (wl_v (.bool false) rfl rfl (y_mov rfl rfl rr) (wl_vw (.agg #[iv (h.W), iv (h.H), h0, h1, h2]) 28 false 52 rfl rfl rfl rfl rfl (y_load_stc stcT_frame rfl s130 B308 rr) (wl_callw (R := fun v_ w_ => v_ = .bool true ∧ Kept (fun _ => False) w296 w_) 28 false 52 rfl rfl rfl rfl rfl (y_cs rfl rfl rfl (fun _ _ => by kernel_rfl) (ev_func _) (vsC rfl vsN) (flaw_few h h0 h1 h2 T_h0 T_h1 T_h2 _  B302 B303 B304 ) (fun e_ w_ h_ => ⟨_, h_.1, (congrArg Value.bool d295), h_.2⟩)) ?_))))
        rintro _ w310 ⟨rfl, k311⟩
        have B312 := B298.all k311 Apart.none
        have B313 := B299.all k311 Apart.none
        have B314 := B300.all k311 Apart.none
        have B315 := B301.all k311 Apart.none
        have B316 := B302.all k311 Apart.none
        have B317 := B303.all k311 Apart.none
        have B318 := B304.all k311 Apart.none
        have B319 := B305.all k311 id
        have B320 := B306.all k311 id
        have B321 := B307.all k311 id
        have B322 := B308.all k311 id
        have K323 := K309.tr k311
        refine wl_vw (.bool false) 28 false 52 rfl rfl rfl rfl rfl (y_not rfl rfl rfl rr) (wl_v (.bool false) rfl rfl (y_pickF rfl rfl rfl rr) (wl_nil fun F324 hF325 => ?_))
        obtain ⟨s326, s327, s328, s329, s330, s331, s332, s333, s334⟩ := t9 hF325 2 s123 5 s124 6 s125 121 s126 7 s127 8 s128 10 s129 11 s130 15 s131
        have s335 : F324 56 = .bool false := (hF325 56).trans rfl
        clear hF325
        exact ⟨s335.trans (congrArg Value.bool (show false = decide (bigP W H ∨ 1000 < l.length ∨ fewF g = false ∨ fewF h = false) from (by rw [Bool.eq_iff_iff, decide_eq_true_iff]; unfold bigP; first | (simp [*]; done) | (simp [*]; omega) | (simp_all; done) | (simp_all; omega)))), s326, s327, s328, s330, s331, s332, s333, s334, s329, K323, B312, B313, B314, B315, B316, B317, B318, B319, B320, B321, B322⟩
       ·skip
        refine wq_region (wl_v (pt p1 0) rfl rfl (y_fieldR (n := 1) rfl s127 Tryz.underlying23 rfl (by kernel_rfl) (by decide) rfl rr) (wl_v (iv W) rfl rfl (y_ld_stc rfl rfl Tryz.underlying3 B116 rfl rfl rr) (wl_v (.bool true) rfl rfl (y_gtr rfl rfl rfl (decide_eq_true d132) rr) (wl_v (.bool true) rfl rfl (y_mov rfl rfl rr) (wl_vw (pt p1 0) 3 true 27 rfl rfl rfl rfl rfl (y_fieldR (n := 1) rfl s127 Tryz.underlying23 rfl (by kernel_rfl) (by decide) rfl rr) (wl_vw (iv W) 3 true 27 rfl rfl rfl rfl rfl (y_ld_stc rfl rfl Tryz.underlying3 B116 rfl rfl rr) (wl_vw (.bool false) 3 true 27 rfl rfl rfl rfl rfl (y_leq rfl rfl rfl (decide_eq_false d133) rr) (wl_v (.bool false) rfl rfl (y_pickT rfl rfl rfl rr) (wl_v (.bool false) rfl rfl (y_mov rfl rfl rr) (wl_vw (pt p1 1) 8 false 32 rfl rfl rfl rfl rfl (y_fieldR (n := 1) rfl s127 Tryz.underlying23 rfl (by kernel_rfl) (by decide) rfl rr) (wl_vw (iv H) 8 false 32 rfl rfl rfl rfl rfl (y_ld_stc rfl rfl Tryz.underlying3 B116 rfl rfl rr) ?_)))))))))))
        refine wl_vw (.bool false) 8 false 32 rfl rfl rfl rfl rfl (y_gtr rfl rfl rfl (decide_eq_false d146) rr) (wl_vw (.bool false) 8 false 32 rfl rfl rfl rfl rfl (y_mov rfl rfl rr) (wl_unless 12 true 36 rfl rfl rfl (Or.inl rfl) rfl (wl_unless 12 true 36 rfl rfl rfl (Or.inl rfl) rfl (wl_unless 12 true 36 rfl rfl rfl (Or.inl rfl) rfl (wl_vw (.bool false) 8 false 32 rfl rfl rfl rfl rfl (y_pickF rfl rfl rfl rr) (wl_v (.bool false) rfl rfl (y_pickF rfl rfl rfl rr) (wl_v (.bool false) rfl rfl (y_mov rfl rfl rr) (wl_vw v 18 false 42 rfl rfl rfl rfl rfl (y_mov rfl s123 rr) (wl_vw (iv ((l.length : Nat) : Int)) 18 false 42 rfl rfl rfl rfl rfl (y_lenV rfl rfl rfl B109 rr) (wl_vw (.bool false) 18 false 42 rfl rfl rfl rfl rfl (y_gtr rfl rfl rfl (decide_eq_false d281) rr) (wl_v (.bool false) rfl rfl (y_pickF rfl rfl rfl rr) ?_)))))))))))
        refine wl_v (.bool false) rfl rfl (y_mov rfl rfl rr) (wl_vw (.agg #[iv (g.W), iv (g.H), g0, g1, g2]) 23 false 47 rfl rfl rfl rfl rfl (y_load_stc stcT_frame rfl s129 B118 rr) (wl_callw (R := fun v_ w_ => v_ = .bool true ∧ Kept (fun _ => False) w107 w_) 23 false 47 rfl rfl rfl rfl rfl (y_cs rfl rfl rfl (fun _ _ => by kernel_rfl) (ev_func _) (vsC rfl vsN) (flaw_few g g0 g1 g2 T_g0 T_g1 T_g2 _  B110 B111 B112 ) (fun e_ w_ h_ => ⟨_, h_.1, (congrArg Value.bool d294), h_.2⟩)) ?_))
        rintro _ w336 ⟨rfl, k337⟩
        have B338 := B109.all k337 Apart.none
        have B339 := B110.all k337 Apart.none
        have B340 := B111.all k337 Apart.none
        have B341 := B112.all k337 Apart.none
        have B342 := B113.all k337 Apart.none
        have B343 := B114.all k337 Apart.none
        have B344 := B115.all k337 Apart.none
        have B345 := B116.all k337 id
        have B346 := B117.all k337 id
        have B347 := B118.all k337 id
        have B348 := B119.all k337 id
        have K349 := K120.tr k337
        refine wl_vw (.bool false) 23 false 47 rfl rfl rfl rfl rfl (y_not rfl rfl rfl rr) (wl_v (.bool false) rfl rfl (y_pickF rfl rfl rfl rr) (wl_v (.bool false) rfl rfl (y_mov rfl rfl rr) (wl_vw (.agg #[iv (h.W), iv (h.H), h0, h1, h2]) 28 false 52 rfl rfl rfl rfl rfl (y_load_stc stcT_frame rfl s130 B348 rr) (wl_callw (R := fun v_ w_ => v_ = .bool false ∧ Kept (fun _ => False) w336 w_) 28 false 52 rfl rfl rfl rfl rfl (y_cs rfl rfl rfl (fun _ _ => by kernel_rfl) (ev_func _) (vsC rfl vsN) (flaw_few h h0 h1 h2 T_h0 T_h1 T_h2 _  B342 B343 B344 ) (fun e_ w_ h_ => ⟨_, h_.1, (congrArg Value.bool d295), h_.2⟩)) ?_))))
        rintro _ w350 ⟨rfl, k351⟩
        have B352 := B338.all k351 Apart.none
        have B353 := B339.all k351 Apart.none
        have B354 := B340.all k351 Apart.none
        have B355 := B341.all k351 Apart.none
        have B356 := B342.all k351 Apart.none
        have B357 := B343.all k351 Apart.none
        have B358 := B344.all k351 Apart.none
        have B359 := B345.all k351 id
        have B360 := B346.all k351 id
        have B361 := B347.all k351 id
        have B362 := B348.all k351 id
        have K363 := K349.tr k351
        refine wl_vw (.bool true) 28 false 52 rfl rfl rfl rfl rfl (y_not rfl rfl rfl rr) (wl_v (.bool true) rfl rfl (y_pickF rfl rfl rfl rr) (wl_nil fun F364 hF365 => ?_))
        obtain ⟨s366, s367, s368, s369, s370, s371, s372, s373, s374⟩ := t9 hF365 2 s123 5 s124 6 s125 121 s126 7 s127 8 s128 10 s129 11 s130 15 s131
        have s375 : F364 56 = .bool true := (hF365 56).trans rfl
        clear hF365
        exact ⟨s375.trans (congrArg Value.bool (show true = decide (bigP W H ∨ 1000 < l.length ∨ fewF g = false ∨ fewF h = false) from (by rw [Bool.eq_iff_iff, decide_eq_true_iff]; unfold bigP; first | (simp [*]; done) | (simp [*]; omega) | (simp_all; done) | (simp_all; omega)))), s366, s367, s368, s370, s371, s372, s373, s374, s369, K363, B352, B353, B354, B355, B356, B357, B358, B359, B360, B361, B362⟩
      ·skip
       refine wq_region (wl_v (pt p1 0) rfl rfl (y_fieldR (n := 1) rfl s127 Tryz.underlying23 rfl (by kernel_rfl) (by decide) rfl rr) (wl_v (iv W) rfl rfl (y_ld_stc rfl rfl Tryz.underlying3 B116 rfl rfl rr) (wl_v (.bool true) rfl rfl (y_gtr rfl rfl rfl (decide_eq_true d132) rr) (wl_v (.bool true) rfl rfl (y_mov rfl rfl rr) (wl_vw (pt p1 0) 3 true 27 rfl rfl rfl rfl rfl (y_fieldR (n := 1) rfl s127 Tryz.underlying23 rfl (by kernel_rfl) (by decide) rfl rr) (wl_vw (iv W) 3 true 27 rfl rfl rfl rfl rfl (y_ld_stc rfl rfl Tryz.underlying3 B116 rfl rfl rr) (wl_vw (.bool false) 3 true 27 rfl rfl rfl rfl rfl (y_leq rfl rfl rfl (decide_eq_false d133) rr) (wl_v (.bool false) rfl rfl (y_pickT rfl rfl rfl rr) (wl_v (.bool false) rfl rfl (y_mov rfl rfl rr) (wl_vw (pt p1 1) 8 false 32 rfl rfl rfl rfl rfl (y_fieldR (n := 1) rfl s127 Tryz.underlying23 rfl (by kernel_rfl) (by decide) rfl rr) (wl_vw (iv H) 8 false 32 rfl rfl rfl rfl rfl (y_ld_stc rfl rfl Tryz.underlying3 B116 rfl rfl rr) ?_)))))))))))
       refine wl_vw (.bool false) 8 false 32 rfl rfl rfl rfl rfl (y_gtr rfl rfl rfl (decide_eq_false d146) rr) (wl_vw (.bool false) 8 false 32 rfl rfl rfl rfl rfl (y_mov rfl rfl rr) (wl_unless 12 true 36 rfl rfl rfl (Or.inl rfl) rfl (wl_unless 12 true 36 rfl rfl rfl (Or.inl rfl) rfl (wl_unless 12 true 36 rfl rfl rfl (Or.inl rfl) rfl (wl_vw (.bool false) 8 false 32 rfl rfl rfl rfl rfl (y_pickF rfl rfl rfl rr) (wl_v (.bool false) rfl rfl (y_pickF rfl rfl rfl rr) (wl_v (.bool false) rfl rfl (y_mov rfl rfl rr) (wl_vw v 18 false 42 rfl rfl rfl rfl rfl (y_mov rfl s123 rr) (wl_vw (iv ((l.length : Nat) : Int)) 18 false 42 rfl rfl rfl rfl rfl (y_lenV rfl rfl rfl B109 rr) (wl_vw (.bool false) 18 false 42 rfl rfl rfl rfl rfl (y_gtr rfl rfl rfl (decide_eq_false d281) rr) (wl_v (.bool false) rfl rfl (y_pickF rfl rfl rfl rr) ?_)))))))))))
       refine wl_v (.bool false) rfl rfl (y_mov rfl rfl rr) (wl_vw (.agg #[iv (g.W), iv (g.H), g0, g1, g2]) 23 false 47 rfl rfl rfl rfl rfl (y_load_stc stcT_frame rfl s129 B118 rr) (wl_callw (R := fun v_ w_ => v_ = .bool false ∧ Kept (fun _ => False) w107 w_) 23 false 47 rfl rfl rfl rfl rfl (y_cs rfl rfl rfl (fun _ _ => by kernel_rfl) (ev_func _) (vsC rfl vsN) (flaw_few g g0 g1 g2 T_g0 T_g1 T_g2 _  B110 B111 B112 ) (fun e_ w_ h_ => ⟨_, h_.1, (congrArg Value.bool d294), h_.2⟩)) ?_))
       rintro _ w376 ⟨rfl, k377⟩
       have B378 := B109.all k377 Apart.none
       have B379 := B110.all k377 Apart.none
       have B380 := B111.all k377 Apart.none
       have B381 := B112.all k377 Apart.none
       have B382 := B113.all k377 Apart.none
       have B383 := B114.all k377 Apart.none
       have B384 := B115.all k377 Apart.none
       have B385 := B116.all k377 id
       have B386 := B117.all k377 id
       have B387 := B118.all k377 id
       have B388 := B119.all k377 id
       have K389 := K120.tr k377
       refine wl_vw (.bool true) 23 false 47 rfl rfl rfl rfl rfl (y_not rfl rfl rfl rr) (wl_v (.bool true) rfl rfl (y_pickF rfl rfl rfl rr) (wl_v (.bool true) rfl rfl (y_mov rfl rfl rr) (wl_unless 28 false 52 rfl rfl rfl (Or.inl rfl) rfl (wl_unless 28 false 52 rfl rfl rfl (Or.inl rfl) rfl (wl_unless 28 false 52 rfl rfl rfl (Or.inl rfl) rfl (wl_v (.bool true) rfl rfl (y_pickT rfl rfl rfl rr) (wl_nil fun F390 hF391 => ?_)))))))
       obtain ⟨s392, s393, s394, s395, s396, s397, s398, s399, s400⟩ := t9 hF391 2 s123 5 s124 6 s125 121 s126 7 s127 8 s128 10 s129 11 s130 15 s131
       have s401 : F390 56 = .bool true := (hF391 56).trans rfl
       clear hF391
       exact ⟨s401.trans (congrArg Value.bool (show true = decide (bigP W H ∨ 1000 < l.length ∨ fewF g = false ∨ fewF h = false) from (by rw [Bool.eq_iff_iff, decide_eq_true_iff]; unfold bigP; first | (simp [*]; done) | (simp [*]; omega) | (simp_all; done) | (simp_all; omega)))), s392, s393, s394, s396, s397, s398, s399, s400, s395, K389, B378, B379, B380, B381, B382, B383, B384, B385, B386, B387, B388⟩
  ·skip
   by_cases d402 : 16 < H
   ·skip
    by_cases d403 : H ≤ 64
    ·skip
     refine wq_region (wl_v (pt p1 0) rfl rfl (y_fieldR (n := 1) rfl s127 Tryz.underlying23 rfl (by kernel_rfl) (by decide) rfl rr) (wl_v (iv W) rfl rfl (y_ld_stc rfl rfl Tryz.underlying3 B116 rfl rfl rr) (wl_v (.bool false) rfl rfl (y_gtr rfl rfl rfl (decide_eq_false d132) rr) (wl_v (.bool false) rfl rfl (y_mov rfl rfl rr) (wl_unless 3 true 27 rfl rfl rfl (Or.inl rfl) rfl (wl_unless 3 true 27 rfl rfl rfl (Or.inl rfl) rfl (wl_unless 3 true 27 rfl rfl rfl (Or.inl rfl) rfl (wl_v (.bool false) rfl rfl (y_pickF rfl rfl rfl rr) (wl_v (.bool false) rfl rfl (y_mov rfl rfl rr) (wl_vw (pt p1 1) 8 false 32 rfl rfl rfl rfl rfl (y_fieldR (n := 1) rfl s127 Tryz.underlying23 rfl (by kernel_rfl) (by decide) rfl rr) (wl_vw (iv H) 8 false 32 rfl rfl rfl rfl rfl (y_ld_stc rfl rfl Tryz.underlying3 B116 rfl rfl rr) ?_)))))))))))
     refine wl_vw (.bool true) 8 false 32 rfl rfl rfl rfl rfl (y_gtr rfl rfl rfl (decide_eq_true d402) rr) (wl_vw (.bool true) 8 false 32 rfl rfl rfl rfl rfl (y_mov rfl rfl rr) (wl_vw (pt p1 1) 12 true 36 rfl rfl rfl rfl rfl (y_fieldR (n := 1) rfl s127 Tryz.underlying23 rfl (by kernel_rfl) (by decide) rfl rr) (wl_vw (iv H) 12 true 36 rfl rfl rfl rfl rfl (y_ld_stc rfl rfl Tryz.underlying3 B116 rfl rfl rr) (wl_vw (.bool true) 12 true 36 rfl rfl rfl rfl rfl (y_leq rfl rfl rfl (decide_eq_true d403) rr) (wl_vw (.bool true) 8 false 32 rfl rfl rfl rfl rfl (y_pickT rfl rfl rfl rr) (wl_v (.bool true) rfl rfl (y_pickF rfl rfl rfl rr) (wl_v (.bool true) rfl rfl (y_mov rfl rfl rr) (wl_unless 18 false 42 rfl rfl rfl (Or.inl rfl) rfl (wl_unless 18 false 42 rfl rfl rfl (Or.inl rfl) rfl (wl_unless 18 false 42 rfl rfl rfl (Or.inl rfl) rfl (wl_v (.bool true) rfl rfl (y_pickT rfl rfl rfl rr) ?_)))))))))))
     refine wl_v (.bool true) rfl rfl (y_mov rfl rfl rr) (wl_unless 23 false 47 rfl rfl rfl (Or.inl rfl) rfl (wl_unless 23 false 47 rfl rfl rfl (Or.inl rfl) rfl (wl_unless 23 false 47 rfl rfl rfl (Or.inl rfl) rfl (wl_v (.bool true) rfl rfl (y_pickT rfl rfl rfl rr) (wl_v (.bool true) rfl rfl (y_mov rfl rfl rr) (wl_unless 28 false 52 rfl rfl rfl (Or.inl rfl) rfl (wl_unless 28 false 52 rfl rfl rfl (Or.inl rfl) rfl (wl_unless 28 false 52 rfl rfl rfl (Or.inl rfl) rfl (wl_v (.bool true) rfl rfl (y_pickT rfl rfl rfl rr) (wl_nil fun F404 hF405 => ?_))))))))))
     obtain ⟨s406, s407, s408, s409, s410, s411, s412, s413, s414⟩ := t9 hF405 2 s123 5 s124 6 s125 121 s126 7 s127 8 s128 10 s129 11 s130 15 s131
     have s415 : F404 56 = .bool true := (hF405 56).trans rfl
     clear hF405
     exact ⟨s415.trans (congrArg Value.bool (show true = decide (bigP W H ∨ 1000 < l.length ∨ fewF g = false ∨ fewF h = false) from (by rw [Bool.eq_iff_iff, decide_eq_true_iff]; unfold bigP; first | (simp [*]; done) | (simp [*]; omega) | (simp_all; done) | (simp_all; omega)))), s406, s407, s408, s410, s411, s412, s413, s414, s409, K120, B109, B110, B111, B112, B113, B114, B115, B116, B117, B118, B119⟩
    ·skip
     by_cases d416 : 1000 < ((l.length : Nat) : Int)
     ·skip
      refine wq_region (wl_v (pt p1 0) rfl rfl (y_fieldR (n := 1) rfl s127 Tryz.underlying23 rfl (by kernel_rfl) (by decide) rfl rr) (wl_v (iv W) rfl rfl (y_ld_stc rfl rfl Tryz.underlying3 B116 rfl rfl rr) (wl_v (.bool false) rfl rfl (y_gtr rfl rfl rfl (decide_eq_false d132) rr) (wl_v (.bool false) rfl rfl (y_mov rfl rfl rr) (wl_unless 3 true 27 rfl rfl rfl (Or.inl rfl) rfl (wl_unless 3 true 27 rfl rfl rfl (Or.inl rfl) rfl (wl_unless 3 true 27 rfl rfl rfl (Or.inl rfl) rfl (wl_v (.bool false) rfl rfl (y_pickF rfl rfl rfl rr) (wl_v (.bool false) rfl rfl (y_mov rfl rfl rr) (wl_vw (pt p1 1) 8 false 32 rfl rfl rfl rfl rfl (y_fieldR (n := 1) rfl s127 Tryz.underlying23 rfl (by kernel_rfl) (by decide) rfl rr) (wl_vw (iv H) 8 false 32 rfl rfl rfl rfl rfl (y_ld_stc rfl rfl Tryz.underlying3 B116 rfl rfl rr) ?_)))))))))))
      refine wl_vw (.bool true) 8 false 32 rfl rfl rfl rfl rfl (y_gtr rfl rfl rfl (decide_eq_true d402) rr) (wl_vw (.bool true) 8 false 32 rfl rfl rfl rfl rfl (y_mov rfl rfl rr) (wl_vw (pt p1 1) 12 true 36 rfl rfl rfl rfl rfl (y_fieldR (n := 1) rfl s127 Tryz.underlying23 rfl (by kernel_rfl) (by decide) rfl rr) (wl_vw (iv H) 12 true 36 rfl rfl rfl rfl rfl (y_ld_stc rfl rfl Tryz.underlying3 B116 rfl rfl rr) (wl_vw (.bool false) 12 true 36 rfl rfl rfl rfl rfl (y_leq rfl rfl rfl (decide_eq_false d403) rr) (wl_vw (.bool false) 8 false 32 rfl rfl rfl rfl rfl (y_pickT rfl rfl rfl rr) (wl_v (.bool false) rfl rfl (y_pickF rfl rfl rfl rr) (wl_v (.bool false) rfl rfl (y_mov rfl rfl rr) (wl_vw v 18 false 42 rfl rfl rfl rfl rfl (y_mov rfl s123 rr) (wl_vw (iv ((l.length : Nat) : Int)) 18 false 42 rfl rfl rfl rfl rfl (y_lenV rfl rfl rfl B109 rr) (wl_vw (.bool true) 18 false 42 rfl rfl rfl rfl rfl (y_gtr rfl rfl rfl (decide_eq_true d416) rr) (wl_v (.bool true) rfl rfl (y_pickF rfl rfl rfl rr) ?_)))))))))))
      refine wl_v (.bool true) rfl rfl (y_mov rfl rfl rr) (wl_unless 23 false 47 rfl rfl rfl (Or.inl rfl) rfl (wl_unless 23 false 47 rfl rfl rfl (Or.inl rfl) rfl (wl_unless 23 false 47 rfl rfl rfl (Or.inl rfl) rfl (wl_v (.bool true) rfl rfl (y_pickT rfl rfl rfl rr) (wl_v (.bool true) rfl rfl (y_mov rfl rfl rr) (wl_unless 28 false 52 rfl rfl rfl (Or.inl rfl) rfl (wl_unless 28 false 52 rfl rfl rfl (Or.inl rfl) rfl (wl_unless 28 false 52 rfl rfl rfl (Or.inl rfl) rfl (wl_v (.bool true) rfl rfl (y_pickT rfl rfl rfl rr) (wl_nil fun F417 hF418 => ?_))))))))))
      obtain ⟨s419, s420, s421, s422, s423, s424, s425, s426, s427⟩ := t9 hF418 2 s123 5 s124 6 s125 121 s126 7 s127 8 s128 10 s129 11 s130 15 s131
      have s428 : F417 56 = .bool true := (hF418 56).trans rfl
      clear hF418
      exact ⟨s428.trans (congrArg Value.bool (show true = decide (bigP W H ∨ 1000 < l.length ∨ fewF g = false ∨ fewF h = false) from (by rw [Bool.eq_iff_iff, decide_eq_true_iff]; unfold bigP; first | (simp [*]; done) | (simp [*]; omega) | (simp_all; done) | (simp_all; omega)))), s419, s420, s421, s423, s424, s425, s426, s427, s422, K120, B109, B110, B111, B112, B113, B114, B115, B116, B117, B118, B119⟩
     ·skip
      rcases Bool.eq_false_or_eq_true (fewF g) with d429 | d429
      ·skip
       rcases Bool.eq_false_or_eq_true (fewF h) with d430 | d430
       ·skip
        refine wq_region (wl_v (pt p1 0) rfl rfl (y_fieldR (n := 1) rfl s127 Tryz.underlying23 rfl (by kernel_rfl) (by decide) rfl rr) (wl_v (iv W) rfl rfl (y_ld_stc rfl rfl Tryz.underlying3 B116 rfl rfl rr) (wl_v (.bool false) rfl rfl (y_gtr rfl rfl rfl (decide_eq_false d132) rr) (wl_v (.bool false) rfl rfl (y_mov rfl rfl rr) (wl_unless 3 true 27 rfl rfl rfl (Or.inl rfl) rfl (wl_unless 3 true 27 rfl rfl rfl (Or.inl rfl) rfl (wl_unless 3 true 27 rfl rfl rfl (Or.inl rfl) rfl (wl_v (.bool false) rfl rfl (y_pickF rfl rfl rfl rr) (wl_v (.bool false) rfl rfl (y_mov rfl rfl rr) (wl_vw (pt p1 1) 8 false 32 rfl rfl rfl rfl rfl (y_fieldR (n := 1) rfl s127 Tryz.underlying23 rfl (by kernel_rfl) (by decide) rfl rr) (wl_vw (iv H) 8 false 32 rfl rfl rfl rfl rfl (y_ld_stc rfl rfl Tryz.underlying3 B116 rfl rfl rr) ?_)))))))))))
        refine wl_vw (.bool true) 8 false 32 rfl rfl rfl rfl rfl (y_gtr rfl rfl rfl (decide_eq_true d402) rr) (wl_vw (.bool true) 8 false 32 rfl rfl rfl rfl rfl (y_mov rfl rfl rr) (wl_vw (pt p1 1) 12 true 36 rfl rfl rfl rfl rfl (y_fieldR (n := 1) rfl s127 Tryz.underlying23 rfl (by kernel_rfl) (by decide) rfl rr) (wl_vw (iv H) 12 true 36 rfl rfl rfl rfl rfl (y_ld_stc rfl rfl Tryz.underlying3 B116 rfl rfl rr) (wl_vw (.bool false) 12 true 36 rfl rfl rfl rfl rfl (y_leq rfl rfl rfl (decide_eq_false d403) rr) (wl_vw (.bool false) 8 false 32 rfl rfl rfl rfl rfl (y_pickT rfl rfl rfl rr) (wl_v (.bool false) rfl rfl (y_pickF rfl rfl rfl rr) (wl_v (.bool false) rfl rfl (y_mov rfl rfl rr) (wl_vw v 18 false 42 rfl rfl rfl rfl rfl (y_mov rfl s123 rr) (wl_vw (iv ((l.length : Nat) : Int)) 18 false 42 rfl rfl rfl rfl rfl (y_lenV rfl rfl rfl B109 rr) (wl_vw (.bool false) 18 false 42 rfl rfl rfl rfl rfl (y_gtr rfl rfl rfl (decide_eq_false d416) rr) (wl_v (.bool false) rfl rfl (y_pickF rfl rfl rfl rr) ?_)))))))))))
        refine wl_v (.bool false) rfl rfl (y_mov rfl rfl rr) (wl_vw (.agg #[iv (g.W), iv (g.H), g0, g1, g2]) 23 false 47 rfl rfl rfl rfl rfl (y_load_stc stcT_frame rfl s129 B118 rr) (wl_callw (R := fun v_ w_ => v_ = .bool true ∧ Kept (fun _ => False) w107 w_) 23 false 47 rfl rfl rfl rfl rfl (y_cs rfl rfl rfl (fun _ _ => by kernel_rfl) (ev_func _) (vsC rfl vsN) (flaw_few g g0 g1 g2 T_g0 T_g1 T_g2 _  B110 B111 B112 ) (fun e_ w_ h_ => ⟨_, h_.1, (congrArg Value.bool d429), h_.2⟩)) ?_))
        rintro _ w431 ⟨rfl, k432⟩
        have B433 := B109.all k432 Apart.none
        have B434 := B110.all k432 Apart.none
        have B435 := B111.all k432 Apart.none
        have B436 := B112.all k432 Apart.none
        have B437 := B113.all k432 Apart.none
        have B438 := B114.all k432 Apart.none
        have B439 := B115.all k432 Apart.none
        have B440 := B116.all k432 id
        have B441 := B117.all k432 id
        have B442 := B118.all k432 id
        have B443 := B119.all k432 id
        have K444 := K120.tr k432
        refine wl_vw (.bool false) 23 false 47 rfl rfl rfl rfl rfl (y_not rfl rfl rfl rr) (wl_v (.bool false) rfl rfl (y_pickF rfl rfl rfl rr) (wl_v (.bool false) rfl rfl (y_mov rfl rfl rr) (wl_vw (.agg #[iv (h.W), iv (h.H), h0, h1, h2]) 28 false 52 rfl rfl rfl rfl rfl (y_load_stc stcT_frame rfl s130 B443 rr) (wl_callw (R := fun v_ w_ => v_ = .bool true ∧ Kept (fun _ => False) w431 w_) 28 false 52 rfl rfl rfl rfl rfl (y_cs rfl rfl rfl (fun _ _ => by kernel_rfl) (ev_func _) (vsC rfl vsN) (flaw_few h h0 h1 h2 T_h0 T_h1 T_h2 _  B437 B438 B439 ) (fun e_ w_ h_ => ⟨_, h_.1, (congrArg Value.bool d430), h_.2⟩)) ?_))))
        rintro _ w445 ⟨rfl, k446⟩
        have B447 := B433.all k446 Apart.none
        have B448 := B434.all k446 Apart.none
        have B449 := B435.all k446 Apart.none
        have B450 := B436.all k446 Apart.none
        have B451 := B437.all k446 Apart.none
        have B452 := B438.all k446 Apart.none
        have B453 := B439.all k446 Apart.none
        have B454 := B440.all k446 id
        have B455 := B441.all k446 id
        have B456 := B442.all k446 id
        have B457 := B443.all k446 id
        have K458 := K444.tr k446
        refine wl_vw (.bool false) 28 false 52 rfl rfl rfl rfl rfl (y_not rfl rfl rfl rr) (wl_v (.bool false) rfl rfl (y_pickF rfl rfl rfl rr) (wl_nil fun F459 hF460 => ?_))
        obtain ⟨s461, s462, s463, s464, s465, s466, s467, s468, s469⟩ := t9 hF460 2 s123 5 s124 6 s125 121 s126 7 s127 8 s128 10 s129 11 s130 15 s131
        have s470 : F459 56 = .bool false := (hF460 56).trans rfl
        clear hF460
        exact ⟨s470.trans (congrArg Value.bool (show false = decide (bigP W H ∨ 1000 < l.length ∨ fewF g = false ∨ fewF h = false) from (by rw [Bool.eq_iff_iff, decide_eq_true_iff]; unfold bigP; first | (simp [*]; done) | (simp [*]; omega) | (simp_all; done) | (simp_all; omega)))), s461, s462, s463, s465, s466, s467, s468, s469, s464, K458, B447, B448, B449, B450, B451, B452, B453, B454, B455, B456, B457⟩
       ·skip
        refine wq_region (wl_v (pt p1 0) rfl rfl (y_fieldR (n := 1) rfl s127 Tryz.underlying23 rfl (by kernel_rfl) (by decide) rfl rr) (wl_v (iv W) rfl rfl (y_ld_stc rfl rfl Tryz.underlying3 B116 rfl rfl rr) (wl_v (.bool false) rfl rfl (y_gtr rfl rfl rfl (decide_eq_false d132) rr) (wl_v (.bool false) rfl rfl (y_mov rfl rfl rr) (wl_unless 3 true 27 rfl rfl rfl (Or.inl rfl) rfl (wl_unless 3 true 27 rfl rfl rfl (Or.inl rfl) rfl (wl_unless 3 true 27 rfl rfl rfl (Or.inl rfl) rfl (wl_v (.bool false) rfl rfl (y_pickF rfl rfl rfl rr) (wl_v (.bool false) rfl rfl (y_mov rfl rfl rr) (wl_vw (pt p1 1) 8 false 32 rfl rfl rfl rfl rfl (y_fieldR (n := 1) rfl s127 Tryz.underlying23 rfl (by kernel_rfl) (by decide) rfl rr) (wl_vw (iv H) 8 false 32 rfl rfl rfl rfl rfl (y_ld_stc rfl rfl Tryz.underlying3 B116 rfl rfl rr) ?_)))))))))))
        refine wl_vw (.bool true) 8 false 32 rfl rfl rfl rfl rfl (y_gtr rfl rfl rfl (decide_eq_true d402) rr) (wl_vw (.bool true) 8 false 32 rfl rfl rfl rfl rfl (y_mov rfl rfl rr) (wl_vw (pt p1 1) 12 true 36 rfl rfl rfl rfl rfl (y_fieldR (n := 1) rfl s127 Tryz.underlying23 rfl (by kernel_rfl) (by decide) rfl rr) (wl_vw (iv H) 12 true 36 rfl rfl rfl rfl rfl (y_ld_stc rfl rfl Tryz.underlying3 B116 rfl rfl rr) (wl_vw (.bool false) 12 true 36 rfl rfl rfl rfl rfl (y_leq rfl rfl rfl (decide_eq_false d403) rr) (wl_vw (.bool false) 8 false 32 rfl rfl rfl rfl rfl (y_pickT rfl rfl rfl rr) (wl_v (.bool false) rfl rfl (y_pickF rfl rfl rfl rr) (wl_v (.bool false) rfl rfl (y_mov rfl rfl rr) (wl_vw v 18 false 42 rfl rfl rfl rfl rfl (y_mov rfl s123 rr) (wl_vw (iv ((l.length : Nat) : Int)) 18 false 42 rfl rfl rfl rfl rfl (y_lenV rfl rfl rfl B109 rr) (wl_vw (.bool false) 18 false 42 rfl rfl rfl rfl rfl (y_gtr rfl rfl rfl (decide_eq_false d416) rr) (wl_v (.bool false) rfl rfl (y_pickF rfl rfl rfl rr) ?_)))))))))))
        refine wl_v (.bool false) rfl rfl (y_mov rfl rfl rr) (wl_vw (.agg #[iv (g.W), iv (g.H), g0, g1, g2]) 23 false 47 rfl rfl rfl rfl rfl (y_load_stc stcT_frame rfl s129 B118 rr) (wl_callw (R := fun v_ w_ => v_ = .bool true ∧ Kept (fun _ => False) w107 w_) 23 false 47 rfl rfl rfl rfl rfl (y_cs rfl rfl rfl (fun _ _ => by kernel_rfl) (ev_func _) (vsC rfl vsN) (flaw_few g g0 g1 g2 T_g0 T_g1 T_g2 _  B110 B111 B112 ) (fun e_ w_ h_ => ⟨_, h_.1, (congrArg Value.bool d429), h_.2⟩)) ?_))
        rintro _ w471 ⟨rfl, k472⟩
        have B473 := B109.all k472 Apart.none
        have B474 := B110.all k472 Apart.none
        have B475 := B111.all k472 Apart.none
        have B476 := B112.all k472 Apart.none
        have B477 := B113.all k472 Apart.none
        have B478 := B114.all k472 Apart.none
        have B479 := B115.all k472 Apart.none
        have B480 := B116.all k472 id
        have B481 := B117.all k472 id
        have B482 := B118.all k472 id
        have B483 := B119.all k472 id
        have K484 := K120.tr k472
        refine wl_vw (.bool false) 23 false 47 rfl rfl rfl rfl rfl (y_not rfl rfl rfl rr) (wl_v (.bool false) rfl rfl (y_pickF rfl rfl rfl rr) (wl_v (.bool false) rfl rfl (y_mov rfl rfl rr) (wl_vw (.agg #[iv (h.W), iv (h.H), h0, h1, h2]) 28 false 52 rfl rfl rfl rfl rfl (y_load_stc stcT_frame rfl s130 B483 rr) (wl_callw (R := fun v_ w_ => v_ = .bool false ∧ Kept (fun _ => False) w471 w_) 28 false 52 rfl rfl rfl rfl rfl (y_cs rfl rfl rfl (fun _ _ => by kernel_rfl) (ev_func _) (vsC rfl vsN) (flaw_few h h0 h1 h2 T_h0 T_h1 T_h2 _  B477 B478 B479 ) (fun e_ w_ h_ => ⟨_, h_.1, (congrArg Value.bool d430), h_.2⟩)) ?_))))
        rintro _ w485 ⟨rfl, k486⟩
        have B487 := B473.all k486 Apart.none
        have B488 := B474.all k486 Apart.none
        have B489 := B475.all k486 Apart.none
        have B490 := B476.all k486 Apart.none
        have B491 := B477.all k486 Apart.none
        have B492 := B478.all k486 Apart.none
        have B493 := B479.all k486 Apart.none
        have B494 := B480.all k486 id
        have B495 := B481.all k486 id
        have B496 := B482.all k486 id
        have B497 := B483.all k486 id
        have K498 := K484.tr k486
        refine wl_vw (.bool true) 28 false 52 rfl rfl rfl rfl rfl (y_not rfl rfl rfl rr) (wl_v (.bool true) rfl rfl (y_pickF rfl rfl rfl rr) (wl_nil fun F499 hF500 => ?_))
        obtain ⟨s501, s502, s503, s504, s505, s506, s507, s508, s509⟩ := t9 hF500 2 s123 5 s124 6 s125 121 s126 7 s127 8 s128 10 s129 11 s130 15 s131
        have s510 : F499 56 = .bool true := (hF500 56).trans rfl
        clear hF500
        exact ⟨s510.trans (congrArg Value.bool (show true = decide (bigP W H ∨ 1000 < l.length ∨ fewF g = false ∨ fewF h = false) from (by rw [Bool.eq_iff_iff, decide_eq_true_iff]; unfold bigP; first | (simp [*]; done) | (simp [*]; omega) | (simp_all; done) | (simp_all; omega)))), s501, s502, s503, s505, s506, s507, s508, s509, s504, K498, B487, B488, B489, B490, B491, B492, B493, B494, B495, B496, B497⟩
      ·skip
       refine wq_region (wl_v (pt p1 0) rfl rfl (y_fieldR (n := 1) rfl s127 Tryz.underlying23 rfl (by kernel_rfl) (by decide) rfl rr) (wl_v (iv W) rfl rfl (y_ld_stc rfl rfl Tryz.underlying3 B116 rfl rfl rr) (wl_v (.bool false) rfl rfl (y_gtr rfl rfl rfl (decide_eq_false d132) rr) (wl_v (.bool false) rfl rfl (y_mov rfl rfl rr) (wl_unless 3 true 27 rfl rfl rfl (Or.inl rfl) rfl (wl_unless 3 true 27 rfl rfl rfl (Or.inl rfl) rfl (wl_unless 3 true 27 rfl rfl rfl (Or.inl rfl) rfl (wl_v (.bool false) rfl rfl (y_pickF rfl rfl rfl rr) (wl_v (.bool false) rfl rfl (y_mov rfl rfl rr) (wl_vw (pt p1 1) 8 false 32 rfl rfl rfl rfl rfl (y_fieldR (n := 1) rfl s127 Tryz.underlying23 rfl (by kernel_rfl) (by decide) rfl rr) (wl_vw (iv H) 8 false 32 rfl rfl rfl rfl rfl (y_ld_stc rfl rfl Tryz.underlying3 B116 rfl rfl rr) ?_)))))))))))
       refine wl_vw (.bool true) 8 false 32 rfl rfl rfl rfl rfl (y_gtr rfl rfl rfl (decide_eq_true d402) rr) (wl_vw (.bool true) 8 false 32 rfl rfl rfl rfl rfl (y_mov rfl rfl rr) (wl_vw (pt p1 1) 12 true 36 rfl rfl rfl rfl rfl (y_fieldR (n := 1) rfl s127 Tryz.underlying23 rfl (by kernel_rfl) (by decide) rfl rr) (wl_vw (iv H) 12 true 36 rfl rfl rfl rfl rfl (y_ld_stc rfl rfl Tryz.underlying3 B116 rfl rfl rr) (wl_vw (.bool false) 12 true 36 rfl rfl rfl rfl rfl (y_leq rfl rfl rfl (decide_eq_false d403) rr) (wl_vw (.bool false) 8 false 32 rfl rfl rfl rfl rfl (y_pickT rfl rfl rfl rr) (wl_v (.bool false) rfl rfl (y_pickF rfl rfl rfl rr) (wl_v (.bool false) rfl rfl (y_mov rfl rfl rr) (wl_vw v 18 false 42 rfl rfl rfl rfl rfl (y_mov rfl s123 rr) (wl_vw (iv ((l.length : Nat) : Int)) 18 false 42 rfl rfl rfl rfl rfl (y_lenV rfl rfl rfl B109 rr) (wl_vw (.bool false) 18 false 42 rfl rfl rfl rfl rfl (y_gtr rfl rfl rfl (decide_eq_false d416) rr) (wl_v (.bool false) rfl rfl (y_pickF rfl rfl rfl rr) ?_)))))))))))
       refine wl_v (.bool false) rfl rfl (y_mov rfl rfl rr) (wl_vw (.agg #[iv (g.W), iv (g.H), g0, g1, g2]) 23 false 47 rfl rfl rfl rfl rfl (y_load_stc stcT_frame rfl s129 B118 rr) (wl_callw (R := fun v_ w_ => v_ = .bool false ∧ Kept (fun _ => False) w107 w_) 23 false 47 rfl rfl rfl rfl rfl (y_cs rfl rfl rfl (fun _ _ => by kernel_rfl) (ev_func _) (vsC rfl vsN) (flaw_few g g0 g1 g2 T_g0 T_g1 T_g2 _  B110 B111 B112 ) (fun e_ w_ h_ => ⟨_, h_.1, (congrArg Value.bool d429), h_.2⟩)) ?_))
       rintro _ w511 ⟨rfl, k512⟩
       have B513 := B109.all k512 Apart.none
       have B514 := B110.all k512 Apart.none
       have B515 := B111.all k512 Apart.none
       have B516 := B112.all k512 Apart.none
       have B517 := B113.all k512 Apart.none
       have B518 := B114.all k512 Apart.none
       have B519 := B115.all k512 Apart.none
       have B520 := B116.all k512 id
       have B521 := B117.all k512 id
       have B522 := B118.all k512 id
       have B523 := B119.all k512 id
       have K524 := K120.tr k512
       refine wl_vw (.bool true) 23 false 47 rfl rfl rfl rfl rfl (y_not rfl rfl rfl rr) (wl_v (.bool true) rfl rfl (y_pickF rfl rfl rfl rr) (wl_v (.bool true) rfl rfl (y_mov rfl rfl rr) (wl_unless 28 false 52 rfl rfl rfl (Or.inl rfl) rfl (wl_unless 28 false 52 rfl rfl rfl (Or.inl rfl) rfl (wl_unless 28 false 52 rfl rfl rfl (Or.inl rfl) rfl (wl_v (.bool true) rfl rfl (y_pickT rfl rfl rfl rr) (wl_nil fun F525 hF526 => ?_)))))))
       obtain ⟨s527, s528, s529, s530, s531, s532, s533, s534, s535⟩ := t9 hF526 2 s123 5 s124 6 s125 121 s126 7 s127 8 s128 10 s129 11 s130 15 s131
       have s536 : F525 56 = .bool true := (hF526 56).trans rfl
       clear hF526
       exact ⟨s536.trans (congrArg Value.bool (show true = decide (bigP W H ∨ 1000 < l.length ∨ fewF g = false ∨ fewF h = false) from (by rw [Bool.eq_iff_iff, decide_eq_true_iff]; unfold bigP; first | (simp [*]; done) | (simp [*]; omega) | (simp_all; done) | (simp_all; omega)))), s527, s528, s529, s531, s532, s533, s534, s535, s530, K524, B513, B514, B515, B516, B517, B518, B519, B520, B521, B522, B523⟩
   ·skip
    by_cases d537 : 1000 < ((l.length : Nat) : Int)
    ·skip
     refine wq_region (wl_v (pt p1 0) rfl rfl (y_fieldR (n := 1) rfl s127 Tryz.underlying23 rfl (by kernel_rfl) (by decide) rfl rr) (wl_v (iv W) rfl rfl (y_ld_stc rfl rfl Tryz.underlying3 B116 rfl rfl rr) (wl_v (.bool false) rfl rfl (y_gtr rfl rfl rfl (decide_eq_false d132) rr) (wl_v (.bool false) rfl rfl (y_mov rfl rfl rr) (wl_unless 3 true 27 rfl rfl rfl (Or.inl rfl) rfl (wl_unless 3 true 27 rfl rfl rfl (Or.inl rfl) rfl (wl_unless 3 true 27 rfl rfl rfl (Or.inl rfl) rfl (wl_v (.bool false) rfl rfl (y_pickF rfl rfl rfl rr) (wl_v (.bool false) rfl rfl (y_mov rfl rfl rr) (wl_vw (pt p1 1) 8 false 32 rfl rfl rfl rfl rfl (y_fieldR (n := 1) rfl s127 Tryz.underlying23 rfl (by kernel_rfl) (by decide) rfl rr) (wl_vw (iv H) 8 false 32 rfl rfl rfl rfl rfl (y_ld_stc rfl rfl Tryz.underlying3 B116 rfl rfl rr) ?_)))))))))))
     refine wl_vw (.bool false) 8 false 32 rfl rfl rfl rfl rfl (y_gtr rfl rfl rfl (decide_eq_false d402) rr) (wl_vw (.bool false) 8 false 32 rfl rfl rfl rfl rfl (y_mov rfl rfl rr) (wl_unless 12 true 36 rfl rfl rfl (Or.inl rfl) rfl (wl_unless 12 true 36 rfl rfl rfl (Or.inl rfl) rfl (wl_unless 12 true 36 rfl rfl rfl (Or.inl rfl) rfl (wl_vw (.bool false) 8 false 32 rfl rfl rfl rfl rfl (y_pickF rfl rfl rfl rr) (wl_v (.bool false) rfl rfl (y_pickF rfl rfl rfl rr) (wl_v (.bool false) rfl rfl (y_mov rfl rfl rr) (wl_vw v 18 false 42 rfl rfl rfl rfl rfl (y_mov rfl s123 rr) (wl_vw (iv ((l.length : Nat) : Int)) 18 false 42 rfl rfl rfl rfl rfl (y_lenV rfl rfl rfl B109 rr) (wl_vw (.bool true) 18 false 42 rfl rfl rfl rfl rfl (y_gtr rfl rfl rfl (decide_eq_true d537) rr) (wl_v (.bool true) rfl rfl (y_pickF rfl rfl rfl rr) ?_)))))))))))
     refine wl_v (.bool true) rfl rfl (y_mov rfl rfl rr) (wl_unless 23 false 47 rfl rfl rfl (Or.inl rfl) rfl (wl_unless 23 false 47 rfl rfl rfl (Or.inl rfl) rfl (wl_unless 23 false 47 rfl rfl rfl (Or.inl rfl) rfl (wl_v (.bool true) rfl rfl (y_pickT rfl rfl rfl rr) (wl_v (.bool true) rfl rfl (y_mov rfl rfl rr) (wl_unless 28 false 52 rfl rfl rfl (Or.inl rfl) rfl (wl_unless 28 false 52 rfl rfl rfl (Or.inl rfl) rfl (wl_unless 28 false 52 rfl rfl rfl (Or.inl rfl) rfl (wl_v (.bool true) rfl rfl (y_pickT rfl rfl rfl rr) (wl_nil fun F538 hF539 => ?_))))))))))
     obtain ⟨s540, s541, s542, s543, s544, s545, s546, s547, s548⟩ := t9 hF539 2 s123 5 s124 6 s125 121 s126 7 s127 8 s128 10 s129 11 s130 15 s131
     have s549 : F538 56 = .bool true := (hF539 56).trans rfl
     clear hF539
     exact ⟨s549.trans (congrArg Value.bool (show true = decide (bigP W H ∨ 1000 < l.length ∨ fewF g = false ∨ fewF h = false) from (by rw [Bool.eq_iff_iff, decide_eq_true_iff]; unfold bigP; first | (simp [*]; done) | (simp [*]; omega) | (simp_all; done) | (simp_all; omega)))), s540, s541, s542, s544, s545, s546, s547, s548, s543, K120, B109, B110, B111, B112, B113, B114, B115, B116, B117, B118, B119⟩
    ·skip
     rcases Bool.eq_false_or_eq_true (fewF g) with d550 | d550
     ·skip
      rcases Bool.eq_false_or_eq_true (fewF h) with d551 | d551
      ·skip
       refine wq_region (wl_v (pt p1 0) rfl rfl (y_fieldR (n := 1) rfl s127 Tryz.underlying23 rfl (by kernel_rfl) (by decide) rfl rr) (wl_v (iv W) rfl rfl (y_ld_stc rfl rfl Tryz.underlying3 B116 rfl rfl rr) (wl_v (.bool false) rfl rfl (y_gtr rfl rfl rfl (decide_eq_false d132) rr) (wl_v (.bool false) rfl rfl (y_mov rfl rfl rr) (wl_unless 3 true 27 rfl rfl rfl (Or.inl rfl) rfl (wl_unless 3 true 27 rfl rfl rfl (Or.inl rfl) rfl (wl_unless 3 true 27 rfl rfl rfl (Or.inl rfl) rfl (wl_v (.bool false) rfl rfl (y_pickF rfl rfl rfl rr) (wl_v (.bool false) rfl rfl (y_mov rfl rfl rr) (wl_vw (pt p1 1) 8 false 32 rfl rfl rfl rfl rfl (y_fieldR (n := 1) rfl s127 Tryz.underlying23 rfl (by kernel_rfl) (by decide) rfl rr) (wl_vw (iv H) 8 false 32 rfl rfl rfl rfl rfl (y_ld_stc rfl rfl Tryz.underlying3 B116 rfl rfl rr) ?_)))))))))))
       refine wl_vw (.bool false) 8 false 32 rfl rfl rfl rfl rfl (y_gtr rfl rfl rfl (decide_eq_false d402) rr) (wl_vw (.bool false) 8 false 32 rfl rfl rfl rfl rfl (y_mov rfl rfl rr) (wl_unless 12 true 36 rfl rfl rfl (Or.inl rfl) rfl (wl_unless 12 true 36 rfl rfl rfl (Or.inl rfl) rfl (wl_unless 12 true 36 rfl rfl rfl (Or.inl rfl) rfl (wl_vw (.bool false) 8 false 32 rfl rfl rfl rfl rfl (y_pickF rfl rfl rfl rr) (wl_v (.bool false) rfl rfl (y_pickF rfl rfl rfl rr) (wl_v (.bool false) rfl rfl (y_mov rfl rfl rr) (wl_vw v 18 false 42 rfl rfl rfl rfl rfl (y_mov rfl s123 rr) (wl_vw (iv ((l.length : Nat) : Int)) 18 false 42 rfl rfl rfl rfl rfl (y_lenV rfl rfl rfl B109 rr) (wl_vw (.bool false) 18 false 42 rfl rfl rfl rfl rfl (y_gtr rfl rfl rfl (decide_eq_false d537) rr) (wl_v (.bool false) rfl rfl (y_pickF rfl rfl rfl rr) ?_)))))))))))
       refine wl_v (.bool false) rfl rfl (y_mov rfl rfl rr) (wl_vw (.agg #[iv (g.W), iv (g.H), g0, g1, g2]) 23 false 47 rfl rfl rfl rfl rfl (y_load_stc stcT_frame rfl s129 B118 rr) (wl_callw (R := fun v_ w_ => v_ = .bool true ∧ Kept (fun _ => False) w107 w_) 23 false 47 rfl rfl rfl rfl rfl (y_cs rfl rfl rfl (fun _ _ => by kernel_rfl) (ev_func _) (vsC rfl vsN) (flaw_few g g0 g1 g2 T_g0 T_g1 T_g2 _  B110 B111 B112 ) (fun e_ w_ h_ => ⟨_, h_.1, (congrArg Value.bool d550), h_.2⟩)) ?_))
       rintro _ w552 ⟨rfl, k553⟩
       have B554 := B109.all k553 Apart.none
       have B555 := B110.all k553 Apart.none
       have B556 := B111.all k553 Apart.none
       have B557 := B112.all k553 Apart.none
       have B558 := B113.all k553 Apart.none
       have B559 := B114.all k553 Apart.none
       have B560 := B115.all k553 Apart.none
       have B561 := B116.all k553 id
       have B562 := B117.all k553 id
       have B563 := B118.all k553 id
       have B564 := B119.all k553 id
       have K565 := K120.tr k553
       refine wl_vw (.bool false) 23 false 47 rfl rfl rfl rfl rfl (y_not rfl rfl rfl rr) (wl_v (.bool false) rfl rfl (y_pickF rfl rfl rfl rr) (wl_v (.bool false) rfl rfl (y_mov rfl rfl rr) (wl_vw (.agg #[iv (h.W), iv (h.H), h0, h1, h2]) 28 false 52 rfl rfl rfl rfl rfl (y_load_stc stcT_frame rfl s130 B564 rr) (wl_callw (R := fun v_ w_ => v_ = .bool true ∧ Kept (fun _ => False) w552 w_) 28 false 52 rfl rfl rfl rfl rfl (y_cs rfl rfl rfl (fun _ _ => by kernel_rfl) (ev_func _) (vsC rfl vsN) (flaw_few h h0 h1 h2 T_h0 T_h1 T_h2 _  B558 B559 B560 ) (fun e_ w_ h_ => ⟨_, h_.1, (congrArg Value.bool d551), h_.2⟩)) ?_))))
       rintro _ w566 ⟨rfl, k567⟩
       have B568 := B554.all k567 Apart.none
       have B569 := B555.all k567 Apart.none
       have B570 := B556.all k567 Apart.none
       have B571 := B557.all k567 Apart.none
       have B572 := B558.all k567 Apart.none
       have B573 := B559.all k567 Apart.none
       have B574 := B560.all k567 Apart.none
       have B575 := B561.all k567 id
       have B576 := B562.all k567 id
       have B577 := B563.all k567 id
       have B578 := B564.all k567 id
       have K579 := K565.tr k567
       refine wl_vw (.bool false) 28 false 52 rfl rfl rfl rfl rfl (y_not rfl rfl rfl rr) (wl_v (.bool false) rfl rfl (y_pickF rfl rfl rfl rr) (wl_nil fun F580 hF581 => ?_))
       obtain ⟨s582, s583, s584, s585, s586, s587, s588, s589, s590⟩ := t9 hF581 2 s123 5 s124 6 s125 121 s126 7 s127 8 s128 10 s129 11 s130 15 s131
       have s591 : F580 56 = .bool false := (hF581 56).trans rfl
       clear hF581
       exact ⟨s591.trans (congrArg Value.bool (show false = decide (bigP W H ∨ 1000 < l.length ∨ fewF g = false ∨ fewF h = false) from (by rw [Bool.eq_iff_iff, decide_eq_true_iff]; unfold bigP; first | (simp [*]; done) | (simp [*]; omega) | (simp_all; done) | (simp_all; omega)))), s582, s583, s584, s586, s587, s588, s589, s590, s585, K579, B568, B569, B570, B571, B572, B573, B574, B575, B576, B577, B578⟩
      ·skip
       refine wq_region (wl_v (pt p1 0) rfl rfl (y_fieldR (n := 1) rfl s127 Tryz.underlying23 rfl (by kernel_rfl) (by decide) rfl rr) (wl_v (iv W) rfl rfl (y_ld_stc rfl rfl Tryz.underlying3 B116 rfl rfl rr) (wl_v (.bool false) rfl rfl (y_gtr rfl rfl rfl (decide_eq_false d132) rr) (wl_v (.bool false) rfl rfl (y_mov rfl rfl rr) (wl_unless 3 true 27 rfl rfl rfl (Or.inl rfl) rfl (wl_unless 3 true 27 rfl rfl rfl (Or.inl rfl) rfl (wl_unless 3 true 27 rfl rfl rfl (Or.inl rfl) rfl (wl_v (.bool false) rfl rfl (y_pickF rfl rfl rfl rr) (wl_v (.bool false) rfl rfl (y_mov rfl rfl rr) (wl_vw (pt p1 1) 8 false 32 rfl rfl rfl rfl rfl (y_fieldR (n := 1) rfl s127 Tryz.underlying23 rfl (by kernel_rfl) (by decide) rfl rr) (wl_vw (iv H) 8 false 32 rfl rfl rfl rfl rfl (y_ld_stc rfl rfl Tryz.underlying3 B116 rfl rfl rr) ?_)))))))))))
       refine wl_vw (.bool false) 8 false 32 rfl rfl rfl rfl rfl (y_gtr rfl rfl rfl (decide_eq_false d402) rr) (wl_vw (.bool false) 8 false 32 rfl rfl rfl rfl rfl (y_mov rfl rfl rr) (wl_unless 12 true 36 rfl rfl rfl (Or.inl rfl) rfl (wl_unless 12 true 36 rfl rfl rfl (Or.inl rfl) rfl (wl_unless 12 true 36 rfl rfl rfl (Or.inl rfl) rfl (wl_vw (.bool false) 8 false 32 rfl rfl rfl rfl rfl (y_pickF rfl rfl rfl rr) (wl_v (.bool false) rfl rfl (y_pickF rfl rfl rfl rr) (wl_v (.bool false) rfl rfl (y_mov rfl rfl rr) (wl_vw v 18 false 42 rfl rfl rfl rfl rfl (y_mov rfl s123 rr) (wl_vw (iv ((l.length : Nat) : Int)) 18 false 42 rfl rfl rfl rfl rfl (y_lenV rfl rfl rfl B109 rr) (wl_vw (.bool false) 18 false 42 rfl rfl rfl rfl rfl (y_gtr rfl rfl rfl (decide_eq_false d537) rr) (wl_v (.bool false) rfl rfl (y_pickF rfl rfl rfl rr) ?_)))))))))))
       refine wl_v (.bool false) rfl rfl (y_mov rfl rfl rr) (wl_vw (.agg #[iv (g.W), iv (g.H), g0, g1, g2]) 23 false 47 rfl rfl rfl rfl rfl (y_load_stc stcT_frame rfl s129 B118 rr) (wl_callw (R := fun v_ w_ => v_ = .bool true ∧ Kept (fun _ => False) w107 w_) 23 false 47 rfl rfl rfl rfl rfl (y_cs rfl rfl rfl (fun _ _ => by kernel_rfl) (ev_func _) (vsC rfl vsN) (flaw_few g g0 g1 g2 T_g0 T_g1 T_g2 _  B110 B111 B112 ) (fun e_ w_ h_ => ⟨_, h_.1, (congrArg Value.bool d550), h_.2⟩)) ?_))
       rintro _ w592 ⟨rfl, k593⟩
       have B594 := B109.all k593 Apart.none
       have B595 := B110.all k593 Apart.none
       have B596 := B111.all k593 Apart.none
       have B597 := B112.all k593 Apart.none
       have B598 := B113.all k593 Apart.none
       have B599 := B114.all k593 Apart.none
       have B600 := B115.all k593 Apart.none
       have B601 := B116.all k593 id
       have B602 := B117.all k593 id
       have B603 := B118.all k593 id
       have B604 := B119.all k593 id
       have K605 := K120.tr k593
       refine wl_vw (.bool false) 23 false 47 rfl rfl rfl rfl rfl (y_not rfl rfl rfl rr) (wl_v (.bool false) rfl rfl (y_pickF rfl rfl rfl rr) (wl_v (.bool false) rfl rfl (y_mov rfl rfl rr) (wl_vw (.agg #[iv (h.W), iv (h.H), h0, h1, h2]) 28 false 52 rfl rfl rfl rfl rfl (y_load_stc stcT_frame rfl s130 B604 rr) (wl_callw (R := fun v_ w_ => v_ = .bool false ∧ Kept (fun _ => False) w592 w_) 28 false 52 rfl rfl rfl rfl rfl (y_cs rfl rfl rfl (fun _ _ => by kernel_rfl) (ev_func _) (vsC rfl vsN) (flaw_few h h0 h1 h2 T_h0 T_h1 T_h2 _  B598 B599 B600 ) (fun e_ w_ h_ => ⟨_, h_.1, (congrArg Value.bool d551), h_.2⟩)) ?_))))
       rintro _ w606 ⟨rfl, k607⟩
       have B608 := B594.all k607 Apart.none
       have B609 := B595.all k607 Apart.none
       have B610 := B596.all k607 Apart.none
       have B611 := B597.all k607 Apart.none
       have B612 := B598.all k607 Apart.none
       have B613 := B599.all k607 Apart.none
       have B614 := B600.all k607 Apart.none
       have B615 := B601.all k607 id
       have B616 := B602.all k607 id
       have B617 := B603.all k607 id
       have B618 := B604.all k607 id
       have K619 := K605.tr k607
       refine wl_vw (.bool true) 28 false 52 rfl rfl rfl rfl rfl (y_not rfl rfl rfl rr) (wl_v (.bool true) rfl rfl (y_pickF rfl rfl rfl rr) (wl_nil fun F620 hF621 => ?_))
       obtain ⟨s622, s623, s624, s625, s626, s627, s628, s629, s630⟩ := t9 hF621 2 s123 5 s124 6 s125 121 s126 7 s127 8 s128 10 s129 11 s130 15 s131
       have s631 : F620 56 = .bool true := (hF621 56).trans rfl
       clear hF621
       exact ⟨s631.trans (congrArg Value.bool (show true = decide (bigP W H ∨ 1000 < l.length ∨ fewF g = false ∨ fewF h = false) from (by rw [Bool.eq_iff_iff, decide_eq_true_iff]; unfold bigP; first | (simp [*]; done) | (simp [*]; omega) | (simp_all; done) | (simp_all; omega)))), s622, s623, s624, s626, s627, s628, s629, s630, s625, K619, B608, B609, B610, B611, B612, B613, B614, B615, B616, B617, B618⟩
     ·skip
      refine wq_region (wl_v (pt p1 0) rfl rfl (y_fieldR (n := 1) rfl s127 Tryz.underlying23 rfl (by kernel_rfl) (by decide) rfl rr) (wl_v (iv W) rfl rfl (y_ld_stc rfl rfl Tryz.underlying3 B116 rfl rfl rr) (wl_v (.bool false) rfl rfl (y_gtr rfl rfl rfl (decide_eq_false d132) rr) (wl_v (.bool false) rfl rfl (y_mov rfl rfl rr) (wl_unless 3 true 27 rfl rfl rfl (Or.inl rfl) rfl (wl_unless 3 true 27 rfl rfl rfl (Or.inl rfl) rfl (wl_unless 3 true 27 rfl rfl rfl (Or.inl rfl) rfl (wl_v (.bool false) rfl rfl (y_pickF rfl rfl rfl rr) (wl_v (.bool false) rfl rfl (y_mov rfl rfl rr) (wl_vw (pt p1 1) 8 false 32 rfl rfl rfl rfl rfl (y_fieldR (n := 1) rfl s127 Tryz.underlying23 rfl (by kernel_rfl) (by decide) rfl rr) (wl_vw (iv H) 8 false 32 rfl rfl rfl rfl rfl (y_ld_stc rfl rfl Tryz.underlying3 B116 rfl rfl rr) ?_)))))))))))
      refine wl_vw (.bool false) 8 false 32 rfl rfl rfl rfl rfl (y_gtr rfl rfl rfl (decide_eq_false d402) rr) (wl_vw (.bool false) 8 false 32 rfl rfl rfl rfl rfl (y_mov rfl rfl rr) (wl_unless 12 true 36 rfl rfl rfl (Or.inl rfl) rfl (wl_unless 12 true 36 rfl rfl rfl (Or.inl rfl) rfl (wl_unless 12 true 36 rfl rfl rfl (Or.inl rfl) rfl (wl_vw (.bool false) 8 false 32 rfl rfl rfl rfl rfl (y_pickF rfl rfl rfl rr) (wl_v (.bool false) rfl rfl (y_pickF rfl rfl rfl rr) (wl_v (.bool false) rfl rfl (y_mov rfl rfl rr) (wl_vw v 18 false 42 rfl rfl rfl rfl rfl (y_mov rfl s123 rr) (wl_vw (iv ((l.length : Nat) : Int)) 18 false 42 rfl rfl rfl rfl rfl (y_lenV rfl rfl rfl B109 rr) (wl_vw (.bool false) 18 false 42 rfl rfl rfl rfl rfl (y_gtr rfl rfl rfl (decide_eq_false d537) rr) (wl_v (.bool false) rfl rfl (y_pickF rfl rfl rfl rr) ?_)))))))))))
      refine wl_v (.bool false) rfl rfl (y_mov rfl rfl rr) (wl_vw (.agg #[iv (g.W), iv (g.H), g0, g1, g2]) 23 false 47 rfl rfl rfl rfl rfl (y_load_stc stcT_frame rfl s129 B118 rr) (wl_callw (R := fun v_ w_ => v_ = .bool false ∧ Kept (fun _ => False) w107 w_) 23 false 47 rfl rfl rfl rfl rfl (y_cs rfl rfl rfl (fun _ _ => by kernel_rfl) (ev_func _) (vsC rfl vsN) (flaw_few g g0 g1 g2 T_g0 T_g1 T_g2 _  B110 B111 B112 ) (fun e_ w_ h_ => ⟨_, h_.1, (congrArg Value.bool d550), h_.2⟩)) ?_))
      rintro _ w632 ⟨rfl, k633⟩
      have B634 := B109.all k633 Apart.none
      have B635 := B110.all k633 Apart.none
      have B636 := B111.all k633 Apart.none
      have B637 := B112.all k633 Apart.none
      have B638 := B113.all k633 Apart.none
      have B639 := B114.all k633 Apart.none
      have B640 := B115.all k633 Apart.none
      have B641 := B116.all k633 id
      have B642 := B117.all k633 id
      have B643 := B118.all k633 id
      have B644 := B119.all k633 id
      have K645 := K120.tr k633
      refine wl_vw (.bool true) 23 false 47 rfl rfl rfl rfl rfl (y_not rfl rfl rfl rr) (wl_v (.bool true) rfl rfl (y_pickF rfl rfl rfl rr) (wl_v (.bool true) rfl rfl (y_mov rfl rfl rr) (wl_unless 28 false 52 rfl rfl rfl (Or.inl rfl) rfl (wl_unless 28 false 52 rfl rfl rfl (Or.inl rfl) rfl (wl_unless 28 false 52 rfl rfl rfl (Or.inl rfl) rfl (wl_v (.bool true) rfl rfl (y_pickT rfl rfl rfl rr) (wl_nil fun F646 hF647 => ?_)))))))
      obtain ⟨s648, s649, s650, s651, s652, s653, s654, s655, s656⟩ := t9 hF647 2 s123 5 s124 6 s125 121 s126 7 s127 8 s128 10 s129 11 s130 15 s131
      have s657 : F646 56 = .bool true := (hF647 56).trans rfl
      clear hF647
      exact ⟨s657.trans (congrArg Value.bool (show true = decide (bigP W H ∨ 1000 < l.length ∨ fewF g = false ∨ fewF h = false) from (by rw [Bool.eq_iff_iff, decide_eq_true_iff]; unfold bigP; first | (simp [*]; done) | (simp [*]; omega) | (simp_all; done) | (simp_all; omega)))), s648, s649, s650, s652, s653, s654, s655, s656, s651, K645, B634, B635, B636, B637, B638, B639, B640, B641, B642, B643, B644⟩
 ·rintro F658 w659 ⟨s661, s662, s663, s664, s665, s666, s667, s668, s669, s670, K660, B671, B672, B673, B674, B675, B676, B677, B678, B679, B680, B681⟩
  refine then_normal ?_
  refine wq_cond s661 (fun c682 => ?_) (fun c682 => ?_)
  ·replace c682 := of_decide_eq_true c682
   refine wq_seq (wq_region (wl_mv rfl rfl rfl s669 (wl_v (.bool true) rfl rfl (y_asg rfl rfl rr) (wl_nil fun F683 hF684 => ?_))))
   have s685 := (hF684 121).trans s670
   have s686 : F683 14 = .bool true := (hF684 14).trans rfl
   clear hF684
   refine then_normal (wq_ret (then_ret ?_))
   exact end_tmp (v := .bool true) s685 rfl rfl s686 ⟨rfl, K660⟩
  ·replace c682 := of_decide_eq_false c682
   refine wq_skip (then_normal (wq_seq (wq_region (wl_v (.agg #[iv (g.W), iv (g.H), g0, g1, g2]) rfl rfl (y_load_stc stcT_frame rfl s667 B680 rr) (wl_call (R := fun v_ w_ => ∃ (v687 : Value) (T692 : Nat → Prop) (v688 : Value) (T693 : Nat → Prop) (v689 : Value) (T694 : Nat → Prop), .agg #[iv ((copyF g).W), iv ((copyF g).H), v687, v688, v689] = v_ ∧ Kept (fun _ => False) w659 w_ ∧ (Owb w_ T692 v687 ((copyF g).p0) ∧ Grew w659 noB T692) ∧ (Owb w_ T693 v688 ((copyF g).p1) ∧ Grew w659 noB T693) ∧ (Owb w_ T694 v689 ((copyF g).p2) ∧ Grew w659 noB T694) ∧ Apart T692 T693 ∧ Apart T692 T694 ∧ Apart T693 T694) rfl rfl (y_cs rfl rfl rfl (fun _ _ => by kernel_rfl) (ev_func _) (vsC rfl vsN) (pl_copy g g0 g1 g2 T_g0 T_g1 T_g2 _  B672 B673 B674 ) (fun e_ w_ h_ => by obtain ⟨v687_, T692_, v688_, T693_, v689_, T694_, he_, hr_⟩ := h_; exact ⟨_, he_, v687_, T692_, v688_, T693_, v689_, T694_, rfl, hr_⟩)) ?_)))))
   rintro _ w690 ⟨v687, T692, v688, T693, v689, T694, rfl, k691, ⟨B695, g698⟩, ⟨B696, g699⟩, ⟨B697, g700⟩, ap701, ap702, ap703⟩
   have B704 := B671.all k691 Apart.none
   have B705 := B672.all k691 Apart.none
   have B706 := B673.all k691 Apart.none
   have B707 := B674.all k691 Apart.none
   have B708 := B675.all k691 Apart.none
   have B709 := B676.all k691 Apart.none
   have B710 := B677.all k691 Apart.none
   have B711 := B678.all k691 id
   have B712 := B679.all k691 id
   have B713 := B680.all k691 id
   have B714 := B681.all k691 id
   have K715 := K660.tr k691
   have ap725 : Apart T692 (onB p22) := Apart.new g698 (onB_live B679.lt)
   have ap737 : Apart T693 (onB p22) := Apart.new g699 (onB_live B679.lt)
   have ap749 : Apart T694 (onB p22) := Apart.new g700 (onB_live B679.lt)
   refine wl_alloc_stc (n := 5) (vs := [iv 0, iv 0, .slice none 0 0, .slice none 0 0, .slice none 0 0]) rfl rfl rfl (by kernel_rfl) fun p752 w753 B755 g756 k754 => ?_
   have gr757 : Grew w0 noB (onB p752) := Grew.new K715 g756
   have ap758 : Apart (onB p752) T_b := Apart.new g756 B704.live
   have ap759 : Apart (onB p752) T_g0 := Apart.new g756 B705.live
   have ap760 : Apart (onB p752) T_g1 := Apart.new g756 B706.live
   have ap761 : Apart (onB p752) T_g2 := Apart.new g756 B707.live
   have ap762 : Apart (onB p752) T_h0 := Apart.new g756 B708.live
   have ap763 : Apart (onB p752) T_h1 := Apart.new g756 B709.live
   have ap764 : Apart (onB p752) T_h2 := Apart.new g756 B710.live
   have ap765 : Apart (onB p752) (onB p1) := Apart.new g756 (onB_live B711.lt)
   have ap766 : Apart (onB p752) (onB p22) := Apart.new g756 (onB_live B712.lt)
   have ap767 : Apart (onB p752) (onB p45) := Apart.new g756 (onB_live B713.lt)
   have ap768 : Apart (onB p752) (onB p70) := Apart.new g756 (onB_live B714.lt)
   have ap769 : Apart (onB p752) T692 := Apart.new g756 B695.live
   have ap770 : Apart (onB p752) T693 := Apart.new g756 B696.live
   have ap771 : Apart (onB p752) T694 := Apart.new g756 B697.live
   have B772 := B704.all k754 Apart.none
   have B773 := B705.all k754 Apart.none
   have B774 := B706.all k754 Apart.none
   have B775 := B707.all k754 Apart.none
   have B776 := B708.all k754 Apart.none
   have B777 := B709.all k754 Apart.none
   have B778 := B710.all k754 Apart.none
   have B779 := B711.all k754 id
   have B780 := B712.all k754 id
   have B781 := B713.all k754 id
   have B782 := B714.all k754 id
   have B783 := B695.all k754 Apart.none
   have B784 := B696.all k754 Apart.none
   have B785 := B697.all k754 Apart.none
   have K786 := K715.tr k754
   refine wl_store_stc (us := [iv ((copyF g).W), iv ((copyF g).H), v687, v688, v689]) stcT_frame rfl rfl rfl rfl rfl B755 rfl (oneI rfl (oneI rfl (oneI B783.one (oneI B784.one (oneI B785.one oneN))))) fun w787 B788 k789 => ?_
   have B790 := B772.all k789 ap758.symm
   have B791 := B773.all k789 ap759.symm
   have B792 := B774.all k789 ap760.symm
   have B793 := B775.all k789 ap761.symm
   have B794 := B776.all k789 ap762.symm
   have B795 := B777.all k789 ap763.symm
   have B796 := B778.all k789 ap764.symm
   have B797 := B779.all k789 (ap765.symm p1 rfl)
   have B798 := B780.all k789 (ap766.symm p22 rfl)
   have B799 := B781.all k789 (ap767.symm p45 rfl)
   have B800 := B782.all k789 (ap768.symm p70 rfl)
   have B801 := B783.all k789 ap769.symm
   have B802 := B784.all k789 ap770.symm
   have B803 := B785.all k789 ap771.symm
   have K804 := K786.trans k789 (Grew.ok (S := fun _ => False) gr757 noB_le)
   refine wl_nil fun F805 hF806 => ?_
   obtain ⟨s807, s808, s809, s810, s811, s812, s813, s814, s815⟩ := t9 hF806 2 s662 5 s663 6 s664 7 s665 8 s666 10 s667 11 s668 15 s669 121 s670
   have s816 : F805 16 = pt p752 0 := (hF806 16).trans rfl
   clear hF806
   refine then_normal (wq_seq (wq_region (wl_v (.agg #[iv W, iv H, iv R, iv B]) rfl rfl (y_load_stc stcT_seq rfl s810 B797 rr) (wl_v (.agg #[iv K, iv Q, iv D, iv F]) rfl rfl (y_load_stc stcT_head rfl s811 B798 rr) (wl_mv rfl rfl rfl s807 (wl_v (.agg #[iv (g.W), iv (g.H), g0, g1, g2]) rfl rfl (y_load_stc stcT_frame rfl s812 B799 rr) (wl_v (.agg #[iv (h.W), iv (h.H), h0, h1, h2]) rfl rfl (y_load_stc stcT_frame rfl s813 B800 rr) (wl_call (R := fun v_ w_ => ∃ (v817 : Value) (T822 : Nat → Prop) (v818 : Value) (T823 : Nat → Prop) (v819 : Value) (T824 : Nat → Prop), .tuple #[.agg #[iv ((decF l W H R B K Q D F g h).W), iv ((decF l W H R B K Q D F g h).H), v817, v818, v819], iv (decE l W H R B K Q D F g h)] = v_ ∧ Kept (fun _ => False) w787 w_ ∧ (Owb w_ T822 v817 ((decF l W H R B K Q D F g h).p0) ∧ Grew w787 noB T822) ∧ (Owb w_ T823 v818 ((decF l W H R B K Q D F g h).p1) ∧ Grew w787 noB T823) ∧ (Owb w_ T824 v819 ((decF l W H R B K Q D F g h).p2) ∧ Grew w787 noB T824) ∧ Apart T822 T823 ∧ Apart T822 T824 ∧ Apart T823 T824) rfl rfl (y_cs rfl rfl rfl (fun _ _ => by kernel_rfl) (ev_func _) (vsC rfl (vsC rfl (vsC rfl (vsC rfl (vsC rfl vsN))))) (pc_decode W H R B K Q D F v l g g0 g1 g2 h h0 h1 h2 T_b T_g0 T_g1 T_g2 T_h0 T_h1 T_h2 _ (hA.all K804) (hO.all K804) (hs.all K804) (hw.all K804) (by omega) B790 B791 B792 B793 B794 B795 B796 ) (fun e_ w_ h_ => by obtain ⟨v817_, T822_, v818_, T823_, v819_, T824_, he_, hr_⟩ := h_; exact ⟨_, he_, v817_, T822_, v818_, T823_, v819_, T824_, rfl, hr_⟩)) ?_))))))))
   rintro _ w820 ⟨v817, T822, v818, T823, v819, T824, rfl, k821, ⟨B825, g828⟩, ⟨B826, g829⟩, ⟨B827, g830⟩, ap831, ap832, ap833⟩
   have B834 := B790.all k821 Apart.none
   have B835 := B791.all k821 Apart.none
   have B836 := B792.all k821 Apart.none
   have B837 := B793.all k821 Apart.none
   have B838 := B794.all k821 Apart.none
   have B839 := B795.all k821 Apart.none
   have B840 := B796.all k821 Apart.none
   have B841 := B797.all k821 id
   have B842 := B798.all k821 id
   have B843 := B799.all k821 id
   have B844 := B800.all k821 id
   have B845 := B801.all k821 Apart.none
   have B846 := B802.all k821 Apart.none
   have B847 := B803.all k821 Apart.none
   have B848 := B788.all k821 id
   have K849 := K804.tr k821
   have ap859 : Apart T822 (onB p22) := Apart.new g828 (onB_live B798.lt)
   have ap875 : Apart T823 (onB p22) := Apart.new g829 (onB_live B798.lt)
   have ap891 : Apart T824 (onB p22) := Apart.new g830 (onB_live B798.lt)
   refine wl_v (.tuple #[.agg #[iv ((decF l W H R B K Q D F g h).W), iv ((decF l W H R B K Q D F g h).H), v817, v818, v819], iv (decE l W H R B K Q D F g h)]) rfl rfl (y_mov rfl rfl rr) (wl_v (.agg #[iv ((decF l W H R B K Q D F g h).W), iv ((decF l W H R B K Q D F g h).H), v817, v818, v819]) rfl rfl (y_ext rfl rfl rfl rr) (wl_v (iv (decE l W H R B K Q D F g h)) rfl rfl (y_ext rfl rfl rfl rr) (wl_alloc_stc (n := 5) (vs := [iv 0, iv 0, .slice none 0 0, .slice none 0 0, .slice none 0 0]) rfl rfl rfl (by kernel_rfl) fun p898 w899 B901 g902 k900 => ?_)))
   have gr903 : Grew w0 noB (onB p898) := Grew.new K849 g902
   have ap904 : Apart (onB p898) T_b := Apart.new g902 B834.live
   have ap905 : Apart (onB p898) T_g0 := Apart.new g902 B835.live
   have ap906 : Apart (onB p898) T_g1 := Apart.new g902 B836.live
   have ap907 : Apart (onB p898) T_g2 := Apart.new g902 B837.live
   have ap908 : Apart (onB p898) T_h0 := Apart.new g902 B838.live
   have ap909 : Apart (onB p898) T_h1 := Apart.new g902 B839.live
   have ap910 : Apart (onB p898) T_h2 := Apart.new g902 B840.live
   have ap911 : Apart (onB p898) (onB p1) := Apart.new g902 (onB_live B841.lt)
   have ap912 : Apart (onB p898) (onB p22) := Apart.new g902 (onB_live B842.lt)
   have ap913 : Apart (onB p898) (onB p45) := Apart.new g902 (onB_live B843.lt)
   have ap914 : Apart (onB p898) (onB p70) := Apart.new g902 (onB_live B844.lt)
   have ap915 : Apart (onB p898) T692 := Apart.new g902 B845.live
   have ap916 : Apart (onB p898) T693 := Apart.new g902 B846.live
   have ap917 : Apart (onB p898) T694 := Apart.new g902 B847.live
   have ap918 : Apart (onB p898) (onB p752) := Apart.new g902 (onB_live B848.lt)
   have ap919 : Apart (onB p898) T822 := Apart.new g902 B825.live
   have ap920 : Apart (onB p898) T823 := Apart.new g902 B826.live
   have ap921 : Apart (onB p898) T824 := Apart.new g902 B827.live
   have B922 := B834.all k900 Apart.none
   have B923 := B835.all k900 Apart.none
   have B924 := B836.all k900 Apart.none
   have B925 := B837.all k900 Apart.none
   have B926 := B838.all k900 Apart.none
   have B927 := B839.all k900 Apart.none
   have B928 := B840.all k900 Apart.none
   have B929 := B841.all k900 id
   have B930 := B842.all k900 id
   have B931 := B843.all k900 id
   have B932 := B844.all k900 id
   have B933 := B845.all k900 Apart.none
   have B934 := B846.all k900 Apart.none
   have B935 := B847.all k900 Apart.none
   have B936 := B848.all k900 id
   have B937 := B825.all k900 Apart.none
   have B938 := B826.all k900 Apart.none
   have B939 := B827.all k900 Apart.none
   have K940 := K849.tr k900
   refine wl_store_stc (us := [iv ((decF l W H R B K Q D F g h).W), iv ((decF l W H R B K Q D F g h).H), v817, v818, v819]) stcT_frame rfl rfl rfl rfl rfl B901 rfl (oneI rfl (oneI rfl (oneI B937.one (oneI B938.one (oneI B939.one oneN))))) fun w941 B942 k943 => ?_
   have B944 := B922.all k943 ap904.symm
   have B945 := B923.all k943 ap905.symm
   have B946 := B924.all k943 ap906.symm
   have B947 := B925.all k943 ap907.symm
   have B948 := B926.all k943 ap908.symm
   have B949 := B927.all k943 ap909.symm
   have B950 := B928.all k943 ap910.symm
   have B951 := B929.all k943 (ap911.symm p1 rfl)
   have B952 := B930.all k943 (ap912.symm p22 rfl)
   have B953 := B931.all k943 (ap913.symm p45 rfl)
   have B954 := B932.all k943 (ap914.symm p70 rfl)
   have B955 := B933.all k943 ap915.symm
   have B956 := B934.all k943 ap916.symm
   have B957 := B935.all k943 ap917.symm
   have B958 := B936.all k943 (ap918.symm p752 rfl)
   have B959 := B937.all k943 ap919.symm
   have B960 := B938.all k943 ap920.symm
   have B961 := B939.all k943 ap921.symm
   have K962 := K940.trans k943 (Grew.ok (S := fun _ => False) gr903 noB_le)
   refine wl_v (iv (decE l W H R B K Q D F g h)) rfl rfl (y_asg rfl rfl rr) (wl_nil fun F963 hF964 => ?_)
   obtain ⟨s965, s966, s967, s968, s969, s970, s971, s972, s973, s974⟩ := t10 hF964 2 s807 5 s808 6 s809 7 s810 8 s811 10 s812 11 s813 15 s814 121 s815 16 s816
   have s975 : F963 17 = pt p898 0 := (hF964 17).trans rfl
   have s976 : F963 18 = iv (decE l W H R B K Q D F g h) := (hF964 18).trans rfl
   clear hF964
   refine then_normal (wq_seq (wq_seq (wq_region (wl_mv rfl rfl rfl s976 (wl_v (.bool (decide ((decE l W H R B K Q D F g h) ≠ 0))) rfl rfl (y_neqI rfl rfl rfl rfl rr) (wl_nil fun F977 hF978 => ?_))))))
   obtain ⟨s979, s980, s981, s982, s983, s984, s985, s986, s987, s988, s989⟩ := t11 hF978 2 s965 5 s966 6 s967 7 s968 8 s969 10 s970 11 s971 15 s972 121 s973 16 s974 17 s975
   have s990 : F977 70 = .bool (decide ((decE l W H R B K Q D F g h) ≠ 0)) := (hF978 70).trans rfl
   clear hF978
   refine then_normal ?_
   refine wq_cond s990 (fun c991 => ?_) (fun c991 => ?_)
   ·replace c991 := of_decide_eq_true c991
    refine wq_seq ?_
    have hno := decF_none (l := l) (W := W) (H := H) (R := R) (B := B) (K := K) (Q := Q) (D := D) (F := F) (g := g) (h := h) (by assumption)
    refine wq_region (wl_mv rfl rfl rfl s986 (wl_v (.bool true) rfl rfl (y_mov rfl rfl rr) (wl_vw (pt p898 2) 1 true 72 rfl rfl rfl rfl rfl (y_fieldR (n := 3) rfl s989 Tryz.underlying29 rfl (by kernel_rfl) (by decide) rfl rr) (wl_vw (pt p898 2) 1 true 72 rfl rfl rfl rfl rfl (y_atR 0 (s := 1) rfl rfl rfl (by omega) Tryz.underlying27 (by omega) (by kernel_rfl) (by omega) rr) (wl_vw v817 1 true 72 rfl rfl rfl rfl rfl (y_ld_stc rfl rfl Tryz.underlying26 B942 rfl rfl rr) (wl_vw (iv ((((decF l W H R B K Q D F g h).p0).length : Nat) : Int)) 1 true 72 rfl rfl rfl rfl rfl (y_lenV rfl rfl rfl B959.byt rr) (wl_vw (.bool true) 1 true 72 rfl rfl rfl rfl rfl (y_eqlI rfl rfl rfl (decide_eq_true (by omega)) rr) (wl_v (.bool true) rfl rfl (y_pickT rfl rfl rfl rr) (wl_v (.bool true) rfl rfl (y_asg rfl rfl rr) (wl_nil fun F992 hF993 => ?_))))))))))
    have s994 := (hF993 121).trans s987
    have s995 : F992 14 = .bool true := (hF993 14).trans rfl
    clear hF993
    refine then_normal (wq_ret (then_ret ?_))
    exact end_tmp (v := .bool true) s994 rfl rfl s995 ⟨rfl, K962⟩
   ·replace c991 := of_decide_eq_false c991
    refine wq_skip (then_normal (wq_seq ?_))
    have hz : decE l W H R B K Q D F g h = 0 := by first | assumption | (apply Decidable.byContradiction; assumption)
    have hsm := keeps_same (m := m) (n := n) hz hm hn
    refine wq_region (wl_mv rfl rfl rfl s980 (wl_v (iv ((m : Nat) : Int)) rfl rfl (y_convR rfl rfl Tryz.underlying42 Tryz.underlying3 (i64_n rfl (by omega)) rr) (wl_v (pt p22 2) rfl rfl (y_fieldR (n := 1) rfl s983 Tryz.underlying25 rfl (by kernel_rfl) (by decide) rfl rr) (wl_set_stc rfl rfl rfl rfl rfl B952 rfl rfl (by kernel_rfl) fun w996 B997 k998 => ?_))))
    replace B997 : Stc w996 p22 25 [iv K, iv Q, iv ((m : Nat) : Int), iv F] := B997
    have B999 := B944.all k998 ap28.symm
    have B1000 := B945.all k998 ap29.symm
    have B1001 := B946.all k998 ap30.symm
    have B1002 := B947.all k998 ap31.symm
    have B1003 := B948.all k998 ap32.symm
    have B1004 := B949.all k998 ap33.symm
    have B1005 := B950.all k998 ap34.symm
    have B1006 := B951.all k998 (ap35.symm p1 rfl)
    have B1007 := B953.all k998 (ap59 p45 rfl)
    have B1008 := B954.all k998 (ap84 p70 rfl)
    have B1009 := B955.all k998 ap725
    have B1010 := B956.all k998 ap737
    have B1011 := B957.all k998 ap749
    have B1012 := B958.all k998 (ap766 p752 rfl)
    have B1013 := B959.all k998 ap859
    have B1014 := B960.all k998 ap875
    have B1015 := B961.all k998 ap891
    have B1016 := B942.all k998 (ap912 p898 rfl)
    have K1017 := K962.trans k998 (Grew.ok (S := fun _ => False) gr27 noB_le)
    refine wl_nil fun F1018 hF1019 => ?_
    obtain ⟨s1020, s1021, s1022, s1023, s1024, s1025, s1026, s1027, s1028, s1029⟩ := t10 hF1019 2 s979 6 s981 7 s982 8 s983 10 s984 11 s985 15 s986 121 s987 16 s988 17 s989
    clear hF1019
    refine then_normal (wq_seq (wq_region (wl_mv rfl rfl rfl s1021 (wl_v (iv ((n : Nat) : Int)) rfl rfl (y_convR rfl rfl Tryz.underlying42 Tryz.underlying3 (i64_n rfl (by omega)) rr) (wl_v (pt p22 3) rfl rfl (y_fieldR (n := 1) rfl s1023 Tryz.underlying25 rfl (by kernel_rfl) (by decide) rfl rr) (wl_set_stc rfl rfl rfl rfl rfl B997 rfl rfl (by kernel_rfl) fun w1030 B1031 k1032 => ?_))))))
    replace B1031 : Stc w1030 p22 25 [iv K, iv Q, iv ((m : Nat) : Int), iv ((n : Nat) : Int)] := B1031
    have B1033 := B999.all k1032 ap28.symm
    have B1034 := B1000.all k1032 ap29.symm
    have B1035 := B1001.all k1032 ap30.symm
    have B1036 := B1002.all k1032 ap31.symm
    have B1037 := B1003.all k1032 ap32.symm
    have B1038 := B1004.all k1032 ap33.symm
    have B1039 := B1005.all k1032 ap34.symm
    have B1040 := B1006.all k1032 (ap35.symm p1 rfl)
    have B1041 := B1007.all k1032 (ap59 p45 rfl)
    have B1042 := B1008.all k1032 (ap84 p70 rfl)
    have B1043 := B1009.all k1032 ap725
    have B1044 := B1010.all k1032 ap737
    have B1045 := B1011.all k1032 ap749
    have B1046 := B1012.all k1032 (ap766 p752 rfl)
    have B1047 := B1013.all k1032 ap859
    have B1048 := B1014.all k1032 ap875
    have B1049 := B1015.all k1032 ap891
    have B1050 := B1016.all k1032 (ap912 p898 rfl)
    have K1051 := K1017.trans k1032 (Grew.ok (S := fun _ => False) gr27 noB_le)
    refine wl_nil fun F1052 hF1053 => ?_
    obtain ⟨s1054, s1055, s1056, s1057, s1058, s1059, s1060, s1061, s1062⟩ := t9 hF1053 2 s1020 7 s1022 8 s1023 10 s1024 11 s1025 15 s1026 121 s1027 16 s1028 17 s1029
    clear hF1053
    refine then_normal (wq_seq (wq_region (wl_v (.agg #[iv W, iv H, iv R, iv B]) rfl rfl (y_load_stc stcT_seq rfl s1055 B1040 rr) (wl_v (.agg #[iv K, iv Q, iv ((m : Nat) : Int), iv ((n : Nat) : Int)]) rfl rfl (y_load_stc stcT_head rfl s1056 B1031 rr) (wl_mv rfl rfl rfl s1054 (wl_v (.agg #[iv (g.W), iv (g.H), g0, g1, g2]) rfl rfl (y_load_stc stcT_frame rfl s1057 B1041 rr) (wl_v (.agg #[iv (h.W), iv (h.H), h0, h1, h2]) rfl rfl (y_load_stc stcT_frame rfl s1058 B1042 rr) (wl_call (R := fun v_ w_ => ∃ (v1063 : Value) (T1068 : Nat → Prop) (v1064 : Value) (T1069 : Nat → Prop) (v1065 : Value) (T1070 : Nat → Prop), .tuple #[.agg #[iv ((decF l W H R B K Q ((m : Nat) : Int) ((n : Nat) : Int) g h).W), iv ((decF l W H R B K Q ((m : Nat) : Int) ((n : Nat) : Int) g h).H), v1063, v1064, v1065], iv (decE l W H R B K Q ((m : Nat) : Int) ((n : Nat) : Int) g h)] = v_ ∧ Kept (fun _ => False) w1030 w_ ∧ (Owb w_ T1068 v1063 ((decF l W H R B K Q ((m : Nat) : Int) ((n : Nat) : Int) g h).p0) ∧ Grew w1030 noB T1068) ∧ (Owb w_ T1069 v1064 ((decF l W H R B K Q ((m : Nat) : Int) ((n : Nat) : Int) g h).p1) ∧ Grew w1030 noB T1069) ∧ (Owb w_ T1070 v1065 ((decF l W H R B K Q ((m : Nat) : Int) ((n : Nat) : Int) g h).p2) ∧ Grew w1030 noB T1070) ∧ Apart T1068 T1069 ∧ Apart T1068 T1070 ∧ Apart T1069 T1070) rfl rfl (y_cs rfl rfl rfl (fun _ _ => by kernel_rfl) (ev_func _) (vsC rfl (vsC rfl (vsC rfl (vsC rfl (vsC rfl vsN))))) (pc_decode W H R B K Q ((m : Nat) : Int) ((n : Nat) : Int) v l g g0 g1 g2 h h0 h1 h2 T_b T_g0 T_g1 T_g2 T_h0 T_h1 T_h2 _ (hA.all K1051) (hO.all K1051) (hs.all K1051) (hw.all K1051) (by omega) B1033 B1034 B1035 B1036 B1037 B1038 B1039 ) (fun e_ w_ h_ => by obtain ⟨v1063_, T1068_, v1064_, T1069_, v1065_, T1070_, he_, hr_⟩ := h_; exact ⟨_, he_, v1063_, T1068_, v1064_, T1069_, v1065_, T1070_, rfl, hr_⟩)) ?_))))))))
    rintro _ w1066 ⟨v1063, T1068, v1064, T1069, v1065, T1070, rfl, k1067, ⟨B1071, g1074⟩, ⟨B1072, g1075⟩, ⟨B1073, g1076⟩, ap1077, ap1078, ap1079⟩
    have B1081 := B1034.all k1067 Apart.none
    have B1082 := B1035.all k1067 Apart.none
    have B1083 := B1036.all k1067 Apart.none
    have B1087 := B1040.all k1067 id
    have B1089 := B1041.all k1067 id
    have B1091 := B1043.all k1067 Apart.none
    have B1092 := B1044.all k1067 Apart.none
    have B1093 := B1045.all k1067 Apart.none
    have B1094 := B1046.all k1067 id
    have B1095 := B1047.all k1067 Apart.none
    have B1096 := B1048.all k1067 Apart.none
    have B1097 := B1049.all k1067 Apart.none
    have B1098 := B1050.all k1067 id
    have K1099 := K1051.tr k1067
    refine wl_v (.tuple #[.agg #[iv ((decF l W H R B K Q ((m : Nat) : Int) ((n : Nat) : Int) g h).W), iv ((decF l W H R B K Q ((m : Nat) : Int) ((n : Nat) : Int) g h).H), v1063, v1064, v1065], iv (decE l W H R B K Q ((m : Nat) : Int) ((n : Nat) : Int) g h)]) rfl rfl (y_mov rfl rfl rr) (wl_v (.agg #[iv ((decF l W H R B K Q ((m : Nat) : Int) ((n : Nat) : Int) g h).W), iv ((decF l W H R B K Q ((m : Nat) : Int) ((n : Nat) : Int) g h).H), v1063, v1064, v1065]) rfl rfl (y_ext rfl rfl rfl rr) (wl_v (iv (decE l W H R B K Q ((m : Nat) : Int) ((n : Nat) : Int) g h)) rfl rfl (y_ext rfl rfl rfl rr) (wl_alloc_stc (n := 5) (vs := [iv 0, iv 0, .slice none 0 0, .slice none 0 0, .slice none 0 0]) rfl rfl rfl (by kernel_rfl) fun p1160 w1161 B1163 g1164 k1162 => ?_)))
    have gr1165 : Grew w0 noB (onB p1160) := Grew.new K1099 g1164
    have ap1167 : Apart (onB p1160) T_g0 := Apart.new g1164 B1081.live
    have ap1168 : Apart (onB p1160) T_g1 := Apart.new g1164 B1082.live
    have ap1169 : Apart (onB p1160) T_g2 := Apart.new g1164 B1083.live
    have ap1173 : Apart (onB p1160) (onB p1) := Apart.new g1164 (onB_live B1087.lt)
    have ap1175 : Apart (onB p1160) (onB p45) := Apart.new g1164 (onB_live B1089.lt)
    have ap1177 : Apart (onB p1160) T692 := Apart.new g1164 B1091.live
    have ap1178 : Apart (onB p1160) T693 := Apart.new g1164 B1092.live
    have ap1179 : Apart (onB p1160) T694 := Apart.new g1164 B1093.live
    have ap1180 : Apart (onB p1160) (onB p752) := Apart.new g1164 (onB_live B1094.lt)
    have ap1181 : Apart (onB p1160) T822 := Apart.new g1164 B1095.live
    have ap1182 : Apart (onB p1160) T823 := Apart.new g1164 B1096.live
    have ap1183 : Apart (onB p1160) T824 := Apart.new g1164 B1097.live
    have ap1184 : Apart (onB p1160) (onB p898) := Apart.new g1164 (onB_live B1098.lt)
    have ap1185 : Apart (onB p1160) T1068 := Apart.new g1164 B1071.live
    have ap1186 : Apart (onB p1160) T1069 := Apart.new g1164 B1072.live
    have ap1187 : Apart (onB p1160) T1070 := Apart.new g1164 B1073.live
    have B1189 := B1081.all k1162 Apart.none
    have B1190 := B1082.all k1162 Apart.none
    have B1191 := B1083.all k1162 Apart.none
    have B1195 := B1087.all k1162 id
    have B1197 := B1089.all k1162 id
    have B1199 := B1091.all k1162 Apart.none
    have B1200 := B1092.all k1162 Apart.none
    have B1201 := B1093.all k1162 Apart.none
    have B1202 := B1094.all k1162 id
    have B1203 := B1095.all k1162 Apart.none
    have B1204 := B1096.all k1162 Apart.none
    have B1205 := B1097.all k1162 Apart.none
    have B1206 := B1098.all k1162 id
    have B1207 := B1071.all k1162 Apart.none
    have B1208 := B1072.all k1162 Apart.none
    have B1209 := B1073.all k1162 Apart.none
    have K1210 := K1099.tr k1162
    refine wl_store_stc (us := [iv ((decF l W H R B K Q ((m : Nat) : Int) ((n : Nat) : Int) g h).W), iv ((decF l W H R B K Q ((m : Nat) : Int) ((n : Nat) : Int) g h).H), v1063, v1064, v1065]) stcT_frame rfl rfl rfl rfl rfl B1163 rfl (oneI rfl (oneI rfl (oneI B1207.one (oneI B1208.one (oneI B1209.one oneN))))) fun w1211 B1212 k1213 => ?_
    have B1215 := B1189.all k1213 ap1167.symm
    have B1216 := B1190.all k1213 ap1168.symm
    have B1217 := B1191.all k1213 ap1169.symm
    have B1221 := B1195.all k1213 (ap1173.symm p1 rfl)
    have B1223 := B1197.all k1213 (ap1175.symm p45 rfl)
    have B1225 := B1199.all k1213 ap1177.symm
    have B1226 := B1200.all k1213 ap1178.symm
    have B1227 := B1201.all k1213 ap1179.symm
    have B1228 := B1202.all k1213 (ap1180.symm p752 rfl)
    have B1229 := B1203.all k1213 ap1181.symm
    have B1230 := B1204.all k1213 ap1182.symm
    have B1231 := B1205.all k1213 ap1183.symm
    have B1232 := B1206.all k1213 (ap1184.symm p898 rfl)
    have B1233 := B1207.all k1213 ap1185.symm
    have B1234 := B1208.all k1213 ap1186.symm
    have B1235 := B1209.all k1213 ap1187.symm
    have K1236 := K1210.trans k1213 (Grew.ok (S := fun _ => False) gr1165 noB_le)
    refine wl_v (iv (decE l W H R B K Q ((m : Nat) : Int) ((n : Nat) : Int) g h)) rfl rfl (y_asg rfl rfl rr) (wl_nil fun F1237 hF1238 => ?_)
    obtain ⟨s1239, s1240, s1241, s1242, s1243, s1244⟩ := t6 hF1238 7 s1055 10 s1057 15 s1059 121 s1060 16 s1061 17 s1062
    have s1245 : F1237 19 = pt p1160 0 := (hF1238 19).trans rfl
    have s1246 : F1237 20 = iv (decE l W H R B K Q ((m : Nat) : Int) ((n : Nat) : Int) g h) := (hF1238 20).trans rfl
    clear hF1238
    refine then_normal (wq_seq ?_)
    by_cases d1247 : (checkE g) ≠ 0
    ·skip
     refine wq_region (wl_v (.agg #[iv ((decF l W H R B K Q D F g h).W), iv ((decF l W H R B K Q D F g h).H), v817, v818, v819]) rfl rfl (y_load_stc stcT_frame rfl s1244 B1232 rr) (wl_v (.agg #[iv ((decF l W H R B K Q ((m : Nat) : Int) ((n : Nat) : Int) g h).W), iv ((decF l W H R B K Q ((m : Nat) : Int) ((n : Nat) : Int) g h).H), v1063, v1064, v1065]) rfl rfl (y_load_stc stcT_frame rfl s1245 B1212 rr) (wl_call (R := fun v_ w_ => v_ = .bool true ∧ Kept (fun _ => False) w1211 w_) rfl rfl (y_cs rfl rfl rfl (fun _ _ => by kernel_rfl) (ev_func _) (vsC rfl (vsC rfl vsN)) (fref_same (decF l W H R B K Q D F g h) v817 v818 v819 (decF l W H R B K Q ((m : Nat) : Int) ((n : Nat) : Int) g h) v1063 v1064 v1065 T822 T823 T824 T1068 T1069 T1070 _  B1229.byt B1230.byt B1231.byt B1233.byt B1234.byt B1235.byt ) (fun e_ w_ h_ => ⟨_, h_.1, congrArg Value.bool hsm.2, h_.2⟩)) ?_)))
     rintro _ w1248 ⟨rfl, k1249⟩
     have B1251 := B1215.all k1249 Apart.none
     have B1252 := B1216.all k1249 Apart.none
     have B1253 := B1217.all k1249 Apart.none
     have B1257 := B1221.all k1249 id
     have B1259 := B1223.all k1249 id
     have B1265 := B1229.all k1249 Apart.none
     have B1266 := B1230.all k1249 Apart.none
     have B1267 := B1231.all k1249 Apart.none
     have B1268 := B1232.all k1249 id
     have K1273 := K1236.tr k1249
     refine wl_v (.bool true) rfl rfl (y_mov rfl rfl rr) (wl_vw (.agg #[iv (g.W), iv (g.H), g0, g1, g2]) 3 true 97 rfl rfl rfl rfl rfl (y_load_stc stcT_frame rfl s1240 B1259 rr) (wl_callw (R := fun v_ w_ => v_ = iv (checkE g) ∧ Kept (fun _ => False) w1248 w_) 3 true 97 rfl rfl rfl rfl rfl (y_cs rfl rfl rfl (fun _ _ => by kernel_rfl) (ev_func _) (vsC rfl vsN) (pl_check g g0 g1 g2 T_g0 T_g1 T_g2 _  B1251 B1252 B1253 ) (fun e_ w_ h_ => ⟨_, h_.1, rfl, h_.2⟩)) ?_))
     rintro _ w1274 ⟨rfl, k1275⟩
     have B1283 := B1257.all k1275 id
     have B1291 := B1265.all k1275 Apart.none
     have B1292 := B1266.all k1275 Apart.none
     have B1293 := B1267.all k1275 Apart.none
     have B1294 := B1268.all k1275 id
     have K1299 := K1273.tr k1275
     refine wl_vw (.bool true) 3 true 97 rfl rfl rfl rfl rfl (y_neqI rfl rfl rfl (decide_eq_true d1247) rr) (wl_vw (.bool true) 3 true 97 rfl rfl rfl rfl rfl (y_mov rfl rfl rr) (wl_unless 7 false 101 rfl rfl rfl (Or.inl rfl) rfl (wl_unless 7 false 101 rfl rfl rfl (Or.inl rfl) rfl (wl_unless 7 false 101 rfl rfl rfl (Or.inl rfl) rfl (wl_vw (.bool true) 3 true 97 rfl rfl rfl rfl rfl (y_pickT rfl rfl rfl rr) (wl_v (.bool true) rfl rfl (y_pickT rfl rfl rfl rr) (wl_v (.bool true) rfl rfl (y_asg rfl rfl rr) (wl_nil fun F1300 hF1301 => ?_))))))))
     obtain ⟨s1302, s1303, s1304, s1305, s1306⟩ := t5 hF1301 7 s1239 15 s1241 121 s1242 17 s1244 20 s1246
     have s1307 : F1300 21 = .bool true := (hF1301 21).trans rfl
     clear hF1301
     refine then_normal (wq_seq (wq_region (wl_v (.agg #[iv W, iv H, iv R, iv B]) rfl rfl (y_load_stc stcT_seq rfl s1302 B1283 rr) (wl_v (.agg #[iv ((decF l W H R B K Q D F g h).W), iv ((decF l W H R B K Q D F g h).H), v817, v818, v819]) rfl rfl (y_load_stc stcT_frame rfl s1305 B1294 rr) (wl_call (R := fun v_ w_ => v_ = .bool true ∧ Kept (fun _ => False) w1274 w_) rfl rfl (y_cs rfl rfl rfl (fun _ _ => by kernel_rfl) (ev_func _) (vsC rfl (vsC rfl vsN)) (pc_fits W H R B (decF l W H R B K Q D F g h) v817 v818 v819 T822 T823 T824 _  B1291.byt B1292.byt B1293.byt ) (fun e_ w_ h_ => ⟨_, h_.1, congrArg Value.bool (decide_eq_true (dec_fits hz)), h_.2⟩)) ?_)))))
     rintro _ w1308 ⟨rfl, k1309⟩
     have K1333 := K1299.tr k1309
     refine wl_v (.bool true) rfl rfl (y_asg rfl rfl rr) (wl_nil fun F1334 hF1335 => ?_)
     obtain ⟨s1336, s1337, s1338, s1339⟩ := t4 hF1335 15 s1303 121 s1304 20 s1306 21 s1307
     have s1340 : F1334 22 = .bool true := (hF1335 22).trans rfl
     clear hF1335
     refine then_normal (wq_seq (wq_region (wl_mv rfl rfl rfl s1336 (wl_v (.bool true) rfl rfl (y_mov rfl rfl rr) (wl_vw (iv (decE l W H R B K Q ((m : Nat) : Int) ((n : Nat) : Int) g h)) 1 true 111 rfl rfl rfl rfl rfl (y_mov rfl s1338 rr) (wl_vw (.bool true) 1 true 111 rfl rfl rfl rfl rfl (y_eqlI rfl rfl rfl (decide_eq_true hsm.1) rr) (wl_v (.bool true) rfl rfl (y_pickT rfl rfl rfl rr) (wl_v (.bool true) rfl rfl (y_mov rfl rfl rr) (wl_vw (.bool true) 5 true 115 rfl rfl rfl rfl rfl (y_mov rfl s1339 rr) (wl_v (.bool true) rfl rfl (y_pickT rfl rfl rfl rr) (wl_v (.bool true) rfl rfl (y_mov rfl rfl rr) ?_)))))))))))
     refine wl_vw (.bool true) 8 true 118 rfl rfl rfl rfl rfl (y_mov rfl s1340 rr) (wl_v (.bool true) rfl rfl (y_pickT rfl rfl rfl rr) (wl_v (.bool true) rfl rfl (y_asg rfl rfl rr) (wl_nil fun F1341 hF1342 => ?_)))
     have s1343 := (hF1342 121).trans s1337
     have s1344 : F1341 14 = .bool true := (hF1342 14).trans rfl
     clear hF1342
     refine then_normal (wq_ret ?_)
     exact end_tmp (v := .bool true) s1343 rfl rfl s1344 ⟨rfl, K1333⟩
    ·skip
     refine wq_region (wl_v (.agg #[iv ((decF l W H R B K Q D F g h).W), iv ((decF l W H R B K Q D F g h).H), v817, v818, v819]) rfl rfl (y_load_stc stcT_frame rfl s1244 B1232 rr) (wl_v (.agg #[iv ((decF l W H R B K Q ((m : Nat) : Int) ((n : Nat) : Int) g h).W), iv ((decF l W H R B K Q ((m : Nat) : Int) ((n : Nat) : Int) g h).H), v1063, v1064, v1065]) rfl rfl (y_load_stc stcT_frame rfl s1245 B1212 rr) (wl_call (R := fun v_ w_ => v_ = .bool true ∧ Kept (fun _ => False) w1211 w_) rfl rfl (y_cs rfl rfl rfl (fun _ _ => by kernel_rfl) (ev_func _) (vsC rfl (vsC rfl vsN)) (fref_same (decF l W H R B K Q D F g h) v817 v818 v819 (decF l W H R B K Q ((m : Nat) : Int) ((n : Nat) : Int) g h) v1063 v1064 v1065 T822 T823 T824 T1068 T1069 T1070 _  B1229.byt B1230.byt B1231.byt B1233.byt B1234.byt B1235.byt ) (fun e_ w_ h_ => ⟨_, h_.1, congrArg Value.bool hsm.2, h_.2⟩)) ?_)))
     rintro _ w1345 ⟨rfl, k1346⟩
     have B1348 := B1215.all k1346 Apart.none
     have B1349 := B1216.all k1346 Apart.none
     have B1350 := B1217.all k1346 Apart.none
     have B1354 := B1221.all k1346 id
     have B1356 := B1223.all k1346 id
     have B1358 := B1225.all k1346 Apart.none
     have B1359 := B1226.all k1346 Apart.none
     have B1360 := B1227.all k1346 Apart.none
     have B1361 := B1228.all k1346 id
     have B1362 := B1229.all k1346 Apart.none
     have B1363 := B1230.all k1346 Apart.none
     have B1364 := B1231.all k1346 Apart.none
     have B1365 := B1232.all k1346 id
     have K1370 := K1236.tr k1346
     refine wl_v (.bool true) rfl rfl (y_mov rfl rfl rr) (wl_vw (.agg #[iv (g.W), iv (g.H), g0, g1, g2]) 3 true 97 rfl rfl rfl rfl rfl (y_load_stc stcT_frame rfl s1240 B1356 rr) (wl_callw (R := fun v_ w_ => v_ = iv (checkE g) ∧ Kept (fun _ => False) w1345 w_) 3 true 97 rfl rfl rfl rfl rfl (y_cs rfl rfl rfl (fun _ _ => by kernel_rfl) (ev_func _) (vsC rfl vsN) (pl_check g g0 g1 g2 T_g0 T_g1 T_g2 _  B1348 B1349 B1350 ) (fun e_ w_ h_ => ⟨_, h_.1, rfl, h_.2⟩)) ?_))
     rintro _ w1371 ⟨rfl, k1372⟩
     have B1374 := B1348.all k1372 Apart.none
     have B1375 := B1349.all k1372 Apart.none
     have B1376 := B1350.all k1372 Apart.none
     have B1380 := B1354.all k1372 id
     have B1382 := B1356.all k1372 id
     have B1384 := B1358.all k1372 Apart.none
     have B1385 := B1359.all k1372 Apart.none
     have B1386 := B1360.all k1372 Apart.none
     have B1387 := B1361.all k1372 id
     have B1388 := B1362.all k1372 Apart.none
     have B1389 := B1363.all k1372 Apart.none
     have B1390 := B1364.all k1372 Apart.none
     have B1391 := B1365.all k1372 id
     have K1396 := K1370.tr k1372
     refine wl_vw (.bool false) 3 true 97 rfl rfl rfl rfl rfl (y_neqI rfl rfl rfl (decide_eq_false d1247) rr) (wl_vw (.bool false) 3 true 97 rfl rfl rfl rfl rfl (y_mov rfl rfl rr) (wl_vw (.agg #[iv ((copyF g).W), iv ((copyF g).H), v687, v688, v689]) 7 false 101 rfl rfl rfl rfl rfl (y_load_stc stcT_frame rfl s1243 B1387 rr) (wl_vw (.agg #[iv (g.W), iv (g.H), g0, g1, g2]) 7 false 101 rfl rfl rfl rfl rfl (y_load_stc stcT_frame rfl s1240 B1382 rr) (wl_callw (R := fun v_ w_ => v_ = .bool true ∧ Kept (fun _ => False) w1371 w_) 7 false 101 rfl rfl rfl rfl rfl (y_cs rfl rfl rfl (fun _ _ => by kernel_rfl) (ev_func _) (vsC rfl (vsC rfl vsN)) (fref_same (copyF g) v687 v688 v689 g g0 g1 g2 T692 T693 T694 T_g0 T_g1 T_g2 _  B1384.byt B1385.byt B1386.byt B1374 B1375 B1376 ) (fun e_ w_ h_ => ⟨_, h_.1, congrArg Value.bool (copy_same (by first | assumption | (apply Decidable.byContradiction; assumption))), h_.2⟩)) ?_))))
     rintro _ w1397 ⟨rfl, k1398⟩
     have B1406 := B1380.all k1398 id
     have B1414 := B1388.all k1398 Apart.none
     have B1415 := B1389.all k1398 Apart.none
     have B1416 := B1390.all k1398 Apart.none
     have B1417 := B1391.all k1398 id
     have K1422 := K1396.tr k1398
     refine wl_vw (.bool true) 3 true 97 rfl rfl rfl rfl rfl (y_pickF rfl rfl rfl rr) (wl_v (.bool true) rfl rfl (y_pickT rfl rfl rfl rr) (wl_v (.bool true) rfl rfl (y_asg rfl rfl rr) (wl_nil fun F1423 hF1424 => ?_)))
     obtain ⟨s1425, s1426, s1427, s1428, s1429⟩ := t5 hF1424 7 s1239 15 s1241 121 s1242 17 s1244 20 s1246
     have s1430 : F1423 21 = .bool true := (hF1424 21).trans rfl
     clear hF1424
     refine then_normal (wq_seq (wq_region (wl_v (.agg #[iv W, iv H, iv R, iv B]) rfl rfl (y_load_stc stcT_seq rfl s1425 B1406 rr) (wl_v (.agg #[iv ((decF l W H R B K Q D F g h).W), iv ((decF l W H R B K Q D F g h).H), v817, v818, v819]) rfl rfl (y_load_stc stcT_frame rfl s1428 B1417 rr) (wl_call (R := fun v_ w_ => v_ = .bool true ∧ Kept (fun _ => False) w1397 w_) rfl rfl (y_cs rfl rfl rfl (fun _ _ => by kernel_rfl) (ev_func _) (vsC rfl (vsC rfl vsN)) (pc_fits W H R B (decF l W H R B K Q D F g h) v817 v818 v819 T822 T823 T824 _  B1414.byt B1415.byt B1416.byt ) (fun e_ w_ h_ => ⟨_, h_.1, congrArg Value.bool (decide_eq_true (dec_fits hz)), h_.2⟩)) ?_)))))
     rintro _ w1431 ⟨rfl, k1432⟩
     have K1456 := K1422.tr k1432
     refine wl_v (.bool true) rfl rfl (y_asg rfl rfl rr) (wl_nil fun F1457 hF1458 => ?_)
     obtain ⟨s1459, s1460, s1461, s1462⟩ := t4 hF1458 15 s1426 121 s1427 20 s1429 21 s1430
     have s1463 : F1457 22 = .bool true := (hF1458 22).trans rfl
     clear hF1458
     refine then_normal (wq_seq (wq_region (wl_mv rfl rfl rfl s1459 (wl_v (.bool true) rfl rfl (y_mov rfl rfl rr) (wl_vw (iv (decE l W H R B K Q ((m : Nat) : Int) ((n : Nat) : Int) g h)) 1 true 111 rfl rfl rfl rfl rfl (y_mov rfl s1461 rr) (wl_vw (.bool true) 1 true 111 rfl rfl rfl rfl rfl (y_eqlI rfl rfl rfl (decide_eq_true hsm.1) rr) (wl_v (.bool true) rfl rfl (y_pickT rfl rfl rfl rr) (wl_v (.bool true) rfl rfl (y_mov rfl rfl rr) (wl_vw (.bool true) 5 true 115 rfl rfl rfl rfl rfl (y_mov rfl s1462 rr) (wl_v (.bool true) rfl rfl (y_pickT rfl rfl rfl rr) (wl_v (.bool true) rfl rfl (y_mov rfl rfl rr) ?_)))))))))))
     refine wl_vw (.bool true) 8 true 118 rfl rfl rfl rfl rfl (y_mov rfl s1463 rr) (wl_v (.bool true) rfl rfl (y_pickT rfl rfl rfl rr) (wl_v (.bool true) rfl rfl (y_asg rfl rfl rr) (wl_nil fun F1464 hF1465 => ?_)))
     have s1466 := (hF1465 121).trans s1460
     have s1467 : F1464 14 = .bool true := (hF1465 14).trans rfl
     clear hF1465
     refine then_normal (wq_ret ?_)
     exact end_tmp (v := .bool true) s1466 rfl rfl s1467 ⟨rfl, K1456⟩
end Go.Proofs.YtknjpdcpmpfklaaGreatDoor
